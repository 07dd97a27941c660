import PyProof.Rows.All
import Wide.All
import OpenK.AllK
import Wide.FinOn
import Lean
import PyProof.EqAt
import PyProof.EqKinds
import PyProof.TupleCall
import KE.KDictList
import PySem.Challenge.RW_boughdraw_k76_deeds_refused
set_option Elab.async false
set_option linter.all false
set_option compiler.extract_closed false
set_option maxRecDepth 100000
open List (range replicate)
noncomputable section
open PySem.W (instObj methodObj lookIn plainGet hasDictIn findIn plainGet_of isFn plainOver takerIn makesIn emptyDict looks_findIn specialIn keepIn takesIn mroIn callWith_K cellsFrom_some fnOf codeIn nsIn kitOne kia_one excIn subIn mg_of mg_none_of)
abbrev At:=PySem.W.Frag
abbrev Ch:=Option PySem.Value
abbrev Da:=PySem.Shared
abbrev Db:=PySem.Value
abbrev Do:=PySem.Program
abbrev Ev:=PySem.World
abbrev Fk:=PySem.FuncData
abbrev Gc:=PySem.PyData
abbrev Go:=PySem.Around
abbrev Is:=PySem.Addr
abbrev Ix:=PySem.Stmt
abbrev M2:=PySem.Expr
abbrev N0:=PySem.Heap
def N1:=@if_pos
def N2:=@if_neg
def Zz:=@List.mem_cons_self
def Zy:=@List.length_map
def Zx:=@List.getElem?_map
def Zw:=@List.map_cons
def Zv:=@List.length_append
def Zu:=@List.length_range
def Zt:=@List.mem_append_right
def Zs:=@List.mem_cons_of_mem
def Zr:=@PySem.wpAny_bind
def Zq:=@decide_eq_false
def Zp:=@List.length_cons
def Zo:=@Bool.false_ne_true
def Zn:=@Int.toNat_natCast
def Zm:=@List.mem_append_left
def Zl:=@PySem.Heap.get?_push_of_some
def Zk:=@decide_eq_true_eq
def Zi:=@Nat.le_refl
def Zh:=@List.map_append
def Zg:=@PySem.Heap.lt_size
def Zf:=@PySem.W.mg_of
def Ze:=@List.length_take
def Zd:=@List.length_singleton
def Zc:=@List.append_nil
def Zb:=@List.getElem?_eq_none
def Za:=@decide_eq_true
def Z9:=@List.getElem?_append_right
def Z6:=@List.getElem?_range
def Z5:=@List.mem_append
def Z2:=@List.lookup_cons
def Z0:=@List.size_toArray
def Yz:=@List.getElem?_append_left
def Yy:=@Bool.and_eq_true
def Yx:=@List.nodup_append
def Yw:=@and_self
def Yv:=@Option.some.inj
def Yu:=@List.map_map
def Yt:=@Nat.lt_of_lt_of_le
def Ys:=@Nat.ne_of_lt
def Yr:=@PySem.Heap.get?_push_size
def Yq:=@List.append_assoc
def Yp:=@List.mem_of_getElem?
def Yo:=@List.ext_getElem?
def Yn:=@PySem.wpAny_pure
def Ym:=@List.getElem?_set_self
def Yl:=@congrArg
def Yk:=@List.mem_range
def Yj:=@PySem.PassesOwn.never
def Yi:=@List.getElem?_set_ne
def Yh:=@List.map_nil
def Yg:=@Nat.le_trans
def Yf:=@List.nil_append
def Ye:=@PySem.W.mg_none_of
def Yd:=@List.replicate_succ
def Yc:=@PyProof.Rows.callWith_type1
def Yb:=@List.getElem?_take_of_lt
def Ya:=@List.getElem?_eq_getElem
def Y9:=@List.mem_singleton
def Y8:=@of_eq_true
def Y7:=@List.length_range'
def Y6:=@List.cons_append
def Y5:=@Nat.le_succ
def Y4:=@List.take_of_length_le
def Y3:=@List.length_set
def Y2:=@List.length_drop
def Y1:=@Nat.zero_le
def Y0:=@List.nodup_nil
def Xz:=@List.mem_cons
def Xy:=@List.map_congr_left
def Xx:=@Array.length_toList
def Xw:=@List.take_append_of_le_length
def Xv:=@List.length_replicate
def Xu:=@Nat.min_eq_left
def Xt:=@List.find?_cons
def Xr:=@List.filter_append
def Xq:=@Nat.lt_irrefl
def Xp:=@PySem.wpAny_mono
def Xo:=@PySem.Heap.size_push
def Xn:=@List.nodup_cons
def Xm:=@Bool.eq_iff_iff
def Xl:=@List.length_filter_le
def Xk:=@PySem.wpAny_Call_Name_kw
def Xj:=@Ne.symm
def Xi:=@Nat.lt_succ_of_lt
def Xh:=@PySem.wpAny_field
def Xg:=@Nat.lt_succ_self
def Xf:=@Nat.sub_self
def Xe:=@PySem.wpAny_truthy_bool
def Xd:=@List.flatten_cons
def Xc:=@List.filter_congr
def Xb:=@PySem.F.slot_tuple_iterator_next
def Xa:=@List.getElem?_replicate
def X9:=@PySem.SeqAt.canLay_of_shaped
def X8:=@PySem.wpAny_passesOwn
def X7:=@PySem.wpAny_execs_nil
def X6:=@PySem.W.kia_one
def X5:=@List.length_nil
def X4:=@List.reverse_cons
def X3:=@List.getElem?_zipIdx
def X2:=@Int.zero_add
def X0:=@beq_self_eq_true
def Wz:=@List.not_mem_nil
def Wy:=@List.filter_cons
def Wx:=@List.drop_eq_getElem_cons
def Ww:=@PySem.mem_of_lookup
def Wv:=@Int.toNat_of_nonneg
def Wu:=@PySem.wpAny_comprehension_free
def Wt:=@PySem.wpAny_setField_rec
def Ws:=@PySem.W.callWith_K
def Wr:=@Nat.add_sub_cancel
def Wq:=@List.length_zipIdx
def Wp:=@PySem.F.plainAttrs_list
def Wo:=@Classical.axiomOfChoice
def Wn:=@PySem.codeAny_mono
def Wm:=@PySem.wpAny_seqItems
def Wl:=@PySem.wpAny_loadPart_at
def Wk:=@PySem.W.cellsFrom_some
def Wj:=@List.take_length
def Wi:=@List.nodup_range
def Wh:=@List.cons.inj
def Wg:=@PySem.W.looks_findIn
def Wf:=@List.range_succ
def We:=@List.mem_filter
def Wc:=@List.filterMap_cons
def Wb:=@Nat.zero_add
def Wa:=@List.all_map
def W9:=@PySem.call_meets
def W8:=@List.getElem_range
def W7:=@List.getElem?_drop
def W6:=@if_true
def W5:=@PySem.sizeLine_eq
def W4:=@Sum.inl.inj
def W3:=@PySem.wpAny_newObj_type
def W2:=@List.any_cons
def W1:=@List.all_cons
def W0:=@PySem.wpAny_pyIter_zip
def Vz:=@PySem.wpAny_call_entry
def Vy:=@List.all_eq_true
def Vx:=@Int.natCast_zero
def Vw:=@List.of_mem_zip
def Vv:=@List.idxOf_cons
def Vu:=@PySem.F.slot_zip_next
def Vt:=@PySem.Heap.get?_update_self
def Vs:=@Array.getElem?_toList
def Vr:=@PySem.boot_len
def Vq:=@List.take_zero
def Vp:=@List.range_eq_range'
def Vo:=@List.Pairwise.filter
def Vn:=@Array.toArray_toList
def Vm:=@PySem.W.plainGet_of
def Vl:=@List.take_succ_cons
def Vk:=@PySem.Heap.SameBut.update
def Vj:=@PySem.wpAny_standAt
def Vi:=@List.map_take
def Vh:=@Bool.and_self
def ZA:=@List.getElem?_eq_some_iff
def ZB:=@Option.map_eq_some_iff
def ZC:=@List.mem_map
namespace L2
open PySem PySem.Spec PyProof.Rows
abbrev Key:=Sum Int Str
def pQ:Key->Db->Bool
 |.inl k,v=>Value.isInt k v
 |.inr x,v=>Value.isStrOf x v
def Nc (w:Ev):Key->Int
 |.inl k=>hashInt k
 |.inr x=>hashStr w x
theorem cz:∀{k:Key} {v:Db},pQ k v=true->(∃i t,k=Sum.inl i/\v=Value.int i t)\/(∃x t,k=Sum.inr x/\v=Value.str x t)
 |.inl i,v,h=>by
  obtain ⟨t,e⟩:=Value.isInt_shape (k:=i) (v:=v) h;exact .inl ⟨i,t,rfl,e⟩
 |.inr x,v,h=>by
  obtain ⟨t,e⟩:=Value.isStrOf_shape (x:=x) (v:=v) h;exact .inr ⟨x,t,rfl,e⟩
theorem zl (i:Int) (t:Tok):pQ (.inl i) (.int i t)=true:=by simp [pQ,Value.isInt]
theorem zR (x:Str) (t:Tok):pQ (.inr x) (.str x t)=true:=by simp [pQ,Value.isStrOf]
theorem Jg (a b:Int):decide ((Sum.inl a:Key)=Sum.inl b)=(a == b):=by
 by_cases e:a=b
 ·subst e;simp
 ·have h:¬(Sum.inl a:Key)=Sum.inl b:=λq=>e (W4 q)
  rw [Zq h];exact (beq_eq_false_iff_ne.mpr e).symm
theorem JF (a b:Str):decide ((Sum.inr a:Key)=Sum.inr b)=decide (a=b):=by
 by_cases e:a=b
 ·subst e;simp
 ·have h:¬(Sum.inr a:Key)=Sum.inr b:=λq=>e (Sum.inr.inj q)
  rw [Zq h,Zq e]
theorem II (a:Int) (b:Str):decide ((Sum.inl a:Key)=Sum.inr b)=false:=Zq (λq=>nomatch q)
theorem Ji (a:Str) (b:Int):decide ((Sum.inr a:Key)=Sum.inl b)=false:=Zq (λq=>nomatch q)
def cB (prog:Do) (w:Ev):PySem.KeyKind prog w Key where
 is:=pQ
 hash:=Nc w
 inj:=λv a b ha hb=>by
  rcases cz ha with ⟨i,t,rfl,rfl⟩ | ⟨x,t,rfl,rfl⟩
  ·rcases cz hb with ⟨j,u,rfl,e⟩ | ⟨y,u,rfl,e⟩
   ·injection e with e1 _;rw [e1]
   ·exact nomatch e
  ·rcases cz hb with ⟨j,u,rfl,e⟩ | ⟨y,u,rfl,e⟩
   ·exact nomatch e
   ·injection e with e1 _;rw [e1]
 byValue:=λk v h=>by
  rcases cz h with ⟨i,t,rfl,rfl⟩ | ⟨x,t,rfl,rfl⟩ <;> rfl
 pyHash:=λhv h=>by
  rcases cz hv with ⟨i,t,rfl,rfl⟩ | ⟨x,t,rfl,rfl⟩
  ·exact wpAny_pyHash_int h
  ·exact wpAny_pyHash_str h
 eqBool:=λhu hv h=>by
  rcases cz hu with ⟨i,t,rfl,rfl⟩ | ⟨x,t,rfl,rfl⟩
  ·rcases cz hv with ⟨j,u,rfl,rfl⟩ | ⟨y,u,rfl,rfl⟩
   ·rw [Jg]at h;exact wpAny_eqBool_int h
   ·rw [II]at h;exact SeqAt.EqAt.int_str i t y u _ _ _ _ h
  ·rcases cz hv with ⟨j,u,rfl,rfl⟩ | ⟨y,u,rfl,rfl⟩
   ·rw [Ji]at h;exact SeqAt.EqAt.str_int x t j u _ _ _ _ h
   ·rw [JF]at h;exact wpAny_eqBool_str h
 «strs»:=λk x t v h=>by
  rcases cz h with ⟨i,u,rfl,e⟩ | ⟨y,u,rfl,e⟩
  ·exact nomatch e
  ·injection e with e1 _
   subst e1;cases v <;> rfl
theorem u9 (prog:Do) (w:Ev) (i:Int) (t:Tok):(cB prog w).is (.inl i) (.int i t)=true:=zl i t
theorem vG (prog:Do) (w:Ev) (x:Str) (t:Tok):(cB prog w).is (.inr x) (.str x t)=true:=zR x t
inductive V where
 |non | bl (b:Bool) | int (i:Int) | str (x:Str) | byt (b:Array UInt8) | flt (b:UInt64) | ref (a:Is) | ty (n:String)
 deriving DecidableEq
def RelV:V->Db->Prop
 |.non,u=>u=Value.none
 |.bl b,u=>u=Value.bool b
 |.int i,u=>∃t,u=Value.int i t
 |.str x,u=>∃t,u=Value.str x t
 |.byt b,u=>∃t,u=Value.bytes b t
 |.flt b,u=>∃t,u=Value.float b t
 |.ref a,u=>u=Value.ref a
 |.ty n,u=>u=Value.type n
abbrev Vals:List V->List Db->Prop:=Paired RelV
theorem Vals.length (r:Vals xs us):xs.length=us.length:=Paired.length r
theorem Vals.get:∀{xs:List V} {us:List Db} {i:Nat} {x:V},Vals xs us->xs[i]?=some x->∃u,us[i]?=some u/\RelV x u
 |_,_,_,_,.nil,e=>by simp at e
 |_,_,0,_,.cons r _,e=>by simp at e;subst e;exact ⟨_,rfl,r⟩
 |_,_,i+1,x,.cons _ t,e=>by
  obtain ⟨u,h1,h2⟩:=Vals.get (i:=i) (x:=x) t (by simpa using e)
  exact ⟨u,by simpa using h1,h2⟩
theorem Vals.set (r:RelV x u):∀{xs:List V} {us:List Db} (i:Nat),Vals xs us->Vals (xs.set i x) (us.set i u)
 |_,_,_,.nil=>.nil
 |_,_,0,.cons _ t=>.cons r t
 |_,_,i+1,.cons q t=>.cons q (Vals.set r i t)
theorem Vals.append:∀{xs ys:List V} {us ws:List Db},Vals xs us->Vals ys ws->Vals (xs++ys) (us++ws)
 |_,_,_,_,.nil,s=>s
 |_,_,_,_,.cons r t,s=>.cons r (Vals.append t s)
theorem Vals.take:∀{xs:List V} {us:List Db} (n:Nat),Vals xs us->Vals (xs.take n) (us.take n)
 |_,_,0,_=>.nil
 |_,_,_+1,.nil=>.nil
 |_,_,n+1,.cons r t=>.cons r (Vals.take n t)
theorem Vals.drop:∀{xs:List V} {us:List Db} (n:Nat),Vals xs us->Vals (xs.drop n) (us.drop n)
 |_,_,0,r=>r
 |_,_,_+1,.nil=>.nil
 |_,_,n+1,.cons _ t=>Vals.drop n t
def l_:Option V->Ch->Prop
 |some v,some u=>RelV v u
 |none,none=>True
 |_,_=>False
def KV {κ:Type}:List (κ×V)->List (κ×Db)->Prop:=Paired λ(p:κ×V) (q:κ×Db)=>p.1=q.1/\RelV p.2 q.2
def kV:Key->V
 |.inl i=>.int i
 |.inr x=>.str x
inductive HO where
 |lst (xs:List V)
 |tup (xs:List V)
 |dK (kvs:List (Key×V)) | dT (kvs:List (List Key×V))
 |set (S:Int->Bool) (n:Nat)
 |ins (C dx:Is) (fs:List (Str×V))
 |own (x:Is)
 |xd (fs:List (Str×V))
 |met (f x:Is)
 |rng (lo hi:Int)
 |frz (o:Obj) (u:HO)
 |tbl (ps:Array Db)
 |ext (φ:N0->Prop)
abbrev Hp:=Is->Option HO
def upd (H:Hp) (a:Is) (o:HO):Hp:=λb=>if b=a then some o else H b
theorem aE:upd H a o a=some o:=by unfold upd;rw [N1 rfl]
theorem av (h:b≠a):upd H a o b=H b:=by unfold upd;rw [N2 h]
theorem Ko {H:Hp} {a b:Is} {o u:HO} (h:H a=some o) (h':H b=some u) (d:o≠u):a≠b:=by
 intro e;subst e;rw [h]at h';exact d (Yv h')
theorem aG {H:Hp} {a b:Is} {o:HO} (h:H a=some o) (h':H b=none):a≠b:=by
 intro e;subst e;rw [h]at h';cases h'
section
variable (P:Do) (w:Ev)
def cT (H:Hp) (h:N0) (a:Is):HO->Prop
 |.lst xs=>xs.length<=sizeLine/\∃(its:List Db) (n:Nat),Vals xs its/\h.get? a=some { cls:=.type "list",data:=.seq its.toArray n }
 |.tup xs=>xs.length<=sizeLine/\∃its:List Db,Vals xs its/\IsTup h a its.toArray
 |.dK kvs=>kvs.length<=sizeLine/\(a == sysModules)=false/\∃vs,KV kvs vs/\h.DictOf (cB P w) a vs
 |.dT kvs=>kvs.length<=sizeLine/\(a == sysModules)=false/\∃xs:List (List Key×Is×Db),
   Paired (λ(p:List Key×V) (q:List Key×Is×Db)=>p.1=q.1/\H q.2.1=some (.tup (p.1.map kV))/\RelV p.2 q.2.2) kvs xs /\
   ∃o es ep,h.get? a=some o/\o.ExactDict/\o.data=.dict es ep/\es.toList=xs.map (entryOfKey (tupleKind (cB P w)))/\(xs.map (·.1)).Nodup
 |.set S n=>h.SetOf (intKind P w) a S n
 |.ins C dx fs=>H dx=some (.own a)/\fs.length<=1000/\dx≠a/\h.get? a=some (instObj C dx) /\
   ∃mA,h.Ns1 dx mA/\(∀f,l_ (fs.lookup f) (mA f))/\PySem.Within mA (fs.map (·.1))
 |.own _=>∃o,h.get? a=some o
 |.xd fs=>∃mA,h.Ns1 a mA/\∀f,l_ (fs.lookup f) (mA f)
 |.rng lo hi=>∃t u v,h.get? a=some { cls:=.type "range",data:=.fields #[.int lo t,.int hi u,.int 1 v] }
 |.frz o u=>h.get? a=some o/\cT H h a u
 |.tbl ps=>h.get? a=some { cls:=.none,data:=.fields ps }
 |.met f x=>h.get? a=some (methodObj (.ref f) (.ref x))
 |.ext φ=>φ h/\(∃o,h.get? a=some o)/\∀h1 h2:N0,φ h1->(∀o,h1.get? a=some o->h2.get? a=some o)->φ h2
def HOk (H:Hp) (h:N0):Prop:=∀a o,H a=some o->cT P w H h a o
end
section
variable {h h':N0}
theorem cT.lt (x:cT P w H h a o):a<h.objs.size:=by
 cases o with
 |lst xs=>obtain ⟨_,_,_,_,e⟩:=x;exact Zg e
 |tup xs=>obtain ⟨_,_,_,p⟩:=x;exact p.lt
 |dK kvs=>obtain ⟨_,_,_,_,o,_,_,e,_⟩:=x;exact Zg e
 |dT kvs=>obtain ⟨_,_,_,_,o,_,_,e,_⟩:=x;exact Zg e
 |set S n=>obtain ⟨o,_,_,_,e,_⟩:=x;exact Zg e
 |ins C dx fs=>obtain ⟨_,_,_,e,_⟩:=x;exact Zg e
 |own y=>obtain ⟨_,e⟩:=x;exact Zg e
 |xd fs=>obtain ⟨_,⟨_,_,_,e,_⟩,_⟩:=x;exact Zg e
 |rng lo hi=>obtain ⟨_,_,_,e⟩:=x;exact Zg e
 |frz ob u=>obtain ⟨e,_⟩:=x;exact Zg e
 |tbl ps=>exact Zg (show h.get? a=some _ from x)
 |met f y=>exact Zg (show h.get? a=some _ from x)
 |ext φ=>obtain ⟨_,⟨_,e⟩,_⟩:=x;exact Zg e
theorem Paired.mapP {F G:α->β->Prop}:∀{l₁:List α} {l₂:List β},Paired F l₁ l₂->(∀a b,F a b->G a b)->Paired G l₁ l₂
 |_,_,.nil,_=>.nil
 |_,_,.cons r t,f=>.cons (f _ _ r) (Paired.mapP t f)
theorem cT.stay (x:cT P w H h a o) (k:∀b u,(b=a\/H b=some (.own a))->h.get? b=some u->h'.get? b=some u)
  (ho:∀b,H b=some (.own a)->H' b=some (.own a)) (ht:∀b xs,H b=some (.tup xs)->H' b=some (.tup xs)):cT P w H' h' a o:=by
 induction o with
 |lst xs=>obtain ⟨z,its,n,r,e⟩:=x;exact ⟨z,its,n,r,k _ _ (.inl rfl) e⟩
 |tup xs=>obtain ⟨z,its,r,ob,e,c⟩:=x;exact ⟨z,its,r,ob,k _ _ (.inl rfl) e,c⟩
 |dK kvs=>obtain ⟨z,y,vs,r,ob,es,ep,e,c⟩:=x;exact ⟨z,y,vs,r,ob,es,ep,k _ _ (.inl rfl) e,c⟩
 |dT kvs =>
  obtain ⟨z,y,xs,r,ob,es,ep,e,c⟩:=x;exact ⟨z,y,xs,Paired.mapP r λp q z=>⟨z.1,ht _ _ z.2.1,z.2.2⟩,ob,es,ep,k _ _ (.inl rfl) e,c⟩
 |set S n=>obtain ⟨ob,es,ep,t,e,c⟩:=x;exact ⟨ob,es,ep,t,k _ _ (.inl rfl) e,c⟩
 |ins C dx fs =>
  obtain ⟨d,z,ne,e,mA,⟨od,es,ep,e2,c⟩,r⟩:=x;exact ⟨ho _ d,z,ne,k _ _ (.inl rfl) e,mA,⟨od,es,ep,k _ _ (.inr d) e2,c⟩,r⟩
 |own y=>obtain ⟨ob,e⟩:=x;exact ⟨ob,k _ _ (.inl rfl) e⟩
 |xd fs=>obtain ⟨mA,⟨od,es,ep,e,c⟩,r⟩:=x;exact ⟨mA,⟨od,es,ep,k _ _ (.inl rfl) e,c⟩,r⟩
 |rng lo hi=>obtain ⟨t,u,v,e⟩:=x;exact ⟨t,u,v,k _ _ (.inl rfl) e⟩
 |frz ob u ih=>obtain ⟨e,q⟩:=x;exact ⟨k _ _ (.inl rfl) e,ih q⟩
 |tbl ps =>
  have e:h.get? a=some { cls:=.none,data:=.fields ps }:=x;show h'.get? a=some { cls:=.none,data:=.fields ps }
  exact k a _ (.inl rfl) e
 |met f y =>
  have e:h.get? a=some (methodObj (.ref f) (.ref y)):=x;show h'.get? a=some (methodObj (.ref f) (.ref y))
  exact k a _ (.inl rfl) e
 |ext φ=>obtain ⟨p,⟨o,e⟩,st⟩:=x;exact ⟨st _ _ p λo q=>k _ _ (.inl rfl) q,⟨o,k _ _ (.inl rfl) e⟩,st⟩
theorem HOk.lt (x:HOk P w H h) (e:H a=some o):a<h.objs.size:=(x a o e).lt
theorem HOk.fresh (x:HOk P w H h) (e:h.objs.size<=a):H a=none:=by
 cases q:H a with
 |none=>rfl
 |some u=>exact absurd (Yt (x.lt q) e) (Xq _)
theorem HOk.kept (x:HOk P w H h) (k:∀b u,h.get? b=some u->h'.get? b=some u):HOk P w H h':=λa o e =>
 (x a o e).stay (λb u _ q=>k b u q) (λ_ q=>q) λ_ _ q=>q
theorem HOk.laid (x:HOk P w H h) (k:∀b u,h.get? b=some u->h'.get? b=some u) (hp:h.objs.size<=a) (new:cT P w (upd H a o) h' a o):HOk P w (upd H a o) h':=λb u e=>by
 have hn:=x.fresh hp;by_cases hb:b=a
 ·subst hb;rw [aE]at e;cases e;exact new
 ·rw [av hb]at e
  exact (x b u e).stay (λc v _ q=>k c v q) (λc q=>by rw [av (aG q hn)];exact q) λc xs q=>by rw [av (aG q hn)];exact q
end
def Rd (H:Hp) (a:Is) (u:HO):Prop:=H a=some u\/∃o,H a=some (.frz o u)
theorem Rd.ok (r:Rd H a u) (x:HOk P w H h):cT P w H h a u:=by
 rcases r with r | ⟨o,r⟩
 ·exact x a u r
 ·obtain ⟨_,q⟩:=x a _ r
  exact q
def Mut:Option HO->Prop
 |some (.lst _)=>True
 |some (.dK _)=>True
 |some (.dT _)=>True
 |some (.set _ _)=>True
 |some (.ins _ _ _)=>True
 |some (.ext _)=>True
 |_=>False
section
variable {h h':N0}
theorem HOk.write (ok:HOk P w H h) (mu:Mut (H x)) (he:e=x\/H e=some (.own x)) (k:∀b u,b≠e->h.get? b=some u->h'.get? b=some u) (heo:∃u,h'.get? e=some u)
  (new:cT P w (upd H x o') h' x o'):HOk P w (upd H x o') h':=λb u q=>by
 have nown:∀c y,H c=some (.own y)->c≠x:=λc y r z=>by subst z;rw [r]at mu;exact mu
 have ntup:∀c xs,H c=some (.tup xs)->c≠x:=λc xs r z=>by subst z;rw [r]at mu;exact mu
 by_cases hb:b=x
 ·subst hb;rw [aE]at q;cases q;exact new
 ·rw [av hb]at q
  by_cases hbe:b=e
  ·have q':H b=some (.own x):=by
    rcases he with z | z
    ·exact absurd (hbe.trans z) hb
    ·rw [hbe];exact z
   rw [q]at q';cases q';obtain ⟨v,hv⟩:=heo;exact ⟨v,by rw [hbe];exact hv⟩
  ·refine (ok b u q).stay (λc v hc r=>k c v ?_ r) (λc r=>by rw [av (nown c b r)];exact r) λc xs r=>by rw [av (ntup c xs r)];exact r
   rcases hc with rfl | hc
   ·exact hbe
   ·rintro rfl
    rcases he with z | z
    ·exact nown c b hc z
    ·rw [hc]at z;cases z;exact hb rfl
end
structure Un (fs ex:List Is) (H H':Hp) (h h':N0):Prop where
 keep:∀b o,h.get? b=some o->H b=none->b∉fs->b∉ex->h'.get? b=some o
 slot:∀b o,h.get? b=some o->H b=none->b∈fs->b∉ex->∃sl,h'.get? b=some { o with slots:=sl }
 free:∀b o,h.get? b=some o->H b=none->b∉ex->H' b=none
 there:∀b o,h.get? b=some o->b∉ex->∃o',h'.get? b=some o'
 tups:∀b xs,H b=some (.tup xs)->H' b=some (.tup xs)
 frzs:∀b o u,H b=some (.frz o u)->H' b=some (.frz o u)
 tbls:∀b ps,H b=some (.tbl ps)->∃more,H' b=some (.tbl (ps++more))
section
variable {fs fs' ex ex':List Is} {H H1 H2:Hp} {h h1 h2 h':N0} {a x e:Is} {o:HO}
theorem Un.any (u:Un fs ex H H1 h h1) (q:h.get? b=some ob) (n:H b=none) (hx:b∉ex):∃sl,h1.get? b=some { ob with slots:=sl }:=by
 by_cases hb:b∈fs
 ·exact u.slot b ob q n hb hx
 ·exact ⟨ob.slots,u.keep b ob q n hb hx⟩
theorem Un.kept (k:∀b u,h.get? b=some u->h'.get? b=some u):Un fs ex H H h h' :=
 ⟨λb ob q _ _ _=>k b ob q,λb ob q _ _ _=>⟨ob.slots,k b ob q⟩,λ_ _ _ n _=>n,λb ob q _=>⟨ob,k b ob q⟩,λ_ _ q=>q,λ_ _ _ q=>q,λ_ ps q=>⟨#[],by rw [q];simp⟩⟩
theorem Un.refl:Un fs ex H H h h:=Un.kept λ_ _ q=>q
theorem Un.laid (k:∀b u,h.get? b=some u->h'.get? b=some u) (hp:h.objs.size<=a) (hn:H a=none):Un fs ex H (upd H a o) h h' where
 keep:=λb u q _ _ _=>k b u q
 slot:=λb u q _ _ _=>⟨u.slots,k b u q⟩
 free:=λb u q n _=>by rw [av (Ys (Yt (Zg q) hp))];exact n
 there:=λb u q _=>⟨u,k b u q⟩
 tups:=λb xs q=>by rw [av (aG q hn)];exact q
 frzs:=λb u xs q=>by rw [av (aG q hn)];exact q
 tbls:=λb ps q=>⟨#[],by rw [av (aG q hn),q];simp⟩
theorem Un.write (mu:Mut (H x)) (he:e=x\/H e=some (.own x)) (k:∀b u,b≠e->h.get? b=some u->h'.get? b=some u) (heo:∃u,h'.get? e=some u):Un fs ex H (upd H x o) h h':=by
 have hx:∀b,H b=none->b≠x:=λb n z=>by subst z;rw [n]at mu;exact mu
 have hb:∀b,H b=none->b≠e:=λb n z=>by
  subst z;rcases he with r | r
  ·exact hx b n r
  ·rw [n]at r;cases r
 have hm:∀b u,H b=some u->¬Mut (some u)->b≠x:=λb u q nm z=>by subst z;rw [q]at mu;exact nm mu
 refine ⟨λb u q n _ _=>k b u (hb b n) q,λb u q n _ _=>⟨u.slots,k b u (hb b n) q⟩,λb u q n _=>by rw [av (hx b n)];exact n,λb u q _=>?_,
  λb xs q=>by rw [av (hm b _ q λz=>z)];exact q,λb u xs q=>by rw [av (hm b _ q λz=>z)];exact q,λb ps q=>⟨#[],by rw [av (hm b _ q λz=>z),q];simp⟩⟩
 by_cases hbe:b=e
 ·subst hbe;exact heo
 ·exact ⟨u,k b u hbe q⟩
end
def trk (h:N0) (H:Hp):List Is:=(range h.objs.size).filter λa=>(H a).isSome
def nv (h:N0) (H:Hp):N0:=PySem.W.hideAll h (trk h H)
theorem sD (h:N0) (H:Hp):(nv h H).objs.size=h.objs.size:=PySem.W.hideAll_size _ _
theorem uY (e:h.get? b=some o) (n:H b=none):(nv h H).get? b=some o :=
 PySem.W.hideAll_get _ e λhm=>by
  have q:(H b).isSome=true:=(We.mp hm).2;rw [n]at q;simp at q
theorem xO (e:(nv h H).get? b=some o):h.get? b=some o/\H b=none:=by
 have e':h.get? b=some o:=PySem.W.of_hideAll (trk h H) e;refine ⟨e',?_⟩;cases q:H b with
 |none=>rfl
 |some x =>
  have hm:b∈trk h H:=We.mpr ⟨Yk.mpr (Zg e'),by simp [q]⟩
  have z:(nv h H).get? b=none:=PySem.W.hideAll_none (trk h H) hm;rw [z]at e;cases e
def Dg (g h:N0) (L:Is):List (Is×Obj):=(range h.objs.size).filterMap λa=>if a=L\/(g.get? a).isSome=true then none else (h.get? a).map λo=>(a,o)
def rest (g h:N0) (L d:Is):List (Is×Obj):=(Dg g h L).filter λp=>decide (p.1≠d)
structure Mod (K:At) (mg:Str->Ch) (base:N0):Prop where
 kin:K.In base
 glob:base.Ns mainGlobals mg
 blt:∃mb,base.Ns builtinsNs mb/\∀x:Str,x ≠ "__name__" -> mb x=bootBuiltins x
 nolimit:base.NoLimit
structure Cx where
 prog:Do
 w:Ev
 K:At
 mg:Str->Ch
 base:N0
 A:Go
 N:List Str
 s₀:Da
 H₀:Hp
 env:Env
 outer:List Env
 stack:List Env
 ex:List Is
 fn:Str->Bool
 calm:Bool
 pn:List (Is×Obj)
 xe:Db->Da->Prop
def frs (l:List Env):List Is:=l.filterMap (·.frame)
abbrev Cx.fs (X:Cx):List Is:=frs X.outer
def Vis (sc:Scope) (x:Str):Prop:=sc.names.lookup x=some .local\/sc.names.lookup x=some .cell\/sc.names.lookup x=some .free
def Loc (sc:Scope) (x:Str):Prop:=sc.names.lookup x=some .local\/sc.names.lookup x=some .cell
def Look (env:Env) (h:N0) (m:Str->Ch) (x:Str) (u:Db):Prop :=
 (env.kindOf x=some .local/\m x=some u)\/((env.kindOf x=some .cell\/env.kindOf x=some .free)/\∃c,env.cells.lookup x=some c/\h.IsCell c (some u))
structure Cx.Ok (X:Cx):Prop where
 mod:Mod X.K X.mg X.base
 kind:X.env.scope.kind=.function
 glob:X.env.globals=mainGlobals
 blt:X.env.builtins=builtinsNs
 above:X.s₀.heap.objs.size<=X.env.locals
 inj:∀x y c,X.env.cells.lookup x=some c->X.env.cells.lookup y=some c->x=y
 has:∀x,(X.env.kindOf x=some .cell\/X.env.kindOf x=some .free)->∃c,X.env.cells.lookup x=some c
 cab:∀x c,X.fn x=true->X.env.cells.lookup x=some c->X.s₀.heap.objs.size<=c
 hd:X.calm=true->X.A.handled=none
 frames:X.A.frames=some X.stack
 stk:X.stack=X.outer\/(X.stack=X.env :: X.outer/\X.env.frame=some X.env.locals)
 exf:∀b∈X.ex,b≠X.env.locals/\∀x c,X.env.cells.lookup x=some c->c≠b
 bs:∀b o,X.base.get? b=some o->X.s₀.heap.get? b=some o/\X.H₀ b=none
 bsz:X.base.objs.size<=X.s₀.heap.objs.size
 noex:∀b o,X.base.get? b=some o->b∉X.ex
 exfs:∀b∈X.ex,b∉X.fs
 funs:X.s₀.heap.FunFrames X.base X.outer
 frf:∀b∈X.fs,X.H₀ b=none
structure Inv (X:Cx) (pins:List (Is×Obj)) (σ:List (Option V)) (H:Hp) (s:Da):Prop where
 ok:X.Ok
 os:s.os=X.s₀.os
 bare:AllBare s.gens
 base:Un X.fs X.ex X.H₀ H X.s₀.heap s.heap
 loc:∃m,s.heap.Ns X.env.locals m/\∀(i:Nat) (x:Str) (v:V),X.N[i]?=some x->σ[i]?=some (some v)->Vis X.env.scope x->∃u,RelV v u/\Look X.env s.heap m x u
 cell:∀x c,X.env.cells.lookup x=some c->∃v,s.heap.IsCell c v
 free:H X.env.locals=none
 freeC:∀x c,X.env.cells.lookup x=some c->H c=none
 pin:∀p∈X.pn++pins,s.heap.get? p.1=some p.2/\H p.1=none/\p.1≠X.env.locals/\p.1∉X.fs/\∀v,p.2.data≠.cell v
 hok:HOk X.prog X.w H s.heap
 len:σ.length=X.N.length
section
variable {X:Cx} {σ:List (Option V)} {s:Da} {h':N0}
theorem Cx.Ok.nofr (ok:X.Ok) (e:X.base.get? b=some o):b∉X.fs:=λhb=>by
 have:=(ok.funs.mem hb).1;rw [e]at this;cases this
theorem Inv.bs (I:Inv X pins σ H s):∀b o,X.base.get? b=some o->s.heap.get? b=some o/\H b=none:=λb o e =>
 ⟨I.base.keep b o (I.ok.bs b o e).1 (I.ok.bs b o e).2 (I.ok.nofr e) (I.ok.noex b o e),I.base.free b o (I.ok.bs b o e).1 (I.ok.bs b o e).2 (I.ok.noex b o e)⟩
theorem Inv.bk (I:Inv X pins σ H s):∀b o,X.base.get? b=some o->s.heap.get? b=some o:=λb o e=>(I.bs b o e).1
theorem Inv.mod (I:Inv X pins σ H s):Mod X.K X.mg X.base:=I.ok.mod
theorem Inv.kIn (I:Inv X pins σ H s):X.K.In s.heap:=I.ok.mod.kin.keeps I.bk
theorem Inv.lt (I:Inv X pins σ H s):X.env.locals<s.heap.objs.size:=let ⟨_,hn,_⟩:=I.loc;hn.lt
theorem Inv.sz (I:Inv X pins σ H s):X.s₀.heap.objs.size<=s.heap.objs.size:=Yg I.ok.above (Nat.le_of_lt I.lt)
theorem Inv.nofs (I:Inv X pins σ H s) (h:s.heap.objs.size<=a):a∉X.fs:=λhb=>by
 obtain ⟨_,o,ho,_⟩:=I.ok.funs.mem hb;exact absurd (Yt (Zg ho) (Yg I.sz h)) (Xq _)
theorem Inv.cne (I:Inv X pins σ H s):∀x c,X.env.cells.lookup x=some c->c≠X.env.locals:=λx c e z=>by
 obtain ⟨v,o,ho,hd⟩:=I.cell x c e;obtain ⟨m,⟨o',es,ep,ho',hd',_⟩,_⟩:=I.loc;rw [z,ho']at ho;cases ho;rw [hd']at hd;cases hd
theorem Inv.funs (I:Inv X pins σ H s):s.heap.FunFrames X.base X.outer:=by
 have all:∀(l:List Env),(∀b∈frs l,b∈X.fs)->X.s₀.heap.FunFrames X.base l->s.heap.FunFrames X.base l:=by
  intro l
  induction l with
  |nil=>intro _ _;trivial
  |cons env r ih =>
   intro hs hl;obtain ⟨hk,⟨L,o,hf,hn,ho,hd⟩,hr⟩:=hl;have hL:L∈X.fs:=hs L (by unfold frs;rw [Wc,hf];exact Zz)
   obtain ⟨sl,e⟩:=I.base.slot L o ho (I.ok.frf L hL) hL λz=>I.ok.exfs L z hL
   exact ⟨hk,⟨L,_,hf,hn,e,hd⟩,ih (λb hb=>hs b (by unfold frs;rw [Wc,hf];exact Zs _ hb)) hr⟩
 exact all X.outer (λ_ hb=>hb) I.ok.funs
theorem Inv.stack (I:Inv X pins σ H s):s.heap.FunFrames X.base X.stack:=by
 rcases I.ok.stk with e | ⟨e,hf⟩
 ·rw [e];exact I.funs
 ·rw [e]
  obtain ⟨m,hn,_⟩:=I.loc;refine .cons (by rw [I.ok.kind];decide) hf hn ?_ I.funs
  exact Heap.get?_none_of_le (Yg I.ok.bsz I.ok.above)
theorem Inv.stkSub (I:Inv X pins σ H s):∀b∈frs X.stack,b∈X.env.locals :: X.fs:=λb hb=>by
 rcases I.ok.stk with e | ⟨e,hf⟩
 ·rw [e]at hb;exact Zs _ hb
 ·rw [e]at hb
  unfold frs at hb;rw [Wc,hf]at hb;exact hb
theorem Inv.stkFree (I:Inv X pins σ H s):∀b∈frs X.stack,H b=none:=λb hb=>by
 rcases Xz.mp (I.stkSub b hb) with e | hb
 ·rw [e];exact I.free
 ·obtain ⟨_,o,ho,_⟩:=I.ok.funs.mem hb
  exact I.base.free b o ho (I.ok.frf b hb) λz=>I.ok.exfs b z hb
theorem Inv.step {g':Array GenState} {t':Nat} {d':Drawn} {ch:List Is} (I:Inv X pins σ H s)
  (hch:∀b∈ch,(b∈X.ex\/X.s₀.heap.objs.size<=b)/\b≠X.env.locals/\(∀x c,X.env.cells.lookup x=some c->c≠b)/\∀p∈X.pn++pins,p.1≠b)
  (keep:∀b o,b≠X.env.locals->b∉X.fs->b∉ch->s.heap.get? b=some o->H b=none->h'.get? b=some o)
  (slot:∀b o,b≠X.env.locals->b∈X.fs->b∉ch->s.heap.get? b=some o->H b=none->∃sl,h'.get? b=some { o with slots:=sl }) (free:∀b o,b∉ch->s.heap.get? b=some o->H b=none->H' b=none)
  (there:∀b o,b∉ch->s.heap.get? b=some o->∃o',h'.get? b=some o')
  (tups:∀b xs,H b=some (.tup xs)->H' b=some (.tup xs)) (frzs:∀b o u,H b=some (.frz o u)->H' b=some (.frz o u)) (tbls:∀b ps,H b=some (.tbl ps)->∃more,H' b=some (.tbl (ps++more)))
  (ns:∀m,s.heap.Ns X.env.locals m->h'.Ns X.env.locals m) (hok:HOk X.prog X.w H' h') (hg:AllBare g') :
  Inv X pins σ H' { s with heap:=h',gens:=g',drawn:=d',toks:=t' }:=by
 have neL:∀b o,X.s₀.heap.get? b=some o->b≠X.env.locals:=λb o e=>Ys (Yt (Zg e) I.ok.above)
 have neC:∀b o,X.s₀.heap.get? b=some o->b∉X.ex->b∉ch:=λb o e hx hb=>by
  rcases (hch b hb).1 with z | z
  ·exact hx z
  ·exact absurd (Yt (Zg e) z) (Xq _)
 have cellK:∀x c,X.env.cells.lookup x=some c->∀v,s.heap.IsCell c v->h'.IsCell c v:=λx c e v ⟨o,ho,hd⟩=>by
  have nch:c∉ch:=λz=>(hch c z).2.2.1 x c e rfl
  by_cases hc:c∈X.fs
  ·obtain ⟨sl,q⟩:=slot c o (I.cne x c e) hc nch ho (I.freeC x c e)
   exact ⟨_,q,hd⟩
  ·exact ⟨o,keep c o (I.cne x c e) hc nch ho (I.freeC x c e),hd⟩
 refine ⟨I.ok,I.os,hg,⟨λb o e n hb hx=>?_,λb o e n hb hx=>?_,λb o e n hx=>?_,λb o e hx=>?_,λb xs e=>tups b xs (I.base.tups b xs e),λb o xs e=>frzs b o xs (I.base.frzs b o xs e),λb ps e=>?_⟩,?_,λx c e=>?_,?_,λx c e=>?_,λp hp=>?_,hok,I.len⟩
 ·exact keep b o (neL b o e) hb (neC b o e hx) (I.base.keep b o e n hb hx) (I.base.free b o e n hx)
 ·obtain ⟨sl,e1⟩:=I.base.slot b o e n hb hx
  obtain ⟨sl',e2⟩:=slot b _ (neL b o e) hb (neC b o e hx) e1 (I.base.free b o e n hx);exact ⟨sl',e2⟩
 ·obtain ⟨o',e1⟩:=I.base.there b o e hx
  exact free b o' (neC b o e hx) e1 (I.base.free b o e n hx)
 ·obtain ⟨o',e1⟩:=I.base.there b o e hx
  exact there b o' (neC b o e hx) e1
 ·obtain ⟨m1,e1⟩:=I.base.tbls b ps e
  obtain ⟨m2,e2⟩:=tbls b _ e1;exact ⟨m1++m2,by rw [e2,Array.append_assoc]⟩
 ·obtain ⟨m,hn,hl⟩:=I.loc
  refine ⟨m,ns m hn,λi x v e1 e2 e3=>?_⟩
  obtain ⟨u,r,l⟩:=hl i x v e1 e2 e3;refine ⟨u,r,?_⟩;rcases l with l | ⟨k,c,e,z⟩
  ·exact .inl l
  ·exact .inr ⟨k,c,e,cellK x c e _ z⟩
 ·obtain ⟨v,z⟩:=I.cell x c e
  exact ⟨v,cellK x c e v z⟩
 ·obtain ⟨m,⟨o,_,_,ho,_⟩,_⟩:=I.loc
  exact free _ o (λz=>(hch _ z).2.1 rfl) ho I.free
 ·obtain ⟨v,o,ho,hd⟩:=I.cell x c e
  exact free c o (λz=>(hch c z).2.2.1 x c e rfl) ho (I.freeC x c e)
 ·obtain ⟨e,n,ne,nf,d⟩:=I.pin p hp
  have nch:p.1∉ch:=λz=>(hch p.1 z).2.2.2 p hp rfl
  exact ⟨keep p.1 p.2 ne nf nch e n,free p.1 p.2 nch e n,ne,nf,d⟩
theorem Inv.un (I:Inv X pins σ H s) (u:Un X.fs [] H H' s.heap h') (hok:HOk X.prog X.w H' h'):Inv X pins σ H' { s with heap:=h',toks:=t' }:=by
 obtain ⟨m,⟨o,es,ep,ho,r⟩,_⟩:=id I.loc;obtain ⟨sl,hL⟩:=u.any ho I.free (by simp)
 exact I.step (g':=s.gens) (d':=s.drawn) (ch:=[]) (λ_ z=>nomatch z) (λb o _ hb _ e n=>u.keep b o e n hb (by simp)) (λb o _ hb _ e n=>u.slot b o e n hb (by simp)) (λb o _ e n=>u.free b o e n (by simp)) (λb o _ e=>u.there b o e (by simp)) u.tups u.frzs u.tbls (λm' hm=>by
  obtain ⟨o',es',ep',ho',r'⟩:=hm;rw [ho]at ho';cases ho';exact ⟨_,es',ep',hL,r'⟩) hok I.bare
theorem Inv.call (I:Inv X pins σ H s) (u:Un (frs X.stack) ch H H' s.heap h') (hok:HOk X.prog X.w H' h') (hg:AllBare g') (hch:∀b∈ch,(b∈X.ex\/X.s₀.heap.objs.size<=b)/\b≠X.env.locals/\(∀x c,X.env.cells.lookup x=some c->c≠b)/\∀p∈X.pn++pins,p.1≠b) :
  Inv X pins σ H' { s with heap:=h',gens:=g',drawn:=d',toks:=t' }:=by
 obtain ⟨m,⟨o,es,ep,ho,r⟩,_⟩:=id I.loc;obtain ⟨sl,hL⟩:=u.any ho I.free λz=>(hch _ z).2.1 rfl
 exact I.step (ch:=ch) hch (λb o hL hb hc e n=>u.keep b o e n (λz=>(Xz.mp (I.stkSub b z)).elim hL hb) hc) (λb o _ _ hc e n=>u.any e n hc) (λb o hc e n=>u.free b o e n hc) (λb o hc e=>u.there b o e hc) u.tups u.frzs u.tbls (λm' hm=>by
  obtain ⟨o',es',ep',ho',r'⟩:=hm;rw [ho]at ho';cases ho';exact ⟨_,es',ep',hL,r'⟩) hok hg
theorem Inv.turned (I:Inv X pins σ H s) (k:∀b o,b≠it->s.heap.get? b=some o->h'.get? b=some o) (hn:H it=none) (hL:it≠X.env.locals) (h1:it∈X.ex\/X.s₀.heap.objs.size<=it) (h2:∀x c,X.env.cells.lookup x=some c->c≠it) (h3:∀p∈X.pn++pins,p.1≠it):Inv X pins σ H { s with heap:=h',toks:=t' }:=by
 have nit:∀b u,H b=some u->b≠it:=λb u e z=>by rw [z,hn]at e;cases e
 refine I.step (g':=s.gens) (d':=s.drawn) (ch:=[it]) (λb hb=>?_) (λb o _ _ hc e _=>k b o (λz=>hc (by simp [z])) e) (λb o _ _ hc e _=>⟨o.slots,k b o (λz=>hc (by simp [z])) e⟩) (λ_ _ _ _ n=>n)
  (λb o hc e=>⟨o,k b o (λz=>hc (by simp [z])) e⟩) (λ_ _ e=>e) (λ_ _ _ e=>e) (λb ps e=>⟨#[],by rw [e];simp⟩) (λm hm=>?_) (λb u e=>?_) I.bare
 ·have e:b=it:=by simpa using hb
  subst e;exact ⟨h1,hL,h2,h3⟩
 ·obtain ⟨o,es,ep,ho,r⟩:=hm
  exact ⟨o,es,ep,k _ o (Xj hL) ho,r⟩
 ·refine (I.hok b u e).stay (λc v hc q=>k c v ?_ q) (λ_ q=>q) λ_ _ q=>q
  rcases hc with z | z
  ·rw [z];exact nit b u e
  ·exact nit c _ z
theorem Inv.tok (I:Inv X pins σ H s) (t:Nat):Inv X pins σ H { s with toks:=t }:=I.un (h':=s.heap) (t':=t) Un.refl I.hok
theorem Inv.kept (I:Inv X pins σ H s) (k:∀b u,s.heap.get? b=some u->h'.get? b=some u):Inv X pins σ H { s with heap:=h',toks:=t' }:=I.un (Un.kept k) (I.hok.kept k)
theorem Inv.laid (I:Inv X pins σ H s) (k:∀b u,s.heap.get? b=some u->h'.get? b=some u) (hp:s.heap.objs.size<=a) (new:cT X.prog X.w (upd H a o) h' a o) :
  Inv X pins σ (upd H a o) { s with heap:=h',toks:=t' }:=I.un (Un.laid k hp (I.hok.fresh hp)) (I.hok.laid k hp new)
theorem Inv.write (I:Inv X pins σ H s) (mu:Mut (H x)) (he:e=x\/H e=some (.own x)) (k:∀b u,b≠e->s.heap.get? b=some u->h'.get? b=some u) (heo:∃u,h'.get? e=some u) (new:cT X.prog X.w (upd H x o) h' x o):Inv X pins σ (upd H x o) { s with heap:=h',toks:=t' }:=I.un (Un.write mu he k heo) (I.hok.write mu he k heo new)
theorem Inv.weak (I:Inv X pins σ H s) (hl:σ'.length=σ.length) (w:∀(i:Nat) v,σ'[i]?=some (some v)->σ[i]?=some (some v)):Inv X pins σ' H s :=
 ⟨I.ok,I.os,I.bare,I.base,let ⟨m,hn,hl'⟩:=I.loc;⟨m,hn,λi x v e1 e2 e3=>hl' i x v e1 (w i v e2) e3⟩,I.cell,I.free,I.freeC,I.pin,I.hok,hl.trans I.len⟩
theorem Inv.pins_of (I:Inv X pins σ H s) (h:∀p∈pins',s.heap.get? p.1=some p.2/\H p.1=none/\p.1≠X.env.locals/\p.1∉X.fs/\∀v,p.2.data≠.cell v):Inv X pins' σ H s :=
 ⟨I.ok,I.os,I.bare,I.base,I.loc,I.cell,I.free,I.freeC,λp hp=>(Z5.mp hp).elim (λz=>I.pin p (Zm _ z)) (h p),I.hok,I.len⟩
theorem pO {N:List Str} (hN:N.Nodup) {i j:Nat} {x:Str} (a:N[i]?=some x) (b:N[j]?=some x):i=j:=by
 obtain ⟨h1,e1⟩:=ZA.mp a;obtain ⟨h2,e2⟩:=ZA.mp b;exact (List.getElem_inj hN).mp (e1.trans e2.symm)
theorem Ab (I:Inv X pins σ H s) (hN:X.N.Nodup) (hi:X.N[i]?=some x) (hx:Loc X.env.scope x) (r:RelV v u) (h:∀s',Inv X pins (σ.set i (some v)) H s'->(∃a,Heap.SameBut a s.heap s'.heap/\(a=X.env.locals\/X.env.cells.lookup x=some a))->Q () s') (hf:X.fn x=true\/X.env.scope.names.lookup x=some .local:=by first | exact .inl rfl | exact .inr rfl | assumption):wpAny M A (storeName X.env x u) Q E s:=by
 obtain ⟨m,hn,hl⟩:=id I.loc;have hcls:(X.env.scope.kind == .class || (X.env.scope.kind == .module && X.env.locals != X.env.globals))=false:=by rw [I.ok.kind];rfl
 have hiσ:i<σ.length:=by rw [I.len];exact (ZA.mp hi).1
 have cne:=I.cne;have tracked:∀{a:Is} {h':N0},(∃o,s.heap.get? a=some o/\H a=none)->Heap.SameBut a s.heap h'->HOk X.prog X.w H h':=fun {a h'} ha hs b ob e=>by
  obtain ⟨_,_,hfree⟩:=ha;refine (I.hok b ob e).stay (λc w' hc q=>(hs.2 c ?_).trans q) (λ_ q=>q) λ_ _ q=>q
  rintro rfl;rcases hc with rfl | hc
  ·rw [hfree]at e;cases e
  ·rw [hfree]at hc;cases hc
 rcases hx with hk | hk
 ·refine wpAny_storeName_local hk hn (λh' hn' hs=>?_) hcls
  obtain ⟨oL,_,_,hoL,_⟩:=id hn;refine h _ ⟨I.ok,I.os,I.bare,⟨λb o e n hb hx=>?_,λb o e n hb hx=>?_,I.base.free,λb o e hx=>?_,I.base.tups,I.base.frzs,I.base.tbls⟩,⟨_,hn',λj y v' e1 e2 e3=>?_⟩,λy c e=>?_,I.free,I.freeC,λp hp=>?_,tracked ⟨oL,hoL,I.free⟩ hs,by simpa using I.len⟩ ⟨_,hs,.inl rfl⟩
  ·exact (hs.2 b (Ys (Yt (Zg e) I.ok.above))).trans (I.base.keep b o e n hb hx)
  ·obtain ⟨sl,e1⟩:=I.base.slot b o e n hb hx
   exact ⟨sl,(hs.2 b (Ys (Yt (Zg e) I.ok.above))).trans e1⟩
  ·obtain ⟨o',e1⟩:=I.base.there b o e hx
   exact ⟨o',(hs.2 b (Ys (Yt (Zg e) I.ok.above))).trans e1⟩
  ·by_cases hj:j=i
   ·subst hj
    rw [hi]at e1;cases e1;rw [Ym hiσ]at e2;cases e2;exact ⟨u,r,.inl ⟨hk,by simp⟩⟩
   ·rw [Yi (Xj hj)]at e2
    obtain ⟨u',r',q⟩:=hl j y v' e1 e2 e3;refine ⟨u',r',?_⟩;rcases q with ⟨k,e⟩ | ⟨k,c,e,z⟩
    ·refine .inl ⟨k,?_⟩
     have:y≠x:=λe=>hj (pO hN e1 (e▸hi))
     simp [this,e]
    ·exact .inr ⟨k,c,e,z.sameBut hs (cne y c e)⟩
  ·obtain ⟨w',z⟩:=I.cell y c e
   exact ⟨w',z.sameBut hs (cne y c e)⟩
  ·obtain ⟨e,n,ne,nf,d⟩:=I.pin p hp
   exact ⟨(hs.2 p.1 ne).trans e,n,ne,nf,d⟩
 ·have hfn:X.fn x=true:=by
   rcases hf with z | z
   ·exact z
   ·rw [z]at hk;cases hk
  obtain ⟨c,hc⟩:=I.ok.has x (.inl hk);obtain ⟨w',z⟩:=I.cell x c hc;refine wpAny_storeName_cell I.ok.kind hk hc z (λh' hc' hs=>?_)
  obtain ⟨oc,hoc,hocd⟩:=id z;refine h { s with heap:=h' } ⟨I.ok,I.os,I.bare,⟨λb o e n hb hx=>?_,λb o e n hb hx=>?_,I.base.free,λb o e hx=>?_,I.base.tups,I.base.frzs,I.base.tbls⟩,⟨m,hn.sameBut hs (Xj (cne x c hc)),λj y v' e1 e2 e3=>?_⟩,λy c' e=>?_,I.free,I.freeC,λp hp=>?_,tracked ⟨oc,hoc,I.freeC x c hc⟩ hs,by simpa using I.len⟩ ⟨c,hs,.inr hc⟩
  ·exact (hs.2 b (Ys (Yt (Zg e) (I.ok.cab x c hfn hc)))).trans (I.base.keep b o e n hb hx)
  ·obtain ⟨sl,e1⟩:=I.base.slot b o e n hb hx
   exact ⟨sl,(hs.2 b (Ys (Yt (Zg e) (I.ok.cab x c hfn hc)))).trans e1⟩
  ·obtain ⟨o',e1⟩:=I.base.there b o e hx
   exact ⟨o',(hs.2 b (Ys (Yt (Zg e) (I.ok.cab x c hfn hc)))).trans e1⟩
  ·by_cases hj:j=i
   ·subst hj
    rw [hi]at e1;cases e1;rw [Ym hiσ]at e2;cases e2;exact ⟨u,r,.inr ⟨.inl hk,c,hc,hc'⟩⟩
   ·rw [Yi (Xj hj)]at e2
    obtain ⟨u',r',q⟩:=hl j y v' e1 e2 e3;refine ⟨u',r',?_⟩;rcases q with q | ⟨k,c',e,z'⟩
    ·exact .inl q
    ·refine .inr ⟨k,c',e,z'.sameBut hs ?_⟩
     rintro rfl;exact hj (pO hN e1 (I.ok.inj _ _ _ e hc▸hi))
  ·by_cases hcc:c'=c
   ·subst hcc;exact ⟨_,hc'⟩
   ·obtain ⟨w2,z2⟩:=I.cell y c' e
    exact ⟨w2,z2.sameBut hs hcc⟩
  ·obtain ⟨e,n,ne,nf,d⟩:=I.pin p hp
   refine ⟨(hs.2 p.1 ?_).trans e,n,ne,nf,d⟩;intro q;rw [q,hoc]at e;have q':oc=p.2:=Yv e;exact d w' (by rw [<-q'];exact hocd)
theorem jB (I:Inv X pins σ H s) (hN:X.N.Nodup) (hi:X.N[i]?=some x) (hx:Loc X.env.scope x) (r:RelV v u) (h:∀s',Inv X pins (σ.set i (some v)) H s'->Q () s') (hf:X.fn x=true\/X.env.scope.names.lookup x=some .local:=by first | exact .inl rfl | exact .inr rfl | assumption):wpAny M A (storeName X.env x u) Q E s :=
 Ab I hN hi hx r (λs' I' _=>h s' I') hf
theorem Inv.call' (I:Inv X pins σ H s) (ho:s'.os=s.os) (u:Un (frs X.stack) ch H H' s.heap s'.heap) (hok:HOk X.prog X.w H' s'.heap) (hg:AllBare s'.gens) (hch:∀b∈ch,(b∈X.ex\/X.s₀.heap.objs.size<=b)/\b≠X.env.locals/\(∀x c,X.env.cells.lookup x=some c->c≠b)/\∀p∈X.pn++pins,p.1≠b):Inv X pins σ H' s':=by
 obtain ⟨h',g',d',t',o'⟩:=s';have e:o'=s.os:=ho;subst e;exact I.call (g':=g') (t':=t') (d':=d') u hok hg hch
end
abbrev XK:=Db->Option Is->Hp->Prop
abbrev St:=List (Option V)
abbrev VK:=V->Hp->Prop
abbrev TE:=St->Hp->VK->Prop
abbrev TT:=St->Hp->(Bool->Hp->Prop)->Prop
abbrev TA:=St->Hp->(List V->Hp->Prop)->Prop
structure Ends where
 nx:St->Hp->Prop
 rt:VK
 bk:St->Hp->Prop:=λ_ _=>False
 ct:St->Hp->Prop:=λ_ _=>False
abbrev TS:=Ends->St->Hp->Prop
def EP (X:Cx) (pins:List (Is×Obj)) (σ:St) (Q:VK) (u:Db) (s':Da):Prop:=∃v H',Inv X pins σ H' s'/\RelV v u/\Q v H'
def TP (X:Cx) (pins:List (Is×Obj)) (σ:St) (Q:Bool->Hp->Prop) (b:Bool) (s':Da):Prop:=∃H',Inv X pins σ H' s'/\Q b H'
def AP (X:Cx) (pins:List (Is×Obj)) (σ:St) (Q:List V->Hp->Prop) (us:List Db) (s':Da):Prop:=∃vs H',Inv X pins σ H' s'/\Vals vs us/\Q vs H'
def SP (X:Cx) (pins:List (Is×Obj)) (D:Ends) (f:Flow) (s':Da):Prop :=
 match f with
 |.next=>∃σ' H',Inv X pins σ' H' s'/\D.nx σ' H'
 |.brk=>∃σ' H',Inv X pins σ' H' s'/\D.bk σ' H'
 |.cont=>∃σ' H',Inv X pins σ' H' s'/\D.ct σ' H'
 |.ret u=>∃v σ' H',Inv X pins σ' H' s'/\RelV v u/\D.rt v H'
def PE (X:Cx) (e:M2) (t:TE):Prop :=
 ∀(pins:List (Is×Obj)) (s:Da) (σ:St) (H:Hp) (Q:VK),Inv X pins σ H s->t σ H Q->wpAny (model X.prog X.w) X.A (eval e X.env) (EP X pins σ Q) X.xe s
def PT (X:Cx) (e:M2) (t:TT):Prop :=
 ∀(pins:List (Is×Obj)) (s:Da) (σ:St) (H:Hp) (Q:Bool->Hp->Prop),Inv X pins σ H s->t σ H Q->wpAny (model X.prog X.w) X.A (isTrue e X.env (eval e X.env)) (TP X pins σ Q) X.xe s
def PW (X:Cx) (e:M2) (t:TT):Prop :=
 ∀(whole:Sem Db) (pins:List (Is×Obj)) (s:Da) (σ:St) (H:Hp) (Q:Bool->Hp->Prop),Inv X pins σ H s->t σ H Q->wpAny (model X.prog X.w) X.A (isTrue e X.env whole) (TP X pins σ Q) X.xe s
theorem PW.pt (h:PW X e t):PT X e t:=h _
def PA (X:Cx) (es:List M2) (t:TA):Prop :=
 ∀(pos:Pos) (pins:List (Is×Obj)) (s:Da) (σ:St) (H:Hp) (Q:List V->Hp->Prop),Inv X pins σ H s->t σ H Q->wpAny (model X.prog X.w) X.A (spliced (backTo pos (starEach es X.env))) (AP X pins σ Q) X.xe s
def PS (X:Cx) (st:Ix) (t:TS):Prop :=
 ∀(pins:List (Is×Obj)) (s:Da) (σ:St) (H:Hp) (D:Ends),Inv X pins σ H s->t D σ H->wpAny (model X.prog X.w) X.A (exec st X.env) (SP X pins D) X.xe s
def PSs (X:Cx) (st:List Ix) (t:TS):Prop :=
 ∀(pins:List (Is×Obj)) (s:Da) (σ:St) (H:Hp) (D:Ends),Inv X pins σ H s->t D σ H->wpAny (model X.prog X.w) X.A (execs st X.env) (SP X pins D) X.xe s
theorem thn (h:wpAny M A t Q E s) (hQ:∀a s,Q a s->Q' a s):wpAny M A t Q' E s:=Xp h hQ λ_ _ x=>x
section
variable {X:Cx}
def fm (i:Nat):TE:=fun σ H Q=>∃v,σ[i]?=some (some v)/\Q v H
def tC (v:V):TE:=λ_ H Q=>Q v H
theorem aK (hN:X.N[i]?=some x) (hv:Vis X.env.scope x) (hd:(x == ("__debug__" : Str))=false:=by decide) (hcd:(x == ("__classdict__" : Str))=false:=by decide):PE X (.Name x pos) (fm i):=by
 intro pins s σ H Q I h;obtain ⟨v,e,h⟩:=h;obtain ⟨m,hn,hl⟩:=I.loc;obtain ⟨u,r,l⟩:=hl i x v hN e hv;have fin:EP X pins σ Q u s:=⟨v,H,I,r,h⟩;rcases l with ⟨hk,hm⟩ | ⟨hk,c,hc,hcell⟩
 ·exact wpAny_Name (wpAny_loadName_local I.ok.kind hk hn hm fin) hd
 ·rcases hk with hk | hk
  ·exact wpAny_Name (wpAny_loadName_cell I.ok.kind hk hc hcell fin) hd
  ·exact wpAny_Name (wpAny_loadName_free I.ok.kind hk hc hcell fin hcd) hd
theorem nW {i j pos}:PE X (.Constant (.int i) j pos) (tC (.int i)):=λ_ _ _ H _ I h=>wpAny_Constant_int ⟨.int i,H,I.tok _,⟨_,rfl⟩,h⟩
theorem Kc {b j pos}:PE X (.Constant (.bool b) j pos) (tC (.bl b)):=λ_ _ _ H _ I h=>Constant_bool ⟨.bl b,H,I,rfl,h⟩
theorem BF {x j pos}:PE X (.Constant (.str x) j pos) (tC (.str x)):=λ_ _ _ H _ I h=>Calls.Constant_str ⟨.str x,H,I.tok _,⟨_,rfl⟩,h⟩
def Gl (X:Cx) (x:Str):Prop:=X.env.kindOf x=some .globalImplicit
theorem kJ (I:Inv X pins σ H s) (hg:Gl X x) (hm:X.mg x=some u) (h:Q u s) (hd:(x == ("__debug__" : Str))=false:=by decide):wpAny (model X.prog X.w) X.A (eval (.Name x pos) X.env) Q E s :=
 Calls.Name_function_global I.ok.kind hg (Calls.loadGlobal_global (by rw [I.ok.glob];exact I.mod.glob.keeps I.bk) hm h) hd
theorem gv (I:Inv X pins σ H s) (hg:Gl X x) (hm:X.mg x=none) (hv:bootBuiltins x=some u) (h:Q u s) (hn:x ≠ "__name__" := by decide) (hd:(x == ("__debug__" : Str))=false:=by decide):wpAny (model X.prog X.w) X.A (eval (.Name x pos) X.env) Q E s:=by
 obtain ⟨mb,h1,h2⟩:=I.mod.blt;exact Calls.Name_function_global I.ok.kind hg (Calls.loadGlobal_builtin (by rw [I.ok.glob];exact I.mod.glob.keeps I.bk) hm (by rw [I.ok.blt];exact h1.keeps I.bk) ((h2 x hn).trans hv) h) hd
theorem yx (hg:Gl X x) (hm:X.mg x=some u) (r:RelV v u) (hd:(x == ("__debug__" : Str))=false:=by decide):PE X (.Name x pos) (tC v) :=
 λ_ _ _ H _ I h=>kJ I hg hm ⟨v,H,I,r,h⟩ hd
theorem yG (hg:Gl X x) (hm:X.mg x=none) (hv:bootBuiltins x=some u) (r:RelV v u) (hn:x ≠ "__name__" := by decide) (hd:(x == ("__debug__" : Str))=false:=by decide):PE X (.Name x pos) (tC v) :=
 λ_ _ _ H _ I h=>gv I hg hm hv ⟨v,H,I,r,h⟩ hn hd
variable {ta tb:TE}
theorem vS (b:M2) (h:op≠.In) (h2:op≠.NotIn):behindInMarks op b=false:=by
 have e1:(op == CmpOp.In)=false:=by cases op <;> first | rfl | exact absurd rfl h
 have e2:(op == CmpOp.NotIn)=false:=by cases op <;> first | rfl | exact absurd rfl h2
 cases b <;> simp [behindInMarks,e1,e2]
def tB (t:TE):TT:=fun σ H Q=>t σ H λx H1=>∃c,x=.bl c/\Q c H1
theorem GP (h:PE X e t) (he:∀whole,isTrue e X.env whole=(do let v <-whole;standAt e.pos;holding [v] (truthy v)):=by intro _;rfl):PT X e (tB t):=by
 intro pins s σ H Q I hw;refine isTrue_plain (thn (h pins s σ H _ I hw) λv s1 ⟨x,H1,I1,r1,q1⟩=>?_) (he _)
 obtain ⟨d,rfl,q⟩:=q1;cases r1;exact Xe ⟨H1,I1,q⟩
variable {rest:List M2}
def K6 (t u:TT):TT:=fun σ H Q=>t σ H λc H1=>if c=true then u σ H1 Q else Q false H1
def tOr (t u:TT):TT:=fun σ H Q=>t σ H λc H1=>if c=true then Q true H1 else u σ H1 Q
def Kz (t:TT):TT:=fun σ H Q=>t σ H λc H1=>Q (!c) H1
theorem Dv (ha:PT X a tA):PW X (.BoolOp .And [a] pos) tA:=by
 intro wh pins s σ H Q I h;refine isTrue_and (thn (ha pins s σ H Q I h) λc s1 e=>?_)
 cases c with
 |true=>exact isTrue_and_nil e
 |false=>exact e
theorem Cp (ha:PT X a tA):PW X (.BoolOp .Or [a] pos) tA:=by
 intro wh pins s σ H Q I h;refine isTrue_or (thn (ha pins s σ H Q I h) λc s1 e=>?_)
 cases c with
 |false=>exact isTrue_or_nil e
 |true=>exact e
theorem JD (ha:PT X a tA) (hb:PW X (.BoolOp .And (b :: rest) pos) tB'):PW X (.BoolOp .And (a :: b :: rest) pos) (K6 tA tB'):=by
 intro wh pins s σ H Q I h;refine isTrue_and (thn (ha pins s σ H _ I h) λc s1 ⟨H1,I1,q1⟩=>?_)
 cases c with
 |true=>exact hb wh pins s1 σ H1 Q I1 q1
 |false=>exact ⟨H1,I1,q1⟩
theorem FO (ha:PT X a tA) (hb:PW X (.BoolOp .Or (b :: rest) pos) tB'):PW X (.BoolOp .Or (a :: b :: rest) pos) (tOr tA tB'):=by
 intro wh pins s σ H Q I h;refine isTrue_or (thn (ha pins s σ H _ I h) λc s1 ⟨H1,I1,q1⟩=>?_)
 cases c with
 |true=>exact ⟨H1,I1,q1⟩
 |false=>exact hb wh pins s1 σ H1 Q I1 q1
theorem Io (ha:PT X a tA):PT X (.UnaryOp .Not a pos) (Kz tA):=by
 intro pins s σ H Q I h;exact isTrue_not (ha pins s σ H (λc H1=>Q (!c) H1) I h)
def Fv (ta tb:TE):TE:=fun σ H Q=>ta σ H λx H1=>∃c,x=.bl c/\if c=true then tb σ H1 Q else Q (.bl false) H1
def Lh (ta tb:TE):TE:=fun σ H Q=>ta σ H λx H1=>∃c,x=.bl c/\if c=true then Q (.bl true) H1 else tb σ H1 Q
def Fz (ta:TE):TE:=fun σ H Q=>ta σ H λx H1=>∃c,x=.bl c/\Q (.bl (!c)) H1
theorem HE {op} (h:PE X a t):PE X (.BoolOp op [a] pos) t:=λpins s σ H Q I hw=>BoolOp_one (h pins s σ H Q I hw)
theorem GD (ha:PE X a ta) (hb:PE X (.BoolOp .And (b :: rest) pos) tb):PE X (.BoolOp .And (a :: b :: rest) pos) (Fv ta tb):=by
 intro pins s σ H Q I h;refine BoolOp_and (thn (ha pins s σ H _ I h) λv s1 ⟨x,H1,I1,r1,q1⟩=>?_)
 obtain ⟨c,rfl,q1⟩:=q1;cases r1;refine Xe ?_;cases c with
 |true=>exact hb pins s1 σ H1 Q I1 q1
 |false=>exact ⟨.bl false,H1,I1,rfl,q1⟩
theorem KA (ha:PE X a ta) (hb:PE X (.BoolOp .Or (b :: rest) pos) tb):PE X (.BoolOp .Or (a :: b :: rest) pos) (Lh ta tb):=by
 intro pins s σ H Q I h;refine BoolOp_or (thn (ha pins s σ H _ I h) λv s1 ⟨x,H1,I1,r1,q1⟩=>?_)
 obtain ⟨c,rfl,q1⟩:=q1;cases r1;refine Xe ?_;cases c with
 |false=>exact hb pins s1 σ H1 Q I1 q1
 |true=>exact ⟨.bl true,H1,I1,rfl,q1⟩
theorem HB (ha:PE X a ta):PE X (.UnaryOp .Not a pos) (Fz ta):=by
 intro pins s σ H Q I h;refine UnaryOp_ (thn (ha pins s σ H _ I h) λv s1 ⟨x,H1,I1,r1,q1⟩=>?_)
 obtain ⟨c,rfl,q1⟩:=q1;cases r1;exact not_of (Xe ⟨.bl (!c),H1,I1,rfl,q1⟩)
def tIf (t:TT) (ta tb:TE):TE:=fun σ H Q=>t σ H λc H1=>if c=true then ta σ H1 Q else tb σ H1 Q
theorem Bt (hc:PT X c tA) (ha:PE X a ta) (hb:PE X b tb):PE X (.IfExp c a b pos) (tIf tA ta tb):=by
 intro pins s σ H Q I h;refine wpAny_IfExp (thn (hc pins s σ H _ I h) λd s1 ⟨H1,I1,q1⟩=>?_)
 cases d with
 |true=>exact ha pins s1 σ H1 Q I1 q1
 |false=>exact hb pins s1 σ H1 Q I1 q1
end
def SqL (K:At) (H:Hp) (a:Is) (xs:List V):Prop :=
 Rd H a (.lst xs) \/
  ∃(o:Obj) (its:Array Db) (n:Nat),K.lookup a=some o/\o.cls=.type "list" /\ o.dict=none/\o.data=.seq its n/\its.size<=sizeLine/\Vals xs its.toList
def SqT (K:At) (H:Hp) (a:Is) (xs:List V):Prop :=
 Rd H a (.tup xs) \/
  ∃(o:Obj) (its:Array Db) (n:Nat),K.lookup a=some o/\o.cls=.type "tuple" /\ o.data=.seq its n/\its.size<=sizeLine/\Vals xs its.toList
def ME:Db->Option V
 |.none=>some .non
 |.bool b=>some (.bl b)
 |.int i _=>some (.int i)
 |.str x _=>some (.str x)
 |.bytes b _=>some (.byt b)
 |.float b _=>some (.flt b)
 |.ref a=>some (.ref a)
 |.type n=>some (.ty n)
 |_=>none
theorem RelV.abs (r:RelV x u):ME u=some x:=by
 cases x with
 |non=>cases r;rfl
 |bl _=>cases r;rfl
 |int _=>obtain ⟨t,rfl⟩:=r;rfl
 |str _=>obtain ⟨t,rfl⟩:=r;rfl
 |byt _=>obtain ⟨t,rfl⟩:=r;rfl
 |flt _=>obtain ⟨t,rfl⟩:=r;rfl
 |ref _=>cases r;rfl
 |ty _=>cases r;rfl
theorem RelV.inj (r:RelV x u) (q:RelV y u):x=y:=Yv (r.abs.symm.trans q.abs)
theorem Vals.inj:∀{xs ys:List V} {us:List Db},Vals xs us->Vals ys us->xs=ys
 |_,_,_,.nil,.nil=>rfl
 |_,_,_,.cons r t,.cons r' t'=>by rw [r.inj r',Vals.inj t t']
section
variable {X:Cx} {s:Da} {xs ys:List V}
theorem SqL.of {K:At} (h:H a=some (.lst xs)):SqL K H a xs:=.inl (.inl h)
theorem SqT.of {K:At} (h:H a=some (.tup xs)):SqT K H a xs:=.inl (.inl h)
theorem Inv.list (I:Inv X pins σ H s) (h:SqL X.K H a xs):∃its:List Db,Vals xs its/\PlainL s.heap a its.toArray/\xs.length<=sizeLine:=by
 rcases h with h | ⟨o,its,n,hk,hc,hd,hs,hz,r⟩
 ·obtain ⟨z,its,n,r,e⟩:=h.ok I.hok
  exact ⟨its,r,⟨_,n,e,rfl,rfl,rfl⟩,z⟩
 ·refine ⟨its.toList,r,⟨o,n,I.kIn a o hk,hc,hd,by simpa using hs⟩,?_⟩
  have e:=r.length;simp only [Xx]at e
  lia
theorem Inv.tuple (I:Inv X pins σ H s) (h:SqT X.K H a xs):∃its:List Db,Vals xs its/\IsTup s.heap a its.toArray/\xs.length<=sizeLine:=by
 rcases h with h | ⟨o,its,n,hk,hc,hs,hz,r⟩
 ·obtain ⟨z,its,r,p⟩:=h.ok I.hok
  exact ⟨its,r,p,z⟩
 ·refine ⟨its.toList,r,⟨o,I.kIn a o hk,hc,n,by simpa using hs⟩,?_⟩
  have e:=r.length;simp only [Xx]at e
  lia
theorem Inv.list_inj (I:Inv X pins σ H s) (h:SqL X.K H a xs) (h':SqL X.K H a ys):xs=ys:=by
 obtain ⟨its,r,⟨o,n,e,_,_,d⟩,_⟩:=I.list h;obtain ⟨its',r',⟨o',n',e',_,_,d'⟩,_⟩:=I.list h';rw [e]at e';cases e';rw [d]at d';injection d' with d1 _
 have:its=its':=by simpa using Yl Array.toList d1
 subst this;exact r.inj r'
theorem Inv.tuple_inj (I:Inv X pins σ H s) (h:SqT X.K H a xs) (h':SqT X.K H a ys):xs=ys:=by
 obtain ⟨its,r,⟨o,e,_,n,d⟩,_⟩:=I.tuple h;obtain ⟨its',r',⟨o',e',_,n',d'⟩,_⟩:=I.tuple h';rw [e]at e';cases e';rw [d]at d';injection d' with d1 _
 have:its=its':=by simpa using Yl Array.toList d1
 subst this;exact r.inj r'
end
abbrev Cx.wish (X:Cx) (E:Db->Da->Prop):Cx:={ X with xe:=E }
abbrev Cx.nox (X:Cx):Cx:=X.wish λ_ _=>False
theorem Cx.Ok.wish {X:Cx} (ok:X.Ok) (E:Db->Da->Prop):(X.wish E).Ok :=
 ⟨ok.mod,ok.kind,ok.glob,ok.blt,ok.above,ok.inj,ok.has,ok.cab,ok.hd,ok.frames,ok.stk,ok.exf,ok.bs,ok.bsz,ok.noex,ok.exfs,ok.funs,ok.frf⟩
theorem Cx.Ok.unwish {X:Cx} {E:Db->Da->Prop} (ok:(X.wish E).Ok):X.Ok :=
 ⟨ok.mod,ok.kind,ok.glob,ok.blt,ok.above,ok.inj,ok.has,ok.cab,ok.hd,ok.frames,ok.stk,ok.exf,ok.bs,ok.bsz,ok.noex,ok.exfs,ok.funs,ok.frf⟩
section
variable {X:Cx}
theorem Inv.wish (I:Inv X pins σ H s) (E:Db->Da->Prop):Inv (X.wish E) pins σ H s:=⟨I.ok.wish E,I.os,I.bare,I.base,I.loc,I.cell,I.free,I.freeC,I.pin,I.hok,I.len⟩
theorem Inv.unwish (I:Inv (X.wish E) pins σ H s):Inv X pins σ H s:=⟨I.ok.unwish,I.os,I.bare,I.base,I.loc,I.cell,I.free,I.freeC,I.pin,I.hok,I.len⟩
theorem SP.unwish (h:SP (X.wish E) pins D f s'):SP X pins D f s':=by
 cases f with
 |next=>obtain ⟨σ',H',I,q⟩:=h;exact ⟨σ',H',I.unwish,q⟩
 |brk=>obtain ⟨σ',H',I,q⟩:=h;exact ⟨σ',H',I.unwish,q⟩
 |cont=>obtain ⟨σ',H',I,q⟩:=h;exact ⟨σ',H',I.unwish,q⟩
 |ret u=>obtain ⟨v,σ',H',I,r,q⟩:=h;exact ⟨v,σ',H',I.unwish,r,q⟩
theorem PSs.nox {st:List Ix} (h:PSs X.nox st t):PSs X st t:=λpins s σ H D I hw =>
 Xp (h pins s σ H D (I.wish _) hw) (λ_ _ q=>q.unwish) λ_ _ z=>False.elim z
end
section
variable {X:Cx} {st:Ix} {rest:List Ix} {t u:TS} {te:TE} {pos:Pos}
def FK:TS:=λD σ H=>D.nx σ H
def LH (t u:TS):TS:=λD σ H=>t { D with nx:=u D } σ H
theorem ud:PSs X [] FK:=λ_ _ σ H _ I h=>X7 ⟨σ,H,I,h⟩
theorem ni (h1:PS X st t) (h2:PSs X rest u):PSs X (st :: rest) (LH t u):=by
 intro pins s σ H D I h;refine wpAny_execs_cons (thn (h1 pins s σ H { D with nx:=u D } I h) λf s1 q=>?_)
 cases f with
 |next =>
  obtain ⟨σ',H',I',q⟩:=q;exact h2 pins s1 σ' H' D I' q
 |ret v=>exact q
 |brk=>exact q
 |cont=>exact q
theorem pD (h1:PS X st t):PSs X [st] t:=by
 intro pins s σ H D I h;refine wpAny_execs_cons (thn (h1 pins s σ H D I h) λf s1 q=>?_)
 cases f with
 |next=>exact X7 q
 |ret v=>exact q
 |brk=>exact q
 |cont=>exact q
theorem Inv.quiet (I:Inv X pins σ H s):interactive X.env=false:=by simp [interactive,I.ok.kind]
def nF (te:TE):TS:=λD σ H=>te σ H λ_ H1=>D.nx σ H1
theorem nH (he:PE X e te) (hs:swapsWith e none pos.line X.env=pure false:=by rfl):PS X (.Expr e pos) (nF te):=by
 intro pins s σ H D I h;exact wpAny_Expr_any (thn (he pins s σ H _ I h) λv s1 ⟨x,H1,I1,r1,q1⟩=>⟨σ,H1,I1,q1⟩) I.quiet hs
def CV (te:TE):TS:=λD σ H=>te σ H D.rt
theorem oR (he:PE X e te):PS X (.Return (some e) pos) (CV te):=by
 intro pins s σ H D I h;exact wpAny_Return_some (thn (he pins s σ H _ I h) λv s1 ⟨x,H1,I1,r1,q1⟩=>⟨x,σ,H1,I1,r1,q1⟩)
def LR (c:TT) (t u:TS):TS:=λD σ H=>c σ H λb H1=>if b=true then t D σ H1 else u D σ H1
theorem yK (hc:PT X c tc) (ha:PSs X a t) (hb:PSs X b u):PS X (.If c a b pos) (LR tc t u):=by
 intro pins s σ H D I h;refine wpAny_If (thn (hc pins s σ H _ I h) λd s1 ⟨H1,I1,q1⟩=>?_)
 cases d with
 |true=>exact ha pins s1 σ H1 D I1 q1
 |false=>exact hb pins s1 σ H1 D I1 q1
def uQ:TS:=λ_ _ _=>False
theorem AI:PS X st uQ:=λ_ _ _ _ _ _ h=>h.elim
theorem sf:PSs X sts uQ:=λ_ _ _ _ _ _ h=>h.elim
end
abbrev TG:=V->St->Hp->(St->Hp->Prop)->Prop
abbrev TGs:=List V->St->Hp->(St->Hp->Prop)->Prop
def PG (X:Cx) (target:M2) (t:TG):Prop :=
 ∀(pins:List (Is×Obj)) (s:Da) (σ:St) (H:Hp) (v:V) (u:Db) (Q:St->Hp->Prop),Inv X pins σ H s->RelV v u->t v σ H Q ->
  wpAny (model X.prog X.w) X.A (assign target X.env u) (λ_ s'=>∃σ' H',Inv X pins σ' H' s'/\Q σ' H') X.xe s
def PGs (X:Cx) (ts:List M2) (t:TGs):Prop :=
 ∀(pins:List (Is×Obj)) (s:Da) (σ:St) (H:Hp) (vs:List V) (us:List Db) (Q:St->Hp->Prop),Inv X pins σ H s->Vals vs us->t vs σ H Q ->
  wpAny (model X.prog X.w) X.A (assignInOrder ((assignEach ts X.env).map (·.2)) us) (λ_ s'=>∃σ' H',Inv X pins σ' H' s'/\Q σ' H') X.xe s
abbrev Lm:=V->V->V->Hp->(Hp->Prop)->Prop
def JL (X:Cx) (t:Lm):Prop :=
 ∀(pins:List (Is×Obj)) (s:Da) (σ:St) (H:Hp) (o i v:V) (ov iv u:Db) (Q:Hp->Prop),Inv X pins σ H s->RelV o ov->RelV i iv->RelV v u->t o i v H Q ->
  wpAny (model X.prog X.w) X.A (setItem ov iv u) (λ_ s'=>∃H',Inv X pins σ H' s'/\Q H') X.xe s
abbrev TIp:=V->V->Hp->VK->Prop
def PIp (X:Cx) (op:Operator) (t:TIp):Prop :=
 ∀(pins:List (Is×Obj)) (s:Da) (σ:St) (H:Hp) (x y:V) (v u:Db) (Q:VK),Inv X pins σ H s->RelV x v->RelV y u->t x y H Q ->
  wpAny (model X.prog X.w) X.A (inplaceOp op v u) (EP X pins σ Q) X.xe s
section
variable {X:Cx} {pos:Pos}
def si (i:Nat):TG:=λv σ H Q=>Q (σ.set i (some v)) H
theorem El (hN:X.N.Nodup) (hi:X.N[i]?=some x) (hx:Loc X.env.scope x) (hf:X.fn x=true\/X.env.scope.names.lookup x=some .local:=by first | exact .inl rfl | exact .inr rfl | assumption):PG X (.Name x pos) (si i):=by
 intro pins s σ H v u Q I r h;exact wpAny_assign_Name (jB I hN hi hx r (λs' I'=>⟨_,H,I',h⟩) hf)
def J3:TGs:=λvs σ H Q=>vs=[]/\Q σ H
def E6 (t:TG) (u:TGs):TGs:=λvs σ H Q=>∃v r,vs=v :: r/\t v σ H fun σ' H'=>u r σ' H' Q
theorem Dm:PGs X [] J3:=by
 intro pins s σ H vs us Q I r h;obtain ⟨e,h⟩:=h;subst e;cases r;exact assignInOrder_nil ⟨σ,H,I,h⟩
theorem BY (h1:PG X e t) (h2:PGs X es u) (hs:(assignEach (e :: es) X.env).map (·.2)=assign e X.env :: (assignEach es X.env).map (·.2):=by rfl):PGs X (e :: es) (E6 t u):=by
 intro pins s σ H vs us Q I r h;obtain ⟨v,vr,e1,h⟩:=h;subst e1;cases r with
 |cons r rr =>
  rw [hs];refine assignInOrder_cons (thn (h1 pins s σ H _ _ _ I r h) λ_ s1 ⟨σ1,H1,I1,q1⟩=>?_)
  exact h2 pins s1 σ1 H1 _ _ Q I1 rr q1
def Kd (K:At) (n:Nat) (t:TGs):TG:=λv σ H Q=>∃a xs,v=.ref a/\SqT K H a xs/\xs.length=n/\t xs σ H Q
theorem HI (hc:X.calm=true) (h:PGs X es t) (hn:(assignEach es X.env).length=n:=by rfl) (hst:(assignEach es X.env).findIdx? (·.1)=none:=by rfl):PG X (.Tuple es k pos) (Kd X.K n t):=by
 intro pins s σ H v u Q I r hw;obtain ⟨a,xs,e1,hq,hl,hw⟩:=hw;subst e1;cases r;obtain ⟨its,rv,ht,hz⟩:=I.tuple hq;refine assign_Tuple_tuple (I.ok.hd hc) ht (by simp [hn,<-hl,rv.length]) hst λh' hx=>?_
 have I1:Inv X pins σ H { s with heap:=h' }:=I.kept (t':=s.toks) λb o e=>hx b o (Ys (Zg e)) e
 exact h pins _ σ H xs _ Q I1 (by simpa using rv) hw
def Jk (to ti:TE) (t:Lm):TG:=λv σ H Q=>to σ H λo H1=>ti σ H1 λi H2=>t o i v H2 λH3=>Q σ H3
theorem Ax (ho:PE X o to) (hi:PE X i ti) (hs:JL X t) (ha:∀v,assign (.Subscript o i pos) X.env v=(do
   let ov <-holding [v] (eval o X.env)
   let iv <-holding [v,ov] (eval i X.env)
   standAt pos
   holding [v,ov,iv] (setItem ov iv v)
   release [v,ov,iv] []):=by intro _;rfl):PG X (.Subscript o i pos) (Jk to ti t):=by
 intro pins s σ H v u Q I r h;rw [ha];refine Zr (wpAny_holding (thn (ho pins s σ H _ I h) λov s1 ⟨x,H1,I1,r1,q1⟩=>?_))
 refine Zr (wpAny_holding (thn (hi pins s1 σ H1 _ I1 q1) λiv s2 ⟨y,H2,I2,r2,q2⟩=>?_))
 refine Zr (Vj (Zr (wpAny_holding (thn (hs pins s2 σ H2 x y v ov iv u _ I2 r1 r2 r q2) λ_ s3 ⟨H3,I3,q3⟩=>?_))))
 exact wpAny_release ⟨σ,H3,I3,q3⟩
def sY (te:TE) (g:TG):TS:=λD σ H=>te σ H λx H1=>g x σ H1 D.nx
theorem xf {g:TG} (he:PE X e te) (hg:PG X tg g) (hs:swapsWithSole [tg] e pos.line X.env=pure false:=by rfl) (hw:swappedStores [tg] e X.env=pure none:=by rfl) (h1:(assignEach [tg] X.env).map (·.2)=[assign tg X.env]:=by rfl):PS X (.Assign [tg] e pos) (sY te g):=by
 intro pins s σ H D I h;refine wpAny_Assign_stores (thn (he pins s σ H _ I h) λv s1 ⟨x,H1,I1,r1,q1⟩=>?_) hs hw
 rw [h1];exact thn (hg pins s1 σ H1 x v _ I1 r1 q1) λ_ s2 q=>q
theorem wz (hN:X.N.Nodup) (hi:X.N[i]?=some x) (hx:Loc X.env.scope x) (he:PE X e te) (hs:swapsWith e (some (.Name x pos')) pos.line X.env=pure false:=by rfl) (hf:X.fn x=true\/X.env.scope.names.lookup x=some .local:=by first | exact .inl rfl | exact .inr rfl | assumption) :
  PS X (.Assign [.Name x pos'] e pos) (sY te (si i)):=by
 intro pins s σ H D I h;refine wpAny_Assign_Name (thn (he pins s σ H _ I h) λv s1 ⟨y,H1,I1,r1,q1⟩=>?_) hs
 exact jB I1 hN hi hx r1 (λs2 I2=>⟨_,H1,I2,q1⟩) hf
def LV (i:Nat) (te:TE) (ti:TIp):TS:=λD σ H=>∃x,σ[i]?=some (some x)/\te σ H λy H1=>ti x y H1 λz H2=>D.nx (σ.set i (some z)) H2
theorem Jx (hN:X.N.Nodup) (hi:X.N[i]?=some x) (hx:Loc X.env.scope x) (he:PE X e te) (ho:PIp X op ti) (hf:X.fn x=true\/X.env.scope.names.lookup x=some .local:=by first | exact .inl rfl | exact .inr rfl | assumption) :
  PS X (.AugAssign (.Name x pos') op e pos) (LV i te ti):=by
 intro pins s σ H D I h;obtain ⟨v,e1,h⟩:=h;obtain ⟨m,hn,hl⟩:=I.loc;have vis:Vis X.env.scope x:=by rcases hx with k | k;exact .inl k;exact .inr (.inl k)
 obtain ⟨u,r,l⟩:=hl i x v hi e1 vis;refine wpAny_AugAssign_Name ?_;have go:wpAny (model X.prog X.w) X.A (eval e X.env) (λw s₂=>wpAny (model X.prog X.w) X.A (inplaceOp op u w) (λr s₃=>wpAny (model X.prog X.w) X.A (storeName X.env x r) (λ_=>SP X pins D .next) X.xe s₃) X.xe s₂) X.xe s:=by
  refine thn (he pins s σ H _ I h) λw s1 ⟨y,H1,I1,r1,q1⟩=>?_
  refine thn (ho pins s1 σ H1 v y u w _ I1 r r1 q1) λz s2 ⟨zv,H2,I2,r2,q2⟩=>?_
  exact jB I2 hN hi hx r2 (λs3 I3=>⟨_,H2,I3,q2⟩) hf
 rcases l with ⟨hk,hm⟩ | ⟨hk,c,hc,hcell⟩
 ·exact wpAny_loadName_local I.ok.kind hk hn hm go
 ·rcases hk with hk | hk
  ·exact wpAny_loadName_cell I.ok.kind hk hc hcell go
  ·rcases hx with k | k
   ·have:X.env.scope.names.lookup x=some .free:=hk
    rw [k]at this;cases this
   ·have:X.env.scope.names.lookup x=some .free:=hk
    rw [k]at this;cases this
def ipI (f:Int->Int->Int):TIp:=λx y H Q=>∃i j,x=.int i/\y=.int j/\Q (.int (f i j)) H
theorem Iy:PIp X .Add (ipI λi j=>i+j):=by
 intro pins s σ H x y v u Q I r1 r2 h;obtain ⟨i,j,e1,e2,q⟩:=h;subst e1;subst e2;obtain ⟨t,rfl⟩:=r1;obtain ⟨t',rfl⟩:=r2;exact iadd_int ⟨.int _,H,I.tok _,⟨_,rfl⟩,q⟩
end
section
variable {X:Cx}
def Bi (c:TT) (tb:TS):TS:=λD σ H=>∃W:Nat->St->Hp->Prop,(∃m,W m σ H)/\∀m σ H,W m σ H ->
 c σ H λb H1=>if b=true then ∃N:St->Hp->Prop,(∀σ' H',N σ' H'->∃m',m'<m/\W m' σ' H')/\tb { D with nx:=N,ct:=N,bk:=D.nx } σ H1 else D.nx σ H1
theorem AA (hp:PassesOwn (model X.prog X.w) X.A X.env X.xe) (hc:PT X c tc) (hb:PSs X body tb):PS X (.While c body [] pos) (Bi tc tb):=by
 intro pins s σ H D I h;obtain ⟨W,⟨m0,w0⟩,turn⟩:=h;refine wpAny_While (codeAny_whileLoop (λn s'=>∃σ' H',Inv X pins σ' H' s'/\W n σ' H') ?_ m0 ⟨σ,H,I,w0⟩)
 rintro n s1 ⟨σ1,H1,I1,w1⟩;refine X8 hp (thn (hc pins s1 σ1 H1 _ I1 (turn n σ1 H1 w1)) λb s2 ⟨H2,I2,q2⟩=>?_)
 cases b with
 |true =>
  obtain ⟨N,hN,q2⟩:=q2;rw [N1 rfl];refine X8 hp (thn (hb pins s2 σ1 H2 _ I2 q2) λf s3 q3=>?_)
  cases f with
  |next =>
   obtain ⟨σ3,H3,I3,n3⟩:=q3;obtain ⟨m',hm,w3⟩:=hN σ3 H3 n3;exact ⟨m',hm,σ3,H3,I3,w3⟩
  |cont =>
   obtain ⟨σ3,H3,I3,n3⟩:=q3;obtain ⟨m',hm,w3⟩:=hN σ3 H3 n3;exact ⟨m',hm,σ3,H3,I3,w3⟩
  |brk=>exact q3
  |ret v=>exact q3
 |false =>
  rw [N2 Zo];exact X7 ⟨σ1,H2,I2,q2⟩
end
structure It where
 go:Nat->Hp->Prop
 yld:Nat->Hp->V->Hp->Prop
 stop:Nat->Hp->Prop
def o_ (X:Cx) (pins:List (Is×Obj)) (H:Hp) (b:Is):Prop :=
 H b=none/\b≠X.env.locals/\b∉X.fs/\(b∈X.ex\/X.s₀.heap.objs.size<=b)/\(∀x c,X.env.cells.lookup x=some c->c≠b)/\∀p∈X.pn++pins,p.1≠b
theorem Inv.fpOk (I:Inv X pins σ H s) (hb:s.heap.objs.size<=b) (hn:H' b=none):o_ X pins H' b:=by
 refine ⟨hn,Nat.ne_of_gt (Yt I.lt hb),I.nofs hb,.inr (Yg I.sz hb),λx c e z=>?_,λp hp z=>?_⟩
 ·obtain ⟨v,q⟩:=I.cell x c e
  exact absurd (Yt q.lt (by rw [z];exact hb)) (Xq _)
 ·exact absurd (Yt (Zg (I.pin p hp).1) (by rw [z];exact hb)) (Xq _)
structure Turn (P:Do) (w:Ev) (K:At) (tg:M2) (J:It) (fp:List Is) (it:Is) (tn:Nat->N0->Prop):Prop where
 mem:it∈fp
 obj:∀i h,tn i h->∀b∈fp,∃o,h.get? b=some o/\∀v,o.data≠.cell v
 keep:∀i h h',tn i h->(∀b∈fp,∀o,h.get? b=some o->h'.get? b=some o)->tn i h'
 item:∀(X:Cx),X.prog=P->X.w=w->X.K=K->X.calm=true->∀(i:Nat) (pins:List (Is×Obj)) (s:Da) (σ:St) (H:Hp) (E:Db->Da->Prop),Inv X pins σ H s->(∀b∈fp,o_ X pins H b)->tn i s.heap->J.go i H ->
  wpAny (model P w) X.A (pyNext (.ref it)) (λr s1=>∃u,r=some u /\
   wpAny (model P w) X.A (letOwnedTupleGo tg (.ref it) u) (λ_ s2=>∃x H',Inv X pins σ H' s2/\RelV x u/\J.yld i H x H'/\tn (i+1) s2.heap/\∀b∈fp,H' b=none) E s1) E s
 done:∀(X:Cx),X.prog=P->X.w=w->X.K=K->X.calm=true->∀(i:Nat) (pins:List (Is×Obj)) (s:Da) (σ:St) (H:Hp) (E:Db->Da->Prop),Inv X pins σ H s->(∀b∈fp,o_ X pins H b)->tn i s.heap->J.stop i H ->
  wpAny (model P w) X.A (pyNext (.ref it)) (λr s1=>r=none/\Inv X pins σ H s1) E s
 self:∀(A:Go) (i:Nat) (s:Da) (Q:Db->Da->Prop) (E:Db->Da->Prop),tn i s.heap->Q (.ref it) s->wpAny (model P w) A (pyIter (.ref it)) Q E s
abbrev TI:=St->Hp->(It->Hp->Prop)->Prop
def PIE (X:Cx) (pins:List (Is×Obj)) (σ:St) (tg:M2) (R:It->Hp->Prop) (itv:Db) (s2:Da):Prop :=
 ∃(it:Is) (fp:List Is) (tn:Nat->N0->Prop) (J:It) (H':Hp),itv=.ref it/\Inv X pins σ H' s2/\Turn X.prog X.w X.K tg J fp it tn/\tn 0 s2.heap/\(∀b∈fp,o_ X pins H' b)/\R J H'
def PI (X:Cx) (tg iter:M2) (wi:TI):Prop :=
 ∀(pins:List (Is×Obj)) (s:Da) (σ:St) (H:Hp) (R:It->Hp->Prop),Inv X pins σ H s->wi σ H R ->
  wpAny (model X.prog X.w) X.A (eval iter X.env) (λv s1=>wpAny (model X.prog X.w) X.A (pyIter v) (PIE X pins σ tg R) X.xe s1) X.xe s
theorem FW (ho:s.heap.get? it=some o) (hc:o.cls=.type n) (hd:o.data=.fields vs) (hn:["enumerate", "zip", "dict_itemiterator", "dict_reverseitemiterator", "odict_iterator", "itertools.zip_longest", "itertools.pairwise"].contains n=false) (hQ:Q () s):wpAny M A (letOwnedTupleGo tg (.ref it) u) Q E s:=by
  unfold letOwnedTupleGo;cases tg <;> first
    |exact Yn hQ
    | (cases u <;> first
        |exact Yn hQ
        | (refine Zr (wpAny_load ho ?_)
           rw [hc,hd];show wpAny M A (if (["enumerate", "zip", "dict_itemiterator", "dict_reverseitemiterator", "odict_iterator", "itertools.zip_longest", "itertools.pairwise"].contains n && vs[0]? == some (rawInt _))=true then _ else _) Q E s
           rw [N2 (by intro h;rw [hn,Bool.false_and]at h;cases h)]
           exact Yn hQ))
def Itl (K:At) (a:Is):It :=
 ⟨λi H=>∃xs x,SqL K H a xs/\xs[i]?=some x,λi H x H'=>H'=H/\∀xs,SqL K H a xs->xs[i]?=some x,λi H=>∃xs,SqL K H a xs/\xs.length<=i⟩
def Itr (lo:Int) (n:Nat):It:=⟨λi _=>i<n,λi H x H'=>H'=H/\x=.int (lo+i),λi _=>n<=i⟩
theorem za {P:Do} {w:Ev} {K:At} {tg:M2} (a it:Is):Turn P w K tg (Itl K a) [it] it (λi h=>h.IsListIter it a i) where
 mem:=by simp
 obj:=λi h st b hb=>by
  have e:b=it:=by simpa using hb
  subst e;obtain ⟨o,e,c,d⟩:=st;exact ⟨o,e,λv z=>by rw [d]at z;cases z⟩
 keep:=λi h h' st k=>st.at λo e=>k it (by simp) o e
 item:=by
  intro X hP hw hK hc i pins s σ H E I hf st hg;subst hP hw hK;obtain ⟨xs,x,hq,hx⟩:=hg;obtain ⟨its,rv,p,hz⟩:=I.list hq;obtain ⟨u,hu,ru⟩:=rv.get hx;obtain ⟨f0,f1,f2,f3,f4,f5⟩:=hf it (by simp)
  refine wpAny_pyNext_list_item st p.isList (x:=u) (by simpa using hu) λh' st' sb=>?_
  have I1:Inv X pins σ H { s with heap:=h' }:=I.turned (t':=s.toks) (λb o hb e=>(sb.2 b hb).trans e) f0 f1 f3 f4 f5
  obtain ⟨o,e,c,d⟩:=id st';exact ⟨u,rfl,FW (s:={ s with heap:=h' }) e c d (by decide) ⟨x,H,I1,ru,⟨rfl,λys hy=>by rw [I.list_inj hy hq];exact hx⟩,st',λb hb=>(hf b hb).1⟩⟩
 done:=by
  intro X hP hw hK hc i pins s σ H E I hf st hg;subst hP hw hK;obtain ⟨xs,hq,hx⟩:=hg;obtain ⟨its,rv,p,hz⟩:=I.list hq;obtain ⟨f0,f1,f2,f3,f4,f5⟩:=hf it (by simp)
  have hl:=rv.length;exact wpAny_pyNext_list_end (I.ok.hd hc) st p.isList (by simp;lia) λh' eb=>⟨rfl,I.turned (t':=s.toks) (λb o hb e=>eb b o hb e) f0 f1 f3 f4 f5⟩
 self:=λ_ _ _ _ _ st h=>wpAny_pyIter_listiter st h
theorem xi {P:Do} {w:Ev} {K:At} {tg:M2} (it:Is) (lo:Int) (n:Nat):Turn P w K tg (Itr lo n) [it] it (λi h=>IsRangeIter h it (lo+(i:Nat) * 1) ((n:Int)-(i:Nat)) 1) where
 mem:=by simp
 obj:=λi h st b hb=>by
  have e:b=it:=by simpa using hb
  subst e;exact ⟨_,st,λv z=>by
   have z':Data.fields _=Data.cell v:=z;cases z'⟩
 keep:=λi h h' st k=>k it (by simp) _ st
 item:=by
  intro X hP hw hK hc i pins s σ H E I hf st hg;subst hP hw hK;obtain ⟨f0,f1,f2,f3,f4,f5⟩:=hf it (by simp)
  have W:=Walks.range (prog:=X.prog) (w:=X.w) (I.ok.hd hc) it lo 1 n;refine W.item i s _ _ hg st λv h' tk hv st' kk=>?_
  obtain ⟨t,rfl⟩:=hv;have I1:Inv X pins σ H { s with heap:=h',toks:=tk }:=I.turned (λb o hb e=>kk b o (by simpa using hb) e) f0 f1 f3 f4 f5
  refine ⟨_,rfl,FW (s:={ s with heap:=h',toks:=tk }) (n := "range_iterator") st' rfl rfl (by decide) ⟨.int (lo+i),H,I1,⟨t,?_⟩,⟨rfl,rfl⟩,st',λb hb=>(hf b hb).1⟩⟩
  rw [Int.mul_one]
 done:=by
  intro X hP hw hK hc i pins s σ H E I hf st hg;subst hP hw hK;obtain ⟨f0,f1,f2,f3,f4,f5⟩:=hf it (by simp)
  exact wpAny_pyNext_range_end (I.ok.hd hc) st (by have:n<=i:=hg;lia) λh' eb=>⟨rfl,I.turned (t':=s.toks) (λb o hb e=>eb b o hb e) f0 f1 f3 f4 f5⟩
 self:=λ_ _ _ _ _ st h=>wpAny_pyIter_rangeiter st h
section
variable {X:Cx}
def FX (K:At) (tl:TE):TI:=fun σ H R=>tl σ H λx H1=>∃a,x=.ref a/\(∃xs,SqL K H1 a xs)/\R (Itl K a) H1
theorem Eb (hl:PE X l tl):PI X tg l (FX X.K tl):=by
 intro pins s σ H R I h;refine thn (hl pins s σ H _ I h) λv s1 ⟨x,H1,I1,r1,q1⟩=>?_
 obtain ⟨a,e,⟨xs,hq⟩,q⟩:=q1;subst e;cases r1;obtain ⟨its,rv,p,hz⟩:=I1.list hq;refine wpAny_pyIter_list p.isList ?_;refine ⟨s1.heap.objs.size,[s1.heap.objs.size],_,_,H1,rfl,I1.kept (t':=s1.toks) λb o e=>Zl _ e,za a _,⟨_,Yr _ rfl,rfl,rfl⟩,λb hb=>?_,q⟩
 have e:b=s1.heap.objs.size:=by simpa using hb
 subst e;exact I1.fpOk (Zi _) (I1.hok.fresh (Zi _))
theorem wc {R:It->Hp->Prop} {lo hi:Int} (I:Inv X pins σ H s) (h1:-(2 ^ 62)<=lo) (h2:lo<2 ^ 62) (h3:-(2 ^ 62)<=hi) (h4:hi<2 ^ 62) (q:R (Itr lo (hi-lo).toNat) H):wpAny (model X.prog X.w) X.A (pyIter (.ref s.heap.objs.size)) (PIE X pins σ tg R) E { s with heap:=s.heap.push { cls:=.type "range",data:=.fields #[.int lo t,.int hi u,.int 1 v] },toks:=tk }:=by
 refine wpAny_pyIter_range (IsRange.new ..) (small_one h1 h2 h3 h4) ?_;have I1:Inv X pins σ H { s with heap:=s.heap.push { cls:=.type "range",data:=.fields #[.int lo t,.int hi u,.int 1 v] },toks:=tk }:=I.kept λb o e=>Zl _ e
 refine ⟨(s.heap.push { cls:=.type "range",data:=.fields #[.int lo t,.int hi u,.int 1 v] }).objs.size,[(s.heap.push { cls:=.type "range",data:=.fields #[.int lo t,.int hi u,.int 1 v] }).objs.size],_,_,H,rfl,
  I1.kept (t':=tk) λb o e=>Zl _ e,xi _ lo (hi-lo).toNat,?_,λb hb=>?_,q⟩
 ·have e1:lo+((0:Nat):Int) * 1=lo:=by simp
  have e2:(((hi-lo).toNat:Nat):Int)-((0:Nat):Int)=Builtin.Range.rangeSize lo hi 1:=by rw [rangeSize_one];split <;> lia
  show IsRangeIter _ _ (lo+((0:Nat):Int) * 1) ((((hi-lo).toNat:Nat):Int)-((0:Nat):Int)) 1
  rw [e1,e2];exact Yr _ rfl
 ·have e:b=(s.heap.push { cls:=.type "range",data:=.fields #[.int lo t,.int hi u,.int 1 v] }).objs.size:=by simpa using hb
  subst e;exact I1.fpOk (Zi _) (I1.hok.fresh (Zi _))
def Fp (ta:TA):TI:=fun σ H R=>ta σ H λvs H1=>∃j:Int,vs=[.int j]/\-(2 ^ 62)<=j/\j<2 ^ 62/\R (Itr 0 j.toNat) H1
def Fu (ta:TA):TI:=fun σ H R=>ta σ H λvs H1=>∃i j:Int,vs=[.int i,.int j]/\(-(2 ^ 62)<=i/\i<2 ^ 62/\-(2 ^ 62)<=j/\j<2 ^ 62)/\R (Itr i (j-i).toNat) H1
theorem zy (hg:Gl X "range") (hm:X.mg "range" = none) (ha:PA X [a] ta) (hs:starEach [a] X.env=[(false,eval a X.env)]:=by rfl):PI X tg (.Call (.Name "range" p) [a] [] pos) (Fp ta):=by
 intro pins s σ H R I h;refine Call_ (gv I hg hm boot_range (Yc (thn (ha pos pins s σ H _ I h) λus s1 ⟨vs,H1,I1,r1,q1⟩=>?_) hs rfl))
 obtain ⟨j,e,q1,q2,q⟩:=q1;subst e;cases r1 with
 |cons r rr =>
  cases rr;obtain ⟨t,rfl⟩:=r;exact call_range_1 (wc I1 (by lia) (by lia) q1 q2 (by simpa using q))
theorem y_ (hg:Gl X "range") (hm:X.mg "range" = none) (ha:PA X [a,b] ta) (hs:starEach [a,b] X.env=[(false,eval a X.env),(false,eval b X.env)]:=by rfl) (hs2:starEach [b] X.env=[(false,eval b X.env)]:=by rfl) :
  PI X tg (.Call (.Name "range" p) [a,b] [] pos) (Fu ta):=by
 intro pins s σ H R I h;refine Call_ (gv I hg hm boot_range (Yc (thn (ha pos pins s σ H _ I h) λus s1 ⟨vs,H1,I1,r1,q1⟩=>?_) (by rw [hs,hs2]) (by rw [hs2];rfl)))
 obtain ⟨i,j,e,⟨q1,q2,q3,q4⟩,q⟩:=q1;subst e;cases r1 with
 |cons r rr =>
  cases rr with
  |cons r' rr =>
   cases rr;obtain ⟨t,rfl⟩:=r;obtain ⟨t',rfl⟩:=r';exact call_range_2 (wc I1 q1 q2 q3 q4 q)
def Kp (wi:TI) (g:TG) (tb:TS):TS:=λD σ H=>wi σ H λJ H1=>∃W:Nat->Nat->St->Hp->Prop,(∃m,W 0 m σ H1)/\∀i m σ H,W i m σ H ->
 (J.stop i H/\D.nx σ H)\/(J.go i H/\∃N:St->Hp->Prop,(∀σ' H',N σ' H'->∃m',m'<m/\W (i+1) m' σ' H')/\∀x H',J.yld i H x H'->g x σ H' fun σ2 H2=>tb { D with nx:=N,ct:=N,bk:=D.nx } σ2 H2)
def qV (fp:List Is) (h:N0):List (Is×Obj):=fp.filterMap λb=>(h.get? b).map λo=>(b,o)
theorem jN (hb:b∈fp) (e:h.get? b=some o):(b,o)∈qV fp h:=List.mem_filterMap.mpr ⟨b,hb,by rw [e];rfl⟩
theorem zF (hp:p∈qV fp h):p.1∈fp/\h.get? p.1=some p.2:=by
 obtain ⟨b,hb,e⟩:=List.mem_filterMap.mp hp;cases q:h.get? b with
 |none=>rw [q]at e;cases e
 |some o =>
  rw [q]at e;have e':(b,o)=p:=Yv e;subst e';exact ⟨hb,q⟩
theorem Inv.pinned (I:Inv X pins σ H s) (hf:∀b∈fp,o_ X pins H b) (ho:∀b∈fp,∃o,s.heap.get? b=some o/\∀v,o.data≠.cell v):Inv X (pins++qV fp s.heap) σ H s :=
 I.pins_of λp hp=>(Z5.mp hp).elim (λz=>I.pin p (Zt _ z)) λz=>by
  obtain ⟨hb,e⟩:=zF z;obtain ⟨f0,f1,f2,_⟩:=hf p.1 hb;obtain ⟨o,e',d⟩:=ho p.1 hb;rw [e]at e';cases e';exact ⟨e,f0,f1,f2,d⟩
theorem Inv.unpinned (I:Inv X (pins++pl) σ H s):Inv X pins σ H s:=I.pins_of λp hp=>I.pin p (Zt _ (Zm _ hp))
theorem HM {iter:M2} {g:TG} (hp:PassesOwn (model X.prog X.w) X.A X.env X.xe) (hc:X.calm=true) (hi:PI X tg iter wi) (hg:PG X tg g) (hb:PSs X body tb) (hs:∀x,foldedSetIterable iter X.env x=pure x:=by intro _;rfl):PS X (.For tg iter body [] pos) (Kp wi g tb):=by
 intro pins s σ H D I h;refine wpAny_For (thn (hi pins s σ H _ I h) λv s1 h1=>thn h1 λitv s2 h2=>?_) hs
 obtain ⟨it,fp,tn,J,H2,e,I2,T,st2,f2,W,⟨m0,w0⟩,turn⟩:=h2;subst e;have stat:∀{H':Hp},(∀b∈fp,H' b=none)->∀b∈fp,o_ X pins H' b:=λhn b hb=>⟨hn b hb,(f2 b hb).2⟩
 refine codeAny_forLoop_any (λn s'=>∃i σ' H',Inv X pins σ' H' s'/\tn i s'.heap/\(∀b∈fp,H' b=none)/\W i n σ' H') ?_ m0 ⟨0,σ,H2,I2,st2,λb hb=>(f2 b hb).1,w0⟩
 rintro n s3 ⟨i,σ3,H3,I3,st3,fr3,w3⟩;rcases turn i n σ3 H3 w3 with ⟨stop,qn⟩ | ⟨go,N,hN,step⟩
 ·refine X8 hp (thn (T.done X rfl rfl rfl hc i pins s3 σ3 H3 X.xe I3 (stat fr3) st3 stop) λr s4 ⟨hr,I4⟩=>?_)
  subst hr;exact X7 ⟨σ3,H3,I4,qn⟩
 ·refine X8 hp (thn (T.item X rfl rfl rfl hc i pins s3 σ3 H3 X.xe I3 (stat fr3) st3 go) λr s4 ⟨u,hr,h4⟩=>?_)
  subst hr;refine X8 hp (thn h4 λ_ s5 ⟨x,H5,I5,r5,y5,st5,fr5⟩=>?_)
  have I5':=I5.pinned (stat fr5) (T.obj _ _ st5);refine X8 hp (thn (hg _ s5 σ3 H5 x u _ I5' r5 (step x H5 y5)) λ_ s6 ⟨σ6,H6,I6,q6⟩=>?_)
  refine X8 hp (thn (hb _ s6 σ6 H6 _ I6 q6) λf s7 q7=>?_)
  have again:∀{σ7:St} {H7:Hp},Inv X (pins++qV fp s5.heap) σ7 H7 s7->N σ7 H7->∃m,m<n/\∃i σ' H',Inv X pins σ' H' s7/\tn i s7.heap/\(∀b∈fp,H' b=none)/\W i m σ' H':=fun {σ7 H7} I7 n7=>by
   obtain ⟨m',hm,w7⟩:=hN σ7 H7 n7;refine ⟨m',hm,i+1,σ7,H7,I7.unpinned,T.keep _ _ _ st5 λb hb o e=>(I7.pin (b,o) (Zt _ (Zt _ (jN hb e)))).1,λb hb=>?_,w7⟩
   obtain ⟨o,e,d⟩:=T.obj _ _ st5 b hb;exact (I7.pin (b,o) (Zt _ (Zt _ (jN hb e)))).2.1
  cases f with
  |next=>obtain ⟨σ7,H7,I7,n7⟩:=q7;exact again I7 n7
  |cont=>obtain ⟨σ7,H7,I7,n7⟩:=q7;exact again I7 n7
  |brk=>obtain ⟨σ7,H7,I7,q7⟩:=q7;exact ⟨σ7,H7,I7.unpinned,q7⟩
  |ret v=>obtain ⟨x7,σ7,H7,I7,r7,q7⟩:=q7;exact ⟨x7,σ7,H7,I7.unpinned,r7,q7⟩
end
abbrev R2:=V->V->Hp->VK->Prop
def OpR (X:Cx) (f:Db->Db->Sem Db) (r:R2):Prop :=
 ∀(pins:List (Is×Obj)) (s:Da) (σ:St) (H:Hp) (x y:V) (v u:Db) (Q:VK),Inv X pins σ H s->RelV x v->RelV y u->r x y H Q ->
  wpAny (model X.prog X.w) X.A (f v u) (EP X pins σ Q) X.xe s
def UnR (X:Cx) (f:Db->Sem Db) (r:V->Hp->VK->Prop):Prop :=
 ∀(pins:List (Is×Obj)) (s:Da) (σ:St) (H:Hp) (x:V) (v:Db) (Q:VK),Inv X pins σ H s->RelV x v->r x H Q ->
  wpAny (model X.prog X.w) X.A (f v) (EP X pins σ Q) X.xe s
def dR (X:Cx) (f:Db) (r:List V->Hp->VK->Prop):Prop :=
 ∀(pins:List (Is×Obj)) (s:Da) (σ:St) (H:Hp) (xs:List V) (us:List Db) (Q:VK),Inv X pins σ H s->Vals xs us->r xs H Q ->
  wpAny (model X.prog X.w) X.A (call f us) (EP X pins σ Q) X.xe s
def tOp (r:R2) (ta tb:TE):TE:=fun σ H Q=>ta σ H λx H1=>tb σ H1 λy H2=>r x y H2 Q
def tUn (r:V->Hp->VK->Prop) (ta:TE):TE:=fun σ H Q=>ta σ H λx H1=>r x H1 Q
def rI (C:Int->Int->Prop) (g:Int->Int->V):R2:=λx y H Q=>∃i j,x=.int i/\y=.int j/\C i j/\Q (g i j) H
def rI0 (g:Int->Int->V):R2:=λx y H Q=>∃i j,x=.int i/\y=.int j/\Q (g i j) H
def rU (g:Int->V):V->Hp->VK->Prop:=λx H Q=>∃i,x=.int i/\Q (g i) H
section
variable {X:Cx}
theorem Hn (ha:PE X a ta) (hb:PE X b tb) {R:V->V->Hp->Prop} (I:Inv X pins σ H s) (h:ta σ H λx H1=>tb σ H1 λy H2=>R x y H2) {Q:Db->Da->Prop} {f:Db->Db->Sem Db} (hf:∀v u s2 x y H2,Inv X pins σ H2 s2->RelV x v->RelV y u->R x y H2->wpAny (model X.prog X.w) X.A (f v u) Q X.xe s2) :
  wpAny (model X.prog X.w) X.A (eval a X.env) (λv s₁=>wpAny (model X.prog X.w) X.A (eval b X.env) (λu s₂=>wpAny (model X.prog X.w) X.A (f v u) Q X.xe s₂) X.xe s₁) X.xe s:=by
 refine thn (ha pins s σ H _ I h) λv s1 ⟨x,H1,I1,r1,q1⟩=>?_
 refine thn (hb pins s1 σ H1 _ I1 q1) λu s2 ⟨y,H2,I2,r2,q2⟩=>?_
 exact hf v u s2 x y H2 I2 r1 r2 q2
theorem E9 (ho:OpR X (binaryOp op) r) (ha:PE X a ta) (hb:PE X b tb):PE X (.BinOp a op b pos) (tOp r ta tb):=by
 intro pins s σ H Q I h;exact wpAny_BinOp (Hn ha hb I h λv u s2 x y H2 I2 rx ry q=>ho pins s2 σ H2 x y v u Q I2 rx ry q)
theorem Lx (ho:UnR X (unaryOp op) r) (ha:PE X a ta):PE X (.UnaryOp op a pos) (tUn r ta):=by
 intro pins s σ H Q I h;exact UnaryOp_ (thn (ha pins s σ H _ I h) λv s1 ⟨x,H1,I1,r1,q1⟩=>ho pins s1 σ H1 x v Q I1 r1 q1)
theorem opI {g:Int->Int->Int} (rule:∀(i j:Int) (t u:Tok) (s:Da) (Q:Db->Da->Prop) (E:Db->Da->Prop),C i j->Q (.int (g i j) s.toks) { s with toks:=s.toks+1 }->wpAny (model X.prog X.w) X.A (f (.int i t) (.int j u)) Q E s) :
  OpR X f (rI C λi j=>.int (g i j)):=by
 intro pins s σ H x y v u Q I rx ry h;obtain ⟨i,j,rfl,rfl,hc,q⟩:=h;obtain ⟨t,rfl⟩:=rx;obtain ⟨t',rfl⟩:=ry;exact rule i j t t' s _ _ hc ⟨.int (g i j),H,I.tok _,⟨_,rfl⟩,q⟩
theorem Mg {g:Int->Int->Int} (rule:∀(i j:Int) (t u:Tok) (s:Da) (Q:Db->Da->Prop) (E:Db->Da->Prop),Q (.int (g i j) s.toks) { s with toks:=s.toks+1 }->wpAny (model X.prog X.w) X.A (f (.int i t) (.int j u)) Q E s) :
  OpR X f (rI0 λi j=>.int (g i j)):=by
 intro pins s σ H x y v u Q I rx ry h;obtain ⟨i,j,rfl,rfl,q⟩:=h;obtain ⟨t,rfl⟩:=rx;obtain ⟨t',rfl⟩:=ry;exact rule i j t t' s _ _ ⟨.int (g i j),H,I.tok _,⟨_,rfl⟩,q⟩
theorem I_ {g:Int->Int->Bool} (rule:∀(i j:Int) (t u:Tok) (s:Da) (Q:Db->Da->Prop) (E:Db->Da->Prop),Q (.bool (g i j)) s->wpAny (model X.prog X.w) X.A (f (.int i t) (.int j u)) Q E s) :
  OpR X f (rI0 λi j=>.bl (g i j)):=by
 intro pins s σ H x y v u Q I rx ry h;obtain ⟨i,j,rfl,rfl,q⟩:=h;obtain ⟨t,rfl⟩:=rx;obtain ⟨t',rfl⟩:=ry;exact rule i j t t' s _ _ ⟨.bl (g i j),H,I,rfl,q⟩
def LM (i j:Int):Prop:=0<j/\j<1073741824
def A_ (i j:Int):Prop:=(-(2 ^ 64)<i/\i<2 ^ 64)\/(-(2 ^ 64)<j/\j<2 ^ 64)
theorem A_.ok (h:A_ i j):IntMulOk i j:=by
 rcases h with ⟨h1,h2⟩ | ⟨h1,h2⟩
 ·exact .of_left (intBits_le_64 h1 h2)
 ·exact .of_right (intBits_le_64 h1 h2)
theorem Gu:OpR X (binaryOp .Add) (rI0 λi j=>.int (i+j)):=Mg λ_ _ _ _ _ _ _ q=>add_int q
theorem IK:OpR X (binaryOp .Sub) (rI0 λi j=>.int (i-j)):=Mg λ_ _ _ _ _ _ _ q=>sub_int q
theorem IS:OpR X (binaryOp .Mult) (rI A_ λi j=>.int (i * j)):=opI λ_ _ _ _ _ _ _ hc q=>mul_int q hc.ok
theorem C7:OpR X (binaryOp .FloorDiv) (rI LM λi j=>.int (i / j)):=opI λi j _ _ _ _ _ hc q=>by
 have h1:(0:Int)<j:=hc.1;have h2:j<1073741824:=hc.2;exact floordiv_int (by lia) (by rw [Int.fdiv_eq_ediv_of_nonneg i (by lia)];exact q) (.inl (PyProof.noPylong_small (by lia)))
theorem Ii:OpR X (binaryOp .Mod) (rI (λ_ j=>0<j) λi j=>.int (i % j)):=opI λi j _ _ _ _ _ hc q=>by
 have h1:(0:Int)<j:=hc;exact mod_int' (by lia) (by rw [Int.fmod_eq_emod_of_nonneg i (by lia)];exact q)
theorem unI {g:Int->Int} (rule:∀(i:Int) (t:Tok) (s:Da) (Q:Db->Da->Prop) (E:Db->Da->Prop),Q (.int (g i) s.toks) { s with toks:=s.toks+1 }->wpAny (model X.prog X.w) X.A (f (.int i t)) Q E s) :
  UnR X f (rU λi=>.int (g i)):=by
 intro pins s σ H x v Q I rx h;obtain ⟨i,rfl,q⟩:=h;obtain ⟨t,rfl⟩:=rx;exact rule i t s _ _ ⟨.int (g i),H,I.tok _,⟨_,rfl⟩,q⟩
theorem Hx:UnR X (unaryOp .USub) (rU λi=>.int (-i)):=unI λ_ _ _ _ _ q=>neg_int q
end
def Jh:V->V->Bool
 |.non,.non=>true | .non,.int _=>true | .int _,.non=>true | .non,.bl _=>true | .bl _,.non=>true | .non,.str _=>true | .str _,.non=>true
 |.int _,.int _=>true | .bl _,.bl _=>true | .str _,.str _=>true | .byt _,.byt _=>true
 |.int _,.str _=>true | .str _,.int _=>true | .bl _,.str _=>true | .str _,.bl _=>true
 |_,_=>false
def rEq:R2:=λx y H Q=>Jh x y=true/\Q (.bl (decide (x=y))) H
def rNe:R2:=λx y H Q=>Jh x y=true/\Q (.bl (!decide (x=y))) H
theorem yN:decide (V.int i=V.int j)=(i == j):=by
 rw [Xm];simp
theorem Au:decide (V.bl i=V.bl j)=(i == j):=by
 rw [Xm];simp
theorem yF:decide (V.str i=V.str j)=(i == j):=by
 rw [Xm];simp
theorem yq:decide (V.byt i=V.byt j)=(i.toList == j.toList):=by
 rw [Xm];cases i;cases j;simp
section
variable {X:Cx}
theorem bq (I:Inv X pins σ H s) (q:Q (.bl k) H) (e:k=k'):EP X pins σ Q (.bool k') s:=by
 subst e;exact ⟨.bl k,H,I,rfl,q⟩
theorem Ly:OpR X (compareOp .Eq) rEq:=by
 intro pins s σ H x y v u Q I rx ry h;obtain ⟨hs,q⟩:=h;cases x with
 |non =>
  cases rx;cases y with
  |non=>cases ry;exact PySem.EqNone.eq_none_none (bq I q (by simp))
  |bl j=>cases ry;exact PySem.EqNone.eq_none_bool (bq I q (by simp))
  |int j=>obtain ⟨t',rfl⟩:=ry;exact PySem.EqNone.eq_none_int (bq I q (by simp))
  |str j=>obtain ⟨t',rfl⟩:=ry;exact PySem.EqNone.eq_none_str (bq I q (by simp))
  |_=>exact absurd (show false=true from hs) Zo
 |bl i =>
  cases rx;cases y with
  |non=>cases ry;exact PySem.EqNone.eq_bool_none (bq I q (by simp))
  |bl j=>cases ry;exact eq_bool (bq I q Au)
  |str j=>obtain ⟨t',rfl⟩:=ry;exact PySem.EqMixed.eq_bool_str (bq I q (by simp))
  |_=>exact absurd (show false=true from hs) Zo
 |int i =>
  obtain ⟨t,rfl⟩:=rx;cases y with
  |non=>cases ry;exact PySem.EqNone.eq_int_none (bq I q (by simp))
  |int j=>obtain ⟨t',rfl⟩:=ry;exact eq_int (bq I q yN)
  |str j=>obtain ⟨t',rfl⟩:=ry;exact PySem.EqMixed.eq_int_str (bq I q (by simp))
  |_=>exact absurd (show false=true from hs) Zo
 |str i =>
  obtain ⟨t,rfl⟩:=rx;cases y with
  |non=>cases ry;exact PySem.EqNone.eq_str_none (bq I q (by simp))
  |bl j=>cases ry;exact PySem.EqMixed.eq_str_bool (bq I q (by simp))
  |int j=>obtain ⟨t',rfl⟩:=ry;exact PySem.EqMixed.eq_str_int (bq I q (by simp))
  |str j=>obtain ⟨t',rfl⟩:=ry;exact eq_str (bq I q yF)
  |_=>exact absurd (show false=true from hs) Zo
 |byt i =>
  obtain ⟨t,rfl⟩:=rx;cases y with
  |byt j=>obtain ⟨t',rfl⟩:=ry;exact PySem.W.eq_bytes (bq I q yq)
  |_=>exact absurd (show false=true from hs) Zo
 |_=>cases y <;> exact absurd (show false=true from hs) Zo
theorem Aw:OpR X (compareOp .NotEq) rNe:=by
 intro pins s σ H x y v u Q I rx ry h;obtain ⟨hs,q⟩:=h;cases x with
 |non =>
  cases rx;cases y with
  |non=>cases ry;exact PySem.EqNone.ne_none_none (bq I q (by simp))
  |bl j=>cases ry;exact PySem.EqNone.ne_none_bool (bq I q (by simp))
  |int j=>obtain ⟨t',rfl⟩:=ry;exact PySem.EqNone.ne_none_int (bq I q (by simp))
  |str j=>obtain ⟨t',rfl⟩:=ry;exact PySem.EqNone.ne_none_str (bq I q (by simp))
  |_=>exact absurd (show false=true from hs) Zo
 |bl i =>
  cases rx;cases y with
  |non=>cases ry;exact PySem.EqNone.ne_bool_none (bq I q (by simp))
  |bl j=>cases ry;exact ne_bool (bq I q (Yl not Au))
  |str j=>obtain ⟨t',rfl⟩:=ry;exact PySem.EqMixed.ne_bool_str (bq I q (by simp))
  |_=>exact absurd (show false=true from hs) Zo
 |int i =>
  obtain ⟨t,rfl⟩:=rx;cases y with
  |non=>cases ry;exact PySem.EqNone.ne_int_none (bq I q (by simp))
  |int j=>obtain ⟨t',rfl⟩:=ry;exact ne_int (bq I q (Yl not yN))
  |str j=>obtain ⟨t',rfl⟩:=ry;exact PySem.EqMixed.ne_int_str (bq I q (by simp))
  |_=>exact absurd (show false=true from hs) Zo
 |str i =>
  obtain ⟨t,rfl⟩:=rx;cases y with
  |non=>cases ry;exact PySem.EqNone.ne_str_none (bq I q (by simp))
  |bl j=>cases ry;exact PySem.EqMixed.ne_str_bool (bq I q (by simp))
  |int j=>obtain ⟨t',rfl⟩:=ry;exact PySem.EqMixed.ne_str_int (bq I q (by simp))
  |str j=>obtain ⟨t',rfl⟩:=ry;exact ne_str (bq I q (Yl not yF))
  |_=>exact absurd (show false=true from hs) Zo
 |byt i =>
  obtain ⟨t,rfl⟩:=rx;cases y with
  |byt j=>obtain ⟨t',rfl⟩:=ry;exact PySem.W.ne_bytes (bq I q (Yl not yq))
  |_=>exact absurd (show false=true from hs) Zo
 |_=>cases y <;> exact absurd (show false=true from hs) Zo
theorem Kf:OpR X (compareOp .Lt) (rI0 λi j=>.bl (decide (i<j))):=I_ λ_ _ _ _ _ _ _ q=>lt_int q
theorem uX:OpR X (compareOp .Gt) (rI0 λi j=>.bl (decide (j<i))):=I_ λ_ _ _ _ _ _ _ q=>gt_int q
theorem K7:OpR X (compareOp .GtE) (rI0 λi j=>.bl (decide (j<=i))):=I_ λ_ _ _ _ _ _ _ q=>ge_int q
def isObj:HO->Bool
 |.lst _=>true
 |.ins _ _ _=>true
 |_=>false
theorem rZ {pins:List (Is×Obj)} {s:Da} {σ:St} {H:Hp} {a:Is} {o:HO} (I:Inv X pins σ H s) (h:H a=some o) (p:isObj o=true):∃ob,s.heap.get? a=some ob/\ob.cls≠.type "tuple" := by
 cases o with
 |lst xs =>
  obtain ⟨_,its,n,_,e⟩:xs.length<=sizeLine/\∃(its:List Db) (n:Nat),Vals xs its/\s.heap.get? a=some { cls:=.type "list",data:=.seq its.toArray n }:=I.hok a _ h;exact ⟨_,e,(by show Value.type "list" ≠ .type "tuple";decide +kernel)⟩
 |ins C dx fs =>
  have x:=I.hok a _ h;obtain ⟨_,_,_,e,_⟩:=x;exact ⟨_,e,(by show Value.ref C≠.type "tuple";exact λz=>by cases z)⟩
 |_=>exact absurd (show false=true from p) Zo
theorem OpR.or (h:OpR X f r) (h':OpR X f r'):OpR X f (λx y H Q=>r x y H Q\/r' x y H Q):=by
 intro pins s σ H x y v u Q I rx ry q;rcases q with q | q
 ·exact h pins s σ H x y v u Q I rx ry q
 ·exact h' pins s σ H x y v u Q I rx ry q
theorem gJ (b:M2) (h:op≠.In:=by decide) (h2:op≠.NotIn:=by decide):behindInMarks op b=false:=by
 have e1:(op == CmpOp.In)=false:=by cases op <;> first | rfl | exact absurd rfl h
 have e2:(op == CmpOp.NotIn)=false:=by cases op <;> first | rfl | exact absurd rfl h2
 cases b <;> simp [behindInMarks,e1,e2]
theorem D9 (ho:OpR X (compareOp op) r) (ha:PE X a ta) (hb:PE X b tb) (hm:behindInMarks op b=false):PE X (.Compare a [op] [b] pos) (tOp r ta tb):=by
 intro pins s σ H Q I h;exact wpAny_Compare1 (Hn ha hb I h λv u s2 x y H2 I2 rx ry q=>ho pins s2 σ H2 x y v u Q I2 rx ry q) hm
def xG (t:TE):TT:=fun σ H Q=>t σ H λx H'=>∃k,x=.bl k/\Q k H'
theorem uL (ho:OpR X (compareOp op) r) (ha:PE X a ta) (hb:PE X b tb) (hm:behindInMarks op b=false):PT X (.Compare a [op] [b] pos) (xG (tOp r ta tb)):=by
 intro pins s σ H Q I h;refine wpAny_isTrue_Compare1 (thn (ha pins s σ H _ I h) λv s1 ⟨x,H1,I1,r1,q1⟩=>thn (hb pins s1 σ H1 _ I1 q1) λu s2 ⟨y,H2,I2,r2,q2⟩ =>
  thn (ho pins s2 σ H2 x y v u _ I2 r1 r2 q2) λc s3 ⟨z,H3,I3,r3,k,e,q3⟩=>?_) hm
 subst e;cases r3;exact Xe ⟨H3,I3,q3⟩
theorem mH:(sizeLine:Nat)<2 ^ 63:=by rw [W5];decide
theorem xq:OpR X (binaryOp .Add) (λx y H Q=>∃i j,x=.str i/\y=.str j/\i.length+j.length<=sizeLine/\Q (.str (i++j)) H):=by
 intro pins s σ H x y v u Q I rx ry h;obtain ⟨i,j,rfl,rfl,hz,q⟩:=h;obtain ⟨t,rfl⟩:=rx;obtain ⟨t',rfl⟩:=ry;exact add_str (λt' tk=>⟨.str (i++j),H,I.tok _,⟨_,rfl⟩,q⟩) hz
theorem vals1 (r:Vals [x] us):∃u,us=[u]/\RelV x u:=by
 cases r with
 |cons r1 r2=>cases r2;exact ⟨_,rfl,r1⟩
theorem vals2 (r:Vals [x,y] us):∃u w',us=[u,w']/\RelV x u/\RelV y w':=by
 cases r with
 |cons r1 r2 =>
  cases r2 with
  |cons r3 r4=>cases r4;exact ⟨_,_,rfl,r1,r3⟩
theorem zD (hc:X.calm=true):dR X (.builtin "min") (λxs H Q=>∃i j,xs=[.int i,.int j]/\Q (.int (if j<i then j else i)) H):=by
 intro pins s σ H xs us Q I r h;obtain ⟨i,j,rfl,q⟩:=h;obtain ⟨u,w',rfl,⟨t,rfl⟩,⟨t',rfl⟩⟩:=vals2 r;refine min_two_ints (I.ok.hd hc) λh' tk k=>⟨_,H,I.kept k,?_,q⟩
 by_cases hj:j<i
 ·rw [N1 hj,N1 hj];exact ⟨_,rfl⟩
 ·rw [N2 hj,N2 hj];exact ⟨_,rfl⟩
end
structure ObjM (h:N0) (x dx C:Is) (mA:Str->Ch):Prop where
 obj:h.get? x=some (instObj C dx)
 ns:h.Ns1 dx mA
 ne:dx≠x
theorem zm {h:N0} {mA:Str->Ch} (n:h.Ns1 dx mA):∃od,h.get? dx=some od/\∀name,lookIn name od=some (mA name):=by
 obtain ⟨o,es,ep,ho,hd,hk,_,hm⟩:=n;refine ⟨o,ho,λname=>?_⟩
 have e:=hm name;unfold nsFind findBy at e;rw [<-Array.find?_toList]at e;unfold lookIn;rw [hd]
 dsimp only
 split
 ·rename_i y q
  rw [q]at e;exact Yl some e
 ·rename_i q
  rw [q]at e;have a:es.toList.any (·.refKey)=false:=by
   rw [List.any_eq_false];intro y hy;obtain ⟨z,t,hkey⟩:=hk y (Array.mem_toList_iff.mp hy);simp [DictEntry.refKey,hkey]
  have a':¬es.toList.any (·.refKey)=true:=by rw [a];exact Zo
  rw [N2 a'];exact Yl some e
theorem ObjM.look (I:ObjM h x dx C mA):∃od,PySem.W.InstAt h x (instObj C dx) C (some od)/\∀name,lookIn name od=some (mA name) :=
 let ⟨od,ho,hl⟩:=zm I.ns
 ⟨od,⟨I.obj,rfl,rfl,ho⟩,hl⟩
section
variable {A:Go} {s:Da} {K:At}
theorem get_map (X:K.In s.heap) (I:ObjM s.heap x dx C mA) (hg:plainGet K C name=true) (hh:hasDictIn K C=true) (ha:findIn K (.ref C) name=some none) (hv:mA name=some v) (hv':PySem.W.handedIn v=true) (h:Q v { s with toks:=s.toks+1 }) :
  wpAny (model prog w) A (getAttr (.ref x) name expr) Q E s:=by
 obtain ⟨od,J,hl⟩:=I.look;exact PySem.W.get_value X J (Vm hg).1 (PySem.W.findObj_own hh ha rfl (by rw [hl,hv])) hv' h
theorem As (X:K.In s.heap) (I:ObjM s.heap x dx C mA) (hg:plainGet K C name=true) (hf:findIn K (.ref C) name=some (some (.ref f))) (ht:isFn K (.ref f)=true) (hv:mA name=none) (h:Q (.ref f,[.ref x]) s) :
  wpAny (model prog w) A (getMethod (.ref x) name pl) Q E s:=by
 obtain ⟨od,J,hl⟩:=I.look;exact PySem.W.method_fn X J (Vm hg).1 (Vm hg).2 hf (beq_iff_eq.mp ht) (by show (lookIn name od).map (·.isSome)=some false;rw [hl,hv];rfl) h
theorem E1 (X:K.In s.heap) (I:ObjM s.heap x dx C mA) (hs:findIn K (.ref C) "__setattr__" = some (some (.builtin "object.__setattr__"))) (hp:plainOver K C=true) (ht:takerIn K C name=some none) (hh:hasDictIn K C=true) (hw:PySem.Within mA ns) (hsz:ns.length<=sizeLine) (h:∀h',ObjM h' x dx C (λy=>if y=name then some v else mA y)->Heap.SameBut dx s.heap h'->Q () { s with heap:=h',toks:=s.toks+2 }) :
  wpAny (model prog w) A (setAttr (.ref x) name v) Q E s:=by
 obtain ⟨od,J,hl⟩:=I.look;refine PySem.W.set_plain X J hs (PySem.W.osa_open (s:={ s with toks:=s.toks+1 }) (r:=none) X J hp ht λb=>?_)
 obtain ⟨cd,hc,hd'⟩:=PySem.W.any_some hh;have hx:s.heap.get? x=some ⟨.ref C,some dx,.plain,#[]⟩:=I.obj;refine Zr (Yn (Zr (Zr (wpAny_loadPart hx (Zr (PySem.W.Looks.here (s:={ s with toks:=s.toks+1 }) (PySem.W.looks_clsIn X hc) ?_))))))
 rw [hd'];refine Yn (a:=some dx) (Zr (Yn (Zr ?_)));refine wpAny_nsSet1 (s:={ s with toks:=s.toks+1 }) I.ns λh' hn2 hs2=>?_
 obtain ⟨oD,esD,epD,hoD,hdD,hcD⟩:=hn2.count (PySem.Within.cons name v hw);refine Zr (wpAny_lookBehind hoD (by rw [hdD];exact pastItsLine_dict (Yg hcD (by rw [Zp];lia))) ?_)
 exact Yn (h _ ⟨(hs2.2 _ (Xj I.ne)).trans I.obj,hn2,I.ne⟩ hs2)
theorem Ap {R:Result->Da->Prop} (X:K.In s.heap) (hm:makesIn K C=true) (hi:findIn K (.ref C) "__init__" = some (some (.ref f))) (hf:PySem.W.typeIn K (.ref f)=some (.type "function")) (h:codeAny (model prog w) (A.under (.builtin "type.__call__" ⟨.ref C :: vs,kw⟩)) (.call (.ref f) ⟨.ref (s.heap.objs.size+1) :: vs,kw⟩) (PySem.W.InitBack (s.heap.objs.size+1) R)
   { s with heap:=(s.heap.push emptyDict).push (instObj C s.heap.objs.size) }) :
  codeAny (model prog w) A (.call (.ref C) ⟨vs,kw⟩) R s:=by
 obtain ⟨hh,g,d,t,os⟩:=s;exact PySem.W.make_core (PySem.W.makes_of X hm) (Wg X hi) (λself=>PySem.W.bind_fn X self hf) (.inl rfl) h
end
def gm (f:Str) (v:V):List (Str×V)->List (Str×V)
 |[]=>[(f,v)]
 | (g,x) :: r=>if g=f then (g,v) :: r else (g,x) :: gm f v r
theorem oU (f g:Str) (v:V):∀fs:List (Str×V),(gm f v fs).lookup g=if g=f then some v else fs.lookup g
 |[]=>by
  show List.lookup g [(f,v)]=_
  by_cases h:g=f
  ·have hb:(g == f)=true:=beq_iff_eq.mpr h
   simp only [List.lookup,hb,N1 h]
  ·have hb:(g == f)=false:=beq_eq_false_iff_ne.mpr h
   simp only [List.lookup,hb,N2 h]
 | (k,x) :: r=>by
  have ih:=oU f g v r;rw [show gm f v ((k,x) :: r)=(if k=f then (k,v) :: r else (k,x) :: gm f v r) from rfl]
  by_cases hk:k=f
  ·rw [N1 hk]
   by_cases h:g=k
   ·have hb:(g == k)=true:=beq_iff_eq.mpr h
    simp only [List.lookup,hb,N1 (h.trans hk)]
   ·have hb:(g == k)=false:=beq_eq_false_iff_ne.mpr h
    simp only [List.lookup,hb,N2 (λe:g=f=>h (e.trans hk.symm))]
  ·rw [N2 hk]
   by_cases h:g=k
   ·have hb:(g == k)=true:=beq_iff_eq.mpr h
    simp only [List.lookup,hb,N2 (λe:g=f=>hk (h.symm.trans e))]
   ·have hb:(g == k)=false:=beq_eq_false_iff_ne.mpr h
    simp only [List.lookup,hb];exact ih
theorem oQ (f:Str) (v:V):∀fs:List (Str×V),f∈(gm f v fs).map (·.1)/\∀g,g∈fs.map (·.1)->g∈(gm f v fs).map (·.1)
 |[]=>⟨by simp [gm],λg h=>by simp at h⟩
 | (k,x) :: r=>by
  obtain ⟨i1,i2⟩:=oQ f v r;rw [show gm f v ((k,x) :: r)=(if k=f then (k,v) :: r else (k,x) :: gm f v r) from rfl]
  by_cases hk:k=f
  ·rw [N1 hk]
   subst hk;exact ⟨by simp,λg h=>by simpa using h⟩
  ·rw [N2 hk]
   refine ⟨?_,λg h=>?_⟩
   ·rw [Zw]
    exact Zs _ i1
   ·rw [Zw]at h ⊢
    rcases Xz.mp h with e | e
    ·exact Xz.mpr (.inl e)
    ·exact Zs _ (i2 g e)
theorem oZ (f:Str) (v:V):∀fs:List (Str×V),(gm f v fs).length<=fs.length+1
 |[]=>by simp [gm]
 | (k,x) :: r=>by
  have ih:=oZ f v r;rw [show gm f v ((k,x) :: r)=(if k=f then (k,v) :: r else (k,x) :: gm f v r) from rfl]
  by_cases hk:k=f
  ·rw [N1 hk,Zp,Zp];lia
  ·rw [N2 hk,Zp,Zp];lia
theorem l_.some_of (r:l_ (some v) o):∃u,o=some u/\RelV v u:=by
 cases o with
 |none=>exact (show False from r).elim
 |some u=>exact ⟨u,rfl,r⟩
theorem l_.none_of (r:l_ none o):o=none:=by
 cases o with
 |none=>rfl
 |some u=>exact (show False from r).elim
theorem zU (r:RelV v u):PySem.W.handedIn u=true:=by
 cases v with
 |non=>cases (show u=Value.none from r);rfl
 |bl b=>cases (show u=Value.bool b from r);rfl
 |int i=>obtain ⟨t,e⟩:=(show ∃t,u=Value.int i t from r);cases e;rfl
 |str x=>obtain ⟨t,e⟩:=(show ∃t,u=Value.str x t from r);cases e;rfl
 |byt b=>obtain ⟨t,e⟩:=(show ∃t,u=Value.bytes b t from r);cases e;rfl
 |flt b=>obtain ⟨t,e⟩:=(show ∃t,u=Value.float b t from r);cases e;rfl
 |ref a=>cases (show u=Value.ref a from r);rfl
 |ty n=>cases (show u=Value.type n from r);rfl
section
variable {fs fs':List (Str×V)}
theorem uB (hok:HOk P w H h) (e:H a=some (.ins C dx fs)):∃mA,ObjM h a dx C mA/\(∀f,l_ (fs.lookup f) (mA f))/\PySem.Within mA (fs.map (·.1))/\fs.length<=1000/\H dx=some (.own a):=by
 obtain ⟨d,z,ne,ob,mA,n,r,q⟩:=(show cT P w H h a (.ins C dx fs) from hok a _ e)
 exact ⟨mA,⟨ob,n,ne⟩,r,q,z,d⟩
end
structure Cls (K:At) (C:Is):Prop where
 pg:plainGet K C Str.empty=true
 hd:hasDictIn K C=true
 po:plainOver K C=true
 sa:findIn K (.ref C) "__setattr__" = some (some (.builtin "object.__setattr__"))
theorem Cls.get {K:At} (c:Cls K C) (f:Str):plainGet K C f=true:=c.pg
def dQ (K:At) (C:Is) (f:Str):Prop:=findIn K (.ref C) f=some none
theorem dQ.taker {K:At} (n:dQ K C f):takerIn K C f=some none:=by
 unfold takerIn;rw [show findIn K (.ref C) f=some none from n]
 rfl
structure Con (K:At) (C:Is) (f:Str) (v:V) (u:Db):Prop where
 at_:findIn K (.ref C) f=some (some u)
 rel:RelV v u
 get:specialIn K u "__get__" = some none
 cp:PySem.W.copiedNames.contains f=false
structure Meth (K:At) (C:Is) (m:Str) (f:Is):Prop where
 at_:findIn K (.ref C) m=some (some (.ref f))
 fn:isFn K (.ref f)=true
 kp:keepIn K (.ref f)=true
section
variable {X:Cx} {s:Da} {fs:List (Str×V)}
theorem wH (I:Inv X pins σ H s) (e:H a=some (.ins C dx fs)) (c:Cls X.K C) (n:dQ X.K C f) (l:fs.lookup f=some v) (h:∀u s',Inv X pins σ H s'->RelV v u->Q u s'):wpAny (model X.prog X.w) A (getAttr (.ref a) f b) Q E s:=by
 obtain ⟨mA,O,r,_,_,_⟩:=uB I.hok e;obtain ⟨u,hu,ru⟩:=l_.some_of (v:=v) (o:=mA f) (by rw [<-l];exact r f)
 exact get_map I.kIn O (c.get f) c.hd n hu (zU ru) (h u _ (I.tok _) ru)
theorem rq {g:Is} (I:Inv X pins σ H s) (e:H a=some (.ins C dx fs)) (c:Cls X.K C) (k:Meth X.K C m g) (l:fs.lookup m=none) (h:Q (.ref g,[.ref a]) s):wpAny (model X.prog X.w) A (getMethod (.ref a) m pl) Q E s:=by
 obtain ⟨mA,O,r,_,_,_⟩:=uB I.hok e;have hn:mA m=none:=l_.none_of (by rw [<-l];exact r m)
 exact As I.kIn O (c.get m) k.at_ k.fn hn h
theorem xa (I:Inv X pins σ H s) (e:H a=some (.ins C dx fs)) (c:Cls X.K C) (n:dQ X.K C f) (hl:fs.length<1000) (ry:RelV y u) (h:∀s',Inv X pins σ (upd H a (.ins C dx (gm f y fs))) s'->Q () s'):wpAny (model X.prog X.w) A (setAttr (.ref a) f u) Q E s:=by
 obtain ⟨mA,O,r,wi,_,ho⟩:=uB I.hok e;have hz:(fs.map (·.1)).length<=sizeLine:=by rw [Zy,W5];lia
 refine E1 I.kIn O c.sa c.po n.taker c.hd wi hz λh' O' sb=>h _ ?_
 have hd:∃o,h'.get? dx=some o:=let ⟨o,_,_,e',_⟩:=O'.ns;⟨o,e'⟩;refine I.write (x:=a) (e:=dx) (by rw [e];exact True.intro) (.inr ho) (λb q hb z=>(sb.2 b hb).trans z) hd ?_
 refine ⟨by rw [av O.ne];exact ho,?_,O.ne,O'.obj,_,O'.ns,λg=>?_,λg hg=>?_⟩
 ·have:=oZ f y fs;lia
 ·show l_ ((gm f y fs).lookup g) (if g=f then some u else mA g)
  rw [oU];by_cases q:g=f
  ·rw [N1 q,N1 q];exact ry
  ·rw [N2 q,N2 q];exact r g
 ·by_cases q:g=f
  ·rw [q];exact (oQ f y fs).1
  ·refine (oQ f y fs).2 g (wi g λz=>hg ?_)
   show (if g=f then some u else mA g)=none
   rw [N2 q];exact z
theorem Inv.made (I:Inv X pins σ H s):Inv X pins σ (upd (upd H s.heap.objs.size (.own (s.heap.objs.size+1))) (s.heap.objs.size+1) (.ins C s.heap.objs.size []))
  { s with heap:=(s.heap.push emptyDict).push (instObj C s.heap.objs.size) }:=by
 have e1:(s.heap.push emptyDict).get? s.heap.objs.size=some emptyDict:=Yr s.heap rfl;have e2:((s.heap.push emptyDict).push (instObj C s.heap.objs.size)).get? (s.heap.objs.size+1)=some (instObj C s.heap.objs.size):=by
  have:=Yr (s.heap.push emptyDict) (o:=instObj C s.heap.objs.size) rfl
  rwa [Xo]at this
 have e3:(s.heap.push emptyDict).Ns s.heap.objs.size (λ_=>none):=⟨emptyDict,#[],_,e1,rfl,(λe he=>absurd he (by simp)),λ_=>rfl⟩
 have I1:=I.laid (a:=s.heap.objs.size) (o:=.own (s.heap.objs.size+1)) (h':=s.heap.push emptyDict) (t':=s.toks) (λb u q=>Zl _ q) (Zi _) ⟨_,e1⟩
 refine I1.laid (a:=s.heap.objs.size+1) (o:=.ins C s.heap.objs.size []) (t':=s.toks) (λb u q=>Zl _ q) (Nat.le_of_eq (Xo _ _)) ?_
 have ne:s.heap.objs.size≠s.heap.objs.size+1:=Ys (Xg _);refine ⟨by rw [av ne,aE],Y1 _,ne,e2,λ_=>none,(Heap.Ns1.of_empty e3).at λo q=>Zl _ q,λ_=>True.intro,λy hy=>absurd rfl hy⟩
theorem DQ (hb:attributeBase e f env (eval e env)=eval e env) (h:wpAny (model prog w) A (eval e env) (λo s₁=>wpAny (model prog w) A (getAttr o f true) Q E s₁) E s):wpAny (model prog w) A (eval (.Attribute e f pos) env) Q E s :=
 Attribute_any_ h (by rw [arm_eval_Attribute,hb])
end
def Hl (K:At) (ta:TE) (f:Str):TE:=fun σ H Q=>ta σ H λx H1=>∃a C dx fs v,x=.ref a/\H1 a=some (.ins C dx fs)/\Cls K C/\dQ K C f/\fs.lookup f=some v/\Q v H1
def Ll (K:At) (ta tv:TE) (f:Str):TS:=λD σ H=>tv σ H λy H1=>ta σ H1 λx H2=>∃a C dx fs,x=.ref a/\H2 a=some (.ins C dx fs)/\Cls K C/\dQ K C f/\fs.length<1000 /\
 D.nx σ (upd H2 a (.ins C dx (gm f y fs)))
section
variable {X:Cx} {pos pos' tpos:Pos}
theorem Bg (he:PE X e ta) (hb:attributeBase e f X.env (eval e X.env)=eval e X.env):PE X (.Attribute e f pos) (Hl X.K ta f):=by
 intro pins s σ H Q I h;refine DQ hb (thn (he pins s σ H _ I h) λu s1 ⟨x,H1,I1,rx,a,C,dx,fs,v,ex,ea,c,n,l,q⟩=>?_)
 subst ex;obtain rfl:u=Value.ref a:=rx;exact wH I1 ea c n l λu' s2 I2 ru=>⟨v,H1,I2,ru,q⟩
theorem JG (ha:PE X o ta) (hv:PE X value tv) (hs:swapsWith value (some (.Attribute o f pos')) pos.line X.env=pure false):PS X (.Assign [.Attribute o f pos'] value pos) (Ll X.K ta tv f):=by
 intro pins s σ H D I h;refine plainObj_wpAny_Assign_Attribute (thn (hv pins s σ H _ I h) λu s1 ⟨y,H1,I1,ry,q⟩=>thn (ha pins s1 σ H1 _ I1 q) λov s2 ⟨x,H2,I2,rx,a,C,dx,fs,ex,ea,c,n,l,q2⟩=>?_) hs
 subst ex;obtain rfl:ov=Value.ref a:=rx;exact xa I2 ea c n l ry λs3 I3=>⟨σ,_,I3,q2⟩
end
section
end
structure Room (k:Nat) (A:Go):Prop where
 hd:A.handled=none
 dp:A.depth+3 * k+5<recursionLimit
 un:A.units+16 * k+200<cLine
theorem Room.mono (r:Room k A) (h:j<=k):Room j A:=⟨r.hd,by have:=r.dp;lia,by have:=r.un;lia⟩
theorem Room.deeper (r:Room (k+1) A) (env:Env):Room k (A.deeper env) :=
 ⟨r.hd,by have:=r.dp;show A.depth+1+3 * k+5<_;lia,by have:=r.un;show A.units+3+16 * k+200<_;lia⟩
theorem w_ {A:Go}:(A.under (.builtin "type.__call__" ⟨.ref C :: us,kw⟩)).depth=A.depth+1:=by
 first | rfl | simp [Around.under,Code.weight,Code.isCreation,Code.isGuard,Code.isCaller,Code.frames,Code.isFrame,guardIds]
theorem wZ {A:Go}:(A.under (.builtin "type.__call__" ⟨.ref C :: us,kw⟩)).units=A.units+1:=by
 first | rfl | simp [Around.under,Code.cUnits,Code.frames,Code.isFrame]
theorem Room.make (r:Room (k+1) A) (C:Is) (us:List Db) (kw:List (Str×Db)):Room k (A.under (.builtin "type.__call__" ⟨.ref C :: us,kw⟩)) :=
 ⟨r.hd,by have:=r.dp;rw [w_];lia,by have:=r.un;rw [wZ];lia⟩
theorem Room.depth (r:Room k A):A.depth<recursionLimit:=by have:=r.dp;lia
theorem Room.units (r:Room k A):A.units+64<cLine:=by have:=r.un;lia
def qM:TA:=λ_ H Q=>Q [] H
def e8 (ta:TE) (tr:TA):TA:=fun σ H Q=>ta σ H λx H1=>tr σ H1 λxs H2=>Q (x :: xs) H2
section
variable {X:Cx} {t:TA}
theorem fW:PA X [] qM:=λ_ _ _ _ H Q I h=>Calls.spliced_nil ⟨[],H,I,.nil,h⟩
theorem bB (ha:PE X e te) (hr:PA X es t) (hs:starEach (e :: es) X.env=(false,eval e X.env) :: starEach es X.env:=by rfl):PA X (e :: es) (e8 te t):=by
 intro pos pins s σ H Q I h;rw [hs];show wpAny _ _ (spliced ((false,eval e X.env) :: backTo pos (starEach es X.env))) _ _ s
 refine Calls.spliced_cons (thn (ha pins s σ H _ I h) λu s1 ⟨x,H1,I1,r1,q1⟩=>?_)
 exact thn (hr pos pins s1 σ H1 _ I1 q1) λus s2 ⟨xs,H2,I2,r2,q2⟩=>⟨x :: xs,H2,I2,.cons r1 r2,q2⟩
def HY (t:TA):TE:=fun σ H Q=>t σ H λxs H1=>xs.length<=sizeLine/\∀p,H1 p=none->Q (.ref p) (upd H1 p (.tup xs))
def Hf (t:TA):TE:=fun σ H Q=>t σ H λxs H1=>xs.length<=sizeLine/\∀p,H1 p=none->Q (.ref p) (upd H1 p (.lst xs))
theorem CK {x1} (h:PA X es t):PE X (.Tuple es x1 pos) (HY t):=by
 intro pins s σ H Q I hq;refine wpAny_Tuple_spliced (thn (h pos pins s σ H _ I hq) λus s1 ⟨xs,H1,I1,r,z,q⟩=>⟨by rw [<-r.length];exact z,?_⟩)
 have hf:H1 s1.heap.objs.size=none:=I1.hok.fresh (Zi _);refine ⟨.ref s1.heap.objs.size,upd H1 s1.heap.objs.size (.tup xs),I1.laid (t':=s1.toks) (λb u e=>Zl _ e) (Zi _) ?_,rfl,q _ hf⟩
 exact ⟨z,us,r,⟨_,Yr _ rfl,rfl,_,rfl⟩⟩
theorem ub (h:PA X es t):PE X (.List es pos) (Hf t):=by
 intro pins s σ H Q I hq;refine wpAny_List_spliced (thn (h pos pins s σ H _ I hq) λus s1 ⟨xs,H1,I1,r,z,q⟩=>⟨by rw [<-r.length];exact z,?_⟩)
 have hf:H1 s1.heap.objs.size=none:=I1.hok.fresh (Zi _);refine ⟨.ref s1.heap.objs.size,upd H1 s1.heap.objs.size (.lst xs),I1.laid (t':=s1.toks) (λb u e=>Zl _ e) (Zi _) ?_,rfl,q _ hf⟩
 exact ⟨z,us,0,r,Yr _ rfl⟩
end
abbrev Sp:=List V->Hp->VK->XK->Prop
abbrev CXT:=List Env->Hp->Da->XK->Db->Da->Prop
structure Env0 (P:Do) (w:Ev) (K:At) (mg:Str->Ch) (base:N0) (A:Go) (outer:List Env) (s:Da) (H:Hp):Prop where
 frames:A.frames=some outer
 mod:Mod K mg base
 bs:∀b o,base.get? b=some o->s.heap.get? b=some o/\H b=none
 bsz:base.objs.size<=s.heap.objs.size
 funs:s.heap.FunFrames base outer
 frf:∀b∈frs outer,H b=none
 hok:HOk P w H s.heap
 bare:AllBare s.gens
def CE (outer:List Env) (P:Do) (w:Ev) (H:Hp) (s:Da) (Q:VK) (u:Db) (s':Da):Prop :=
 ∃v H',s'.os=s.os/\AllBare s'.gens/\Un (frs outer) [] H H' s.heap s'.heap/\HOk P w H' s'.heap/\RelV v u/\Q v H'
def CR (CX:CXT) (outer:List Env) (P:Do) (w:Ev) (H:Hp) (s:Da) (Q:VK) (E:XK) (r:Result) (s':Da):Prop :=
 match r with
 |.ok (.ret u)=>CE outer P w H s Q u s'
 |.ok _=>False
 |.error e=>CX outer H s E e s'
structure FnOk (P:Do) (w:Ev) (K:At) (mg:Str->Ch) (base:N0) (CX:CXT) (k:Nat) (f:Is) (fd:Fk) (ps:List Str) (sp:Sp):Prop where
 len:∀vs H Q E,sp vs H Q E->vs.length=ps.length
 run:∀(A:Go) (outer:List Env) (s:Da) (H:Hp) (args:Args) (us:List Db) (vs:List V) (Q:VK) (E:XK),Room k A->Env0 P w K mg base A outer s H->BindsTo s fd args (ps.zip us)->Vals vs us->sp vs H Q E ->
  codeAny (model P w) A (.call (.ref f) args) (CR CX outer P w H s Q E) s
theorem FnOk.mono {K:At} (F:FnOk P w K mg base CX j f fd ps sp) (h:j<=k) :
  FnOk P w K mg base CX k f fd ps sp:=⟨F.len,λA outer s H args us vs Q E hr=>F.run A outer s H args us vs Q E (hr.mono h)⟩
theorem FnOk.imp {K:At} (F:FnOk P w K mg base CX k f fd ps sp) (h:∀vs H Q E,sp' vs H Q E->sp vs H Q E):FnOk P w K mg base CX k f fd ps sp' :=
 ⟨λvs H Q E q=>F.len vs H Q E (h _ _ _ _ q),λA outer s H args us vs Q E hr he hb hv hs=>F.run A outer s H args us vs Q E hr he hb hv (h _ _ _ _ hs)⟩
theorem Env0.make {K:At} (e:Env0 P w K mg base A outer s H) (C:Is) (us:List Db) (kw:List (Str×Db)) :
  Env0 P w K mg base (A.under (.builtin "type.__call__" ⟨.ref C :: us,kw⟩)) outer s H:=⟨by first | exact e.frames | (simpa [Around.under,Code.envs,Code.isFrame,pushEnvs]using e.frames),e.mod,e.bs,e.bsz,e.funs,e.frf,e.hok,e.bare⟩
section
variable {X:Cx}
theorem Inv.mC (I:Inv X pins σ H s):Env0 X.prog X.w X.K X.mg X.base X.A X.stack s H :=
 ⟨I.ok.frames,I.ok.mod,I.bs,Yg I.ok.bsz I.sz,I.stack,I.stkFree,I.hok,I.bare⟩
theorem Inv.after (I:Inv X pins σ H s) (h:CE X.stack X.prog X.w H s Q u s'):EP X pins σ Q u s':=by
 obtain ⟨v,H',os,bare,un,hok,r,q⟩:=h;obtain ⟨hh,g,d,t,os'⟩:=s';obtain rfl:os'=s.os:=os;exact ⟨v,H',I.call (h':=hh) (g':=g) (d':=d) (t':=t) (ch:=[]) un hok bare (λb z=>absurd z (by simp)),r,q⟩
end
def vY (sp:Sp) (dvs:List V) (E:XK) (t:TA):TE:=fun σ H Q=>t σ H λvs H1=>sp (vs++dvs) H1 Q E
def E7 (C:Is) (sp:Sp) (dvs:List V) (E:XK) (t:TA):TE:=fun σ H Q=>t σ H λvs H1=>∀x dx,H1 x=none->H1 dx=none->dx≠x ->
 sp (.ref x :: (vs++dvs)) (upd (upd H1 dx (.own x)) x (.ins C dx [])) (λv H2=>v=.non/\Q (.ref x) H2) E
def Binds (K:At) (fd:Fk) (ps:List Str) (ds:List Db):Prop :=
 ∀(s:Da) (us:List Db),K.In s.heap->(us++ds).length=ps.length->BindsTo s fd ⟨us,[]⟩ (ps.zip (us++ds))
theorem Binds.all {K:At} (h:∀us:List Db,us.length=ps.length->bindArgs fd ⟨us,[]⟩=pure (ps.zip us)):Binds K fd ps []:=λs us _ hl=>by
 rw [Zc]at hl ⊢;exact .of_eq (h us hl)
def Passes (CX:CXT) (X:Cx) (E:XK):Prop:=∀(pins:List (Is×Obj)) (σ:St) (H:Hp) (s:Da) (e:Db) (s':Da),Inv X pins σ H s->CX X.stack H s E e s'->X.xe e s'
section
variable {X:Cx} {f C:Is}
theorem xb (F:FnOk X.prog X.w X.K X.mg X.base CX k f fd ps sp) (hr:Room k X.A) (hb:Binds X.K fd ps ds) (hd:Vals dvs ds) (hx:Passes CX X E) (I:Inv X pins σ H s) (r:Vals vs us) (h:sp (vs++dvs) H Q E):wpAny (model X.prog X.w) X.A (call (.ref f) us) (EP X pins σ Q) X.xe s:=by
 have r2:Vals (vs++dvs) (us++ds):=r.append hd;have hl:(us++ds).length=ps.length:=by rw [<-r2.length];exact F.len _ _ _ _ h
 refine wpAny_call (Wn (F.run X.A X.stack s H ⟨us,[]⟩ (us++ds) (vs++dvs) Q E hr I.mC (hb s us I.kIn hl) r2 h) λr s' hq=>?_)
 cases r with
 |error e=>exact hx pins σ H s e s' I hq
 |ok fl =>
  cases fl with
  |ret u=>exact I.after hq
  |next=>exact False.elim hq
  |brk=>exact False.elim hq
  |cont=>exact False.elim hq
theorem pF (F:FnOk X.prog X.w X.K X.mg X.base CX k f fd ps sp) (hr:Room k X.A) (hg:Gl X x) (hm:X.mg x=some (.ref f)) (hk:keepIn X.K (.ref f)=true) (hb:Binds X.K fd ps ds) (hd:Vals dvs ds) (hx:Passes CX X E)
  (ha:PA X (e :: es) t) (hdb:(x == ("__debug__" : Str))=false:=by decide) (he:starEach (e :: es) X.env=(false,eval e X.env) :: starEach es X.env:=by rfl) (hpl:(backTo pos (starEach es X.env)).any (·.1)=false:=by rfl) :
  PE X (.Call (.Name x p) (e :: es) [] pos) (vY sp dvs E t):=by
 intro pins s σ H Q I h;refine Xk (kJ I hg hm ?_ hdb);refine Ws (h₀:=X.base) I.ok.mod.kin hk (thn (ha pos pins s σ H _ I h) λus s1 ⟨vs,H1,I1,r,q⟩=>⟨I1.kIn,?_⟩) he hpl
 exact xb F hr hb hd hx I1 r q
structure Mk (K:At) (C f:Is):Prop where
 makes:makesIn K C=true
 init:findIn K (.ref C) "__init__" = some (some (.ref f))
 fn:isFn K (.ref f)=true
 kp:keepIn K (.ref C)=true
theorem B_ (M:Mk X.K C f) (F:FnOk X.prog X.w X.K X.mg X.base CX k f fd ps sp) (hr:Room (k+1) X.A) (hb:Binds X.K fd ps ds) (hd:Vals dvs ds) (hx:Passes CX X E) (I:Inv X pins σ H s) (r:Vals vs us) (h:∀x dx,H x=none->H dx=none->dx≠x->sp (.ref x :: (vs++dvs)) (upd (upd H dx (.own x)) x (.ins C dx [])) (λv H2=>v=.non/\Q (.ref x) H2) E) :
  wpAny (model X.prog X.w) X.A (call (.ref C) us) (EP X pins σ Q) X.xe s:=by
 have hq:=h (s.heap.objs.size+1) s.heap.objs.size (I.hok.fresh (Y5 _)) (I.hok.fresh (Zi _)) (Ys (Xg _));have I2:=Inv.made (C:=C) I;have r2:Vals (V.ref (s.heap.objs.size+1) :: (vs++dvs)) (Value.ref (s.heap.objs.size+1) :: (us++ds)):=.cons rfl (r.append hd);have hl:(Value.ref (s.heap.objs.size+1) :: us++ds).length=ps.length:=by
  have e:=r2.length;rw [F.len _ _ _ _ hq]at e;exact e.symm
 refine wpAny_call (Ap (f:=f) I.kIn M.makes M.init (beq_iff_eq.mp M.fn) (Wn (F.run _ X.stack _ _ ⟨Value.ref (s.heap.objs.size+1) :: us,[]⟩ (Value.ref (s.heap.objs.size+1) :: (us++ds)) _ _ E (hr.make C us [])
  (I2.mC.make C us []) (hb _ (Value.ref (s.heap.objs.size+1) :: us) I2.kIn hl) r2 hq) λr s' hq'=>?_))
 cases r with
 |error e=>exact hx pins σ _ _ e s' I2 hq'
 |ok fl =>
  cases fl with
  |ret u =>
   obtain ⟨v,H',I3,rv,ev,q3⟩:=I2.after hq';subst ev;exact ⟨rv,⟨V.ref (s.heap.objs.size+1),H',I3,rfl,q3⟩⟩
  |next=>exact False.elim hq'
  |brk=>exact False.elim hq'
  |cont=>exact False.elim hq'
theorem Ea (M:Mk X.K C f) (F:FnOk X.prog X.w X.K X.mg X.base CX k f fd ps sp) (hr:Room (k+1) X.A) (hg:Gl X x) (hm:X.mg x=some (.ref C)) (hb:Binds X.K fd ps ds) (hd:Vals dvs ds) (hx:Passes CX X E)
  (ha:PA X (e :: es) t) (hdb:(x == ("__debug__" : Str))=false:=by decide) (he:starEach (e :: es) X.env=(false,eval e X.env) :: starEach es X.env:=by rfl) (hpl:(backTo pos (starEach es X.env)).any (·.1)=false:=by rfl) :
  PE X (.Call (.Name x p) (e :: es) [] pos) (E7 C sp dvs E t):=by
 intro pins s σ H Q I h;refine Xk (kJ I hg hm ?_ hdb);refine Ws (h₀:=X.base) I.ok.mod.kin M.kp (thn (ha pos pins s σ H _ I h) λus s1 ⟨vs,H1,I1,r,q⟩=>⟨I1.kIn,?_⟩) he hpl
 exact B_ M F hr hb hd hx I1 r q
end
section
variable {g:List Db->List Db->List Db}
end
structure FnScope (N P:List Str) (sc:Scope):Prop where
 kind:sc.kind=.function
 co:sc.isCoroutine=false
 gen:sc.isGenerator=false
 nd:N.Nodup
 pre:N.take P.length=P
 par:∀x∈P,sc.names.lookup x=some .local\/sc.names.lookup x=some .cell
 nofree:∀y∈sc.names,y.2≠.free
theorem sS {kindOf:Str->Option NameKind}:∀{binds:List (Str×Db)} {m:Str->Ch},(∀v,(x,v)∉binds)->bindL kindOf binds m x=m x
 |[],_,_=>rfl
 | (n,v) :: r,m,h=>by
  unfold bindL;rw [sS λw hw=>h w (Zs _ hw)]
  split
  ·have:x≠n:=by rintro rfl;exact h v Zz
   simp [this]
  ·rfl
theorem sU {kindOf:Str->Option NameKind}:∀{binds:List (Str×Db)} {m:Str->Ch},(∀v,(x,v)∉binds)->bindC kindOf binds m x=m x
 |[],_,_=>rfl
 | (n,v) :: r,m,h=>by
  unfold bindC;rw [sU λw hw=>h w (Zs _ hw)]
  split
  ·rfl
  ·have:x≠n:=by rintro rfl;exact h v Zz
   simp [this]
theorem sN {kindOf:Str->Option NameKind}:∀{P:List Str} {vs:List Db} {i:Nat} {m:Str->Ch},P.Nodup->P[i]?=some x->vs[i]?=some v->kindOf x=some .local ->
  bindL kindOf (P.zip vs) m x=some v
 |[],_,_,_,_,h,_,_=>by simp at h
 |_ :: _,[],_,_,_,_,h,_=>by simp at h
 |p :: P,w :: vs,0,m,nd,h1,h2,hk=>by
  simp at h1 h2;subst h1;subst h2
  show bindL kindOf ((p,w) :: P.zip vs) m p=_
  unfold bindL;rw [sS λv hv=>(Xn.mp nd).1 (Vw hv).1,N1 hk]
  simp
 |p :: P,w :: vs,i+1,m,nd,h1,h2,hk=>by
  show bindL kindOf ((p,w) :: P.zip vs) m x=_
  unfold bindL;exact sN (i:=i) (Xn.mp nd).2 (by simpa using h1) (by simpa using h2) hk
theorem sC {kindOf:Str->Option NameKind}:∀{P:List Str} {vs:List Db} {i:Nat} {m:Str->Ch},P.Nodup->P[i]?=some x->vs[i]?=some v->kindOf x≠some .local ->
  bindC kindOf (P.zip vs) m x=some v
 |[],_,_,_,_,h,_,_=>by simp at h
 |_ :: _,[],_,_,_,_,h,_=>by simp at h
 |p :: P,w :: vs,0,m,nd,h1,h2,hk=>by
  simp at h1 h2;subst h1;subst h2
  show bindC kindOf ((p,w) :: P.zip vs) m p=_
  unfold bindC;rw [sU λv hv=>(Xn.mp nd).1 (Vw hv).1,N2 hk]
  simp
 |p :: P,w :: vs,i+1,m,nd,h1,h2,hk=>by
  show bindC kindOf ((p,w) :: P.zip vs) m x=_
  unfold bindC;exact sC (i:=i) (Xn.mp nd).2 (by simpa using h1) (by simpa using h2) hk
def start (N:List Str) (vs:List V):St:=vs.map some++replicate (N.length-vs.length) none
def mI (CX:CXT) (P:Do) (w:Ev) (K:At) (mg:Str->Ch) (base:N0) (N:List Str) (qual:Str) (scope:Scope) (f:Is) (cd:Db) (A:Go) (outer:List Env) (s:Da) (H:Hp) (E:XK):Cx where
 prog:=P
 w:=w
 K:=K
 mg:=mg
 base:=base
 A:=A.deeper (envOfC qual scope s.heap.objs.size f cd)
 N:=N
 s₀:=s
 H₀:=H
 env:=envOfC qual scope s.heap.objs.size f cd
 outer:=outer
 stack:=envOfC qual scope s.heap.objs.size f cd :: outer
 ex:=[]
 calm:=true
 fn:=λ_=>true
 pn:=[]
 xe:=λe s'=>wpAny (model P w) (A.deeper (envOfC qual scope s.heap.objs.size f cd)) (leaving (envOfC qual scope s.heap.objs.size f cd) e) (λ_ s''=>CX outer H s E e s'') (λe' s''=>CX outer H s E e' s'') s'
theorem vW {sc:Scope} (h:sc.names.lookup x=some .cell):∃c,(cellsFrom n sc.names []).lookup x=some c:=by
 have q:=Wk sc.names n [] (.inl h);exact Option.isSome_iff_exists.mp q
theorem r_ {K:At} (S:FnScope N ps scope) (hd:A.handled=none) (e0:Env0 P w K mg base A outer s H) (hl:vs.length=ps.length) (r:Vals vs us) (x:InCallC s s.heap.objs.size (bindL (envOfC qual scope s.heap.objs.size f cd).kindOf (ps.zip us) λ_=>none) (cellsFrom (s.heap.objs.size+1) scope.names []) (bindC (envOfC qual scope s.heap.objs.size f cd).kindOf (ps.zip us) λ_=>none) s1) :
  Inv (mI CX P w K mg base N qual scope f cd A outer s H E) [] (start N vs) H s1:=by
 have hpl:ps.length<=N.length:=by have:=Yl List.length S.pre;rw [Ze]at this;lia
 obtain ⟨h1,tk,rfl,hk⟩:=x.done;have noA:∀b:Is,b∉(mI CX P w K mg base N qual scope f cd A outer s H E).ex:=λb z=>absurd (show b∈([]:List Is) from z) (by simp)
 refine ⟨⟨e0.mod,S.kind,rfl,rfl,Zi _,λy z c h1 h2=>?_,λy hy=>?_,λy c _ h=>?_,λ_=>hd,Around.frames_deeper e0.frames,.inr ⟨rfl,rfl⟩,λb z=>absurd z (noA b),e0.bs,e0.bsz,λb _ _=>noA b,λb z=>absurd z (noA b),e0.funs,e0.frf⟩,
  rfl,e0.bare,Un.kept hk,⟨_,x.toInCall.ns,λi y v h1 h2 h3=>?_⟩,λy c h=>⟨_,x.cell y c h⟩,e0.hok.fresh (Zi _),λy c h=>?_,λp hp=>absurd (show p∈([]:List (Is×Obj)) from hp) (by simp),e0.hok.kept hk,?_⟩
 ·exact name_of_addr x.apart (Ww h1) (Ww h2)
 ·have hy:scope.names.lookup y=some .cell\/scope.names.lookup y=some .free:=hy
  rcases hy with hy | hy
  ·exact vW hy
  ·exact absurd rfl (S.nofree _ (Ww hy))
 ·exact Nat.le_of_lt (x.above y c (Ww h))
 ·have hi:i<vs.length:=by
   unfold start at h2;by_cases hi:i<vs.length
   ·exact hi
   ·rw [Z9 (by simpa using hi)]at h2
    rw [Xa]at h2;split at h2 <;> cases h2
  have ha:vs[i]?=some v:=by
   unfold start at h2;rw [Yz (by simpa using hi),Zx]at h2
   cases e:vs[i]? with
   |none=>rw [e]at h2;cases h2
   |some a=>rw [e]at h2;cases h2;rfl
  obtain ⟨u,hu,rv⟩:=r.get ha;have hp:ps[i]?=some y:=by
   rw [<-S.pre,Yb (by lia)];exact h1
  have ndP:ps.Nodup:=by rw [<-S.pre];exact S.nd.sublist (List.take_sublist _ _)
  refine ⟨u,rv,?_⟩;rcases S.par y (Yp hp) with k | k
  ·exact .inl ⟨k,sN ndP hp hu k⟩
  ·obtain ⟨c,e⟩:=vW (n:=s.heap.objs.size+1) k
   refine .inr ⟨.inl k,c,e,?_⟩;have q:=x.cell y c e;rw [sC ndP hp hu (by show scope.names.lookup y≠_;rw [k];decide)]at q
   exact q
 ·exact e0.hok.fresh (Nat.le_of_lt (x.above y c (Ww h)))
 ·unfold start
  show _=N.length
  rw [Zv,Zy,Xv]
  lia
theorem Fl {K:At} {dV kV doc pm cdv ct oc:Db} (lk:K.lookup f=some ⟨oc,od,.func (fnOf name qual params body scope dV kV doc pm an cdv ct),osl⟩) (hcd:codeIn K cdv qual=true) (S:FnScope N ps scope) (len:∀vs H Q E,sp vs H Q E->vs.length=ps.length) (hbody:∀(A:Go) (outer:List Env) (s:Da) (H:Hp) (vs:List V) (Q:VK) (E:XK),Room k (A.deeper (envOfC qual scope s.heap.objs.size f cdv))->sp vs H Q E ->
   ∃t,PSs (mI CX P w K mg base N qual scope f cdv A outer s H E) body t/\t { nx:=λ_ H'=>Q .non H',rt:=Q } (start N vs) H) :
  FnOk P w K mg base CX (k+1) f (fnOf name qual params body scope dV kV doc pm an cdv ct) ps sp:=by
 refine ⟨len,λA outer s H args us vs Q E hr e0 hb r hsp=>?_⟩
 have hl:=len _ _ _ _ hsp;have KX:K.In s.heap:=e0.mod.kin.keeps λb o e=>(e0.bs b o e).1
 have lim:s.heap.NoLimit:=e0.mod.nolimit.keeps λb o e=>(e0.bs b o e).1
 have hkind:∀y∈ps.zip us,scope.names.lookup y.1=some .local\/(scope.names.lookup y.1=some .cell/\((cellsFrom (s.heap.objs.size+1) scope.names []).lookup y.1).isSome=true):=λ⟨n,v⟩ hy=>by
  rcases S.par n (Vw hy).1 with q | q
  ·exact .inl q
  ·exact .inr ⟨q,Wk _ _ _ (.inl q)⟩
 refine codeAny_call_function hr.depth (KX _ _ lk) rfl S.co S.gen rfl (PySem.W.codeRec_of KX hcd) (hb _ _ _ _ ?_);refine wpAny_newFunctionEnv_cells S.kind hkind λenv he s1 x=>?_
 subst he;refine ⟨lim.keeps x.toInCall.keep,codeAny_func ?_⟩;obtain ⟨t,ht,hq⟩:=hbody A outer s H vs Q E (hr.deeper _) hsp;have I:Inv (mI CX P w K mg base N qual scope f cdv A outer s H E) [] (start N vs) H s1:=r_ S hr.hd e0 hl r x;refine Xp (ht [] s1 (start N vs) H _ I hq) (λfl s' hs=>?_) λe s' hs=>hs
 have fin:∀{σ':St} {H':Hp} {v:V} {u:Db},Inv (mI CX P w K mg base N qual scope f cdv A outer s H E) [] σ' H' s'->RelV v u->Q v H'->CE outer P w H s Q u s' :=
  fun {σ' H' v u} J rv q=>⟨v,H',J.os,J.bare,J.base,J.hok,rv,q⟩
 cases fl with
 |ret u =>
  obtain ⟨v,σ',H',J,rv,q⟩:=hs;exact fin J rv q
 |next =>
  obtain ⟨σ',H',J,q⟩:=hs;exact fin (v:=V.non) (u:=Value.none) J rfl q
 |brk =>
  obtain ⟨_,_,_,q⟩:=hs;exact False.elim q
 |cont =>
  obtain ⟨_,_,_,q⟩:=hs;exact False.elim q
section
variable {X:Cx} {t:TA} {id T:String} {r:List V->Hp->VK->Prop}
def tCB (r:List V->Hp->VK->Prop) (t:TA):TE:=fun σ H Q=>t σ H λvs H1=>r vs H1 Q
theorem m_ (hc:dR X (.builtin id) r) (hg:Gl X x) (hm:X.mg x=none) (hv:bootBuiltins x=some (.builtin id)) (ha:PA X (e :: es) t) (hn:x ≠ "__name__" := by decide) (hdb:(x == ("__debug__" : Str))=false:=by decide)
  (he:starEach (e :: es) X.env=(false,eval e X.env) :: starEach es X.env:=by rfl) (hpl:(backTo pos (starEach es X.env)).any (·.1)=false:=by rfl):PE X (.Call (.Name x p) (e :: es) [] pos) (tCB r t):=by
 intro pins s σ H Q I h;refine Xk (gv I hg hm hv ?_ hn hdb);exact PyProof.Rows.callWith_builtin1 (thn (ha pos pins s σ H _ I h) λus s1 ⟨vs,H1,I1,r1,q1⟩=>hc pins s1 σ H1 vs us Q I1 r1 q1) he hpl
theorem zf (hc:dR X (.type T) r) (hg:Gl X x) (hm:X.mg x=none) (hv:bootBuiltins x=some (.type T)) (ha:PA X (e :: es) t) (hn:x ≠ "__name__" := by decide) (hdb:(x == ("__debug__" : Str))=false:=by decide)
  (he:starEach (e :: es) X.env=(false,eval e X.env) :: starEach es X.env:=by rfl) (hpl:(backTo pos (starEach es X.env)).any (·.1)=false:=by rfl):PE X (.Call (.Name x p) (e :: es) [] pos) (tCB r t):=by
 intro pins s σ H Q I h;refine Xk (gv I hg hm hv ?_ hn hdb);exact Yc (thn (ha pos pins s σ H _ I h) λus s1 ⟨vs,H1,I1,r1,q1⟩=>hc pins s1 σ H1 vs us Q I1 r1 q1) he hpl
end
end L2
namespace HT
open PySem PyProof.Rows
section
open PySem.SeqAt
open PySem.AutoSeq1 (wpAny_loadPart')
open PySem.MeetsSeq PySem.MeetsSeq2 PySem.MeetsSeq3
end
section
def sIx (n d:Nat):Option Int->Nat
 |none=>d
 |some v=>if v<0 then (v+(n:Int)).toNat else min v.toNat n
theorem v_ (n d:Nat):sIx n d none=d:=rfl
theorem xA (n d k:Nat):sIx n d (some (k:Int))=min k n:=by
 show (if (k:Int)<0 then ((k:Int)+(n:Int)).toNat else min (k:Int).toNat n)=min k n
 rw [N2 (by lia),Zn]
end
end HT
namespace L2
open PySem PySem.Spec PyProof.Rows
abbrev TO:=St->Hp->(Option Int->Hp->Prop)->Prop
def PO (X:Cx) (e:Option M2) (t:TO):Prop :=
 ∀(pins:List (Is×Obj)) (s:Da) (σ:St) (H:Hp) (Q:Option Int->Hp->Prop),Inv X pins σ H s->t σ H Q ->
  wpAny (model X.prog X.w) X.A (evalPart e X.env) (λu s'=>∃o H',Inv X pins σ H' s'/\IsPart u o/\Q o H') X.xe s
def xZ:TO:=λ_ H Q=>Q none H
def F_ (t:TE):TO:=fun σ H Q=>t σ H λx H1=>∃i,x=.int i/\Q (some i) H1
theorem intsAre_of:∀{us:List Db},Vals (ns.map V.int) us->IntsAre us ns:=by
 induction ns with
 |nil=>intro us r;rw [Yh]at r;cases r;exact .nil
 |cons n ns ih =>
  intro us r;rw [Zw]at r;cases r with
  |cons r1 r2 =>
   obtain ⟨t,e⟩:=r1;subst e;exact .cons n t (ih r2)
section
variable {X:Cx} {te:TE} {lo hi:Option M2} {tl th:TO}
theorem ES:PO X none xZ:=by
 intro pins s σ H Q I h;rw [evalPart_none];exact Yn ⟨none,H,I,.none,h⟩
theorem Dd (h:PE X e te):PO X (some e) (F_ te):=by
 intro pins s σ H Q I hw;rw [evalPart_some];refine thn (h pins s σ H _ I hw) λu s1 ⟨x,H1,I1,r1,q1⟩=>?_
 obtain ⟨i,rfl,q⟩:=q1;obtain ⟨t,rfl⟩:=r1;exact ⟨some i,H1,I1,.int i t,q⟩
def SlR (X:Cx) (r:V->Option Int->Option Int->Hp->VK->Prop):Prop :=
 ∀(pins:List (Is×Obj)) (s:Da) (σ:St) (H:Hp) (x:V) (v vl vu:Db) (lo hi:Option Int) (sl:Is) (Q:VK),Inv X pins σ H s->RelV x v->s.heap.IsSliceOf sl vl vu .none->IsPart vl lo->IsPart vu hi->r x lo hi H Q ->
  ∃T id,typeLookup (.type T) "__getitem__" = pure (some (.builtin id))/\s.TypeIs v T/\wpAny (model X.prog X.w) X.A (getItem v (.ref sl)) (EP X pins σ Q) X.xe s
def tSl (r:V->Option Int->Option Int->Hp->VK->Prop) (te:TE) (tl th:TO):TE:=fun σ H Q=>te σ H λx H1=>tl σ H1 λl H2=>th σ H2 λu H3=>r x l u H3 Q
theorem Bn (hr:SlR X r) (he:PE X e te) (hl:PO X lo tl) (hu:PO X hi th):PE X (.Subscript e (.Slice lo hi none p2) pos) (tSl r te tl th):=by
 intro pins s σ H Q I h;refine Subscript_ (thn (he pins s σ H _ I h) λv s1 ⟨x,H1,I1,r1,q1⟩=>?_)
 refine wpAny_Slice (thn (hl pins s1 σ H1 _ I1 q1) λvl s2 ⟨l,H2,I2,pl,q2⟩=>thn (hu pins s2 σ H2 _ I2 q2) λvu s3 ⟨u,H3,I3,pu,q3⟩=>?_)
 rw [evalPart_none];refine Yn ?_;have I4:Inv X pins σ H3 { s3 with heap:=s3.heap.push { cls:=.type "slice",data:=.fields #[vl,vu,.none] } }:=I3.kept (t':=s3.toks) λb ob q=>Zl _ q
 obtain ⟨T,id,hT,ht,hg⟩:=hr pins { s3 with heap:=s3.heap.push { cls:=.type "slice",data:=.fields #[vl,vu,.none] } } σ H3 x v vl vu l u s3.heap.objs.size Q I4 r1 (Heap.IsSliceOf.new ..) pl pu q3
 show wpAny (model X.prog X.w) X.A (subscriptTail e (.Slice lo hi none p2) v (.ref s3.heap.objs.size)) (EP X pins σ Q) X.xe { s3 with heap:=s3.heap.push { cls:=.type "slice",data:=.fields #[vl,vu,.none] } }
 exact tail_any (ops:=[.ref s3.heap.objs.size,v]) ht hT hg (by with_unfolding_all rfl)
def CL (xs:List V) (lo hi:Option Int):List V:=(xs.drop (HT.sIx xs.length 0 lo)).take (HT.sIx xs.length xs.length hi-HT.sIx xs.length 0 lo)
theorem vg (xs:List V) (lo hi:Option Int):(CL xs lo hi).length<=xs.length:=by
 unfold CL;rw [Ze,Y2]
 lia
end
def ixN (n:Nat) (i:Int):Option Nat:=if 0<=i then (if i<n then some i.toNat else none) else if -(n:Int)<=i then some (i+n).toNat else none
def atI {α:Type} (xs:List α) (i:Int):Option α:=(ixN xs.length i).bind λj=>xs[j]?
theorem xN (h:ixN n i=some j):seqIndex? i n=some j/\j<n/\-(n:Int)<=i/\i<n:=by
 unfold ixN at h;by_cases h0:0<=i
 ·rw [N1 h0]at h
  by_cases h1:i<n
  ·rw [N1 h1]at h
   have e:i.toNat=j:=Yv h;exact ⟨by rw [seqIndex_of h0 h1,e],by lia,by lia,h1⟩
  ·rw [N2 h1]at h;cases h
 ·rw [N2 h0]at h
  by_cases h1:-(n:Int)<=i
  ·rw [N1 h1]at h
   have e:(i+n).toNat=j:=Yv h;exact ⟨by rw [seqIndex_neg (by lia) h1,e],by lia,h1,by lia⟩
  ·rw [N2 h1]at h;cases h
theorem ug (h:atI xs i=some v):∃j,seqIndex? i xs.length=some j/\xs[j]?=some v/\j<xs.length/\-(xs.length:Int)<=i/\i<xs.length:=by
 unfold atI at h;cases e:ixN xs.length i with
 |none=>rw [e]at h;cases h
 |some j =>
  rw [e]at h;obtain ⟨h1,h2,h3,h4⟩:=xN e;exact ⟨j,h1,h,h2,h3,h4⟩
theorem bt {α:Type} {xs:List α} {j:Nat} {v:α} (h:xs[j]?=some v):atI xs (j:Int)=some v:=by
 have hj:j<xs.length:=(ZA.mp h).1;have e:ixN xs.length (j:Int)=some j:=by
  unfold ixN;rw [N1 (by lia),N1 (by lia)];simp
 unfold atI;rw [e];exact h
theorem CD (xs:List α) (v:α):atI (xs++[v]) (-1)=some v:=by
 have hl:(xs++[v]).length=xs.length+1:=by simp
 have e:ixN (xs++[v]).length (-1)=some xs.length:=by
  unfold ixN;rw [hl,N2 (by decide),N1 (by lia)]
  congr 1
  lia
 unfold atI;rw [e];show (xs++[v])[xs.length]?=some v
 simp
def jS (b:M2):Prop:=∀o i,subscripted b false o i=operate [o,i] (getItem o i)
def IxR (X:Cx) (r:R2):Prop :=
 ∀(value slice:M2) (pins:List (Is×Obj)) (s:Da) (σ:St) (H:Hp) (x y:V) (v u:Db) (Q:VK),Inv X pins σ H s->RelV x v->RelV y u->r x y H Q ->
  subscripted slice false v u=operate [v,u] (getItem v u)->wpAny (model X.prog X.w) X.A (subscriptTail value slice v u) (EP X pins σ Q) X.xe s
def MtR (X:Cx) (id:String) (r:V->List V->Hp->VK->Prop):Prop :=
 ∀(pins:List (Is×Obj)) (s:Da) (σ:St) (H:Hp) (x:V) (xs:List V) (v:Db) (us:List Db) (Q:VK),Inv X pins σ H s->RelV x v->Vals xs us->r x xs H Q ->
  wpAny (model X.prog X.w) X.A (call (.builtin id) (v :: us)) (EP X pins σ Q) X.xe s
section
variable {X:Cx} {a b:M2}
theorem IxR.or (h:IxR X r) (h':IxR X r'):IxR X (λx y H Q=>r x y H Q\/r' x y H Q):=by
 intro value slice pins s σ H x y v u Q I rx ry q hs;rcases q with q | q
 ·exact h value slice pins s σ H x y v u Q I rx ry q hs
 ·exact h' value slice pins s σ H x y v u Q I rx ry q hs
theorem su (hr:IxR X r) (ha:PE X a ta) (hb:PE X b tb) (hs:jS b):PE X (.Subscript a b pos) (tOp r ta tb):=by
 intro pins s σ H Q I h;exact Subscript_ (Hn ha hb I h λv u s2 x y H2 I2 rx ry q=>hr a b pins s2 σ H2 x y v u Q I2 rx ry q (hs _ _))
def u7 (K:At):R2:=λx y H Q=>∃p xs i v,x=.ref p/\y=.int i/\SqL K H p xs/\atI xs i=some v/\Q v H
def JR (K:At):R2:=λx y H Q=>∃p xs i v,x=.ref p/\y=.int i/\SqT K H p xs/\atI xs i=some v/\Q v H
def J2:R2:=λx y H Q=>∃z i c,x=.str z/\y=.int i/\z.length<=sizeLine/\atI z.cps.toList i=some c/\Q (.str ⟨#[c]⟩) H
theorem yr:IxR X (u7 X.K):=by
 intro value slice pins s σ H x y v u Q I rx ry h hs;obtain ⟨p,xs,i,z,rfl,rfl,hq,he,q⟩:=h;cases rx;obtain ⟨t,rfl⟩:=ry;obtain ⟨its,r,pl,hz⟩:=I.list hq;obtain ⟨j,h1,h2,h3,h4,h5⟩:=ug he;obtain ⟨w,ew,rw'⟩:=r.get h2;have hl:=r.length;have hn:=mH;have fin:EP X pins σ Q w s:=⟨z,H,I,rw',q⟩;by_cases h0:0<=i
 ·have hj:i.toNat=j:=by
   rw [seqIndex_of h0 h5]at h1;exact Yv h1
  exact item_listR pl.isList h0 (by lia) (by rw [hj];simpa using ew) fin hs
 ·have hj:(i+(its.toArray.size:Int)).toNat=j:=by
   rw [seqIndex_neg (by lia) h4]at h1
   rw [Z0,<-hl];exact Yv h1
  exact subscriptTail_builtinR (x:=w) pl.isList.typeIs slot_list_getitem.lookup
   (wpAny_getItem_list_neg (Q:=λr s'=>r=w/\EP X pins σ Q r s') pl.isList (by lia) (by rw [Z0] <;> lia) (by lia) (by rw [hj];simpa using ew) ⟨rfl,fin⟩) hs
theorem HA:IxR X (JR X.K):=by
 intro value slice pins s σ H x y v u Q I rx ry h hs;obtain ⟨p,xs,i,z,rfl,rfl,hq,he,q⟩:=h;cases rx;obtain ⟨t,rfl⟩:=ry;obtain ⟨its,r,pl,hz⟩:=I.tuple hq;obtain ⟨j,h1,h2,h3,h4,h5⟩:=ug he;obtain ⟨w,ew,rw'⟩:=r.get h2;have hl:=r.length;have hn:=mH;have fin:EP X pins σ Q w s:=⟨z,H,I,rw',q⟩;exact subscriptTail_builtinR (x:=w) pl.typeIs slot_tuple_getitem.lookup
  (getItem_tuple (j:=j) (Q:=λr s'=>r=w/\EP X pins σ Q r s') pl (by lia) (by lia) (by rw [Z0,<-hl];exact h1) (by simpa using ew) ⟨rfl,fin⟩) hs
theorem IQ:IxR X J2:=by
 intro value slice pins s σ H x y v u Q I rx ry h hs;obtain ⟨z,i,c,rfl,rfl,hz,he,q⟩:=h;obtain ⟨t,rfl⟩:=rx;obtain ⟨t',rfl⟩:=ry;obtain ⟨j,h1,h2,h3,h4,h5⟩:=ug he;have hl:z.cps.toList.length=z.length:=by simp [Str.length]
 rw [hl]at h1 h4 h5;have hn:=mH;exact tail_any (typeIs_str s z t) slot_str_getitem.lookup (getItem_str (c:=c) (by
  have e1:decide (i < -(2 ^ 63:Int))=false:=Zq (by lia)
  have e2:decide (i ≥ 2 ^ 63)=false:=Zq (by lia)
  rw [e1,e2,Bool.or_false]) (by rw [h1];simpa using h2) ⟨.str ⟨#[c]⟩,H,I.tok _,⟨_,rfl⟩,q⟩) hs
def rIx (K:At):R2:=λx y H Q=>u7 K x y H Q\/JR K x y H Q\/J2 x y H Q
theorem wF:IxR X (rIx X.K):=yr.or (HA.or IQ)
theorem xh (its:List Db) (n j:Nat) (u:Db):Obj.mapSeq (·.setIfInBounds j u) { cls:=.type "list",data:=.seq its.toArray n }={ cls:=.type "list",data:=.seq (its.set j u).toArray n }:=by
 simp [Obj.mapSeq]
theorem Inv.lst {pins:List (Is×Obj)} {σ:St} {H:Hp} {s:Da} {p:Is} {xs:List V} (I:Inv X pins σ H s) (h:H p=some (.lst xs)) :
  ∃(its:List Db) (n:Nat),Vals xs its/\s.heap.get? p=some { cls:=.type "list",data:=.seq its.toArray n }/\xs.length<=sizeLine:=by
 obtain ⟨z,its,n,r,e⟩:=I.hok p _ h;exact ⟨its,n,r,e,z⟩
theorem Inv.lstUpd {s:Da} {xs ys:List V} {its its':List Db} {f:Obj->Obj} (I:Inv X pins σ H s) (h:H p=some (.lst xs)) (ho:s.heap.get? p=some { cls:=.type "list",data:=.seq its.toArray n }) (hf:f { cls:=.type "list",data:=.seq its.toArray n }={ cls:=.type "list",data:=.seq its'.toArray n' }) (r:Vals ys its') (hz:ys.length<=sizeLine) (t:Nat) :
  Inv X pins σ (upd H p (.lst ys)) { s with heap:=s.heap.update p f,toks:=t }:=by
 have e:(s.heap.update p f).get? p=some { cls:=.type "list",data:=.seq its'.toArray n' }:=by
  rw [Vt f ho (by rw [hf] <;> rfl),hf]
 refine I.write (x:=p) (e:=p) (by rw [h];trivial) (.inl rfl) (λb u hb q=>(Heap.get?_update_other _ _ (Xj hb)).trans q) ⟨_,e⟩ ?_
 exact ⟨hz,its',n',r,e⟩
def Be:V->V->V->Hp->(Hp->Prop)->Prop:=λo i v H Q=>∃p xs k j,o=.ref p/\i=.int k/\H p=some (.lst xs)/\ixN xs.length k=some j/\Q (upd H p (.lst (xs.set j v)))
theorem set_list:JL X Be:=by
 intro pins s σ H o i v ov iv u Q I ro ri rv h;obtain ⟨p,xs,k,j,rfl,rfl,hp,hj,q⟩:=h;cases ro;obtain ⟨t,rfl⟩:=ri;obtain ⟨its,n,r,ho,hz⟩:=I.lst hp;obtain ⟨h1,h2,h3,h4⟩:=xN hj;have hl:=r.length;have hn:=mH;have I':Inv X pins σ (upd H p (.lst (xs.set j v))) { s with heap:=s.heap.update p (Obj.mapSeq (·.setIfInBounds j u)) } :=
  I.lstUpd hp ho (xh its n j u) (r.set rv j) (by rw [Y3];exact hz) s.toks
 by_cases h0:0<=k
 ·have hk:k.toNat=j:=by
   rw [seqIndex_of h0 h4]at h1;exact Yv h1
  exact PySem.W.ki_setAt ho h0 (by lia) (by rw [Z0,<-hl];exact h4) (by rw [hk];exact ⟨_,I',q⟩)
 ·have hk:(k+(its.toArray.size:Int)).toNat=j:=by
   rw [seqIndex_neg (by lia) h3]at h1
   rw [Z0,<-hl];exact Yv h1
  exact PySem.W.ki_setBack ho (by lia) (by rw [Z0,<-hl];exact h3) (by lia) (by rw [hk];exact ⟨_,I',q⟩)
theorem uO (lo hi:Option Int) (n:Nat):(sliceBounds lo hi none n).1=((HT.sIx n 0 lo:Nat):Int)/\(sliceBounds lo hi none n).2.1=((HT.sIx n n hi:Nat):Int)/\(sliceBounds lo hi none n).2.2=1:=by
 refine ⟨?_,?_,rfl⟩
 ·cases lo with
  |none=>simp [sliceBounds,HT.sIx]
  |some i =>
   simp only [sliceBounds,HT.sIx,Option.getD_none,show (1:Int) > 0 by decide,W6]
   by_cases h:i<0
   ·simp only [h,W6] <;> lia
   ·simp only [h,if_false] <;> lia
 ·cases hi with
  |none=>simp [sliceBounds,HT.sIx]
  |some i =>
   simp only [sliceBounds,HT.sIx,Option.getD_none,show (1:Int) > 0 by decide,W6]
   by_cases h:i<0
   ·simp only [h,W6] <;> lia
   ·simp only [h,if_false] <;> lia
theorem rS (its:List Db) (lo hi:Option Int):slicePick its.toArray lo hi none=((its.drop (HT.sIx its.length 0 lo)).take (HT.sIx its.length its.length hi-HT.sIx its.length 0 lo)).toArray:=by
 obtain ⟨h1,h2,h3⟩:=uO lo hi its.toArray.size;unfold slicePick;rw [h1,h2,h3];simp only [sliceRange_one,pick_run,Z0] <;> rfl
def Kn (K:At):V->Option Int->Option Int->Hp->VK->Prop:=λx lo hi H Q=>∃a xs,x=.ref a/\SqL K H a xs/\∀p,H p=none->Q (.ref p) (upd H p (.lst (CL xs lo hi)))
theorem mV:SlR X (Kn X.K):=by
 intro pins s σ H x v vl vu lo hi sl Q I rx hs pl pu h;obtain ⟨a,xs,rfl,hx,q⟩:=h;cases rx;obtain ⟨its,r,ht,hz⟩:=I.list hx;have hlen:=r.length;refine ⟨"list",_,slot_list_getitem.lookup,ht.isList.typeIs,?_⟩;refine wpAny_getItem_list_slice ht.isList hs pl pu .none (by simp) ?_ (by rw [Z0] <;> lia)
 rw [rS,<-hlen];refine ⟨.ref s.heap.objs.size,_,I.laid (t':=s.toks) (o:=.lst (CL xs lo hi)) (λb ob q=>Zl _ q) (Zi _) ?_,rfl,q _ (I.hok.fresh (Zi _))⟩
 exact ⟨Yg (vg xs lo hi) hz,_,0,(r.drop (HT.sIx xs.length 0 lo)).take (HT.sIx xs.length xs.length hi-HT.sIx xs.length 0 lo),Yr _ rfl⟩
def nC:V->Bool
 |.non=>true
 |.bl _=>true
 |.int _=>true
 |.str _=>true
 |_=>false
def eqV:V->V->Bool
 |.non,.non=>true
 |.bl a,.bl b=>a == b
 |.bl a,.int b=>(if a then 1 else 0) == b
 |.int a,.bl b=>a == (if b then 1 else 0)
 |.int a,.int b=>a == b
 |.str a,.str b=>a == b
 |_,_=>false
theorem IU (ry:RelV y u) (rx:RelV x v) (fy:nC y=true) (fx:nC x=true):SeqAt.EqAt A s u v (eqV y x):=by
 cases y with
 |non =>
  cases ry;cases x with
  |non=>cases rx;exact SeqAt.EqAt.same _
  |bl b=>cases rx;exact SeqAt.EqAt.none_bool b
  |int b=>obtain ⟨t,rfl⟩:=rx;exact SeqAt.EqAt.none_int b t
  |str b=>obtain ⟨t,rfl⟩:=rx;exact SeqAt.EqAt.none_str b t
  |_=>exact absurd (show false=true from fx) Zo
 |bl a =>
  cases ry;cases x with
  |non=>cases rx;exact SeqAt.EqAt.bool_none a
  |bl b=>cases rx;exact SeqAt.EqAt.bool_bool a b
  |int b=>obtain ⟨t,rfl⟩:=rx;exact SeqAt.EqAt.bool_int a b t
  |str b=>obtain ⟨t,rfl⟩:=rx;exact SeqAt.EqAt.bool_str a b t
  |_=>exact absurd (show false=true from fx) Zo
 |int a =>
  obtain ⟨t',rfl⟩:=ry;cases x with
  |non=>cases rx;exact SeqAt.EqAt.int_none a t'
  |bl b=>cases rx;exact SeqAt.EqAt.int_bool a t' b
  |int b=>obtain ⟨t,rfl⟩:=rx;exact SeqAt.EqAt.int_int a t' b t
  |str b=>obtain ⟨t,rfl⟩:=rx;exact SeqAt.EqAt.int_str a t' b t
  |_=>exact absurd (show false=true from fx) Zo
 |str a =>
  obtain ⟨t',rfl⟩:=ry;cases x with
  |non=>cases rx;exact SeqAt.EqAt.str_none a t'
  |bl b=>cases rx;exact SeqAt.EqAt.str_bool a t' b
  |int b=>obtain ⟨t,rfl⟩:=rx;exact SeqAt.EqAt.str_int a t' b t
  |str b=>obtain ⟨t,rfl⟩:=rx;exact SeqAt.EqAt.str_str a t' b t
  |_=>exact absurd (show false=true from fx) Zo
 |_=>exact absurd (show false=true from fy) Zo
def eqU (x:V) (u:Db):Bool:=match u with
 |.none=>eqV .non x
 |.bool b=>eqV (.bl b) x
 |.int i _=>eqV (.int i) x
 |.str z _=>eqV (.str z) x
 |_=>false
theorem BK (r:RelV y u) (f:nC y=true):eqU x u=eqV y x:=by
 cases y with
 |non=>cases r;rfl
 |bl b=>cases r;rfl
 |int i=>obtain ⟨t,rfl⟩:=r;rfl
 |str z=>obtain ⟨t,rfl⟩:=r;rfl
 |_=>exact absurd (show false=true from f) Zo
theorem nM:∀{xs:List V} {us:List Db},Vals xs us->xs.all nC=true->us.any (eqU x)=xs.any λy=>eqV y x
 |_,_,.nil,_=>rfl
 |y :: xs,u :: us,.cons r t,f=>by
  rw [W1,Yy]at f;rw [W2,W2,BK r f.1,nM t f.2]
theorem lz (rx:RelV x v) (fx:nC x=true):∀{xs:List V} {us:List Db},Vals xs us->xs.all nC=true->∀u∈us,SeqAt.EqAt A s u v (eqU x u)
 |_,_,.nil,_=>λu hu=>by cases hu
 |y :: xs,u :: us,.cons r t,f=>λu' hu=>by
  rw [W1,Yy]at f;rcases Xz.mp hu with rfl | hu
  ·rw [BK r f.1];exact IU r rx f.1 fx
  ·exact lz rx fx t f.2 u' hu
def inV (x:V) (xs:List V):Bool:=xs.any λy=>eqV y x
def rIn (K:At) (neg:Bool):R2:=λx y H Q=>∃p xs,y=.ref p/\(SqL K H p xs\/SqT K H p xs)/\nC x=true/\xs.all nC=true/\Q (.bl (if neg then !inV x xs else inV x xs)) H
theorem jD:OpR X (compareOp .In) (rIn X.K false):=by
 intro pins s σ H x y v u Q I rx ry h;obtain ⟨p,xs,rfl,hq,fx,fs,q⟩:=h;cases ry;rcases hq with hq | hq
 ·obtain ⟨its,r,pl,hz⟩:=I.list hq
  refine SeqAt.in_listAt (eqU x) pl.isList (λw hw=>lz rx fx r fs w (by simpa using hw)) ⟨.bl _,H,I,rfl,?_⟩
  rw [show its.toArray.any (eqU x)=its.any (eqU x) by simp,nM r fs]
  exact q
 ·obtain ⟨its,r,pl,hz⟩:=I.tuple hq
  refine SeqAt.in_tupleAt (eqU x) pl (λw hw=>lz rx fx r fs w (by simpa using hw)) ⟨.bl _,H,I,rfl,?_⟩
  rw [show its.toArray.any (eqU x)=its.any (eqU x) by simp,nM r fs]
  exact q
theorem kF:OpR X (compareOp .NotIn) (rIn X.K true):=by
 intro pins s σ H x y v u Q I rx ry h;obtain ⟨p,xs,rfl,hq,fx,fs,q⟩:=h;cases ry;rcases hq with hq | hq
 ·obtain ⟨its,r,pl,hz⟩:=I.list hq
  refine SeqAt.notIn_listAt (eqU x) pl.isList (λw hw=>lz rx fx r fs w (by simpa using hw)) ⟨.bl _,H,I,rfl,?_⟩
  rw [show its.toArray.any (eqU x)=its.any (eqU x) by simp,nM r fs]
  exact q
 ·obtain ⟨its,r,pl,hz⟩:=I.tuple hq
  refine SeqAt.notIn_tupleAt (eqU x) pl (λw hw=>lz rx fx r fs w (by simpa using hw)) ⟨.bl _,H,I,rfl,?_⟩
  rw [show its.toArray.any (eqU x)=its.any (eqU x) by simp,nM r fs]
  exact q
theorem uc:dR X (.builtin "len") (λxs H Q=>∃p ys,xs=[.ref p]/\(SqL X.K H p ys\/SqT X.K H p ys)/\Q (.int ys.length) H):=by
 intro pins s σ H xs us Q I r h;obtain ⟨p,ys,rfl,hq,q⟩:=h;obtain ⟨u,rfl,rx⟩:=vals1 r;cases rx;have hn:=mH;rcases hq with hq | hq
 ·obtain ⟨its,r',pl,hz⟩:=I.list hq
  have hlen:=r'.length;exact Calls.call_len_list pl.isList (by simp only [Z0] <;> lia) ⟨.int ys.length,H,I.tok _,⟨s.toks+1,by rw [Z0,hlen]⟩,q⟩
 ·obtain ⟨its,r',pl,hz⟩:=I.tuple hq
  have hlen:=r'.length;exact len_tuple pl (by simp only [Z0] <;> lia) ⟨.int ys.length,H,I.tok _,⟨s.toks+1,by rw [Z0,hlen]⟩,q⟩
theorem sZ:dR X (.builtin "len") (λxs H Q=>∃z,xs=[.str z]/\z.length<=sizeLine/\Q (.int z.length) H):=by
 intro pins s σ H xs us Q I r h;obtain ⟨z,rfl,hz,q⟩:=h;obtain ⟨u,rfl,t,rfl⟩:=vals1 r;have hn:=mH;exact len_str (by lia) ⟨.int z.length,H,I.tok _,⟨_,rfl⟩,q⟩
theorem dR.or (h:dR X f r) (h':dR X f r'):dR X f (λxs H Q=>r xs H Q\/r' xs H Q):=by
 intro pins s σ H xs us Q I rs q;rcases q with q | q
 ·exact h pins s σ H xs us Q I rs q
 ·exact h' pins s σ H xs us Q I rs q
theorem tJ:dR X (.type "list") (λxs H Q=>∃p ys,xs=[.ref p]/\(SqL X.K H p ys\/SqT X.K H p ys)/\∀l,H l=none->Q (.ref l) (upd H l (.lst ys))):=by
 intro pins s σ H xs us Q I r h;obtain ⟨p,ys,rfl,hq,q⟩:=h;obtain ⟨u,rfl,rx⟩:=vals1 r;cases rx;have fin:∀(its:List Db),Vals ys its->ys.length<=sizeLine->∀(h':N0) (c':Nat),(∀b o',s.heap.get? b=some o'->h'.get? b=some o') ->
   h'.get? s.heap.objs.size=some { cls:=.type "list",dict:=none,data:=.seq its.toArray c',slots:=#[] }->EP X pins σ Q (.ref s.heap.objs.size) { s with heap:=h' }:=λits r' hz h' c' kp e =>
  ⟨.ref s.heap.objs.size,_,I.laid (t':=s.toks) kp (Zi _) (show cT X.prog X.w _ h' _ (.lst ys) from ⟨hz,its,c',r',e⟩),rfl,q _ (I.hok.fresh (Zi _))⟩
 rcases hq with hq | hq
 ·obtain ⟨its,r',pl,hz⟩:=I.list hq
  have hlen:=r'.length;obtain ⟨o,ho,hc,n,hd⟩:=pl.isList;exact call_list_seq p (.inl rfl) ho hc hd (λh' c' kp e=>fin its r' hz h' c' kp e) (by simp only [Z0] <;> lia)
 ·obtain ⟨its,r',pl,hz⟩:=I.tuple hq
  have hlen:=r'.length;obtain ⟨o,ho,hc,n,hd⟩:=pl;exact call_list_seq p (.inr rfl) ho hc hd (λh' c' kp e=>fin its r' hz h' c' kp e) (by simp only [Z0] <;> lia)
def tyV (K:At) (T:String) (x:V) (H:Hp):Prop:=match x with
 |.str _=>T = "str"
 |.int _=>T = "int"
 |.ref p=>(T = "list" /\ ∃xs,SqL K H p xs)\/(T = "tuple" /\ ∃o,K.lookup p=some o/\o.cls=.type "tuple" /\ o.dict=none) \/
   (T = "dict" /\ ((∃kvs,H p=some (.dK kvs))\/∃kvs,H p=some (.dT kvs)))\/(T = "set" /\ ∃S n,H p=some (.set S n))
 |_=>False
theorem AV (I:Inv X pins σ H s) (r:RelV x v) (ty:tyV X.K T x H) :
  s.TypeIs v T/\∀a,v=.ref a->∃ob,s.heap.get? a=some ob/\ob.dict=none:=by
 cases x with
 |str z =>
  obtain ⟨t,rfl⟩:=r;cases (show T = "str" from ty)
  exact ⟨typeIs_str s z t,λ_ e=>nomatch e⟩
 |int i =>
  obtain ⟨t,rfl⟩:=r;cases (show T = "int" from ty)
  exact ⟨typeIs_int s i t,λ_ e=>nomatch e⟩
 |ref p =>
  cases r;rcases ty with ⟨rfl,xs,hq⟩ | ⟨rfl,o,hk,hc,hd⟩ | ⟨rfl,hk⟩ | ⟨rfl,S,n,hk⟩
  ·obtain ⟨its,_,pl,_⟩:=I.list hq
   refine ⟨pl.isList.typeIs,λa e=>?_⟩
   cases e;obtain ⟨o,n,e,c,hd,_⟩:=pl;exact ⟨o,e,hd⟩
  ·refine ⟨⟨o,I.kIn p o hk,hc⟩,λa e=>?_⟩
   cases e;exact ⟨o,I.kIn _ o hk,hd⟩
  ·have z:∃o,s.heap.get? p=some o/\o.ExactDict:=by
    rcases hk with ⟨kvs,hk⟩ | ⟨kvs,hk⟩
    ·obtain ⟨_,_,_,_,o,_,_,e,ex,_⟩:=I.hok p _ hk
     exact ⟨o,e,ex⟩
    ·obtain ⟨_,_,_,_,o,_,_,e,ex,_⟩:=I.hok p _ hk
     exact ⟨o,e,ex⟩
   obtain ⟨o,e,ex⟩:=z;refine ⟨⟨o,e,ex.1⟩,λa e2=>?_⟩
   cases e2;exact ⟨o,e,ex.2.1⟩
  ·obtain ⟨o,_,_,_,e,ex,_⟩:=I.hok p _ hk
   refine ⟨⟨o,e,ex.1⟩,λa e2=>?_⟩
   cases e2;exact ⟨o,e,ex.2.1⟩
 |_=>exact False.elim ty
def L8 (K:At) (T:String) (r:V->List V->Hp->VK->Prop) (to:TE):TE:=fun σ H Q=>to σ H λx H1=>tyV K T x H1/\r x [] H1 Q
def tBM (K:At) (T:String) (r:V->List V->Hp->VK->Prop) (to:TE) (t:TA):TE:=fun σ H Q=>to σ H λx H1=>tyV K T x H1/\t σ H1 λxs H2=>r x xs H2 Q
variable {apos cpos:Pos} {T id:String}
theorem HH (pa:PlainAttrs T) (slot:Slot T name id) (hty:typeOf (.builtin id)=pure (.type "method_descriptor")) (hm:MtR X id r) (ho:PE X o to)
  (hbase:attributeBase o name X.env (eval o X.env)=eval o X.env:=by rfl) (hline:(apos.endLine == cpos.line)=true:=by rfl):PE X (.Call (.Attribute o name apos) [] [] cpos) (L8 X.K T r to):=by
 intro pins s σ H Q I h;refine wpAny_Call_method0_late hbase hline (thn (ho pins s σ H _ I h) λv s1 ⟨x,H1,I1,r1,ty,q1⟩=>?_)
 obtain ⟨h1,h2⟩:=AV I1 r1 ty;exact ⟨T,id,pa,slot,hty,h1,h2,Calls.callWith_builtin rfl (PySem.evalArgs_none (hm pins s1 σ H1 x [] v [] Q I1 r1 .nil q1))⟩
theorem B8 (pa:PlainAttrs T) (slot:Slot T name id) (hty:typeOf (.builtin id)=pure (.type "method_descriptor")) (hm:MtR X id r) (ho:PE X o to) (ha:PA X (e :: es) t)
  (hbase:attributeBase o name X.env (eval o X.env)=eval o X.env:=by rfl)
  (hfew:((backTo cpos (starEach (e :: es) X.env)).all (λx=>!x.1) && (backToKw cpos (keywordEach [] X.env)).all (λx=>x.1.isSome)
   && decide ((e :: es).length+([]:List Keyword).length+(if ([]:List Keyword).isEmpty then 0 else 1)<30))=true:=by rfl)
  (hline:(apos.endLine == cpos.line)=true:=by rfl) (hs:starEach (e :: es) X.env=(false,eval e X.env) :: starEach es X.env:=by rfl) (hplain:(backTo cpos (starEach es X.env)).any (·.1)=false:=by rfl) :
  PE X (.Call (.Attribute o name apos) (e :: es) [] cpos) (tBM X.K T r to t):=by
 intro pins s σ H Q I h;refine wpAny_Call_method_late hbase hfew hline rfl (thn (ho pins s σ H _ I h) λv s1 ⟨x,H1,I1,r1,ty,q1⟩=>?_)
 obtain ⟨h1,h2⟩:=AV I1 r1 ty;refine ⟨T,id,pa,slot,hty,h1,h2,?_⟩;have hA:=ha cpos pins s1 σ H1 _ I1 q1;rw [hs]at hA ⊢;refine Calls.callWith_builtin (by show (false || (backTo cpos (starEach es X.env)).any (·.1))=false;rw [hplain] <;> rfl) (Calls.evalArgs_plain ?_)
 exact thn hA λus s2 ⟨vs,H2,I2,r2,q2⟩=>hm pins s2 σ H2 x vs v us Q I2 r1 r2 q2
end
def MtM (X:Cx) (id:String) (r:V->List V->Hp->VK->Prop):Prop :=
 ∀(pins:List (Is×Obj)) (s:Da) (σ:St) (H:Hp) (x:V) (xs:List V) (v:Db) (us:List Db) (Q:VK),Inv X pins σ H s->RelV x v->Vals xs us->r x xs H Q ->
  wpAny (model X.prog X.w) X.A (call (.builtin id) (v :: us)) (EP X pins σ Q) X.xe s
theorem Vals.one (h:Vals [x] us):∃u,us=[u]/\RelV x u:=by
 cases h with
 |cons r t=>cases t;exact ⟨_,rfl,r⟩
theorem Vals.two (h:Vals [x,y] us):∃u v,us=[u,v]/\RelV x u/\RelV y v:=by
 cases h with
 |cons r t=>obtain ⟨v,rfl,q⟩:=Vals.one t;exact ⟨_,v,rfl,r,q⟩
theorem Vals.zero:∀{us:List Db},Vals [] us->us=[]
 |_,.nil=>rfl
theorem Vals.dropLast (h:Vals xs us):Vals xs.dropLast us.dropLast:=by
 induction h with
 |nil=>exact .nil
 |cons r t ih =>
  cases t with
  |nil=>exact .nil
  |cons q t'=>exact .cons r ih
theorem Vals.reverse (h:Vals xs us):Vals xs.reverse us.reverse:=by
 induction h with
 |nil=>exact .nil
 |cons r t ih=>rw [X4,X4];exact Vals.append ih (.cons r .nil)
theorem Vals.rep (h:Vals xs us):∀k:Nat,Vals (replicate k xs).flatten (replicate k us).flatten
 |0=>.nil
 |k+1=>by
  rw [Yd,Yd,Xd,Xd];exact Vals.append h (Vals.rep h k)
theorem xu (l:List α):l.eraseIdx (l.length-1)=l.dropLast:=by
 induction l with
 |nil=>rfl
 |cons a r ih =>
  cases r with
  |nil=>rfl
  |cons b r =>
   have e:(a :: b :: r).length-1=((b :: r).length-1)+1:=by
    have h1:(a :: b :: r).length=r.length+2:=rfl;have h2:(b :: r).length=r.length+1:=rfl
    lia
   rw [e,List.eraseIdx_cons_succ,ih]
   all_goals rfl
theorem foldl_rep (its:List Db):∀(k:Nat) (acc:List Db),
  List.foldl (λx1 x2=>x1++x2) acc.toArray (replicate k its.toArray)=(acc++(replicate k its).flatten).toArray
 |0,acc=>by simp
 |k+1,acc=>by
  have e:acc.toArray++its.toArray=(acc++its).toArray:=by simp
  have e2:(acc++its)++(replicate k its).flatten=acc++(replicate (k+1) its).flatten:=by
   rw [Yd,Xd,Yq]
  rw [<-e2,<-foldl_rep its k (acc++its),<-e,Yd,List.foldl_cons]
section
variable {s:Da} {xs ys zs:List V}
theorem Inv.lset {its its':List Db} {f:Array Db->Array Db} (I:Inv X pins σ H s) (hH:H l=some (.lst xs)) (e:s.heap.get? l=some { cls:=.type "list",data:=.seq its.toArray n }) (hf:f its.toArray=its'.toArray) (hv:Vals ys its') (hz:ys.length<=sizeLine) :
  Inv X pins σ (upd H l (.lst ys)) { s with heap:=s.heap.update l (Obj.mapSeq f),toks:=t' }:=by
 have q:=PySem.IsL.update e f;rw [hf]at q;refine I.write (x:=l) (e:=l) (by rw [hH];exact trivial) (.inl rfl) (λb' u hb hu=>(Heap.get?_update_other s.heap (Obj.mapSeq f) (Xj hb)).trans hu) ⟨_,q⟩ ?_
 exact ⟨hz,its',_,hv,q⟩
theorem Inv.lnew (I:Inv X pins σ H s) (hv:Vals ys its) (hz:ys.length<=sizeLine) :
  Inv X pins σ (upd H s.heap.objs.size (.lst ys)) { s with heap:=s.heap.push { cls:=.type "list",data:=.seq its.toArray },toks:=t' } :=
 I.laid (λ_ _ q=>Zl _ q) (Zi _) ⟨hz,its,0,hv,Yr _ rfl⟩
theorem Inv.fresh (I:Inv X pins σ H s):H s.heap.objs.size=none:=I.hok.fresh (Zi _)
theorem Inv.lstM (I:Inv X pins σ H s) (hH:H l=some (.lst xs)):xs.length<=sizeLine/\∃(its:List Db) (n:Nat),Vals xs its/\xs.length=its.length/\s.heap.get? l=some { cls:=.type "list",data:=.seq its.toArray n }:=by
 obtain ⟨z,its,n,r,e⟩:=I.hok l _ hH;exact ⟨z,its,n,r,r.length,e⟩
theorem vK (h:n<=sizeLine):Builtin.List.listTooLong n=false:=by
 unfold Builtin.List.listTooLong;exact Zq (by lia)
end
section
def tL:V->List V->Hp->VK->Prop:=λx vs H Q=>∃l xs y,x=.ref l/\vs=[y]/\H l=some (.lst xs)/\xs.length<sizeLine/\Q .non (upd H l (.lst (xs++[y])))
theorem oP:MtM X "list.append" tL:=by
 intro pins s σ H x vs v us Q I rx rv h;obtain ⟨l,xs,y,rfl,rfl,hH,hz,q⟩:=h;cases rx;obtain ⟨u,rfl,ru⟩:=rv.one;obtain ⟨z,its,n,r,hl,e⟩:=I.lstM hH;refine W9 F.slot_list_append ⟨_,e,rfl⟩ F.entry_list_append (F.args_list_append_2 _ _) (PySem.list_append l its.toArray n u (by rw [Z0];lia)) ⟨e,?_⟩
 refine ⟨.non,_,I.lset (its':=its++[u]) hH e (by simp) (r.append (.cons ru .nil)) ?_,rfl,q⟩
 rw [Zv,Zd]
 lia
def Ka:V->List V->Hp->VK->Prop:=λx vs H Q=>∃l xs y,x=.ref l/\vs=[]/\H l=some (.lst xs)/\xs[xs.length-1]?=some y/\Q y (upd H l (.lst xs.dropLast))
theorem Jc:MtM X "list.pop" Ka:=by
 intro pins s σ H x vs v us Q I rx rv h;obtain ⟨l,xs,y,rfl,rfl,hH,hy,q⟩:=h;cases rx;have hus:=rv.zero;subst hus;obtain ⟨z,its,n,r,hl,e⟩:=I.lstM hH;obtain ⟨u,hu,ru⟩:=r.get hy;have hy':its.toArray[its.toArray.size-1]?=some u:=by
  show its.toArray[its.length-1]?=some u
  rw [<-Vs,<-hl];exact hu
 refine W9 F.slot_list_pop ⟨_,e,rfl⟩ F.entry_list_pop (F.args_list_pop_1 _) (MeetsSeq.list_pop_last l its.toArray n u hy' (by rw [Z0];lia)) ⟨e,?_⟩
 refine ⟨y,_,I.lset (its':=its.dropLast) hH e ?_ r.dropLast ?_,ru,q⟩
 ·show its.toArray.eraseIdxIfInBounds (its.toArray.size-1)=its.dropLast.toArray
  rw [Z0,List.eraseIdxIfInBounds_toArray,xu]
 ·rw [List.length_dropLast]
  lia
theorem len_rep (xs:List α) (k:Nat):(replicate k xs).flatten.length=k * xs.length:=by
 induction k with
 |zero=>simp
 |succ k ih=>rw [Yd,Xd,Zv,ih,Nat.succ_mul,Nat.add_comm]
end
section
set_option maxRecDepth 100000 in
end
section
end
end L2
namespace Att
open PySem PySem.W PySem.Calls PyProof.Rows
theorem pe:∀(ns:List Int) (vs:List Db),WellAll P h vs (ns.map WData.int)->IntsAre vs ns:=by
 intro ns
 induction ns with
 |nil =>
  intro vs w;rw [Yh]at w;cases w;exact .nil
 |cons n ns ih =>
  intro vs w;rw [Zw]at w;cases w with
  |cons a b =>
   cases a;exact .cons _ _ (ih _ b)
theorem zK {l:OpenLaw} (hn:l.most=some n) {h:N0} (hpre:l.row.toRowW.claim.pre args=true) (hwl:WellAll P h vals args) :
  ∃a vs ns,vals=[Value.ref a]/\args=[WData.list (ns.map WData.int)]/\h.get? a=some { cls:=.type "list",data:=.seq vs.toArray }/\IntsAre vs ns/\ns.length<=n:=by
 have hsh:WShape.hasAll [] args [.list .int]=true:=(pre_splitW hpre).1;have hc:l.pre.holds [] { args:=args }=true:=(pre_splitW hpre).2;obtain ⟨d,r,rfl,h1,h2⟩:=hasAllW_cons hsh;obtain rfl:=hasAllW_nil h2;obtain ⟨xs,rfl,h3⟩:=hasW_list h1;obtain ⟨ns,rfl⟩:=items_int h3;have hlen:ns.length<=n:=by
  unfold OpenLaw.pre at hc;have h4:(WTm.not (.lt (.lit (.int (n:Int))) (.len (.arg 0)))).holds [] { args:=[.list (ns.map .int)] }=true:=by
   have h4:=(holds_andW hc).1;rw [hn]at h4;exact h4
  have h5:=condW_of h4 (w_not (w_lt w_lit (w_len_list (w_arg rfl))));rw [Zy]at h5;refine Nat.le_of_not_lt λq=>?_
  have q':(n:Int)<((ns.length:Nat):Int):=by lia
  first
   | (rw [Za q']at h5;exact absurd h5 (by decide))
   | (simp at h5;lia)
 cases hwl with
 |cons w1 w2 =>
  cases w2;cases w1 with
  |list ho hall=>exact ⟨_,_,ns,rfl,rfl,ho,pe ns _ hall,hlen⟩
theorem Af (l:OpenLaw) (args:List WData):l.row.toRowW.claim.post args (.bool true) args=true :=
 postW_of (r:=l.row.toRowW) (X:=(true == true))
  (show WShape.has [] (.bool true) .bool=true by first | rfl | decide | simp [WShape.has,WShape.arms,WShape.armsAll])
  (show (WTm.eq .res (.lit (.bool true))).value [] { args:=args,res:=some (.bool true),after:=args }=some (.bool (true == true)) from w_eq_bool (w_res rfl) w_lit) rfl
theorem oS {l:OpenLaw} {XP:(Str->Ch)->N0->Prop} {YP:Ev->N0->Prop} {d:DefRec} (hn:l.most=some n) (hdf:d.params.defaults=[]) (call:∀(w:Ev) (s₀ s₁:Da) (mg mb:Str->Ch) (fa:Is) (o:Obj) (pm cd doc:Db) (a:Is) (vs:List Db) (ns:List Int),
   Ground q loose [] XP w s₀ mg mb s₁.heap->YP w s₁.heap ->
   s₁.heap.get? fa=some o->o.data=.func (docDef d.name d.params d.body d.scope pm cd doc)->s₁.heap.CodeRec cd d.name->mg d.name=some (.ref fa) ->
   s₁.heap.get? a=some { cls:=.type "list",data:=.seq vs.toArray }->IntsAre vs ns->ns.length<=n->s₁.gens=#[] ->
   codeAny (model l.prog w) callerA (.call (.ref fa) ⟨[.ref a],[]⟩) (λr s'=>r=.ok (.ret (.bool true))/\OldK s₁.heap s'.heap/\s'.os=s₁.os/\AllBare s'.gens) s₁) :
  WalkO q loose XP YP l.row.toRowW d [] (λf vs=>PySem.call f vs):=by
 intro w s₀ s₁ mg mb G Y fa o pm cd doc dV kV ho hd hcd hD hmg hg args vals as hpre hlay hrd hwl hlo;obtain rfl:dV=.none:=Dflts.none hD hdf;obtain rfl:kV=.none:=Dflts.noKw hD;obtain ⟨a,vs,ns,rfl,rfl,hobj,hints,hlen⟩:=zK hn hpre hwl;refine enter_call (Wn (call w s₀ s₁ mg mb fa o pm cd doc a vs ns G Y ho (fd_plain hd) hcd hmg hobj hints hlen hg) λr s' hq=>?_)
 obtain ⟨rfl,h2,h3,h4⟩:=hq;exact ⟨.inl ⟨.bool true,.bool true,[],rfl,λ_=>rfl,.bool true,Af l _,λ_=>⟨List.Pairwise.nil,λ_ hm=>(nomatch hm)⟩⟩,h2,h3,h4⟩
section
variable {K:Frag}
def ledger (h:N0) (L d:Is):List (Is×Obj):=(range h.objs.size).filterMap λa=>if a=L\/a=d then none else (h.get? a).map λo=>(a,o)
end
end Att
namespace L2
open PySem PySem.Spec PyProof.Rows
theorem gq:∀{vs:List Db} {ns:List Int},IntsAre vs ns->Vals (ns.map V.int) vs
 |_,_,.nil=>.nil
 |_,_,.cons n t h=>.cons ⟨t,rfl⟩ (gq h)
def z8 (H:Hp):Prop:=∀b,H b=none\/∃o xs,H b=some (.frz o (.lst xs))
theorem Br {K:At} (KX:K.In s₁.heap) (hns:s₁.heap.Ns mainGlobals mg) (hb:s₁.heap.Ns builtinsNs mb) (hbb:∀x:Str,x ≠ "__name__" -> mb x=bootBuiltins x) (hlim:s₁.heap.NoLimit) (hg:s₁.gens=#[]) (ha:s₁.heap.get? a=some { cls:=.type "list",data:=.seq vs.toArray }) (hi:IntsAre vs ns) (hl:ns.length<=sizeLine) (hr:Room k callerA) (F:∀base:N0,K.In base->base.Ns mainGlobals mg->FnOk P w K mg base CX k fa fd [x] sp) (hbind:∀(s:Da) (u:Db),BindsTo s fd ⟨[u],[]⟩ [(x,u)]) (hsp:∀H:Hp,z8 H->SqL K H a (ns.map V.int)->sp [.ref a] H (λv _=>v=.bl true) λ_ _ _=>False) (hCX:∀H e s',CX [] H s₁ (λ_ _ _=>False) e s'->False) :
  codeAny (model P w) callerA (.call (.ref fa) ⟨[.ref a],[]⟩) (λr s'=>r=.ok (.ret (.bool true))/\OldK s₁.heap s'.heap/\s'.os=s₁.os/\AllBare s'.gens) s₁:=by
 have rv:=gq hi;have lenV:=hi.length;have core:∀H:Hp,z8 H->SqL K H a (ns.map V.int)->HOk P w H s₁.heap->(∀b,H b≠none->b=a)->(H a≠none->K.lookup a=none) ->
   codeAny (model P w) callerA (.call (.ref fa) ⟨[.ref a],[]⟩) (λr s'=>r=.ok (.ret (.bool true))/\OldK s₁.heap s'.heap/\s'.os=s₁.os/\AllBare s'.gens) s₁:=by
  intro H hO hS hok hA hK;have base_of:∀{b:Is} {o:Obj},s₁.heap.get? b=some o->H b=none->(nv s₁.heap H).get? b=some o:=λe n=>uY e n
  have noA:∀{b:Is} {o:Obj} {es:Array DictEntry} {ep:Nat},s₁.heap.get? b=some o->o.data=.dict es ep->H b=none:=fun {b o es ep} e d=>by
   cases q:H b with
   |none=>rfl
   |some u =>
    have e':b=a:=hA b (by rw [q];simp)
    subst e';rw [ha]at e;cases e;have d':Data.seq vs.toArray _=Data.dict es ep:=d;cases d'
  have nsK:∀{b:Is} {m:Str->Ch},s₁.heap.Ns b m->(nv s₁.heap H).Ns b m:=fun {b m} ⟨o,es,ep,e,d,r⟩=>⟨o,es,ep,base_of e (noA e d),d,r⟩
  have hKb:K.In (nv s₁.heap H):=λb o e=>base_of (KX b o e) (by
   cases q:H b with
   |none=>rfl
   |some u =>
    have e':b=a:=hA b (by rw [q];simp)
    subst e';rw [hK (by rw [q];simp)]at e;cases e)
  have hM:Mod K mg (nv s₁.heap H):=⟨hKb,nsK hns,⟨mb,nsK hb,hbb⟩,let ⟨mc,h1,h2⟩:=hlim;⟨mc,nsK h1,h2⟩⟩;have e0:Env0 P w K mg (nv s₁.heap H) callerA [] s₁ H:=⟨rfl,hM,λb o e=>xO e,Nat.le_of_eq (sD _ _),trivial,λb hb=>absurd (show b∈([]:List Is) from hb) (by simp),hok,.of_eq hg⟩
  refine Wn ((F _ hKb (nsK hns)).run callerA [] s₁ H ⟨[.ref a],[]⟩ [.ref a] [.ref a] _ _ hr e0 (hbind s₁ (.ref a)) (.cons rfl .nil) (hsp H hO hS)) λr s' h=>?_
  cases r with
  |error e=>exact (hCX H e s' h).elim
  |ok fl =>
   cases fl with
   |next=>exact False.elim h
   |brk=>exact False.elim h
   |cont=>exact False.elim h
   |ret u =>
    obtain ⟨v,H',os,bare,un,hok',r',q⟩:=h;have q':v=.bl true:=q;subst q';obtain rfl:u=Value.bool true:=r';refine ⟨rfl,OldK.of_keep λb o e=>?_,os,bare⟩
    cases q:H b with
    |none=>exact un.keep b o e q (by intro z;exact absurd (show b∈([]:List Is) from z) (by simp)) (by simp)
    |some u =>
     rcases hO b with z | ⟨ob,xs,z⟩
     ·rw [q]at z;cases z
     ·have z2:=un.frzs b ob _ z
      obtain ⟨e1,_⟩:=hok b _ z;obtain ⟨e2,_⟩:=hok' b _ z2;rw [e]at e1;cases e1;exact e2
 cases hk:K.lookup a with
 |some o =>
  have e:=KX a o hk;rw [ha]at e;cases e;refine core (λ_=>none) (λ_=>.inl rfl) (.inr ⟨_,vs.toArray,_,hk,rfl,rfl,rfl,by rw [Z0,lenV];exact hl,by simpa using rv⟩) (λb u z=>by have z':(none:Option HO)=some u:=z;cases z') (λb z=>absurd rfl z) λz=>absurd rfl z
 |none =>
  refine core (λb=>if b=a then some (.frz { cls:=.type "list",data:=.seq vs.toArray } (.lst (ns.map V.int))) else none) (λb=>?_) (.inl (.inr ⟨{ cls:=.type "list",data:=.seq vs.toArray },N1 rfl⟩)) (λb u z=>?_) (λb z=>?_) λ_=>hk
  ·by_cases hb:b=a
   ·exact .inr ⟨_,_,N1 hb⟩
   ·exact .inl (N2 hb)
  ·by_cases hb:b=a
   ·have z':=(N1 hb).symm.trans z
    cases z';subst hb;exact ⟨ha,by rw [Zy];exact hl,vs,_,rv,ha⟩
   ·have z':=(N2 hb).symm.trans z
    cases z'
  ·by_cases hb:b=a
   ·exact hb
   ·exact absurd (N2 hb) z
abbrev KOf {K:At} {h:N0} (_:K.In h):At:=K
theorem Mw {l:PySem.W.OpenLaw} {XP:(Str->Ch)->N0->Prop} {YP:Ev->N0->Prop} {d:DefRec} {K:Params->At} {CX:Ev->CXT} {sp:Ev->Sp} (hn:l.most=some n) (hn2:n<=sizeLine) (hdf:d.params.defaults=[]) (hr:Room k callerA) (hY:∀(w:Ev) (h:N0),YP w h->(K w.params).In h) (F:∀(w:Ev) (mg:Str->Ch) (fa:Is) (h:N0),(K w.params).In h->h.Ns mainGlobals mg->mg d.name=some (.ref fa) ->
   ∃fd:Fk,(∀(s:Da) (u:Db),BindsTo s fd ⟨[u],[]⟩ [(x,u)]) /\
    ∀base:N0,(K w.params).In base->base.Ns mainGlobals mg->FnOk l.prog w (K w.params) mg base (CX w) k fa fd [x] (sp w)) (hsp:∀(w:Ev) (H:Hp) (a:Is) (ns:List Int),ns.length<=n->z8 H->SqL (K w.params) H a (ns.map V.int)->sp w [.ref a] H (λv _=>v=.bl true) λ_ _ _=>False) (hCX:∀(w:Ev) (H:Hp) (s:Da) (e:Db) (s':Da),CX w [] H s (λ_ _ _=>False) e s'->False) :
  PySem.W.WalkO q loose XP YP l.row.toRowW d [] (λf vs=>PySem.call f vs):=by
 refine Att.oS hn hdf λw s₀ s₁ mg mb fa o pm cd doc a vs ns G Y ho hd hcd hmg hobj hints hlen hg=>?_
 have KX:=hY w _ Y;obtain ⟨fd,hb,hF⟩:=F w mg fa _ KX G.T.g hmg;exact Br KX G.T.g G.T.b G.T.builtins G.T.nolimit hg hobj hints (Yg hlen hn2) hr hF hb (λH hO hS=>hsp w H a ns hlen hO hS) λH e s'=>hCX w H s₁ e s'
def lY (s:Ix):Arguments:=match s with
 |.FunctionDef _ a _ _ _ _ _ _ _ _=>a
 |_=>{ posonlyargs:=[],args:=[],vararg:=none,kwonlyargs:=[],kw_defaults:=[],kwarg:=none,defaults:=[] }
def d6 (s:Ix):List Ix:=match s with
 |.FunctionDef _ _ b _ _ _ _ _ _ _=>b
 |_=>[]
def ah (s:Ix):Scope:=match s with
 |.FunctionDef _ _ _ _ _ _ sc _ _ _=>sc
 |_=>{ kind:=.function,names:=[],isGenerator:=false,isCoroutine:=false }
abbrev CX0:CXT:=λ_ _ _ _ _ _=>False
abbrev E0:XK:=λ_ _ _=>False
structure Fun (K:At) (x qual:Str) (st:Ix) (f:Is) (fd:Fk):Prop where
 ex:∃(oc:Db) (od:Option Is) (kV doc pm:Db) (an:Option Is) (cdv ct:Db) (osl:Array (Ch)),
  fd=fnOf x qual (lY st) (d6 st) (ah st) .none kV doc pm an cdv ct/\K.lookup f=some ⟨oc,od,.func fd,osl⟩/\codeIn K cdv qual=true
 kp:keepIn K (.ref f)=true
section
variable {K:At}
theorem Fun.ok {st:Ix} (F:Fun K x qual st f fd) (S:FnScope N ps (ah st)) (len:∀vs H Q E,sp vs H Q E->vs.length=ps.length) (hbody:∀(cdv:Db) (A:Go) (outer:List Env) (s:Da) (H:Hp) (vs:List V) (Q:VK) (E:XK),Room k (A.deeper (envOfC qual (ah st) s.heap.objs.size f cdv))->sp vs H Q E ->
   ∃t,PSs (mI CX0 P w K mg base N qual (ah st) f cdv A outer s H E).nox (d6 st) t/\t { nx:=λ_ H'=>Q .non H',rt:=Q } (start N vs) H):FnOk P w K mg base CX0 (k+1) f fd ps sp:=by
 obtain ⟨oc,od,kV,doc,pm,an,cdv,ct,osl,rfl,lk,hcd⟩:=F.ex;refine Fl lk hcd S len λA outer s H vs Q E hr hsp=>?_
 obtain ⟨t,h,q⟩:=hbody cdv A outer s H vs Q E hr hsp;exact ⟨t,h.nox,q⟩
theorem Fun.binds {st:Ix} (F:Fun K x qual st f fd) (h:∀(kV doc pm:Db) (an:Option Is) (cdv ct:Db) (us:List Db),us.length=ps.length->bindArgs (fnOf x qual (lY st) (d6 st) (ah st) .none kV doc pm an cdv ct) ⟨us,[]⟩=pure (ps.zip us)):Binds K fd ps []:=by
 obtain ⟨oc,od,kV,doc,pm,an,cdv,ct,osl,rfl,lk,hcd⟩:=F.ex;exact .all (h kV doc pm an cdv ct)
theorem CG {st:Ix} {kV doc pm cdv ct:Db} (l:K.lookup f=some ⟨oc,od,.func (fnOf x qual (lY st) (d6 st) (ah st) .none kV doc pm an cdv ct),osl⟩) (c:codeIn K cdv qual=true) (k:keepIn K (.ref f)=true):Fun K x qual st f (fnOf x qual (lY st) (d6 st) (ah st) .none kV doc pm an cdv ct):=⟨⟨oc,od,kV,doc,pm,an,cdv,ct,osl,rfl,l,c⟩,k⟩
end
section
end
def ax (H H':Hp):Prop:=∀b o,H b=some o->H' b=some o
theorem ax.refl (H:Hp):ax H H:=λ_ _ h=>h
theorem ax.trans (a:ax H H1) (b:ax H1 H2):ax H H2:=λc o h=>b c o (a c o h)
theorem ax.free (e:ax H H') (h:H' l=Option.none):H l=Option.none:=by
 cases q:H l with
 |none=>rfl
 |some o =>
  rw [e l o q]at h;cases h
theorem ax.seq {K:At} (e:ax H H') (h:SqL K H a xs):SqL K H' a xs:=by
 rcases h with (h | ⟨o,h⟩) | h
 ·exact .inl (.inl (e _ _ h))
 ·exact .inl (.inr ⟨o,e _ _ h⟩)
 ·exact .inr h
end L2
set_option maxHeartbeats 4000000
namespace L2
open PySem PySem.Spec PyProof.Rows
def frees (env:Env):List (Str×NameKind)->List (Str×Is)->List (Str×Is)
 |[],cs=>cs
 | (n,k) :: r,cs=>if (k == NameKind.free)=true then frees env r ((n,(env.cells.lookup n).getD 0) :: cs) else frees env r cs
theorem om:∀(l:List (Str×NameKind)) (cs:List (Str×Is)),(∀y∈l,y.2=.free->∃c,env.cells.lookup y.1=some c) ->
  (∀c,cs.lookup x=some c->env.cells.lookup x=some c)->(frees env l cs).lookup x=some c->env.cells.lookup x=some c
 |[],cs,_,hc,e=>hc c e
 | (n,k) :: r,cs,hl,hc,e=>by
  unfold frees at e;by_cases hk:(k == NameKind.free)=true
  ·rw [N1 hk]at e
   obtain ⟨d,hd⟩:=hl (n,k) Zz (by simpa using hk)
   have hd':env.cells.lookup n=some d:=hd;refine om r _ (λy hy=>hl y (Zs _ hy)) (λc' e'=>?_) e
   rw [Z2]at e';cases hx:x == n with
   |true =>
    rw [hx]at e';have hxn:x=n:=by simpa using hx
    rw [hd']at e';rw [hxn,hd'];exact e'
   |false =>
    rw [hx]at e';exact hc c' e'
  ·rw [N2 hk]at e
   exact om r cs (λy hy=>hl y (Zs _ hy)) hc e
theorem lZ:∀(l:List (Str×NameKind)) (cs:List (Str×Is)),((x,NameKind.free)∈l\/∃c,cs.lookup x=some c)->∃c,(frees env l cs).lookup x=some c
 |[],cs,h=>by
  rcases h with h | h
  ·cases h
  ·exact h
 | (n,k) :: r,cs,h=>by
  unfold frees;by_cases hk:(k == NameKind.free)=true
  ·rw [N1 hk]
   refine lZ r _ ?_;rcases h with h | ⟨c,h⟩
   ·rcases Xz.mp h with e | e
    ·cases e
     exact .inr ⟨(env.cells.lookup x).getD 0,by rw [Z2,X0]⟩
    ·exact .inl e
   ·refine .inr ?_
    rw [Z2];cases hx:x == n with
    |true=>exact ⟨_,rfl⟩
    |false=>exact ⟨c,h⟩
  ·rw [N2 hk]
   refine lZ r _ ?_;rcases h with h | h
   ·rcases Xz.mp h with e | e
    ·cases e
     exact absurd rfl hk
    ·exact .inl e
   ·exact .inr h
theorem yO {env:Env}:∀{names:List (Str×NameKind)},((names.map λ(n,k)=>if (k == NameKind.free && env.scope.kind == .function && env.kindOf n == some .cell) then (n,NameKind.cell) else (n,k)).lookup x=some k') ->
  ∃k,names.lookup x=some k/\(k'=k\/(k=.free/\k'=.cell))
 |[],h=>by simp at h
 | (n,k) :: r,h=>by
  rw [Zw]at h
  dsimp only at h
  rw [Z2];by_cases hc:(k == NameKind.free && env.scope.kind == .function && env.kindOf n == some .cell)=true
  ·rw [N1 hc,Z2]at h
   cases hx:x == n with
   |true =>
    rw [hx]at h;cases h;have hk:k=.free:=by
     rw [Yy,Yy]at hc
     simpa using hc.1.1
    exact ⟨k,rfl,.inr ⟨hk,rfl⟩⟩
   |false =>
    rw [hx]at h;exact yO h
  ·rw [N2 hc,Z2]at h
   cases hx:x == n with
   |true =>
    rw [hx]at h;cases h;exact ⟨_,rfl,.inl rfl⟩
   |false =>
    rw [hx]at h;exact yO h
theorem jZ {env:Env}:∀{names:List (Str×NameKind)},names.lookup x=some .free ->
  (names.map λ(n,k)=>if (k == NameKind.free && env.scope.kind == .function && env.kindOf n == some .cell) then (n,NameKind.cell) else (n,k)).lookup x=some .cell \/
  (names.map λ(n,k)=>if (k == NameKind.free && env.scope.kind == .function && env.kindOf n == some .cell) then (n,NameKind.cell) else (n,k)).lookup x=some .free
 |[],h=>by simp at h
 | (n,k) :: r,h=>by
  rw [Zw]
  dsimp only
  rw [Z2]at h;by_cases hc:(k == NameKind.free && env.scope.kind == .function && env.kindOf n == some .cell)=true
  ·rw [N1 hc,Z2]
   cases hx:x == n with
   |true=>exact .inl rfl
   |false =>
    rw [hx]at h;exact jZ h
  ·rw [N2 hc,Z2]
   cases hx:x == n with
   |true =>
    rw [hx]at h;cases h;exact .inr rfl
   |false =>
    rw [hx]at h;exact jZ h
theorem gU:∀{l:List (Str×NameKind)},l.lookup x=some k->(x,k)∈l
 | (n,j) :: r,h=>by
  rw [Z2]at h;cases hx:x == n with
  |true =>
   rw [hx]at h;cases h;have:x=n:=by simpa using hx
   rw [this];exact Zz
  |false =>
   rw [hx]at h;exact Zs _ (gU h)
theorem qB (h:∀x∈scope.names,x.2=.free->∃c,env.cells.lookup x.1=some c):closureFor scope env=pure (frees env scope.names []):=by
 unfold closureFor;have key:∀(l:List (Str×NameKind)) (cs:List (Str×Is)),(∀x∈l,x.2=.free->∃c,env.cells.lookup x.1=some c) ->
  (forIn l cs λ(x:Str×NameKind) (r:List (Str×Is))=>if (x.2 == NameKind.free)=true then do let a <-cellOf env x.1;pure (ForInStep.yield ((x.1,a) :: r)) else pure (ForInStep.yield r):Sem (List (Str×Is)))=pure (frees env l cs):=by
  intro l
  induction l with
  |nil=>intro cs _;rfl
  |cons x r ih =>
   intro cs hx;obtain ⟨n,k⟩:=x;rw [List.forIn_cons]
   dsimp only
   have hr:=λcs=>ih cs λy hy=>hx y (Zs _ hy)
   by_cases hk:(k == NameKind.free)=true
   ·obtain ⟨c,hc⟩:=hx (n,k) Zz (by simpa using hk)
    have hc':env.cells.lookup n=some c:=hc;rw [N1 hk];unfold frees;rw [N1 hk];have e1:cellOf env n=pure c:=by unfold cellOf;rw [hc']
    rw [e1,hc',<-hr];rfl
   ·rw [N2 hk]
    unfold frees;rw [N2 hk,<-hr];rfl
 have:=key scope.names [] h;simp only [bind_pure];exact this
section
variable {R:Result->Da->Prop}
def BS (ifs:List M2) (env:Env):Sem Bool:=forIn ifs true λc r=>if r=true then do let ok <-isTrue c env (eval c env);pure (ForInStep.yield ok) else pure (ForInStep.yield r)
theorem sX {elt tg iter:M2} (J:Nat->Da->Prop) (turn:∀n s,J n s->wpAny (model prog w) A (pyNext it) (λr s1=>match r with
   |none=>R (.ok .next) s1
   |some v=>wpAny (model prog w) A (letOwnedTupleGo tg it v) (λ_ s2=>wpAny (model prog w) A (assign tg env v) (λ_ s3=>wpAny (model prog w) A (BS ifs env) (λok s4 =>
     if ok=true then wpAny (model prog w) A (eval elt env) (λx s5=>wpAny (model prog w) A (call (.builtin "list.append") [acc,x]) (λ_ s6=>∃m,m<n/\J m s6) (λ_ _=>False) s5) (λ_ _=>False) s4
     else ∃m,m<n/\J m s4) (λ_ _=>False) s3) (λ_ _=>False) s2) (λ_ _=>False) s1) (λ_ _=>False) s) (n:Nat) (h:J n s):codeAny (model prog w) A (.compLoop (.ListComp elt [⟨tg,iter,ifs,0⟩] scope pos) 0 it acc env) R s:=by
 refine codeAny_loop rfl J (λn s hJ=>?_) n h
 have no:∀(P:Db->Da->Prop) (e:Db) (s':Da),False->P e s':=λ_ _ _ f=>f.elim
 show wpAny _ A ((compTurn (.ListComp elt [⟨tg,iter,ifs,0⟩] scope pos) 0 it acc env).onRaise (λx=>do noteFrame x env;theTreesLotGoes x)) _ _ s
 refine wpAny_noted ?_;rw [compTurn_list];refine Zr (Vj (Zr (Xp (turn n s hJ) (λr s1 h1=>?_) λe s' f=>f.elim)))
 cases r with
 |none=>exact Yn h1
 |some v =>
  refine Zr (Xp h1 (λ_ s2 h2=>?_) λe s' f=>f.elim)
  refine Zr (Xp h2 (λ_ s3 h3=>?_) λe s' f=>f.elim)
  refine Zr (Xp h3 (λok s4 h4=>?_) λe s' f=>f.elim)
  cases ok with
  |false=>exact Yn ⟨rfl,h4⟩
  |true =>
   refine Zr (Zr (Xp h4 (λx s5 h5=>?_) λe s' f=>f.elim))
   exact Zr (Xp h5 (λ_ s6 h6=>Yn (Yn ⟨rfl,h6⟩)) λe s' f=>f.elim)
end
def k9 (X:Cx) (scope:Scope):List (Nat×Str)->Prop
 |[]=>True
 |p :: r=>(X.N[p.1]?=some p.2/\scope.names.lookup p.2=some .free)/\k9 X scope r
theorem k9.get:∀{outs:List (Nat×Str)} {j:Nat} {p:Nat×Str},k9 X scope outs->outs[j]?=some p->X.N[p.1]?=some p.2/\scope.names.lookup p.2=some .free
 |[],_,_,_,e=>by simp at e
 |q :: r,0,p,h,e=>by
  simp at e
  subst e;exact h.1
 |q :: r,j+1,p,h,e=>k9.get (j:=j) h.2 (by simpa using e)
structure Blk (X:Cx) (sc scope:Scope) (outs:List (Nat×Str)):Prop where
 hsc:X.env.scope=sc
 kind:scope.kind=.function
 loc:∀x∈scope.names,x.2=.local->scope.names.lookup x.1=some .local
 nocell:∀x∈scope.names,x.2≠.cell
 fr:∀x∈scope.names,x.2=.free->sc.names.lookup x.1=some .cell\/sc.names.lookup x.1=some .free
 out:k9 X scope outs
def slots (k:Nat) (outs:List (Nat×Str)) (σ:St):St:=replicate k none++outs.map λp=>(σ[p.1]?).join
def g9:St->St->Prop
 |[],[]=>True
 |none :: r,_ :: r'=>g9 r r'
 |some v :: r,w :: r'=>w=some v/\g9 r r'
 |_,_=>False
theorem g9.len:∀{σ σ':St},g9 σ σ'->σ.length=σ'.length
 |[],[],_=>rfl
 |none :: r,_ :: r',h=>by
  have:=g9.len (σ:=r) (σ':=r') h;simp [this]
 |some v :: r,w :: r',h=>by
  have:=g9.len (σ:=r) (σ':=r') h.2;simp [this]
theorem g9.get:∀{σ σ':St} {i:Nat} {v:V},g9 σ σ'->σ[i]?=some (some v)->σ'[i]?=some (some v)
 |[],_,_,_,_,e=>by simp at e
 |none :: r,w :: r',0,v,_,e=>by simp at e
 |none :: r,w :: r',i+1,v,h,e=>by
  have:=g9.get (σ:=r) (σ':=r') (i:=i) (v:=v) h (by simpa using e)
  simpa using this
 |some u :: r,w :: r',0,v,h,e=>by
  simp at e
  rw [h.1];simp [e]
 |some u :: r,w :: r',i+1,v,h,e=>by
  have:=g9.get (σ:=r) (σ':=r') (i:=i) (v:=v) h.2 (by simpa using e)
  simpa using this
def PF (X:Cx) (ifs:List M2) (t:TT):Prop :=
 ∀(pins:List (Is×Obj)) (s:Da) (σ:St) (H:Hp) (Q:Bool->Hp->Prop),Inv X pins σ H s->t σ H Q->wpAny (model X.prog X.w) X.A (BS ifs X.env) (TP X pins σ Q) X.xe s
def MX:TT:=λ_ H Q=>Q true H
theorem Hm:PF X [] MX:=λ_ _ _ H _ I h=>wpAny_tests_nil ⟨H,I,h⟩
theorem Hq (h:PT X c t):PF X [c] t:=λpins s σ H Q I q=>wpAny_tests_one (h pins s σ H Q I q)
abbrev MU (tc:TT) (te:TE) (σ0:St) (D:Is) (acc:List V) (N:List V->Hp->Prop):St->Hp->Prop:=fun σ2 H3=>g9 σ0 σ2/\tc σ2 H3 λb H4 =>
 if b=true then te σ2 H4 λy H5=>H5 D=some (.lst acc)/\acc.length<sizeLine/\N (acc++[y]) (upd H5 D (.lst (acc++[y]))) else N acc H4
def LI (J:It) (g:TG) (tc:TT) (te:TE) (σ0:St) (D:Is) (H1:Hp) (Q:Hp->Prop):Prop :=
 ∃W:Nat->Nat->List V->Hp->Prop,(∃m,W 0 m [] (upd H1 D (.lst [])))/\∀i m acc H',W i m acc H' ->
  (J.stop i H'/\Q H')\/(J.go i H'/\∃N:List V->Hp->Prop,(∀acc' H2,N acc' H2->∃m',m'<m/\W (i+1) m' acc' H2)/\∀x H2,J.yld i H' x H2->g x σ0 H2 (MU tc te σ0 D acc N))
section
variable {outs:List (Nat×Str)} {elt tg iter:M2} {g:TG} {tc:TT} {te:TE}
def AX (wi:TI) (g:TG) (tc:TT) (te:TE) (k:Nat) (outs:List (Nat×Str)):TE:=fun σ H Q=>wi σ H λJ H1=>∀D,H1 D=none->LI J g tc te (slots k outs σ) D H1 λH'=>Q (.ref D) H'
end
theorem qE {X:Cx} {pins:List (Is×Obj)} {σ:St} {H:Hp} {s:Da} {ch:List Is} {T:Is} {o:HO} {h':N0} {t':Nat} (I:Inv X pins σ H s) (hch:∀b∈ch,o_ X pins H b) (k:∀b u,b∉ch->s.heap.get? b=some u->h'.get? b=some u)
  (hT:s.heap.objs.size<=T) (new:cT X.prog X.w (upd H T o) h' T o):Inv X pins σ (upd H T o) { s with heap:=h',toks:=t' }:=by
 have hn:H T=none:=I.hok.fresh hT;have nch:∀b u,H b=some u->b∉ch:=λb u e z=>by
  rw [(hch b z).1]at e;cases e
 have lt:∀b u,s.heap.get? b=some u->b≠T:=λb u e=>Ys (Yt (Zg e) hT)
 refine I.step (g':=s.gens) (d':=s.drawn) (ch:=ch) (λb hb=>?_) (λb u _ _ hc e _=>k b u hc e) (λb u _ _ hc e _=>⟨u.slots,k b u hc e⟩) (λb u _ e n=>by rw [av (lt b u e)];exact n)
  (λb u hc e=>⟨u,k b u hc e⟩) (λb xs e=>by rw [av (aG e hn)];exact e) (λb u v e=>by rw [av (aG e hn)];exact e) (λb ps e=>⟨#[],by rw [av (aG e hn),e];simp⟩) (λm hm=>?_) (λb u e=>?_) I.bare
 ·obtain ⟨f0,f1,f2,f3,f4,f5⟩:=hch b hb
  exact ⟨f3,f1,f4,f5⟩
 ·obtain ⟨oL,es,ep,ho,r⟩:=hm
  exact ⟨oL,es,ep,k _ oL (λz=>(hch _ z).2.1 rfl) ho,r⟩
 ·by_cases hb:b=T
  ·subst hb
   rw [aE]at e;cases e;exact new
  ·rw [av hb]at e
   refine (I.hok b u e).stay (λc v hc q=>k c v ?_ q) (λc q=>by rw [av (aG q hn)];exact q) λc xs q=>by rw [av (aG q hn)];exact q
   rcases hc with z | z
   ·rw [z]
    exact nch b u e
   ·exact nch c _ z
theorem tP {X:Cx} {pins:List (Is×Obj)} {σ:St} {H:Hp} {s:Da} {ch:List Is} {h':N0} {t':Nat} (I:Inv X pins σ H s) (hch:∀b∈ch,o_ X pins H b) (k:∀b u,b∉ch->s.heap.get? b=some u->h'.get? b=some u) :
  Inv X pins σ H { s with heap:=h',toks:=t' }:=by
 have nch:∀b u,H b=some u->b∉ch:=λb u e z=>by
  rw [(hch b z).1]at e;cases e
 refine I.step (g':=s.gens) (d':=s.drawn) (ch:=ch) (λb hb=>?_) (λb u _ _ hc e _=>k b u hc e) (λb u _ _ hc e _=>⟨u.slots,k b u hc e⟩) (λ_ _ _ _ n=>n)
  (λb u hc e=>⟨u,k b u hc e⟩) (λ_ _ e=>e) (λ_ _ _ e=>e) (λb ps e=>⟨#[],by rw [e];simp⟩) (λm hm=>?_) (λb u e=>?_) I.bare
 ·obtain ⟨f0,f1,f2,f3,f4,f5⟩:=hch b hb
  exact ⟨f3,f1,f4,f5⟩
 ·obtain ⟨oL,es,ep,ho,r⟩:=hm
  exact ⟨oL,es,ep,k _ oL (λz=>(hch _ z).2.1 rfl) ho,r⟩
 ·refine (I.hok b u e).stay (λc v hc q=>k c v ?_ q) (λ_ q=>q) λ_ _ q=>q
  rcases hc with z | z
  ·rw [z]
   exact nch b u e
  ·exact nch c _ z
def Ite (K:At) (a:Is):It :=
 ⟨λi H=>∃xs x,SqL K H a xs/\xs[i]?=some x,λi H x H'=>∃T y,H T=none/\x=.ref T/\H'=upd H T (.tup [.int i,y])/\∀xs,SqL K H a xs->xs[i]?=some y,λi H=>∃xs,SqL K H a xs/\xs.length<=i⟩
theorem zS {P:Do} {w:Ev} {K:At} {es:List M2} {k:Nat} {pos:Pos} (a e it:Is) (hne:e≠it) :
  Turn P w K (.Tuple es k pos) (Ite K a) [e,it] e (λi h=>(∃old,IsEnum h e it i old)/\h.IsListIter it a i) where
 mem:=by simp
 obj:=λi h st b hb=>by
  obtain ⟨⟨old,he⟩,o,eo,c,d⟩:=st;have hb':b=e\/b=it:=by simpa using hb
  rcases hb' with z | z
  ·subst z
   exact ⟨_,he,λv z=>by cases z⟩
  ·subst z
   exact ⟨o,eo,λv z=>by rw [d]at z;cases z⟩
 keep:=λi h h' st kp=>⟨(let ⟨old,he⟩:=st.1;⟨old,kp e (by simp) _ he⟩),st.2.at λo eo=>kp it (by simp) o eo⟩
 item:=by
  intro X hP hw hK hc i pins s σ H E I hf st hg;subst hP hw hK;obtain ⟨xs,x,hq,hx⟩:=hg;obtain ⟨⟨old,he⟩,hit⟩:=st;obtain ⟨its,rv,p,hz⟩:=I.list hq;obtain ⟨u,hu,ru⟩:=rv.get hx;have elt:e<s.heap.objs.size:=Zg he;refine wpAny_pyNext_enum_item he hit p.isList (x:=u) (by simpa using hu) hne λh1 ho hit1 hT hsz hk=>?_
  refine ⟨_,rfl,wpAny_letOwnedTupleGo_enum ho λh2 he2 hs2=>?_⟩
  have kk:∀b v,b∉[e,it]->s.heap.get? b=some v->h2.get? b=some v:=λb v hb q=>by
   have h1':b≠e:=λz=>hb (by simp [z])
   have h2':b≠it:=λz=>hb (by simp [z])
   exact (hs2.2 b h1').trans (hk b v h1' h2' q)
  have hT2:h2.get? s.heap.objs.size=some { cls:=.type "tuple",data:=.seq #[.int i s.toks,u] }:=(hs2.2 _ (Nat.ne_of_gt elt)).trans hT;refine ⟨.ref s.heap.objs.size,upd H s.heap.objs.size (.tup [.int i,x]),qE (s:=s) (h':=h2) (t':=s.toks+1) I hf kk (Zi _) ?_,rfl,⟨_,x,I.fresh,rfl,rfl,λys hy=>by rw [I.list_inj hy hq];exact hx⟩,⟨⟨_,he2⟩,?_⟩,λb hb=>?_⟩
  ·exact ⟨by show 2<=sizeLine;decide,[.int i s.toks,u],.cons ⟨_,rfl⟩ (.cons ru .nil),_,hT2,rfl,_,rfl⟩
  ·exact hit1.at λo eo=>(hs2.2 it (Xj hne)).trans eo
  ·obtain ⟨f0,f1,f2,f3,f4,f5⟩:=hf b hb
   have hb':b=e\/b=it:=by simpa using hb
   obtain ⟨oi,eoi,_⟩:=hit;have:b<s.heap.objs.size:=by
    rcases hb' with z | z
    ·rw [z];exact elt
    ·rw [z];exact Zg eoi
   rw [av (Ys this)];exact f0
 done:=by
  intro X hP hw hK hc i pins s σ H E I hf st hg;subst hP hw hK;obtain ⟨xs,hq,hx⟩:=hg;obtain ⟨⟨old,he⟩,hit⟩:=st;obtain ⟨its,rv,p,hz⟩:=I.list hq;have hl:=rv.length;refine wpAny_pyNext_enum_end (I.ok.hd hc) he hit p.isList (by simp;lia) λh1 eb=>⟨rfl,tP (t':=s.toks) I hf λb v hb q=>eb b v (λz=>hb (by simp [z])) q⟩
 self:=λ_ _ _ _ _ st h=>(let ⟨old,he⟩:=st.1;wpAny_pyIter_enum he h)
def Fj (K:At) (ta:TA):TI:=fun σ H R=>ta σ H λvs H1=>∃a,vs=[.ref a]/\(∃xs,SqL K H1 a xs)/\R (Ite K a) H1
theorem o6:bootBuiltins "enumerate" = some (.type "enumerate"):=by decide +kernel
theorem z_:bootBuiltins "zip" = some (.type "zip"):=by decide +kernel
theorem EM (hg:Gl X "enumerate") (hm:X.mg "enumerate" = none) (ha:PA X [a] ta) (hs:starEach [a] X.env=[(false,eval a X.env)]:=by rfl) :
  PI X (.Tuple es k tpos) (.Call (.Name "enumerate" p) [a] [] pos) (Fj X.K ta):=by
 intro pins s σ H R I h;refine Call_ (gv I hg hm o6 (Yc (thn (ha pos pins s σ H _ I h) λus s1 ⟨vs,H1,I1,r1,q1⟩=>?_) hs rfl))
 obtain ⟨l,e,⟨xs,hq⟩,q⟩:=q1;subst e;obtain ⟨u,rfl,ru⟩:=Vals.one r1;cases ru;obtain ⟨its,rv,pl,hz⟩:=I1.list hq;refine call_enumerate_list pl.isList λh1 he hit hsz hk=>?_
 refine wpAny_pyIter_enum he ?_;have I2:Inv X pins σ H1 { s1 with heap:=h1 }:=I1.kept (t':=s1.toks) hk
 refine ⟨s1.heap.objs.size+1,[s1.heap.objs.size+1,s1.heap.objs.size],_,Ite X.K l,H1,rfl,I2,zS l _ _ (Nat.succ_ne_self _),⟨⟨_,he⟩,hit⟩,λb hb=>?_,q⟩
 have hb':b=s1.heap.objs.size+1\/b=s1.heap.objs.size:=by simpa using hb
 rcases hb' with z | z
 ·subst z
  exact I1.fpOk (Y5 _) (I1.hok.fresh (Y5 _))
 ·subst z
  exact I1.fpOk (Zi _) (I1.hok.fresh (Zi _))
def Itz (K:At) (a b:Is):It :=
 ⟨λi H=>∃xs x ys y,SqL K H a xs/\xs[i]?=some x/\SqL K H b ys/\ys[i]?=some y,λi H v H'=>∃T x y,H T=none/\v=.ref T/\H'=upd H T (.tup [x,y])/\(∀xs,SqL K H a xs->xs[i]?=some x)/\∀ys,SqL K H b ys->ys[i]?=some y,
  λi H=>∃xs ys,SqL K H a xs/\SqL K H b ys/\(xs.length<=i\/ys.length<=i)⟩
theorem CQ {K:At} (a b z TI TO i1 i2:Is) (z1:z≠TI/\z≠TO/\z≠i1/\z≠i2) (z2:TI≠TO/\TI≠i1/\TI≠i2) (z3:TO≠i1/\TO≠i2) (z4:i1≠i2) (z5:a≠z/\a≠TO/\a≠i1/\a≠i2) (z6:b≠z/\b≠TO/\b≠i1/\b≠i2) :
  Turn P w K (.Tuple es k pos) (Itz K a b) [z,TI,TO,i1,i2] z (λi h=>IsZip h z TI TO .none/\IsPair h TI (.ref i1) (.ref i2)/\(∃u v,IsPair h TO u v)/\h.IsListIter i1 a i/\h.IsListIter i2 b i):=by
 have D:ZipApart z TI TO i1 i2 a b:=⟨Xj z1.1,Xj z1.2.1,Xj z1.2.2.1,Xj z1.2.2.2,z2.1,z2.2.1,z2.2.2,z3.1,z3.2,z4,z5.1,z5.2.1,z5.2.2.1,z5.2.2.2,z6.1,z6.2.1,z6.2.2.1,z6.2.2.2⟩;have mem5:∀c,c∈[z,TI,TO,i1,i2]->c=z\/c=TI\/c=TO\/c=i1\/c=i2:=λc hc=>by simpa using hc
 constructor
 ·simp
 ·intro i h st c hc
  obtain ⟨hz,hTI,⟨u,v,hTO⟩,⟨o1,e1,c1,d1⟩,o2,e2,c2,d2⟩:=st;rcases mem5 c hc with rfl | rfl | rfl | rfl | rfl
  ·exact ⟨_,hz,λv z=>by cases z⟩
  ·exact ⟨_,hTI,λv z=>by cases z⟩
  ·exact ⟨_,hTO,λv z=>by cases z⟩
  ·exact ⟨o1,e1,λv z=>by rw [d1]at z;cases z⟩
  ·exact ⟨o2,e2,λv z=>by rw [d2]at z;cases z⟩
 ·intro i h h' st kp
  obtain ⟨hz,hTI,⟨u,v,hTO⟩,h1,h2⟩:=st;exact ⟨kp z (by simp) _ hz,kp TI (by simp) _ hTI,⟨u,v,kp TO (by simp) _ hTO⟩,h1.at λo e=>kp i1 (by simp) o e,h2.at λo e=>kp i2 (by simp) o e⟩
 ·intro X hP hw hK hc i pins s σ H E I hf st hg
  subst hP hw hK;obtain ⟨xs,x,ys,y,hq,hx,hr,hy⟩:=hg;obtain ⟨hz,hTI,⟨u,v,hTO⟩,h1,h2⟩:=st;obtain ⟨its,rv,p,_⟩:=I.list hq;obtain ⟨its2,rv2,p2,_⟩:=I.list hr;obtain ⟨ux,hux,rux⟩:=rv.get hx;obtain ⟨uy,huy,ruy⟩:=rv2.get hy;refine wpAny_pyNext_zip_item D hz hTI hTO h1 h2 p.isList p2.isList (x:=ux) (y:=uy) (by simpa using hux) (by simpa using huy) λh3 a1 a2 a3 a4 a5 a6 hk=>?_
  have zlt:z<s.heap.objs.size:=Zg hz;refine ⟨_,rfl,wpAny_letOwnedTupleGo_zip a1 λh4 hz4 hs4=>?_⟩
  have kk:∀c w',c∉[z,TI,TO,i1,i2]->s.heap.get? c=some w'->h4.get? c=some w':=λc w' hc q=>by
   have n1:c≠z:=λe=>hc (by simp [e])
   have n2:c≠TO:=λe=>hc (by simp [e])
   have n3:c≠i1:=λe=>hc (by simp [e])
   have n4:c≠i2:=λe=>hc (by simp [e])
   exact (hs4.2 c n1).trans (hk c w' n1 n2 n3 n4 q)
  have hT4:IsPair h4 s.heap.objs.size ux uy:=(hs4.2 _ (Nat.ne_of_gt zlt)).trans a5;have hTI4:IsPair h4 TI (.ref i1) (.ref i2):=(hs4.2 _ (Xj z1.1)).trans (hk _ _ (Xj z1.1) z2.1 z2.2.1 z2.2.2 hTI);refine ⟨.ref s.heap.objs.size,upd H s.heap.objs.size (.tup [x,y]),qE (s:=s) (h':=h4) (t':=s.toks) I hf kk (Zi _) ?_,rfl,⟨_,x,y,I.fresh,rfl,rfl,λzs hzs=>by rw [I.list_inj hzs hq];exact hx,λzs hzs=>by rw [I.list_inj hzs hr];exact hy⟩,
   ⟨hz4,hTI4,⟨ux,uy,(hs4.2 _ (Xj z1.2.1)).trans a2⟩,a3.at λo e=>(hs4.2 _ (Xj z1.2.2.1)).trans e,a4.at λo e=>(hs4.2 _ (Xj z1.2.2.2)).trans e⟩,λc hc=>?_⟩
  ·exact ⟨by show 2<=sizeLine;decide,[ux,uy],.cons rux (.cons ruy .nil),_,hT4,rfl,_,rfl⟩
  ·have clt:c<s.heap.objs.size:=by
    obtain ⟨o1,e1,_⟩:=h1;obtain ⟨o2,e2,_⟩:=h2;rcases mem5 c hc with rfl | rfl | rfl | rfl | rfl
    ·exact zlt
    ·exact Zg hTI
    ·exact Zg hTO
    ·exact Zg e1
    ·exact Zg e2
   rw [av (Ys clt)];exact (hf c hc).1
 ·intro X hP hw hK hc i pins s σ H E I hf st hg
  subst hP hw hK;obtain ⟨xs,ys,hq,hr,hx⟩:=hg;obtain ⟨hz,hTI,⟨u,v,hTO⟩,h1,h2⟩:=st;obtain ⟨its,rv,p,_⟩:=I.list hq;obtain ⟨its2,rv2,p2,_⟩:=I.list hr;have l1:=rv.length;have l2:=rv2.length;refine wpAny_pyNext_zip_end (I.ok.hd hc) D hz hTI hTO h1 h2 p.isList p2.isList (by simp;lia) λh3 hk=>⟨rfl,tP (t':=s.toks) I hf λc w' hc q=>hk c w' (λe=>hc (by simp [e])) (λe=>hc (by simp [e])) (λe=>hc (by simp [e])) (λe=>hc (by simp [e])) q⟩
 ·intro A i s Q E st h
  exact W0 st.1 h
mutual
inductive Rep (K:At) (H:Hp):V->Gc->Prop
 |non:Rep K H .non .none
 |bl (b:Bool):Rep K H (.bl b) (.bool b)
 |int (i:Int):Rep K H (.int i) (.int i)
 |str (x:Str):Rep K H (.str x) (.str x)
 |lst {a:Is} {xs:List V} {ds:List Gc}:SqL K H a xs->RepAll K H xs ds->Rep K H (.ref a) (.list ds)
 |tup {a:Is} {xs:List V} {ds:List Gc}:SqT K H a xs->RepAll K H xs ds->Rep K H (.ref a) (.tuple ds)
inductive RepAll (K:At) (H:Hp):List V->List Gc->Prop
 |nil:RepAll K H [] []
 |cons {v:V} {vs:List V} {d:Gc} {ds:List Gc}:Rep K H v d->RepAll K H vs ds->RepAll K H (v :: vs) (d :: ds)
end
theorem Kt {K:At} (e:ax H H') (h:SqT K H a xs):SqT K H' a xs:=by
 rcases h with (h | ⟨o,h⟩) | h
 ·exact .inl (.inl (e _ _ h))
 ·exact .inl (.inr ⟨o,e _ _ h⟩)
 ·exact .inr h
mutual
theorem Rep.same {K:At} (e:ax H H'):Rep K H v d->Rep K H' v d
 |.non=>.non
 |.bl b=>.bl b
 |.int i=>.int i
 |.str x=>.str x
 |.lst h r=>.lst (e.seq h) (RepAll.same e r)
 |.tup h r=>.tup (Kt e h) (RepAll.same e r)
theorem RepAll.same {K:At} (e:ax H H'):RepAll K H vs ds->RepAll K H' vs ds
 |.nil=>.nil
 |.cons h r=>.cons (Rep.same e h) (RepAll.same e r)
end
mutual
theorem Rep.reads (I:Inv X pins σ H s):∀{u:Db},Rep X.K H v d->RelV v u->∃as,Reads s.heap u d as
 |_,.non,r=>by
  cases r;exact ⟨_,.none⟩
 |_,.bl b,r=>by
  cases r;exact ⟨_,.bool b⟩
 |_,.int i,r=>by
  obtain ⟨t,rfl⟩:=r;exact ⟨_,.int i t⟩
 |_,.str x,r=>by
  obtain ⟨t,rfl⟩:=r;exact ⟨_,.str x t⟩
 |_,.lst h ra,r=>by
  cases r;obtain ⟨its,rv,pl,hz⟩:=I.list h;obtain ⟨as,ha⟩:=RepAll.reads I ra rv;obtain ⟨o,e,c,n,dd⟩:=pl.isList;exact ⟨_,.list e c dd (by simpa using ha)⟩
 |_,.tup h ra,r=>by
  cases r;obtain ⟨its,rv,pl,hz⟩:=I.tuple h;obtain ⟨as,ha⟩:=RepAll.reads I ra rv;obtain ⟨o,e,c,n,dd⟩:=(show s.heap.IsTuple _ its.toArray from pl)
  exact ⟨_,.tuple e c dd (by simpa using ha)⟩
theorem RepAll.reads (I:Inv X pins σ H s):∀{us:List Db},RepAll X.K H vs ds->Vals vs us->∃as,ReadsAll s.heap us ds as
 |_,.nil,.nil=>⟨_,.nil⟩
 |_,.cons h r,.cons q t=>by
  obtain ⟨as,ha⟩:=Rep.reads I h q;obtain ⟨bs,hb⟩:=RepAll.reads I r t;exact ⟨_,.cons ha hb⟩
end
def Me (K:At):R2:=λx y H Q=>∃d e,Rep K H x d/\Rep K H y e/\SeqAt.shaped d=true/\SeqAt.shaped e=true/\Q (.bl (PyData.eqv d e)) H
def Mv (K:At):R2:=λx y H Q=>∃d e,Rep K H x d/\Rep K H y e/\SeqAt.shaped d=true/\SeqAt.shaped e=true/\Q (.bl (!PyData.eqv d e)) H
theorem GS (hu:X.A.units+64<cLine):OpR X (compareOp .Eq) (Me X.K):=by
 intro pins s σ H x y v u Q I rx ry h;obtain ⟨d,e,h1,h2,s1,s2,q⟩:=h;obtain ⟨as,r1⟩:=h1.reads I rx;obtain ⟨bs,r2⟩:=h2.reads I ry;exact eq_dataH r1 r2 s1 s2 hu ⟨.bl _,H,I,rfl,q⟩
theorem Ju (hu:X.A.units+64<cLine):OpR X (compareOp .NotEq) (Mv X.K):=by
 intro pins s σ H x y v u Q I rx ry h;obtain ⟨d,e,h1,h2,s1,s2,q⟩:=h;obtain ⟨as,r1⟩:=h1.reads I rx;obtain ⟨bs,r2⟩:=h2.reads I ry;exact ne_dataH r1 r2 s1 s2 hu ⟨.bl _,H,I,rfl,q⟩
theorem fB:bootBuiltins "isinstance" = some (.builtin "isinstance"):=by decide +kernel
theorem Ah (hc:X.calm=true):dR X (.builtin "max") (λxs H Q=>∃(a:Is) (ns:List Int),xs=[.ref a]/\SqL X.K H a (ns.map V.int)/\0<ns.length/\∀M,M∈ns->(∀z,z∈ns->z<=M)->Q (.int M) H):=by
 intro pins s σ H xs us Q I r h;obtain ⟨a,ns,rfl,hq,hl,q⟩:=h;obtain ⟨u,rfl,ru⟩:=Vals.one r;cases ru;obtain ⟨its,rv,pl,hz⟩:=I.list hq;have hi:IntsAre its ns:=intsAre_of rv;obtain ⟨ys,e⟩:=hi.allInts.items;have hns:ns=ys.toList.map (·.1):=by
  rw [<-hi.numsOf,<-nums_intItems,<-e]
 have hsz:0<ys.size:=by
  have h3:=hl;rw [hns,Zy,Xx]at h3;exact h3
 have hL:=pl.isList;rw [e]at hL;refine max_intList (I.ok.hd hc) hL hsz λv h' tk hv hk=>?_
 obtain ⟨t,rfl⟩:=intItems_at hv;obtain ⟨h1,h2⟩:=argBest_gt (numAt ys) (ys.size-1);refine ⟨.int _,H,I.kept hk,⟨t,rfl⟩,q _ ?_ λz hzz=>?_⟩
 ·rw [hns,numAt_eq]
  exact getD_mem (by rw [Zy,Xx];lia)
 ·rw [hns]at hzz
  obtain ⟨j,hj,rfl⟩:=mem_getD hzz;rw [Zy,Xx]at hj;rw [<-numAt_eq];exact h2 j (by lia)
theorem A8:MtR X "list.index" (λx vs H Q=>∃(a:Is) (ns:List Int) (z:Int),x=.ref a/\vs=[.int z]/\SqL X.K H a (ns.map V.int)/\z∈ns/\Q (.int (ns.idxOf z:Nat)) H):=by
 intro pins s σ H x vs v us Q I rx rv h;obtain ⟨a,ns,z,rfl,rfl,hq,hm,q⟩:=h;cases rx;obtain ⟨u,rfl,t,rfl⟩:=Vals.one rv;obtain ⟨its,rs,pl,hz⟩:=I.list hq;have hi:IntsAre its ns:=intsAre_of rs;obtain ⟨⟨cls,dd,data,sl⟩,ho,hc,n,hd⟩:=pl.isList;simp only at hc hd;subst hc hd;have hlen:=hi.length;have hj:ns.idxOf z<ns.length:=List.idxOf_lt_length_iff.mpr hm;have hn:=mH;have hb:ns.length<=sizeLine:=by simpa using hz
 refine W9 PySem.F.slot_list_index ⟨_,ho,rfl⟩ PySem.F.entry_list_index (PySem.F.args_list_index_2 _ _)
  (SeqAt.list_indexAt a its.toArray n dd sl (.int z t) (isInt z) (ns.idxOf z) (by simpa [hlen]using hj) (by lia) ?_ ?_) ⟨ho,λy hy=>(eq_isInt z t hi y (by simpa using hy)).at _ _,⟨.int _,H,I.tok _,⟨_,rfl⟩,q⟩⟩
 ·show isInt z its[ns.idxOf z]=true
  rw [isInt_at z hi _ (by lia) hj]
  simpa using List.getElem_idxOf hj
 ·intro j hjs hlt
  show isInt z its[j]=false
  rw [isInt_at z hi j (by simpa using hjs) (by lia)]
  exact ne_of_lt_idxOf hlt _
section
variable {g:TG}
end
structure Def (K:At) (mg:Str->Ch) (x:Str) (st:Ix) (ps:List Str) (f:Is) (fd:Fk):Prop where
 F:Fun K x x st f fd
 g:mg x=some (.ref f)
 b:Binds K fd ps []
theorem ax.upd (e:ax H H') (h:H a=none):ax H (L2.upd H' a o):=λb u q=>by
 rw [av (aG q h)];exact e b u q
section
variable {X:Cx}
theorem lH (K:At) (h:X.K=K):IxR X (u7 K):=by
 subst h;exact yr
def LQ (K:At):List V->Hp->VK->Prop:=λxs H Q=>∃p ys,xs=[.ref p]/\(SqL K H p ys\/SqT K H p ys)/\∀l,H l=none->Q (.ref l) (upd H l (.lst ys))
theorem yS (K:At) (h:X.K=K):dR X (.type "list") (LQ K):=by
 subst h;exact tJ
def FN (K:At):List V->Hp->VK->Prop:=λxs H Q=>∃(a:Is) (ns:List Int),xs=[.ref a]/\SqL K H a (ns.map V.int)/\0<ns.length/\∀M,M∈ns->(∀z,z∈ns->z<=M)->Q (.int M) H
theorem zu (K:At) (h:X.K=K) (hc:X.calm=true):dR X (.builtin "max") (FN K):=by
 subst h;exact Ah hc
end
end L2
namespace L2
open PySem PySem.Spec PyProof.Rows
section
variable {κ:Type} [DecidableEq κ]
def qK (kvs:List (κ×V)) (k:κ):Option V:=(kvs.find? λkv=>decide (kv.1=k)).map (·.2)
def putK (kvs:List (κ×V)) (k:κ) (v:V):List (κ×V) :=
 if (kvs.any λkv=>decide (kv.1=k))=true then kvs.map (λkv=>if kv.1=k then (kv.1,v) else kv) else kvs++[(k,v)]
theorem nj {p:κ×V} (e:p.1=k):qK (p :: r) k=some p.2:=by simp [qK,Xt,e]
theorem nt {p:κ×V} (e:¬p.1=k):qK (p :: r) k=qK r k:=by simp [qK,Xt,e]
theorem wo (k:κ):∀kvs:List (κ×V),(kvs.any λkv=>decide (kv.1=k))=(qK kvs k).isSome
 |[]=>rfl
 |p :: r=>by
  rw [W2];by_cases e:p.1=k
  ·simp only [nj e,Za e,Bool.true_or,Option.isSome_some]
  ·rw [nt e,Zq e,Bool.false_or];exact wo k r
theorem lG (kvs:List (κ×V)) (k:κ) (v:V):(putK kvs k v).length<=kvs.length+1:=by
 unfold putK;split
 ·rw [Zy];lia
 ·rw [Zv,Zp,X5];lia
theorem l_.isSome_eq (r:l_ o u):o.isSome=u.isSome:=by
 cases o with
 |none=>cases u with
  |none=>rfl
  |some _=>exact (show False from r).elim
 |some _=>cases u with
  |none=>exact (show False from r).elim
  |some _=>rfl
theorem KV.val (r:KV kvs vs) (k:κ):l_ (qK kvs k) (valueAt vs k):=by
 unfold KV at r
 induction r with
 |nil=>exact True.intro
 |@cons p q ps qs h t ih =>
  obtain ⟨h1,h2⟩:=h;by_cases e:p.1=k
  ·have e':q.1=k:=h1.symm.trans e
   have b:valueAt (q :: qs) k=some q.2:=by simp [valueAt,Xt,e']
   rw [nj e,b];exact h2
  ·have e':¬q.1=k:=λz=>e (h1.trans z)
   have b:valueAt (q :: qs) k=valueAt qs k:=by simp [valueAt,Xt,e']
   rw [nt e,b];exact ih
theorem KV.any (r:KV kvs vs) (k:κ):(kvs.any λkv=>decide (kv.1=k))=vs.any λkv=>decide (kv.1=k):=by
 unfold KV at r
 induction r with
 |nil=>rfl
 |cons h t ih=>rw [W2,W2,ih,h.1]
theorem KV.repl (r:KV kvs vs) (k:κ) (ry:RelV y u) :
  KV (kvs.map λkv=>if kv.1=k then (kv.1,y) else kv) (vs.map λkv=>if kv.1=k then (kv.1,u) else kv):=by
 unfold KV at r ⊢
 induction r with
 |nil=>exact .nil
 |@cons p q ps qs h t ih =>
  rw [Zw,Zw];refine .cons ?_ ih;obtain ⟨h1,h2⟩:=h;by_cases e:p.1=k
  ·rw [N1 e,N1 (h1.symm.trans e)];exact ⟨h1,ry⟩
  ·rw [N2 e,N2 (λz=>e (h1.trans z))];exact ⟨h1,h2⟩
theorem KV.put (r:KV kvs vs) (k:κ) (ry:RelV y u):KV (putK kvs k y) (stored vs k u):=by
 unfold putK stored;rw [r.any k];by_cases e:(vs.any λkv=>decide (kv.1=k))=true
 ·rw [N1 e,N1 e];exact r.repl k ry
 ·rw [N2 e,N2 e];exact Paired.snoc r ⟨rfl,ry⟩
theorem KV.keys {kvs:List (κ×V)} {vs:List (κ×Db)} (r:KV kvs vs):kvs.map (·.1)=vs.map (·.1):=by
 unfold KV at r
 induction r with
 |nil=>rfl
 |cons h t ih=>rw [Zw,Zw,ih,h.1]
theorem KV.length (r:KV kvs vs):kvs.length=vs.length:=Paired.length r
end
theorem xv (r:RelV (kV k) u):(cB P w).is k u=true:=by
 cases k with
 |inl i=>obtain ⟨t,e⟩:=(show ∃t,u=Value.int i t from r);subst e;exact u9 P w i t
 |inr x=>obtain ⟨t,e⟩:=(show ∃t,u=Value.str x t from r);subst e;exact vG P w x t
theorem sA:∀{ks:List Key} {us:List Db},Vals (ks.map kV) us->ItemsAre (cB P w) ks us
 |[],_,r=>by rw [Yh]at r;cases r;exact .nil
 |k :: ks,_,r=>by
  rw [Zw]at r;cases r with
  |cons h t=>exact .cons (xv h) (sA t)
abbrev KT (H:Hp):List (List Key×V)->List (List Key×Is×Db)->Prop:=Paired λp q=>p.1=q.1/\H q.2.1=some (.tup (p.1.map kV))/\RelV p.2 q.2.2
theorem KT.val (r:KT H kvs xs) (k:List Key):l_ (qK kvs k) ((atKey xs k).map (·.2)):=by
 induction r with
 |nil=>exact True.intro
 |@cons p q ps qs h t ih =>
  obtain ⟨h1,_,h2⟩:=h;by_cases e:p.1=k
  ·have e':q.1=k:=h1.symm.trans e
   have b:atKey (q :: qs) k=some q.2:=by simp [atKey,Xt,e']
   rw [nj e,b];exact h2
  ·have e':¬q.1=k:=λz=>e (h1.trans z)
   have b:atKey (q :: qs) k=atKey qs k:=by simp [atKey,Xt,e']
   rw [nt e,b];exact ih
theorem KT.repl (r:KT H kvs xs) (k:List Key) (ry:RelV y u) :
  KT H (kvs.map λkv=>if kv.1=k then (kv.1,y) else kv) (xs.map (putAt k u)):=by
 induction r with
 |nil=>exact .nil
 |@cons p q ps qs h t ih =>
  rw [Zw,Zw];refine .cons ?_ ih;obtain ⟨h1,h2,h3⟩:=h;unfold putAt;by_cases e:p.1=k
  ·rw [N1 e,N1 (h1.symm.trans e)];exact ⟨h1,h2,ry⟩
  ·rw [N2 e,N2 (λz=>e (h1.trans z))];exact ⟨h1,h2,h3⟩
theorem KT.put (r:KT H kvs xs) (k:List Key) (hb:H b=some (.tup (k.map kV))) (ry:RelV y u) :
  KT H (putK kvs k y) (storedH xs k b u):=by
 have e:(kvs.any λkv=>decide (kv.1=k))=(atKey xs k).isSome:=by
  rw [wo,(r.val k).isSome_eq,Option.isSome_map]
 unfold putK storedH;rw [e];by_cases q:(atKey xs k).isSome=true
 ·rw [N1 q,N1 q];exact r.repl k ry
 ·rw [N2 q,N2 q];exact Paired.snoc r ⟨rfl,hb,ry⟩
theorem KT.keeps (r:KT H kvs xs) (ht:∀b ys,H b=some (.tup ys)->H' b=some (.tup ys)):KT H' kvs xs :=
 Paired.mapP r λ_ _ z=>⟨z.1,ht _ _ z.2.1,z.2.2⟩
section
variable {h:N0}
theorem E4 (ok:HOk P w H h) (e:Rd H a u):cT P w H h a u:=e.ok ok
theorem Bd (ok:HOk P w H h) (e:Rd H a (.dK kvs)):kvs.length<=sizeLine/\(a == sysModules)=false/\∃vs,KV kvs vs/\h.DictOf (cB P w) a vs :=
 show cT P w H h a (.dK kvs) from E4 ok e
theorem Fy (ok:HOk P w H h) (e:H a=some (.dK kvs)):kvs.length<=sizeLine/\(a == sysModules)=false/\∃vs,KV kvs vs/\h.DictOf (cB P w) a vs:=Bd ok (.inl e)
theorem mE (ok:HOk P w H h) (e:H a=some (.tup (ks.map kV))):(tupleKind (cB P w)).is h ks a:=by
 obtain ⟨_,its,r,o,h1,h2,n,h3⟩:=(show cT P w H h a (.tup (ks.map kV)) from ok a _ e)
 exact ⟨o,its.toArray,n,h1,h2,h3,by simpa using sA r⟩
theorem Cs (ok:HOk P w H h) (e:Rd H a (.dT kvs)):kvs.length<=sizeLine/\(a == sysModules)=false /\
  ∃xs,KT H kvs xs/\h.DictOfH (tupleKind (cB P w)) a xs:=by
 obtain ⟨z,y,xs,r,o,es,ep,h1,h2,h3,h4,h5⟩:=(show cT P w H h a (.dT kvs) from E4 ok e)
 refine ⟨z,y,xs,r,o,es,ep,h1,h2,h3,h4,λx hx=>?_,h5⟩
 have all:∀{l:List (List Key×V)} {m:List (List Key×Is×Db)},KT H l m->∀x∈m,(tupleKind (cB P w)).is h x.1 x.2.1:=by
  intro l m q
  induction q with
  |nil=>intro x hx;exact nomatch hx
  |@cons p q ps qs hq t ih =>
   intro x hx;rcases Xz.mp hx with e | hx
   ·subst e
    exact mE ok (by rw [<-hq.1];exact hq.2.1)
   ·exact ih x hx
 exact all r x hx
theorem LU (ok:HOk P w H h) (e:H a=some (.dT kvs)):kvs.length<=sizeLine/\(a == sysModules)=false /\
  ∃xs,KT H kvs xs/\h.DictOfH (tupleKind (cB P w)) a xs:=Cs ok (.inl e)
end
def De (H:Hp) (a:Is) (y:V) (r:Option V):Prop :=
 (∃kvs k,Rd H a (.dK kvs)/\y=kV k/\r=qK kvs k)\/∃kvs k b,Rd H a (.dT kvs)/\y=.ref b/\H b=some (.tup (k.map kV))/\r=qK kvs k
def KL (H:Hp) (a:Is) (y v:V) (H':Hp):Prop :=
 (∃kvs k,H a=some (.dK kvs)/\y=kV k/\kvs.length<sizeLine/\H'=upd H a (.dK (putK kvs k v))) \/
 ∃kvs k b,H a=some (.dT kvs)/\y=.ref b/\H b=some (.tup (k.map kV))/\kvs.length<sizeLine/\H'=upd H a (.dT (putK kvs k v))
section
variable {X:Cx} {s:Da} {A:Go}
theorem Inv.big (I:Inv X pins σ H s):sysModules<s.heap.objs.size:=by
 have h:mainGlobals<s.heap.objs.size:=(I.mod.glob.keeps I.bk).lt;exact Nat.lt_trans (by decide) h
theorem Ac (hu:A.units+1<cLine) (I:Inv X pins σ H s) (g:De H a y (some v)) (ry:RelV y u) (h:∀w' s',Inv X pins σ H s'->RelV v w'->Q w' s') :
  wpAny (model X.prog X.w) A (getItem (.ref a) u) Q E s:=by
 rcases g with ⟨kvs,k,e,ey,l⟩ | ⟨kvs,k,b,e,ey,eb,l⟩
 ·subst ey
  obtain ⟨z,hd,vs,rel,dd⟩:=Bd I.hok e;obtain ⟨w',hw,rw'⟩:=l_.some_of (v:=v) (o:=valueAt vs k) (by rw [l];exact rel.val k)
  exact wpAny_getItem_of (xv ry) dd.mapOf hw (h w' _ (I.tok _) rw')
 ·subst ey
  cases (show u=Value.ref b from ry)
  obtain ⟨z,hd,xs,rel,dd⟩:=Cs I.hok e;obtain ⟨w',hw,rw'⟩:=l_.some_of (v:=v) (o:=(atKey xs k).map (·.2)) (by rw [l];exact rel.val k)
  obtain ⟨p,hp,hp2⟩:=ZB.mp hw;refine wpAny_getItem_heap (tupleKind_room_in1 hu) (mE I.hok eb) dd hp ?_;rw [hp2];exact h w' _ (I.tok _) rw'
theorem s_ (I:Inv X pins σ H s) (mu:Mut (H a)) (hs:Heap.SameBut a s.heap h') (he:∃q,h'.get? a=some q) (new:cT X.prog X.w (upd H a ob) h' a ob) :
  Inv X pins σ (upd H a ob) { s with heap:=h',toks:=t' } :=
 I.write (x:=a) (e:=a) mu (.inl rfl) (λb q hb z=>(hs.2 b hb).trans z) he new
theorem Ca (z:kvs.length<=sizeLine) (hd:(a == sysModules)=false) (rel:KV kvs vs) (dd:h'.DictOf (cB P w) a vs) :
  cT P w H' h' a (.dK kvs):=⟨z,hd,vs,rel,dd⟩
theorem zT (hu:A.units+1<cLine) (I:Inv X pins σ H s) (g:KL H a y v H') (ry:RelV y u) (rv:RelV v r) (h:∀s',Inv X pins σ H' s'->Q () s') :
  wpAny (model X.prog X.w) A (setItem (.ref a) u r) Q E s:=by
 rcases g with ⟨kvs,k,e,ey,l,eH⟩ | ⟨kvs,k,b,e,ey,eb,l,eH⟩
 ·subst ey eH
  obtain ⟨z,hd,vs,rel,dd⟩:=Fy I.hok e;have hz:vs.length<=sizeLine:=by rw [<-rel.length];exact z
  have hl:(putK kvs k v).length<=sizeLine:=by have:=lG kvs k v;lia
  refine wpAny_setItem_pairs (hsz:=hz) (xv ry) dd λh' dd' hs=>h _ ?_
  have he:∃q,h'.get? a=some q:=let ⟨q,_,_,hq,_⟩:=dd';⟨q,hq⟩;exact s_ I (by rw [e];exact True.intro) hs he (Ca hl hd (rel.put k rv) dd')
 ·subst ey eH
  cases (show u=Value.ref b from ry)
  obtain ⟨z,hd,xs,rel,dd⟩:=LU I.hok e;have hz:xs.length<=sizeLine:=by rw [<-Paired.length rel];exact z
  have hl:(putK kvs k v).length<=sizeLine:=by have:=lG kvs k v;lia
  refine wpAny_setItem_heap (hsz:=hz) (tupleKind_room_in1 hu) (mE I.hok eb) dd λh' dd' hs=>h _ ?_
  obtain ⟨q,es,ep,hq,h2,h3,h4,_,h5⟩:=dd';refine s_ I (by rw [e];exact True.intro) hs ⟨q,hq⟩ ⟨hl,hd,_,(rel.put k eb rv).keeps λc ys ec=>?_,q,es,ep,hq,h2,h3,h4,h5⟩
  rw [av (Ko ec e (λz=>nomatch z))]
  exact ec
end
section
end
def Hg (i:M2):Prop:=∀ov iv,subscripted i false ov iv=operate [ov,iv] (getItem ov iv)
theorem EN {T id:String} (hl:typeLookup (.type T) "__getitem__" = pure (some (.builtin id))) (hs:Hg slice) (h:wpAny (model prog w) A (eval value env) (λo s₁=>wpAny (model prog w) A (eval slice env) (λi s₂=>s₂.TypeIs o T/\wpAny (model prog w) A (getItem o i) Q E s₂) E s₁) E s) :
  wpAny (model prog w) A (eval (.Subscript value slice pos) env) Q E s:=by
 refine Subscript_ (Xp h (λo s₁ h₁=>Xp h₁ (λi s₂ h₂=>?_) λ_ _ x=>x) λ_ _ x=>x)
 obtain ⟨hT,h₂⟩:=h₂;unfold subscriptTail;refine Zr ?_;rw [getitemInPython_of_ne hT.not_modules];refine Zr (wpAny_specialOf hT hl ?_);have fin:wpAny (model prog w) A (subscripted slice false o i) (λr s₃=>wpAny (model prog w) A (letTemporaryGo value o r >>= λ_=>pure r) Q E s₃) E s₂:=by
  rw [hs o i];exact wpAny_operating (Xp h₂ (λr s₃ h₃=>Zr (wpAny_letTemporaryGo (Yn h₃))) λ_ _ x=>x)
 first
  |exact Yn (Zr fin)
  |exact Zr (Yn (Zr fin))
  |exact Zr fin
theorem vx (I:Inv X pins σ H s) (g:De H a y o):s.TypeIs (.ref a) "dict" := by
 rcases g with ⟨kvs,k,e,_,_⟩ | ⟨kvs,k,b,e,_,_,_⟩
 ·obtain ⟨_,_,vs,_,dd⟩:=Bd I.hok e
  exact dd.typeIs
 ·obtain ⟨_,_,xs,_,dd⟩:=Cs I.hok e
  exact dd.typeIs
def KU (td ty:TE):TE:=fun σ H Q=>td σ H λx H1=>ty σ H1 λy H2=>∃a v,x=.ref a/\De H2 a y (some v)/\Q v H2
def Ff (td ty tv:TE):TS:=λD σ H=>tv σ H λv H1=>td σ H1 λx H2=>ty σ H2 λy H3=>∃a H4,x=.ref a/\KL H3 a y v H4/\D.nx σ H4
section
variable {X:Cx} {pos pos' tpos:Pos}
theorem Dc (hu:X.A.units+1<cLine) (ho:PE X o td) (hi:PE X i ty) (hs:Hg i):PE X (.Subscript o i pos) (KU td ty):=by
 intro pins s σ H Q I h;refine EN PySem.F.slot_dict_getitem.lookup hs (thn (ho pins s σ H _ I h) λu s1 ⟨x,H1,I1,rx,q1⟩=>thn (hi pins s1 σ H1 _ I1 q1) λiv s2 ⟨y,H2,I2,ry,a,v,ex,g,q2⟩=>?_)
 subst ex;obtain rfl:u=Value.ref a:=rx;exact ⟨vx I2 g,Ac hu I2 g ry λw' s3 I3 rw'=>⟨v,H2,I3,rw',q2⟩⟩
theorem ER (hu:X.A.units+1<cLine) (ho:PE X o td) (hi:PE X i ty) (hv:PE X value tv) (hs:swapsWith value (some (.Subscript o i pos')) pos.line X.env=pure false) :
  PS X (.Assign [.Subscript o i pos'] value pos) (Ff td ty tv):=by
 intro pins s σ H D I h;refine wpAny_Assign_Subscript (thn (hv pins s σ H _ I h) λr s1 ⟨v,H1,I1,rv,q1⟩=>thn (ho pins s1 σ H1 _ I1 q1) λu s2 ⟨x,H2,I2,rx,q2⟩=>thn (hi pins s2 σ H2 _ I2 q2) λiv s3 ⟨y,H3,I3,ry,a,H4,ex,g,q3⟩=>?_) hs
 subst ex;obtain rfl:u=Value.ref a:=rx;exact zT hu I3 g ry rv λs4 I4=>⟨σ,H4,I4,q3⟩
end
theorem vO (h:N0) (hb:sysModules<h.objs.size):cT P w H (h.push { cls:=.type "dict",data:=.dict #[] }) h.objs.size (.dK []) :=
 ⟨Y1 _,beq_eq_false_iff_ne.mpr (Xj (Ys hb)),[],.nil,Heap.DictOf.new h⟩
def Cu:TE:=λ_ H Q=>∀p,H p=none->Q (.ref p) (upd H p (.dK []))
section
theorem Aq:PE X (.Dict [] [] pos) Cu:=λpins s σ H Q I h =>
 wpAny_Dict_empty ⟨.ref s.heap.objs.size,_,I.laid (a:=s.heap.objs.size) (o:=.dK []) (t':=s.toks) (λ_ _ q=>Zl _ q) (Zi _) (vO s.heap I.big),rfl,h _ (I.hok.fresh (Zi _))⟩
end
def wG:List (TE×TE)->St->Hp->(List (V×V)->Hp->Prop)->Prop
 |[],_,H,Q=>Q [] H
 | (tk,tv) :: r,σ,H,Q=>tk σ H λx H1=>tv σ H1 λy H2=>wG r σ H2 λps H3=>Q ((x,y) :: ps) H3
abbrev VV:List (V×V)->List (Db×Db)->Prop:=Paired λp q=>RelV p.1 q.1/\RelV p.2 q.2
def PPs (X:Cx) (pos:Pos) (keys:List (Option M2)) (values:List M2) (trs:List (TE×TE)):Prop :=
 ∀(pins:List (Is×Obj)) (s:Da) (σ:St) (H:Hp) (Q:List (V×V)->Hp->Prop),Inv X pins σ H s->wG trs σ H Q ->
  wpAny (model X.prog X.w) X.A (evalPairs (pairTrees keys values X.env pos)) (λvs s'=>∃ps H',Inv X pins σ H' s'/\VV ps vs/\Q ps H') X.xe s
theorem Dh:PPs X pos [] [] []:=λpins s σ H Q I h=>pairTrees_nil_walk ⟨[],H,I,.nil,h⟩
theorem Bz (hk:PE X k tk) (hv:PE X v tv) (hr:PPs X pos ks vs trs) :
  PPs X pos (some k :: ks) (v :: vs) ((tk,tv) :: trs):=λpins s σ H Q I h =>
 pairTrees_cons_walk (thn (hk pins s σ H _ I h) λu s1 ⟨x,H1,I1,rx,q1⟩=>thn (hv pins s1 σ H1 _ I1 q1) λw2 s2 ⟨y,H2,I2,ry,q2⟩ =>
  thn (hr pins s2 σ H2 _ I2 q2) λws s3 ⟨ps,H3,I3,rel,q3⟩=>⟨(x,y) :: ps,H3,I3,.cons ⟨rx,ry⟩ rel,q3⟩)
def n_ (kvs more:List (Key×V)):List (Key×V):=more.foldl (λacc kv=>putK acc kv.1 kv.2) kvs
theorem KV.merge:∀{more:List (Key×V)} {rs:List (Key×Db)} {kvs:List (Key×V)} {vs:List (Key×Db)},KV more rs->KV kvs vs->KV (n_ kvs more) (merged vs rs):=by
 intro more rs kvs vs r;unfold KV at r
 induction r generalizing kvs vs with
 |nil=>intro q;exact q
 |@cons p q ps qs h t ih =>
  intro r0;have e:KV (putK kvs p.1 p.2) (stored vs q.1 q.2):=by
   have:=r0.put p.1 h.2;rw [<-h.1];exact this
  exact ih e
theorem me:∀(more kvs:List (Key×V)),(n_ kvs more).length<=kvs.length+more.length
 |[],kvs=>by show kvs.length<=kvs.length+0;lia
 |p :: r,kvs=>by
  have h1:=me r (putK kvs p.1 p.2);have h2:=lG kvs p.1 p.2;show (n_ (putK kvs p.1 p.2) r).length<=_
  rw [Zp];lia
theorem p8:∀{kvs:List (Key×V)} {ws:List (Db×Db)},VV (kvs.map λkv=>(kV kv.1,kv.2)) ws->∃rs,Carries (cB P w) ws rs/\KV kvs rs
 |[],_,r=>by rw [Yh]at r;cases r;exact ⟨[],True.intro,.nil⟩
 |p :: kvs,_,r=>by
  rw [Zw]at r;cases r with
  |@cons a b as bs h t =>
   obtain ⟨rs,c,q⟩:=p8 (P:=P) (w:=w) t;obtain ⟨b1,b2⟩:=b;exact ⟨(p.1,b2) :: rs,⟨xv h.1,rfl,c⟩,.cons ⟨rfl,h.2⟩ q⟩
def FG (trs:List (TE×TE)):TE:=fun σ H Q=>∀p,H p=none->wG trs σ (upd H p (.dK [])) λps H2=>H2 p=some (.dK [])/\∃kvs:List (Key×V),ps=kvs.map (λkv=>(kV kv.1,kv.2))/\kvs.length<=15/\Q (.ref p) (upd H2 p (.dK (n_ [] kvs)))
theorem DZ (h:PPs X pos keys values trs) (hall:keys.all (·.isSome)=true) (hl:keys.length=values.length) (h0:keys≠[]) (h15:keys.length<=15):PE X (.Dict keys values pos) (FG trs):=by
 intro pins s σ H Q I q;have hn:=I.hok.fresh (Zi s.heap.objs.size);have I1:=I.laid (a:=s.heap.objs.size) (o:=.dK []) (h':=s.heap.push { cls:=.type "dict",data:=.dict #[] }) (t':=s.toks) (λ_ _ q=>Zl _ q) (Zi _) (vO s.heap I.big)
 refine wpAny_Dict_walk (knd:=cB X.prog X.w) hall hl h0 h15 (thn (h pins _ σ _ _ I1 (q _ hn)) λws s2 ⟨ps,H2,I2,rel,e,kvs,ep,lk,q2⟩=>?_)
 subst ep;obtain ⟨rs,c,rk⟩:=p8 (P:=X.prog) (w:=X.w) rel;obtain ⟨z,hd,vs0,r0,dd⟩:=Fy I2.hok e;cases r0;refine ⟨rs,c,dd,λh' dd' hs=>⟨.ref s.heap.objs.size,_,?_,rfl,q2⟩⟩
 have hz:(n_ [] kvs).length<=sizeLine:=by
  have h1:=me kvs [];rw [X5]at h1;rw [W5];lia
 have he:∃q,h'.get? s.heap.objs.size=some q:=let ⟨q,_,_,hq,_⟩:=dd';⟨q,hq⟩;exact s_ I2 (by rw [e];exact True.intro) hs he (Ca hz hd (rk.merge .nil) dd')
end L2
namespace L3
open PySem L2 PySem.Spec PyProof.Rows
abbrev St:=L2.St
def RdK (K:At) (H:Hp) (a:Is) (xs:List V):Prop :=
 Rd H a (.lst xs)\/∃(its:Array Db) (n:Nat),K.lookup a=some { cls:=.type "list",data:=.seq its n }/\its.size<=sizeLine/\Vals xs its.toList
theorem RdK.of {K:At} (h:H a=some (.lst xs)):RdK K H a xs:=.inl (.inl h)
theorem RdK.sq {K:At} (h:RdK K H a xs):SqL K H a xs:=by
 rcases h with h | ⟨its,n,hk,hz,r⟩
 ·exact .inl h
 ·exact .inr ⟨_,its,n,hk,rfl,rfl,rfl,hz,r⟩
theorem RdK.same {K:At} (e:ax H H') (h:RdK K H a xs):RdK K H' a xs:=by
 rcases h with (h | ⟨o,h⟩) | h
 ·exact .inl (.inl (e _ _ h))
 ·exact .inl (.inr ⟨o,e _ _ h⟩)
 ·exact .inr h
theorem RdK.obj (I:Inv X pins σ H s) (h:RdK X.K H a xs) :
  xs.length<=sizeLine/\∃(its:List Db) (n:Nat),Vals xs its/\xs.length=its.length/\s.heap.get? a=some { cls:=.type "list",data:=.seq its.toArray n }:=by
 rcases h with h | ⟨its,n,hk,hz,r⟩
 ·obtain ⟨z,its,n,r,e⟩:=h.ok I.hok
  exact ⟨z,its,n,r,r.length,e⟩
 ·have e:=r.length
  have e':=e;simp only [Xx]at e';exact ⟨by lia,its.toList,n,r,e,by simpa using I.kIn a _ hk⟩
end L3
namespace L3
open PySem L2
inductive OD where
 |sh (d:Gc)
 |ol (xs:List OD)
 |ot (xs:List OD)
 |od (kvs:List (Key×Gc))
 |oi (p:Option Is) (nm:Str) (ds:List (Str×Gc))
 |pl (a:Is) (xs:List OD)
def kD:Key->Gc
 |.inl i=>.int i
 |.inr x=>.str x
def dD (kvs:List (Key×Gc)):Gc:=.dict (kvs.map λp=>(kD p.1,p.2))
def mG (nm:Str) (ds:List (Str×Gc)):Gc:=.dict ((.none,.str nm) :: ds.map λp=>(.tuple [.str p.1],p.2))
mutual
def OD.er:OD->Gc
 |.sh d=>d
 |.ol xs=>.list (OD.ers xs)
 |.ot xs=>.tuple (OD.ers xs)
 |.od kvs=>dD kvs
 |.oi _ nm ds=>mG nm ds
 |.pl _ xs=>.list (OD.ers xs)
def OD.ers:List OD->List Gc
 |[]=>[]
 |x :: xs=>x.er :: OD.ers xs
end
theorem nJ:∀xs:List OD,OD.ers xs=xs.map OD.er
 |[]=>rfl
 |x :: xs=>by rw [OD.ers,Zw,nJ xs]
theorem aQ (d:Gc):(OD.sh d).er=d:=by rw [OD.er]
theorem dS (xs:List OD):(OD.ol xs).er=.list (xs.map OD.er):=by rw [OD.er,nJ]
theorem BD (xs:List OD):(OD.ot xs).er=.tuple (xs.map OD.er):=by rw [OD.er,nJ]
theorem A0 (p:Option Is) (nm:Str) (ds:List (Str×Gc)):(OD.oi p nm ds).er=mG nm ds:=by rw [OD.er]
theorem E5 (a:Is) (xs:List OD):(OD.pl a xs).er=.list (xs.map OD.er):=by rw [OD.er,nJ]
theorem Ce (kvs:List (Key×Gc)):(OD.od kvs).er=dD kvs:=by rw [OD.er]
theorem aX (ds:List Gc):(ds.map OD.sh).map OD.er=ds:=by
 rw [Yu];have:(OD.er ∘ OD.sh)=id:=funext λd=>aQ d
 rw [this,List.map_id]
inductive R (α:Type) where
 |ok (a:α)
 |ex (c:Str)
 |bad
def R.bind {α β:Type} (r:R α) (f:α->R β):R β:=match r with
 |.ok a=>f a
 |.ex c=>.ex c
 |.bad=>.bad
theorem aC (a:α) (f:α->R β):(R.ok a).bind f=f a:=rfl
abbrev Env:=List (Option OD)
abbrev Fe:=Env->R OD
abbrev Fa:=Env->R (List OD)
abbrev Ft:=Env->R Bool
abbrev Fn:=List Gc->R OD
inductive Out where
 |nx (ρ:Env)
 |rt (x:OD)
 |bk (ρ:Env)
 |ct (ρ:Env)
abbrev Fs:=Env->R Out
abbrev Fi:=Env->R (List Gc)
abbrev Fg:=OD->Env->R Env
def BIG:Nat:=10000000
def flat:Gc->Bool
 |.none=>true
 |.bool _=>true
 |.int _=>true
 |.str _=>true
 |_=>false
def ae (i:Nat):Fe:=fun ρ=>match ρ[i]? with
 |some (some (.sh d))=>.ok (.sh d)
 |_=>.bad
def eC (d:Gc):Fe:=λ_=>.ok (.sh d)
def eOp (g:Gc->Gc->R OD) (a b:Fe):Fe:=fun ρ=>(a ρ).bind λx=>(b ρ).bind λy=>g x.er y.er
def eUn (g:Gc->R OD) (a:Fe):Fe:=fun ρ=>(a ρ).bind λx=>g x.er
def truth:Gc->R Bool
 |.bool b=>.ok b
 |_=>.bad
def ao (a:Fe):Ft:=fun ρ=>(a ρ).bind λx=>truth x.er
def oX (a b:Ft):Ft:=fun ρ=>(a ρ).bind λc=>if c=true then b ρ else .ok false
def iP (a b:Ft):Ft:=fun ρ=>(a ρ).bind λc=>if c=true then .ok true else b ρ
def bA (a:Ft):Ft:=fun ρ=>(a ρ).bind λc=>.ok (!c)
def jR (a b:Fe):Fe:=fun ρ=>(a ρ).bind λx=>(truth x.er).bind λc=>if c=true then b ρ else .ok (.sh (.bool false))
def eOr (a b:Fe):Fe:=fun ρ=>(a ρ).bind λx=>(truth x.er).bind λc=>if c=true then .ok (.sh (.bool true)) else b ρ
def zX (a:Fe):Fe:=fun ρ=>(a ρ).bind λx=>(truth x.er).bind λc=>.ok (.sh (.bool (!c)))
def eIf (t:Ft) (a b:Fe):Fe:=fun ρ=>(t ρ).bind λc=>if c=true then a ρ else b ρ
def ag:Fa:=λ_=>.ok []
def aa (a:Fe) (r:Fa):Fa:=fun ρ=>(a ρ).bind λx=>(r ρ).bind λxs=>.ok (x :: xs)
def shs:List OD->Option (List Gc)
 |[]=>some []
 |.sh d :: r=>match shs r with
  |some ds=>some (d :: ds)
  |none=>none
 |_ :: _=>none
def mkT (xs:List OD):OD:=match shs xs with
 |some ds=>.sh (.tuple ds)
 |none=>.ot xs
def cP (a:Fa):Fe:=fun ρ=>(a ρ).bind λxs=>if xs.length<=BIG then .ok (mkT xs) else .bad
def eSh (a:Fe):Fe:=fun ρ=>(a ρ).bind λx=>.ok (.sh x.er)
def cK (a:Fa):Fe:=fun ρ=>(a ρ).bind λxs=>if xs.length<=BIG then .ok (.ol xs) else .bad
def ak (f:Fn) (a:Fa):Fe:=fun ρ=>(a ρ).bind λxs=>f (xs.map OD.er)
def eB (g:List Gc->R OD) (a:Fa):Fe:=fun ρ=>(a ρ).bind λxs=>g (xs.map OD.er)
def erase (ρ:Env):Env:=ρ.map λo=>o.map λx=>OD.sh x.er
def vk (a:Fe):Fe:=fun ρ=>(a (erase ρ)).bind λx=>if flat x.er=true then .ok (.sh x.er) else .bad
def vd (a:Fe):Fe:=fun ρ=>(a (erase ρ)).bind λx=>match x with
 |.ol xs=>if xs.all (λy=>flat y.er)=true then .ok (.ol (xs.map λy=>.sh y.er)) else .bad
 |_=>.bad
def rP (a:Ft):Ft:=fun ρ=>a (erase ρ)
abbrev Fo:=Env->R (Option Int)
def oT:Fo:=λ_=>.ok none
def mX (a:Fe):Fo:=fun ρ=>(a ρ).bind λx=>match x.er with
 |.int i=>.ok (some i)
 |_=>.bad
def eSl (g:Gc->Option Int->Option Int->R OD) (a:Fe) (l h:Fo):Fe:=fun ρ=>(a ρ).bind λx=>(l ρ).bind λi=>(h ρ).bind λj=>g x.er i j
def dg (a:Fe):Fi:=fun ρ=>(a ρ).bind λx=>match x.er with
 |.list ds=>.ok ds
 |_=>.bad
def l7 (lo:Int) (n:Nat):List Gc:=(range n).map λk:Nat=>PyData.int (lo+k)
def aL (i:Int):Bool:=decide (-(2 ^ 62)<=i) && decide (i<2 ^ 62)
def iR1 (a:Fe):Fi:=fun ρ=>(a ρ).bind λx=>match x.er with
 |.int j=>if aL j=true then .ok (l7 0 j.toNat) else .bad
 |_=>.bad
def iR2 (a b:Fe):Fi:=fun ρ=>(a ρ).bind λx=>(b ρ).bind λy=>match x.er,y.er with
 |.int i,.int j=>if (aL i && aL j)=true then .ok (l7 i (j-i).toNat) else .bad
 |_,_=>.bad
def dn (ds:List Gc):List Gc:=ds.zipIdx.map λp=>PyData.tuple [.int (p.2:Nat),p.1]
def tQ (ds es:List Gc):List Gc:=(ds.zip es).map λp=>PyData.tuple [p.1,p.2]
def iEn (a:Fe):Fi:=fun ρ=>(a ρ).bind λx=>match x.er with
 |.list ds=>.ok (dn ds)
 |_=>.bad
def gNm (i:Nat):Fg:=λx ρ=>.ok (ρ.set i (some x))
abbrev Fgs:=List OD->Env->R Env
def fP:Fgs:=λxs ρ=>match xs with
 |[]=>.ok ρ
 |_=>.bad
def aZ (g:Fg) (r:Fgs):Fgs:=λxs ρ=>match xs with
 |x :: xs=>(g x ρ).bind fun ρ'=>r xs ρ'
 |[]=>.bad
def gTp (n:Nat) (r:Fgs):Fg:=λx ρ=>match x with
 |.ot xs=>if xs.length=n then r xs ρ else .bad
 |.sh (.tuple ds)=>if ds.length=n then r (ds.map OD.sh) ρ else .bad
 |_=>.bad
def uF:Option (Option OD)->Option OD
 |some (some (.sh d))=>some (.sh d)
 |_=>none
def sl3 (k:Nat) (outs:List Nat) (ρ:Env):Env:=replicate k none++outs.map λi=>uF ρ[i]?
def tM {α:Type}:R α->R α
 |.ok a=>.ok a
 |_=>.bad
def bH (g:Fg) (t:Ft) (el:Fe) (ρ0:Env):List Gc->List OD->R (List OD)
 |[],acc=>.ok acc
 |d :: ds,acc=>(tM (g (.sh d) ρ0)).bind fun ρ=>(tM (t ρ)).bind λb=>if b=true then (tM (el ρ)).bind λy=>if acc.length<BIG then bH g t el ρ0 ds (acc++[y]) else .bad else bH g t el ρ0 ds acc
def bu (it:Fi) (g:Fg) (t:Ft) (el:Fe) (k:Nat) (outs:List Nat):Fe:=fun ρ=>(it ρ).bind λds=>(bH g t el (sl3 k outs ρ) ds []).bind λxs=>.ok (.ol xs)
def dG:Ft:=λ_=>.ok true
def sNx:Fs:=fun ρ=>.ok (.nx ρ)
def aw (a b:Fs):Fs:=fun ρ=>(a ρ).bind λo=>match o with
 |.nx ρ'=>b ρ'
 |o=>.ok o
def LW (a:Fe) (g:Fg):Fs:=fun ρ=>(a ρ).bind λx=>(g x ρ).bind fun ρ'=>.ok (.nx ρ')
def aH (i:Nat) (a:Fe):Fs:=fun ρ=>(a ρ).bind λx=>.ok (.nx (ρ.set i (some x)))
def cU (a:Fe):Fs:=fun ρ=>(a ρ).bind λ_=>.ok (.nx ρ)
def aI (a:Fe):Fs:=fun ρ=>(a ρ).bind λx=>.ok (.rt x)
def ly (i:Nat):Fs:=fun ρ=>match ρ[i]? with
 |some (some x)=>.ok (.rt x)
 |_=>.bad
def sIf (t:Ft) (a b:Fs):Fs:=fun ρ=>(t ρ).bind λc=>if c=true then a ρ else b ρ
def p7:Fs:=λ_=>.bad
def Bm (i:Nat) (ρ:Env):Env:=match ρ[i]? with
 |some (some x)=>ρ.set i (some (.sh x.er))
 |_=>ρ
def rA (i:Nat) (a:Fs):Fs:=fun ρ=>a (Bm i ρ)
def yT (i:Nat) (g:Gc->Gc->R OD) (a:Fe):Fs:=fun ρ=>match ρ[i]? with
 |some (some (.sh d))=>(a ρ).bind λy=>(g d y.er).bind λz=>.ok (.nx (ρ.set i (some z)))
 |_=>.bad
def nI (i:Nat) (a:Fe):Fs:=fun ρ=>match ρ[i]? with
 |some (some (.ol xs))=>(a ρ).bind λy=>if xs.length<BIG then .ok (.nx (ρ.set i (some (.ol (xs++[y]))))) else .bad
 |_=>.bad
def Aj (i:Nat) (g:Fg):Fs:=fun ρ=>match ρ[i]? with
 |some (some (.ol xs))=>match xs.getLast? with
  |some (.sh d)=>(g (.sh d) (ρ.set i (some (.ol xs.dropLast)))).bind fun ρ'=>.ok (.nx ρ')
  |_=>.bad
 |_=>.bad
def zN (i:Nat) (k:Fe) (a:Fe):Fs:=fun ρ=>match ρ[i]? with
 |some (some (.ol xs))=>(a ρ).bind λy=>(k ρ).bind λz=>match z.er with
  |.int q=>match ixN xs.length q with
   |some j=>.ok (.nx (ρ.set i (some (.ol (xs.set j y)))))
   |none=>.bad
  |_=>.bad
 |_=>.bad
def comps:OD->Option (Bool×List OD)
 |.ol xs=>some (true,xs)
 |.ot xs=>some (false,xs)
 |_=>none
def wrap (l:Bool) (xs:List OD):OD:=if l=true then .ol xs else .ot xs
def ow (i:Nat) (k:Fe) (a:Fe):Fs:=fun ρ=>match ρ[i]? with
 |some (some (.ol xs))=>(k ρ).bind λz=>match z.er with
  |.int q=>match ixN xs.length q with
   |some j=>match xs[j]? with
    |some (.ol ys)=>(a ρ).bind λy=>if ys.length<BIG then .ok (.nx (ρ.set i (some (.ol (xs.set j (.ol (ys++[y]))))))) else .bad
    |_=>.bad
   |none=>.bad
  |_=>.bad
 |_=>.bad
def bw (g:Fg) (b:Fs):List Gc->Env->R Out
 |[],ρ=>.ok (.nx ρ)
 |d :: ds,ρ=>(g (.sh d) ρ).bind fun ρ1=>(b ρ1).bind λo=>match o with
  |.nx ρ2=>bw g b ds ρ2
  |.ct ρ2=>bw g b ds ρ2
  |.bk ρ2=>.ok (.nx ρ2)
  |.rt x=>.ok (.rt x)
def fX (it:Fi) (g:Fg) (b:Fs):Fs:=fun ρ=>(it ρ).bind λds=>bw g b ds ρ
def dh (t:Ft) (b:Fs):Nat->Env->R Out
 |0,_=>.bad
 |n+1,ρ=>(t ρ).bind λc=>if c=true then (b ρ).bind λo=>match o with
  |.nx ρ2=>dh t b n ρ2
  |.ct ρ2=>dh t b n ρ2
  |.bk ρ2=>.ok (.nx ρ2)
  |.rt x=>.ok (.rt x) else .ok (.nx ρ)
open Classical in
def dM (t:Ft) (b:Fs):Fs:=fun ρ=>if h:∃n,dh t b n ρ≠.bad then dh t b h.choose ρ else .bad
def mC (n:Nat) (ds:List Gc):Env:=(ds.map λd=>some (OD.sh d))++replicate (n-ds.length) none
def aM (np n:Nat) (b:Fs):Fn:=λds=>if ds.length=np then (b (mC n ds)).bind λo=>match o with
 |.rt x=>.ok x
 |.nx _=>.ok (.sh .none)
 |_=>.bad else .bad
mutual
inductive Rep (K:At) (H:Hp):V->Gc->Prop
 |non:Rep K H .non .none
 |bl (b:Bool):Rep K H (.bl b) (.bool b)
 |int (i:Int):Rep K H (.int i) (.int i)
 |str (x:Str):Rep K H (.str x) (.str x)
 |lst {a:Is} {xs:List V} {ds:List Gc}:RdK K H a xs->RepAll K H xs ds->Rep K H (.ref a) (.list ds)
 |tup {a:Is} {xs:List V} {ds:List Gc}:H a=some (.tup xs)->RepAll K H xs ds->Rep K H (.ref a) (.tuple ds)
 |dct {a:Is} {kvs:List (Key×V)} {ds:List (Key×Gc)}:H a=some (.dK kvs)->kvs.map (·.1)=ds.map (·.1)->RepAll K H (kvs.map (·.2)) (ds.map (·.2))->Rep K H (.ref a) (dD ds)
 |ins {a C dx:Is} {fs:List (Str×V)} {nm:Str} {ds:List (Str×Gc)}:nsIn K mainGlobals nm=some (some (.ref C))/\H a=some (.ins C dx fs)->fs.map (·.1)=ds.map (·.1)->RepAll K H (fs.map (·.2)) (ds.map (·.2))->Rep K H (.ref a) (mG nm ds)
inductive RepAll (K:At) (H:Hp):List V->List Gc->Prop
 |nil:RepAll K H [] []
 |cons {v:V} {vs:List V} {d:Gc} {ds:List Gc}:Rep K H v d->RepAll K H vs ds->RepAll K H (v :: vs) (d :: ds)
end
mutual
theorem Rep.same {K:At} (e:ax H H'):Rep K H v d->Rep K H' v d
 |.non=>.non
 |.bl b=>.bl b
 |.int i=>.int i
 |.str x=>.str x
 |.lst h r=>.lst (h.same e) (RepAll.same e r)
 |.tup h r=>.tup (e _ _ h) (RepAll.same e r)
 |.dct h k r=>.dct (e _ _ h) k (RepAll.same e r)
 |.ins h k r=>.ins ⟨h.1,e _ _ h.2⟩ k (RepAll.same e r)
theorem RepAll.same {K:At} (e:ax H H'):RepAll K H vs ds->RepAll K H' vs ds
 |.nil=>.nil
 |.cons h r=>.cons (Rep.same e h) (RepAll.same e r)
end
mutual
inductive Own (K:At) (F H:Hp):V->OD->List Is->Prop
 |sh {v:V} {d:Gc}:Rep K F v d->Own K F H v (.sh d) []
 |ol {a:Is} {vs:List V} {xs:List OD} {f:List Is}:H a=some (.lst vs)->OwnL K F H vs xs f->Own K F H (.ref a) (.ol xs) (a :: f)
 |ot {a:Is} {vs:List V} {xs:List OD} {f:List Is}:H a=some (.tup vs)->OwnL K F H vs xs f->Own K F H (.ref a) (.ot xs) (a :: f)
 |od {a:Is} {kvs:List (Key×V)} {ds:List (Key×Gc)}:H a=some (.dK kvs)->kvs.map (·.1)=ds.map (·.1)->RepAll K F (kvs.map (·.2)) (ds.map (·.2))->Own K F H (.ref a) (.od ds) [a]
 |oi {a C dx:Is} {fs:List (Str×V)} {p:Option Is} {nm:Str} {ds:List (Str×Gc)}:(∀b,p=some b->b=a)/\nsIn K mainGlobals nm=some (some (.ref C))/\H a=some (.ins C dx fs)->fs.map (·.1)=ds.map (·.1)->RepAll K F (fs.map (·.2)) (ds.map (·.2))->Own K F H (.ref a) (.oi p nm ds) [a]
 |pl {a:Is} {vs:List V} {xs:List OD} {f:List Is}:H a=some (.lst vs)->OwnL K F H vs xs f->Own K F H (.ref a) (.pl a xs) (a :: f)
inductive OwnL (K:At) (F H:Hp):List V->List OD->List Is->Prop
 |nil:OwnL K F H [] [] []
 |cons {v:V} {x:OD} {f:List Is} {vs:List V} {xs:List OD} {g:List Is}:Own K F H v x f->OwnL K F H vs xs g->OwnL K F H (v :: vs) (x :: xs) (f++g)
end
section
variable {K:At} {F H F' H':Hp}
mutual
theorem Own.mono (e:ax F F'):(∀a∈f,∀o,H a=some o->H' a=some o)->Own K F H v x f->Own K F' H' v x f
 |_,.sh r=>.sh (r.same e)
 |k,.ol h r=>.ol (k _ Zz _ h) (OwnL.mono e (λa m=>k a (Zs _ m)) r)
 |k,.ot h r=>.ot (k _ Zz _ h) (OwnL.mono e (λa m=>k a (Zs _ m)) r)
 |k,.od h q r=>.od (k _ Zz _ h) q (RepAll.same e r)
 |k,.oi h q r=>.oi ⟨h.1,h.2.1,k _ Zz _ h.2.2⟩ q (RepAll.same e r)
 |k,.pl h r=>.pl (k _ Zz _ h) (OwnL.mono e (λa m=>k a (Zs _ m)) r)
theorem OwnL.mono (e:ax F F'):(∀a∈f,∀o,H a=some o->H' a=some o)->OwnL K F H v x f->OwnL K F' H' v x f
 |_,.nil=>.nil
 |k,.cons h r=>.cons (Own.mono e (λa m=>k a (Zm _ m)) h) (OwnL.mono e (λa m=>k a (Zt _ m)) r)
end
mutual
theorem Own.dom:Own K F H v x f->∀a∈f,∃o,H a=some o
 |.sh _,a,m=>by cases m
 |.ol h r,a,m=>by
  rcases Xz.mp m with rfl | m
  ·exact ⟨_,h⟩
  ·exact OwnL.dom r a m
 |.ot h r,a,m=>by
  rcases Xz.mp m with rfl | m
  ·exact ⟨_,h⟩
  ·exact OwnL.dom r a m
 |.od h q r,a,m=>by
  rcases Xz.mp m with rfl | m
  ·exact ⟨_,h⟩
  ·cases m
 |.oi h q r,a,m=>by
  rcases Xz.mp m with rfl | m
  ·exact ⟨_,h.2.2⟩
  ·cases m
 |.pl h r,a,m=>by
  rcases Xz.mp m with rfl | m
  ·exact ⟨_,h⟩
  ·exact OwnL.dom r a m
theorem OwnL.dom:OwnL K F H v x f->∀a∈f,∃o,H a=some o
 |.nil,a,m=>by cases m
 |.cons h r,a,m=>by
  rcases Z5.mp m with m | m
  ·exact Own.dom h a m
  ·exact OwnL.dom r a m
end
mutual
theorem Own.frz (e:ax F F'):(∀a∈f,∀o,H a=some o->F' a=some o)->Own K F H v x f->Rep K F' v x.er
 |_,.sh r=>by rw [aQ];exact r.same e
 |k,.ol h r=>by rw [OD.er];exact .lst (RdK.of (k _ Zz _ h)) (OwnL.frz e (λa m=>k a (Zs _ m)) r)
 |k,.ot h r=>by rw [OD.er];exact .tup (k _ Zz _ h) (OwnL.frz e (λa m=>k a (Zs _ m)) r)
 |k,.od h q r=>by rw [OD.er];exact .dct (k _ Zz _ h) q (r.same e)
 |k,.oi h q r=>by rw [OD.er];exact .ins ⟨h.2.1,k _ Zz _ h.2.2⟩ q (r.same e)
 |k,.pl h r=>by rw [OD.er];exact .lst (RdK.of (k _ Zz _ h)) (OwnL.frz e (λa m=>k a (Zs _ m)) r)
theorem OwnL.frz (e:ax F F'):(∀a∈f,∀o,H a=some o->F' a=some o)->OwnL K F H v x f->RepAll K F' v (OD.ers x)
 |_,.nil=>by rw [OD.ers];exact .nil
 |k,.cons h r=>by rw [OD.ers];exact .cons (Own.frz e (λa m=>k a (Zm _ m)) h) (OwnL.frz e (λa m=>k a (Zt _ m)) r)
end
theorem OwnL.len (o:OwnL K F H v x f):v.length=x.length:=by
 induction x generalizing v f with
 |nil=>cases o;rfl
 |cons a r ih =>
  cases o with
  |cons h t=>exact Yl (·+1) (ih t)
theorem OwnL.app {f g:List Is} (o:OwnL K F H v x f) (q:OwnL K F H w y g):OwnL K F H (v++w) (x++y) (f++g):=by
 induction x generalizing v f with
 |nil=>cases o;exact q
 |cons a r ih =>
  cases o with
  |cons h t =>
   rw [Y6,Y6,Yq];exact .cons h (ih t)
theorem OwnL.shs:∀{v:List V} {ds:List Gc},RepAll K F v ds->OwnL K F H v (ds.map OD.sh) []
 |_,_,.nil=>.nil
 |_,_,.cons h r=>.cons (f:=[]) (.sh h) (OwnL.shs r)
theorem RepAll.len:∀{v:List V} {ds:List Gc},RepAll K F v ds->v.length=ds.length
 |_,_,.nil=>rfl
 |_,_,.cons _ r=>by rw [Zp,Zp,RepAll.len r]
theorem RepAll.get:∀{v:List V} {ds:List Gc} {i:Nat} {d:Gc},RepAll K F v ds->ds[i]?=some d->∃x,v[i]?=some x/\Rep K F x d
 |_,_,_,_,.nil,e=>by simp at e
 |_,_,0,_,.cons h _,e=>by
  simp at e
  subst e;exact ⟨_,rfl,h⟩
 |_,_,i+1,_,.cons _ r,e=>by
  obtain ⟨x,h1,h2⟩:=RepAll.get (i:=i) r (by simpa using e)
  exact ⟨x,by simpa using h1,h2⟩
theorem RepAll.app:∀{v w:List V} {ds es:List Gc},RepAll K F v ds->RepAll K F w es->RepAll K F (v++w) (ds++es)
 |_,_,_,_,.nil,q=>q
 |_,_,_,_,.cons h r,q=>.cons h (RepAll.app r q)
theorem RepAll.take:∀{v:List V} {ds:List Gc} (n:Nat),RepAll K F v ds->RepAll K F (v.take n) (ds.take n)
 |_,_,0,_=>by rw [Vq,Vq];exact .nil
 |_,_,_+1,.nil=>.nil
 |_,_,n+1,.cons h r=>.cons h (RepAll.take n r)
theorem RepAll.drop:∀{v:List V} {ds:List Gc} (n:Nat),RepAll K F v ds->RepAll K F (v.drop n) (ds.drop n)
 |_,_,0,r=>r
 |_,_,_+1,.nil=>.nil
 |_,_,n+1,.cons h r=>RepAll.drop n r
theorem RepAll.toInts:∀{v:List V} {ns:List Int},RepAll K F v (ns.map PyData.int)->v=ns.map V.int
 |_,[],.nil=>rfl
 |_,n :: ns,.cons h r=>by
  cases h;rw [RepAll.toInts r];rfl
theorem RepAll.ofInts:∀(ns:List Int),RepAll K F (ns.map V.int) (ns.map PyData.int)
 |[]=>.nil
 |n :: ns=>.cons (.int n) (RepAll.ofInts ns)
end
structure Ext (F H F' H':Hp):Prop where
 ff:ax F F'
 hh:ax H H'
 fh:ax F' H'
 nw:∀a,H a≠none->F a=none->F' a=none
theorem bg (h:o=some x):o≠none:=by
 rw [h];exact Option.some_ne_none x
theorem _root_.L2.ax.dom (e:ax H H') (h:H a≠none):H' a≠none:=by
 cases q:H a with
 |none=>exact absurd q h
 |some o=>exact bg (e a o q)
section
variable {F H F1 H1 F2 H2:Hp}
theorem Ext.refl (h:ax F H):Ext F H F H:=⟨ax.refl _,ax.refl _,h,λ_ _ z=>z⟩
theorem Ext.trans (a:Ext F H F1 H1) (b:Ext F1 H1 F2 H2):Ext F H F2 H2:=⟨a.ff.trans b.ff,a.hh.trans b.hh,b.fh,λx h n=>b.nw x (a.hh.dom h) (a.nw x h n)⟩
theorem Ext.alloc (h:ax F H) (hp:H p=none):Ext F H F (upd H p o) :=
 ⟨ax.refl _,(ax.refl H).upd hp,(ax.upd h (h.free hp)),λ_ _ z=>z⟩
theorem Ext.allocF (h:ax F H) (hp:H p=none):Ext F H (upd F p o) (upd H p o):=by
 refine ⟨(ax.refl F).upd (h.free hp),(ax.refl H).upd hp,λb u q=>?_,λa ha n=>?_⟩
 ·by_cases e:b=p
  ·subst e
   rw [aE]at q ⊢;exact q
  ·rw [av e]at q ⊢
   exact h b u q
 ·have e:a≠p:=by
   rintro rfl;exact ha hp
  rw [av e];exact n
end
structure Res (K:At) (F H:Hp) (v:V) (x:OD) (f:List Is):Prop where
 own:Own K F H v x f
 nd:f.Nodup
 fr:∀a∈f,F a=none
structure ResL (K:At) (F H:Hp) (v:List V) (x:List OD) (f:List Is):Prop where
 own:OwnL K F H v x f
 nd:f.Nodup
 fr:∀a∈f,F a=none
open Classical in
def kQ (F H:Hp) (f:List Is):Hp:=λa=>if a∈f then H a else F a
theorem gW {F H:Hp} (h:a∈f):kQ F H f a=H a:=by unfold kQ;rw [N1 h]
theorem dt {F H:Hp} (h:a∉f):kQ F H f a=F a:=by unfold kQ;rw [N2 h]
section
variable {K:At} {F H F' H' F1 H1:Hp} {x:OD} {xs:List OD}
theorem dj (n:∀a∈f,F a=none):ax F (kQ F H f):=λa o q=>by
 rw [dt]
 ·exact q
 ·intro m
  rw [n a m]at q;cases q
theorem pG (h:ax F H):ax (kQ F H f) H:=λa o q=>by
 by_cases m:a∈f
 ·rw [gW m]at q
  exact q
 ·rw [dt m]at q
  exact h a o q
theorem Res.ext (r:Res K F H v x f) (e:Ext F H F' H'):Res K F' H' v x f :=
 ⟨r.own.mono e.ff λa _ o q=>e.hh a o q,r.nd,λa m=>e.nw a (let ⟨_,q⟩:=r.own.dom a m;bg q) (r.fr a m)⟩
theorem ResL.ext (r:ResL K F H vs xs f) (e:Ext F H F' H'):ResL K F' H' vs xs f :=
 ⟨r.own.mono e.ff λa _ o q=>e.hh a o q,r.nd,λa m=>e.nw a (let ⟨_,q⟩:=r.own.dom a m;bg q) (r.fr a m)⟩
theorem xD (e:Ext F H F1 H1) (n:∀a∈f,F1 a=none) (w:∀a∈f,H a=none):Ext F H (kQ F1 H1 f) H1 :=
 ⟨e.ff.trans (dj n),e.hh,pG e.fh,λa h z=>by
  have m:a∉f:=λm=>h (w a m)
  rw [dt m];exact e.nw a h z⟩
theorem Res.frz (e:Ext F H F1 H1) (r:Res K F1 H1 v x f) (w:∀a∈f,H a=none):∃G,Ext F H G H1/\Rep K G v x.er :=
 ⟨kQ F1 H1 f,xD e r.fr w,r.own.frz (dj r.fr) λa m o q=>by rw [gW m];exact q⟩
theorem ResL.frz (e:Ext F H F1 H1) (r:ResL K F1 H1 vs xs f) (w:∀a∈f,H a=none):∃G,Ext F H G H1/\RepAll K G vs (xs.map OD.er) :=
 ⟨kQ F1 H1 f,xD e r.fr w,by rw [<-nJ];exact r.own.frz (dj r.fr) λa m o q=>by rw [gW m];exact q⟩
theorem Res.sh (r:Rep K F v d):Res K F H v (.sh d) []:=⟨.sh r,Y0,λ_ m=>by cases m⟩
theorem ResL.nil:ResL K F H [] [] []:=⟨.nil,Y0,λ_ m=>by cases m⟩
theorem ResL.cons {f1:List Is} (r:Res K F H v x f1) (q:ResL K F H vs xs f) (d:∀a∈f1,a∉f):ResL K F H (v :: vs) (x :: xs) (f1++f) :=
 ⟨.cons r.own q.own,Yx.mpr ⟨r.nd,q.nd,λa m b n e=>d a m (e▸n)⟩,λa m=>(Z5.mp m).elim (r.fr a) (q.fr a)⟩
end
inductive OwnS (K:At) (F H:Hp):St->Env->List Is->Prop
 |nil:OwnS K F H [] [] []
 |no {v:Option V} {σ:St} {ρ:Env} {g:List Is}:OwnS K F H σ ρ g->OwnS K F H (v :: σ) (none :: ρ) g
 |yes {v:V} {x:OD} {f:List Is} {σ:St} {ρ:Env} {g:List Is}:Own K F H v x f->OwnS K F H σ ρ g->OwnS K F H (some v :: σ) (some x :: ρ) (f++g)
section
variable {K:At} {F H F' H':Hp}
theorem OwnS.mono (e:ax F F') {g:List Is} (k:∀a∈g,∀o,H a=some o->H' a=some o) (S:OwnS K F H σ ρ g):OwnS K F' H' σ ρ g:=by
 induction S with
 |nil=>exact .nil
 |no r ih=>exact .no (ih k)
 |yes h r ih=>exact .yes (h.mono e λa m=>k a (Zm _ m)) (ih λa m=>k a (Zt _ m))
theorem OwnS.dom {g:List Is} (S:OwnS K F H σ ρ g):∀a∈g,∃o,H a=some o:=by
 induction S with
 |nil=>exact λa m=>by cases m
 |no r ih=>exact ih
 |yes h r ih=>exact λa m=>(Z5.mp m).elim (h.dom a) (ih a)
theorem OwnS.at {g:List Is} (S:OwnS K F H σ ρ g):∀{i:Nat} {x:OD},ρ[i]?=some (some x) ->
  ∃v f g1 g2,σ[i]?=some (some v)/\Own K F H v x f/\g=g1++(f++g2)/\∀(F' H':Hp),ax F F'->(∀a∈g1++g2,∀o,H a=some o->H' a=some o)->∀v' x' f',Own K F' H' v' x' f'->OwnS K F' H' (σ.set i (some v')) (ρ.set i (some x')) (g1++(f'++g2)):=by
 induction S with
 |nil=>intro i x e;simp at e
 |no r ih =>
  intro i x e;cases i with
  |zero=>simp at e
  |succ i =>
   obtain ⟨v,f,g1,g2,h1,h2,h3,h4⟩:=ih (i:=i) (by simpa using e)
   exact ⟨v,f,g1,g2,by simpa using h1,h2,h3,λF' H' s k v' x' f' o=>.no (h4 F' H' s k v' x' f' o)⟩
 |@yes v0 x0 f0 σ0 ρ0 g0 h r ih =>
  intro i x e;cases i with
  |zero =>
   simp at e
   subst e;exact ⟨_,f0,[],g0,rfl,h,rfl,λF' H' s k v' x' f' o=>OwnS.yes (f:=f') (g:=g0) o (r.mono s k)⟩
  |succ i =>
   obtain ⟨v,f,g1,g2,h1,h2,h3,h4⟩:=ih (i:=i) (by simpa using e)
   refine ⟨v,f,f0++g1,g2,by simpa using h1,h2,by rw [h3,Yq],λF' H' s k v' x' f' o=>?_⟩
   rw [Yq];exact .yes (h.mono s λa m=>k a (Zm _ (Zm _ m))) (h4 F' H' s (λa m=>k a (by simp at m ⊢;rcases m with m | m <;> simp [m])) v' x' f' o)
theorem OwnS.put {g:List Is} (S:OwnS K F H σ ρ g):∀{i:Nat},i<ρ.length ->
  ∃f g1 g2,g=g1++(f++g2)/\∀(F' H':Hp),ax F F'->(∀a∈g1++g2,∀o,H a=some o->H' a=some o)->∀v' x' f',Own K F' H' v' x' f'->OwnS K F' H' (σ.set i (some v')) (ρ.set i (some x')) (g1++(f'++g2)):=by
 induction S with
 |nil=>intro i e;simp at e
 |@no v0 σ0 ρ0 g0 r ih =>
  intro i e;cases i with
  |zero=>exact ⟨[],[],g0,rfl,λF' H' s k v' x' f' o=>OwnS.yes (f:=f') (g:=g0) o (r.mono s k)⟩
  |succ i =>
   obtain ⟨f,g1,g2,h3,h4⟩:=ih (i:=i) (by simpa using e)
   exact ⟨f,g1,g2,h3,λF' H' s k v' x' f' o=>.no (h4 F' H' s k v' x' f' o)⟩
 |@yes v0 x0 f0 σ0 ρ0 g0 h r ih =>
  intro i e;cases i with
  |zero=>exact ⟨f0,[],g0,rfl,λF' H' s k v' x' f' o=>OwnS.yes (f:=f') (g:=g0) o (r.mono s k)⟩
  |succ i =>
   obtain ⟨f,g1,g2,h3,h4⟩:=ih (i:=i) (by simpa using e)
   refine ⟨f,f0++g1,g2,by rw [h3,Yq],λF' H' s k v' x' f' o=>?_⟩
   rw [Yq];exact .yes (h.mono s λa m=>k a (Zm _ (Zm _ m))) (h4 F' H' s (λa m=>k a (by simp at m ⊢;rcases m with m | m <;> simp [m])) v' x' f' o)
theorem OwnS.erase (e:ax F H) {g:List Is} (S:OwnS K F H σ ρ g):OwnS K H H σ (L3.erase ρ) []:=by
 induction S with
 |nil=>exact .nil
 |no r ih=>exact .no ih
 |yes h r ih=>exact .yes (f:=[]) (.sh (h.frz e λ_ _ _ q=>q)) ih
theorem OwnS.len {g:List Is} (S:OwnS K F H σ ρ g):σ.length=ρ.length:=by
 induction S with
 |nil=>rfl
 |no r ih=>exact Yl (·+1) ih
 |yes h r ih=>exact Yl (·+1) ih
end
structure Stt (K:At) (n:Nat) (F H:Hp) (σ:St) (ρ:Env) (fp:List Is):Prop where
 same:ax F H
 own:OwnS K F H σ ρ fp
 nd:fp.Nodup
 fr:∀a∈fp,F a=none
 len:ρ.length=n
structure Stp (F H:Hp) (fp:List Is) (F' H':Hp) (fp':List Is):Prop where
 ff:ax F F'
 keep:∀a o,H a=some o->a∉fp->H' a=some o
 new:∀a∈fp',a∈fp\/H a=none
 nw:∀a,H a≠none->a∉fp->F a=none->F' a=none
section
variable {K:At} {n:Nat} {F H F' H' F1 H1 F2 H2:Hp} {σ:St} {ρ:Env} {fp fp1 fp2:List Is}
theorem Stt.ext (s:Stt K n F H σ ρ fp) (e:Ext F H F' H'):Stt K n F' H' σ ρ fp :=
 ⟨e.fh,s.own.mono e.ff λa _ o q=>e.hh a o q,s.nd,λa m=>e.nw a (let ⟨_,q⟩:=s.own.dom a m;bg q) (s.fr a m),s.len⟩
theorem Stt.erase (s:Stt K n F H σ ρ fp):Stt K n H H σ (L3.erase ρ) [] :=
 ⟨ax.refl _,s.own.erase s.same,Y0,(λ_ m=>by cases m),(by unfold L3.erase;rw [Zy];exact s.len)⟩
theorem Stp.refl:Stp F H fp F H fp:=⟨ax.refl _,λ_ _ h _=>h,λ_ m=>.inl m,λ_ _ _ z=>z⟩
theorem Ext.stp (e:Ext F H F' H'):Stp F H fp F' H' fp:=⟨e.ff,λa o h _=>e.hh a o h,λ_ m=>.inl m,λa h _ z=>e.nw a h z⟩
theorem Stp.out (s:Stp F H fp F1 H1 fp1) (h:H a≠none) (m:a∉fp):a∉fp1:=λq=>(s.new a q).elim m h
theorem Stp.trans (s:Stp F H fp F1 H1 fp1) (t:Stp F1 H1 fp1 F2 H2 fp2):Stp F H fp F2 H2 fp2 where
 ff:=s.ff.trans t.ff
 keep a o h m:=t.keep a o (s.keep a o h m) (s.out (bg h) m)
 new a m:=(t.new a m).elim (s.new a) λz=>by
  by_cases q:a∈fp
  ·exact .inl q
  ·refine .inr ?_
   cases w:H a with
   |none=>rfl
   |some o =>
    rw [s.keep a o w q]at z;cases z
 nw a h m z:=t.nw a (by
  cases w:H a with
  |none=>exact absurd w h
  |some o=>exact bg (s.keep a o w m)) (s.out h m) (s.nw a h m z)
theorem Stt.set (s:Stt K n F H σ ρ fp) (hi:i<n) (r:Res K F H v x fx) (d:∀a∈fx,a∉fp) :
  ∃fp',Stt K n F H (σ.set i (some v)) (ρ.set i (some x)) fp'/\∀a∈fp',a∈fp\/a∈fx:=by
 obtain ⟨f,g1,g2,e,k⟩:=s.own.put (i:=i) (by rw [s.len];exact hi)
 subst e;have nd:=s.nd;have sub:∀a∈g1++(fx++g2),a∈g1++(f++g2)\/a∈fx:=λa m=>by
  simp only [Z5]at m ⊢;rcases m with m | m | m
  ·exact .inl (.inl m)
  ·exact .inr m
  ·exact .inl (.inr (.inr m))
 refine ⟨g1++(fx++g2),⟨s.same,k F H (ax.refl _) (λ_ _ _ q=>q) v x fx r.own,?_,λa m=>(sub a m).elim (s.fr a) (r.fr a),by rw [Y3];exact s.len⟩,sub⟩
 simp only [Yx,Z5]at nd d ⊢;obtain ⟨n1,⟨n2,n3,n4⟩,n5⟩:=nd;refine ⟨n1,⟨r.nd,n3,λa ha b hb e=>d a ha (.inr (.inr (e▸hb)))⟩,λa ha b hb e=>?_⟩
 rcases hb with hb | hb
 ·exact d b hb (.inl (e▸ha))
 ·exact n5 a ha b (.inr hb) e
end
end L3
namespace L3
open PySem L2
structure Mx where
 K:At
 mg:Str->Ch
 E:XK
def XOk (M:Mx) (c:Str) (H:Hp) (fp:List Is):Prop:=∃cv,M.mg c=some cv/\∀od H',(∀a o,H a=some o->a∉fp->H' a=some o)->M.E cv od H'
def aq (M:Mx) (H:Hp) (fp:List Is) {α:Type} (P:α->Prop):R α->Prop
 |.ok a=>P a
 |.ex c=>XOk M c H fp
 |.bad=>False
def OkE (M:Mx) (F H:Hp) (Q:VK) (x:OD):Prop:=∀v F' H' fx,Ext F H F' H'->Res M.K F' H' v x fx->(∀a∈fx,H a=none)->Q v H'
def OkL (M:Mx) (F H:Hp) (Q:List V->Hp->Prop) (x:List OD):Prop:=∀v F' H' fx,Ext F H F' H'->ResL M.K F' H' v x fx->(∀a∈fx,H a=none)->Q v H'
def OkH (F H:Hp) {α:Type} (Q:α->Hp->Prop) (x:α):Prop:=∀F' H',Ext F H F' H'->Q x H'
section
variable {M:Mx} {F H F1 H1 F2 H2:Hp} {α β:Type} {r:R α}
theorem aq.bind {P:β->Prop} {g:α->R β} (h:aq M H fp P (r.bind g)):aq M H fp (λa=>aq M H fp P (g a)) r:=by
 cases r with
 |ok a=>exact h
 |ex c=>exact h
 |bad=>exact h
theorem aq.mono (h:aq M H fp P r) (k:∀a,P a->P' a):aq M H fp P' r:=by
 cases r with
 |ok a=>exact k a h
 |ex c=>exact h
 |bad=>exact h
theorem XOk.stp (s:Stp F H fp F1 H1 fp1) (h:XOk M c H fp):XOk M c H1 fp1 :=
 let ⟨cv,e,k⟩:=h
 ⟨cv,e,λod H' q=>k od H' λa o z m=>q a o (s.keep a o z m) (s.out (bg z) m)⟩
theorem aq.stp (s:Stp F H fp F1 H1 fp1) (h:aq M H fp P r):aq M H1 fp1 P r:=by
 cases r with
 |ok a=>exact h
 |ex c=>exact XOk.stp s h
 |bad=>exact h
theorem aq.ext (e:Ext F H F1 H1) (h:aq M H fp P r):aq M H1 fp P r:=h.stp e.stp
theorem aq.nofp (h:aq M H fp P r):aq M H [] P r:=by
 cases r with
 |ok a=>exact h
 |ex c =>
  obtain ⟨cv,e,k⟩:=h;exact ⟨cv,e,λod H' q=>k od H' λa o z _=>q a o z (by simp)⟩
 |bad=>exact h
theorem OkE.pre (e:Ext F H F1 H1) (h:OkE M F H Q x):OkE M F1 H1 Q x:=λv F' H' fx e' r w=>h v F' H' fx (e.trans e') r λa m=>e.hh.free (w a m)
theorem OkH.pre (e:Ext F H F1 H1) (h:OkH F H Q x):OkH F1 H1 Q x:=λF' H' e'=>h F' H' (e.trans e')
theorem OkE.val (s:ax F H) (h:OkE M F H Q (.sh d)) (r:Rep M.K F v d):Q v H:=h v F H [] (Ext.refl s) (Res.sh r) λ_ m=>by cases m
theorem OkE.lst {Q:VK} {xs:List OD} {vs:List V} {f:List Is} {p:Is} (s:ax F H) (h:OkE M F1 H1 Q (.ol xs)) (e:Ext F1 H1 F H) (r:ResL M.K F H vs xs f) (w:∀a∈f,H1 a=none) (hp:H p=none):Q (.ref p) (upd H p (.lst vs)):=by
 have np:p∉f:=λm=>by
  obtain ⟨o,q⟩:=r.own.dom p m;rw [hp]at q;cases q
 refine h (.ref p) F _ (p :: f) (e.trans (Ext.alloc s hp)) ⟨.ol aE (r.own.mono (ax.refl _) λa m o q=>?_),Xn.mpr ⟨np,r.nd⟩,λa m=>?_⟩ λa m=>?_
 ·rw [av (aG q hp)]
  exact q
 ·rcases Xz.mp m with rfl | m
  ·exact s.free hp
  ·exact r.fr a m
 ·rcases Xz.mp m with rfl | m
  ·exact e.hh.free hp
  ·exact w a m
theorem OkE.tup {Q:VK} {xs:List OD} {vs:List V} {f:List Is} {p:Is} (s:ax F H) (h:OkE M F1 H1 Q (.ot xs)) (e:Ext F1 H1 F H) (r:ResL M.K F H vs xs f) (w:∀a∈f,H1 a=none) (hp:H p=none):Q (.ref p) (upd H p (.tup vs)):=by
 have np:p∉f:=λm=>by
  obtain ⟨o,q⟩:=r.own.dom p m;rw [hp]at q;cases q
 refine h (.ref p) F _ (p :: f) (e.trans (Ext.alloc s hp)) ⟨.ot aE (r.own.mono (ax.refl _) λa m o q=>?_),Xn.mpr ⟨np,r.nd⟩,λa m=>?_⟩ λa m=>?_
 ·rw [av (aG q hp)]
  exact q
 ·rcases Xz.mp m with rfl | m
  ·exact s.free hp
  ·exact r.fr a m
 ·rcases Xz.mp m with rfl | m
  ·exact e.hh.free hp
  ·exact w a m
theorem OkE.lstD (s:ax F H) (h:OkE M F H Q (.ol (ds.map OD.sh))) (r:RepAll M.K F vs ds) (hp:H p=none):Q (.ref p) (upd H p (.lst vs)) :=
 OkE.lst s h (Ext.refl s) ⟨OwnL.shs r,Y0,λ_ m=>by cases m⟩ (λ_ m=>by cases m) hp
theorem OkE.tupF (s:ax F H) (h:OkE M F1 H1 Q (.sh (.tuple ds))) (e:Ext F1 H1 F H) (r:RepAll M.K F vs ds) (hp:H p=none):Q (.ref p) (upd H p (.tup vs)) :=
 h (.ref p) (upd F p (.tup vs)) _ [] (e.trans (Ext.allocF s hp)) (Res.sh (.tup aE (r.same ((ax.refl F).upd (s.free hp))))) λ_ m=>by cases m
theorem OwnL.of_shs {K:At} (o:OwnL K F H vs xs f) (e:L3.shs xs=some ds):f=[]/\RepAll K F vs ds:=by
 induction xs generalizing vs f ds with
 |nil =>
  cases o;unfold L3.shs at e;cases e;exact ⟨rfl,.nil⟩
 |cons a0 r0 ih0 =>
 cases o with
 |cons h0 r =>
  have ih:=λds=>ih0 (ds:=ds) r
  cases h0 with
  |sh h =>
   unfold L3.shs at e;split at e
   ·rename_i es q
    cases e;obtain ⟨rfl,k⟩:=ih _ q;exact ⟨rfl,.cons h k⟩
   ·cases e
  |ol _ _ =>
   unfold L3.shs at e;cases e
  |ot _ _ =>
   unfold L3.shs at e;cases e
  |od _ _ _ =>
   unfold L3.shs at e;cases e
  |oi _ _ _ =>
   unfold L3.shs at e;cases e
  |pl _ _ =>
   unfold L3.shs at e;cases e
end
def tD (M:Mx) (n:Nat) (f:Fe):TE:=fun σ H Q=>∃F ρ fp,Stt M.K n F H σ ρ fp/\aq M H fp (OkE M F H Q) (f ρ)
def tA (M:Mx) (n:Nat) (f:Fa):TA:=fun σ H Q=>∃F ρ fp,Stt M.K n F H σ ρ fp/\aq M H fp (OkL M F H Q) (f ρ)
def tT (M:Mx) (n:Nat) (f:Ft):TT:=fun σ H Q=>∃F ρ fp,Stt M.K n F H σ ρ fp/\aq M H fp (OkH F H Q) (f ρ)
def tO (M:Mx) (n:Nat) (f:Fo):TO:=fun σ H Q=>∃F ρ fp,Stt M.K n F H σ ρ fp/\aq M H fp (OkH F H Q) (f ρ)
def Ok2 (M:Mx) (r:R2) (g:Gc->Gc->R OD):Prop:=∀(x y:V) (dx dy:Gc) (F H:Hp) (fp:List Is) (Q:VK),ax F H->Rep M.K F x dx->Rep M.K F y dy->aq M H fp (OkE M F H Q) (g dx dy)->r x y H Q
def Ok1 (M:Mx) (r:V->Hp->VK->Prop) (g:Gc->R OD):Prop:=∀(x:V) (dx:Gc) (F H:Hp) (fp:List Is) (Q:VK),ax F H->Rep M.K F x dx->aq M H fp (OkE M F H Q) (g dx)->r x H Q
def OkC (M:Mx) (r:List V->Hp->VK->Prop) (g:List Gc->R OD):Prop:=∀(x:List V) (dx:List Gc) (F H:Hp) (fp:List Is) (Q:VK),ax F H->RepAll M.K F x dx->aq M H fp (OkE M F H Q) (g dx)->r x H Q
def OkS (M:Mx) (r:V->Option Int->Option Int->Hp->VK->Prop) (g:Gc->Option Int->Option Int->R OD):Prop:=∀(x:V) (i j:Option Int) (dx:Gc) (F H:Hp) (fp:List Is) (Q:VK),ax F H->Rep M.K F x dx->aq M H fp (OkE M F H Q) (g dx i j)->r x i j H Q
section
variable {M:Mx} {n:Nat} {σ:St} {H:Hp} {Q:VK} {QB:Bool->Hp->Prop} {fa fb:Fe} {ta tb:Ft}
theorem Lq (h:tD M n (ae i) σ H Q):fm i σ H Q:=by
 obtain ⟨F,ρ,fp,S,p⟩:=h;unfold ae at p;split at p
 ·rename_i d e
  obtain ⟨v,f,g1,g2,h1,h2,h3,h4⟩:=S.own.at e;cases h2 with
  |sh r=>exact ⟨v,h1,OkE.val S.same p r⟩
 ·exact p.elim
theorem d_c (hr:∀K F,Rep K F v d) (h:tD M n (eC d) σ H Q):tC v σ H Q:=by
 obtain ⟨F,ρ,fp,S,p⟩:=h;exact OkE.val S.same p (hr _ _)
theorem BQ {g:Gc->Gc->R OD} (hg:Ok2 M r g) (h:tD M n (eOp g fa fb) σ H Q):tOp r (tD M n fa) (tD M n fb) σ H Q:=by
 obtain ⟨F,ρ,fp,S,p⟩:=h;refine ⟨F,ρ,fp,S,(aq.bind p).mono λx px v F1 H1 fx e1 r1 w1=>?_⟩
 obtain ⟨G1,d1,k1⟩:=r1.frz e1 w1;refine ⟨G1,ρ,fp,S.ext d1,((aq.bind px).ext d1).mono λy py v2 F2 H2 fy e2 r2 w2=>?_⟩
 obtain ⟨G2,d2,k2⟩:=r2.frz e2 w2;exact hg v v2 x.er y.er G2 H2 fp Q d2.fh (k1.same d2.ff) k2 ((py.ext (d1.trans d2)).mono λz hz=>hz.pre (d1.trans d2))
theorem Nf {g:Gc->R OD} (hg:Ok1 M r g) (h:tD M n (eUn g fa) σ H Q):tUn r (tD M n fa) σ H Q:=by
 obtain ⟨F,ρ,fp,S,p⟩:=h;refine ⟨F,ρ,fp,S,(aq.bind p).mono λx px v F1 H1 fx e1 r1 w1=>?_⟩
 obtain ⟨G1,d1,k1⟩:=r1.frz e1 w1;exact hg v x.er G1 H1 fp Q d1.fh k1 ((px.ext d1).mono λz hz=>hz.pre d1)
theorem nc {K:At} {F:Hp} (k:Rep K F v d) (p:aq M H fp P (truth d)):∃b,v=.bl b/\P b:=by
 cases d with
 |bool b =>
  cases k;exact ⟨b,rfl,p⟩
 |none=>exact p.elim
 |int _=>exact p.elim
 |str _=>exact p.elim
 |list _=>exact p.elim
 |tuple _=>exact p.elim
 |dict _=>exact p.elim
theorem xn (h:tT M n (ao fa) σ H QB):xG (tD M n fa) σ H QB:=by
 obtain ⟨F,ρ,fp,S,p⟩:=h;refine ⟨F,ρ,fp,S,(aq.bind p).mono λx px v F1 H1 fx e1 r1 w1=>?_⟩
 obtain ⟨G1,d1,k1⟩:=r1.frz e1 w1;obtain ⟨b,rfl,q⟩:=nc k1 px;exact ⟨b,rfl,q G1 H1 d1⟩
theorem d_b (h:tT M n (ao fa) σ H QB):tB (tD M n fa) σ H QB:=xn h
theorem Hw (h:tT M n (oX ta tb) σ H QB):K6 (tT M n ta) (tT M n tb) σ H QB:=by
 obtain ⟨F,ρ,fp,S,p⟩:=h;refine ⟨F,ρ,fp,S,(aq.bind p).mono λc pc F1 H1 e1=>?_⟩
 cases c with
 |true =>
  rw [N1 rfl]at pc ⊢;exact ⟨F1,ρ,fp,S.ext e1,(pc.ext e1).mono λb hb=>hb.pre e1⟩
 |false =>
  rw [N2 Zo]at pc ⊢;exact pc F1 H1 e1
theorem KQ (h:tT M n (iP ta tb) σ H QB):tOr (tT M n ta) (tT M n tb) σ H QB:=by
 obtain ⟨F,ρ,fp,S,p⟩:=h;refine ⟨F,ρ,fp,S,(aq.bind p).mono λc pc F1 H1 e1=>?_⟩
 cases c with
 |true =>
  rw [N1 rfl]at pc ⊢;exact pc F1 H1 e1
 |false =>
  rw [N2 Zo]at pc ⊢;exact ⟨F1,ρ,fp,S.ext e1,(pc.ext e1).mono λb hb=>hb.pre e1⟩
theorem HK (h:tT M n (bA ta) σ H QB):Kz (tT M n ta) σ H QB:=by
 obtain ⟨F,ρ,fp,S,p⟩:=h;exact ⟨F,ρ,fp,S,(aq.bind p).mono λc pc F1 H1 e1=>pc F1 H1 e1⟩
theorem Lg (h:tD M n (jR fa fb) σ H Q):Fv (tD M n fa) (tD M n fb) σ H Q:=by
 obtain ⟨F,ρ,fp,S,p⟩:=h;refine ⟨F,ρ,fp,S,(aq.bind p).mono λx px v F1 H1 fx e1 r1 w1=>?_⟩
 obtain ⟨G1,d1,k1⟩:=r1.frz e1 w1;obtain ⟨b,rfl,q⟩:=nc k1 (aq.bind px);refine ⟨b,rfl,?_⟩;cases b with
 |true =>
  rw [N1 rfl]at q ⊢;exact ⟨G1,ρ,fp,S.ext d1,(q.ext d1).mono λz hz=>hz.pre d1⟩
 |false =>
  rw [N2 Zo]at q ⊢;exact OkE.val d1.fh (OkE.pre d1 q) (.bl _)
theorem MJ (h:tD M n (eOr fa fb) σ H Q):Lh (tD M n fa) (tD M n fb) σ H Q:=by
 obtain ⟨F,ρ,fp,S,p⟩:=h;refine ⟨F,ρ,fp,S,(aq.bind p).mono λx px v F1 H1 fx e1 r1 w1=>?_⟩
 obtain ⟨G1,d1,k1⟩:=r1.frz e1 w1;obtain ⟨b,rfl,q⟩:=nc k1 (aq.bind px);refine ⟨b,rfl,?_⟩;cases b with
 |true =>
  rw [N1 rfl]at q ⊢;exact OkE.val d1.fh (OkE.pre d1 q) (.bl _)
 |false =>
  rw [N2 Zo]at q ⊢;exact ⟨G1,ρ,fp,S.ext d1,(q.ext d1).mono λz hz=>hz.pre d1⟩
theorem JU (h:tD M n (zX fa) σ H Q):Fz (tD M n fa) σ H Q:=by
 obtain ⟨F,ρ,fp,S,p⟩:=h;refine ⟨F,ρ,fp,S,(aq.bind p).mono λx px v F1 H1 fx e1 r1 w1=>?_⟩
 obtain ⟨G1,d1,k1⟩:=r1.frz e1 w1;obtain ⟨b,rfl,q⟩:=nc k1 (aq.bind px);exact ⟨b,rfl,OkE.val d1.fh (OkE.pre d1 q) (.bl _)⟩
theorem Nl (h:tD M n (eIf ta fa fb) σ H Q):tIf (tT M n ta) (tD M n fa) (tD M n fb) σ H Q:=by
 obtain ⟨F,ρ,fp,S,p⟩:=h;refine ⟨F,ρ,fp,S,(aq.bind p).mono λc pc F1 H1 e1=>?_⟩
 cases c with
 |true =>
  rw [N1 rfl]at pc ⊢;exact ⟨F1,ρ,fp,S.ext e1,(pc.ext e1).mono λb hb=>hb.pre e1⟩
 |false =>
  rw [N2 Zo]at pc ⊢;exact ⟨F1,ρ,fp,S.ext e1,(pc.ext e1).mono λb hb=>hb.pre e1⟩
theorem vF (h:tD M n (eSh fa) σ H Q):tD M n fa σ H Q:=by
 obtain ⟨F,ρ,fp,S,p⟩:=h;refine ⟨F,ρ,fp,S,(aq.bind p).mono λx px v F1 H1 fx e1 r1 w1=>?_⟩
 obtain ⟨G1,d1,k1⟩:=r1.frz e1 w1;exact OkE.val d1.fh (OkE.pre d1 px) k1
theorem vC {K:At} {F G:Hp} (h:flat d=true) (r:Rep K F v d):Rep K G v d:=by
 cases r with
 |non=>exact .non
 |bl b=>exact .bl b
 |int i=>exact .int i
 |str x=>exact .str x
 |lst _ _=>cases h
 |tup _ _=>cases h
 |dct _ _ _=>cases h
 |ins _ _ _=>cases h
theorem Mr (h:tD M n (vk fa) σ H Q):tD M n fa σ H Q:=by
 obtain ⟨F,ρ,fp,S,p⟩:=h;refine ⟨H,erase ρ,[],S.erase,(aq.bind p).nofp.mono λx px v F1 H1 fx e1 r1 w1=>?_⟩
 by_cases hf:flat x.er=true
 ·rw [N1 hf]at px
  obtain ⟨G1,d1,k1⟩:=r1.frz e1 w1;exact px v F H1 [] ⟨ax.refl _,d1.hh,S.same.trans d1.hh,λ_ _ z=>z⟩ (Res.sh (vC hf k1)) λ_ m=>by cases m
 ·rw [N2 hf]at px
  exact px.elim
theorem Gr (h:tT M n (rP ta) σ H QB):tT M n ta σ H QB:=by
 obtain ⟨F,ρ,fp,S,p⟩:=h;refine ⟨H,erase ρ,[],S.erase,(show aq M H fp _ (ta (erase ρ)) from p).nofp.mono λb pb F1 H1 e1=>?_⟩
 exact pb F H1 ⟨ax.refl _,e1.hh,S.same.trans e1.hh,λ_ _ z=>z⟩
theorem CS (h:tA M n ag σ H QL):qM σ H QL:=by
 obtain ⟨F,ρ,fp,S,p⟩:=h;exact p [] F H [] (Ext.refl S.same) ResL.nil λ_ m=>by cases m
theorem Eg (h:tA M n (aa fa al) σ H QL):e8 (tD M n fa) (tA M n al) σ H QL:=by
 obtain ⟨F,ρ,fp,S,p⟩:=h;refine ⟨F,ρ,fp,S,(aq.bind p).mono λx px v F1 H1 fx e1 r1 w1=>?_⟩
 refine ⟨F1,ρ,fp,S.ext e1,((aq.bind px).ext e1).mono λxs pxs vs F2 H2 fxs e2 r2 w2=>?_⟩
 refine pxs (v :: vs) F2 H2 (fx++fxs) (e1.trans e2) (ResL.cons (r1.ext e2) r2 λa m q=>?_) λa m=>?_
 ·obtain ⟨o,z⟩:=r1.own.dom a m
  rw [w2 a q]at z;cases z
 ·rcases Z5.mp m with m | m
  ·exact w1 a m
  ·exact e1.hh.free (w2 a m)
theorem kT (h:k<=BIG):k<=sizeLine:=Yg h (by decide)
theorem tR (h:k<BIG):k<sizeLine:=Yt h (by decide)
theorem Mu (h:tD M n (cK al) σ H Q):Hf (tA M n al) σ H Q:=by
 obtain ⟨F,ρ,fp,S,p⟩:=h;refine ⟨F,ρ,fp,S,(aq.bind p).mono λxs px vs F1 H1 fx e1 r1 w1=>?_⟩
 by_cases hl:xs.length<=BIG
 ·rw [N1 hl]at px
  exact ⟨by rw [r1.own.len];exact kT hl,λa ha=>OkE.lst e1.fh px e1 r1 w1 ha⟩
 ·rw [N2 hl]at px
  exact px.elim
theorem L_ (h:tD M n (cP al) σ H Q):HY (tA M n al) σ H Q:=by
 obtain ⟨F,ρ,fp,S,p⟩:=h;refine ⟨F,ρ,fp,S,(aq.bind p).mono λxs px vs F1 H1 fx e1 r1 w1=>?_⟩
 by_cases hl:xs.length<=BIG
 ·rw [N1 hl]at px
  refine ⟨by rw [r1.own.len];exact kT hl,λa ha=>?_⟩
  unfold mkT at px;split at px
  ·rename_i ds q
   obtain ⟨_,k⟩:=OwnL.of_shs r1.own q;exact OkE.tupF e1.fh px e1 k ha
  ·exact OkE.tup e1.fh px e1 r1 w1 ha
 ·rw [N2 hl]at px
  exact px.elim
def sp3 (K:At) (mg:Str->Ch) (f:Fn):Sp:=λvs H Q E=>∃F ds,ax F H/\RepAll K F vs ds/\aq ⟨K,mg,E⟩ H [] (OkE ⟨K,mg,E⟩ F H Q) (f ds)
theorem HZ (h:tD M n (ak f al) σ H Q):vY (sp3 M.K M.mg f) [] M.E (tA M n al) σ H Q:=by
 obtain ⟨F,ρ,fp,S,p⟩:=h;refine ⟨F,ρ,fp,S,(aq.bind p).mono λxs px vs F1 H1 fx e1 r1 w1=>?_⟩
 obtain ⟨G1,d1,k1⟩:=r1.frz e1 w1;rw [Zc];exact ⟨G1,xs.map OD.er,d1.fh,k1,(px.ext d1).nofp.mono λz hz=>hz.pre d1⟩
theorem Ez {g:List Gc->R OD} (hg:OkC M r g) (h:tD M n (eB g al) σ H Q):tCB r (tA M n al) σ H Q:=by
 obtain ⟨F,ρ,fp,S,p⟩:=h;refine ⟨F,ρ,fp,S,(aq.bind p).mono λxs px vs F1 H1 fx e1 r1 w1=>?_⟩
 obtain ⟨G1,d1,k1⟩:=r1.frz e1 w1;exact hg vs (xs.map OD.er) G1 H1 fp Q d1.fh k1 ((px.ext d1).mono λz hz=>hz.pre d1)
variable {lo hi:Fo}
theorem Dr (h:tO M n oT σ H QO):xZ σ H QO:=by
 obtain ⟨F,ρ,fp,S,p⟩:=h;exact p F H (Ext.refl S.same)
theorem EY (h:tO M n (mX fa) σ H QO):F_ (tD M n fa) σ H QO:=by
 obtain ⟨F,ρ,fp,S,p⟩:=h;refine ⟨F,ρ,fp,S,(aq.bind p).mono λx px v F1 H1 fx e1 r1 w1=>?_⟩
 obtain ⟨G1,d1,k1⟩:=r1.frz e1 w1;generalize x.er=d at px k1
 cases d with
 |int i =>
  cases k1;exact ⟨i,rfl,px G1 H1 d1⟩
 |none=>exact px.elim
 |bool _=>exact px.elim
 |str _=>exact px.elim
 |list _=>exact px.elim
 |tuple _=>exact px.elim
 |dict _=>exact px.elim
theorem MW {g:Gc->Option Int->Option Int->R OD} (hg:OkS M r g) (h:tD M n (eSl g fa lo hi) σ H Q):tSl r (tD M n fa) (tO M n lo) (tO M n hi) σ H Q:=by
 obtain ⟨F,ρ,fp,S,p⟩:=h;refine ⟨F,ρ,fp,S,(aq.bind p).mono λx px v F1 H1 fx e1 r1 w1=>?_⟩
 obtain ⟨G1,d1,k1⟩:=r1.frz e1 w1;refine ⟨G1,ρ,fp,S.ext d1,((aq.bind px).ext d1).mono λi pi F2 H2 e2=>?_⟩
 refine ⟨F2,ρ,fp,(S.ext d1).ext e2,((aq.bind pi).ext (d1.trans e2)).mono λj pj F3 H3 e3=>?_⟩
 have e:=(d1.trans e2).trans e3;exact hg v i j x.er F3 H3 fp Q e3.fh ((k1.same e2.ff).same e3.ff) ((pj.ext e).mono λz hz=>hz.pre e)
end
def dF (M:Mx) (n:Nat) (F H:Hp) (fp:List Is) (D:Ends):Out->Prop
 |.nx ρ=>∀σ' F' H' fp',Stt M.K n F' H' σ' ρ fp'->Stp F H fp F' H' fp'->D.nx σ' H'
 |.bk ρ=>∀σ' F' H' fp',Stt M.K n F' H' σ' ρ fp'->Stp F H fp F' H' fp'->D.bk σ' H'
 |.ct ρ=>∀σ' F' H' fp',Stt M.K n F' H' σ' ρ fp'->Stp F H fp F' H' fp'->D.ct σ' H'
 |.rt x=>∀v F' H' fx,ax F' H'->Res M.K F' H' v x fx->Stp F H fp F' H' fx->D.rt v H'
def tS (M:Mx) (n:Nat) (f:Fs):TS:=λD σ H=>∃F ρ fp,Stt M.K n F H σ ρ fp/\aq M H fp (dF M n F H fp D) (f ρ)
def OkG (M:Mx) (n:Nat) (is:List Nat) (F H:Hp) (fp:List Is) (σ:St) (Q:St->Hp->Prop) (ρ:Env):Prop :=
 ∀σ' F' H' fp',Stt M.K n F' H' σ' ρ fp'->Stp F H fp F' H' fp'->(∀j,j∉is->σ'[j]?=σ[j]?)->Q σ' H'
def tG (M:Mx) (n:Nat) (is:List Nat) (f:Fg):TG:=λv σ H Q=>∃F ρ fp x fx,Stt M.K n F H σ ρ fp/\Res M.K F H v x fx/\(∀a∈fx,a∉fp)/\aq M H (fp++fx) (OkG M n is F H (fp++fx) σ Q) (f x ρ)
def tGs (M:Mx) (n:Nat) (is:List Nat) (f:Fgs):TGs:=λvs σ H Q=>∃F ρ fp xs fx,Stt M.K n F H σ ρ fp/\ResL M.K F H vs xs fx/\(∀a∈fx,a∉fp)/\aq M H (fp++fx) (OkG M n is F H (fp++fx) σ Q) (f xs ρ)
section
variable {M:Mx} {F H F1 H1 F2 H2:Hp}
theorem dF.stp (s:Stp F H fp F1 H1 fp1) (h:dF M n F H fp D o):dF M n F1 H1 fp1 D o:=by
 cases o with
 |nx ρ=>exact fun σ' F' H' fp' a b=>h σ' F' H' fp' a (s.trans b)
 |bk ρ=>exact fun σ' F' H' fp' a b=>h σ' F' H' fp' a (s.trans b)
 |ct ρ=>exact fun σ' F' H' fp' a b=>h σ' F' H' fp' a (s.trans b)
 |rt x=>exact λv F' H' fx a b c=>h v F' H' fx a b (s.trans c)
theorem PostS.stp (s:Stp F H fp F1 H1 fp1) (h:aq M H fp (dF M n F H fp D) r):aq M H1 fp1 (dF M n F1 H1 fp1 D) r:=(h.stp s).mono λo ho=>ho.stp s
theorem Ext.stpN (e:Ext F H F1 H1) (w:∀a∈fx,H a=none):Stp F H fp F1 H1 (fp++fx) :=
 ⟨e.ff,λa o h _=>e.hh a o h,λa m=>(Z5.mp m).elim .inl λm=>.inr (w a m),λa h _ z=>e.nw a h z⟩
theorem Stp.sub (s:Stp F H fp F1 H1 fp1) (h:∀a∈fp2,a∈fp1):Stp F H fp F1 H1 fp2:=⟨s.ff,s.keep,λa m=>s.new a (h a m),s.nw⟩
theorem Gy (h:tS M n sNx D σ H):FK D σ H:=by
 obtain ⟨F,ρ,fp,S,p⟩:=h;exact p σ F H fp S Stp.refl
theorem KJ {f g:Fs} (h:tS M n (aw f g) D σ H):LH (tS M n f) (tS M n g) D σ H:=by
 obtain ⟨F,ρ,fp,S,p⟩:=h;refine ⟨F,ρ,fp,S,(aq.bind p).mono λo po=>?_⟩
 cases o with
 |nx ρ1=>exact fun σ' F' H' fp' S' st=>⟨F',ρ1,fp',S',PostS.stp st po⟩
 |bk ρ=>exact po
 |ct ρ=>exact po
 |rt x=>exact po
theorem Ku (h:tS M n p7 D σ H):uQ D σ H:=by
 obtain ⟨F,ρ,fp,S,p⟩:=h;exact p
theorem Kx {f g:Fs} (h:tS M n (sIf t f g) D σ H):LR (tT M n t) (tS M n f) (tS M n g) D σ H:=by
 obtain ⟨F,ρ,fp,S,p⟩:=h;refine ⟨F,ρ,fp,S,(aq.bind p).mono λc pc F1 H1 e1=>?_⟩
 cases c with
 |true =>
  rw [N1 rfl]at pc ⊢;exact ⟨F1,ρ,fp,S.ext e1,PostS.stp e1.stp pc⟩
 |false =>
  rw [N2 Zo]at pc ⊢;exact ⟨F1,ρ,fp,S.ext e1,PostS.stp e1.stp pc⟩
theorem Gm (h:tS M n (cU a) D σ H):nF (tD M n a) D σ H:=by
 obtain ⟨F,ρ,fp,S,p⟩:=h;exact ⟨F,ρ,fp,S,(aq.bind p).mono λx px v F1 H1 fx e1 r1 w1=>px σ F1 H1 fp (S.ext e1) e1.stp⟩
theorem JY (h:tS M n (aI a) D σ H):CV (tD M n a) D σ H:=by
 obtain ⟨F,ρ,fp,S,p⟩:=h;exact ⟨F,ρ,fp,S,(aq.bind p).mono λx px v F1 H1 fx e1 r1 w1=>px v F1 H1 fx e1.fh r1 ((e1.stpN w1).sub λa m=>Zt _ m)⟩
theorem GN (h:tS M n (ly i) D σ H):CV (fm i) D σ H:=by
 obtain ⟨F,ρ,fp,S,p⟩:=h;unfold ly at p;split at p
 ·rename_i x e
  obtain ⟨v,f,g1,g2,h1,h2,rfl,h4⟩:=S.own.at e;have sub:∀a∈f,a∈g1++(f++g2):=λa m=>Zt _ (Zm _ m)
  refine ⟨v,h1,p v F H f S.same ⟨h2,?_,λa m=>S.fr a (sub a m)⟩ (Stp.refl.sub sub)⟩
  have nd:=S.nd;simp only [Yx]at nd;exact nd.2.1.1
 ·exact p.elim
theorem JX {g:Fg} (h:tS M n (LW a g) D σ H):sY (tD M n a) (tG M n is g) D σ H:=by
 obtain ⟨F,ρ,fp,S,p⟩:=h;refine ⟨F,ρ,fp,S,(aq.bind p).mono λx px v F1 H1 fx e1 r1 w1=>?_⟩
 have st:=e1.stpN (fp:=fp) w1;refine ⟨F1,ρ,fp,x,fx,S.ext e1,r1,λa m q=>?_,((aq.bind px).stp st).mono fun ρ' hρ σ' F' H' fp' S' s' _=>hρ σ' F' H' fp' S' (st.trans s')⟩
 obtain ⟨o,z⟩:=S.own.dom a q;rw [w1 a m]at z;cases z
theorem AO (hi:i<n) (h:tG M n [i] (gNm i) v σ H Q):si i v σ H Q:=by
 obtain ⟨F,ρ,fp,x,fx,S,r,d,p⟩:=h;obtain ⟨fp',S',sub⟩:=S.set hi r d;refine p _ F H fp' S' ⟨ax.refl _,λ_ _ h _=>h,λa m=>.inl (Z5.mpr (sub a m)),λ_ _ _ z=>z⟩ λj hj=>?_
 have hne:i≠j:=by
  rintro rfl;exact hj (by simp)
 rw [Yi hne]
theorem LB (h:tGs M n [] fP vs σ H Q):J3 vs σ H Q:=by
 obtain ⟨F,ρ,fp,xs,fx,S,r,d,p⟩:=h;cases xs with
 |nil =>
  cases r.own with
  |nil=>exact ⟨rfl,p σ F H fp S (Stp.refl.sub λa m=>Zm _ m) λ_ _=>rfl⟩
 |cons x xs=>exact p.elim
theorem Ir {g:Fg} (h:tGs M n (is++js) (aZ g gs) vs σ H Q):E6 (tG M n is g) (tGs M n js gs) vs σ H Q:=by
 obtain ⟨F,ρ,fp,xs,fx,S,r,d,p⟩:=h;cases xs with
 |nil=>exact p.elim
 |cons x xs =>
  obtain ⟨ro,rn,rf⟩:=r;cases ro with
  |@cons v _ f vs _ g' h1 h2 =>
   have nd:=rn;simp only [Yx]at nd;refine ⟨v,vs,rfl,F,ρ,fp,x,f,S,⟨h1,nd.1,λa m=>rf a (Zm _ m)⟩,λa m=>d a (Zm _ m),?_⟩
   have p':aq M H (fp++(f++g')) _ ((g x ρ).bind fun ρ'=>gs xs ρ'):=p
   have s0:Stp F H (fp++(f++g')) F H (fp++f):=Stp.refl.sub λa m=>by
    simp only [Z5]at m ⊢;rcases m with m | m
    ·exact .inl m
    ·exact .inr (.inl m)
   refine ((aq.bind p').stp s0).mono fun ρ1 p1 σ1 F1 H1 fp1 S1 s1 t1=>?_
   have gd:∀a∈g',a∉fp++f:=λa m q=>by
    rcases Z5.mp q with q | q
    ·exact d a (Zt _ m) q
    ·exact nd.2.2 a q a m rfl
   have hd:∀a∈g',H a≠none:=λa m=>let ⟨_,q⟩:=h2.dom a m;bg q
   have k1:∀a∈g',∀o,H a=some o->H1 a=some o:=λa m o q=>s1.keep a o q (gd a m)
   have out:∀a∈g',a∉fp1:=λa m=>s1.out (hd a m) (gd a m)
   have s2:Stp F H (fp++(f++g')) F1 H1 (fp1++g'):=⟨s1.ff,λa o q m=>s1.keep a o q (λz=>m (by simp only [Z5]at z ⊢;rcases z with z | z <;> simp [z])),λa m=>by
    rcases Z5.mp m with m | m
    ·rcases s1.new a m with z | z
     ·exact .inl (by simp only [Z5]at z ⊢;rcases z with z | z <;> simp [z])
     ·exact .inr z
    ·exact .inl (by simp [m]),λa q m z=>s1.nw a q (λw=>m (by simp only [Z5]at w ⊢;rcases w with w | w <;> simp [w])) z⟩
   refine ⟨F1,ρ1,fp1,xs,g',S1,⟨h2.mono s1.ff k1,nd.2.1,λa m=>s1.nw a (hd a m) (gd a m) (rf a (Zt _ m))⟩,out,(p1.stp s2).mono fun ρ' hρ σ' F' H' fp' S' s' t'=>hρ σ' F' H' fp' S' (s2.trans s') λj hj=>?_⟩
   have hj1:j∉is:=λz=>hj (Zm _ z)
   have hj2:j∉js:=λz=>hj (Zt _ z)
   rw [t' j hj2,t1 j hj1]
theorem Lz (h:tG M n is (gTp k gs) v σ H Q):Kd M.K k (tGs M n is gs) v σ H Q:=by
 obtain ⟨F,ρ,fp,x,fx,S,r,d,p⟩:=h;unfold gTp at p;split at p
 ·rename_i xs
  obtain ⟨ro,rn,rf⟩:=r;cases ro with
  |@ot a vs _ f h1 h2 =>
   by_cases hl:xs.length=k
   ·rw [N1 hl]at p
    have nd:=Xn.mp rn;have s0:Stp F H (fp++(a :: f)) F H (fp++f):=Stp.refl.sub λb m=>by
     simp only [Z5,Xz]at m ⊢;rcases m with m | m <;> simp [m]
    exact ⟨a,vs,rfl,SqT.of h1,by rw [h2.len];exact hl,F,ρ,fp,xs,f,S,⟨h2,nd.2,λb m=>rf b (Zs _ m)⟩,λb m=>d b (Zs _ m),(p.stp s0).mono fun ρ' hρ σ' F' H' fp' S' s' t'=>hρ σ' F' H' fp' S' (s0.trans s') t'⟩
   ·rw [N2 hl]at p
    exact p.elim
 ·rename_i ds
  obtain ⟨ro,rn,rf⟩:=r;cases ro with
  |sh q =>
   by_cases hl:ds.length=k
   ·rw [N1 hl]at p
    cases q with
    |@tup a vs _ h1 h2 =>
     exact ⟨a,vs,rfl,SqT.of (S.same _ _ h1),by rw [RepAll.len h2];exact hl,F,ρ,fp,ds.map OD.sh,[],S,⟨OwnL.shs h2,Y0,λ_ m=>by cases m⟩,(λ_ m=>by cases m),p⟩
   ·rw [N2 hl]at p
    exact p.elim
 ·exact p.elim
theorem Fd (hi:i<n) (h:tS M n (aH i a) D σ H):sY (tD M n a) (si i) D σ H:=by
 have h':tS M n (LW a (gNm i)) D σ H:=h;obtain ⟨F,ρ,fp,S,p⟩:=JX (is:=[i]) h';exact ⟨F,ρ,fp,S,p.mono λx px v F1 H1 fx e1 r1 w1=>AO hi (px v F1 H1 fx e1 r1 w1)⟩
theorem LO (h:tS M n (rA i f) D σ H):tS M n f D σ H:=by
 obtain ⟨F,ρ,fp,S,p⟩:=h;unfold rA Bm at p;split at p
 ·rename_i x e
  obtain ⟨v,f,g1,g2,h1,h2,rfl,h4⟩:=S.own.at e;have ff:∀a∈f,F a=none:=λa m=>S.fr a (Zt _ (Zm _ m))
  have o:=h4 (kQ F H f) H (dj ff) (λ_ _ _ q=>q) v (.sh x.er) [] (.sh (h2.frz (dj ff) λa m o q=>by rw [gW m];exact q))
  have hs:σ.set i (some v)=σ:=by
   apply Yo
   intro j;by_cases hj:i=j
   ·subst hj
    rw [h1,Ym (ZA.mp h1).1]
   ·rw [Yi hj]
  rw [hs]at o;have nd:=S.nd;simp only [Yx,Z5]at nd;obtain ⟨n1,⟨n2,n3,n4⟩,n5⟩:=nd;have sub:∀a∈g1++([]++g2),a∈g1++(f++g2)/\a∉f:=λa m=>by
   simp only [Yf,Z5]at m ⊢;rcases m with m | m
   ·exact ⟨.inl m,λz=>n5 a m a (.inl z) rfl⟩
   ·exact ⟨.inr (.inr m),λz=>n4 a z a m rfl⟩
  have st:Stp F H (g1++(f++g2)) (kQ F H f) H (g1++([]++g2)):=⟨dj ff,λ_ _ h _=>h,λa m=>.inl (sub a m).1,λa h m z=>by
   rw [dt λw=>m (Zt _ (Zm _ w))]
   exact z⟩
  refine ⟨kQ F H f,_,_,⟨pG S.same,o,?_,λa m=>?_,by rw [Y3];exact S.len⟩,PostS.stp st p⟩
  ·simp only [Yf,Yx]
   exact ⟨n1,n3,λa ha b hb=>n5 a ha b (.inr hb)⟩
  ·rw [dt (sub a m).2]
   exact S.fr a (sub a m).1
 ·exact ⟨F,ρ,fp,S,p⟩
end
def Walks (K:At) (F:Hp) (J:It) (ds:List Gc):Prop:=∀i G H,ax F G->ax G H ->
 (∀d,ds[i]?=some d->J.go i H/\∀x H',J.yld i H x H'->∃G',Ext G H G' H'/\Rep K G' x d)/\(ds.length<=i->J.stop i H)
def OkI (K:At) (F H:Hp) (R:It->Hp->Prop) (ds:List Gc):Prop:=∀J F' H',Ext F H F' H'->Walks K F' J ds->R J H'
def tI (M:Mx) (n:Nat) (f:Fi):TI:=fun σ H R=>∃F ρ fp,Stt M.K n F H σ ρ fp/\aq M H fp (OkI M.K F H R) (f ρ)
section
variable {M:Mx} {F H:Hp}
theorem Iv (h:tI M n (dg a) σ H R'):FX M.K (tD M n a) σ H R':=by
 obtain ⟨F,ρ,fp,S,p⟩:=h;refine ⟨F,ρ,fp,S,(aq.bind p).mono λx px v F1 H1 fx e1 r1 w1=>?_⟩
 obtain ⟨G1,d1,k1⟩:=r1.frz e1 w1;generalize x.er=d at px k1
 cases k1 with
 |@lst a vs ds h1 h2 =>
  refine ⟨a,rfl,⟨vs,(h1.same d1.fh).sq⟩,px _ G1 H1 d1 λi G H' s1 s2=>?_⟩
  have hq:=(h1.same (s1.trans s2)).sq;refine ⟨λd hd=>?_,λhl=>⟨vs,hq,by rw [RepAll.len h2];exact hl⟩⟩
  obtain ⟨u,hu,ru⟩:=RepAll.get h2 hd;refine ⟨⟨vs,u,hq,hu⟩,λx H2 y=>?_⟩
  obtain ⟨rfl,y⟩:=y;have hx:=y vs hq;rw [hu]at hx;cases hx;exact ⟨G,Ext.refl s2,ru.same s1⟩
 |non=>exact px.elim
 |bl _=>exact px.elim
 |int _=>exact px.elim
 |str _=>exact px.elim
 |dct _ _ _=>exact px.elim
 |ins _ _ _=>exact px.elim
 |tup _ _=>exact px.elim
theorem qR {K:At} (lo:Int) (k:Nat):Walks K F (Itr lo k) (l7 lo k):=by
 intro i G H s1 s2;unfold l7;refine ⟨λd hd=>?_,λhl=>(show k<=i by simpa using hl)⟩
 rw [Zx]at hd;obtain ⟨j,hj,rfl⟩:=ZB.mp hd;obtain ⟨h1,h2⟩:=ZA.mp hj;have h3:i=j:=by simpa using h2
 subst h3;refine ⟨(show i<k by simpa using h1),λx H' y=>?_⟩
 obtain ⟨rfl,rfl⟩:=y;exact ⟨G,Ext.refl s2,.int _⟩
theorem gT:aL i=true ↔ -(2 ^ 62)<=i/\i<2 ^ 62:=by
 unfold aL;rw [Yy,Zk,Zk]
theorem ML (h:tI M n (iR1 a) σ H R'):Fp (tA M n (aa a ag)) σ H R':=by
 obtain ⟨F,ρ,fp,S,p⟩:=h;refine ⟨F,ρ,fp,S,?_⟩;have p1:=aq.bind p;show aq M H fp _ ((a ρ).bind λx=>R.ok [x])
 cases ha:a ρ with
 |bad=>rw [ha]at p1;exact p1
 |ex c=>rw [ha]at p1;exact p1
 |ok x =>
  rw [ha]at p1;intro vs F1 H1 fx e1 r1 w1;obtain ⟨G1,d1,k1⟩:=r1.frz e1 w1;cases k1 with
  |@cons v _ _ _ k1 k2 =>
   cases k2;have p2:aq M H fp (OkI M.K F H R') (match x.er with | .int j=>if aL j=true then .ok (l7 0 j.toNat) else .bad | _=>.bad):=p1
   generalize x.er=d at p2 k1
   cases k1 with
   |int j =>
    by_cases hs:aL j=true
    ·have hs':=gT.mp hs
     have p3:aq M H fp (OkI M.K F H R') (if aL j=true then .ok (l7 0 j.toNat) else .bad):=p2
     rw [N1 hs]at p3;exact ⟨j,rfl,hs'.1,hs'.2,p3 _ G1 H1 d1 (qR _ _)⟩
    ·have p3:aq M H fp (OkI M.K F H R') (if aL j=true then .ok (l7 0 j.toNat) else .bad):=p2
     rw [N2 hs]at p3;exact p3.elim
   |non=>exact p2.elim
   |bl _=>exact p2.elim
   |str _=>exact p2.elim
   |dct _ _ _=>exact p2.elim
   |ins _ _ _=>exact p2.elim
   |lst _ _=>exact p2.elim
   |tup _ _=>exact p2.elim
theorem u0 {g:Gc->Gc->R (List Gc)} (p:aq M H fp (OkI M.K F H R') ((a ρ).bind λx=>(b ρ).bind λy=>g x.er y.er)) (k:∀v w dx dy G H1,Ext F H G H1->Rep M.K G v dx->Rep M.K G w dy->aq M H fp (OkI M.K F H R') (g dx dy)->QL [v,w] H1) :
  aq M H fp (OkL M F H QL) (aa a (aa b ag) ρ):=by
 show aq M H fp _ ((a ρ).bind λx=>((b ρ).bind λy=>R.ok [y]).bind λxs=>R.ok (x :: xs))
 have p1:=aq.bind p;cases ha:a ρ with
 |bad=>rw [ha]at p1;exact p1
 |ex c=>rw [ha]at p1;exact p1
 |ok x =>
  rw [ha]at p1;have p2:aq M H fp _ (b ρ):=aq.bind p1;show aq M H fp _ (((b ρ).bind λy=>R.ok [y]).bind λxs=>R.ok (x :: xs))
  cases hb:b ρ with
  |bad=>rw [hb]at p2;exact p2
  |ex c=>rw [hb]at p2;exact p2
  |ok y =>
   rw [hb]at p2;intro vs F1 H1 fx e1 r1 w1;obtain ⟨G1,d1,k1⟩:=r1.frz e1 w1;cases k1 with
   |@cons v _ _ _ k1 k2 =>
    cases k2 with
    |@cons w _ _ _ k2 k3 =>
     cases k3;exact k v w x.er y.er G1 H1 d1 k1 k2 p2
def r2F (x y:Gc):R (List Gc):=match x,y with
 |.int i,.int j=>if (aL i && aL j)=true then .ok (l7 i (j-i).toNat) else .bad
 |_,_=>.bad
theorem Np (h:tI M n (iR2 a b) σ H R'):Fu (tA M n (aa a (aa b ag))) σ H R':=by
 obtain ⟨F,ρ,fp,S,p⟩:=h;refine ⟨F,ρ,fp,S,u0 (g:=r2F) (by unfold iR2 at p;exact p) λv w dx dy G H1 e rv rw' q=>?_⟩
 unfold r2F at q;split at q
 ·rename_i i j
  cases rv;cases rw';by_cases hs:(aL i && aL j)=true
  ·rw [N1 hs]at q
   rw [Yy]at hs;have h1:=gT.mp hs.1;have h2:=gT.mp hs.2;exact ⟨i,j,rfl,⟨h1.1,h1.2,h2.1,h2.2⟩,q _ G H1 e (qR _ _)⟩
  ·rw [N2 hs]at q
   exact q.elim
 ·exact q.elim
theorem rY {ds:List Gc} {i:Nat} {d:Gc} (h:(dn ds)[i]?=some d):∃e,ds[i]?=some e/\d=.tuple [.int i,e]:=by
 unfold dn at h;rw [Zx]at h;obtain ⟨p,hp,rfl⟩:=ZB.mp h;rw [X3]at hp;obtain ⟨e,he,rfl⟩:=ZB.mp hp;exact ⟨e,he,by simp⟩
theorem HN (h:tI M n (iEn a) σ H R'):Fj M.K (tA M n (aa a ag)) σ H R':=by
 obtain ⟨F,ρ,fp,S,p⟩:=h;refine ⟨F,ρ,fp,S,?_⟩;have p1:=aq.bind p;show aq M H fp _ ((a ρ).bind λx=>R.ok [x])
 cases ha:a ρ with
 |bad=>rw [ha]at p1;exact p1
 |ex c=>rw [ha]at p1;exact p1
 |ok x =>
  rw [ha]at p1;intro vs F1 H1 fx e1 r1 w1;obtain ⟨G1,d1,k1⟩:=r1.frz e1 w1;cases k1 with
  |@cons v _ _ _ k1 k2 =>
   cases k2;have p2:aq M H fp (OkI M.K F H R') (match x.er with | .list ds=>.ok (dn ds) | _=>.bad):=p1
   generalize x.er=d at p2 k1
   cases k1 with
   |@lst a vs ds h1 h2 =>
    have p3:OkI M.K F H R' (dn ds):=p2;refine ⟨a,rfl,⟨vs,(h1.same d1.fh).sq⟩,p3 _ G1 H1 d1 λi G H' s1 s2=>?_⟩
    have hq:=(h1.same (s1.trans s2)).sq;refine ⟨λd hd=>?_,λhl=>⟨vs,hq,by rw [RepAll.len h2];unfold dn at hl;simpa using hl⟩⟩
    obtain ⟨e,he,rfl⟩:=rY hd;obtain ⟨u,hu,ru⟩:=RepAll.get h2 he;refine ⟨⟨vs,u,hq,hu⟩,λx H2 y=>?_⟩
    obtain ⟨T,z,hT,rfl,rfl,hz⟩:=y;have hx:=hz vs hq;rw [hu]at hx;cases hx;exact ⟨upd G T _,Ext.allocF s2 hT,.tup aE (.cons (.int _) (.cons ((ru.same s1).same ((ax.refl G).upd (s2.free hT))) .nil))⟩
   |int j=>exact p2.elim
   |non=>exact p2.elim
   |bl _=>exact p2.elim
   |str _=>exact p2.elim
   |dct _ _ _=>exact p2.elim
   |ins _ _ _=>exact p2.elim
   |tup _ _=>exact p2.elim
theorem pX {ds es:List Gc} {i:Nat} {d:Gc} (h:(tQ ds es)[i]?=some d):∃x y,ds[i]?=some x/\es[i]?=some y/\d=.tuple [x,y]:=by
 unfold tQ at h;rw [Zx]at h;obtain ⟨p,hp,rfl⟩:=ZB.mp h;rw [List.getElem?_zip_eq_some]at hp;exact ⟨p.1,p.2,hp.1,hp.2,rfl⟩
theorem Mj {g:Fg} (h:tS M n (fX it g b) D σ H):Kp (tI M n it) (tG M n is g) (tS M n b) D σ H:=by
 obtain ⟨F,ρ,fp,S,p⟩:=h;refine ⟨F,ρ,fp,S,(aq.bind p).mono λds pd J F1 H1 e1 wk=>?_⟩
 refine ⟨λi m σ' H'=>m=ds.length-i/\i<=ds.length/\∃F' ρ' fp',Stt M.K n F' H' σ' ρ' fp'/\ax F1 F'/\aq M H' fp' (dF M n F' H' fp' D) (bw g b (ds.drop i) ρ'),⟨ds.length,by simp,Y1 _,F1,ρ,fp,S.ext e1,ax.refl _,PostS.stp e1.stp pd⟩,?_⟩
 rintro i m σ' H' ⟨rfl,hi,F',ρ',fp',S',s',p'⟩;obtain ⟨w1,w2⟩:=wk i F' H' s' S'.same;by_cases hlt:i<ds.length
 ·obtain ⟨d,hd⟩:∃d,ds[i]?=some d:=⟨ds[i],by simp [hlt]⟩
  obtain ⟨g1,g2⟩:=w1 d hd;have e:ds.drop i=d :: ds.drop (i+1):=by
   rw [Wx hlt];congr 1
   have:=(ZA.mp hd).2;exact this
  rw [e]at p';refine .inr ⟨g1,fun σ2 H2=>∃F2 ρ2 fp2,Stt M.K n F2 H2 σ2 ρ2 fp2/\ax F1 F2/\aq M H2 fp2 (dF M n F2 H2 fp2 D) (bw g b (ds.drop (i+1)) ρ2),fun σ2 H2 q=>⟨ds.length-(i+1),by lia,rfl,hlt,q⟩,λx H2 y=>?_⟩
  obtain ⟨G2,e2,rx⟩:=g2 x H2 y;have p2:aq M H' fp' _ ((g (.sh d) ρ').bind fun ρ1=>(b ρ1).bind λo=>match o with
   |.nx ρ2=>bw g b (ds.drop (i+1)) ρ2
   |.ct ρ2=>bw g b (ds.drop (i+1)) ρ2
   |.bk ρ2=>.ok (.nx ρ2)
   |.rt x=>.ok (.rt x)):=p'
  have st:Stp F' H' fp' G2 H2 (fp'++[]):=by
   rw [Zc];exact e2.stp
  refine ⟨G2,ρ',fp',.sh d,[],S'.ext e2,Res.sh rx,(λ_ m=>by cases m),((aq.bind p2).stp st).mono fun ρ1 p1 σ3 F3 H3 fp3 S3 s3 _=>?_⟩
  have s4:=st.trans s3;refine ⟨F3,ρ1,fp3,S3,((aq.bind p1).stp s4).mono λo po=>?_⟩
  cases o with
  |nx ρ2=>exact fun σ5 F5 H5 fp5 S5 s5=>⟨F5,ρ2,fp5,S5,(s'.trans s4.ff).trans s5.ff,PostS.stp (s4.trans s5) po⟩
  |ct ρ2=>exact fun σ5 F5 H5 fp5 S5 s5=>⟨F5,ρ2,fp5,S5,(s'.trans s4.ff).trans s5.ff,PostS.stp (s4.trans s5) po⟩
  |bk ρ2=>exact fun σ5 F5 H5 fp5 S5 s5=>po σ5 F5 H5 fp5 S5 (s4.trans s5)
  |rt x=>exact λv F5 H5 fx a r s5=>po v F5 H5 fx a r (s4.trans s5)
 ·have e:i=ds.length:=by lia
  subst e;refine .inl ⟨w2 (Zi _),?_⟩;rw [List.drop_length]at p';exact p' σ' F' H' fp' S' Stp.refl
theorem D2 (h:tS M n (dM t b) D σ H):Bi (tT M n t) (tS M n b) D σ H:=by
 obtain ⟨F,ρ,fp,S,p⟩:=h;unfold dM at p;split at p
 ·rename_i hn
  refine ⟨λm σ' H'=>∃F' ρ' fp',Stt M.K n F' H' σ' ρ' fp'/\aq M H' fp' (dF M n F' H' fp' D) (dh t b m ρ'),⟨_,F,ρ,fp,S,p⟩,?_⟩
  rintro m σ' H' ⟨F',ρ',fp',S',p'⟩;cases m with
  |zero=>exact p'.elim
  |succ m =>
   have p2:aq M H' fp' _ ((t ρ').bind λc=>if c=true then (b ρ').bind λo=>match o with
    |.nx ρ2=>dh t b m ρ2
    |.ct ρ2=>dh t b m ρ2
    |.bk ρ2=>.ok (.nx ρ2)
    |.rt x=>.ok (.rt x) else .ok (.nx ρ')):=p'
   refine ⟨F',ρ',fp',S',(aq.bind p2).mono λc pc F1 H1 e1=>?_⟩
   cases c with
   |true =>
    rw [N1 rfl]at pc ⊢;refine ⟨fun σ2 H2=>∃F2 ρ2 fp2,Stt M.K n F2 H2 σ2 ρ2 fp2/\aq M H2 fp2 (dF M n F2 H2 fp2 D) (dh t b m ρ2),fun σ2 H2 q=>⟨m,Xg _,q⟩,F1,ρ',fp',S'.ext e1,((aq.bind pc).ext e1).mono λo po=>?_⟩
    cases o with
    |nx ρ2=>exact fun σ5 F5 H5 fp5 S5 s5=>⟨F5,ρ2,fp5,S5,PostS.stp (e1.stp.trans s5) po⟩
    |ct ρ2=>exact fun σ5 F5 H5 fp5 S5 s5=>⟨F5,ρ2,fp5,S5,PostS.stp (e1.stp.trans s5) po⟩
    |bk ρ2=>exact fun σ5 F5 H5 fp5 S5 s5=>po σ5 F5 H5 fp5 S5 (e1.stp.trans s5)
    |rt x=>exact λv F5 H5 fx a r s5=>po v F5 H5 fx a r (e1.stp.trans s5)
   |false =>
    rw [N2 Zo]at pc ⊢;exact pc σ' F1 H1 fp' (S'.ext e1) e1.stp
 ·exact p.elim
end
section
variable {F H F1 H1:Hp} {ρ:Env} {fp:List Is} {K:At}
theorem OwnS.nones {K:At}:∀(k:Nat) {σ:St} {ρ:Env} {g:List Is},OwnS K F H σ ρ g->OwnS K F H (replicate k none++σ) (replicate k none++ρ) g
 |0,_,_,_,h=>h
 |k+1,_,_,_,h=>by
  rw [Yd,Yd];exact .no (OwnS.nones k h)
theorem OwnS.one (S:OwnS K F H σ ρ fp) (i:Nat):∃f,(∀a∈f,a∈fp)/\(fp.Nodup->f.Nodup)/\∀{σ':St} {ρ':Env} {g:List Is},OwnS K F H σ' ρ' g->OwnS K F H ((σ[i]?).join :: σ') ((ρ[i]?).join :: ρ') (f++g):=by
 cases e:ρ[i]? with
 |none=>exact ⟨[],(λ_ m=>by cases m),λ_=>Y0,λh=>.no h⟩
 |some o =>
  cases o with
  |none=>exact ⟨[],(λ_ m=>by cases m),λ_=>Y0,λh=>.no h⟩
  |some x =>
   obtain ⟨v,f,g1,g2,h1,h2,rfl,h4⟩:=S.at e;refine ⟨f,λa m=>Zt _ (Zm _ m),λnd=>?_,λh=>?_⟩
   ·simp only [Yx]at nd
    exact nd.2.1.1
   ·rw [h1]
    exact .yes h2 h
def shE (ρ:Env):Env:=ρ.map λo=>match o with
 |some (.sh d)=>some (.sh d)
 |_=>none
theorem OwnS.shE {g:List Is} (S:OwnS K F H σ ρ g):OwnS K F H σ (L3.shE ρ) []:=by
 induction S with
 |nil=>exact .nil
 |no r ih=>exact .no ih
 |yes h r ih =>
  cases h with
  |sh h=>exact .yes (f:=[]) (.sh h) ih
  |ol _ _=>exact .no ih
  |ot _ _=>exact .no ih
  |od _ _ _=>exact .no ih
  |oi _ _ _=>exact .no ih
  |pl _ _=>exact .no ih
theorem OwnS.pick3:∀(is:List Nat) {σ:St} {ρ:Env},OwnS K F H σ ρ []->OwnS K F H (is.map λi=>(σ[i]?).join) (is.map λi=>(ρ[i]?).join) []
 |[],_,_,_=>.nil
 |i :: is,_,_,S=>by
  obtain ⟨f,h1,_,h3⟩:=S.one i;have hf:f=[]:=by
   cases f with
   |nil=>rfl
   |cons a f=>exact absurd (h1 a Zz) (by simp)
  subst hf;exact h3 (OwnS.pick3 is S)
theorem vI:∀(k:Nat) {σ0 σ2:St},σ2.length=k+σ0.length->(∀j,k<=j->σ2[j]?=(replicate k none++σ0)[j]?)->g9 (replicate k none++σ0) σ2
 |0,σ0,σ2,hl,h=>by
  have e:σ2=σ0:=Yo λj=>by simpa using h j (Y1 _)
  subst e;show g9 σ2 σ2
  clear h hl
  induction σ2 with
  |nil=>trivial
  |cons x r ih =>
   cases x with
   |none=>exact ih
   |some v=>exact ⟨rfl,ih⟩
 |k+1,σ0,[],hl,h=>by simp at hl;lia
 |k+1,σ0,x :: σ2,hl,h=>by
  rw [Yd];refine vI k (by simp at hl;lia) λj hj=>?_
  have:=h (j+1) (by lia)
  simpa [Yd]using this
theorem yy (ρ:Env):∀(is:List Nat),(is.map λi=>((shE ρ)[i]?).join)=is.map λi=>uF ρ[i]?
 |[]=>rfl
 |i :: is=>by
  rw [Zw,Zw,yy ρ is];congr 1
  unfold shE;rw [Zx];cases ρ[i]? with
  |none=>rfl
  |some o =>
   cases o with
   |none=>rfl
   |some x=>cases x <;> rfl
theorem Stt.block (S:Stt K n F H σ ρ fp) (k:Nat) (outs:List (Nat×Str)):Stt K (k+outs.length) F H (slots k outs σ) (sl3 k (outs.map (·.1)) ρ) []:=by
 refine ⟨S.same,?_,Y0,(λ_ m=>by cases m),by unfold sl3;simp⟩
 have h:=OwnS.nones k (OwnS.pick3 (outs.map (·.1)) S.own.shE);rw [yy,Yu]at h;exact h
theorem tN {α:Type} {r:R α} {P:α->Prop} {β:Type} {g:α->R β} {PP:β->Prop} (p:aq M H fp PP ((tM r).bind g)):∃a,r=.ok a/\aq M H fp PP (g a):=by
 cases r with
 |ok a=>exact ⟨a,rfl,p⟩
 |ex c=>exact p.elim
 |bad=>exact p.elim
theorem BV {g:Fg} (hk:∀j∈is,j<k) (h:tD M n (bu it g t el k (outs.map (·.1))) σ H Q) :
  AX (tI M n it) (tG M (k+outs.length) is g) (tT M (k+outs.length) t) (tD M (k+outs.length) el) k outs σ H Q:=by
 obtain ⟨F,ρ,fp,S,p⟩:=h;refine ⟨F,ρ,fp,S,(aq.bind p).mono λds pd J F1 H1 e1 wk D hD=>?_⟩
 have SB:=(S.ext e1).block k outs;have fD:F1 D=none:=e1.fh.free hD;refine ⟨λi m acc H'=>m=ds.length-i/\i<=ds.length/\∃F' xs fx,H' D=some (.lst acc)/\F' D=none/\Ext F1 H1 F' H'/\ResL M.K F' H' acc xs fx/\(∀a∈fx,H1 a=none/\a≠D) /\
  aq M H fp (OkE M F H Q) ((bH g t el (sl3 k (outs.map (·.1)) ρ) (ds.drop i) xs).bind λxs=>.ok (.ol xs)),⟨ds.length,by simp,Y1 _,F1,[],[],aE,fD,Ext.alloc e1.fh hD,ResL.nil,(λ_ m=>by cases m),pd⟩,?_⟩
 rintro i m acc H' ⟨rfl,hi,F',xs,fx,hacc,fD',e',rx,wx,p'⟩;have S':=SB.ext e';obtain ⟨w1,w2⟩:=wk i F' H' e'.ff e'.fh;by_cases hlt:i<ds.length
 ·obtain ⟨d,hd⟩:∃d,ds[i]?=some d:=⟨ds[i],by simp [hlt]⟩
  obtain ⟨g1,g2⟩:=w1 d hd;have e:ds.drop i=d :: ds.drop (i+1):=by
   rw [Wx hlt];congr 1
   exact (ZA.mp hd).2
  rw [e]at p';have p2:aq M H fp (OkE M F H Q) (((tM (g (.sh d) (sl3 k (outs.map (·.1)) ρ))).bind fun ρ1=>(tM (t ρ1)).bind λb=>if b=true then (tM (el ρ1)).bind λy=>if xs.length<BIG then bH g t el (sl3 k (outs.map (·.1)) ρ) (ds.drop (i+1)) (xs++[y]) else .bad else bH g t el (sl3 k (outs.map (·.1)) ρ) (ds.drop (i+1)) xs).bind λxs=>.ok (.ol xs)):=p'
  have assoc:∀{α β γ:Type} (r:R α) (f:α->R β) (h:β->R γ),(r.bind f).bind h=r.bind λa=>(f a).bind h:=λr f h=>by cases r <;> rfl
  rw [assoc]at p2;obtain ⟨ρ1,hρ1,p3⟩:=tN (P:=λ_=>True) p2
  rw [assoc]at p3;obtain ⟨b,hb,p4⟩:=tN (P:=λ_=>True) p3
  refine .inr ⟨g1,λacc' H2=>∃F2 xs2 fx2,H2 D=some (.lst acc')/\F2 D=none/\Ext F1 H1 F2 H2/\ResL M.K F2 H2 acc' xs2 fx2/\(∀a∈fx2,H1 a=none/\a≠D) /\
   aq M H fp (OkE M F H Q) ((bH g t el (sl3 k (outs.map (·.1)) ρ) (ds.drop (i+1)) xs2).bind λxs=>.ok (.ol xs)),λacc' H2 q=>⟨ds.length-(i+1),by lia,rfl,hlt,q⟩,λx H2 y=>?_⟩
  obtain ⟨G2,e2,rx2⟩:=g2 x H2 y;refine ⟨G2,sl3 k (outs.map (·.1)) ρ,[],.sh d,[],S'.ext e2,Res.sh rx2,(λ_ m=>by cases m),?_⟩
  rw [hρ1];intro σ3 F3 H3 fp3 S3 s3 t3;have e3:Ext G2 H2 F3 H3:=⟨s3.ff,λa o q=>s3.keep a o q (by simp),S3.same,λa q z=>s3.nw a q (by simp) z⟩
  refine ⟨vI k (by rw [S3.own.len,S3.len];simp) λj hj=>t3 j λz=>by have:=hk j z;lia,F3,ρ1,fp3,S3,?_⟩
  rw [hb];intro F4 H4 e4;have e24:Ext F' H' F4 H4:=(e2.trans e3).trans e4;cases b with
  |true =>
   rw [N1 rfl]at p4 ⊢;rw [assoc]at p4;obtain ⟨y,hy,p5⟩:=tN (P:=λ_=>True) p4
   refine ⟨F4,ρ1,fp3,S3.ext e4,?_⟩;rw [hy];intro v F5 H5 fy e5 r5 w5;by_cases hl:xs.length<BIG
   ·rw [N1 hl]at p5
    have e25:=e24.trans e5;have hD5:H5 D=some (.lst acc):=e25.hh _ _ hacc;have fD5:F5 D=none:=e25.nw D (bg hacc) fD';have yD:∀a∈fy,a≠D:=λa m=>by
     rintro rfl;have:=e24.hh _ _ hacc;rw [w5 _ m]at this;cases this
    have rx5:=rx.ext e25;refine ⟨hD5,by rw [rx.own.len];exact tR hl,F5,xs++[y],fx++fy,aE,fD5,⟨e'.ff.trans e25.ff,λa o q=>?_,λa o q=>?_,λa q z=>e25.nw a (e'.hh.dom q) (e'.nw a q z)⟩,⟨?_,?_,?_⟩,?_,p5⟩
    ·rw [av (aG q hD)]
     exact e25.hh _ _ (e'.hh _ _ q)
    ·rw [av (aG q fD5)]
     exact e5.fh _ _ q
    ·have q1:OwnL M.K F5 (upd H5 D (.lst (acc++[v]))) acc xs fx:=rx5.own.mono (ax.refl _) λa m o q=>by
      rw [av (wx a m).2];exact q
     have q2:Own M.K F5 (upd H5 D (.lst (acc++[v]))) v y fy:=r5.own.mono (ax.refl _) λa m o q=>by
      rw [av (yD a m)];exact q
     have q3:=OwnL.app q1 (OwnL.cons q2 .nil);rw [Zc]at q3;exact q3
    ·refine Yx.mpr ⟨rx.nd,r5.nd,λa m b m' z=>?_⟩
     subst z;obtain ⟨o,q⟩:=rx.own.dom a m;have:=e24.hh _ _ q;rw [w5 a m']at this;cases this
    ·intro a m
     rcases Z5.mp m with m | m
     ·exact rx5.fr a m
     ·exact r5.fr a m
    ·intro a m
     rcases Z5.mp m with m | m
     ·exact wx a m
     ·exact ⟨(e'.trans e24).hh.free (w5 a m),yD a m⟩
   ·rw [N2 hl]at p5
    exact p5.elim
  |false =>
   rw [N2 Zo]at p4 ⊢;exact ⟨F4,xs,fx,e24.hh _ _ hacc,e24.nw D (bg hacc) fD',e'.trans e24,rx.ext e24,wx,p4⟩
 ·have e:i=ds.length:=by lia
  subst e;rw [List.drop_length]at p';have q:OkE M F H Q (.ol xs):=p';refine .inl ⟨w2 (Zi _),q (.ref D) F' H' (D :: fx) (e1.trans e') ⟨.ol hacc rx.own,Xn.mpr ⟨λm=>(wx D m).2 rfl,rx.nd⟩,λa m=>?_⟩ λa m=>?_⟩
  ·rcases Xz.mp m with rfl | m
   ·exact fD'
   ·exact rx.fr a m
  ·rcases Xz.mp m with rfl | m
   ·exact e1.hh.free hD
   ·exact e1.hh.free (wx a m).1
theorem CO (o:OwnL K F H vs xs f) (e:xs.all (λy=>flat y.er)=true):OwnL K G H1 vs (xs.map λy=>.sh y.er) []:=by
 induction xs generalizing vs f with
 |nil=>cases o;exact .nil
 |cons x r0 ih =>
 cases o with
 |cons h r =>
  rw [W1,Yy]at e;rw [Zw];refine .cons (f:=[]) (g:=[]) (.sh ?_) (ih r e.2);cases h with
  |sh q =>
   rw [aQ]at e ⊢;exact vC e.1 q
  |ol _ _ =>
   rw [dS]at e;exact absurd e.1 (by simp [flat])
  |ot _ _ =>
   rw [BD]at e;exact absurd e.1 (by simp [flat])
  |od _ _ _ =>
   rw [Ce]at e;exact absurd e.1 (by simp [flat,dD])
  |oi _ _ _ =>
   rw [A0]at e;exact absurd e.1 (by simp [flat,mG])
  |pl _ _ =>
   rw [E5]at e;exact absurd e.1 (by simp [flat])
theorem Jj (h:tD M n (vd fa) σ H Q):tD M n fa σ H Q:=by
 obtain ⟨F,ρ,fp,S,p⟩:=h;refine ⟨H,erase ρ,[],S.erase,(aq.bind p).nofp.mono λx px v F1 H1 fx e1 r1 w1=>?_⟩
 cases x with
 |sh d=>exact px.elim
 |ot xs=>exact px.elim
 |od xs=>exact px.elim
 |oi _ _ _=>exact px.elim
 |pl _ _=>exact px.elim
 |ol xs =>
  have px':aq M H fp (OkE M F H Q) (if xs.all (λy=>flat y.er)=true then .ok (.ol (xs.map λy=>.sh y.er)) else .bad):=px
  by_cases hf:xs.all (λy=>flat y.er)=true
  ·rw [N1 hf]at px'
   obtain ⟨ro,rn,rf⟩:=r1;cases ro with
   |@ol a vs _ f h1 h2 =>
    have na:H a=none:=w1 a Zz;refine px' (.ref a) F H1 [a] ⟨ax.refl _,e1.hh,S.same.trans e1.hh,λ_ _ z=>z⟩ ⟨.ol h1 (CO h2 hf),by simp,λb m=>?_⟩ λb m=>?_
    ·have:b=a:=by simpa using m
     rw [this];exact S.same.free na
    ·have:b=a:=by simpa using m
     rw [this];exact na
  ·rw [N2 hf]at px'
   exact px'.elim
end
section
variable {M:Mx} {F H F1 H1:Hp} {σ:St} {ρ:Env} {K:At}
theorem gz {p f q f':List Is} (h:(p++(f++q)).Nodup) (h':f'.Nodup) (s:∀c∈f',c∈f\/c∉p++(f++q)):(p++(f'++q)).Nodup:=by
 simp only [Yx,Z5]at h s ⊢;obtain ⟨n1,⟨n2,n3,n4⟩,n5⟩:=h;refine ⟨n1,⟨h',n3,λa ha b hb e=>?_⟩,λa ha b hb e=>?_⟩
 ·subst e
  rcases s a ha with z | z
  ·exact n4 a z a hb rfl
  ·exact z (.inr (.inr hb))
 ·subst e
  rcases hb with hb | hb
  ·rcases s a hb with z | z
   ·exact n5 a ha a (.inl z) rfl
   ·exact z (.inl ha)
  ·exact n5 a ha a (.inr hb) rfl
theorem OwnL.at:∀{vs:List V} {xs:List OD} {g:List Is} {i:Nat} {x:OD},OwnL K F H vs xs g->xs[i]?=some x ->
  ∃v f g1 g2,vs[i]?=some v/\Own K F H v x f/\g=g1++(f++g2)/\∀(F' H':Hp),ax F F'->(∀a∈g1++g2,∀o,H a=some o->H' a=some o)->∀v' x' f',Own K F' H' v' x' f'->OwnL K F' H' (vs.set i v') (xs.set i x') (g1++(f'++g2))
 |_,_,_,_,_,.nil,e=>by simp at e
 |_,_,_,0,x,.cons (f:=f) (g:=g) h r,e=>by
  simp at e
  subst e;exact ⟨_,f,[],g,rfl,h,rfl,λF' H' s k v' x' f' o=>OwnL.cons (f:=f') (g:=g) o (r.mono s k)⟩
 |_,_,_,i+1,x,.cons (f:=f0) h r,e=>by
  obtain ⟨v,f,g1,g2,h1,h2,h3,h4⟩:=OwnL.at (i:=i) r (by simpa using e)
  refine ⟨v,f,f0++g1,g2,by simpa using h1,h2,by rw [h3,Yq],λF' H' s k v' x' f' o=>?_⟩
  rw [Yq];exact .cons (h.mono s λa m=>k a (Zm _ (Zm _ m))) (h4 F' H' s (λa m=>k a (by simp at m ⊢;rcases m with m | m <;> simp [m])) v' x' f' o)
theorem kU (h1:σ[i]?=some (some v)):σ.set i (some v)=σ:=by
 apply Yo
 intro j;by_cases hj:i=j
 ·subst hj
  rw [h1,Ym (ZA.mp h1).1]
 ·rw [Yi hj]
theorem Stt.write (S:Stt K n F H σ ρ fp) (hx:ρ[i]?=some (some (.ol xs))) :
  ∃a vs f,σ[i]?=some (some (.ref a))/\H a=some (.lst vs)/\OwnL K F H vs xs f/\f.Nodup/\(∀b∈f,F b=none) /\
   ∀F1 H1 vs' xs' f',Ext F H F1 H1->OwnL K F1 H1 vs' xs' f'->f'.Nodup->(∀b∈f',b∈f\/H b=none)->(∀b∈f',F1 b=none) ->
    ∃fp',Stt K n F1 (upd H1 a (.lst vs')) σ (ρ.set i (some (.ol xs'))) fp'/\Stp F H fp F1 (upd H1 a (.lst vs')) fp'/\(∀b∈fp',b∈fp\/b∈f'):=by
 obtain ⟨v,f0,g1,g2,h1,h2,rfl,h4⟩:=S.own.at hx;cases h2 with
 |@ol a vs _ f ha hv =>
  have nd:=S.nd;have nd':=nd;simp only [Yx,Z5,Y6,Xn,Xz]at nd';obtain ⟨n1,⟨na,n2,n3,n4⟩,n5⟩:=nd';refine ⟨a,vs,f,h1,ha,hv,n2,λb m=>S.fr b (by simp [m]),λF1 H1 vs' xs' f' e o nf sub ff=>?_⟩
  have fa:F1 a=none:=e.nw a (bg ha) (S.fr a (by simp))
  have hne:∀b∈f',b≠a:=λb m=>by
   rintro rfl;rcases sub b m with z | z
   ·exact na (.inl z)
   ·rw [ha]at z
    cases z
  have hs:∀c∈f',c∈f\/c∉(g1++[a])++(f++g2):=λc m=>by
   rcases sub c m with z | z
   ·exact .inl z
   ·refine .inr λw=>?_
    obtain ⟨o,q⟩:=S.own.dom c (by simp at w ⊢;exact w)
    rw [z]at q;cases q
  have nd2:=gz (p:=g1++[a]) (f:=f) (q:=g2) (f':=f') (by simpa using nd) nf hs
  have own:=h4 F1 (upd H1 a (.lst vs')) e.ff (λb m o q=>by
   have:b≠a:=by
    rintro rfl;rcases Z5.mp m with m | m
    ·exact n5 b m b (.inl rfl) rfl
    ·exact na (.inr m)
   rw [av this];exact e.hh _ _ q) (.ref a) (.ol xs') (a :: f') (.ol aE (o.mono (ax.refl _) λb m o q=>by rw [av (hne b m)];exact q))
  rw [kU h1]at own;have frs:∀b∈g1++(a :: f++g2),F1 b=none:=λb m=>let ⟨_,q⟩:=S.own.dom b m;e.nw b (bg q) (S.fr b m)
  refine ⟨g1++(a :: f'++g2),⟨?_,own,by simpa using nd2,λb m=>?_,by rw [Y3];exact S.len⟩,⟨e.ff,λb o q m=>?_,λb m=>?_,λb q m z=>e.nw b q z⟩,λb m=>?_⟩
  ·intro b o q
   rw [av (aG q fa)];exact e.fh _ _ q
  ·simp only [Z5,Xz]at m
   rcases m with m | (rfl | m) | m
   ·exact frs b (by simp [m])
   ·exact fa
   ·exact ff b m
   ·exact frs b (by simp [m])
  ·have:b≠a:=by
    rintro rfl;exact m (by simp)
   rw [av this];exact e.hh _ _ q
  ·simp only [Z5,Xz]at m ⊢
   rcases m with m | (m | m) | m
   ·exact .inl (.inl m)
   ·exact .inl (.inr (.inl (.inl m)))
   ·rcases sub b m with z | z
    ·exact .inl (.inr (.inl (.inr z)))
    ·exact .inr z
   ·exact .inl (.inr (.inr m))
  ·simp only [Z5,Xz]at m ⊢
   rcases m with m | (m | m) | m <;> simp [m]
theorem OwnL.snoc {f g:List Is} (h:OwnL K F H vs xs f) (o:Own K F H v y g):OwnL K F H (vs++[v]) (xs++[y]) (f++g):=by
 have:=OwnL.app h (OwnL.cons o .nil);rw [Zc]at this;exact this
theorem LZ (h:tS M n (nI i a) D σ H):nF (tBM M.K "list" tL (fm i) (e8 (tD M n a) qM)) D σ H:=by
 obtain ⟨F,ρ,fp,S,p⟩:=h;unfold nI at p;split at p
 ·rename_i xs e
  obtain ⟨l,vs,f,h1,h2,h3,nf,ff,wr⟩:=S.write e;refine ⟨_,h1,.inl ⟨rfl,vs,SqL.of h2⟩,F,ρ,fp,S,(aq.bind p).mono λy py v F1 H1 fy e1 r1 w1=>?_⟩
  by_cases hl:xs.length<BIG
  ·rw [N1 hl]at py
   refine ⟨l,vs,v,rfl,rfl,e1.hh _ _ h2,by rw [h3.len];exact tR hl,?_⟩
   have o:OwnL M.K F1 H1 (vs++[v]) (xs++[y]) (f++fy):=(h3.mono e1.ff λb _ o q=>e1.hh _ _ q).snoc r1.own
   obtain ⟨fp',S',st,_⟩:=wr F1 H1 _ _ _ e1 o (Yx.mpr ⟨nf,r1.nd,λb m c m' z=>by
    subst z;obtain ⟨o,q⟩:=h3.dom b m;rw [w1 b m']at q;cases q⟩) (λb m=>(Z5.mp m).elim .inl λm=>.inr (w1 b m)) (λb m=>(Z5.mp m).elim (λm=>let ⟨_,q⟩:=h3.dom b m;e1.nw b (bg q) (ff b m)) (r1.fr b))
   exact py σ F1 _ fp' S' st
  ·rw [N2 hl]at py
   exact py.elim
 ·exact p.elim
theorem OwnL.last (o:OwnL K F H vs xs f) (e:xs.getLast?=some (.sh d)):∃v,vs[vs.length-1]?=some v/\Rep K F v d/\OwnL K F H vs.dropLast xs.dropLast f:=by
 induction xs generalizing vs f with
 |nil=>simp at e
 |cons a0 r0 ih0 =>
 cases o with
 |cons h r =>
  have ih:=ih0 r;cases r with
  |nil =>
   cases h with
   |sh h =>
    simp at e
    subst e;exact ⟨_,rfl,h,.nil⟩
   |ol _ _=>simp at e
   |ot _ _=>simp at e
   |od _ _ _=>simp at e
   |oi _ _ _=>simp at e
   |pl _ _=>simp at e
  |cons h' r =>
   obtain ⟨v,h1,h2,h3⟩:=ih (by simpa using e)
   exact ⟨v,by simpa using h1,h2,.cons h h3⟩
theorem s_pop {g:Fg} (h:tS M n (Aj i g) D σ H):sY (L8 M.K "list" Ka (fm i)) (tG M n is g) D σ H:=by
 obtain ⟨F,ρ,fp,S,p⟩:=h;unfold Aj at p;split at p
 ·rename_i xs e
  split at p
  ·rename_i d hd
   obtain ⟨l,vs,f,h1,h2,h3,nf,ff,wr⟩:=S.write e;obtain ⟨v,v1,v2,v3⟩:=h3.last hd;obtain ⟨fp',S',st,_⟩:=wr F H _ _ f (Ext.refl S.same) v3 nf (λb m=>.inl m) ff
   have st':Stp F H fp F (upd H l (.lst vs.dropLast)) (fp'++[]):=by
    rw [Zc];exact st
   exact ⟨_,h1,.inl ⟨rfl,vs,SqL.of h2⟩,l,vs,v,rfl,rfl,h2,v1,F,_,fp',.sh d,[],S',Res.sh v2,(λ_ m=>by cases m),((aq.bind p).stp st').mono fun ρ' hρ σ' F' H' fp2 S2 s2 _=>hρ σ' F' H' fp2 S2 (st'.trans s2)⟩
  ·exact p.elim
 ·exact p.elim
theorem GX (h:ixN k q=some j):j<k:=by
 unfold ixN at h;split at h
 ·split at h
  ·cases h
   lia
  ·cases h
 ·split at h
  ·cases h
   lia
  ·cases h
theorem KN (h:tS M n (zN i k a) D σ H):sY (tD M n a) (Jk (fm i) (tD M n k) Be) D σ H:=by
 obtain ⟨F,ρ,fp,S,p⟩:=h;unfold zN at p;split at p
 ·rename_i xs e
  refine ⟨F,ρ,fp,S,(aq.bind p).mono λy py v F1 H1 fy e1 r1 w1=>?_⟩
  obtain ⟨l,vs,f,h1,h2,h3,nf,ff,wr⟩:=S.write e;refine ⟨_,h1,F1,ρ,fp,S.ext e1,((aq.bind py).ext e1).mono λz pz u F2 H2 fz e2 r2 w2=>?_⟩
  obtain ⟨G2,d2,k2⟩:=r2.frz e2 w2;generalize z.er=dz at pz k2
  cases dz with
  |int q =>
   cases k2;have pz':aq M H fp (dF M n F H fp D) (match ixN xs.length q with | some j=>.ok (.nx (ρ.set i (some (.ol (xs.set j y))))) | none=>.bad):=pz
   cases hj:ixN xs.length q with
   |none =>
    rw [hj]at pz';exact pz'.elim
   |some j =>
    rw [hj]at pz';have e12:=e1.trans d2;have hjl:=GX hj;refine ⟨l,vs,q,j,rfl,rfl,e12.hh _ _ h2,by rw [h3.len];exact hj,?_⟩
    obtain ⟨x,hx⟩:∃x,xs[j]?=some x:=⟨xs[j],by simp [hjl]⟩
    obtain ⟨v0,f0,g1,g2,b1,b2,b3,b4⟩:=h3.at hx;subst b3;have o:=b4 G2 H2 e12.ff (λb m o q=>e12.hh _ _ q) v y fy (r1.ext d2).own
    have sub:∀b∈g1++(fy++g2),b∈g1++(f0++g2)\/H b=none:=λb m=>by
     simp only [Z5]at m ⊢;rcases m with m | m | m
     ·exact .inl (.inl m)
     ·exact .inr (w1 b m)
     ·exact .inl (.inr (.inr m))
    obtain ⟨fp',S',st,_⟩:=wr G2 H2 _ _ _ e12 o (gz nf r1.nd λc m=>.inr λw=>by
     obtain ⟨o,q⟩:=h3.dom c w;rw [w1 c m]at q;cases q) sub (λb m=>by
      simp only [Z5]at m;rcases m with m | m | m
      ·exact let ⟨_,q⟩:=h3.dom b (by simp [m]);e12.nw b (bg q) (ff b (by simp [m]))
      ·exact (r1.ext d2).fr b m
      ·exact let ⟨_,q⟩:=h3.dom b (by simp [m]);e12.nw b (bg q) (ff b (by simp [m])))
    exact pz' σ G2 _ fp' S' st
  |none=>exact pz.elim
  |bool _=>exact pz.elim
  |str _=>exact pz.elim
  |list _=>exact pz.elim
  |tuple _=>exact pz.elim
  |dict _=>exact pz.elim
 ·exact p.elim
theorem Ld {g:Gc->Gc->R OD} (hi:i<n) (hg:Ok2 M ti g) (h:tS M n (yT i g a) D σ H):LV i (tD M n a) ti D σ H:=by
 obtain ⟨F,ρ,fp,S,p⟩:=h;unfold yT at p;split at p
 ·rename_i d e
  obtain ⟨v,f,g1,g2,h1,h2,h3,h4⟩:=S.own.at e;cases h2 with
  |sh r =>
   refine ⟨v,h1,F,ρ,fp,S,(aq.bind p).mono λy py w F1 H1 fy e1 r1 w1=>?_⟩
   obtain ⟨G1,d1,k1⟩:=r1.frz e1 w1;refine hg v w d y.er G1 H1 fp _ d1.fh (r.same d1.ff) k1 ((aq.ext d1 (aq.bind py)).mono λz pz u F2 H2 fz e2 r2 w2=>?_)
   have e12:=d1.trans e2;obtain ⟨fp',S',sub⟩:=(S.ext e12).set hi r2 λb m q=>by
    obtain ⟨o,z⟩:=S.own.dom b q;rw [d1.hh.free (w2 b m)]at z;cases z
   exact pz _ F2 H2 fp' S' ⟨e12.ff,λb o q _=>e12.hh _ _ q,λb m=>(sub b m).elim .inl λm=>.inr (d1.hh.free (w2 b m)),λb q _ z=>e12.nw b q z⟩
 ·exact p.elim
theorem Stt.write2 (S:Stt K n F H σ ρ fp) (hx:ρ[i]?=some (some o)) (hc:comps o=some (l,xs)) (hj:xs[j]?=some (.ol ys)) :
  ∃a vs b ws f,σ[i]?=some (some (.ref a))/\H a=some (if l=true then .lst vs else .tup vs)/\vs.length=xs.length/\vs[j]?=some (.ref b)/\H b=some (.lst ws)/\OwnL K F H ws ys f/\f.Nodup/\(∀c∈f,F c=none) /\
   ∀F1 H1 ws' ys' f',Ext F H F1 H1->OwnL K F1 H1 ws' ys' f'->f'.Nodup->(∀c∈f',c∈f\/H c=none)->(∀c∈f',F1 c=none) ->
    ∃fp',Stt K n F1 (upd H1 b (.lst ws')) σ (ρ.set i (some (wrap l (xs.set j (.ol ys'))))) fp'/\Stp F H fp F1 (upd H1 b (.lst ws')) fp':=by
 obtain ⟨v,f0,g1,g2,h1,h2,rfl,h4⟩:=S.own.at hx;obtain ⟨a,vs,g,ha,hv,rfl,rfl,mk⟩:∃a vs g,H a=some (if l=true then .lst vs else .tup vs)/\OwnL K F H vs xs g/\v=.ref a/\f0=a :: g/\∀F' H' vs' xs' g',H' a=some (if l=true then .lst vs' else .tup vs')->OwnL K F' H' vs' xs' g'->Own K F' H' (.ref a) (wrap l xs') (a :: g'):=by
  cases h2 with
  |sh r =>
   cases hc
  |od _ _ _ =>
   cases hc
  |oi _ _ _ =>
   cases hc
  |pl _ _ =>
   cases hc
  |@ol a vs _ g ha hv =>
   cases hc;exact ⟨a,vs,g,ha,hv,rfl,rfl,λF' H' vs' xs' g' q r=>.ol q r⟩
  |@ot a vs _ g ha hv =>
   cases hc;exact ⟨a,vs,g,ha,hv,rfl,rfl,λF' H' vs' xs' g' q r=>.ot q r⟩
 obtain ⟨u,f1,k1,k2,b1,b2,b3,b4⟩:=hv.at hj;cases b2 with
 |@ol b ws _ f hb hw =>
  subst b3;have nd:((g1++(a :: (k1++[b])))++(f++(k2++g2))).Nodup:=by simpa using S.nd
  have nd':=nd;simp only [Yx,Z5,Y6,Xn,Xz,Yq,Yf,Wz,or_false]at nd';have inL:∀c,c∈(g1++(a :: (k1++[b])))++(f++(k2++g2)) ↔ c∈g1++(a :: (k1++(b :: f++k2))++g2):=λc=>by simp
  refine ⟨a,vs,b,ws,f,h1,ha,hv.len,b1,hb,hw,?_,λc m=>S.fr c (by simp [m]),λF1 H1 ws' ys' f' e o nf sub ff=>?_⟩
  ·simp only [Yx]at nd
   exact nd.2.1.1
  have hs:∀c∈f',c∈f\/c∉(g1++(a :: (k1++[b])))++(f++(k2++g2)):=λc m=>by
   rcases sub c m with z | z
   ·exact .inl z
   ·refine .inr λw=>?_
    obtain ⟨o,q⟩:=S.own.dom c ((inL c).mp w);rw [z]at q;cases q
  have nd2:=gz nd nf hs;have eq2:(g1++(a :: (k1++[b])))++(f'++(k2++g2))=g1++(a :: (k1++(b :: f'++k2))++g2):=by simp
  have frs:∀c∈g1++(a :: (k1++(b :: f++k2))++g2),F1 c=none:=λc m=>let ⟨_,q⟩:=S.own.dom c m;e.nw c (bg q) (S.fr c m)
  have fb:F1 b=none:=frs b (by simp)
  have nb:∀c,c∈g1\/c=a\/c∈k1\/c∈f'\/c∈k2\/c∈g2->c≠b:=λc hc=>by
   rintro rfl;have nd3:=nd2;simp only [Yq,Y6,Yf]at nd3;have q:(g1++a :: (k1++c :: (f'++(k2++g2))))=(g1++a :: k1)++c :: (f'++(k2++g2)):=by simp
   rw [q,Yx]at nd3;obtain ⟨_,y2,y3⟩:=nd3;rw [Xn]at y2;have y4:∀d,d∈g1++a :: k1->d≠c:=λd hd z=>y3 d hd d (by rw [z];exact Zz) rfl
   rcases hc with h | h | h | h | h | h
   ·exact y4 c (by simp [h]) rfl
   ·exact y4 a (by simp) h.symm
   ·exact y4 c (by simp [h]) rfl
   ·exact y2.1 (by simp [h])
   ·exact y2.1 (by simp [h])
   ·exact y2.1 (by simp [h])
  have hkeep:∀c o,c≠b->H c=some o->upd H1 b (.lst ws') c=some o:=λc o hc q=>by
   rw [av hc];exact e.hh _ _ q
  have o1:Own K F1 (upd H1 b (.lst ws')) (.ref b) (.ol ys') (b :: f'):=.ol aE (o.mono (ax.refl _) λc m o q=>by rw [av (nb c (by simp [m]))];exact q)
  have o2:=b4 F1 (upd H1 b (.lst ws')) e.ff (λc m o q=>hkeep c o (nb c (by simp only [Z5]at m;rcases m with m | m <;> simp [m])) q) _ _ _ o1
  have vb:vs.set j (.ref b)=vs:=by
   apply Yo
   intro t;by_cases ht:j=t
   ·subst ht
    rw [b1,Ym (ZA.mp b1).1]
   ·rw [Yi ht]
  rw [vb]at o2;have o3:=mk F1 (upd H1 b (.lst ws')) vs _ _ (hkeep a _ (nb a (by simp)) ha) o2
  have own:=h4 F1 (upd H1 b (.lst ws')) e.ff (λc m o q=>hkeep c o (nb c (by simp only [Z5]at m;rcases m with m | m <;> simp [m])) q) _ _ _ o3
  rw [kU h1]at own;refine ⟨_,⟨?_,own,by rw [<-eq2];exact nd2,λc m=>?_,by rw [Y3];exact S.len⟩,⟨e.ff,λc o q m=>?_,λc m=>?_,λc q m z=>e.nw c q z⟩⟩
  ·intro c o q
   rw [av (aG q fb)];exact e.fh _ _ q
  ·simp only [Z5,Xz]at m
   rcases m with m | (m | m | (m | m) | m) | m
   ·exact frs c (by simp [m])
   ·exact frs c (by simp [m])
   ·exact frs c (by simp [m])
   ·exact frs c (by simp [m])
   ·exact ff c m
   ·exact frs c (by simp [m])
   ·exact frs c (by simp [m])
  ·have:c≠b:=by
    rintro rfl;exact m (by simp)
   exact hkeep c o this q
  ·simp only [Z5,Xz]at m ⊢
   rcases m with m | (m | m | (m | m) | m) | m
   ·simp [m]
   ·simp [m]
   ·simp [m]
   ·simp [m]
   ·rcases sub c m with z | z
    ·simp [z]
    ·exact .inr z
   ·simp [m]
   ·simp [m]
theorem EF (h:tS M n (ow i k a) D σ H):nF (tBM M.K "list" tL (tOp (u7 M.K) (fm i) (tD M n k)) (e8 (tD M n a) qM)) D σ H:=by
 obtain ⟨F,ρ,fp,S,p⟩:=h;unfold ow at p;split at p
 ·rename_i xs e
  have hc:comps (.ol xs)=some (true,xs):=rfl;obtain ⟨v0,_,_,_,h0,own0,_,_⟩:=S.own.at e;refine ⟨v0,h0,F,ρ,fp,S,(aq.bind p).mono λz pz u F1 H1 fz e1 r1 w1=>?_⟩
  obtain ⟨G1,d1,k1⟩:=r1.frz e1 w1;generalize z.er=dz at pz k1
  cases dz with
  |int q =>
   cases k1;have pz':aq M H fp (dF M n F H fp D) (match ixN xs.length q with
    |some j=>match xs[j]? with
     |some (.ol ys)=>(a ρ).bind λy=>if ys.length<BIG then .ok (.nx (ρ.set i (some (.ol (xs.set j (.ol (ys++[y]))))))) else .bad
     |_=>.bad
    |none=>.bad):=pz
   cases hj:ixN xs.length q with
   |none =>
    rw [hj]at pz';exact pz'.elim
   |some j =>
    rw [hj]at pz';have pz2:aq M H fp (dF M n F H fp D) (match xs[j]? with
     |some (.ol ys)=>(a ρ).bind λy=>if ys.length<BIG then .ok (.nx (ρ.set i (some (.ol (xs.set j (.ol (ys++[y]))))))) else .bad
     |_=>.bad):=pz'
    split at pz2
    ·rename_i ys hy
     obtain ⟨b0,vs,b,ws,f,h1,ha,hl,hb1,hb,hw,nf,ff,wr⟩:=(S.ext d1).write2 e hc hy;rw [h0]at h1;cases h1;have at1:atI vs q=some (.ref b):=by
      unfold atI;rw [hl,hj];exact hb1
     refine ⟨b0,vs,q,.ref b,rfl,rfl,SqL.of ha,at1,.inl ⟨rfl,ws,SqL.of hb⟩,G1,ρ,fp,S.ext d1,((aq.bind pz2).ext d1).mono λy py v F2 H2 fy e2 r2 w2=>?_⟩
     by_cases hlt:ys.length<BIG
     ·rw [N1 hlt]at py
      refine ⟨b,ws,v,rfl,rfl,e2.hh _ _ hb,by rw [hw.len];exact tR hlt,?_⟩
      have o:OwnL M.K F2 H2 (ws++[v]) (ys++[y]) (f++fy):=(hw.mono e2.ff λc _ o q=>e2.hh _ _ q).snoc r2.own
      obtain ⟨fp',S',st⟩:=wr F2 H2 _ _ _ e2 o (Yx.mpr ⟨nf,r2.nd,λc m d m' z=>by
       subst z;obtain ⟨o,q⟩:=hw.dom c m;rw [w2 c m']at q;cases q⟩) (λc m=>(Z5.mp m).elim .inl λm=>.inr (w2 c m)) (λc m=>(Z5.mp m).elim (λm=>let ⟨_,q⟩:=hw.dom c m;e2.nw c (bg q) (ff c m)) (r2.fr c))
      exact py σ F2 _ fp' S' (d1.stp.trans st)
     ·rw [N2 hlt]at py
      exact py.elim
    ·exact pz2.elim
  |none=>exact pz.elim
  |bool _=>exact pz.elim
  |str _=>exact pz.elim
  |list _=>exact pz.elim
  |tuple _=>exact pz.elim
  |dict _=>exact pz.elim
 ·exact p.elim
end
end L3
namespace L3
open PySem L2 PySem.Spec PyProof.Rows
def DE (M:Mx) (X:Cx) (e:M2) (f:Fe):Prop:=X.K=M.K->X.mg=M.mg->PE X e (tD M X.N.length f)
def DT (M:Mx) (X:Cx) (e:M2) (f:Ft):Prop:=X.K=M.K->X.mg=M.mg->PT X e (tT M X.N.length f)
def DW (M:Mx) (X:Cx) (e:M2) (f:Ft):Prop:=X.K=M.K->X.mg=M.mg->PW X e (tT M X.N.length f)
def DA (M:Mx) (X:Cx) (e:List M2) (f:Fa):Prop:=X.K=M.K->X.mg=M.mg->PA X e (tA M X.N.length f)
def DO (M:Mx) (X:Cx) (e:Option M2) (f:Fo):Prop:=X.K=M.K->X.mg=M.mg->PO X e (tO M X.N.length f)
def DI (M:Mx) (X:Cx) (tg e:M2) (f:Fi):Prop:=X.K=M.K->X.mg=M.mg->PI X tg e (tI M X.N.length f)
def DG (M:Mx) (X:Cx) (tg:M2) (is:List Nat) (f:Fg):Prop:=X.K=M.K->X.mg=M.mg->PG X tg (tG M X.N.length is f)
def DGs (M:Mx) (X:Cx) (tg:List M2) (is:List Nat) (f:Fgs):Prop:=X.K=M.K->X.mg=M.mg->PGs X tg (tGs M X.N.length is f)
def DF (M:Mx) (X:Cx) (e:List M2) (f:Ft):Prop:=X.K=M.K->X.mg=M.mg->PF X e (tT M X.N.length f)
def DS (M:Mx) (X:Cx) (st:Ix) (f:Fs):Prop:=X.K=M.K->X.mg=M.mg->PS X st (tS M X.N.length f)
def DSs (M:Mx) (X:Cx) (st:List Ix) (f:Fs):Prop:=X.K=M.K->X.mg=M.mg->PSs X st (tS M X.N.length f)
section
variable {M:Mx} {X:Cx} {e a b c:M2} {pos:Pos}
theorem peI (h:PE X e t) (k:∀σ H Q,t' σ H Q->t σ H Q):PE X e t':=λpins s σ H Q I q=>h pins s σ H Q I (k σ H Q q)
theorem ptI (h:PT X e t) (k:∀σ H Q,t' σ H Q->t σ H Q):PT X e t':=λpins s σ H Q I q=>h pins s σ H Q I (k σ H Q q)
theorem pwI (h:PW X e t) (k:∀σ H Q,t' σ H Q->t σ H Q):PW X e t':=λw pins s σ H Q I q=>h w pins s σ H Q I (k σ H Q q)
theorem paI (h:PA X es t) (k:∀σ H Q,t' σ H Q->t σ H Q):PA X es t':=λps pins s σ H Q I q=>h ps pins s σ H Q I (k σ H Q q)
theorem poI (h:PO X o t) (k:∀σ H Q,t' σ H Q->t σ H Q):PO X o t':=λpins s σ H Q I q=>h pins s σ H Q I (k σ H Q q)
theorem psI {st:Ix} (h:PS X st t) (k:∀D σ H,t' D σ H->t D σ H):PS X st t':=λpins s σ H D I q=>h pins s σ H D I (k D σ H q)
theorem Ha {st:List Ix} (h:PSs X st t) (k:∀D σ H,t' D σ H->t D σ H):PSs X st t':=λpins s σ H D I q=>h pins s σ H D I (k D σ H q)
theorem au (i:Nat) (hN:X.N[i]?=some x:=by rfl) (hv:Vis X.env.scope x:=by first | exact Or.inl rfl | exact Or.inr (Or.inl rfl) | exact Or.inr (Or.inr rfl)) (hd:(x == ("__debug__" : Str))=false:=by decide) (hcd:(x == ("__classdict__" : Str))=false:=by decide):DE M X (.Name x pos) (ae i):=λ_ _=>peI (aK hN hv hd hcd) λ_ _ _ h=>Lq h
theorem mJ {j}:DE M X (.Constant (.int i) j pos) (eC (.int i)):=λ_ _=>peI nW λ_ _ _ h=>d_c (λ_ _=>.int i) h
theorem AF {j}:DE M X (.Constant (.bool i) j pos) (eC (.bool i)):=λ_ _=>peI Kc λ_ _ _ h=>d_c (λ_ _=>.bl i) h
theorem Gx {j}:DE M X (.Constant (.str x) j pos) (eC (.str x)):=λ_ _=>peI BF λ_ _ _ h=>d_c (λ_ _=>.str x) h
theorem nL (hg:Gl X x) (hm:∃t,X.mg x=some (.int i t)) (hd:(x == ("__debug__" : Str))=false:=by decide):DE M X (.Name x pos) (eC (.int i)):=λ_ _ =>
 let ⟨t,e⟩:=hm
 peI (yx (v:=.int i) hg e ⟨t,rfl⟩ hd) λ_ _ _ h=>d_c (λ_ _=>.int i) h
theorem gZ (h:DE M X e fa):DE M X e (eSh fa):=λhK hM=>peI (h hK hM) λ_ _ _ q=>vF q
theorem AJ (h:DE M X e fa):DE M X e (vk fa):=λhK hM=>peI (h hK hM) λ_ _ _ q=>Mr q
theorem D3 (h:DE M X e fa):DE M X e (vd fa):=λhK hM=>peI (h hK hM) λ_ _ _ q=>Jj q
theorem BZ (h:DT M X e ta):DT M X e (rP ta):=λhK hM=>ptI (h hK hM) λ_ _ _ q=>Gr q
theorem mv {g:Gc->Gc->R OD} (ho:OpR X (binaryOp op) r) (hg:X.K=M.K->Ok2 M r g) (ha:DE M X a fa) (hb:DE M X b fb):DE M X (.BinOp a op b pos) (eOp g fa fb):=λhK hM =>
 peI (E9 ho (ha hK hM) (hb hK hM)) λ_ _ _ q=>BQ (hg hK) q
theorem Lo {g:Gc->R OD} (ho:UnR X (unaryOp op) r) (hg:X.K=M.K->Ok1 M r g) (ha:DE M X a fa):DE M X (.UnaryOp op a pos) (eUn g fa):=λhK hM =>
 peI (Lx ho (ha hK hM)) λ_ _ _ q=>Nf (hg hK) q
theorem xg {g:Gc->Gc->R OD} (ho:OpR X (compareOp op) r) (hg:X.K=M.K->Ok2 M r g) (ha:DE M X a fa) (hb:DE M X b fb) (hm:behindInMarks op b=false):DE M X (.Compare a [op] [b] pos) (eOp g fa fb):=λhK hM =>
 peI (D9 ho (ha hK hM) (hb hK hM) hm) λ_ _ _ q=>BQ (hg hK) q
theorem dO {g:Gc->Gc->R OD} (ho:OpR X (compareOp op) r) (hg:X.K=M.K->Ok2 M r g) (ha:DE M X a fa) (hb:DE M X b fb) (hm:behindInMarks op b=false):DT M X (.Compare a [op] [b] pos) (ao (eOp g fa fb)):=λhK hM =>
 ptI (uL ho (ha hK hM) (hb hK hM) hm) fun σ H Q q=>by
  obtain ⟨F,ρ,fp,S,p⟩:=xn q;exact BQ (hg hK) ⟨F,ρ,fp,S,p⟩
theorem CN (h:DE M X e fa) (he:∀whole,isTrue e X.env whole=(do let v <-whole;standAt e.pos;holding [v] (truthy v)):=by intro _;rfl):DT M X e (ao fa):=λhK hM=>ptI (GP (h hK hM) he) λ_ _ _ q=>d_b q
theorem C4 (h:DT M X a ta):DT M X (.UnaryOp .Not a pos) (bA ta):=λhK hM=>ptI (Io (h hK hM)) λ_ _ _ q=>HK q
theorem yo (h:DT M X a ta):DW M X (.BoolOp .And [a] pos) ta:=λhK hM=>Dv (h hK hM)
theorem wI (h:DT M X a ta):DW M X (.BoolOp .Or [a] pos) ta:=λhK hM=>Cp (h hK hM)
theorem Bv {rest:List M2} (h:DT M X a ta) (k:DW M X (.BoolOp .And (b :: rest) pos) tb):DW M X (.BoolOp .And (a :: b :: rest) pos) (oX ta tb):=λhK hM=>pwI (JD (h hK hM) (k hK hM)) λ_ _ _ q=>Hw q
theorem we {rest:List M2} (h:DT M X a ta) (k:DW M X (.BoolOp .Or (b :: rest) pos) tb):DW M X (.BoolOp .Or (a :: b :: rest) pos) (iP ta tb):=λhK hM=>pwI (FO (h hK hM) (k hK hM)) λ_ _ _ q=>KQ q
theorem zi (h:DW M X e ta):DT M X e ta:=λhK hM=>(h hK hM).pt
theorem wY {op} (h:DE M X a fa):DE M X (.BoolOp op [a] pos) fa:=λhK hM=>HE (h hK hM)
theorem A5 {rest:List M2} (h:DE M X a fa) (k:DE M X (.BoolOp .And (b :: rest) pos) fb):DE M X (.BoolOp .And (a :: b :: rest) pos) (jR fa fb):=λhK hM=>peI (GD (h hK hM) (k hK hM)) λ_ _ _ q=>Lg q
theorem Md {rest:List M2} (h:DE M X a fa) (k:DE M X (.BoolOp .Or (b :: rest) pos) fb):DE M X (.BoolOp .Or (a :: b :: rest) pos) (eOr fa fb):=λhK hM=>peI (KA (h hK hM) (k hK hM)) λ_ _ _ q=>MJ q
theorem Gs (h:DE M X a fa):DE M X (.UnaryOp .Not a pos) (zX fa):=λhK hM=>peI (HB (h hK hM)) λ_ _ _ q=>JU q
theorem K0 (h:DT M X c ta) (ha:DE M X a fa) (hb:DE M X b fb):DE M X (.IfExp c a b pos) (eIf ta fa fb):=λhK hM=>peI (Bt (h hK hM) (ha hK hM) (hb hK hM)) λ_ _ _ q=>Nl q
theorem cb:DA M X [] ag:=λ_ _=>paI fW λ_ _ _ q=>CS q
theorem aB (h:DE M X e fa) (r:DA M X es al) (hs:starEach (e :: es) X.env=(false,eval e X.env) :: starEach es X.env:=by rfl):DA M X (e :: es) (aa fa al):=λhK hM=>paI (bB (h hK hM) (r hK hM) hs) λ_ _ _ q=>Eg q
theorem w8 {x1} (h:DA M X es al):DE M X (.Tuple es x1 pos) (cP al):=λhK hM=>peI (CK (h hK hM)) λ_ _ _ q=>L_ q
theorem uw (h:DA M X es al):DE M X (.List es pos) (cK al):=λhK hM=>peI (ub (h hK hM)) λ_ _ _ q=>Mu q
theorem m6:DO M X none oT:=λ_ _=>poI ES λ_ _ _ q=>Dr q
theorem uE (h:DE M X e fa):DO M X (some e) (mX fa):=λhK hM=>poI (Dd (h hK hM)) λ_ _ _ q=>EY q
theorem vZ {g:Gc->Option Int->Option Int->R OD} {lo hi:Option M2} (hr:SlR X r) (hg:X.K=M.K->OkS M r g) (h:DE M X e fa) (hl:DO M X lo fl) (hh:DO M X hi fh) :
  DE M X (.Subscript e (.Slice lo hi none p2) pos) (eSl g fa fl fh):=λhK hM=>peI (Bn hr (h hK hM) (hl hK hM) (hh hK hM)) λ_ _ _ q=>MW (hg hK) q
theorem CM {g:Gc->Gc->R OD} (hr:IxR X r) (hg:X.K=M.K->Ok2 M r g) (ha:DE M X a fa) (hb:DE M X b fb) (hs:jS b):DE M X (.Subscript a b pos) (eOp g fa fb):=λhK hM =>
 peI (su hr (ha hK hM) (hb hK hM) hs) λ_ _ _ q=>BQ (hg hK) q
theorem pW {id:String} {g:List Gc->R OD} (hc:dR X (.builtin id) r) (ho:X.K=M.K->OkC M r g) (hg:Gl X x) (hm:X.mg x=none) (hv:bootBuiltins x=some (.builtin id)) (ha:DA M X (e :: es) al) (hn:x ≠ "__name__" := by decide) (hdb:(x == ("__debug__" : Str))=false:=by decide) (he:starEach (e :: es) X.env=(false,eval e X.env) :: starEach es X.env:=by rfl) (hpl:(backTo pos (starEach es X.env)).any (·.1)=false:=by rfl) :
  DE M X (.Call (.Name x p) (e :: es) [] pos) (eB g al):=λhK hM=>peI (m_ hc hg hm hv (ha hK hM) hn hdb he hpl) λ_ _ _ q=>Ez (ho hK) q
theorem Fx {g:List Gc->R OD} (hc:dR X (.type T) r) (ho:X.K=M.K->OkC M r g) (hg:Gl X x) (hm:X.mg x=none) (hv:bootBuiltins x=some (.type T)) (ha:DA M X (e :: es) al) (hn:x ≠ "__name__" := by decide) (hdb:(x == ("__debug__" : Str))=false:=by decide) (he:starEach (e :: es) X.env=(false,eval e X.env) :: starEach es X.env:=by rfl) (hpl:(backTo pos (starEach es X.env)).any (·.1)=false:=by rfl) :
  DE M X (.Call (.Name x p) (e :: es) [] pos) (eB g al):=λhK hM=>peI (zf hc hg hm hv (ha hK hM) hn hdb he hpl) λ_ _ _ q=>Ez (ho hK) q
theorem EG (F:FnOk X.prog X.w M.K M.mg X.base CX k f fd ps (sp3 M.K M.mg fn)) (hr:Room k X.A) (hg:Gl X x) (hm:M.mg x=some (.ref f)) (hk:keepIn M.K (.ref f)=true) (hb:Binds M.K fd ps []) (hx:Passes CX X M.E) (ha:DA M X (e :: es) al) (hdb:(x == ("__debug__" : Str))=false:=by decide) (he:starEach (e :: es) X.env=(false,eval e X.env) :: starEach es X.env:=by rfl) (hpl:(backTo pos (starEach es X.env)).any (·.1)=false:=by rfl) :
  DE M X (.Call (.Name x p) (e :: es) [] pos) (ak fn al):=λhK hM=>by
 have F':FnOk X.prog X.w X.K X.mg X.base CX k f fd ps (sp3 M.K M.mg fn):=by
  rw [hK,hM];exact F
 exact peI (pF F' hr hg (by rw [hM];exact hm) (by rw [hK];exact hk) (by rw [hK];exact hb) .nil hx (ha hK hM) hdb he hpl) λ_ _ _ q=>HZ q
theorem tX (h:DE M X e fa):DI M X tg e (dg fa):=λhK hM=>by
 have q:=Eb (tg:=tg) (h hK hM);rw [hK]at q;exact λpins s σ H R' I z=>q pins s σ H R' I (Iv z)
theorem J1 (hg:Gl X "range") (hm:X.mg "range" = none) (h:DE M X a fa) (hs1:starEach [a] X.env=(false,eval a X.env) :: starEach [] X.env:=by rfl) (hs:starEach [a] X.env=[(false,eval a X.env)]:=by rfl):DI M X tg (.Call (.Name "range" p) [a] [] pos) (iR1 fa):=λhK hM =>
 λpins s σ H R' I z=>zy hg hm ((aB h cb hs1) hK hM) hs pins s σ H R' I (ML z)
theorem Kg (hg:Gl X "range") (hm:X.mg "range" = none) (h:DE M X a fa) (k:DE M X b fb) (hs1:starEach [a,b] X.env=(false,eval a X.env) :: starEach [b] X.env:=by rfl) (hs0:starEach [b] X.env=(false,eval b X.env) :: starEach [] X.env:=by rfl) (hs:starEach [a,b] X.env=[(false,eval a X.env),(false,eval b X.env)]:=by rfl) (hs2:starEach [b] X.env=[(false,eval b X.env)]:=by rfl):DI M X tg (.Call (.Name "range" p) [a,b] [] pos) (iR2 fa fb):=λhK hM =>
 λpins s σ H R' I z=>y_ hg hm ((aB h (aB k cb hs0) hs1) hK hM) hs hs2 pins s σ H R' I (Np z)
theorem Et (hg:Gl X "enumerate") (hm:X.mg "enumerate" = none) (h:DE M X a fa) (hs1:starEach [a] X.env=(false,eval a X.env) :: starEach [] X.env:=by rfl) (hs:starEach [a] X.env=[(false,eval a X.env)]:=by rfl) :
  DI M X (.Tuple ts tk tpos) (.Call (.Name "enumerate" p) [a] [] pos) (iEn fa):=λhK hM=>by
 have q:=EM (es:=ts) (k:=tk) (tpos:=tpos) (p:=p) (pos:=pos) hg hm ((aB h cb hs1) hK hM) hs;rw [hK]at q;exact λpins s σ H R' I z=>q pins s σ H R' I (HN z)
theorem sF {α:Type} {N:List α} {i:Nat} {x:α} (h:N[i]?=some x):i<N.length:=(ZA.mp h).1
theorem pgI (h:PG X tg t) (k:∀v σ H Q,t' v σ H Q->t v σ H Q):PG X tg t':=λpins s σ H v u Q I r q=>h pins s σ H v u Q I r (k _ _ _ _ q)
theorem JO (h:PGs X tg t) (k:∀v σ H Q,t' v σ H Q->t v σ H Q):PGs X tg t':=λpins s σ H v u Q I r q=>h pins s σ H v u Q I r (k _ _ _ _ q)
theorem bC (hN:X.N.Nodup) (hi:X.N[i]?=some x) (hx:Loc X.env.scope x) (hf:X.fn x=true\/X.env.scope.names.lookup x=some .local:=by first | exact .inl rfl | exact .inr rfl | assumption):DG M X (.Name x pos) [i] (gNm i):=λ_ _ =>
 pgI (El hN hi hx hf) λ_ _ _ _ q=>AO (sF hi) q
theorem fH:DGs M X [] [] fP:=λ_ _=>JO Dm λ_ _ _ _ q=>LB q
theorem ba {g:Fg} (h:DG M X e is g) (k:DGs M X es js gs) (hs:(assignEach (e :: es) X.env).map (·.2)=assign e X.env :: (assignEach es X.env).map (·.2):=by rfl):DGs M X (e :: es) (is++js) (aZ g gs):=λhK hM =>
 JO (BY (h hK hM) (k hK hM) hs) λ_ _ _ _ q=>Ir q
theorem ia (hc:X.calm=true) (h:DGs M X es is gs) (hn:(assignEach es X.env).length=n:=by rfl) (hst:(assignEach es X.env).findIdx? (·.1)=none:=by rfl):DG M X (.Tuple es k pos) is (gTp n gs):=λhK hM=>by
 have q:=HI (pos:=pos) (k:=k) hc (h hK hM) hn hst;rw [hK]at q;exact pgI q λ_ _ _ _ z=>Lz z
variable {st:Ix} {rest sa sb:List Ix} {f g:Fs}
theorem cx:DSs M X [] sNx:=λ_ _=>Ha ud λ_ _ _ q=>Gy q
theorem af (h:DS M X st f) (k:DSs M X rest g):DSs M X (st :: rest) (aw f g):=λhK hM=>Ha (ni (h hK hM) (k hK hM)) λ_ _ _ q=>KJ q
theorem aA (h:DS M X st f):DSs M X [st] f:=λhK hM=>pD (h hK hM)
theorem Bw:DS M X st p7:=λ_ _=>psI AI λ_ _ _ q=>Ku q
theorem d7 (h:DE M X e fa) (hs:swapsWith e none pos.line X.env=pure false:=by rfl):DS M X (.Expr e pos) (cU fa):=λhK hM=>psI (nH (h hK hM) hs) λ_ _ _ q=>Gm q
theorem oq (h:DE M X e fa):DS M X (.Return (some e) pos) (aI fa):=λhK hM=>psI (oR (h hK hM)) λ_ _ _ q=>JY q
theorem C8 (i:Nat) (hN:X.N[i]?=some x:=by rfl) (hv:Vis X.env.scope x:=by first | exact Or.inl rfl | exact Or.inr (Or.inl rfl) | exact Or.inr (Or.inr rfl)) (hd:(x == ("__debug__" : Str))=false:=by decide) (hcd:(x == ("__classdict__" : Str))=false:=by decide):DS M X (.Return (some (.Name x p)) pos) (ly i):=λ_ _=>psI (oR (aK hN hv hd hcd)) λ_ _ _ q=>GN q
theorem di (h:DT M X c ta) (ha:DSs M X sa f) (hb:DSs M X sb g):DS M X (.If c sa sb pos) (sIf ta f g):=λhK hM=>psI (yK (h hK hM) (ha hK hM) (hb hK hM)) λ_ _ _ q=>Kx q
theorem tZ (i:Nat) (h:DS M X st f):DS M X st (rA i f):=λhK hM=>psI (h hK hM) λ_ _ _ q=>LO q
theorem df (hN:X.N.Nodup) (hi:X.N[i]?=some x) (hx:Loc X.env.scope x) (h:DE M X e fa) (hs:swapsWith e (some (.Name x p)) pos.line X.env=pure false:=by rfl) (hf:X.fn x=true\/X.env.scope.names.lookup x=some .local:=by first | exact .inl rfl | exact .inr rfl | assumption):DS M X (.Assign [.Name x p] e pos) (aH i fa):=λhK hM =>
 psI (wz hN hi hx (h hK hM) hs hf) λ_ _ _ q=>Fd (sF hi) q
theorem GF (hN:X.N.Nodup) (hi:X.N[i]?=some x) (hx:Loc X.env.scope x) (h:DE M X e fa) (ho:PIp X op ti) (hg:X.K=M.K->Ok2 M ti gd) (hf:X.fn x=true\/X.env.scope.names.lookup x=some .local:=by first | exact .inl rfl | exact .inr rfl | assumption):DS M X (.AugAssign (.Name x p) op e pos) (yT i gd fa):=λhK hM =>
 psI (Jx hN hi hx (h hK hM) ho hf) λ_ _ _ q=>Ld (sF hi) (hg hK) q
theorem dJ {tg iter:M2} (hc:X.calm=true) (hp:PassesOwn (model X.prog X.w) X.A X.env X.xe) (hi:DI M X tg iter it) (hg:DG M X tg is gg) (hb:DSs M X body f) (hs:∀x,foldedSetIterable iter X.env x=pure x:=by intro _;rfl):DS M X (.For tg iter body [] pos) (fX it gg f):=λhK hM =>
 psI (HM hp hc (hi hK hM) (hg hK hM) (hb hK hM) hs) λ_ _ _ q=>Mj q
theorem nG (hp:PassesOwn (model X.prog X.w) X.A X.env X.xe) (h:DT M X c ta) (hb:DSs M X body f):DS M X (.While c body [] pos) (dM ta f):=λhK hM =>
 psI (AA hp (h hK hM) (hb hK hM)) λ_ _ _ q=>D2 q
variable {x:Str} {p ap cp:Pos}
theorem Jf {id:String} (slot:Slot "list" name id) (hty:typeOf (.builtin id)=pure (.type "method_descriptor")) (hm:MtR X id r) (ho:PE X o to) (ha:PA X [e] t) (k:∀D σ H,tS M X.N.length f D σ H->nF (tBM M.K "list" r to t) D σ H) (hbase:attributeBase o name X.env (eval o X.env)=eval o X.env) (hfew:((backTo cp (starEach [e] X.env)).all (λx=>!x.1) && (backToKw cp (keywordEach [] X.env)).all (λx=>x.1.isSome) && decide (([e]:List M2).length+([]:List Keyword).length+(if ([]:List Keyword).isEmpty then 0 else 1)<30))=true) (hline:(ap.endLine == cp.line)=true) (hs:starEach [e] X.env=(false,eval e X.env) :: starEach [] X.env) (hplain:(backTo cp (starEach [] X.env)).any (·.1)=false) (hsw:swapsWith (.Call (.Attribute o name ap) [e] [] cp) none pos.line X.env=pure false) (hK:X.K=M.K):PS X (.Expr (.Call (.Attribute o name ap) [e] [] cp) pos) (tS M X.N.length f):=by
 have q:=B8 (apos:=ap) (cpos:=cp) Wp slot hty hm ho ha hbase hfew hline hs hplain;rw [hK]at q;exact psI (nH q hsw) k
theorem Ib (h:DE M X e fa) (hs:starEach [e] X.env=(false,eval e X.env) :: starEach [] X.env) (hK:X.K=M.K) (hM:X.mg=M.mg):PA X [e] (e8 (tD M X.N.length fa) qM):=bB (h hK hM) fW hs
theorem Cy (i:Nat) (h:DE M X e fa) (hN:X.N[i]?=some x:=by rfl) (hv:Vis X.env.scope x:=by first | exact Or.inl rfl | exact Or.inr (Or.inl rfl) | exact Or.inr (Or.inr rfl)) (hd:(x == ("__debug__" : Str))=false:=by decide) (hcd:(x == ("__classdict__" : Str))=false:=by decide)
  (hbase:attributeBase (.Name x p) "append" X.env (eval (.Name x p) X.env)=eval (.Name x p) X.env:=by rfl)
  (hfew:((backTo cp (starEach [e] X.env)).all (λx=>!x.1) && (backToKw cp (keywordEach [] X.env)).all (λx=>x.1.isSome) && decide (([e]:List M2).length+([]:List Keyword).length+(if ([]:List Keyword).isEmpty then 0 else 1)<30))=true:=by rfl)
  (hline:(ap.endLine == cp.line)=true:=by rfl) (hs:starEach [e] X.env=(false,eval e X.env) :: starEach [] X.env:=by rfl) (hplain:(backTo cp (starEach [] X.env)).any (·.1)=false:=by rfl)
  (hsw:swapsWith (.Call (.Attribute (.Name x p) "append" ap) [e] [] cp) none pos.line X.env=pure false:=by rfl):DS M X (.Expr (.Call (.Attribute (.Name x p) "append" ap) [e] [] cp) pos) (nI i fa):=λhK hM =>
 Jf PySem.F.slot_list_append PySem.F.type_list_append oP (aK hN hv hd hcd) (Ib h hs hK hM) (λ_ _ _ q=>LZ q) hbase hfew hline hs hplain hsw hK
theorem Cj (i:Nat) (hb:DE M X b fb) (h:DE M X e fa) (hix:jS b) (hN:X.N[i]?=some x:=by rfl) (hv:Vis X.env.scope x:=by first | exact Or.inl rfl | exact Or.inr (Or.inl rfl) | exact Or.inr (Or.inr rfl)) (hd:(x == ("__debug__" : Str))=false:=by decide) (hcd:(x == ("__classdict__" : Str))=false:=by decide) (hbase:attributeBase (.Subscript (.Name x p) b p2) "append" X.env (eval (.Subscript (.Name x p) b p2) X.env)=eval (.Subscript (.Name x p) b p2) X.env:=by rfl) (hfew:((backTo cp (starEach [e] X.env)).all (λx=>!x.1) && (backToKw cp (keywordEach [] X.env)).all (λx=>x.1.isSome) && decide (([e]:List M2).length+([]:List Keyword).length+(if ([]:List Keyword).isEmpty then 0 else 1)<30))=true:=by rfl) (hline:(ap.endLine == cp.line)=true:=by rfl) (hs:starEach [e] X.env=(false,eval e X.env) :: starEach [] X.env:=by rfl) (hplain:(backTo cp (starEach [] X.env)).any (·.1)=false:=by rfl) (hsw:swapsWith (.Call (.Attribute (.Subscript (.Name x p) b p2) "append" ap) [e] [] cp) none pos.line X.env=pure false:=by rfl):DS M X (.Expr (.Call (.Attribute (.Subscript (.Name x p) b p2) "append" ap) [e] [] cp) pos) (ow i fb fa):=λhK hM =>
 Jf PySem.F.slot_list_append PySem.F.type_list_append oP (su (lH M.K hK) (aK hN hv hd hcd) (hb hK hM) hix) (Ib h hs hK hM) (λ_ _ _ q=>EF q) hbase hfew hline hs hplain hsw hK
theorem HR (i:Nat) (hg:DG M X tg is gg) (hN:X.N[i]?=some x:=by rfl) (hv:Vis X.env.scope x:=by first | exact Or.inl rfl | exact Or.inr (Or.inl rfl) | exact Or.inr (Or.inr rfl)) (hd:(x == ("__debug__" : Str))=false:=by decide) (hcd:(x == ("__classdict__" : Str))=false:=by decide) (hbase:attributeBase (.Name x p) "pop" X.env (eval (.Name x p) X.env)=eval (.Name x p) X.env:=by rfl) (hline:(ap.endLine == cp.line)=true:=by rfl) (hs:swapsWithSole [tg] (.Call (.Attribute (.Name x p) "pop" ap) [] [] cp) pos.line X.env=pure false:=by rfl) (hw:swappedStores [tg] (.Call (.Attribute (.Name x p) "pop" ap) [] [] cp) X.env=pure none:=by rfl) (h1:(assignEach [tg] X.env).map (·.2)=[assign tg X.env]:=by rfl) :
  DS M X (.Assign [tg] (.Call (.Attribute (.Name x p) "pop" ap) [] [] cp) pos) (Aj i gg):=λhK hM=>by
 have q:=HH (apos:=ap) (cpos:=cp) Wp PySem.F.slot_list_pop PySem.F.type_list_pop Jc (aK (pos:=p) hN hv hd hcd) hbase hline;rw [hK]at q;exact psI (xf q (hg hK hM) hs hw h1) λ_ _ _ z=>s_pop z
theorem GR (i:Nat) (hb:DE M X b fb) (h:DE M X e fa) (hN:X.N[i]?=some x:=by rfl) (hv:Vis X.env.scope x:=by first | exact Or.inl rfl | exact Or.inr (Or.inl rfl) | exact Or.inr (Or.inr rfl)) (hd:(x == ("__debug__" : Str))=false:=by decide) (hcd:(x == ("__classdict__" : Str))=false:=by decide) (hs:swapsWithSole [.Subscript (.Name x p) b p2] e pos.line X.env=pure false:=by rfl) (hw:swappedStores [.Subscript (.Name x p) b p2] e X.env=pure none:=by rfl) (ha:∀v,assign (.Subscript (.Name x p) b p2) X.env v=(do
   let ov <-holding [v] (eval (.Name x p) X.env)
   let iv <-holding [v,ov] (eval b X.env)
   standAt p2
   holding [v,ov,iv] (setItem ov iv v)
   release [v,ov,iv] []):=by intro _;rfl) (h1:(assignEach [.Subscript (.Name x p) b p2] X.env).map (·.2)=[assign (.Subscript (.Name x p) b p2) X.env]:=by rfl):DS M X (.Assign [.Subscript (.Name x p) b p2] e pos) (zN i fb fa):=λhK hM =>
 psI (xf (h hK hM) (Ax (aK hN hv hd hcd) (hb hK hM) set_list ha) hs hw h1) λ_ _ _ q=>KN q
variable {elt tg iter:M2}
theorem gE:DF M X [] dG:=λ_ _=>λpins s σ H Q I q=>Hm pins s σ H Q I (by
 obtain ⟨F,ρ,fp,S,p⟩:=q;exact p F H (Ext.refl S.same))
theorem wR (h:DT M X c ta):DF M X [c] ta:=λhK hM=>Hq (h hK hM)
end
def oI (i:Int):R OD:=.ok (.sh (.int i))
def oB (b:Bool):R OD:=.ok (.sh (.bool b))
def oD (d:Gc):R OD:=.ok (.sh d)
def bQ:Gc->Gc->R OD
 |.int i,.int j=>oI (i+j)
 |.str x,.str y=>if x.length+y.length<=BIG then oD (.str (x++y)) else .bad
 |.list xs,.list ys=>if xs.length+ys.length<=BIG then .ok (.ol ((xs++ys).map OD.sh)) else .bad
 |_,_=>.bad
def nB:Gc->Gc->R OD
 |.int i,.int j=>oI (i-j)
 |_,_=>.bad
def lC (i j:Int):Bool:=(decide (-(2 ^ 64)<i) && decide (i<2 ^ 64)) || (decide (-(2 ^ 64)<j) && decide (j<2 ^ 64))
def kW:Gc->Gc->R OD
 |.int i,.int j=>if lC i j=true then oI (i * j) else .bad
 |.list xs,.int k=>if (decide (-(2 ^ 63)<=k) && decide (k<2 ^ 63) && decide (xs.length * k.toNat<=BIG))=true then .ok (.ol ((replicate k.toNat xs).flatten.map OD.sh)) else .bad
 |_,_=>.bad
def eJ:Gc->Gc->R OD
 |.int i,.int j=>if 0<j then oI (i % j) else .bad
 |_,_=>.bad
def l8:Gc->Gc->R OD
 |.int i,.int j=>if 0<j/\j<1073741824 then oI (i / j) else .bad
 |_,_=>.bad
def gP:Gc->R OD
 |.int i=>oI (-i)
 |_=>.bad
def gLt:Gc->Gc->R OD
 |.int i,.int j=>oB (decide (i<j))
 |_,_=>.bad
def gGt:Gc->Gc->R OD
 |.int i,.int j=>oB (decide (j<i))
 |_,_=>.bad
def gGe:Gc->Gc->R OD
 |.int i,.int j=>oB (decide (j<=i))
 |_,_=>.bad
def og (x y:Gc):R Bool:=if (SeqAt.shaped x && SeqAt.shaped y)=true then .ok (PyData.eqv x y) else .bad
def eqD:Gc->Gc->R Bool
 |.int i,.int j=>.ok (decide (i=j))
 |.str x,.str y=>.ok (decide (x=y))
 |.bool x,.bool y=>.ok (decide (x=y))
 |x,y=>og x y
def gEq (x y:Gc):R OD:=(eqD x y).bind λb=>oB b
def gNe (x y:Gc):R OD:=(eqD x y).bind λb=>oB (!b)
def fL (o:Option Gc):R OD:=match o with
 |some d=>oD d
 |none=>.bad
def gIx:Gc->Gc->R OD
 |.list xs,.int i=>fL (atI xs i)
 |.tuple xs,.int i=>fL (atI xs i)
 |.str z,.int i=>if z.length<=BIG then fL ((atI z.cps.toList i).map λc=>.str ⟨#[c]⟩) else .bad
 |_,_=>.bad
def cutD (xs:List Gc) (lo hi:Option Int):List Gc:=(xs.drop (HT.sIx xs.length 0 lo)).take (HT.sIx xs.length xs.length hi-HT.sIx xs.length 0 lo)
def vq (x:Gc) (lo hi:Option Int):R OD:=match x with
 |.list xs=>.ok (.ol ((cutD xs lo hi).map OD.sh))
 |_=>.bad
def a_:List Gc->R OD
 |[.list xs]=>oI xs.length
 |[.tuple xs]=>oI xs.length
 |[.str x]=>if x.length<=BIG then oI x.length else .bad
 |_=>.bad
def sI:List Gc->R OD
 |[.int i,.int j]=>oI (if j<i then j else i)
 |_=>.bad
def cW:List Gc->Option (List Int)
 |[]=>some []
 |.int i :: r=>(cW r).map (i :: ·)
 |_ :: _=>none
theorem fR:∀ns:List Int,cW (ns.map PyData.int)=some ns
 |[]=>rfl
 |n :: ns=>by rw [Zw,cW,fR ns];rfl
theorem ka:∀{ds:List Gc} {ns:List Int},cW ds=some ns->ds=ns.map PyData.int
 |[],ns,h=>by cases h;rfl
 |.int i :: r,ns,h=>by
  rw [cW]at h;obtain ⟨ms,h1,rfl⟩:=ZB.mp h;rw [ka h1];rfl
 |.none :: _,_,h=>by cases h
 |.bool _ :: _,_,h=>by cases h
 |.str _ :: _,_,h=>by cases h
 |.list _ :: _,_,h=>by cases h
 |.tuple _ :: _,_,h=>by cases h
 |.dict _ :: _,_,h=>by cases h
def um:Int->List Int->Int
 |m,[]=>m
 |m,n :: ns=>um (if m<n then n else m) ns
def rj:List Gc->R OD
 |[.list ds]=>match cW ds with
  |some (n :: ns)=>oI (um n ns)
  |_=>.bad
 |_=>.bad
def eL:List Gc->R OD
 |[.list ds]=>.ok (.ol (ds.map OD.sh))
 |[.tuple ds]=>.ok (.ol (ds.map OD.sh))
 |_=>.bad
def tV (ds:List Gc) (y:Gc):R OD:=match y with
 |.int z=>match cW ds with
  |some ns=>if z∈ns then oI (ns.idxOf z:Nat) else .bad
  |none=>.bad
 |_=>.bad
def FR:Gc->Option String
 |.int _=>some "int"
 |.bool _=>some "bool"
 |.str _=>some "str"
 |.list _=>some "list"
 |.tuple _=>some "tuple"
 |.none=>some "NoneType"
 |.dict _=>none
def DC (T:String) (d:Gc):Option Bool:=match FR d with
 |some U=>if T = "int" \/ T = "bool" \/ T = "str" \/ T = "list" \/ T = "tuple" then some (decide (T=U\/(U = "bool" /\ T = "int"))) else none
 |none=>none
def mR (T:String) (x:Gc):R OD:=match DC T x with
 |some b=>oB b
 |none=>.bad
section
variable {M:Mx} {X:Cx}
theorem okI {F H:Hp} (s:ax F H) (p:aq M H fp (OkE M F H Q) (oI i)):Q (.int i) H:=OkE.val s p (.int i)
theorem okB {F H:Hp} (s:ax F H) (p:aq M H fp (OkE M F H Q) (oB i)):Q (.bl i) H:=OkE.val s p (.bl i)
def E_ (K:At):R2:=λx y H Q=>∃l b xs zs,x=.ref l/\y=.ref b/\RdK K H l xs/\RdK K H b zs/\xs.length+zs.length<=sizeLine/\∀p,H p=none->Q (.ref p) (upd H p (.lst (xs++zs)))
theorem xP:OpR X (binaryOp .Add) (E_ X.K):=by
 intro pins s σ H x y v u Q I rx ry h;obtain ⟨l,b,xs,zs,rfl,rfl,hH,hB,hz,q⟩:=h;cases rx;cases ry;obtain ⟨z,its,n,r,hl,e⟩:=hH.obj I;obtain ⟨z2,its2,n2,r2,hl2,e2⟩:=hB.obj I;refine PySem.P.add_list e e2 ?_ (by rw [Z0,Z0];lia)
 have ea:its.toArray++its2.toArray=(its++its2).toArray:=by simp
 rw [ea];exact ⟨.ref _,_,I.lnew (t':=s.toks) (r.append r2) (by rw [Zv];lia),rfl,q _ I.fresh⟩
def FF (K:At):R2:=λx y H Q=>rI0 (λi j=>.int (i+j)) x y H Q\/(∃i j,x=.str i/\y=.str j/\i.length+j.length<=sizeLine/\Q (.str (i++j)) H)\/E_ K x y H Q
theorem l4:OpR X (binaryOp .Add) (FF X.K):=Gu.or (xq.or xP)
theorem oE (hK:X.K=M.K):Ok2 M (FF X.K) bQ:=by
 rw [hK];intro x y dx dy F H fp Q s rx ry p;unfold bQ at p;split at p
 ·cases rx;cases ry
  exact .inl ⟨_,_,rfl,rfl,okI s p⟩
 ·cases rx;cases ry
  split at p
  ·rename_i hl
   exact .inr (.inl ⟨_,_,rfl,rfl,kT hl,OkE.val s p (.str _)⟩)
  ·exact p.elim
 ·split at p
  ·rename_i hl
   cases rx with
   |lst h1 h2 =>
    cases ry with
    |lst h3 h4=>exact .inr (.inr ⟨_,_,_,_,rfl,rfl,h1.same s,h3.same s,by rw [RepAll.len h2,RepAll.len h4];exact kT hl,λa ha=>OkE.lstD s p (RepAll.app h2 h4) ha⟩)
  ·exact p.elim
 ·exact p.elim
theorem Gi:Ok2 M (rI0 λi j=>.int (i-j)) nB:=by
 intro x y dx dy F H fp Q s rx ry p;unfold nB at p;split at p
 ·cases rx;cases ry
  exact ⟨_,_,rfl,rfl,okI s p⟩
 ·exact p.elim
theorem D_ (h:lC i j=true):A_ i j:=by
 unfold lC at h;rw [Bool.or_eq_true,Yy,Yy,Zk,Zk,Zk,Zk]at h;exact h
def Fm (K:At):R2:=λx y H Q=>∃l k xs,x=.ref l/\y=.int k/\RdK K H l xs/\-(2 ^ 63)<=k/\k<2 ^ 63/\xs.length * k.toNat<=sizeLine /\
 ∀p,H p=none->Q (.ref p) (upd H p (.lst (replicate k.toNat xs).flatten))
theorem EC:OpR X (binaryOp .Mult) (Fm X.K):=by
 intro pins s σ H x y v u Q I rx ry h;obtain ⟨l,k,xs,rfl,rfl,hH,h1,h2,hz,q⟩:=h;cases rx;obtain ⟨t,rfl⟩:=ry;obtain ⟨z,its,n,r,hl,e⟩:=hH.obj I;have hlen:its.toArray.size * k.toNat<=sizeLine:=by rw [Z0,<-hl];exact hz
 have hcap:¬its.toArray.size * k.toNat > (2 ^ 63-1) / 8:=by
  have:(sizeLine:Nat)<=(2 ^ 63-1) / 8:=by decide
  lia
 have hfit:¬(!Builtin.List.listFitsIndex k)=true:=by
  rw [fitsIndex_both h1 h2];exact Zo
 have hlong:¬Builtin.List.listTooLong (its.toArray.size * k.toNat)=true:=by
  rw [vK hlen];exact Zo
 have hnew:List.foldl (λx1 x2=>x1++x2) #[] (replicate (if its.toArray.isEmpty=true then 0 else k.toNat) its.toArray)=(replicate k.toNat its).flatten.toArray:=by
  have f0:∀m:Nat,List.foldl (λx1 x2=>x1++x2) #[] (replicate m its.toArray)=(replicate m its).flatten.toArray:=λm=>by
   have:=foldl_rep its m [];rw [Yf]at this;exact this
  rw [f0];cases its with
  |nil=>simp
  |cons a r'=>rw [N2 (by simp)]
 refine wpAny_binaryOp_repeat_ref (T := "list") (U := "int") (by decide) ⟨_,e,rfl⟩ (λs'=>typeIs_int s' k t) noFill_list_mul F.fills_int_mul F.slot_int_rmul repeat_list F.slot_int_index.lookup
  (W9 F.slot_int_rmul (typeIs_int s k t) F.entry_int_rmul (F.args_int_rmul_2 _ _) (int___rmul___int_list k t l its.toArray n)
   ⟨e,rfl,⟨_,e,rfl⟩,W9 F.slot_list_mul ⟨_,e,rfl⟩ F.entry_list_mul (F.args_list_mul_2 _ _) (AutoListH.list___mul___list_int_3 l its.toArray n k t hfit hcap hlong) ⟨e,?_⟩⟩)
 rw [hnew];exact ⟨.ref _,_,I.lnew (t':=s.toks) (r.rep k.toNat) (by rw [len_rep,Nat.mul_comm];exact hz),rfl,q _ I.fresh⟩
def F7 (K:At):R2:=λx y H Q=>rI A_ (λi j=>.int (i * j)) x y H Q\/Fm K x y H Q
theorem Eo:OpR X (binaryOp .Mult) (F7 X.K):=IS.or EC
theorem RepAll.rep {K:At} {F:Hp} (h:RepAll K F vs ds):∀k:Nat,RepAll K F (replicate k vs).flatten (replicate k ds).flatten
 |0=>.nil
 |k+1=>by
  rw [Yd,Yd,Xd,Xd];exact RepAll.app h (RepAll.rep h k)
theorem Hu (hK:X.K=M.K):Ok2 M (F7 X.K) kW:=by
 rw [hK];intro x y dx dy F H fp Q s rx ry p;unfold kW at p;split at p
 ·cases rx;cases ry
  split at p
  ·rename_i hc
   exact .inl ⟨_,_,rfl,rfl,D_ hc,okI s p⟩
  ·exact p.elim
 ·cases ry
  split at p
  ·rename_i hc
   rw [Yy,Yy,Zk,Zk,Zk]at hc;cases rx with
   |lst h1 h2=>exact .inr ⟨_,_,_,rfl,rfl,h1.same s,hc.1.1,hc.1.2,by rw [RepAll.len h2];exact kT hc.2,λa ha=>OkE.lstD s p (RepAll.rep h2 _) ha⟩
  ·exact p.elim
 ·exact p.elim
theorem GK:Ok2 M (rI (λ_ j=>0<j) λi j=>.int (i % j)) eJ:=by
 intro x y dx dy F H fp Q s rx ry p;unfold eJ at p;split at p
 ·cases rx;cases ry
  split at p
  ·rename_i hc
   exact ⟨_,_,rfl,rfl,hc,okI s p⟩
  ·exact p.elim
 ·exact p.elim
theorem Hy:Ok2 M (rI LM λi j=>.int (i / j)) l8:=by
 intro x y dx dy F H fp Q s rx ry p;unfold l8 at p;split at p
 ·cases rx;cases ry
  split at p
  ·rename_i hc
   exact ⟨_,_,rfl,rfl,hc,okI s p⟩
  ·exact p.elim
 ·exact p.elim
theorem Hc:Ok1 M (rU λi=>.int (-i)) gP:=by
 intro x dx F H fp Q s rx p;unfold gP at p;split at p
 ·cases rx
  exact ⟨_,rfl,okI s p⟩
 ·exact p.elim
theorem KI:Ok2 M (rI0 λi j=>.bl (decide (i<j))) gLt:=by
 intro x y dx dy F H fp Q s rx ry p;unfold gLt at p;split at p
 ·cases rx;cases ry
  exact ⟨_,_,rfl,rfl,okB s p⟩
 ·exact p.elim
theorem wb:Ok2 M (rI0 λi j=>.bl (decide (j<i))) gGt:=by
 intro x y dx dy F H fp Q s rx ry p;unfold gGt at p;split at p
 ·cases rx;cases ry
  exact ⟨_,_,rfl,rfl,okB s p⟩
 ·exact p.elim
theorem L6:Ok2 M (rI0 λi j=>.bl (decide (j<=i))) gGe:=by
 intro x y dx dy F H fp Q s rx ry p;unfold gGe at p;split at p
 ·cases rx;cases ry
  exact ⟨_,_,rfl,rfl,okB s p⟩
 ·exact p.elim
mutual
theorem Rep.to2 {K:At}:Rep K H v d->d.canLay0=true->L2.Rep K H v d
 |.non,_=>.non
 |.bl b,_=>.bl b
 |.int i,_=>.int i
 |.str x,_=>.str x
 |.lst h r,c=>.lst h.sq (RepAll.to2 r (by rw [PyData.canLay0]at c;exact c))
 |.tup h r,c=>.tup (SqT.of h) (RepAll.to2 r (by rw [PyData.canLay0]at c;exact c))
 |.dct _ _ _,c=>by
  unfold dD at c;rw [PyData.canLay0]at c;cases c
 |.ins _ _ _,c=>by
  unfold mG at c;rw [PyData.canLay0]at c;cases c
theorem RepAll.to2 {K:At}:RepAll K H vs ds->PyData.canLayAll0 ds=true->L2.RepAll K H vs ds
 |.nil,_=>.nil
 |.cons h r,c=>by
  rw [PyData.canLayAll0,Yy]at c;exact .cons (Rep.to2 h c.1) (RepAll.to2 r c.2)
end
def JW (K:At):R2:=λx y H Q=>rEq x y H Q\/Me K x y H Q
def KH (K:At):R2:=λx y H Q=>rNe x y H Q\/Mv K x y H Q
theorem wQ (hu:X.A.units+64<cLine):OpR X (compareOp .Eq) (JW X.K):=Ly.or (GS hu)
theorem HS (hu:X.A.units+64<cLine):OpR X (compareOp .NotEq) (KH X.K):=Aw.or (Ju hu)
theorem B9 {K:At} {F H:Hp} (rx:Rep K F x dx) (ry:Rep K F y dy) (p:aq M H fp P (eqD dx dy)) :
  (Jh x y=true/\P (decide (x=y)))\/(SeqAt.shaped dx=true/\SeqAt.shaped dy=true/\P (PyData.eqv dx dy)):=by
 unfold eqD at p;split at p
 ·cases rx;cases ry
  refine .inl ⟨rfl,?_⟩;have e:∀i j:Int,decide (V.int i=V.int j)=decide (i=j):=λi j=>by
   by_cases h:i=j
   ·rw [h];simp
   ·rw [Zq h,Zq λz=>h (V.int.inj z)]
  rw [e];exact p
 ·cases rx;cases ry
  refine .inl ⟨rfl,?_⟩;have e:∀i j:Str,decide (V.str i=V.str j)=decide (i=j):=λi j=>by
   by_cases h:i=j
   ·rw [h];simp
   ·rw [Zq h,Zq λz=>h (V.str.inj z)]
  rw [e];exact p
 ·cases rx;cases ry
  refine .inl ⟨rfl,?_⟩;have e:∀i j:Bool,decide (V.bl i=V.bl j)=decide (i=j):=λi j=>by
   by_cases h:i=j
   ·rw [h];simp
   ·rw [Zq h,Zq λz=>h (V.bl.inj z)]
  rw [e];exact p
 ·unfold og at p
  split at p
  ·rename_i h
   rw [Yy]at h;exact .inr ⟨h.1,h.2,p⟩
  ·exact p.elim
theorem CB (hK:X.K=M.K):Ok2 M (JW X.K) gEq:=by
 rw [hK];intro x y dx dy F H fp Q s rx ry p;rcases B9 rx ry (aq.bind p) with ⟨h,q⟩ | ⟨h1,h2,q⟩
 ·exact .inl ⟨h,okB s q⟩
 ·exact .inr ⟨dx,dy,(rx.same s).to2 (X9 h1),(ry.same s).to2 (X9 h2),h1,h2,okB s q⟩
theorem Ml (hK:X.K=M.K):Ok2 M (KH X.K) gNe:=by
 rw [hK];intro x y dx dy F H fp Q s rx ry p;rcases B9 rx ry (aq.bind p) with ⟨h,q⟩ | ⟨h1,h2,q⟩
 ·exact .inl ⟨h,okB s q⟩
 ·exact .inr ⟨dx,dy,(rx.same s).to2 (X9 h1),(ry.same s).to2 (X9 h2),h1,h2,okB s q⟩
theorem yM {K:At} {F:Hp} (h:RepAll K F vs ds) (e:atI ds i=some d):∃v,atI vs i=some v/\Rep K F v d:=by
 unfold atI at e ⊢;rw [RepAll.len h];cases q:ixN ds.length i with
 |none=>rw [q]at e;cases e
 |some j =>
  rw [q]at e;obtain ⟨v,h1,h2⟩:=RepAll.get h e;exact ⟨v,h1,h2⟩
theorem CW (hK:X.K=M.K):Ok2 M (rIx X.K) gIx:=by
 rw [hK];intro x y dx dy F H fp Q s rx ry p;unfold gIx at p;split at p
 ·cases ry
  unfold fL at p;split at p
  ·rename_i d hd
   cases rx with
   |lst h1 h2 =>
    obtain ⟨v,e,r⟩:=yM h2 hd;exact .inl ⟨_,_,_,v,rfl,rfl,(h1.same s).sq,e,OkE.val s p r⟩
  ·exact p.elim
 ·cases ry
  unfold fL at p;split at p
  ·rename_i d hd
   cases rx with
   |tup h1 h2 =>
    obtain ⟨v,e,r⟩:=yM h2 hd;exact .inr (.inl ⟨_,_,_,v,rfl,rfl,SqT.of (s _ _ h1),e,OkE.val s p r⟩)
  ·exact p.elim
 ·cases ry
  cases rx;split at p
  ·rename_i hl
   unfold fL at p;split at p
   ·rename_i d hd
    obtain ⟨c,hc,rfl⟩:=ZB.mp hd;exact .inr (.inr ⟨_,_,c,rfl,rfl,kT hl,hc,OkE.val s p (.str _)⟩)
   ·exact p.elim
  ·exact p.elim
 ·exact p.elim
theorem rH (hK:X.K=M.K):OkS M (Kn X.K) vq:=by
 rw [hK];intro x lo hi dx F H fp Q s rx p;unfold vq at p;split at p
 ·cases rx with
  |@lst a vs ds h1 h2 =>
   refine ⟨a,vs,rfl,(h1.same s).sq,λq hq=>?_⟩
   refine OkE.lstD s p ?_ hq;unfold CL cutD;rw [RepAll.len h2];exact RepAll.take _ (RepAll.drop _ h2)
 ·exact p.elim
def FE (K:At):List V->Hp->VK->Prop:=λxs H Q=>(∃p ys,xs=[.ref p]/\(SqL K H p ys\/SqT K H p ys)/\Q (.int ys.length) H)\/(∃z,xs=[.str z]/\z.length<=sizeLine/\Q (.int z.length) H)
theorem lQ:dR X (.builtin "len") (FE X.K):=uc.or sZ
theorem uq (hK:X.K=M.K):OkC M (FE X.K) a_:=by
 rw [hK];intro x dx F H fp Q s rx p;unfold a_ at p;split at p
 ·cases rx with
  |cons h r =>
   cases r;cases h with
   |lst h1 h2=>exact .inl ⟨_,_,rfl,.inl (h1.same s).sq,by rw [RepAll.len h2];exact okI s p⟩
 ·cases rx with
  |cons h r =>
   cases r;cases h with
   |tup h1 h2=>exact .inl ⟨_,_,rfl,.inr (SqT.of (s _ _ h1)),by rw [RepAll.len h2];exact okI s p⟩
 ·cases rx with
  |cons h r =>
   cases r;cases h;split at p
   ·rename_i hl
    exact .inr ⟨_,rfl,kT hl,okI s p⟩
   ·exact p.elim
 ·exact p.elim
theorem C0 {K:At} {F:Hp} (r:RepAll K F x [.int i,.int j]):x=[.int i,.int j]:=by
 cases r with
 |cons h r =>
  cases h;cases r with
  |cons h r =>
   cases h;cases r;rfl
theorem Dz:OkC M (λxs H Q=>∃i j,xs=[.int i,.int j]/\Q (.int (if j<i then j else i)) H) sI:=by
 intro x dx F H fp Q s rx p;unfold sI at p;split at p
 ·exact ⟨_,_,C0 rx,okI s p⟩
 ·exact p.elim
theorem nT:∀(ns:List Int) (m:Int),um m ns∈m :: ns/\∀z∈m :: ns,z<=um m ns
 |[],m=>⟨Zz,λz h=>by simp at h;rw [h];exact Int.le_refl _⟩
 |n :: ns,m=>by
  obtain ⟨h1,h2⟩:=nT ns (if m<n then n else m)
  rw [um];have hm:m<=(if m<n then n else m):=by split <;> lia
  have hn:n<=(if m<n then n else m):=by split <;> lia
  have ht:=h2 _ Zz;refine ⟨?_,λz hz=>?_⟩
  ·rcases Xz.mp h1 with h | h
   ·rw [h]
    split <;> simp
   ·simp [h]
  ·rcases Xz.mp hz with rfl | hz
   ·lia
   ·rcases Xz.mp hz with rfl | hz
    ·lia
    ·exact h2 z (Zs _ hz)
theorem vw {K:At} {F:Hp} (s:ax F H') (r:RepAll K F x [.list ds]) (e:cW ds=some ns):∃a,x=[.ref a]/\SqL K H' a (ns.map V.int):=by
 cases r with
 |cons h r =>
  cases r;cases h with
  |lst h1 h2 =>
   rw [ka e]at h2;rw [RepAll.toInts h2]at h1;exact ⟨_,rfl,(h1.same s).sq⟩
theorem DU (hK:X.K=M.K):OkC M (FN X.K) rj:=by
 rw [hK];intro x dx F H fp Q s rx p;unfold rj at p;split at p
 ·split at p
  ·rename_i n ns e
   obtain ⟨a,rfl,h⟩:=vw s rx e;refine ⟨a,n :: ns,rfl,h,by simp,λm h1 h2=>?_⟩
   obtain ⟨k1,k2⟩:=nT ns n;have e:um n ns=m:=Int.le_antisymm (h2 _ k1) (k2 _ h1);rw [<-e];exact okI s p
  ·exact p.elim
 ·exact p.elim
theorem Ie (hK:X.K=M.K):OkC M (LQ X.K) eL:=by
 rw [hK];intro x dx F H fp Q s rx p;unfold eL at p;split at p
 ·cases rx with
  |cons h r =>
   cases r;cases h with
   |lst h1 h2=>exact ⟨_,_,rfl,.inl (h1.same s).sq,λl hl=>OkE.lstD s p h2 hl⟩
 ·cases rx with
  |cons h r =>
   cases r;cases h with
   |tup h1 h2=>exact ⟨_,_,rfl,.inr (SqT.of (s _ _ h1)),λl hl=>OkE.lstD s p h2 hl⟩
 ·exact p.elim
def eh (T:String) (a:Fe):Fe:=fun ρ=>(a ρ).bind λx=>mR T x.er
def FD (K:At) (T:String):List V->Hp->VK->Prop:=λxs H Q=>∃x d b,xs=[x,.ty T]/\Rep K H x d/\DC T d=some b/\Q (.bl b) H
theorem HP {K:At} (hU:U = "int" \/ U = "bool" \/ U = "str" \/ U = "list" \/ U = "tuple" \/ U = "NoneType") (hT:T = "int" \/ T = "bool" \/ T = "str" \/ T = "list" \/ T = "tuple"):kitOne K (.type U) (.type T)=some (decide (T=U\/(U = "bool" /\ T = "int"))):=by
 rcases hU with rfl | rfl | rfl | rfl | rfl | rfl <;> rcases hT with rfl | rfl | rfl | rfl | rfl <;> rfl
theorem zb {K:At} (hk:FR d=some U) (hU:U = "int" \/ U = "bool" \/ U = "str" \/ U = "list" \/ U = "tuple" \/ U = "NoneType") (e:DC T d=some b):kitOne K (.type U) (.type T)=some b:=by
 unfold DC at e;rw [hk]at e;have e':(if T = "int" \/ T = "bool" \/ T = "str" \/ T = "list" \/ T = "tuple" then some (decide (T=U\/(U = "bool" /\ T = "int"))) else none)=some b:=e
 by_cases hT:T = "int" \/ T = "bool" \/ T = "str" \/ T = "list" \/ T = "tuple"
 ·rw [N1 hT]at e'
  rw [<-e'];exact HP hU hT
 ·rw [N2 hT]at e'
  cases e'
end
section
variable {M:Mx} {X:Cx} {e a b c:M2}
theorem z9 (T:String):dR X (.builtin "isinstance") (FD X.K T):=by
 intro pins s σ H xs us Q I r h;obtain ⟨x,d,b,rfl,rd,e,q⟩:=h;obtain ⟨u,v,rfl,ru,rv⟩:=Vals.two r;cases rv;have fin:∀tk,EP X pins σ Q (.bool b) { s with toks:=tk }:=λtk=>⟨.bl b,H,I.tok tk,rfl,q⟩
 cases rd with
 |non =>
  cases (show u=Value.none from ru)
  exact X6 PySem.W.kitx_none I.kIn True.intro (zb rfl (by simp) e) (λz=>nomatch z) fin
 |bl y =>
  cases (show u=Value.bool y from ru)
  exact X6 PySem.W.kitx_bool I.kIn True.intro (zb rfl (by simp) e) (λz=>nomatch z) fin
 |int i =>
  obtain ⟨t,hq⟩:=(show ∃t,u=Value.int i t from ru)
  cases hq;exact X6 PySem.W.kitx_int I.kIn True.intro (zb rfl (by simp) e) (λz=>nomatch z) fin
 |str y =>
  obtain ⟨t,hq⟩:=(show ∃t,u=Value.str y t from ru)
  cases hq;exact X6 PySem.W.kitx_str I.kIn True.intro (zb rfl (by simp) e) (λz=>nomatch z) fin
 |@lst a xs ds h1 h2 =>
  cases (show u=Value.ref a from ru)
  obtain ⟨_,its,n,_,_,he⟩:=h1.obj I;exact X6 PySem.W.kitx_list I.kIn ⟨_,he,rfl⟩ (zb (d:=.list ds) rfl (by simp) e) (λz=>nomatch z) fin
 |@tup a xs ds h1 h2 =>
  cases (show u=Value.ref a from ru)
  obtain ⟨_,_,_,p⟩:=(show cT X.prog X.w H s.heap a (.tup xs) from I.hok a _ h1)
  obtain ⟨o,k1,k2,_⟩:=p;exact X6 PySem.W.kitx_tuple I.kIn ⟨o,k1,k2⟩ (zb (d:=.tuple ds) rfl (by simp) e) (λz=>nomatch z) fin
 |dct _ _ _ =>
  have e':(none:Option Bool)=some b:=e;cases e'
 |ins _ _ _ =>
  have e':(none:Option Bool)=some b:=e;cases e'
theorem K3 (h:tD M n (eh T fa) σ H Q):tCB (FD M.K T) (e8 (tD M n fa) (e8 (tC (.ty T)) qM)) σ H Q:=by
 obtain ⟨F,ρ,fp,S,p⟩:=h;refine ⟨F,ρ,fp,S,(aq.bind p).mono λx px v F1 H1 fx e1 r1 w1=>?_⟩
 obtain ⟨G1,d1,k1⟩:=r1.frz e1 w1;unfold mR at px;split at px
 ·rename_i b hb
  exact ⟨v,x.er,b,rfl,k1.same d1.fh,hb,OkE.val d1.fh (OkE.pre d1 px) (.bl b)⟩
 ·exact px.elim
theorem qW (hg:Gl X "isinstance") (hm:X.mg "isinstance" = none) (hgT:Gl X x) (hmT:X.mg x=none) (hT:bootBuiltins x=some (.type T)) (h:DE M X e fa) (hnT:x ≠ "__name__" := by decide) (hdT:(x == ("__debug__" : Str))=false:=by decide) (hs1:starEach [e,.Name x p2] X.env=(false,eval e X.env) :: starEach [.Name x p2] X.env:=by rfl) (hs2:starEach [.Name x p2] X.env=(false,eval (.Name x p2) X.env) :: starEach [] X.env:=by rfl) (hpl:(backTo pos (starEach [.Name x p2] X.env)).any (·.1)=false:=by rfl) :
  DE M X (.Call (.Name "isinstance" p) [e,.Name x p2] [] pos) (eh T fa):=λhK hM=>by
 have q:=m_ (p:=p) (pos:=pos) (z9 T) hg hm fB (bB (h hK hM) (bB (yG (v:=V.ty T) (pos:=p2) hgT hmT hT rfl hnT hdT) fW hs2) hs1) (by decide) (by decide) hs1 hpl
 rw [hK]at q;exact peI q λ_ _ _ z=>K3 z
def yV (a b:Fe):Fe:=fun ρ=>(a ρ).bind λx=>match x.er with
 |.list ds=>(b ρ).bind λy=>tV ds y.er
 |_=>.bad
theorem wt (ha:DE M X a fa) (h:DE M X e fb) (hbase:attributeBase a "index" X.env (eval a X.env)=eval a X.env:=by rfl) (hfew:((backTo cp (starEach [e] X.env)).all (λx=>!x.1) && (backToKw cp (keywordEach [] X.env)).all (λx=>x.1.isSome) && decide (([e]:List M2).length+([]:List Keyword).length+(if ([]:List Keyword).isEmpty then 0 else 1)<30))=true:=by rfl) (hline:(ap.endLine == cp.line)=true:=by rfl) (hs:starEach [e] X.env=(false,eval e X.env) :: starEach [] X.env:=by rfl) (hplain:(backTo cp (starEach [] X.env)).any (·.1)=false:=by rfl) :
  DE M X (.Call (.Attribute a "index" ap) [e] [] cp) (yV fa fb):=λhK hM=>by
 have q:=B8 (apos:=ap) (cpos:=cp) Wp PySem.F.slot_list_index PySem.F.type_list_index A8 (ha hK hM) (bB (h hK hM) fW hs) hbase hfew hline hs hplain;refine peI q fun σ H Q h=>?_
 obtain ⟨F,ρ,fp,S,p⟩:=h;refine ⟨F,ρ,fp,S,(aq.bind p).mono λx px v F1 H1 fx e1 r1 w1=>?_⟩
 obtain ⟨G1,d1,k1⟩:=r1.frz e1 w1;generalize x.er=d at px k1
 cases k1 with
 |@lst a' vs ds h1 h2 =>
  have px':aq M H fp (OkE M F H Q) ((fb ρ).bind λy=>tV ds y.er):=px
  refine ⟨.inl ⟨rfl,vs,by rw [hK];exact (h1.same d1.fh).sq⟩,G1,ρ,fp,S.ext d1,((aq.bind px').ext d1).mono λy py w F2 H2 fy e2 r2 w2=>?_⟩
  obtain ⟨G2,d2,k2⟩:=r2.frz e2 w2;unfold tV at py;generalize y.er=d' at py k2
  cases k2 with
  |int z =>
   have py':aq M H fp (OkE M F H Q) (match cW ds with | some ns=>if z∈ns then oI (ns.idxOf z:Nat) else .bad | none=>.bad):=py
   split at py'
   ·rename_i ns hn
    split at py'
    ·rename_i hz
     rw [ka hn]at h2;rw [RepAll.toInts h2]at h1;exact ⟨a',ns,z,rfl,rfl,by rw [hK];exact ((h1.same d2.ff).same d2.fh).sq,hz,OkE.val d2.fh (OkE.pre (d1.trans d2) py') (.int _)⟩
    ·exact py'.elim
   ·exact py'.elim
  |non=>exact py.elim
  |bl _=>exact py.elim
  |str _=>exact py.elim
  |dct _ _ _=>exact py.elim
  |ins _ _ _=>exact py.elim
  |lst _ _=>exact py.elim
  |tup _ _=>exact py.elim
 |non=>exact px.elim
 |bl _=>exact px.elim
 |int _=>exact px.elim
 |str _=>exact px.elim
 |dct _ _ _=>exact px.elim
 |ins _ _ _=>exact px.elim
 |tup _ _=>exact px.elim
end
theorem oh {K:At} {F H:Hp} (m:Nat):∀{vs:List V} {ds:List Gc},RepAll K F vs ds->OwnS K F H (vs.map some++replicate m none) ((ds.map λd=>some (OD.sh d))++replicate m none) []
 |_,_,.nil=>by
  show OwnS K F H (replicate m none) (replicate m none) []
  have:=OwnS.nones (K:=K) (F:=F) (H:=H) m .nil;rw [Zc,Zc]at this;exact this
 |_,_,.cons h r=>.yes (f:=[]) (.sh h) (oh m r)
theorem fn3 {K:At} {st:Ix} (F:Fun K x qual st f fd) (S:FnScope N ps (ah st)) (h:∀(cdv:Db) (A:Go) (outer:List PySem.Env) (s:Da) (H:Hp) (E:XK),Room k (A.deeper (envOfC qual (ah st) s.heap.objs.size f cdv))->DSs ⟨K,mg,E⟩ (mI CX0 P w K mg base N qual (ah st) f cdv A outer s H E).nox (d6 st) body) :
  FnOk P w K mg base CX0 (k+1) f fd ps (sp3 K mg (aM ps.length N.length body)):=by
 have hpl:ps.length<=N.length:=by
  have:=Yl List.length S.pre;rw [Ze]at this
  lia
 have hlen:∀vs H Q E,sp3 K mg (aM ps.length N.length body) vs H Q E->vs.length=ps.length:=by
  rintro vs H Q E ⟨F,ds,sm,ra,p⟩;by_cases hl:ds.length=ps.length
  ·rw [RepAll.len ra]
   exact hl
  ·unfold aM at p
   rw [N2 hl]at p;exact p.elim
 refine F.ok S hlen λcdv A outer s H vs Q E hr hs=>?_
 have hvl:=hlen _ _ _ _ hs;obtain ⟨F0,ds,sm,ra,p⟩:=hs;have hdl:ds.length=ps.length:=by rw [<-RepAll.len ra];exact hvl
 unfold aM at p;rw [N1 hdl]at p;refine ⟨_,h cdv A outer s H E hr rfl rfl,F0,mC N.length ds,[],⟨sm,?_,Y0,(λ_ m=>by cases m),?_⟩,(aq.bind p).mono λo po=>?_⟩
 ·unfold L2.start mC
  rw [hvl,hdl];exact oh _ ra
 ·unfold mC
  show _=N.length
  rw [Zv,Zy,Xv,hdl]
  lia
 ·cases o with
  |nx ρ=>exact fun σ' F' H' fp' S' st=>po .non F' H' [] ⟨st.ff,λa o q=>st.keep a o q (by simp),S'.same,λa q z=>st.nw a q (by simp) z⟩ (Res.sh .non) λ_ m=>by cases m
  |rt y=>exact λv F' H' fx sm' r st=>po v F' H' fx ⟨st.ff,λa o q=>st.keep a o q (by simp),sm',λa q z=>st.nw a q (by simp) z⟩ r λa m=>(st.new a m).elim (λz=>by cases z) id
  |bk ρ=>exact po.elim
  |ct ρ=>exact po.elim
theorem zq {K:At} (KX:K.In s₁.heap) (hns:s₁.heap.Ns mainGlobals mg) (hb:s₁.heap.Ns builtinsNs mb) (hbb:∀x:Str,x ≠ "__name__" -> mb x=bootBuiltins x) (hlim:s₁.heap.NoLimit) (hg:s₁.gens=#[]) (ha:s₁.heap.get? a=some { cls:=.type "list",data:=.seq vs.toArray }) (hi:IntsAre vs ns) (hl:ns.length<=sizeLine) (hr:Room k callerA) (F:∀base:N0,K.In base->base.Ns mainGlobals mg->FnOk P w K mg base CX k fa fd [x] sp) (hbind:∀(s:Da) (u:Db),BindsTo s fd ⟨[u],[]⟩ [(x,u)]) (hsp:∀H:Hp,z8 H->RdK K H a (ns.map V.int)->sp [.ref a] H (λv _=>v=.bl true) λ_ _ _=>False) (hCX:∀H e s',CX [] H s₁ (λ_ _ _=>False) e s'->False) :
  codeAny (model P w) callerA (.call (.ref fa) ⟨[.ref a],[]⟩) (λr s'=>r=.ok (.ret (.bool true))/\OldK s₁.heap s'.heap/\s'.os=s₁.os/\AllBare s'.gens) s₁:=by
 have rv:=gq hi;have lenV:=hi.length;have core:∀H:Hp,z8 H->RdK K H a (ns.map V.int)->HOk P w H s₁.heap->(∀b,H b≠none->b=a)->(H a≠none->K.lookup a=none) ->
   codeAny (model P w) callerA (.call (.ref fa) ⟨[.ref a],[]⟩) (λr s'=>r=.ok (.ret (.bool true))/\OldK s₁.heap s'.heap/\s'.os=s₁.os/\AllBare s'.gens) s₁:=by
  intro H hO hS hok hA hK;have base_of:∀{b:Is} {o:Obj},s₁.heap.get? b=some o->H b=none->(nv s₁.heap H).get? b=some o:=λe n=>uY e n
  have noA:∀{b:Is} {o:Obj} {es:Array DictEntry} {ep:Nat},s₁.heap.get? b=some o->o.data=.dict es ep->H b=none:=fun {b o es ep} e d=>by
   cases q:H b with
   |none=>rfl
   |some u =>
    have e':b=a:=hA b (by rw [q];simp)
    subst e';rw [ha]at e;cases e;have d':Data.seq vs.toArray _=Data.dict es ep:=d;cases d'
  have nsK:∀{b:Is} {m:Str->Ch},s₁.heap.Ns b m->(nv s₁.heap H).Ns b m:=fun {b m} ⟨o,es,ep,e,d,r⟩=>⟨o,es,ep,base_of e (noA e d),d,r⟩
  have hKb:K.In (nv s₁.heap H):=λb o e=>base_of (KX b o e) (by
   cases q:H b with
   |none=>rfl
   |some u =>
    have e':b=a:=hA b (by rw [q];simp)
    subst e';rw [hK (by rw [q];simp)]at e;cases e)
  have hM:Mod K mg (nv s₁.heap H):=⟨hKb,nsK hns,⟨mb,nsK hb,hbb⟩,let ⟨mc,h1,h2⟩:=hlim;⟨mc,nsK h1,h2⟩⟩;have e0:Env0 P w K mg (nv s₁.heap H) callerA [] s₁ H:=⟨rfl,hM,λb o e=>xO e,Nat.le_of_eq (sD _ _),trivial,λb hb=>absurd (show b∈([]:List Is) from hb) (by simp),hok,.of_eq hg⟩
  refine Wn ((F _ hKb (nsK hns)).run callerA [] s₁ H ⟨[.ref a],[]⟩ [.ref a] [.ref a] _ _ hr e0 (hbind s₁ (.ref a)) (.cons rfl .nil) (hsp H hO hS)) λr s' h=>?_
  cases r with
  |error e=>exact (hCX H e s' h).elim
  |ok fl =>
   cases fl with
   |next=>exact False.elim h
   |brk=>exact False.elim h
   |cont=>exact False.elim h
   |ret u =>
    obtain ⟨v,H',os,bare,un,hok',r',q⟩:=h;have q':v=.bl true:=q;subst q';obtain rfl:u=Value.bool true:=r';refine ⟨rfl,OldK.of_keep λb o e=>?_,os,bare⟩
    cases q:H b with
    |none=>exact un.keep b o e q (by intro z;exact absurd (show b∈([]:List Is) from z) (by simp)) (by simp)
    |some u =>
     rcases hO b with z | ⟨ob,xs,z⟩
     ·rw [q]at z;cases z
     ·have z2:=un.frzs b ob _ z
      obtain ⟨e1,_⟩:=hok b _ z;obtain ⟨e2,_⟩:=hok' b _ z2;rw [e]at e1;cases e1;exact e2
 cases hk:K.lookup a with
 |some o =>
  have e:=KX a o hk;rw [ha]at e;cases e;refine core (λ_=>none) (λ_=>.inl rfl) (.inr ⟨vs.toArray,_,hk,by rw [Z0,lenV];exact hl,by simpa using rv⟩) (λb u z=>by have z':(none:Option HO)=some u:=z;cases z') (λb z=>absurd rfl z) λz=>absurd rfl z
 |none =>
  refine core (λb=>if b=a then some (.frz { cls:=.type "list",data:=.seq vs.toArray } (.lst (ns.map V.int))) else none) (λb=>?_) (.inl (.inr ⟨{ cls:=.type "list",data:=.seq vs.toArray },N1 rfl⟩)) (λb u z=>?_) (λb z=>?_) λ_=>hk
  ·by_cases hb:b=a
   ·exact .inr ⟨_,_,N1 hb⟩
   ·exact .inl (N2 hb)
  ·by_cases hb:b=a
   ·have z':=(N1 hb).symm.trans z
    cases z';subst hb;exact ⟨ha,by rw [Zy];exact hl,vs,_,rv,ha⟩
   ·have z':=(N2 hb).symm.trans z
    cases z'
  ·by_cases hb:b=a
   ·exact hb
   ·exact absurd (N2 hb) z
theorem AN {l:PySem.W.OpenLaw} {XP:(Str->Ch)->N0->Prop} {YP:Ev->N0->Prop} {d:DefRec} {K:Params->At} {CX:Ev->CXT} {sp:Ev->Sp} (hn:l.most=some n) (hn2:n<=sizeLine) (hdf:d.params.defaults=[]) (hr:Room k callerA) (hY:∀(w:Ev) (h:N0),YP w h->(K w.params).In h) (F:∀(w:Ev) (mg:Str->Ch) (fa:Is) (h:N0),(K w.params).In h->h.Ns mainGlobals mg->mg d.name=some (.ref fa) ->
   ∃fd:Fk,(∀(s:Da) (u:Db),BindsTo s fd ⟨[u],[]⟩ [(x,u)]) /\
    ∀base:N0,(K w.params).In base->base.Ns mainGlobals mg->FnOk l.prog w (K w.params) mg base (CX w) k fa fd [x] (sp w)) (hsp:∀(w:Ev) (H:Hp) (a:Is) (ns:List Int),ns.length<=n->z8 H->RdK (K w.params) H a (ns.map V.int)->sp w [.ref a] H (λv _=>v=.bl true) λ_ _ _=>False) (hCX:∀(w:Ev) (H:Hp) (s:Da) (e:Db) (s':Da),CX w [] H s (λ_ _ _=>False) e s'->False) :
  PySem.W.WalkO q loose XP YP l.row.toRowW d [] (λf vs=>PySem.call f vs):=by
 refine Att.oS hn hdf λw s₀ s₁ mg mb fa o pm cd doc a vs ns G Y ho hd hcd hmg hobj hints hlen hg=>?_
 have KX:=hY w _ Y;obtain ⟨fd,hb,hF⟩:=F w mg fa _ KX G.T.g hmg;exact zq KX G.T.g G.T.b G.T.builtins G.T.nolimit hg hobj hints (Yg hlen hn2) hr hF hb (λH hO hS=>hsp w H a ns hlen hO hS) λH e s'=>hCX w H s₁ e s'
theorem KP {l:PySem.W.OpenLaw} {XP:(Str->Ch)->N0->Prop} {YP:Ev->N0->Prop} {d:DefRec} {K:Params->At} (hn:l.most=some 63) (hdf:d.params.defaults=[]) (hr:Room k callerA) (hY:∀(w:Ev) (h:N0),YP w h->(K w.params).In h) (hl:∀ns:List Int,ns.length<=63->fn [.list (ns.map PyData.int)]=.ok (.sh (.bool true))) (F:∀(w:Ev) (mg:Str->Ch) (fa:Is) (h:N0),(K w.params).In h->h.Ns mainGlobals mg->mg d.name=some (.ref fa) ->
   ∃fd:Fk,(∀(s:Da) (u:Db),BindsTo s fd ⟨[u],[]⟩ [(x,u)])/\∀base:N0,(K w.params).In base->base.Ns mainGlobals mg->FnOk l.prog w (K w.params) mg base CX0 k fa fd [x] (sp3 (K w.params) mg fn)) :
  PySem.W.WalkO q loose XP YP l.row.toRowW d [] (λf vs=>PySem.call f vs):=by
 refine AN (n:=63) (k:=k) (x:=x) (CX:=λ_=>CX0) (sp:=λw vs H Q E=>∃F ds x,ax F H/\RepAll (K w.params) F vs ds/\fn ds=.ok x/\OkE ⟨K w.params,λ_=>none,E⟩ F H Q x) hn (by decide) hdf hr hY (λw mg fa h a b c=>?_) (λw H a ns hlen _ hS=>?_) λ_ _ _ _ _ z=>z
 ·obtain ⟨fd,h1,h2⟩:=F w mg fa h a b c
  refine ⟨fd,h1,λbase kb nb=>(h2 base kb nb).imp ?_⟩
  rintro vs H Q E ⟨F0,ds,y,sm,ra,e,p⟩;refine ⟨F0,ds,sm,ra,?_⟩;rw [e];exact λv F' H' fx=>p v F' H' fx
 ·refine ⟨H,[.list (ns.map PyData.int)],_,ax.refl _,.cons (.lst hS (RepAll.ofInts ns)) .nil,hl ns hlen,?_⟩
  intro v F' H' fx e r w;cases r.own with
  |sh q =>
   cases q;rfl
end L3
namespace L3
open PySem L2 PySem.Spec PyProof.Rows
theorem cV {K:At} {st:Ix} (hf:fn=aM np n body) (hp:ps.length=np) (hn:N.length=n) (F:Fun K x qual st f fd) (S:FnScope N ps (ah st)) (h:∀(cdv:Db) (A:Go) (outer:List PySem.Env) (s:Da) (H:Hp) (E:XK),Room k (A.deeper (envOfC qual (ah st) s.heap.objs.size f cdv))->DSs ⟨K,mg,E⟩ (mI CX0 P w K mg base N qual (ah st) f cdv A outer s H E).nox (d6 st) body) :
  FnOk P w K mg base CX0 (k+1) f fd ps (sp3 K mg fn):=by
 subst hf hp hn;exact fn3 F S h
theorem dH:Passes CX0 X E:=λ_ _ _ _ _ _ _ h=>h.elim
def xC:Gc->Gc->R OD
 |.int i,.int j=>oI (i+j)
 |_,_=>.bad
section
theorem A1:Ok2 M (ipI λi j=>i+j) xC:=by
 intro x y dx dy F H fp Q s rx ry p;unfold xC at p;split at p
 ·cases rx;cases ry
  exact ⟨_,_,rfl,rfl,okI s p⟩
 ·exact p.elim
end
end L3
namespace L3
open PySem L2
theorem HG (i:Int):mR "int" (.int i)=oB true:=rfl
theorem Jo (i:Int):mR "bool" (.int i)=oB false:=rfl
theorem Gp (i:Int):mR "str" (.int i)=oB false:=rfl
theorem IP (i:Str):mR "str" (.str i)=oB true:=rfl
theorem Ht (i:List Gc):mR "list" (.list i)=oB true:=rfl
theorem Gd (i:List Gc):mR "tuple" (.list i)=oB false:=rfl
theorem HQ (i:List Gc):mR "int" (.list i)=oB false:=rfl
theorem HF (i:List Gc):mR "tuple" (.tuple i)=oB true:=rfl
theorem Gq (i:List Gc):mR "int" (.tuple i)=oB false:=rfl
theorem J9:(0<=BIG)=True:=by decide
theorem Lc:(1<=BIG)=True:=by decide
theorem Nb:(2<=BIG)=True:=by decide
theorem MD:(3<=BIG)=True:=by decide
theorem Ni:(4<=BIG)=True:=by decide
theorem uW {g:Fg} (I:Nat->Env->Prop):∀(ds:List Gc) (k:Nat) (ρ:Env),I k ρ->(∀(i:Nat) (d:Gc) (ρ:Env),ds[i]?=some d->I (k+i) ρ->∃ρ1 ρ2,g (.sh d) ρ=.ok ρ1/\(b ρ1=.ok (.nx ρ2)\/b ρ1=.ok (.ct ρ2))/\I (k+i+1) ρ2) ->
  ∃ρ',bw g b ds ρ=.ok (.nx ρ')/\I (k+ds.length) ρ'
 |[],k,ρ,h,_=>⟨ρ,rfl,h⟩
 |d :: ds,k,ρ,h,st=>by
  obtain ⟨ρ1,ρ2,h1,h2,h3⟩:=st 0 d ρ rfl h;obtain ⟨ρ',e,h4⟩:=uW I ds (k+1) ρ2 h3 λi d' ρ hd hi=>by
   have:=st (i+1) d' ρ (by simpa using hd) (by rw [show k+(i+1)=k+1+i by lia];exact hi)
   rw [show k+(i+1)+1=k+1+i+1 by lia]at this
   exact this
  refine ⟨ρ',?_,by rw [Zp,show k+(ds.length+1)=k+1+ds.length by lia];exact h4⟩
  rw [bw,h1,aC];rcases h2 with h2 | h2
  ·rw [h2,aC]
   exact e
  ·rw [h2,aC]
   exact e
theorem zr {g:Fg} (S:Nat->Env->Prop) (h0:S 0 ρ) (st:∀(i:Nat) (d:Gc) (ρ:Env),ds[i]?=some d->S i ρ->∃ρ1 ρ2,g (.sh d) ρ=.ok ρ1/\(b ρ1=.ok (.nx ρ2)\/b ρ1=.ok (.ct ρ2))/\S (i+1) ρ2) :
  ∃ρ',bw g b ds ρ=.ok (.nx ρ')/\S ds.length ρ':=by
 obtain ⟨ρ',e,h⟩:=uW S ds 0 ρ h0 λi d ρ hd hi=>by
  rw [Wb]at hi ⊢;exact st i d ρ hd hi
 exact ⟨ρ',e,by rw [Wb]at h;exact h⟩
theorem lI {lo:Int} (h:(l7 lo n)[i]?=some d):i<n/\d=.int (lo+i):=by
 unfold l7 at h;rw [Zx]at h;obtain ⟨j,hj,rfl⟩:=ZB.mp h;obtain ⟨h1,h2⟩:=ZA.mp hj;have h3:i=j:=by simpa using h2
 subst h3;exact ⟨by simpa using h1,rfl⟩
theorem mL (lo:Int) (n:Nat):(l7 lo n).length=n:=by unfold l7;simp
theorem zL (h:dh t b n ρ=.ok o):dM t b ρ=.ok o:=by
 have mono:∀(n:Nat) (ρ:Env),dh t b n ρ≠.bad->∀m,n<=m->dh t b m ρ=dh t b n ρ:=by
  intro n
  induction n with
  |zero=>intro ρ hn;exact absurd rfl hn
  |succ n ih =>
   intro ρ hn m hm;obtain ⟨m,rfl⟩:∃k,m=k+1:=⟨m-1,by lia⟩
   rw [dh]at hn ⊢;rw [dh];cases ht:t ρ with
   |bad=>rfl
   |ex c=>rfl
   |ok c =>
    rw [ht,aC]at hn;rw [aC,aC];cases c with
    |false=>rfl
    |true =>
     rw [N1 rfl]at hn ⊢;rw [N1 rfl];cases hb:b ρ with
     |bad=>rfl
     |ex c=>rfl
     |ok o =>
      rw [hb,aC]at hn;rw [aC,aC];cases o with
      |nx ρ2=>exact ih ρ2 hn m (by lia)
      |ct ρ2=>exact ih ρ2 hn m (by lia)
      |bk ρ2=>rfl
      |rt x=>rfl
 unfold dM;have hx:∃n,dh t b n ρ≠.bad:=⟨n,by rw [h];exact λz=>by cases z⟩
 rw [dif_pos hx];have e1:=mono n ρ (by rw [h];exact λz=>by cases z) (n+hx.choose) (by lia)
 have e2:=mono hx.choose ρ hx.choose_spec (n+hx.choose) (by lia)
 rw [<-e2,e1,h]
theorem zo (I:Nat->Env->Prop) (Q:Env->Prop) (st:∀m ρ,I m ρ->(t ρ=.ok false/\Q ρ)\/(t ρ=.ok true/\∃ρ2 m',(b ρ=.ok (.nx ρ2)\/b ρ=.ok (.ct ρ2))/\m'<m/\I m' ρ2)):∀(m:Nat) (ρ:Env),I m ρ->∃ρ',dM t b ρ=.ok (.nx ρ')/\Q ρ':=by
 have go:∀(m:Nat) (ρ:Env),I m ρ->∃n ρ',dh t b n ρ=.ok (.nx ρ')/\Q ρ':=by
  intro m
  induction m using Nat.strongRecOn with
  |ind m ih =>
   intro ρ h;rcases st m ρ h with ⟨h1,h2⟩ | ⟨h1,ρ2,m',h2,h3,h4⟩
   ·exact ⟨1,ρ,by rw [dh,h1];rfl,h2⟩
   ·obtain ⟨n,ρ',e,q⟩:=ih m' h3 ρ2 h4
    refine ⟨n+1,ρ',?_,q⟩;rw [dh,h1,aC,N1 rfl];rcases h2 with h2 | h2
    ·rw [h2,aC]
     exact e
    ·rw [h2,aC]
     exact e
 intro m ρ h;obtain ⟨n,ρ',e,q⟩:=go m ρ h;exact ⟨ρ',zL e,q⟩
def GU:Option (Option OD)->R OD
 |some (some (.sh d))=>.ok (.sh d)
 |_=>.bad
def opK (g:Gc->Gc->R OD):R OD->R OD->R OD
 |.ok x,.ok y=>g x.er y.er
 |.ok _,.ex c=>.ex c
 |.ok _,.bad=>.bad
 |.ex c,_=>.ex c
 |.bad,_=>.bad
def unK {α β:Type} (g:α->R β):R α->R β
 |.ok x=>g x
 |.ex c=>.ex c
 |.bad=>.bad
def Ij (r:R Bool) (b:Ft) (ρ:Env):R Bool:=match r with
 |.ok true=>b ρ
 |.ok false=>.ok false
 |.ex c=>.ex c
 |.bad=>.bad
def orK (r:R Bool) (b:Ft) (ρ:Env):R Bool:=match r with
 |.ok true=>.ok true
 |.ok false=>b ρ
 |.ex c=>.ex c
 |.bad=>.bad
def DR (r:R Bool) (b:Fe) (ρ:Env):R OD:=match r with
 |.ok true=>b ρ
 |.ok false=>.ok (.sh (.bool false))
 |.ex c=>.ex c
 |.bad=>.bad
def orV (r:R Bool) (b:Fe) (ρ:Env):R OD:=match r with
 |.ok true=>.ok (.sh (.bool true))
 |.ok false=>b ρ
 |.ex c=>.ex c
 |.bad=>.bad
def ifV (r:R Bool) (a b:Fe) (ρ:Env):R OD:=match r with
 |.ok true=>a ρ
 |.ok false=>b ρ
 |.ex c=>.ex c
 |.bad=>.bad
def ifK (r:R Bool) (a b:Fs) (ρ:Env):R Out:=match r with
 |.ok true=>a ρ
 |.ok false=>b ρ
 |.ex c=>.ex c
 |.bad=>.bad
def An:R OD->R (List OD)->R (List OD)
 |.ok x,.ok xs=>.ok (x :: xs)
 |.ok _,.ex c=>.ex c
 |.ok _,.bad=>.bad
 |.ex c,_=>.ex c
 |.bad,_=>.bad
def EI (r:R Out) (b:Fs):R Out:=match r with
 |.ok (.nx ρ)=>b ρ
 |.ok o=>.ok o
 |.ex c=>.ex c
 |.bad=>.bad
def LY (r:R (List Gc)) (g:Fg) (b:Fs) (ρ:Env):R Out:=match r with
 |.ok ds=>bw g b ds ρ
 |.ex c=>.ex c
 |.bad=>.bad
def FI (r:R (List Gc)) (g:Fg) (t:Ft) (el:Fe) (ρ0:Env):R OD:=match r with
 |.ok ds=>unK (λxs=>.ok (.ol xs)) (bH g t el ρ0 ds [])
 |.ex c=>.ex c
 |.bad=>.bad
def slK (g:Gc->Option Int->Option Int->R OD) (a:R OD) (l h:R (Option Int)):R OD:=match a,l,h with
 |.ok x,.ok i,.ok j=>g x.er i j
 |.ok _,.ok _,.ex c=>.ex c
 |.ok _,.ok _,.bad=>.bad
 |.ok _,.ex c,_=>.ex c
 |.ok _,.bad,_=>.bad
 |.ex c,_,_=>.ex c
 |.bad,_,_=>.bad
def JI (a:R OD) (b:Fe) (ρ:Env):R OD:=match a with
 |.ok x=>match x.er with
  |.list ds=>unK (λy=>tV ds y.er) (b ρ)
  |_=>.bad
 |.ex c=>.ex c
 |.bad=>.bad
def HJ (o:Option (Option OD)) (a:R OD) (i:Nat) (ρ:Env):R Out:=match o with
 |some (some (.ol xs))=>unK (λy=>if xs.length<BIG then .ok (.nx (ρ.set i (some (.ol (xs++[y]))))) else .bad) a
 |_=>.bad
def BG:Option (Option OD)->R Out
 |some (some x)=>.ok (.rt x)
 |_=>.bad
def GZ (o:Option (Option OD)) (i:Nat) (ρ:Env):Env:=match o with
 |some (some x)=>ρ.set i (some (.sh x.er))
 |_=>ρ
def EH:R Out->R OD
 |.ok (.rt x)=>.ok x
 |.ok (.nx _)=>.ok (.sh .none)
 |.ok (.bk _)=>.bad
 |.ok (.ct _)=>.bad
 |.ex c=>.ex c
 |.bad=>.bad
def HU (o:Option (Option OD)) (g:Gc->Gc->R OD) (a:R OD) (i:Nat) (ρ:Env):R Out:=match o with
 |some (some (.sh d))=>unK (λy=>unK (λz=>.ok (.nx (ρ.set i (some z)))) (g d y.er)) a
 |_=>.bad
section
variable {ρ:Env}
theorem v_var (i:Nat):ae i ρ=GU ρ[i]?:=by
 unfold ae GU;rfl
theorem v_c (d:Gc):eC d ρ=.ok (.sh d):=rfl
theorem M6 (g:Gc->Gc->R OD):eOp g a b ρ=opK g (a ρ) (b ρ):=by
 unfold eOp;cases a ρ <;> cases b ρ <;> rfl
theorem b_ (r:R α) (g:α->R β):r.bind g=unK g r:=by cases r <;> rfl
theorem MT (g:Gc->R OD):eUn g a ρ=unK (λx=>g x.er) (a ρ):=b_ _ _
theorem JE:ao a ρ=unK (λx=>truth x.er) (a ρ):=b_ _ _
theorem Iz:oX s t ρ=Ij (s ρ) t ρ:=by
 unfold oX;cases s ρ with
 |ok c=>cases c <;> rfl
 |ex c=>rfl
 |bad=>rfl
theorem LP:iP s t ρ=orK (s ρ) t ρ:=by
 unfold iP;cases s ρ with
 |ok c=>cases c <;> rfl
 |ex c=>rfl
 |bad=>rfl
theorem HV:bA s ρ=unK (λc=>.ok (!c)) (s ρ):=b_ _ _
def tru (r:R OD):R Bool:=unK (λx=>truth x.er) r
theorem v_and:jR a b ρ=DR (tru (a ρ)) b ρ:=by
 unfold jR tru;cases a ρ with
 |ok x =>
  show (truth x.er).bind _=DR (truth x.er) b ρ
  cases truth x.er with
  |ok c=>cases c <;> rfl
  |ex c=>rfl
  |bad=>rfl
 |ex c=>rfl
 |bad=>rfl
theorem v_or:eOr a b ρ=orV (tru (a ρ)) b ρ:=by
 unfold eOr tru;cases a ρ with
 |ok x =>
  show (truth x.er).bind _=orV (truth x.er) b ρ
  cases truth x.er with
  |ok c=>cases c <;> rfl
  |ex c=>rfl
  |bad=>rfl
 |ex c=>rfl
 |bad=>rfl
theorem v_not:zX a ρ=unK (λc=>.ok (.sh (.bool (!c)))) (tru (a ρ)):=by
 unfold zX tru;cases a ρ with
 |ok x =>
  show (truth x.er).bind _=unK _ (truth x.er)
  exact b_ _ _
 |ex c=>rfl
 |bad=>rfl
theorem Nh:eIf s a b ρ=ifV (s ρ) a b ρ:=by
 unfold eIf;cases s ρ with
 |ok c=>cases c <;> rfl
 |ex c=>rfl
 |bad=>rfl
theorem Ic:ag ρ=.ok []:=rfl
theorem DH:aa a r ρ=An (a ρ) (r ρ):=by
 unfold aa;cases a ρ <;> cases r ρ <;> rfl
theorem KD:cP r ρ=unK (λxs=>if xs.length<=BIG then .ok (mkT xs) else .bad) (r ρ):=b_ _ _
theorem LG:cK r ρ=unK (λxs=>if xs.length<=BIG then .ok (.ol xs) else .bad) (r ρ):=b_ _ _
theorem Ik:ak f r ρ=unK (λxs=>f (xs.map OD.er)) (r ρ):=b_ _ _
theorem v_b:eB f r ρ=unK (λxs=>f (xs.map OD.er)) (r ρ):=b_ _ _
theorem GY:eSh a ρ=unK (λx=>.ok (.sh x.er)) (a ρ):=b_ _ _
theorem v_bor:vk a ρ=unK (λx=>if flat x.er=true then .ok (.sh x.er) else .bad) (a (erase ρ)):=b_ _ _
theorem HL:rP s ρ=s (erase ρ):=rfl
def FU:OD->R OD
 |.ol xs=>if xs.all (λy=>flat y.er)=true then .ok (.ol (xs.map λy=>.sh y.er)) else .bad
 |_=>.bad
theorem Jd:vd a ρ=unK FU (a (erase ρ)):=by
 unfold vd;cases a (erase ρ) with
 |ok x=>cases x <;> rfl
 |ex c=>rfl
 |bad=>rfl
theorem Lb:erase []=[]:=rfl
theorem J4 (x:OD):erase (some x :: ρ)=some (.sh x.er) :: erase ρ:=rfl
theorem LX:erase (none :: ρ)=none :: erase ρ:=rfl
theorem EK:oT ρ=.ok none:=rfl
def Bk:Gc->R (Option Int)
 |.int i=>.ok (some i)
 |_=>.bad
theorem EB:mX a ρ=unK (λx=>Bk x.er) (a ρ):=by
 unfold mX;rw [b_];cases a ρ with
 |ok x =>
  show (match x.er with | .int i=>R.ok (some i) | _=>.bad)=Bk x.er
  cases x.er <;> rfl
 |ex c=>rfl
 |bad=>rfl
theorem Nj {g:Gc->Option Int->Option Int->R OD}:eSl g a l h ρ=slK g (a ρ) (l ρ) (h ρ):=by
 unfold eSl;cases a ρ <;> cases l ρ <;> cases h ρ <;> rfl
def lstK:Gc->R (List Gc)
 |.list ds=>.ok ds
 |_=>.bad
def r1K:Gc->R (List Gc)
 |.int j=>if aL j=true then .ok (l7 0 j.toNat) else .bad
 |_=>.bad
def enK:Gc->R (List Gc)
 |.list ds=>.ok (dn ds)
 |_=>.bad
theorem GI:dg a ρ=unK (λx=>lstK x.er) (a ρ):=by
 unfold dg;rw [b_];cases a ρ with
 |ok x =>
  show (match x.er with | .list ds=>R.ok ds | _=>.bad)=lstK x.er
  cases x.er <;> rfl
 |ex c=>rfl
 |bad=>rfl
theorem M_:iR1 a ρ=unK (λx=>r1K x.er) (a ρ):=by
 unfold iR1;rw [b_];cases a ρ with
 |ok x =>
  show (match x.er with | .int j=>if aL j=true then R.ok (l7 0 j.toNat) else .bad | _=>.bad)=r1K x.er
  cases x.er <;> rfl
 |ex c=>rfl
 |bad=>rfl
theorem M8:iEn a ρ=unK (λx=>enK x.er) (a ρ):=by
 unfold iEn;rw [b_];cases a ρ with
 |ok x =>
  show (match x.er with | .list ds=>R.ok (dn ds) | _=>.bad)=enK x.er
  cases x.er <;> rfl
 |ex c=>rfl
 |bad=>rfl
def IT (g:Gc->Gc->R (List Gc)):R OD->R OD->R (List Gc)
 |.ok x,.ok y=>g x.er y.er
 |.ok _,.ex c=>.ex c
 |.ok _,.bad=>.bad
 |.ex c,_=>.ex c
 |.bad,_=>.bad
theorem Ng:iR2 a b ρ=IT r2F (a ρ) (b ρ):=by
 unfold iR2;cases a ρ <;> cases b ρ <;> rfl
theorem Mt (i:Nat) (x:OD):gNm i x ρ=.ok (ρ.set i (some x)):=rfl
theorem Mb:fP [] ρ=.ok ρ:=rfl
theorem Ky {g:Fg}:aZ g r (x :: xs) ρ=unK (fun ρ'=>r xs ρ') (g x ρ):=b_ _ _
theorem KS:gTp n r (.sh (.tuple ds)) ρ=if ds.length=n then r (ds.map OD.sh) ρ else .bad:=rfl
theorem Hs {g:Fg}:bu it g t a k outs ρ=FI (it ρ) g t a (sl3 k outs ρ):=by
 unfold bu;cases it ρ with
 |ok ds=>exact b_ _ _
 |ex c=>rfl
 |bad=>rfl
theorem LD:sl3 k outs ρ=replicate k none++outs.map λi=>uF ρ[i]?:=rfl
theorem MR:sNx ρ=.ok (.nx ρ):=rfl
theorem JN:aw p q ρ=EI (p ρ) q:=by
 unfold aw;cases p ρ with
 |ok o=>cases o <;> rfl
 |ex c=>rfl
 |bad=>rfl
theorem Mn (i:Nat):aH i a ρ=unK (λx=>.ok (.nx (ρ.set i (some x)))) (a ρ):=b_ _ _
theorem Hz:cU a ρ=unK (λ_=>.ok (.nx ρ)) (a ρ):=b_ _ _
theorem LJ:aI a ρ=unK (λx=>.ok (.rt x)) (a ρ):=b_ _ _
theorem Js (i:Nat):ly i ρ=BG ρ[i]?:=by
 unfold ly BG;rfl
theorem Ke:sIf s p q ρ=ifK (s ρ) p q ρ:=by
 unfold sIf;cases s ρ with
 |ok c=>cases c <;> rfl
 |ex c=>rfl
 |bad=>rfl
theorem KW (i:Nat):rA i p ρ=p (Bm i ρ):=rfl
theorem IV (i:Nat):Bm i ρ=GZ ρ[i]? i ρ:=by
 unfold Bm GZ;rfl
theorem Ma (i:Nat) {g:Gc->Gc->R OD}:yT i g a ρ=HU ρ[i]? g (a ρ) i ρ:=by
 unfold yT HU;generalize ρ[i]?=o
 cases o with
 |none=>rfl
 |some o =>
  cases o with
  |none=>rfl
  |some x =>
   cases x with
   |sh d =>
    show ((a ρ).bind λy=>(g d y.er).bind λz=>R.ok (Out.nx (ρ.set i (some z))))=_
    rw [b_];show unK _ (a ρ)=unK _ (a ρ)
    first
     |done
     | (congr 1;funext y;exact b_ _ _)
     | (congr 1)
   |ol xs=>rfl
   |ot xs=>rfl
   |od xs=>rfl
   |oi _ _ _=>rfl
   |pl _ _=>rfl
theorem KY (i:Nat):nI i a ρ=HJ ρ[i]? (a ρ) i ρ:=by
 unfold nI HJ;generalize ρ[i]?=o
 cases o with
 |none=>rfl
 |some o =>
  cases o with
  |none=>rfl
  |some x =>
   cases x with
   |sh d=>rfl
   |ol xs=>exact b_ _ _
   |ot xs=>rfl
   |od xs=>rfl
   |oi _ _ _=>rfl
   |pl _ _=>rfl
theorem Mi {g:Fg}:fX it g p ρ=LY (it ρ) g p ρ:=by
 unfold fX;cases it ρ <;> rfl
theorem K4 (T:String):eh T a ρ=unK (λx=>mR T x.er) (a ρ):=b_ _ _
theorem JK:yV a b ρ=JI (a ρ) b ρ:=by
 unfold yV;cases a ρ with
 |ok x =>
  show (match x.er with | .list ds=>(b ρ).bind λy=>tV ds y.er | _=>.bad)=(match x.er with | .list ds=>unK (λy=>tV ds y.er) (b ρ) | _=>.bad)
  cases x.er with
  |list ds=>exact b_ _ _
  |_=>rfl
 |ex c=>rfl
 |bad=>rfl
theorem Le:aM np n p ds=if ds.length=np then EH (p (mC n ds)) else .bad:=by
 unfold aM;congr 1
 cases p (mC n ds) with
 |ok o=>cases o <;> rfl
 |ex c=>rfl
 |bad=>rfl
theorem JQ (d:Gc):GU (some (some (.sh d)))=.ok (.sh d):=rfl
theorem M1 {g:Gc->Gc->R OD}:opK g (.ok x) (.ok y)=g x.er y.er:=rfl
theorem JJ {g:Gc->Gc->R (List Gc)}:IT g (.ok x) (.ok y)=g x.er y.er:=rfl
theorem M3 {α β:Type} {g:α->R β} {x:α}:unK g (.ok x)=g x:=rfl
theorem Kh {α β:Type} {g:α->R β}:unK g (.ex c)=.ex c:=rfl
theorem Jz:Ij (.ok true) t ρ=t ρ:=rfl
theorem Ho:Ij (.ok false) t ρ=.ok false:=rfl
theorem LA:orK (.ok true) t ρ=.ok true:=rfl
theorem Mq:orK (.ok false) t ρ=t ρ:=rfl
theorem Ep:DR (.ok true) a ρ=a ρ:=rfl
theorem Ec:DR (.ok false) a ρ=.ok (.sh (.bool false)):=rfl
theorem H0:orV (.ok true) a ρ=.ok (.sh (.bool true)):=rfl
theorem Gw:orV (.ok false) a ρ=a ρ:=rfl
theorem IY:ifV (.ok true) a b ρ=a ρ:=rfl
theorem IF:ifV (.ok false) a b ρ=b ρ:=rfl
theorem JV:ifK (.ok true) p q ρ=p ρ:=rfl
theorem K9:ifK (.ok false) p q ρ=q ρ:=rfl
theorem IJ:An (.ok x) (.ok xs)=.ok (x :: xs):=rfl
theorem Kl:EI (.ok (.nx ρ)) p=p ρ:=rfl
theorem ID:EI (.ok (.rt x)) p=.ok (.rt x):=rfl
theorem Kq {g:Fg}:LY (.ok ds) g p ρ=bw g p ds ρ:=rfl
theorem Jv {g:Fg}:FI (.ok ds) g t a ρ=unK (λxs=>.ok (.ol xs)) (bH g t a ρ ds []):=rfl
theorem MV {g:Gc->Option Int->Option Int->R OD}:slK g (.ok x) (.ok i) (.ok j)=g x.er i j:=rfl
theorem Mf:HJ (some (some (.ol xs))) (.ok y) i ρ=if xs.length<BIG then .ok (.nx (ρ.set i (some (.ol (xs++[y]))))) else .bad:=rfl
theorem G_:BG (some (some x))=.ok (.rt x):=rfl
theorem KR:GZ (some (some x)) i ρ=ρ.set i (some (.sh x.er)):=rfl
theorem Ip:EH (.ok (.rt x))=.ok x:=rfl
theorem Iw:EH (.ok (.nx ρ))=.ok (.sh .none):=rfl
theorem L4 (x:OD):tru (.ok x)=truth x.er:=rfl
theorem EO (c:Bool):truth (.bool c)=.ok c:=rfl
theorem Km:JI (.ok (.sh (.list ds))) b ρ=unK (λy=>tV ds y.er) (b ρ):=rfl
theorem Ks {g:Gc->Gc->R OD}:HU (some (some (.sh d))) g (.ok y) i ρ=unK (λz=>.ok (.nx (ρ.set i (some z)))) (g d y.er):=rfl
theorem Ls (ds:List Gc):lstK (.list ds)=.ok ds:=rfl
theorem MM (ds:List Gc):enK (.list ds)=.ok (dn ds):=rfl
theorem MN (j:Int):r1K (.int j)=if aL j=true then .ok (l7 0 j.toNat) else .bad:=rfl
theorem MY (i j:Int):r2F (.int i) (.int j)=if (aL i && aL j)=true then .ok (l7 i (j-i).toNat) else .bad:=rfl
theorem Jn (i:Int):Bk (.int i)=.ok (some i):=rfl
theorem Hv (n:Nat) (ds:List Gc):mC n ds=(ds.map λd=>some (OD.sh d))++replicate (n-ds.length) none:=rfl
theorem J5 (d:Gc):uF (some (some (.sh d)))=some (.sh d):=rfl
theorem KG (d e:Gc):mkT [.sh d,.sh e]=.sh (.tuple [d,e]):=rfl
theorem Kk (d e f:Gc):mkT [.sh d,.sh e,.sh f]=.sh (.tuple [d,e,f]):=rfl
theorem Li (d e f g:Gc):mkT [.sh d,.sh e,.sh f,.sh g]=.sh (.tuple [d,e,f,g]):=rfl
theorem Mo (i j:Int):bQ (.int i) (.int j)=.ok (.sh (.int (i+j))):=rfl
theorem Lk (i j:Int):nB (.int i) (.int j)=.ok (.sh (.int (i-j))):=rfl
theorem Mp (i j:Int):kW (.int i) (.int j)=if lC i j=true then .ok (.sh (.int (i * j))) else .bad:=rfl
theorem Lf (i j:Int):eJ (.int i) (.int j)=if 0<j then .ok (.sh (.int (i % j))) else .bad:=rfl
theorem Kv (i j:Int):l8 (.int i) (.int j)=if 0<j/\j<1073741824 then .ok (.sh (.int (i / j))) else .bad:=rfl
theorem Kr (i:Int):gP (.int i)=.ok (.sh (.int (-i))):=rfl
theorem Nn (i j:Int):gLt (.int i) (.int j)=.ok (.sh (.bool (decide (i<j)))):=rfl
theorem My (i j:Int):gGt (.int i) (.int j)=.ok (.sh (.bool (decide (j<i)))):=rfl
theorem M0 (i j:Int):gGe (.int i) (.int j)=.ok (.sh (.bool (decide (j<=i)))):=rfl
theorem MC (i j:Int):gEq (.int i) (.int j)=.ok (.sh (.bool (decide (i=j)))):=rfl
theorem MQ (i j:Int):gNe (.int i) (.int j)=.ok (.sh (.bool (!decide (i=j)))):=rfl
theorem He (i j:Int):xC (.int i) (.int j)=.ok (.sh (.int (i+j))):=rfl
theorem J_ (xs:List Gc) (i:Int):gIx (.list xs) (.int i)=fL (atI xs i):=rfl
theorem Lw (xs:List Gc) (i:Int):gIx (.tuple xs) (.int i)=fL (atI xs i):=rfl
theorem IM (xs:List Gc):a_ [.list xs]=.ok (.sh (.int xs.length)):=rfl
theorem Gk (xs:List Gc):a_ [.tuple xs]=.ok (.sh (.int xs.length)):=rfl
theorem Il (i j:Int):sI [.int i,.int j]=.ok (.sh (.int (if j<i then j else i))):=rfl
theorem Ih (n:Int) (ns:List Int):rj [.list (PyData.int n :: ns.map PyData.int)]=.ok (.sh (.int (um n ns))):=by
 show (match cW ((n :: ns).map PyData.int) with | some (n :: ns)=>oI (um n ns) | _=>.bad)=_
 rw [fR];rfl
theorem GC (ds:List Gc):eL [.list ds]=.ok (.ol (ds.map OD.sh)):=rfl
theorem Ln (ns:List Int) (z:Int) (h:z∈ns):tV (ns.map PyData.int) (.int z)=.ok (.sh (.int (ns.idxOf z:Nat))):=by
 show (match cW (ns.map PyData.int) with | some ns=>if z∈ns then oI (ns.idxOf z:Nat) else .bad | none=>.bad)=_
 rw [fR];show (if z∈ns then oI (ns.idxOf z:Nat) else .bad)=_
 rw [N1 h];rfl
theorem KC (xs:List Gc) (i j:Option Int):vq (.list xs) i j=.ok (.ol ((cutD xs i j).map OD.sh)):=rfl
theorem Iu (d:Gc):fL (some d)=.ok (.sh d):=rfl
theorem at0 (x:α) (xs:List α):atI (x :: xs) 0=some x:=by
 have:atI (x :: xs) ((0:Nat):Int)=some x:=bt rfl;exact this
theorem at1 (x y:α) (xs:List α):atI (x :: y :: xs) 1=some y:=by
 have:atI (x :: y :: xs) ((1:Nat):Int)=some y:=bt rfl;exact this
theorem at2 (x y z:α) (xs:List α):atI (x :: y :: z :: xs) 2=some z:=by
 have:atI (x :: y :: z :: xs) ((2:Nat):Int)=some z:=bt rfl;exact this
theorem K8 (c:Bool):oB c=.ok (.sh (.bool c)):=rfl
end
theorem Ei (h1:-18446744073709551616<i) (h2:i<18446744073709551616):lC i j=true:=by
 unfold lC;rw [Bool.or_eq_true,Yy,Zk,Zk];exact .inl ⟨by lia,by lia⟩
theorem Na (h1:-18446744073709551616<j) (h2:j<18446744073709551616):lC i j=true:=by
 unfold lC;rw [Bool.or_eq_true,Yy,Yy,Zk,Zk,Zk,Zk];exact .inr ⟨by lia,by lia⟩
theorem qT (h1:-4611686018427387904<=i) (h2:i<4611686018427387904):aL i=true:=gT.mpr ⟨by lia,by lia⟩
theorem ik (h:n<1000):(n<BIG)=True:=eq_true (Yt h (by decide))
theorem az (h:n<=1000):(n<=BIG)=True:=eq_true (Yg h (by decide))
theorem de (i:Int) (h:0<j):0<=i % j/\i % j<j:=⟨Int.emod_nonneg _ (by lia),Int.emod_lt_of_pos _ h⟩
theorem wX (xs:List α) (i:Int) (h0:0<=i) (h1:i<xs.length):∃x,xs[i.toNat]?=some x/\atI xs i=some x:=by
 obtain ⟨j,rfl⟩:∃j:Nat,i=j:=⟨i.toNat,by lia⟩
 have hj:j<xs.length:=by lia
 exact ⟨xs[j],by simp [hj],bt (by simp [hj])⟩
theorem CI {g:Fg} (hL:bw g b ds ρ=r) (S:Nat->Env->Prop) (h0:S 0 ρ) (st:∀(i:Nat) (d:Gc) (ρ:Env),ds[i]?=some d->S i ρ->∃ρ1 ρ2,g (.sh d) ρ=.ok ρ1/\(b ρ1=.ok (.nx ρ2)\/b ρ1=.ok (.ct ρ2))/\S (i+1) ρ2) :
  ∃ρ',r=.ok (.nx ρ')/\S ds.length ρ':=by
 obtain ⟨ρ',e,h⟩:=zr S h0 st;exact ⟨ρ',by rw [<-hL,e],h⟩
def p6 (S:Env->Prop):R Out->Prop
 |.ok (.nx ρ)=>S ρ
 |.ok (.ct ρ)=>S ρ
 |_=>False
theorem LK:p6 S (.ok (.nx ρ))=S ρ:=rfl
theorem xy (h:p6 S (unK b r)):∃ρ1 ρ2,r=.ok ρ1/\(b ρ1=.ok (.nx ρ2)\/b ρ1=.ok (.ct ρ2))/\S ρ2:=by
 cases r with
 |ok ρ1 =>
  have h':p6 S (b ρ1):=h;cases hb:b ρ1 with
  |ok o =>
   rw [hb]at h';cases o with
   |nx ρ2=>exact ⟨ρ1,ρ2,rfl,.inl hb,h'⟩
   |ct ρ2=>exact ⟨ρ1,ρ2,rfl,.inr hb,h'⟩
   |bk _=>exact h'.elim
   |rt _=>exact h'.elim
  |ex _=>rw [hb]at h';exact h'.elim
  |bad=>rw [hb]at h';exact h'.elim
 |ex c=>exact h.elim
 |bad=>exact h.elim
theorem eM {P:Prop} {g:Fg} (hL:bw g b ds ρ=r) (S:Nat->Env->Prop) (h0:S 0 ρ) (st:∀(i:Nat) (d:Gc) (ρ:Env),ds[i]?=some d->S i ρ->p6 (S (i+1)) (unK b (g (.sh d) ρ))) (fin:∀ρ',r=.ok (.nx ρ')->S ds.length ρ'->P):P:=by
 obtain ⟨ρ',e,h⟩:=CI hL S h0 λi d ρ hd hS=>by
  obtain ⟨ρ1,ρ2,a,b,c⟩:=xy (st i d ρ hd hS);exact ⟨ρ1,ρ2,a,b,c⟩
 exact fin ρ' e h
theorem pk {P:Prop} (hL:dM t b ρ=r) (I:Nat->Env->Prop) (m:Nat) (h0:I m ρ) (Q:Env->Prop) (st:∀m ρ,I m ρ->(t ρ=.ok false/\Q ρ)\/(t ρ=.ok true/\p6 (fun ρ2=>∃m',m'<m/\I m' ρ2) (b ρ))) (fin:∀ρ',r=.ok (.nx ρ')->Q ρ'->P):P:=by
 obtain ⟨ρ',e,h⟩:=zo I Q (λm ρ hI=>by
  rcases st m ρ hI with h | ⟨h1,h2⟩
  ·exact .inl h
  ·obtain ⟨ρ1,ρ2,a,b,m',c,d⟩:=xy (r:=.ok ρ) h2
   cases a;exact .inr ⟨h1,ρ2,m',b,c,d⟩) m ρ h0
 exact fin ρ' (by rw [<-hL,e]) h
def JA (o:Option (Option OD)) (a k:R OD) (i:Nat) (ρ:Env):R Out:=match o with
 |some (some (.ol xs))=>unK (λy=>unK (λz=>match z.er with
  |.int q=>match ixN xs.length q with
   |some j=>.ok (.nx (ρ.set i (some (.ol (xs.set j y)))))
   |none=>.bad
  |_=>.bad) k) a
 |_=>.bad
theorem tF {β:Type} (o:Option (Option OD)):o=none\/o=some none\/(∃d,o=some (some (.sh d)))\/(∃xs,o=some (some (.ol xs)))\/(∃xs,o=some (some (.ot xs)))\/(∃xs,o=some (some (.od xs)))\/(∃p nm xs,o=some (some (.oi p nm xs)))\/∃a xs,o=some (some (.pl a xs)):=by
 cases o with
 |none=>exact .inl rfl
 |some o =>
  cases o with
  |none=>exact .inr (.inl rfl)
  |some x =>
   cases x with
   |sh d=>exact .inr (.inr (.inl ⟨d,rfl⟩))
   |ol xs=>exact .inr (.inr (.inr (.inl ⟨xs,rfl⟩)))
   |ot xs=>exact .inr (.inr (.inr (.inr (.inl ⟨xs,rfl⟩))))
   |od xs=>exact .inr (.inr (.inr (.inr (.inr (.inl ⟨xs,rfl⟩)))))
   |oi p nm xs=>exact .inr (.inr (.inr (.inr (.inr (.inr (.inl ⟨p,nm,xs,rfl⟩))))))
   |pl a xs=>exact .inr (.inr (.inr (.inr (.inr (.inr (.inr ⟨a,xs,rfl⟩))))))
section
variable {ρ:Env}
theorem v_sub (i:Nat):zN i k a ρ=JA ρ[i]? (a ρ) (k ρ) i ρ:=by
 unfold zN JA;generalize ρ[i]?=o
 rcases tF (β:=Nat) o with rfl | rfl | ⟨d,rfl⟩ | ⟨xs,rfl⟩ | ⟨xs,rfl⟩ | ⟨xs,rfl⟩ | ⟨p,nm,xs,rfl⟩ | ⟨c,xs,rfl⟩
 ·rfl
 ·rfl
 ·rfl
 ·cases a ρ <;> cases k ρ <;> rfl
 ·rfl
 ·rfl
 ·rfl
 ·rfl
theorem Mm (h:ixN xs.length z=some j):JA (some (some (.ol xs))) (.ok y) (.ok (.sh (.int z))) i ρ=.ok (.nx (ρ.set i (some (.ol (xs.set j y))))):=by
 show (match (OD.sh (PyData.int z)).er with
  |.int q=>match ixN xs.length q with
   |some j=>R.ok (Out.nx (ρ.set i (some (.ol (xs.set j y)))))
   |none=>.bad
  |_=>.bad)=_
 rw [aQ];show (match ixN xs.length z with
   |some j=>R.ok (Out.nx (ρ.set i (some (.ol (xs.set j y)))))
   |none=>.bad)=_
 rw [h]
theorem pC (h:j<n):ixN n (j:Int)=some j:=by
 unfold ixN;rw [N1 (by lia),N1 (by lia)]
 simp
def EA (o:Option (Option OD)) (g:Fg) (i:Nat) (ρ:Env):R Out:=match o with
 |some (some (.ol xs))=>match xs.getLast? with
  |some (.sh d)=>unK (fun ρ'=>.ok (.nx ρ')) (g (.sh d) (ρ.set i (some (.ol xs.dropLast))))
  |_=>.bad
 |_=>.bad
theorem K_ (i:Nat) {g:Fg}:Aj i g ρ=EA ρ[i]? g i ρ:=by
 unfold Aj EA;generalize ρ[i]?=o
 rcases tF (β:=Nat) o with rfl | rfl | ⟨d,rfl⟩ | ⟨xs,rfl⟩ | ⟨xs,rfl⟩ | ⟨xs,rfl⟩ | ⟨p,nm,xs,rfl⟩ | ⟨c,xs,rfl⟩
 ·rfl
 ·rfl
 ·rfl
 ·show (match xs.getLast? with
   |some (.sh d)=>(g (.sh d) (ρ.set i (some (.ol xs.dropLast)))).bind fun ρ'=>R.ok (Out.nx ρ')
   |_=>.bad)=(match xs.getLast? with
   |some (.sh d)=>unK (fun ρ'=>R.ok (Out.nx ρ')) (g (.sh d) (ρ.set i (some (.ol xs.dropLast))))
   |_=>R.bad)
  cases xs.getLast? with
  |none=>rfl
  |some x =>
   cases x with
   |sh d=>exact b_ _ _
   |ol _=>rfl
   |ot _=>rfl
   |od _=>rfl
   |oi _ _ _=>rfl
   |pl _ _=>rfl
 ·rfl
 ·rfl
 ·rfl
 ·rfl
theorem yH {g:Fg}:EA (some (some (.ol (xs++[.sh d])))) g i ρ=unK (fun ρ'=>R.ok (Out.nx ρ')) (g (.sh d) (ρ.set i (some (.ol xs)))):=by
 have h1:(xs++[OD.sh d]).getLast?=some (.sh d):=by simp
 unfold EA;simp only [h1,List.dropLast_concat]
theorem Di (h1:ρ[i]?=some (some (.ol xs))) (h2:k ρ=.ok (.sh (.int z))) (h3:ixN xs.length z=some j) (h4:xs[j]?=some (.ol ys)) (h5:a ρ=.ok y) (h6:ys.length<BIG) :
  ow i k a ρ=.ok (.nx (ρ.set i (some (.ol (xs.set j (.ol (ys++[y]))))))):=by
 unfold ow;rw [h1,h2];simp only [aC,aQ,h3,h4,h5,h6,W6]
end
theorem gH {g:Fg} (hL:bH g dG el ρ0 ds []=r) (emb:α->Gc) (y:α->OD) (L:List α) (e:ds=L.map emb) (hl:L.length<=BIG) (h:∀x∈L,unK el (g (.sh (emb x)) ρ0)=.ok (y x)):r=.ok (L.map y):=by
 subst e;rw [<-hL];have go:∀(L:List α) (acc:List OD),(∀x∈L,unK el (g (.sh (emb x)) ρ0)=.ok (y x))->acc.length+L.length<=BIG->bH g dG el ρ0 (L.map emb) acc=.ok (acc++L.map y):=by
  intro L
  induction L with
  |nil=>intro acc _ _;rw [Yh,bH,Yh,Zc]
  |cons x L ih =>
   intro acc h hl;have hx:=h x Zz;rw [Zp]at hl;rw [Zw,bH];cases hg:g (.sh (emb x)) ρ0 with
   |ok ρ =>
    rw [hg]at hx;have hx':el ρ=.ok (y x):=hx;simp only [tM,aC,dG,W6,hx'];rw [N1 (by lia),ih (acc++[y x]) (λz hz=>h z (Zs _ hz)) (by rw [Zv,Zd];lia),Zw,Yq]
    rfl
   |ex c=>rw [hg]at hx;cases hx
   |bad=>rw [hg]at hx;cases hx
 rw [go L [] h (by simpa using hl)]
 rfl
theorem gR {g:Fg} (hL:bH g t el ρ0 ds []=r) (emb:α->Gc) (p:α->Bool) (y:α->OD) (L:List α) (e:ds=L.map emb) (hl:L.length<=BIG) (h:∀x∈L,unK t (g (.sh (emb x)) ρ0)=.ok (p x)/\(p x=true->unK el (g (.sh (emb x)) ρ0)=.ok (y x))):r=.ok ((L.filter p).map y):=by
 subst e;rw [<-hL];have go:∀(L:List α) (acc:List OD),(∀x∈L,unK t (g (.sh (emb x)) ρ0)=.ok (p x)/\(p x=true->unK el (g (.sh (emb x)) ρ0)=.ok (y x)))->acc.length+L.length<=BIG->bH g t el ρ0 (L.map emb) acc=.ok (acc++(L.filter p).map y):=by
  intro L
  induction L with
  |nil=>intro acc _ _;rw [Yh,bH,List.filter_nil,Yh,Zc]
  |cons x L ih =>
   intro acc h hl;obtain ⟨hx,hy⟩:=h x Zz;rw [Zp]at hl;rw [Zw,bH];cases hg:g (.sh (emb x)) ρ0 with
   |ok ρ =>
    rw [hg]at hx hy;have hx':t ρ=.ok (p x):=hx;have hy':p x=true->el ρ=.ok (y x):=hy;simp only [tM,aC,hx'];by_cases hp:p x=true
    ·rw [N1 hp,hy' hp]
     simp only [aC];rw [N1 (by lia),ih (acc++[y x]) (λz hz=>h z (Zs _ hz)) (by rw [Zv,Zd];lia),List.filter_cons_of_pos hp,Zw,Yq]
     rfl
    ·rw [N2 hp,ih acc (λz hz=>h z (Zs _ hz)) (by lia),List.filter_cons_of_neg hp]
   |ex c=>rw [hg]at hx;cases hx
   |bad=>rw [hg]at hx;cases hx
 rw [go L [] h (by simpa using hl)]
 rfl
def lay (n:Nat) (d:Gc):Prop:=d.canLay0=true/\d.depth<=n
theorem EE (i:Int):lay 0 (.int i):=⟨rfl,Zi _⟩
theorem B2 (i:Bool):lay 0 (.bool i):=⟨rfl,Zi _⟩
theorem xF:∀{xs:List Gc},(∀x∈xs,lay n x)->PyData.canLayAll0 xs=true/\PyData.depthAll xs<=n
 |[],_=>⟨rfl,Y1 _⟩
 |x :: xs,h=>by
  obtain ⟨a1,a2⟩:=h x Zz;obtain ⟨b1,b2⟩:=xF (xs:=xs) λy hy=>h y (Zs _ hy)
  unfold PyData.canLayAll0 PyData.depthAll;rw [a1,b1];exact ⟨rfl,by lia⟩
theorem vv (h:∀x∈xs,lay n x):lay (n+1) (.list xs):=by
 obtain ⟨b1,b2⟩:=xF h;refine ⟨by unfold PyData.canLay0;exact b1,?_⟩
 unfold PyData.depth
 lia
theorem ke (h:lay n d) (hn:n<=64):SeqAt.shaped d=true:=by
 unfold SeqAt.shaped;rw [Yy];exact ⟨h.1,Za (Yg h.2 hn)⟩
theorem lay_ints (ns:List Int):lay 1 (.list (ns.map PyData.int)):=vv λx hx=>by
 obtain ⟨n,_,rfl⟩:=ZC.mp hx;exact EE n
theorem qI (a b:List Gc):eqD (.list a) (.list b)=og (.list a) (.list b):=rfl
theorem sH (h:lay n d) (hn:n<=64):og d d=.ok true:=by
 unfold og;rw [ke h hn,Vh,N1 rfl,SeqAt.eqv_refl _ (X9 (ke h hn))]
theorem CF (h:lay n (.list a)) (hn:n<=64:=by decide):gEq (.list a) (.list a)=.ok (.sh (.bool true)):=by
 unfold gEq;rw [qI,sH h hn];rfl
theorem CJ (h:lay n (.list a)) (hn:n<=64:=by decide):gNe (.list a) (.list a)=.ok (.sh (.bool false)):=by
 unfold gNe;rw [qI,sH h hn];rfl
theorem Lr (z:Str) (i:Int):gIx (.str z) (.int i)=if z.length<=BIG then fL ((atI z.cps.toList i).map λc=>.str ⟨#[c]⟩) else .bad:=rfl
theorem Jq (x y:Str):bQ (.str x) (.str y)=if x.length+y.length<=BIG then .ok (.sh (.str (x++y))) else .bad:=rfl
theorem Jw (x y:List Gc):bQ (.list x) (.list y)=if x.length+y.length<=BIG then .ok (.ol ((x++y).map OD.sh)) else .bad:=rfl
theorem IE (xs:List Gc) (k:Int):kW (.list xs) (.int k)=if (decide (-(2 ^ 63)<=k) && decide (k<2 ^ 63) && decide (xs.length * k.toNat<=BIG))=true then .ok (.ol ((replicate k.toNat xs).flatten.map OD.sh)) else .bad:=rfl
theorem xM (x:Gc) (n:Nat) (h:n<=1000):kW (.list [x]) (.int n)=.ok (.ol ((replicate n x).map OD.sh)):=by
 rw [IE,N1]
 ·rw [Zn]
  congr 2
  induction n with
  |zero=>rfl
  |succ n ih=>rw [Yd,Xd,Zh,ih (by lia),Yd,Zw];rfl
 ·rw [Yy,Yy,Zk,Zk,Zk]
  refine ⟨⟨by lia,by lia⟩,?_⟩
  rw [Zn,Zd,Nat.one_mul];exact Y8 (az h)
theorem Lp (x y:Str):gEq (.str x) (.str y)=.ok (.sh (.bool (decide (x=y)))):=rfl
def yu (S:Env->Prop) (T:OD->Prop):R Out->Prop
 |.ok (.nx ρ)=>S ρ
 |.ok (.ct ρ)=>S ρ
 |.ok (.rt x)=>T x
 |_=>False
theorem JZ:yu S T (.ok (.nx ρ))=S ρ:=rfl
theorem Bl {P:Prop} {g:Fg} (hL:bw g b ds ρ=r) (S:Nat->Env->Prop) (T:OD->Prop) (h0:S 0 ρ) (st:∀(i:Nat) (d:Gc) (ρ:Env),ds[i]?=some d->S i ρ->yu (S (i+1)) T (unK b (g (.sh d) ρ))) (fin:∀ρ',r=.ok (.nx ρ')->S ds.length ρ'->P) (fin2:∀x,r=.ok (.rt x)->T x->P):P:=by
 have go:∀(es:List Gc) (k:Nat) (ρ:Env),S k ρ->(∀(i:Nat) (d:Gc) (ρ:Env),es[i]?=some d->S (k+i) ρ->yu (S (k+i+1)) T (unK b (g (.sh d) ρ)))->(∃ρ',bw g b es ρ=.ok (.nx ρ')/\S (k+es.length) ρ')\/∃x,bw g b es ρ=.ok (.rt x)/\T x:=by
  intro es
  induction es with
  |nil=>exact λk ρ h _=>.inl ⟨ρ,rfl,h⟩
  |cons d es ih =>
   intro k ρ h st;have h1:=st 0 d ρ rfl h;rw [bw];cases hg:g (.sh d) ρ with
   |bad=>rw [hg]at h1;exact h1.elim
   |ex c=>rw [hg]at h1;exact h1.elim
   |ok ρ1 =>
    rw [hg]at h1;have h2:yu (S (k+0+1)) T (b ρ1):=h1;rw [aC];cases hb:b ρ1 with
    |bad=>rw [hb]at h2;exact h2.elim
    |ex c=>rw [hb]at h2;exact h2.elim
    |ok o =>
     rw [hb]at h2;rw [aC];have nxt:∀ρ2,S (k+1) ρ2->(∃ρ',bw g b es ρ2=.ok (.nx ρ')/\S (k+(d :: es).length) ρ')\/∃x,bw g b es ρ2=.ok (.rt x)/\T x:=fun ρ2 h3=>by
      have:=ih (k+1) ρ2 h3 λi d' ρ hd hi=>by
       have:=st (i+1) d' ρ (by simpa using hd) (by rw [show k+(i+1)=k+1+i by lia];exact hi)
       rw [show k+(i+1)+1=k+1+i+1 by lia]at this
       exact this
      rw [Zp,show k+(es.length+1)=k+1+es.length by lia]
      exact this
     cases o with
     |nx ρ2=>exact nxt ρ2 h2
     |ct ρ2=>exact nxt ρ2 h2
     |bk _=>exact h2.elim
     |rt x=>exact .inr ⟨x,rfl,h2⟩
 rcases go ds 0 ρ h0 λi d ρ hd hi=>by rw [Wb]at hi ⊢;exact st i d ρ hd hi with ⟨ρ',e,h⟩ | ⟨x,e,h⟩
 ·rw [Wb]at h
  exact fin ρ' (by rw [<-hL,e]) h
 ·exact fin2 x (by rw [<-hL,e]) h
theorem eW (p:α->Bool):∀(L:List α) (i:Nat),(∀k,k<i->∀x,L[k]?=some x->p x=true)->(∀x,L[i]?=some x->p x=false)->i<=L.length->L.takeWhile p=L.take i
 |[],i,_,_,_=>by simp
 |x :: L,0,_,h,_=>by rw [List.takeWhile_cons,h x rfl,Vq];rfl
 |x :: L,i+1,h1,h2,h3=>by
  rw [List.takeWhile_cons,h1 0 (by lia) x rfl,Vl,eW p L i (λk hk y hy=>h1 (k+1) (by lia) y (by simpa using hy)) (λy hy=>h2 y (by simpa using hy)) (by simpa using h3)]
  rfl
theorem BW (xs:List Gc) (a:Nat) (ha:a<=xs.length):cutD xs (some (a:Int)) none=xs.drop a:=by
 unfold cutD;rw [HT.xA,HT.v_,Xu ha,Y4 (by rw [Y2];lia)]
end L3
namespace L3
open PySem L2 PySem.Spec PyProof.Rows
section
end
section
variable {M:Mx} {H:Hp} {σ:St} {X:Cx} {a b c e:M2}
def F6 (K:At):V->Hp->VK->Prop:=λx H Q=>∃a xs,x=.ref a/\SqL K H a xs/\∀p,H p=none->Q (.ref p) (upd H p (.lst xs.reverse))
def tRv (r:V->Hp->VK->Prop) (te ts:TE):TE:=fun σ H Q=>te σ H λx H1=>ts σ H1 λz H2=>z=.int (-1)/\r x H2 Q
theorem Ig {st:M2} {ops:Db->Db->List Db} (he:PE X e te) (hs:PE X st ts) (hsub:∀v u,subscripted (.Slice none none (some st) p2) false v u=operate (ops v u) (getItem v u)):PE X (.Subscript e (.Slice none none (some st) p2) pos) (tRv (F6 X.K) te ts):=by
 intro pins s σ H Q I h;refine Subscript_ (thn (he pins s σ H _ I h) λv s1 ⟨x,H1,I1,r1,q1⟩=>?_)
 refine wpAny_Slice ?_;rw [evalPart_none];refine Yn ?_;refine Yn ?_;rw [evalPart_some];refine thn (hs pins s1 σ H1 _ I1 q1) λvs s3 ⟨z,H3,I3,r3,q3⟩=>?_
 obtain ⟨rfl,q3⟩:=q3;obtain ⟨t3,rfl⟩:=r3;obtain ⟨a,xs,rfl,hx,q⟩:=q3;cases r1;have I4:Inv X pins σ H3 { s3 with heap:=s3.heap.push { cls:=.type "slice",data:=.fields #[.none,.none,.int (-1) t3] } }:=I3.kept (t':=s3.toks) λb ob q=>Zl _ q
 show wpAny (model X.prog X.w) X.A (subscriptTail e (.Slice none none (some st) p2) (.ref a) (.ref s3.heap.objs.size)) (EP X pins σ Q) X.xe { s3 with heap:=s3.heap.push { cls:=.type "slice",data:=.fields #[.none,.none,.int (-1) t3] } }
 obtain ⟨its,r,ht,hz⟩:=I4.list hx;refine tail_any (ops:=ops (.ref a) (.ref s3.heap.objs.size)) ht.isList.typeIs slot_list_getitem.lookup ?_ (hsub _ _);refine wpAny_getItem_list_slice ht.isList (Heap.IsSliceOf.new ..) .none .none (.int (-1) t3) (by simp) ?_ (by rw [Z0,<-r.length];exact hz)
 rw [PySem.W.krv_pick];refine ⟨.ref _,_,I4.laid (t':=s3.toks) (o:=.lst xs.reverse) (λb ob q=>Zl _ q) (Zi _) ?_,rfl,q _ (I4.hok.fresh (Zi _))⟩
 refine ⟨by rw [List.length_reverse];exact hz,its.reverse,0,r.reverse,?_⟩
 have e:its.toArray.toList.reverse.toArray=its.reverse.toArray:=by simp
 rw [e];exact Yr _ rfl
def BO (a s:Fe):Fe:=fun ρ=>(a ρ).bind λx=>(s ρ).bind λz=>match x.er,z.er with
 |.list ds,.int k=>if k=-1 then .ok (.ol (ds.reverse.map OD.sh)) else .bad
 |_,_=>.bad
theorem RepAll.rev {K:At} {F:Hp}:∀{vs:List V} {ds:List Gc},RepAll K F vs ds->RepAll K F vs.reverse ds.reverse
 |_,_,.nil=>.nil
 |_,_,.cons h r=>by
  rw [X4,X4];exact RepAll.app (RepAll.rev r) (.cons h .nil)
theorem LL (h:tD M n (BO fa fb) σ H Q):tRv (F6 M.K) (tD M n fa) (tD M n fb) σ H Q:=by
 obtain ⟨F,ρ,fp,S,p⟩:=h;refine ⟨F,ρ,fp,S,(aq.bind p).mono λx px v F1 H1 fx e1 r1 w1=>?_⟩
 obtain ⟨G1,d1,k1⟩:=r1.frz e1 w1;refine ⟨G1,ρ,fp,S.ext d1,((aq.bind px).ext d1).mono λy py v2 F2 H2 fy e2 r2 w2=>?_⟩
 obtain ⟨G2,d2,k2⟩:=r2.frz e2 w2;have e12:=d1.trans d2;generalize x.er=dx at py k1
 generalize y.er=dy at py k2
 split at py
 ·rename_i ds k
  cases k2;by_cases hk:k=-1
  ·rw [N1 hk]at py
   cases k1 with
   |@lst a vs _ h1 h2=>exact ⟨by rw [hk],a,vs,rfl,((h1.same d2.ff).same d2.fh).sq,λp hp=>OkE.lstD d2.fh (OkE.pre e12 py) (RepAll.rev (h2.same d2.ff)) hp⟩
  ·rw [N2 hk]at py
   exact py.elim
 ·exact py.elim
theorem Hi {st:M2} (ops:Db->Db->List Db) (he:DE M X e fa) (hs:DE M X st fb) (hsub:∀v u,subscripted (.Slice none none (some st) p2) false v u=operate (ops v u) (getItem v u):=by intro _ _;with_unfolding_all rfl):DE M X (.Subscript e (.Slice none none (some st) p2) pos) (BO fa fb):=λhK hM=>by
 have q:=Ig (pos:=pos) (p2:=p2) (he hK hM) (hs hK hM) hsub;rw [hK]at q;exact peI q λ_ _ _ z=>LL z
theorem A4:BO fa fb ρ=opK (λx z=>match x,z with
 |.list ds,.int k=>if k=-1 then .ok (.ol (ds.reverse.map OD.sh)) else .bad
 |_,_=>.bad) (fa ρ) (fb ρ):=by
 unfold BO;cases fa ρ <;> cases fb ρ <;> rfl
def qA (a:Fe) (i:Nat):Fs:=fun ρ=>(a ρ).bind λy=>match ρ[i]? with
 |some (some x)=>.ok (.rt (.ot [y,x]))
 |_=>.bad
theorem Hb {f g:List Is} (hf:f.Nodup) (hg:g.Nodup) (d:∀a∈f,a∉g) (n1:p∉f) (n2:p∉g):(p :: (f++(g++[]))).Nodup:=by
 rw [Zc,Xn,Yx];exact ⟨λm=>(Z5.mp m).elim n1 n2,hf,hg,λa ha b hb e=>d a ha (e▸hb)⟩
theorem Dx (h:tS M n (qA fa i) D σ H):CV (HY (e8 (tD M n fa) (e8 (fm i) qM))) D σ H:=by
 obtain ⟨F,ρ,fp,S,p⟩:=h;refine ⟨F,ρ,fp,S,(aq.bind p).mono λy py w F1 H1 fy e1 r1 w1=>?_⟩
 split at py
 ·rename_i x e
  obtain ⟨v,f,g1,g2,h1,h2,rfl,h4⟩:=S.own.at e;have sub:∀a∈f,a∈g1++(f++g2):=λa m=>Zt _ (Zm _ m)
  have fnd:f.Nodup:=by
   have nd:=S.nd;simp only [Yx]at nd;exact nd.2.1.1
  refine ⟨v,h1,by show 2<=sizeLine;decide,λq hq=>?_⟩
  have x1:Own M.K F1 H1 v x f:=h2.mono e1.ff λa _ o z=>e1.hh _ _ z
  have q1:q∉f:=λm=>by
   obtain ⟨o,z⟩:=x1.dom q m;rw [hq]at z;cases z
  have q2:q∉fy:=λm=>by
   obtain ⟨o,z⟩:=r1.own.dom q m;rw [hq]at z;cases z
  have dd:∀a∈fy,a∉f:=λa z m=>by
   obtain ⟨o,u⟩:=h2.dom a m;rw [w1 a z]at u;cases u
  have up:∀a o,H1 a=some o->upd H1 q (.tup [w,v]) a=some o:=λa o z=>by
   rw [av (aG z hq)];exact z
  refine py (.ref q) F1 (upd H1 q (.tup [w,v])) (q :: (fy++(f++[]))) (Ext.alloc e1.fh hq).fh ⟨.ot aE (.cons (r1.own.mono (ax.refl _) λa _ o z=>up a o z) (.cons (x1.mono (ax.refl _) λa _ o z=>up a o z) .nil)),Hb r1.nd fnd dd q2 q1,λa m=>?_⟩ ⟨e1.ff,λa o z _=>up a o (e1.hh _ _ z),λa m=>?_,λa z _ u=>e1.nw a z u⟩
  ·rw [Zc]at m
   rcases Xz.mp m with rfl | m
   ·exact e1.fh.free hq
   ·rcases Z5.mp m with m | m
    ·exact r1.fr a m
    ·exact let ⟨_,z⟩:=h2.dom a m;e1.nw a (bg z) (S.fr a (sub a m))
  ·rw [Zc]at m
   rcases Xz.mp m with rfl | m
   ·exact .inr (e1.hh.free hq)
   ·rcases Z5.mp m with m | m
    ·exact .inr (w1 a m)
    ·exact .inl (sub a m)
 ·exact py.elim
theorem A9 (i:Nat) {x1} (h:DE M X e fa) (hN:X.N[i]?=some x:=by rfl) (hv:Vis X.env.scope x:=by first | exact Or.inl rfl | exact Or.inr (Or.inl rfl) | exact Or.inr (Or.inr rfl)) (hd:(x == ("__debug__" : Str))=false:=by decide) (hcd:(x == ("__classdict__" : Str))=false:=by decide) (hs1:starEach [e,.Name x p] X.env=(false,eval e X.env) :: starEach [.Name x p] X.env:=by rfl) (hs2:starEach [.Name x p] X.env=(false,eval (.Name x p) X.env) :: starEach [] X.env:=by rfl) :
  DS M X (.Return (some (.Tuple [e,.Name x p] x1 pt)) pos) (qA fa i):=λhK hM=>psI (oR (CK (bB (h hK hM) (bB (aK hN hv hd hcd) fW hs2) hs1))) λ_ _ _ q=>Dx q
theorem Dk (h1:ρ[i]?=some (some x)) (h2:fa ρ=.ok y):qA fa i ρ=.ok (.rt (.ot [y,x])):=by
 unfold qA;rw [h2,aC,h1]
end
def gm (i:Nat) (kk:Int) (a:Fe):Nat->Nat->Env->R Out
 |0,_,ρ=>.ok (.nx ρ)
 |c+1,m,ρ=>match ρ[i]? with
  |some (some (.ol xs))=>match xs[m]? with
   |some (.ol ys)=>(a ρ).bind λy=>match ixN ys.length kk with
    |some q=>gm i kk a c (m+1) (ρ.set i (some (.ol (xs.set m (.ol (ys.set q y))))))
    |none=>.bad
   |_=>.bad
  |_=>.bad
section
end
section
end
def keyOf:Gc->Option Key
 |.int i=>some (.inl i)
 |.str x=>some (.inr x)
 |_=>none
theorem vi (k:Key):keyOf (kD k)=some k:=by cases k <;> rfl
def rB (kvs:List (Key×Gc)) (k:Key):Option Gc:=(kvs.find? λkv=>decide (kv.1=k)).map (·.2)
def putD (kvs:List (Key×Gc)) (k:Key) (d:Gc):List (Key×Gc) :=
 if (kvs.any λkv=>decide (kv.1=k))=true then kvs.map (λkv=>if kv.1=k then (kv.1,d) else kv) else kvs++[(k,d)]
def ml (kvs:List (Gc×Gc)) (k:Key):Option Gc:=(kvs.find? λkv=>decide (keyOf kv.1=some k)).map (·.2)
theorem wa (kvs:List (Key×Gc)) (k:Key):ml (kvs.map λp=>(kD p.1,p.2)) k=rB kvs k:=by
 unfold ml rB
 induction kvs with
 |nil=>rfl
 |cons p r ih =>
  rw [Zw,Xt,Xt];by_cases h:p.1=k
  ·rw [Za h,Za (by show keyOf (kD p.1)=some k;rw [vi,h])]
   rfl
  ·rw [Zq h,Zq (by show ¬keyOf (kD p.1)=some k;rw [vi];exact λz=>h (Yv z))]
   exact ih
def gDx:Gc->Gc->R OD
 |.dict kvs,y=>match keyOf y with
  |some k=>fL (ml kvs k)
  |none=>.bad
 |_,_=>.bad
theorem MI (kvs:List (Key×Gc)) (i:Int):gDx (dD kvs) (.int i)=fL (rB kvs (.inl i)):=by
 show fL (ml _ _)=_
 rw [wa]
def eD1 (a b:Fe):Fe:=fun ρ=>(a ρ).bind λx=>(b ρ).bind λy=>match keyOf x.er with
 |some k=>.ok (.od [(k,y.er)])
 |none=>.bad
def sDP (i:Nat) (k a:Fe):Fs:=fun ρ=>match ρ[i]? with
 |some (some (.od kvs))=>(a ρ).bind λy=>(k ρ).bind λz=>match keyOf z.er with
  |some q=>if kvs.length<BIG then .ok (.nx (ρ.set i (some (.od (putD kvs q y.er))))) else .bad
  |none=>.bad
 |_=>.bad
section
variable {K:At} {F H:Hp}
theorem vh:∀{kvs:List (Key×V)} {ds:List (Key×Gc)} {k:Key} {d:Gc},kvs.map (·.1)=ds.map (·.1)->RepAll K F (kvs.map (·.2)) (ds.map (·.2))->rB ds k=some d->∃v,qK kvs k=some v/\Rep K F v d
 |[],[],_,_,_,_,e=>by cases e
 |[],_ :: _,_,_,h,_,_=>by cases h
 |_ :: _,[],_,_,h,_,_=>by cases h
 |p :: kvs,q :: ds,k,d,h,r,e=>by
  rw [Zw,Zw]at h r;obtain ⟨h1,h2⟩:=Wh h;cases r with
  |cons r1 r2 =>
   unfold rB at e;rw [Xt]at e;by_cases hq:q.1=k
   ·rw [Za hq]at e
    have e':=Yv e;exact ⟨p.2,nj (h1.trans hq),by rw [<-e'];exact r1⟩
   ·rw [Zq hq]at e
    obtain ⟨v,a,b⟩:=vh (k:=k) (d:=d) h2 r2 e;exact ⟨v,by rw [nt (λz=>hq (h1.symm.trans z))];exact a,b⟩
theorem B5 {kvs:List (Key×V)} {ds:List (Key×Gc)} (k:Key) (h:kvs.map (·.1)=ds.map (·.1)):(kvs.any λkv=>decide (kv.1=k))=(ds.any λkv=>decide (kv.1=k)):=by
 have e1:(kvs.any λkv=>decide (kv.1=k))=(kvs.map (·.1)).any λx=>decide (x=k):=by rw [List.any_map];rfl
 have e2:(ds.any λkv=>decide (kv.1=k))=(ds.map (·.1)).any λx=>decide (x=k):=by rw [List.any_map];rfl
 rw [e1,e2,h]
theorem vH (hv:Rep K F v d):∀{kvs:List (Key×V)} {ds:List (Key×Gc)},kvs.map (·.1)=ds.map (·.1)->RepAll K F (kvs.map (·.2)) (ds.map (·.2)) ->
  (kvs.map λkv=>if kv.1=k then (kv.1,v) else kv).map (·.1)=(ds.map λkv=>if kv.1=k then (kv.1,d) else kv).map (·.1)/\RepAll K F ((kvs.map λkv=>if kv.1=k then (kv.1,v) else kv).map (·.2)) ((ds.map λkv=>if kv.1=k then (kv.1,d) else kv).map (·.2))
 |[],[],_,_=>⟨rfl,.nil⟩
 |[],_ :: _,h,_=>by cases h
 |_ :: _,[],h,_=>by cases h
 |p :: kvs,q :: ds,h,r=>by
  rw [Zw,Zw]at h r;obtain ⟨h1,h2⟩:=Wh h;cases r with
  |cons r1 r2 =>
   obtain ⟨a,b⟩:=vH hv h2 r2;rw [Zw,Zw,Zw,Zw,Zw,Zw,a];by_cases hq:q.1=k
   ·rw [N1 hq,N1 (h1.trans hq)]
    exact ⟨by rw [h1],.cons hv b⟩
   ·rw [N2 hq,N2 (λz=>hq (h1.symm.trans z))]
    exact ⟨by rw [h1],.cons r1 b⟩
theorem AH (hv:Rep K F v d) (h:kvs.map (·.1)=ds.map (·.1)) (r:RepAll K F (kvs.map (·.2)) (ds.map (·.2))) :
  (putK kvs k v).map (·.1)=(putD ds k d).map (·.1)/\RepAll K F ((putK kvs k v).map (·.2)) ((putD ds k d).map (·.2)):=by
 unfold putK putD;rw [B5 k h];by_cases ha:(ds.any λkv=>decide (kv.1=k))=true
 ·rw [N1 ha,N1 ha]
  exact vH hv h r
 ·rw [N2 ha,N2 ha,Zh,Zh,Zh,Zh,h]
  exact ⟨rfl,r.app (.cons hv .nil)⟩
theorem mE (r:Rep K F y d) (e:keyOf d=some k):y=kV k:=by
 cases r with
 |non=>cases e
 |bl _=>cases e
 |int i=>cases e;rfl
 |str x=>cases e;rfl
 |lst _ _=>cases e
 |tup _ _=>cases e
 |dct _ _ _ =>
  have e':(none:Option Key)=some k:=e;cases e'
 |ins _ _ _ =>
  have e':(none:Option Key)=some k:=e;cases e'
end
section
variable {H:Hp} {Q:VK}
def L9:R2:=λx y H Q=>∃a v,x=.ref a/\De H a y (some v)/\Q v H
theorem Ao (nm:Str) (ds:List (Str×Gc)) (k:Key):ml ((.none,.str nm) :: ds.map λp=>(.tuple [.str p.1],p.2)) k=none:=by
 unfold ml;rw [Option.map_eq_none_iff,List.find?_eq_none];intro x hx;rcases Xz.mp hx with rfl | hx
 ·exact λh=>by cases k <;> simp [keyOf]at h
 ·obtain ⟨p,_,rfl⟩:=ZC.mp hx
  exact λh=>by cases k <;> simp [keyOf]at h
theorem Lj:Ok2 M L9 gDx:=by
 intro x y dx dy F H fp Q s rx ry p;cases rx with
 |non=>exact p.elim
 |bl _=>exact p.elim
 |int _=>exact p.elim
 |str _=>exact p.elim
 |lst _ _=>exact p.elim
 |tup _ _=>exact p.elim
 |@ins a C dx fs nm ds h1 h2 h3 =>
  have p1:aq M H fp (OkE M F H Q) (match keyOf dy with
   |some k=>fL (ml ((.none,.str nm) :: ds.map λp=>(.tuple [.str p.1],p.2)) k)
   |none=>.bad):=p
  cases hk:keyOf dy with
  |none =>
   rw [hk]at p1;exact p1.elim
  |some k =>
   rw [hk]at p1;have p2:aq M H fp (OkE M F H Q) (fL (ml ((.none,.str nm) :: ds.map λp=>(.tuple [.str p.1],p.2)) k)):=p1
   rw [Ao]at p2;exact p2.elim
 |@dct a kvs ds h1 h2 h3 =>
  have p1:aq M H fp (OkE M F H Q) (match keyOf dy with
   |some k=>fL (ml (ds.map λp=>(kD p.1,p.2)) k)
   |none=>.bad):=p
  cases hk:keyOf dy with
  |none =>
   rw [hk]at p1;exact p1.elim
  |some k =>
   rw [hk]at p1;have p2:aq M H fp (OkE M F H Q) (fL (ml (ds.map λp=>(kD p.1,p.2)) k)):=p1
   rw [wa]at p2;cases hv:rB ds k with
   |none =>
    rw [hv]at p2;exact p2.elim
   |some d =>
    rw [hv]at p2;obtain ⟨v,v1,v2⟩:=vh h2 h3 hv;exact ⟨a,v,rfl,.inl ⟨kvs,k,.inl (s _ _ h1),mE ry hk,v1.symm⟩,OkE.val s p2 v2⟩
theorem Ee (h:tD M n (eD1 fa fb) σ H Q):FG [(tD M n fa,tD M n fb)] σ H Q:=by
 obtain ⟨F,ρ,fp,S,p⟩:=h;intro q hq;have e0:Ext F H F (upd H q (.dK [])):=Ext.alloc S.same hq;refine ⟨F,ρ,fp,S.ext e0,((aq.bind p).ext e0).mono λx px v F1 H1 fx e1 r1 w1=>?_⟩
 obtain ⟨G1,d1,k1⟩:=r1.frz e1 w1;have e01:=e0.trans d1;refine ⟨G1,ρ,fp,(S.ext e0).ext d1,((aq.bind px).ext e01).mono λy py u F2 H2 fy e2 r2 w2=>?_⟩
 obtain ⟨G2,d2,k2⟩:=r2.frz e2 w2;have hq2:H2 q=some (.dK []):=d2.hh _ _ (d1.hh _ _ aE);refine ⟨hq2,?_⟩;cases hk:keyOf x.er with
 |none =>
  rw [hk]at py;exact py.elim
 |some k =>
  rw [hk]at py;have kv:=mE k1 hk;refine ⟨[(k,u)],by rw [kv];rfl,(show 1<=15 by decide),?_⟩
  have em:n_ [] [(k,u)]=[(k,u)]:=rfl;rw [em];have py':OkE M F H Q (.od [(k,y.er)]):=py;have d02:=e01.trans d2;have Fq:F q=none:=S.same.free hq;have G2q:G2 q=none:=(d1.trans d2).nw q (bg aE) Fq;refine py' (.ref q) G2 _ [q] ⟨d02.ff,λb o z=>?_,λb o z=>?_,λb z w=>?_⟩ ⟨.od aE rfl (.cons k2 .nil),by simp,λb m=>?_⟩ λb m=>?_
  ·have hb:b≠q:=by
    rintro rfl;rw [hq]at z;cases z
   rw [av hb];exact d2.hh _ _ (d1.hh _ _ (by rw [av hb];exact z))
  ·have hb:b≠q:=by
    rintro rfl;rw [G2q]at z;cases z
   rw [av hb];exact d2.fh _ _ z
  ·have hb:b≠q:=by
    rintro rfl;exact z hq
   exact (d1.trans d2).nw b (by rw [av hb];exact z) w
  ·have:b=q:=by simpa using m
   rw [this];exact G2q
  ·have:b=q:=by simpa using m
   rw [this];exact hq
theorem Stt.writeD {K:At} {F:Hp} (S:Stt K n F H σ ρ fp) (hx:ρ[i]?=some (some (.od ds))) :
  ∃a kvs,σ[i]?=some (some (.ref a))/\H a=some (.dK kvs)/\kvs.map (·.1)=ds.map (·.1)/\RepAll K F (kvs.map (·.2)) (ds.map (·.2)) /\
   ∀F1 H1 kvs' ds',Ext F H F1 H1->kvs'.map (·.1)=ds'.map (·.1)->RepAll K F1 (kvs'.map (·.2)) (ds'.map (·.2)) ->
    ∃fp',Stt K n F1 (upd H1 a (.dK kvs')) σ (ρ.set i (some (.od ds'))) fp'/\Stp F H fp F1 (upd H1 a (.dK kvs')) fp':=by
 obtain ⟨v,f0,g1,g2,h1,h2,rfl,h4⟩:=S.own.at hx;cases h2 with
 |@od a kvs _ ha hk hr =>
  have nd:=S.nd;simp only [Yx,Z5,Y6,Xn,Xz,Yf]at nd;obtain ⟨n1,⟨na,n2⟩,n5⟩:=nd;refine ⟨a,kvs,h1,ha,hk,hr,λF1 H1 kvs' ds' e q1 q2=>?_⟩
  have fa:F1 a=none:=e.nw a (bg ha) (S.fr a (by simp))
  have own:=h4 F1 (upd H1 a (.dK kvs')) e.ff (λb m o q=>by
   have:b≠a:=by
    rintro rfl;rcases Z5.mp m with m | m
    ·exact n5 b m b (.inl rfl) rfl
    ·exact na m
   rw [av this];exact e.hh _ _ q) (.ref a) (.od ds') [a] (.od aE q1 q2)
  rw [kU h1]at own;have frs:∀b∈g1++([a]++g2),F1 b=none:=λb m=>let ⟨_,q⟩:=S.own.dom b m;e.nw b (bg q) (S.fr b m)
  refine ⟨g1++([a]++g2),⟨?_,own,S.nd,frs,by rw [Y3];exact S.len⟩,⟨e.ff,λb o q m=>?_,λb m=>.inl m,λb q m z=>e.nw b q z⟩⟩
  ·intro b o q
   rw [av (aG q fa)];exact e.fh _ _ q
  ·have hb:b≠a:=by
    rintro rfl;exact m (by simp)
   rw [av hb];exact e.hh _ _ q
theorem Gb (h:tS M n (sDP i k a) D σ H):Ff (fm i) (tD M n k) (tD M n a) D σ H:=by
 obtain ⟨F,ρ,fp,S,p⟩:=h;unfold sDP at p;split at p
 ·rename_i ds e
  refine ⟨F,ρ,fp,S,(aq.bind p).mono λy py v F1 H1 fy e1 r1 w1=>?_⟩
  obtain ⟨G1,d1,k1⟩:=r1.frz e1 w1;obtain ⟨l,kvs,h1,h2,h3,h4,wr⟩:=S.writeD e;refine ⟨_,h1,G1,ρ,fp,S.ext d1,((aq.bind py).ext d1).mono λz pz u F2 H2 fz e2 r2 w2=>?_⟩
  obtain ⟨G2,d2,k2⟩:=r2.frz e2 w2;have e12:=d1.trans d2;cases hk:keyOf z.er with
  |none =>
   rw [hk]at pz;exact pz.elim
  |some q =>
   rw [hk]at pz;have pz':aq M H fp (dF M n F H fp D) (if ds.length<BIG then .ok (.nx (ρ.set i (some (.od (putD ds q y.er))))) else .bad):=pz
   by_cases hl:ds.length<BIG
   ·rw [N1 hl]at pz'
    have hlen:kvs.length=ds.length:=by
     have:=Yl List.length h3;rw [Zy,Zy]at this;exact this
    have rp:=AH (k:=q) (k1.same d2.ff) h3 (h4.same e12.ff);obtain ⟨fp',S',st⟩:=wr G2 H2 _ _ e12 rp.1 rp.2;exact ⟨l,_,rfl,.inl ⟨kvs,q,e12.hh _ _ h2,mE k2 hk,by rw [hlen];exact tR hl,rfl⟩,pz' σ G2 _ fp' S' st⟩
   ·rw [N2 hl]at pz'
    exact pz'.elim
 ·exact p.elim
end
section
variable {X:Cx} {p pos pos':Pos}
theorem J7 (hu:X.A.units+1<cLine) (ha:DE M X a fa) (hb:DE M X b fb) (hs:Hg b):DE M X (.Subscript a b pos) (eOp gDx fa fb):=λhK hM =>
 peI (Dc hu (ha hK hM) (hb hK hM) hs) λ_ _ _ q=>BQ Lj q
theorem K5 (ha:DE M X a fa) (hb:DE M X b fb):DE M X (.Dict [some a] [b] pos) (eD1 fa fb):=λhK hM =>
 peI (DZ (Bz (ha hK hM) (hb hK hM) Dh) rfl rfl (by simp) (show 1<=15 by decide)) λ_ _ _ q=>Ee q
theorem xU (i:Nat) (hu:X.A.units+1<cLine) (hb:DE M X b fb) (h:DE M X e fa) (hN:X.N[i]?=some x:=by rfl) (hv:Vis X.env.scope x:=by first | exact Or.inl rfl | exact Or.inr (Or.inl rfl) | exact Or.inr (Or.inr rfl)) (hd:(x == ("__debug__" : Str))=false:=by decide) (hcd:(x == ("__classdict__" : Str))=false:=by decide)
  (hs:swapsWith e (some (.Subscript (.Name x p) b pos')) pos.line X.env=pure false:=by rfl):DS M X (.Assign [.Subscript (.Name x p) b pos'] e pos) (sDP i fb fa):=λhK hM =>
 psI (ER hu (aK hN hv hd hcd) (hb hK hM) (h hK hM) hs) λ_ _ _ q=>Gb q
end
section
variable {ρ:Env} {a b k:Fe}
def Bp (o:Option (Option OD)) (a k:R OD) (i:Nat) (ρ:Env):R Out:=match o with
 |some (some (.od kvs))=>unK (λy=>unK (λz=>match keyOf z.er with
  |some q=>if kvs.length<BIG then .ok (.nx (ρ.set i (some (.od (putD kvs q y.er))))) else .bad
  |none=>.bad) k) a
 |_=>.bad
theorem CY (i:Nat):sDP i k a ρ=Bp ρ[i]? (a ρ) (k ρ) i ρ:=by
 unfold sDP Bp;generalize ρ[i]?=o
 rcases tF (β:=Nat) o with rfl | rfl | ⟨d,rfl⟩ | ⟨xs,rfl⟩ | ⟨xs,rfl⟩ | ⟨xs,rfl⟩ | ⟨p,nm,xs,rfl⟩ | ⟨c,xs,rfl⟩
 ·rfl
 ·rfl
 ·rfl
 ·rfl
 ·rfl
 ·cases a ρ <;> cases k ρ <;> rfl
 ·rfl
 ·rfl
theorem AY:Bp (some (some (.od kvs))) (.ok (.sh d)) (.ok (.sh (.int z))) i ρ=if kvs.length<BIG then .ok (.nx (ρ.set i (some (.od (putD kvs (.inl z) d))))) else .bad:=by
 show (match keyOf (OD.sh (PyData.int z)).er with
  |some q=>if kvs.length<BIG then R.ok (Out.nx (ρ.set i (some (.od (putD kvs q (OD.sh d).er))))) else .bad
  |none=>.bad)=_
 rw [aQ,aQ];rfl
end
theorem wA (r:Room k A):A.units+1<cLine:=by have:=r.units;lia
section
end
section
end
def signs (x:Str):List Gc:=x.cps.toList.map λc=>PyData.str ⟨#[c]⟩
section
end
section
end
section
end
section
end
section
end
section
end
section
end
end L3
namespace L3
open PySem L2
end L3
namespace L2
open PySem PySem.Spec PyProof.Rows
def vc (scope:Scope) (cl:List (Str×Is)) (C:Is) (env:Env):Env:=compEnvC scope (cellsFrom (C+1) scope.names cl) C env
theorem eG:∀(names:List (Str×NameKind)) (n:Nat) (acc:List (Str×Is)) {x:Str} {c:Is},(cellsFrom n names acc).lookup x=some c->acc.lookup x=some c\/(n<=c/\(x,NameKind.cell)∈names)
 |[],n,acc,x,c,h=>.inl h
 | (y,k) :: r,n,acc,x,c,h=>by
  unfold cellsFrom at h;split at h
  ·rename_i hk
   have hk':k=.cell:=by simpa using hk
   rcases eG r (n+1) _ h with h | ⟨h1,h2⟩
   ·rw [Z2]at h
    cases hx:x == y with
    |true =>
     rw [hx]at h;cases h;have:x=y:=by simpa using hx
     exact .inr ⟨Zi _,by rw [<-hk',this];exact Zz⟩
    |false =>
     rw [hx]at h;exact .inl h
   ·exact .inr ⟨by lia,Zs _ h2⟩
  ·rcases eG r n _ h with h | ⟨h1,h2⟩
   ·exact .inl h
   ·exact .inr ⟨h1,Zs _ h2⟩
theorem hX:∀(names:List (Str×NameKind)) (n:Nat) (acc:List (Str×Is)) {x:Str},(x,NameKind.cell)∉names->(cellsFrom n names acc).lookup x=acc.lookup x
 |[],n,acc,x,h=>rfl
 | (y,k) :: r,n,acc,x,h=>by
  unfold cellsFrom;split
  ·rename_i hk
   have hk':k=.cell:=by simpa using hk
   rw [hX r (n+1) _ λz=>h (Zs _ z),Z2]
   have:(x == y)=false:=by
    cases hx:x == y with
    |false=>rfl
    |true =>
     have e:x=y:=by simpa using hx
     exact absurd (by rw [e,<-hk'];exact Zz) h
   rw [this]
  ·exact hX r n _ λz=>h (Zs _ z)
theorem hZ:∀(names:List (Str×NameKind)) (h:N0) (acc:List (Str×Is)) {x:Str} {c:Is},(cellsFrom h.objs.size names acc).lookup x=some c->acc.lookup x=some c\/(pushCells h names).IsCell c none
 |[],h,acc,x,c,e=>.inl e
 | (y,k) :: r,h,acc,x,c,e=>by
  unfold cellsFrom at e;unfold pushCells;split at e
  ·rename_i hk
   rw [N1 hk];have sz:(h.push { cls:=.type "cell",data:=.cell none }).objs.size=h.objs.size+1:=Xo ..;rw [<-sz]at e;rcases hZ r (h.push { cls:=.type "cell",data:=.cell none }) _ e with q | q
   ·rw [Z2]at q
    cases hx:x == y with
    |true =>
     rw [hx]at q;cases q;exact .inr ⟨_,pushCells_keeps _ _ _ _ (Yr _ rfl),rfl⟩
    |false =>
     rw [hx]at q;exact .inl q
   ·exact .inr q
  ·rename_i hk
   rw [N2 hk];exact hZ r h _ e
theorem vt {globals:Is} (h:∀h1:N0,(∀b o,s.heap.get? b=some o->h1.get? b=some o)->h1.Ns s.heap.objs.size (λ_=>none)->h1=pushCells (s.heap.push { cls:=.type "dict",data:=.dict #[] }) scope.names ->
   Q { scope:=scope,locals:=s.heap.objs.size,globals:=globals,cells:=cellsFrom (s.heap.objs.size+1) scope.names closure,qual:=qual,func:=none,code:=outer.code,frame:=outer.frame,builtins:=outer.builtins } { s with heap:=h1 }) :
  wpAny M A (newFunctionEnv scope globals closure [] qual none .none (some outer)) Q E s:=by
 simp only [newFunctionEnv,Option.isSome_some,W6];refine Zr (wpAny_alloc ?_);refine Zr (wpAny_layCells _ (λname kind cells=>by cases hkc:kind == NameKind.cell <;> simp [hkc]) _ _ _ _ ?_)
 rw [show ({ s with heap:=s.heap.push { cls:=.type "dict",data:=.dict #[] } }:Da).heap.objs.size=s.heap.objs.size+1 from Xo ..]
 refine Zr ?_;rw [List.forIn_nil];refine Yn (Yn (h _ (λb o e=>pushCells_keeps _ _ b o (Zl _ e)) ((Heap.Ns.new s.heap (.type "dict")).keeps (pushCells_keeps _ _)) rfl))
theorem h_:∀(names:List (Str×NameKind)) (n:Nat) (acc:List (Str×Is)),(∀x c,acc.lookup x=some c->@LT.lt Nat instLTNat c n)->(∀x y c,acc.lookup x=some c->acc.lookup y=some c->x=y)->∀x y c,(cellsFrom n names acc).lookup x=some c->(cellsFrom n names acc).lookup y=some c->x=y
 |[],n,acc,_,hi,x,y,c,h1,h2=>hi x y c h1 h2
 | (z,k) :: r,n,acc,hb,hi,x,y,c,h1,h2=>by
  unfold cellsFrom at h1 h2;split at h1
  ·rename_i hk
   rw [N1 hk]at h2;have look:∀x c,((z,n) :: acc).lookup x=some c->(x=z/\c=n)\/acc.lookup x=some c:=λx c h=>by
    rw [Z2]at h;cases hx:x == z with
    |true =>
     rw [hx]at h;exact .inl ⟨by simpa using hx,(Yv h).symm⟩
    |false =>
     rw [hx]at h;exact .inr h
   refine h_ r (n+1) ((z,n) :: acc) (λx c h=>?_) (λx y c h1 h2=>?_) x y c h1 h2
   ·rcases look x c h with ⟨_,e⟩ | h
    ·rw [e]
     exact Xg n
    ·exact Xi (hb x c h)
   ·rcases look x c h1 with ⟨e1,f1⟩ | h1
    ·rcases look y c h2 with ⟨e2,f2⟩ | h2
     ·rw [e1,e2]
     ·rw [f1]at h2
      exact absurd (hb y n h2) (Xq _)
    ·rcases look y c h2 with ⟨e2,f2⟩ | h2
     ·rw [f2]at h1
      exact absurd (hb x n h1) (Xq _)
     ·exact hi x y c h1 h2
  ·rename_i hk
   rw [N2 hk]at h2;exact h_ r n acc hb hi x y c h1 h2
theorem oO:∀(l:List (Str×NameKind)) (cs:List (Str×Is)),(frees env l cs).lookup x=some c->cs.lookup x=some c\/(x,NameKind.free)∈l
 |[],cs,h=>.inl h
 | (n,k) :: r,cs,h=>by
  unfold frees at h;split at h
  ·rename_i hk
   have hk':k=.free:=by simpa using hk
   rcases oO r _ h with h | h
   ·rw [Z2]at h
    cases hx:x == n with
    |true =>
     have:x=n:=by simpa using hx
     exact .inr (by rw [this,<-hk'];exact Zz)
    |false =>
     rw [hx]at h;exact .inl h
   ·exact .inr (Zs _ h)
  ·rcases oO r _ h with h | h
   ·exact .inl h
   ·exact .inr (Zs _ h)
def uR (scope:Scope) (x:Str):Bool:=scope.names.any λp=>p.1 == x && p.2 == NameKind.cell
theorem vm (h:uR scope x=true):(x,NameKind.cell)∈scope.names:=by
 unfold uR at h;rw [List.any_eq_true]at h;obtain ⟨⟨y,k⟩,hm,e⟩:=h;rw [Yy]at e;have e1:y=x:=by simpa using e.1
 have e2:k=.cell:=by simpa using e.2
 rw [e1,e2]at hm;exact hm
def cxK (X:Cx) (N:List Str) (scope:Scope) (s:Da) (H:Hp) (C:Is) (ex:List Is) (pins:List (Is×Obj)):Cx :=
 { X with N:=N,s₀:=s,H₀:=H,env:=vc scope (frees X.env scope.names []) C X.env,outer:=X.stack,ex:=ex,fn:=uR scope,pn:=X.pn++pins,xe:=λ_ _=>False }
structure BlkK (X:Cx) (sc scope:Scope) (outs:List (Nat×Str)):Prop where
 hsc:X.env.scope=sc
 kind:scope.kind=.function
 loc:∀x∈scope.names,x.2=.local->scope.names.lookup x.1=some .local
 own:∀x∈scope.names,x.2=.cell->scope.names.lookup x.1=some .cell
 ap:∀x∈scope.names,x.2=.free->(x.1,NameKind.cell)∉scope.names
 fr:∀x∈scope.names,x.2=.free->sc.names.lookup x.1=some .cell\/sc.names.lookup x.1=some .free
 out:k9 X scope outs
section
variable {X:Cx} {sc scope:Scope} {own:List Str} {outs:List (Nat×Str)} {elt tg iter:M2} {g:TG}
theorem oj (B:BlkK X sc scope outs) (I:Inv X pins σ H s):∀x∈scope.names,x.2=.free->∃c,X.env.cells.lookup x.1=some c:=λx hx hf=>by
 refine I.ok.has x.1 ?_;show X.env.scope.names.lookup x.1=_\/X.env.scope.names.lookup x.1=_
 rw [B.hsc];exact B.fr x hx hf
theorem Al (B:BlkK X sc scope outs) (I:Inv X pins σ H s) (f2:∀b∈fp,o_ X pins H b) (fo:∀b∈fp,∃o,s.heap.get? b=some o) (hn:h1.Ns (s.heap.objs.size+1) m) (old:∀b o,s.heap.get? b=some o->h1.get? b=some o) (hD:h1.get? s.heap.objs.size=some { cls:=.type "list",data:=.seq #[] 0 }) (hcl:∀x c,(cellsFrom (s.heap.objs.size+1+1) scope.names (frees X.env scope.names [])).lookup x=some c->(frees X.env scope.names []).lookup x=some c\/h1.IsCell c none) :
  Inv (cxK X (own++outs.map (·.2)) scope s H (s.heap.objs.size+1) fp pins) [] (slots own.length outs σ) (upd H s.heap.objs.size (.lst [])) { s with heap:=h1,toks:=tk }:=by
 have bf:=oj B I;have sub:∀x c,(frees X.env scope.names []).lookup x=some c->X.env.cells.lookup x=some c:=λx c e=>om _ _ bf (λc' e'=>by simp at e') e
 have clt:∀x c,X.env.cells.lookup x=some c->c<s.heap.objs.size:=λx c e=>(let ⟨v,q⟩:=I.cell x c e;q.lt)
 have flo:∀x c,(frees X.env scope.names []).lookup x=some c->(x,NameKind.cell)∉scope.names:=λx c e=>by
  rcases oO _ _ e with q | q
  ·simp at q
  ·exact B.ap _ q rfl
 have K1:∀x c,(cellsFrom (s.heap.objs.size+1+1) scope.names (frees X.env scope.names [])).lookup x=some c->X.env.cells.lookup x=some c\/(s.heap.objs.size+2<=c/\h1.IsCell c none):=λx c e=>by
  rcases eG _ _ _ e with q | ⟨q1,q2⟩
  ·exact .inl (sub x c q)
  ·rcases hcl x c e with z | z
   ·exact absurd q2 (flo x c z)
   ·exact .inr ⟨q1,z⟩
 have K2:∀x c,(frees X.env scope.names []).lookup x=some c->(cellsFrom (s.heap.objs.size+1+1) scope.names (frees X.env scope.names [])).lookup x=some c:=λx c e=>by rw [hX _ _ _ (flo x c e)];exact e
 have flt:∀b∈fp,b<s.heap.objs.size:=λb hb=>(let ⟨o,e⟩:=fo b hb;Zg e)
 have un:Un (cxK X (own++outs.map (·.2)) scope s H (s.heap.objs.size+1) fp pins).fs (cxK X (own++outs.map (·.2)) scope s H (s.heap.objs.size+1) fp pins).ex H (upd H s.heap.objs.size (.lst [])) s.heap h1:=Un.laid old (Zi _) I.fresh;have hok:HOk X.prog X.w (upd H s.heap.objs.size (.lst [])) h1:=I.hok.laid old (Zi _) ⟨Y1 _,[],0,.nil,hD⟩;refine ⟨⟨I.ok.mod,B.kind,I.ok.glob,I.ok.blt,Y5 _,λx y c e1 e2=>h_ _ _ _ (λx c e=>Yt (clt x c (sub x c e)) (Yg (Y5 _) (Y5 _))) (λx y c e1 e2=>I.ok.inj x y c (sub x c e1) (sub y c e2)) x y c e1 e2,λx hx=>?_,λx c hf hq=>?_,I.ok.hd,I.ok.frames,.inl rfl,λb hb=>⟨?_,λx c e=>?_⟩,I.bs,?_,λb o e hb=>?_,λb hb z=>?_,I.stack,I.stkFree⟩,
  rfl,I.bare,un,⟨m,hn,λi x v e1 e2 e3=>?_⟩,λx c e=>?_,?_,λx c e=>?_,λp hp=>?_,hok,?_⟩
 ·have go:∃k,scope.names.lookup x=some k/\(k=.free\/k=.cell):=by
   rcases hx with hx | hx
   ·obtain ⟨k,e,hk⟩:=yO (show ((scope.names.map _).lookup x=some .cell) from hx)
    rcases hk with hk | hk
    ·exact ⟨k,e,.inr hk.symm⟩
    ·exact ⟨k,e,.inl hk.1⟩
   ·obtain ⟨k,e,hk⟩:=yO (show ((scope.names.map _).lookup x=some .free) from hx)
    rcases hk with hk | hk
    ·exact ⟨k,e,.inl hk.symm⟩
    ·exact ⟨k,e,.inl hk.1⟩
  obtain ⟨k,e,hk⟩:=go;rcases hk with rfl | rfl
  ·obtain ⟨c,hc⟩:=lZ (env:=X.env) (x:=x) scope.names [] (.inl (gU e))
   exact ⟨c,K2 x c hc⟩
  ·exact Option.isSome_iff_exists.mp (Wk scope.names _ _ (.inl e))
 ·rcases eG _ _ _ hq with q | ⟨q1,_⟩
  ·exact absurd (vm hf) (flo x c q)
  ·exact Yg (Yg (Y5 _) (Y5 _)) q1
 ·exact Ys (Xi (flt b hb))
 ·rcases K1 x c e with q | ⟨q1,_⟩
  ·exact (f2 b hb).2.2.2.2.1 x c q
  ·exact λz=>absurd (flt b hb) (Nat.not_lt.mpr (by rw [<-z];exact Yg (Yg (Y5 _) (Y5 _)) q1))
 ·exact Yg I.ok.bsz I.sz
 ·rcases (f2 b hb).2.2.2.1 with z | z
  ·exact I.ok.noex b o e z
  ·exact absurd (Yt (Zg e) (Yg I.ok.bsz z)) (Xq _)
 ·rcases Xz.mp (I.stkSub b z) with q | q
  ·exact (f2 b hb).2.1 q
  ·exact (f2 b hb).2.2.1 q
 ·
  have hi:own.length<=i:=by
   by_cases hi:own.length<=i
   ·exact hi
   ·have e2':(slots own.length outs σ)[i]?=some (some v):=e2
    unfold slots at e2';rw [Yz (by simpa using Nat.lt_of_not_le hi),Xa]at e2'
    split at e2' <;> cases e2'
  have e1':(own++outs.map (·.2))[i]?=some x:=e1;have e2':(slots own.length outs σ)[i]?=some (some v):=e2;unfold slots at e2';rw [Z9 hi,Zx]at e1';rw [Z9 (by simpa using hi),Xv,Zx]at e2'
  cases ep:outs[i-own.length]? with
  |none =>
   rw [ep]at e1';cases e1'
  |some p =>
   rw [ep]at e1' e2';have ex:p.2=x:=Yv e1';have ev:(σ[p.1]?).join=some v:=Yv e2';obtain ⟨o1,o2⟩:=B.out.get ep;have es:σ[p.1]?=some (some v):=by
    cases q:σ[p.1]? with
    |none =>
     rw [q]at ev;cases ev
    |some w =>
     rw [q]at ev;have ew:w=some v:=ev;rw [ew]
   rw [ex]at o1 o2;have hk:X.env.scope.names.lookup x=some .cell\/X.env.scope.names.lookup x=some .free:=by
    rw [B.hsc];exact B.fr (x,.free) (gU o2) rfl
   obtain ⟨m0,hn0,hl0⟩:=I.loc;obtain ⟨u,r,l⟩:=hl0 p.1 x v o1 es (hk.elim (λz=>.inr (.inl z)) λz=>.inr (.inr z))
   refine ⟨u,r,.inr ?_⟩;rcases l with ⟨hl,_⟩ | ⟨_,c,ec,hc⟩
   ·have hl':X.env.scope.names.lookup x=some .local:=hl
    rcases hk with z | z <;> (rw [z]at hl';cases hl')
   ·obtain ⟨c',ec'⟩:=lZ (env:=X.env) (x:=x) scope.names [] (.inl (gU o2))
    have e3:=sub x c' ec';rw [ec]at e3;cases e3;obtain ⟨oc,q1,q2⟩:=hc;exact ⟨jZ o2,c,K2 x c ec',⟨oc,old _ _ q1,q2⟩⟩
 ·rcases K1 x c e with q | ⟨_,q⟩
  ·obtain ⟨v,oc,q1,q2⟩:=I.cell x c q
   exact ⟨v,oc,old _ _ q1,q2⟩
  ·exact ⟨_,q⟩
 ·show upd H s.heap.objs.size (.lst []) (s.heap.objs.size+1)=none
  rw [av (Nat.succ_ne_self _)];exact I.hok.fresh (Y5 _)
 ·rcases K1 x c e with q | ⟨q1,_⟩
  ·rw [av (Ys (clt x c q))]
   exact I.freeC x c q
  ·have hge:@LE.le Nat instLENat s.heap.objs.size c:=Yg (Yg (Y5 _) (Y5 _)) q1
   rw [av (λz=>by rw [z]at q1;exact absurd q1 (Nat.not_le.mpr (Nat.lt_trans (Xg _) (Xg _))))]
   exact I.hok.fresh hge
 ·have hp':p∈X.pn++pins:=by
   have:p∈(X.pn++pins)++[]:=hp
   simpa using this
  obtain ⟨q1,q2,q3,q4,q5⟩:=I.pin p hp';refine ⟨old _ _ q1,?_,Ys (Xi (Zg q1)),λz=>?_,q5⟩
  ·rw [av (Ys (Zg q1))]
   exact q2
  ·rcases Xz.mp (I.stkSub p.1 z) with q | q
   ·exact q3 q
   ·exact q4 q
 ·show (slots own.length outs σ).length=(own++outs.map (·.2)).length
  unfold slots;simp
theorem vX (B:BlkK X sc scope outs) (hcalm:X.calm=true) (hg:∀s H C ex pins,PG (cxK X (own++outs.map (·.2)) scope s H C ex pins) tg g) (hc:∀s H C ex pins,PF (cxK X (own++outs.map (·.2)) scope s H C ex pins) ifs tc) (he:∀s H C ex pins,PE (cxK X (own++outs.map (·.2)) scope s H C ex pins) elt te) {s:Da} {tn:Nat->N0->Prop} (I:Inv X pins σ H s) (T:Turn X.prog X.w X.K tg J fp it tn) (st:tn 0 s.heap) (f2:∀b∈fp,o_ X pins H b) {R0:Is->Hp->Prop} (hW:∀D,H D=none->LI J g tc te (slots own.length outs σ) D H (R0 D)) {RR:Db->Is->Result->Da->Prop} {E:Db->Da->Prop} (fin:∀D C H' s' m,Inv X pins σ H' s'->o_ X pins H' C->s'.heap.Ns C m->R0 D H'->RR (.ref D) C (.ok .next) s') :
  wpAny (model X.prog X.w) X.A (newList []) (λacc s3=>wpAny (model X.prog X.w) X.A (newFunctionEnv scope X.env.globals (frees X.env scope.names []) [] X.env.qual none .none (some X.env)) (λcenv s4 =>
   codeAny (model X.prog X.w) X.A (.compStart (.ListComp elt [⟨tg,iter,ifs,0⟩] scope pos) 0 (.ref it) acc { cenv with scope:=relabel scope X.env }) (RR acc cenv.locals) s4) E s3) E s:=by
 refine W3 (vt λh1 hs1 hn1 hp1=>?_)
 dsimp only at hn1 hs1 hp1 ⊢
 have hz:(s.heap.push { cls:=.type "list",dict:=none,data:=.seq ([]:List Db).toArray }).objs.size=s.heap.objs.size+1:=Xo ..;rw [hz]at hn1;simp only [hz];have fo:∀b∈fp,∃o,s.heap.get? b=some o:=λb hb=>(let ⟨o,e,_⟩:=T.obj 0 _ st b hb;⟨o,e⟩)
 have old:∀b o,s.heap.get? b=some o->h1.get? b=some o:=λb o e=>hs1 b o (Zl _ e)
 have hD:h1.get? s.heap.objs.size=some { cls:=.type "list",data:=.seq #[] 0 }:=hs1 _ _ (Yr _ rfl);have hz2:((s.heap.push { cls:=.type "list",dict:=none,data:=.seq ([]:List Db).toArray }).push { cls:=.type "dict",data:=.dict #[] }).objs.size=s.heap.objs.size+1+1:=by rw [Xo,hz]
 have hcl:∀x c,(cellsFrom (s.heap.objs.size+1+1) scope.names (frees X.env scope.names [])).lookup x=some c->(frees X.env scope.names []).lookup x=some c\/h1.IsCell c none:=λx c e=>by
  rw [hp1];rw [<-hz2]at e;exact hZ _ _ _ e
 have I1:=Al (own:=own) (tk:=s.toks) B I f2 fo hn1 old hD hcl;have st1:tn 0 h1:=T.keep _ _ _ st λb _ o e=>old b o e
 obtain ⟨W,⟨m0,w0⟩,turn⟩:=hW _ I.fresh;have fpB:∀{H':Hp},(∀b∈fp,H' b=none)->∀b∈fp,o_ (cxK X (own++outs.map (·.2)) scope s H (s.heap.objs.size+1) fp pins) [] H' b:=λhn b hb=>by
  obtain ⟨o,eo⟩:=fo b hb;refine ⟨hn b hb,Ys (Xi (Zg eo)),I1.ok.exfs b hb,.inl hb,λx c e=>(I1.ok.exf b hb).2 x c e,λp hp=>?_⟩
  have hp':p∈X.pn++pins:=by
   have:p∈(X.pn++pins)++[]:=hp
   simpa using this
  exact (f2 b hb).2.2.2.2.2 p hp'
 have loop:∀s0:Da,s0={ s with heap:=h1,toks:=s.toks } ->
   codeAny (model X.prog X.w) X.A (.compLoop (.ListComp elt [⟨tg,iter,ifs,0⟩] scope pos) 0 (.ref it) (.ref s.heap.objs.size) (vc scope (frees X.env scope.names []) (s.heap.objs.size+1) X.env)) (RR (.ref s.heap.objs.size) (s.heap.objs.size+1)) s0:=by
  rintro s0 rfl;refine sX (λn s'=>∃i acc H',Inv (cxK X (own++outs.map (·.2)) scope s H (s.heap.objs.size+1) fp pins) [] (slots own.length outs σ) H' s'/\tn i s'.heap/\(∀b∈fp,H' b=none)/\W i n acc H') ?_ m0
   ⟨0,[],_,I1,st1,λb hb=>?_,w0⟩
  ·rintro n s3 ⟨i,acc,H3,I3,st3,fr3,w3⟩
   rcases turn i n acc H3 w3 with ⟨stop,q⟩ | ⟨go,N,hN,step⟩
   ·refine thn (T.done (cxK X (own++outs.map (·.2)) scope s H (s.heap.objs.size+1) fp pins) rfl rfl rfl hcalm i [] s3 _ H3 (λ_ _=>False) I3 (fpB fr3) st3 stop) λr s4 ⟨hr,I4⟩=>?_
    subst hr;have IX:Inv X pins σ H3 s4:=I.call' (ch:=fp) I4.os I4.base I4.hok I4.bare λb hb=>⟨(f2 b hb).2.2.2.1,(f2 b hb).2.1,(f2 b hb).2.2.2.2.1,(f2 b hb).2.2.2.2.2⟩
    obtain ⟨m4,hn4,_⟩:=I4.loc;exact fin _ _ H3 s4 m4 IX (I.fpOk (Y5 _) I4.free) hn4 q
   ·refine thn (T.item (cxK X (own++outs.map (·.2)) scope s H (s.heap.objs.size+1) fp pins) rfl rfl rfl hcalm i [] s3 _ H3 (λ_ _=>False) I3 (fpB fr3) st3 go) λr s4 ⟨u,hr,h4⟩=>?_
    subst hr;refine thn h4 λ_ s5 ⟨x,H5,I5,r5,y5,st5,fr5⟩=>?_
    have I5':=I5.pinned (fpB fr5) (T.obj _ _ st5);have back:∀{σ6:St} {H6:Hp} {s6:Da} {acc':List V},Inv (cxK X (own++outs.map (·.2)) scope s H (s.heap.objs.size+1) fp pins) ([]++qV fp s5.heap) σ6 H6 s6->g9 (slots own.length outs σ) σ6->N acc' H6 ->
      ∃m,m<n/\∃i acc H',Inv (cxK X (own++outs.map (·.2)) scope s H (s.heap.objs.size+1) fp pins) [] (slots own.length outs σ) H' s6/\tn i s6.heap/\(∀b∈fp,H' b=none)/\W i m acc H':=fun {σ6 H6 s6 acc'} I6 hs hn6=>by
     obtain ⟨m',hm,hw⟩:=hN acc' H6 hn6;refine ⟨m',hm,i+1,acc',H6,I6.unpinned.weak hs.len λj v e=>hs.get e,T.keep _ _ _ st5 λb hb o e=>(I6.pin (b,o) (Zt _ (Zt _ (jN hb e)))).1,λb hb=>?_,hw⟩
     obtain ⟨o,e,_⟩:=T.obj _ _ st5 b hb;exact (I6.pin (b,o) (Zt _ (Zt _ (jN hb e)))).2.1
    refine thn (hg s H _ fp pins _ s5 _ H5 x u _ I5' r5 (step x H5 y5)) λ_ s6 ⟨σ6,H6,I6,hs6,q6⟩=>?_
    refine thn (hc s H _ fp pins _ s6 σ6 H6 _ I6 q6) λb s7 ⟨H7,I7,q7⟩=>?_
    cases b with
    |false =>
     exact back I7 hs6 q7
    |true =>
     refine thn (he s H _ fp pins _ s7 σ6 H7 _ I7 q7) λyv s8 ⟨y,H8,I8,r8,hd8,hl8,hw⟩=>?_
     refine thn (oP _ s8 σ6 H8 (.ref s.heap.objs.size) [y] (.ref s.heap.objs.size) [yv] (λ_ H9=>H9=upd H8 s.heap.objs.size (.lst (acc++[y]))) I8 rfl (.cons r8 .nil) ⟨_,acc,y,rfl,rfl,hd8,hl8,rfl⟩) λz s9 ⟨zv,H9,I9,_,q9⟩=>?_
     subst q9;exact back I9 hs6 hw
  ·obtain ⟨o,eo⟩:=fo b hb
   rw [av (Ys (Zg eo))];exact (f2 b hb).1
 exact codeAny_compStart_list (loop _ rfl) (T.self X.A 0 _ _ _ st1 (loop _ rfl))
theorem BA (own:List Str) (B:BlkK X sc scope outs) (hcalm:X.calm=true) (hi:PI X tg iter wi) (hg:∀s H C ex pins,PG (cxK X (own++outs.map (·.2)) scope s H C ex pins) tg g) (hc:∀s H C ex pins,PF (cxK X (own++outs.map (·.2)) scope s H C ex pins) ifs tc) (he:∀s H C ex pins,PE (cxK X (own++outs.map (·.2)) scope s H C ex pins) elt te) (hs:∀x,foldedSetIterable iter X.env x=pure x:=by intro _;rfl):PE X (.ListComp elt [⟨tg,iter,ifs,0⟩] scope pos) (AX wi g tc te own.length outs):=by
 intro pins s σ H Q I h;rw [eval_ListComp];refine Wu (use:=none) rfl hs (qB (oj B I)) B.kind B.loc ?_;refine thn (hi pins s σ H _ I h) λv s1 h1=>thn h1 λitv s2 h2=>?_
 obtain ⟨it,fp,tn,J,H2,e,I2,T,st2,f2,hW⟩:=h2;subst e;refine vX (RR:=λacc C=>compPost (model X.prog X.w) X.A X.xe none (EP X pins σ Q) acc C) B hcalm hg hc he I2 T st2 f2 hW ?_
 intro D C H' s' m I' hC hn q;refine ⟨m,hn,λh' hs'=>?_⟩
 obtain ⟨c0,c1,c2,c3,c4,c5⟩:=hC;exact ⟨.ref D,H',I'.turned (t':=s'.toks) (λb o hb e=>(hs'.2 b hb).trans e) c0 c1 c3 c4 c5,rfl,q⟩
theorem BP (own:List Str) (hN:X.N.Nodup) (hix:X.N[i]?=some x) (hx:Loc X.env.scope x) (B:BlkK X sc scope outs) (hcalm:X.calm=true) (hi:PI X tg iter wi) (hg:∀s H C ex pins,PG (cxK X (own++outs.map (·.2)) scope s H C ex pins) tg g) (hc:∀s H C ex pins,PF (cxK X (own++outs.map (·.2)) scope s H C ex pins) ifs tc) (he:∀s H C ex pins,PE (cxK X (own++outs.map (·.2)) scope s H C ex pins) elt te) (hsw:swapsWith (.ListComp elt [⟨tg,iter,ifs,0⟩] scope pos) (some (.Name x pos')) spos.line X.env=pure true:=by rfl) (hs:∀x,foldedSetIterable iter X.env x=pure x:=by intro _;rfl) (hf:X.fn x=true\/X.env.scope.names.lookup x=some .local:=by first | exact .inl rfl | exact .inr rfl | assumption) :
  PS X (.Assign [.Name x pos'] (.ListComp elt [⟨tg,iter,ifs,0⟩] scope pos) spos) (sY (AX wi g tc te own.length outs) (si i)):=by
 intro pins s σ H D0 I h;rw [exec_Assign_Name_used _ _ _ _ hsw];refine Zr (Vj (Zr ?_));show wpAny _ X.A (do let _ <-comprehension (.ListComp elt [⟨tg,iter,ifs,0⟩] scope pos) scope X.env _ (newList []) false (eval iter X.env) (some (assign (.Name x pos') X.env))) _ _ s
 refine Zr (thn (Wu (use:=some (assign (.Name x pos') X.env)) (Q:=λ_ s'=>SP X pins D0 .next s') rfl hs (qB (oj B I)) B.kind B.loc ?_) λ_ s' hq=>Yn (Yn hq))
 refine thn (hi pins s σ H _ I h) λv s1 h1=>thn h1 λitv s2 h2=>?_
 obtain ⟨it,fp,tn,J,H2,e,I2,T,st2,f2,hW⟩:=h2;subst e;refine vX (RR:=λacc C=>compPost (model X.prog X.w) X.A X.xe (some (assign (.Name x pos') X.env)) (λ_ s'=>SP X pins D0 .next s') acc C) B hcalm hg hc he I2 T st2 f2 hW ?_
 intro D C H' s' m I' hC hn q;obtain ⟨c0,c1,c2,c3,c4,c5⟩:=hC;obtain ⟨oC,es,ep,hoC,hdC,hr⟩:=id hn;have IC:Inv X (pins++[(C,oC)]) σ H' s':=I'.pins_of λp hp=>(Z5.mp hp).elim (λz=>I'.pin p (Zt _ z)) λz=>by
  have ep:p=(C,oC):=by simpa using z
  subst ep;exact ⟨hoC,c0,c1,c2,λv z=>by rw [hdC]at z;cases z⟩
 show wpAny _ X.A (assign (.Name x pos') X.env (.ref D)) _ _ s'
 refine wpAny_assign_Name (jB (v:=.ref D) IC hN hix hx rfl (λs3 I3=>?_) hf)
 have hC3:s3.heap.get? C=some oC:=(I3.pin (C,oC) (Zt _ (Zt _ (by simp)))).1
 refine ⟨m,⟨oC,es,ep,hC3,hdC,hr⟩,λh' hs'=>?_⟩
 exact ⟨_,H',I3.unpinned.turned (t':=s3.toks) (λb o hb e=>(hs'.2 b hb).trans e) c0 c1 c3 c4 c5,q⟩
end
theorem Hh (kind:scope.kind=.function) (loc:∀x∈scope.names,x.2=.local->scope.names.lookup x.1=some .local) (nocell:∀x∈scope.names,x.2≠.cell) (fr:∀x∈scope.names,x.2=.free->scope0.names.lookup x.1=some .cell\/scope0.names.lookup x.1=some .free) (out:k9 (cxK X N scope0 s H C ex pins) scope outs):Blk (cxK X N scope0 s H C ex pins) (relabel scope0 X.env) scope outs:=by
 refine ⟨rfl,kind,loc,nocell,λx hx hf=>?_,out⟩
 rcases fr x hx hf with h | h
 ·left
  show (scope0.names.map _).lookup x.1=some NameKind.cell
  have:∀names:List (Str×NameKind),names.lookup x.1=some .cell->(names.map λ(n,k)=>if (k == NameKind.free && X.env.scope.kind == .function && X.env.kindOf n == some .cell) then (n,NameKind.cell) else (n,k)).lookup x.1=some .cell:=by
   intro names
   induction names with
   |nil=>intro h;simp at h
   |cons y r ih =>
    obtain ⟨n,k⟩:=y;intro h;rw [Z2]at h;rw [Zw]
    dsimp only
    by_cases hc:(k == NameKind.free && X.env.scope.kind == .function && X.env.kindOf n == some .cell)=true
    ·rw [N1 hc,Z2]
     cases hx:x.1 == n with
     |true=>rfl
     |false =>
      rw [hx]at h;exact ih h
    ·rw [N2 hc,Z2]
     cases hx:x.1 == n with
     |true =>
      rw [hx]at h;exact h
     |false =>
      rw [hx]at h;exact ih h
  exact this _ h
 ·exact jZ h
end L2
namespace L3
open PySem L2 PySem.Spec PyProof.Rows
section
variable {X:Cx}
variable {outs:List (Nat×Str)} {elt tg iter:M2}
theorem l6 (own:List Str) (s:Da) (H:Hp) (C:Is) (ex:List Is) (pins:List (Is×Obj)):(cxK X (own++outs.map (·.2)) scope s H C ex pins).N.length=own.length+outs.length:=by
 show (own++outs.map (·.2)).length=_
 rw [Zv,Zy]
theorem cQ (own:List Str) (B:BlkK X sc scope outs) (hcalm:X.calm=true) (hk:∀j∈is,j<own.length) (hi:DI M X tg iter it)
  (hg:∀s H C ex pins,DG M (cxK X (own++outs.map (·.2)) scope s H C ex pins) tg is gg) (hc:∀s H C ex pins,DF M (cxK X (own++outs.map (·.2)) scope s H C ex pins) ifs ta) (he:∀s H C ex pins,DE M (cxK X (own++outs.map (·.2)) scope s H C ex pins) elt el)
  (hs:∀x,foldedSetIterable iter X.env x=pure x:=by intro _;rfl):DE M X (.ListComp elt [⟨tg,iter,ifs,0⟩] scope pos) (bu it gg ta el own.length (outs.map (·.1))):=λhK hM =>
 peI (BA (wi:=tI M X.N.length it) (g:=tG M (own.length+outs.length) is gg) (tc:=tT M (own.length+outs.length) ta) (te:=tD M (own.length+outs.length) el) own B hcalm (hi hK hM)
  (λs H C ex pins=>by have q:=hg s H C ex pins hK hM;rw [l6]at q;exact q) (λs H C ex pins=>by have q:=hc s H C ex pins hK hM;rw [l6]at q;exact q) (λs H C ex pins=>by have q:=he s H C ex pins hK hM;rw [l6]at q;exact q) hs) λ_ _ _ q=>BV hk q
theorem eU (own:List Str) (w:∀σ H Q,tD M X.N.length fe σ H Q->tD M X.N.length (bu it gg ta el own.length (outs.map (·.1))) σ H Q) (hN:X.N.Nodup) (hix:X.N[i]?=some x) (hx:Loc X.env.scope x) (B:BlkK X sc scope outs) (hcalm:X.calm=true) (hk:∀j∈is,j<own.length) (hi:DI M X tg iter it) (hg:∀s H C ex pins,DG M (cxK X (own++outs.map (·.2)) scope s H C ex pins) tg is gg) (hc:∀s H C ex pins,DF M (cxK X (own++outs.map (·.2)) scope s H C ex pins) ifs ta) (he:∀s H C ex pins,DE M (cxK X (own++outs.map (·.2)) scope s H C ex pins) elt el) (hsw:swapsWith (.ListComp elt [⟨tg,iter,ifs,0⟩] scope pos) (some (.Name x p)) spos.line X.env=pure true:=by rfl) (hs:∀x,foldedSetIterable iter X.env x=pure x:=by intro _;rfl) (hf:X.fn x=true\/X.env.scope.names.lookup x=some .local:=by first | exact .inl rfl | exact .inr rfl | assumption) :
  DS M X (.Assign [.Name x p] (.ListComp elt [⟨tg,iter,ifs,0⟩] scope pos) spos) (aH i fe):=λhK hM =>
 psI (BP (wi:=tI M X.N.length it) (g:=tG M (own.length+outs.length) is gg) (tc:=tT M (own.length+outs.length) ta) (te:=tD M (own.length+outs.length) el) own hN hix hx B hcalm (hi hK hM)
  (λs H C ex pins=>by have q:=hg s H C ex pins hK hM;rw [l6]at q;exact q) (λs H C ex pins=>by have q:=hc s H C ex pins hK hM;rw [l6]at q;exact q) (λs H C ex pins=>by have q:=he s H C ex pins hK hM;rw [l6]at q;exact q) hsw hs hf) λD σ H q=>by
  have q':=Fd (sF hix) q;exact BV hk (w _ _ _ q')
end
def insI (x:Int):List Int->List Int
 |[]=>[x]
 |y :: r=>if x<=y then x :: y :: r else y :: insI x r
def oY:List Int->List Int
 |[]=>[]
 |x :: r=>insI x (oY r)
theorem insI_perm (x:Int):∀r:List Int,(insI x r).Perm (x :: r)
 |[]=>.refl _
 |y :: r=>by
  unfold insI;split
  ·exact .refl _
  ·exact ((insI_perm x r).cons y).trans (.swap x y r)
theorem rN:∀r:List Int,(oY r).Perm r
 |[]=>.refl _
 |x :: r=>(insI_perm x (oY r)).trans ((rN r).cons x)
theorem oV (x:Int):∀{r:List Int},r.Pairwise (·<=·)->(insI x r).Pairwise (·<=·)
 |[],_=>List.pairwise_singleton _ _
 |y :: r,h=>by
  have h':=List.pairwise_cons.mp h;unfold insI;split
  ·rename_i hxy
   refine List.pairwise_cons.mpr ⟨λz hz=>?_,h⟩
   rcases Xz.mp hz with rfl | hz
   ·exact hxy
   ·exact Int.le_trans hxy (h'.1 z hz)
  ·rename_i hxy
   refine List.pairwise_cons.mpr ⟨λz hz=>?_,oV x h'.2⟩
   rcases Xz.mp ((insI_perm x r).mem_iff.mp hz) with rfl | hz
   ·lia
   ·exact h'.1 z hz
theorem m7:∀r:List Int,(oY r).Pairwise (·<=·)
 |[]=>List.Pairwise.nil
 |x :: r=>oV x (m7 r)
theorem mx:∀{a b:List Int},a.Perm b->a.Pairwise (·<=·)->b.Pairwise (·<=·)->a=b
 |[],b,p,_,_=>(List.nil_perm.mp p).symm▸rfl
 |x :: r,[],p,_,_=>by
  have:=p.length_eq;simp at this
 |x :: r,y :: t,p,ha,hb=>by
  have ha':=List.pairwise_cons.mp ha;have hb':=List.pairwise_cons.mp hb;have e:x=y:=by
   have m1:=Xz.mp (p.mem_iff.mp Zz);have m2:=Xz.mp (p.mem_iff.mpr (Zz (a:=y) (l:=t)));rcases m1 with e | m1
   ·exact e
   ·rcases m2 with e | m2
    ·exact e.symm
    ·exact Int.le_antisymm (ha'.1 _ m2) (hb'.1 _ m1)
  subst e;rw [mx p.cons_inv ha'.2 hb'.2]
def CC:List Gc->R OD
 |[.list ds]=>match cW ds with
  |some ns=>if ns.length<64 then .ok (.ol (((oY ns).map PyData.int).map OD.sh)) else .bad
  |_=>.bad
 |_=>.bad
theorem gq:∀{us:List Db} {ns:List Int},IntsAre us ns->Vals (ns.map V.int) us
 |_,_,.nil=>.nil
 |_,_,.cons n t r=>.cons ⟨t,rfl⟩ (gq r)
theorem nz {K:At} {F:Hp}:∀(ns:List Int),RepAll K F (ns.map V.int) (ns.map PyData.int)
 |[]=>.nil
 |n :: r=>.cons (.int n) (nz r)
def GJ (K:At):List V->Hp->VK->Prop:=λxs H Q=>∃(a:Is) (ns:List Int),xs=[.ref a]/\SqL K H a (ns.map V.int)/\ns.length<64/\∀ns':List Int,ns'.Perm ns->ns'.Pairwise (·<=·)->∀l,H l=none->Q (.ref l) (upd H l (.lst (ns'.map V.int)))
section
variable {X:Cx} {M:Mx}
theorem Cb:dR X (.builtin "sorted") (GJ X.K):=by
 intro pins s σ H xs us Q I r h;obtain ⟨a,ns,rfl,hq,hl,q⟩:=h;obtain ⟨u,rfl,ru⟩:=Vals.one r;cases ru;obtain ⟨its,rv,pl,hz⟩:=I.list hq;have hi:IntsAre its ns:=intsAre_of rv;have hlen:its.length=ns.length:=IntsAre.length hi;refine sorted_ints pl.isList hi (by lia) λout ns' a1 a2 a3=>?_
 obtain ⟨e,he⟩:=sortedAll_at s.heap its out;have hz':(ns'.map V.int).length<=sizeLine:=by
  rw [Zy,a2.length_eq];rw [Zy]at hz;exact hz
 refine ⟨.ref (s.heap.objs.size+1),_,I.laid (t':=s.toks) (o:=.lst (ns'.map V.int)) (λb o hb=>sortedAll_old hb) (Y5 _) ⟨hz',out.toList,e,gq a1,?_⟩,rfl,q ns' a2 a3 _ (I.hok.fresh (Y5 _))⟩
 rw [Vn];exact he
theorem zh (K:At) (h:X.K=K):dR X (.builtin "sorted") (GJ K):=by
 subst h;exact Cb
theorem GL (hK:X.K=M.K):OkC M (GJ X.K) CC:=by
 rw [hK];intro x dx F H fp Q s rx p;unfold CC at p;split at p
 ·split at p
  ·rename_i ns e
   obtain ⟨a,rfl,h⟩:=vw s rx e;split at p
   ·rename_i hl
    refine ⟨a,ns,rfl,h,hl,λns' h1 h2 l hl=>?_⟩
    have e:ns'=oY ns:=mx (h1.trans (rN ns).symm) h2 (m7 ns);subst e;exact OkE.lstD s p (nz _) hl
   ·exact p.elim
  ·exact p.elim
 ·exact p.elim
def l9:List Gc->R OD
 |[.int j]=>if 0<=j/\j<=65536 then .ok (.ol ((((range j.toNat).map λk:Nat=>(k:Int)).map PyData.int).map OD.sh)) else .bad
 |_=>.bad
def J6:List V->Hp->VK->Prop:=λxs H Q=>∃j:Int,xs=[.int j]/\(0<=j/\j<=65536)/\∀l,H l=none->Q (.ref l) (upd H l (.lst (((range j.toNat).map λk:Nat=>(k:Int)).map V.int)))
theorem G0:OkC M J6 l9:=by
 intro x dx F H fp Q s rx p;unfold l9 at p;split at p
 ·cases rx with
  |cons h r =>
   cases r;cases h;split at p
   ·rename_i j hj
    exact ⟨_,rfl,hj,λl hl=>OkE.lstD s p (nz _) hl⟩
   ·exact p.elim
 ·exact p.elim
theorem BR (j:Int):Builtin.Range.rangeSize 0 j 1=((j.toNat:Nat):Int):=by rw [rangeSize_one];split <;> lia
theorem mB:∀(us:List Db) (a:Nat),(∀(i:Nat) (v:Db),us[i]?=some v->∃t,v=.int (((a+i:Nat)):Int) t)->Vals ((List.range' a us.length).map λk:Nat=>V.int k) us
 |[],_,_=>.nil
 |u :: us,a,h=>by
  rw [Zp,List.range'_succ,Zw];obtain ⟨t,ht⟩:=h 0 u rfl;refine .cons ⟨t,ht⟩ (mB us (a+1) λi v hv=>?_)
  obtain ⟨t,ht⟩:=h (i+1) v hv;refine ⟨t,?_⟩;rw [ht];congr 1
  lia
theorem Jp (hc:X.calm=true) (hgl:Gl X "list") (hml:X.mg "list" = none) (hvl:bootBuiltins "list" = some (.type "list")) (hg:Gl X "range") (hm:X.mg "range" = none) (ha:PA X [a] ta) (hs:starEach [a] X.env=[(false,eval a X.env)]:=by rfl) (hs2:starEach [Expr.Call (.Name "range" p2) [a] [] pos2] X.env=[(false,eval (Expr.Call (.Name "range" p2) [a] [] pos2) X.env)]:=by rfl) :
  PE X (.Call (.Name "list" p) [.Call (.Name "range" p2) [a] [] pos2] [] pos) (tCB J6 ta):=by
 intro pins s σ H Q I h;refine Xk (gv I hgl hml hvl ?_);refine Yc ?_ hs2 rfl;rw [hs2];show wpAny _ _ (spliced ((false,eval (Expr.Call (.Name "range" p2) [a] [] pos2) X.env) :: backTo pos [])) _ _ s
 refine Calls.spliced_cons ?_;refine Call_ (gv I hg hm boot_range (Yc (thn (ha pos2 pins s σ H _ I h) λus s1 ⟨vs,H1,I1,r1,q1⟩=>?_) hs rfl))
 obtain ⟨j,e,⟨hj0,hj⟩,q⟩:=q1;subst e;cases r1 with
 |cons r rr =>
  cases rr;obtain ⟨t,rfl⟩:=r;refine call_range_1 ?_;refine Calls.spliced_nil ?_;have I2:Inv X pins σ H1 { s1 with heap:=s1.heap.push { cls:=.type "range",data:=.fields #[.int 0 s1.toks,.int j t,.int 1 (s1.toks+1)] },toks:=s1.toks+1+1 }:=I1.kept λb o e=>Zl _ e
  refine call_list_range (I.ok.hd hc) (IsRange.new ..) (small_one (by lia) (by lia) (by lia) (by lia)) (BR j) (by lia) λh' tk acc c hk hS hI=>?_
  ·refine ⟨.ref _,_,I2.laid (t':=tk) (o:=.lst (((range j.toNat).map λk:Nat=>(k:Int)).map V.int)) hk (Zi _) ⟨?_,acc.toList,c,?_,?_⟩,rfl,q _ (I2.hok.fresh (Zi _))⟩
   ·rw [Zy,Zy,Zu,W5]
    lia
   ·have k:=mB acc.toList 0 λi v hv=>by
     obtain ⟨t,ht⟩:=hI.2 i v (by rw [<-hv,Vs])
     exact ⟨t,by rw [ht];congr 1;lia⟩
    rw [Xx,hI.1]at k;rw [Yu,Vp];exact k
   ·rw [Vn]
    exact hS
theorem CZ (hc:X.calm=true) (hgl:Gl X "list") (hml:X.mg "list" = none) (hvl:bootBuiltins "list" = some (.type "list")) (hg:Gl X "range") (hm:X.mg "range" = none) (ha:DA M X [a] al) (hs:starEach [a] X.env=[(false,eval a X.env)]:=by rfl) (hs2:starEach [Expr.Call (.Name "range" p2) [a] [] pos2] X.env=[(false,eval (Expr.Call (.Name "range" p2) [a] [] pos2) X.env)]:=by rfl) :
  DE M X (.Call (.Name "list" p) [.Call (.Name "range" p2) [a] [] pos2] [] pos) (eB l9 al):=λhK hM=>peI (Jp hc hgl hml hvl hg hm (ha hK hM) hs hs2) λ_ _ _ q=>Ez G0 q
end
section
end
def ED:OD->Bool
 |.sh _=>true
 |_=>false
def LT (F:Hp) (b:Is):Prop:=(∃ws,F b=some (.lst ws))\/∃r ws,F b=some (.tup (.ref r :: ws))
open Classical in
def nE (F:Hp) (f:List Is):Hp:=λb=>if b∈f then none else F b
theorem nh {F:Hp} (h:b∈f):nE F f b=none:=by unfold nE;rw [N1 h]
theorem dU {F:Hp} (h:b∉f):nE F f b=F b:=by unfold nE;rw [N2 h]
section
variable {K:At} {F H:Hp}
theorem ue:∀{vs:List V} {xs:List OD} {g:List Is},OwnL K F H vs xs g->xs.all ED=true->g=[]
 |_,_,_,.nil,_=>rfl
 |_,_,_,.cons h r,e=>by
  rw [W1,Yy]at e;have:=ue r e.2;subst this;cases h with
  |sh _=>rfl
  |ol _ _=>cases e.1
  |ot _ _=>cases e.1
  |od _ _ _=>cases e.1
  |oi _ _ _=>cases e.1
  |pl _ _=>cases e.1
end
section
end
section
end
theorem ex1 (h:us.length=1):∃a,us=[a]:=by
 cases us with
 |nil=>cases h
 |cons a r =>
  cases r with
  |nil=>exact ⟨a,rfl⟩
  |cons b r=>cases h
theorem ex2 (h:us.length=2):∃a b,us=[a,b]:=by
 cases us with
 |nil=>cases h
 |cons a r =>
  obtain ⟨b,e⟩:=ex1 (Nat.succ.inj h);exact ⟨a,b,by rw [e]⟩
theorem ex3 (h:us.length=3):∃a b c,us=[a,b,c]:=by
 cases us with
 |nil=>cases h
 |cons a r =>
  obtain ⟨b,c,e⟩:=ex2 (Nat.succ.inj h);exact ⟨a,b,c,by rw [e]⟩
theorem ex4 (h:us.length=4):∃a b c d,us=[a,b,c,d]:=by
 cases us with
 |nil=>cases h
 |cons a r =>
  obtain ⟨b,c,d,e⟩:=ex3 (Nat.succ.inj h);exact ⟨a,b,c,d,by rw [e]⟩
theorem ex5 (h:us.length=5):∃a b c d f,us=[a,b,c,d,f]:=by
 cases us with
 |nil=>cases h
 |cons a r =>
  obtain ⟨b,c,d,f,e⟩:=ex4 (Nat.succ.inj h);exact ⟨a,b,c,d,f,by rw [e]⟩
def eD0:Fe:=λ_=>.ok (.od [])
section
theorem MF (h:tD M n eD0 σ H Q):Cu σ H Q:=by
 obtain ⟨F,ρ,fp,S,p⟩:=h;intro q hq;have py':OkE M F H Q (.od []):=p;have Fq:F q=none:=S.same.free hq;refine py' (.ref q) F _ [q] ⟨λ_ _ z=>z,λb o z=>?_,λb o z=>?_,λb z w=>w⟩ ⟨.od aE rfl .nil,by simp,λb m=>?_⟩ λb m=>?_
 ·have hb:b≠q:=by
   rintro rfl;rw [hq]at z;cases z
  rw [av hb];exact z
 ·have hb:b≠q:=by
   rintro rfl;rw [Fq]at z;cases z
  rw [av hb];exact S.same _ _ z
 ·have:b=q:=by simpa using m
  rw [this];exact Fq
 ·have:b=q:=by simpa using m
  rw [this];exact hq
end
section
theorem KZ:DE M X (.Dict [] [] pos) eD0:=λ_ _=>peI Aq λ_ _ _ q=>MF q
end
end L3
namespace L3
open PySem L2 PySem.Spec PyProof.Rows PySem.W PySem.Calls
end L3
namespace L2
open PySem PySem.Spec PyProof.Rows
def my (n0 n:Nat):List Db:=(range n).map λj=>Value.ref (n0+j)
theorem neN (h:a≠b):@Ne Is a b:=h
theorem MZ {x:Nat->Db} {arr:List Db} (ha:arr.length=n) (hj:j<n):((range j).map x++arr.drop j).toArray.setIfInBounds j (x j)=((range (j+1)).map x++arr.drop (j+1)).toArray:=by
 rw [List.setIfInBounds_toArray];congr 1
 have e:arr.drop j=arr[j] :: arr.drop (j+1):=Wx (by lia)
 rw [e,List.set_append_right _ _ (by simp),Zy,Zu,Xf,List.set_cons_zero,Wf,Zh,Yq]
 rfl
theorem Bb {rest:List (Db×Nat)} (h:y :: rest=(my n0 n).zipIdx.drop j):j<n/\y=(.ref (n0+j),j)/\rest=(my n0 n).zipIdx.drop (j+1):=by
 have hl:(my n0 n).zipIdx.length=n:=by rw [Wq];unfold my;rw [Zy,Zu]
 have hj:j<n:=by
  have:=Yl List.length h;rw [Zp,Y2,hl]at this
  lia
 have e:=Wx (l:=(my n0 n).zipIdx) (i:=j) (by lia)
 rw [e]at h;injection h with h1 h2
 refine ⟨hj,?_,h2⟩;rw [h1,List.getElem_zipIdx];unfold my;rw [List.getElem_map,W8,Wb]
section
end
def zfp (n0 n:Nat):List Is:=(range (n+3)).map λj=>n0+j
theorem uT (h:c∈zfp n0 n):n0<=c/\c<n0+n+3:=by
 unfold zfp at h;obtain ⟨j,hj,rfl⟩:=ZC.mp h;have:=Yk.mp hj
 lia
theorem n9 (h1:n0<=c) (h2:c<n0+n+3):c∈zfp n0 n:=ZC.mpr ⟨c-n0,Yk.mpr (by lia),by lia⟩
theorem xw (h:c∉zfp n0 n):c<n0\/n0+n+2<c:=by
 by_cases h1:n0<=c
 ·by_cases h2:c<n0+n+3
  ·exact absurd (n9 h1 h2) h
  ·lia
 ·lia
theorem Vals.of_get:∀{vs:List V} {us:List Db},vs.length=us.length->(∀j,j<vs.length->∃v u,vs[j]?=some v/\us[j]?=some u/\RelV v u)->Vals vs us
 |[],[],_,_=>.nil
 |v :: vs,u :: us,hl,h=>by
  obtain ⟨v',u',e1,e2,r⟩:=h 0 (by simp)
  cases e1;cases e2;refine .cons r (Vals.of_get (by simpa using hl) λj hj=>?_)
  obtain ⟨v',u',e1,e2,r⟩:=h (j+1) (by simpa using hj)
  exact ⟨v',u',by simpa using e1,by simpa using e2,r⟩
end L2
namespace L3
open PySem L2 PySem.Spec PyProof.Rows
section
variable {F H:Hp}
end
section
variable {F H:Hp}
end
end L3
namespace L2
open PySem PySem.Spec PyProof.Rows
end L2
namespace L3
open PySem L2 PySem.Spec PyProof.Rows
section
variable {F H:Hp}
end
end L3
namespace L2
open PySem PySem.Spec PyProof.Rows
section
variable {A:Go} {s:Da}
theorem kP (hit:s.heap.IsTupleIter it l i) (hl:s.heap.IsTuple l items) (hx:items[i]?=some x) (hQ:∀h',h'.IsTupleIter it l (i+1)->Heap.SameBut it s.heap h'->Q x { s with heap:=h' }) :
  wpAny (model prog w) A (Builtin.SmallTypes.nextOf (.ref it)) Q E s:=by
 obtain ⟨o,ho,hc,hd⟩:=id hit;obtain ⟨ol,hol,_,nl,hdl⟩:=hl;unfold Builtin.SmallTypes.nextOf;refine Zr (wpAny_callSpecial?_slot (name:=Str.ofString "__next__") hit.typeIs Xb (Vz Xb hit.typeIs PySem.F.entry_tuple_iterator_next ?_ (PySem.F.args_tuple_iterator_next_1 _)));show wpAny _ _ (field (.ref it) 0 >>= _) _ _ s;refine Zr (Xh ho hd (x:=.ref l) rfl ?_);show wpAny _ _ (if (Value.ref l == Value.none)=true then _ else _) _ _ s;rw [N2 (show ¬((Value.ref l == Value.none)=true) from Zo)];show wpAny _ _ (field (.ref it) 1 >>= _) _ _ s;refine Zr (Xh ho hd (x:=.int i 0) rfl ?_);show wpAny _ _ (seqItems? (.ref l) >>= _) _ _ s;refine Zr (Wm hol hdl ?_);simp only [Zn,hx];refine Zr (wpAny_setField ho hd (by simp) (Yn ⟨x,rfl,Yn (hQ _ ?_ (Vk ..))⟩));exact ⟨_,Vt _ ho (Obj.isFreed_of_fields (Obj.data_mapFields hd _)),(Obj.cls_mapFields ..).trans hc,by rw [Obj.data_mapFields hd];simp [rawInt]⟩
theorem lq (hh:A.handled=none) (hit:s.heap.IsTupleIter it l i) (hl:s.heap.IsTuple l items) (hx:items[i]?=none) (hE:∀h' e,Heap.ExtBut it s.heap h'->(∃o,h'.get? e=some o/\o.cls=.type "StopIteration")->E (.ref e) { s with heap:=h' }):wpAny (model prog w) A (Builtin.SmallTypes.nextOf (.ref it)) Q E s:=by
 obtain ⟨o,ho,hc,hd⟩:=id hit;obtain ⟨ol,hol,_,nl,hdl⟩:=hl;unfold Builtin.SmallTypes.nextOf;refine Zr (wpAny_callSpecial?_slot (name:=Str.ofString "__next__") hit.typeIs Xb (Vz Xb hit.typeIs PySem.F.entry_tuple_iterator_next ?_ (PySem.F.args_tuple_iterator_next_1 _)));show wpAny _ _ (field (.ref it) 0 >>= _) _ _ s;refine Zr (Xh ho hd (x:=.ref l) rfl ?_);show wpAny _ _ (if (Value.ref l == Value.none)=true then _ else _) _ _ s;rw [N2 (show ¬((Value.ref l == Value.none)=true) from Zo)];show wpAny _ _ (field (.ref it) 1 >>= _) _ _ s;refine Zr (Xh ho hd (x:=.int i 0) rfl ?_);show wpAny _ _ (seqItems? (.ref l) >>= _) _ _ s;refine Zr (Wm hol hdl ?_);simp only [Zn,hx];refine Zr (wpAny_rule (Zr (wpAny_setField ho hd (by simp) ?_)));show wpAny _ _ (newExc (.type "StopIteration") [] >>= _) _ _ _;refine Zr ?_;simp only [newExc,newTuple];refine Zr (W3 ?_ (by size_fits));refine Zr (m:=firstArgMember _ _) (wpAny_of_eq (a:=Value.none) (by first | rfl | (simp only [firstArgMember];rfl)) ?_);refine W3 ?_ (by size_fits);simp only [raiseNew];refine Zr (wpAny_handled ?_);(first | rw [show A.in1.handled=none from hh] | rw [hh]);refine Zr (Yn (wpAny_throw ?_));exact hE _ _ (((Vk ..).extBut.push _).push _) ⟨_,Yr _ rfl,rfl⟩
theorem Heap.IsTupleIter.at' {h h':N0} (x:h.IsTupleIter a l i) (k:∀o,h.get? a=some o->h'.get? a=some o):h'.IsTupleIter a l i:=let ⟨o,ho,r⟩:=x;⟨o,k o ho,r⟩
theorem Heap.IsTuple.at' {h h':N0} (x:h.IsTuple a xs) (k:∀o,h.get? a=some o->h'.get? a=some o):h'.IsTuple a xs:=let ⟨o,ho,r⟩:=x;⟨o,k o ho,r⟩
end
structure ZT (h:N0) (n0 n:Nat) (ls:Nat->Nat) (is:Nat->Nat) (f0:Db) (arr:List Db):Prop where
 zp:h.get? (n0+n+2)=some { cls:=.type "zip",dict:=none,data:=.fields #[f0,.bool false,.bool false,.ref (n0+n),.ref (n0+n+1)],slots:=#[] }
 ti:h.get? (n0+n)=some { cls:=.type "tuple",data:=.seq (my n0 n).toArray }
 to:h.get? (n0+n+1)=some { cls:=.type "tuple",data:=.seq arr.toArray }
 it:∀j,j<n->h.IsTupleIter (n0+j) (ls j) (is j)
theorem ZT.draw (Z:ZT h n0 n ls is f0 arr) (hj:j<n) (hs1:Heap.SameBut (n0+j) h h1) (hI:h1.IsTupleIter (n0+j) (ls j) (is j+1)) (hs2:Heap.SameBut (n0+n+1) h1 h2) (hT:h2.get? (n0+n+1)=some { cls:=.type "tuple",data:=.seq arr'.toArray }):ZT h2 n0 n ls (λm=>if m=j then is m+1 else is m) f0 arr':=by
 have up:∀c,c≠n0+j->c≠n0+n+1->h2.get? c=h.get? c:=λc c1 c2=>(hs2.2 c (neN c2)).trans (hs1.2 c (neN c1))
 refine ⟨(up _ (by lia) (by lia)).trans Z.zp,(up _ (by lia) (by lia)).trans Z.ti,hT,λm hm=>?_⟩
 by_cases e:m=j
 ·subst e
  show h2.IsTupleIter _ _ (if m=m then _ else _)
  rw [N1 rfl];exact Heap.IsTupleIter.at' hI λo q=>(hs2.2 _ (neN (by lia))).trans q
 ·show h2.IsTupleIter _ _ (if m=j then _ else _)
  rw [N2 e];exact Heap.IsTupleIter.at' (Z.it m hm) λo q=>(up _ (by lia) (by lia)).trans q
theorem ZT.flag (Z:ZT h n0 n ls is f0 arr) (hs:Heap.ExtBut (n0+n+2) h h1) (hz:h1.get? (n0+n+2)=some { cls:=.type "zip",dict:=none,data:=.fields #[f1,.bool false,.bool false,.ref (n0+n),.ref (n0+n+1)],slots:=#[] }):ZT h1 n0 n ls is f1 arr :=
 ⟨hz,hs _ _ (neN (by lia)) Z.ti,hs _ _ (neN (by lia)) Z.to,λm hm=>Heap.IsTupleIter.at' (Z.it m hm) λo q=>hs _ _ (neN (by lia)) q⟩
theorem ZT.pos (Z:ZT h n0 n ls is f0 arr) (e:∀j,j<n->is j=is' j):ZT h n0 n ls is' f0 arr :=
 ⟨Z.zp,Z.ti,Z.to,λm hm=>by rw [<-e m hm];exact Z.it m hm⟩
section
variable {A:Go} {s:Da}
theorem Aa {ls:Nat->Nat} {xs:Nat->Array Db} {x:Nat->Db} {arr:List Db} {Q:Db->Da->Prop} (hlt:∀j,j<2->ls j<n0) (Z:ZT s.heap n0 2 ls (λ_=>k) .none arr) (ha:arr.length=2) (hl:∀j,j<2->s.heap.IsTuple (ls j) (xs j)) (hx:∀j,j<2->(xs j)[k]?=some (x j)) (hQ:∀h',ZT h' n0 2 ls (λ_=>k+1) (rawInt s.heap.objs.size) ((range 2).map x)->h'.get? s.heap.objs.size=some { cls:=.type "tuple",data:=.seq ((range 2).map x).toArray } ->
   (∀c o,(c<n0\/n0+2+2<c)->s.heap.get? c=some o->h'.get? c=some o)->Q (.ref s.heap.objs.size) { s with heap:=h' }) :
  wpAny (model prog w) A (Builtin.«zip.__next__» ⟨[.ref (n0+2+2)],[]⟩) (λfin s'=>∃v,fin=.done (.ret v)/\Q v s') E s:=by
 show wpAny _ _ (field _ 2 >>= _) _ _ _
 refine Zr (Xh Z.zp rfl (x:=.bool false) rfl ?_);show wpAny _ _ (field _ (2+1) >>= _) _ _ _
 refine Zr (Xh Z.zp rfl (x:=.ref (n0+2)) rfl ?_);refine Zr (Wm Z.ti rfl ?_);show wpAny _ _ (Builtin.SmallTypes.ownedTupleIsFree _ >>= _) _ _ _
 refine Zr ?_;unfold Builtin.SmallTypes.ownedTupleIsFree;refine Zr (Xh Z.zp rfl (x:=.none) rfl (Yn ?_));simp only [W6];refine Zr (wpAny_rule ?_);refine Zr (Xh Z.zp rfl (x:=.ref (n0+2+1)) rfl ?_);refine Zr (Wt Z.zp (by simp) λh₁ hz₁ hs₁=>?_)
 refine Zr ?_;have Z1:ZT h₁ n0 2 ls (λ_=>k) .ellipsis arr:=Z.flag hs₁.extBut hz₁
 refine wpAny_forIn_list _ (λrest b s'=>b=(none,())/\∃j hp,j<=2/\rest=(my n0 2).zipIdx.drop j/\s'={ s with heap:=hp }/\ZT hp n0 2 ls (λm=>if m<j then k+1 else k) .ellipsis ((range j).map x++arr.drop j) /\
  hp.objs.size=s.heap.objs.size/\∀c o,(c<n0\/n0+2+2<c)->s.heap.get? c=some o->hp.get? c=some o) _ ?_ ?_ _ _ ⟨rfl,0,h₁,Y1 _,rfl,rfl,Z1.pos λj _=>rfl,hs₁.1,λc o hc q=>(hs₁.2 c (neN (by lia))).trans q⟩
 ·rintro y rest b s' ⟨rfl,j,hp,hj3,hr,rfl,Zj,hsz,hk⟩
  obtain ⟨hj,rfl,hr2⟩:=Bb hr;refine Zr (wpAny_onRaise ?_);show wpAny _ _ (Builtin.SmallTypes.nextOf (.ref (n0+j)) >>= _) _ _ _
  have hi:=Zj.it j hj;have e0:(if j<j then k+1 else k)=k:=N2 (Xq _)
  have hlj:hp.IsTuple (ls j) (xs j):=Heap.IsTuple.at' (hl j hj) λo q=>hk _ _ (Or.inl (hlt j hj)) q
  refine Zr (kP (s:={ s with heap:=hp }) hi hlj (by rw [e0];exact hx j hj) λh2 hI2 hs2=>Yn ?_)
  have hT2:h2.get? (n0+2+1)=some { cls:=.type "tuple",data:=.seq ((range j).map x++arr.drop j).toArray }:=(hs2.2 _ (neN (by lia))).trans Zj.to
  refine Zr (Wm hT2 rfl ?_);have hlen:((range j).map x++arr.drop j).length=2:=by rw [Zv,Zy,Zu,Y2,ha];lia
  refine Zr (wpAny_updateSeq hT2 rfl ?_ (by rw [Z0,hlen];decide) (by rw [Array.size_setIfInBounds,Z0,hlen];decide))
  refine Zr (wpAny_letGo (Yn ?_));have hs3:=Vk h2 (n0+2+1) (Obj.mapSeq (·.setIfInBounds j (x j)));have hT3:(h2.update (n0+2+1) (Obj.mapSeq (·.setIfInBounds j (x j)))).get? (n0+2+1)=some { cls:=.type "tuple",data:=.seq ((range (j+1)).map x++arr.drop (j+1)).toArray }:=by
   rw [Vt _ hT2 rfl,<-MZ ha hj];simp only [Obj.mapSeq,Array.size_setIfInBounds,X0,W6]
  refine ⟨rfl,j+1,_,by lia,hr2,rfl,(Zj.draw hj hs2 hI2 hs3 hT3).pos λm hm=>?_,hs3.1.trans (hs2.1.trans hsz),λc o hc q=>(hs3.2 c (neN (by lia))).trans ((hs2.2 c (neN (by lia))).trans (hk c o hc q))⟩
  by_cases e:m=j
  ·subst e
   rw [N1 rfl,N2 (Xq _),N1 (Xg _)]
  ·rw [N2 e]
   by_cases e2:m<j
   ·rw [N1 e2,N1 (by lia)]
   ·rw [N2 e2,N2 (by lia)]
 ·rintro b s' ⟨rfl,j,hp,hj3,hr,rfl,Zj,hsz,hk⟩
  have hj:j=2:=by
   have hl':(my n0 2).zipIdx.length=2:=by rw [Wq];unfold my;rw [Zy,Zu]
   have:=Yl List.length hr;rw [Y2,hl',X5]at this
   lia
  subst hj;have ea:(range 2).map x++arr.drop 2=(range 2).map x:=by rw [List.drop_of_length_le (by lia),Zc]
  rw [ea]at Zj;have Z3:ZT hp n0 2 ls (λ_=>k+1) .ellipsis ((range 2).map x):=Zj.pos λm hm=>N1 hm
  refine Zr (Wm Z3.to rfl ?_);refine Zr (wpAny_newTuple ?_);refine Zr ?_;unfold Builtin.SmallTypes.ownedTupleHandOut;have Z4:ZT (hp.push { cls:=.type "tuple",data:=.seq ((range 2).map x).toArray }) n0 2 ls (λ_=>k+1) .ellipsis ((range 2).map x):=Z3.flag (λb o _ q=>Zl _ q) (Zl _ Z3.zp)
  have zlt:n0+2+2<hp.objs.size:=Zg Z3.zp;refine Zr (Wt Z4.zp (by simp) λh7 hz7 hs7=>?_)
  have Z7:ZT h7 n0 2 ls (λ_=>k+1) (rawInt hp.objs.size) ((range 2).map x):=Z4.flag hs7.extBut hz7
  refine Wt Z7.zp (by simp) λh8 hz8 hs8=>?_
  have Z8:ZT h8 n0 2 ls (λ_=>k+1) (rawInt hp.objs.size) ((range 2).map x):=Z7.flag hs8.extBut hz8
  refine Yn ⟨_,rfl,?_⟩;show Q (.ref hp.objs.size) _
  rw [hsz]at Z8 zlt ⊢;refine hQ h8 Z8 ?_ λc o hc q=>(hs8.2 c (neN (by lia))).trans ((hs7.2 c (neN (by lia))).trans (Zl _ (hk c o hc q)))
  refine (hs8.2 _ (neN (by lia))).trans ((hs7.2 _ (neN (by lia))).trans ?_)
  rw [<-hsz];exact Yr _ rfl
theorem zM (hh:A.handled=none) (hlt:ls 0<n0) (Z:ZT s.heap n0 2 ls (λ_=>k) .none arr) (hl:s.heap.IsTuple (ls 0) xs) (hx:xs[k]?=none) (hE:∀h' e,(∀c o,(c<n0\/n0+2+2<c)->s.heap.get? c=some o->h'.get? c=some o)->(∃o,h'.get? e=some o/\o.cls=.type "StopIteration")->E (.ref e) { s with heap:=h' }) :
  wpAny (model prog w) A (Builtin.«zip.__next__» ⟨[.ref (n0+2+2)],[]⟩) Q E s:=by
 show wpAny _ _ (field _ 2 >>= _) _ _ _
 refine Zr (Xh Z.zp rfl (x:=.bool false) rfl ?_);show wpAny _ _ (field _ (2+1) >>= _) _ _ _
 refine Zr (Xh Z.zp rfl (x:=.ref (n0+2)) rfl ?_);refine Zr (Wm Z.ti rfl ?_);show wpAny _ _ (Builtin.SmallTypes.ownedTupleIsFree _ >>= _) _ _ _
 refine Zr ?_;unfold Builtin.SmallTypes.ownedTupleIsFree;refine Zr (Xh Z.zp rfl (x:=.none) rfl (Yn ?_));simp only [W6];refine Zr (wpAny_rule ?_);refine Zr (Xh Z.zp rfl (x:=.ref (n0+2+1)) rfl ?_);refine Zr (Wt Z.zp (by simp) λh₁ hz₁ hs₁=>?_)
 refine Zr ?_;have Z1:ZT h₁ n0 2 ls (λ_=>k) .ellipsis arr:=Z.flag hs₁.extBut hz₁
 show wpAny _ _ (forIn ((Value.ref (n0+0),0) :: _) _ _) _ _ _
 rw [List.forIn_cons];refine Zr (Zr (wpAny_onRaise ?_));show wpAny _ _ (Builtin.SmallTypes.nextOf (.ref (n0+0)) >>= _) _ _ _
 have hl1:h₁.IsTuple (ls 0) xs:=Heap.IsTuple.at' hl λo q=>(hs₁.2 _ (neN (by lia))).trans q
 refine Zr (lq (s:={ s with heap:=h₁ }) hh (Z1.it 0 (by decide)) hl1 hx λh2 e hs2 he=>?_)
 obtain ⟨oe,hoe,hce⟩:=he;have hz2:=hs2 _ _ (neN (by lia)) Z1.zp
 have hez:e≠n0+2+2:=λz=>by
  subst z;rw [hz2]at hoe;cases hoe;simp at hce
 exact Wt hz2 (by simp) λh3 _ hs3=>hE h3 e (λc o hc q=>(hs3.2 c (neN (by lia))).trans (hs2 c o (neN (by lia)) ((hs₁.2 c (neN (by lia))).trans q))) ⟨oe,(hs3.2 e hez).trans hoe,hce⟩
theorem wu {ls:Nat->Nat} {xs:Nat->Array Db} {x:Nat->Db} {arr:List Db} {Q:Ch->Da->Prop} (hlt:∀j,j<2->ls j<n0) (Z:ZT s.heap n0 2 ls (λ_=>k) .none arr) (ha:arr.length=2) (hl:∀j,j<2->s.heap.IsTuple (ls j) (xs j)) (hx:∀j,j<2->(xs j)[k]?=some (x j)) (hQ:∀h',ZT h' n0 2 ls (λ_=>k+1) (rawInt s.heap.objs.size) ((range 2).map x)->h'.get? s.heap.objs.size=some { cls:=.type "tuple",data:=.seq ((range 2).map x).toArray } ->
   (∀c o,(c<n0\/n0+2+2<c)->s.heap.get? c=some o->h'.get? c=some o)->Q (some (.ref s.heap.objs.size)) { s with heap:=h' }) :
  wpAny (model prog w) A (pyNext (.ref (n0+2+2))) Q E s:=by
 have hT:s.TypeIs (.ref (n0+2+2)) "zip" := ⟨_,Z.zp,rfl⟩;unfold pyNext;exact Zr (wpAny_attempt (wpAny_callSpecial?_slot (name:=Str.ofString "__next__") hT Vu (Vz Vu hT F.entry_zip_next (Aa hlt Z ha hl hx λh' a1 a2 a3=>Yn (hQ h' a1 a2 a3)) (F.args_zip_next_1 _))))
theorem wD (hh:A.handled=none) (hlt:ls 0<n0) (Z:ZT s.heap n0 2 ls (λ_=>k) .none arr) (hl:s.heap.IsTuple (ls 0) xs) (hx:xs[k]?=none) (hQ:∀h',(∀c o,(c<n0\/n0+2+2<c)->s.heap.get? c=some o->h'.get? c=some o)->Q none { s with heap:=h' }) :
  wpAny (model prog w) A (pyNext (.ref (n0+2+2))) Q E s:=by
 have hT:s.TypeIs (.ref (n0+2+2)) "zip" := ⟨_,Z.zp,rfl⟩;unfold pyNext;refine Zr (wpAny_attempt (wpAny_callSpecial?_slot (name:=Str.ofString "__next__") hT Vu (Vz Vu hT F.entry_zip_next (zM hh hlt Z hl hx λh' e hk he=>?_) (F.args_zip_next_1 _))))
 obtain ⟨o,ho,hc⟩:=he;exact Zr (wpAny_isInstance (T := "StopIteration") (b:=true) ⟨o,ho,hc⟩ isSubtype_stop (Yn (hQ _ hk)))
end
def mz (h:N0) (l:Nat):N0:=h.push { cls:=.type "tuple_iterator",data:=.fields #[.ref l,.int 0 0] }
def zA2 (h:N0) (l0 l1:Nat):N0:=(mz (mz h l0) l1).push { cls:=.type "tuple",data:=.seq #[.ref h.objs.size,.ref (mz h l0).objs.size] }
def zB2 (h:N0) (l0 l1:Nat):N0:=(zA2 h l0 l1).push { cls:=.type "tuple",data:=.seq #[.none,.none] }
def zC2 (h:N0) (l0 l1:Nat):N0:=(zB2 h l0 l1).push { cls:=.type "zip",data:=.fields #[.none,.bool false,.bool false,.ref (mz (mz h l0) l1).objs.size,.ref (zA2 h l0 l1).objs.size] }
theorem BN (l0 l1:Nat) (xl0 xl1:Array Db) :
  Meets (Builtin.«zip.__new__» ⟨[.type "zip",.ref l0,.ref l1],[]⟩) (λ_ R s=>s.heap.IsTuple l0 xl0/\s.heap.IsTuple l1 xl1 /\
   R (.ok (.ret (.ref (zB2 s.heap l0 l1).objs.size))) { s with heap:=zC2 s.heap l0 l1 }) :=
 .of_wp λprog w A R s h=>by
  obtain ⟨hp,g,d,tk,os⟩:=s;obtain ⟨hl0,hl1,h⟩:=h;have hsub:=sub_zip;have Hl0:Heap.IsTuple (Shared.heap ⟨hp,g,d,tk,os⟩) l0 xl0:=hl0;have Hl1:Heap.IsTuple (Shared.heap ⟨(Heap.push hp { cls:=.type "tuple_iterator",data:=.fields #[.ref l0,.int 0 0] }),g,d,tk,os⟩) l1 xl1:=(Heap.IsTuple.push hl1 _)
  wp_walk using wpAny_pyIter_tuple Hl0,wpAny_pyIter_tuple Hl1
  exact ⟨_,rfl,h⟩
theorem DN {E:Db->Da->Prop} {s:Da} {ls:Nat->Nat} {xs:Nat->Array Db} {Q:Db->Da->Prop} (hl:∀j,j<2->s.heap.IsTuple (ls j) (xs j)) (h:∀h',ZT h' s.heap.objs.size 2 ls (λ_=>0) .none [.none,.none]->(∀c o,s.heap.get? c=some o->h'.get? c=some o)->Q (.ref (s.heap.objs.size+2+2)) { s with heap:=h' }) :
  wpAny (model prog w) A (call (.type "zip") [.ref (ls 0),.ref (ls 1)]) Q E s:=by
 refine callType_new PySem.F.called_zip (by decide) (PySem.F.typeCall_zip_2 _ _) (PySem.F.newCall_zip_2 _ _) (λobj=>PySem.F.args_object_init_3 obj _ _) PySem.F.entry_zip_new (BN (ls 0) (ls 1) (xs 0) (xs 1)) ⟨hl 0 (by decide),hl 1 (by decide),?_⟩
 have z1:(mz s.heap (ls 0)).objs.size=s.heap.objs.size+1:=Xo ..;have z2:(mz (mz s.heap (ls 0)) (ls 1)).objs.size=s.heap.objs.size+2:=by unfold mz;rw [Xo];exact Yl (·+1) z1
 have zA:(zA2 s.heap (ls 0) (ls 1)).objs.size=s.heap.objs.size+2+1:=by unfold zA2;rw [Xo,z2]
 have zB:(zB2 s.heap (ls 0) (ls 1)).objs.size=s.heap.objs.size+2+2:=by unfold zB2;rw [Xo,zA]
 have kC:∀c o,(zB2 s.heap (ls 0) (ls 1)).get? c=some o->(zC2 s.heap (ls 0) (ls 1)).get? c=some o:=λc o q=>Zl _ q
 have kB:∀c o,(zA2 s.heap (ls 0) (ls 1)).get? c=some o->(zC2 s.heap (ls 0) (ls 1)).get? c=some o:=λc o q=>kC c o (Zl _ q)
 have k2:∀c o,(mz (mz s.heap (ls 0)) (ls 1)).get? c=some o->(zC2 s.heap (ls 0) (ls 1)).get? c=some o:=λc o q=>kB c o (Zl _ q)
 have k1:∀c o,(mz s.heap (ls 0)).get? c=some o->(zC2 s.heap (ls 0) (ls 1)).get? c=some o:=λc o q=>k2 c o (Zl _ q)
 have k0:∀c o,s.heap.get? c=some o->(zC2 s.heap (ls 0) (ls 1)).get? c=some o:=λc o q=>k1 c o (Zl _ q)
 have gC:(zC2 s.heap (ls 0) (ls 1)).get? (zB2 s.heap (ls 0) (ls 1)).objs.size=some _:=Yr _ rfl;have gB:(zC2 s.heap (ls 0) (ls 1)).get? (zA2 s.heap (ls 0) (ls 1)).objs.size=some _:=kC _ _ (Yr _ rfl);have gA:(zC2 s.heap (ls 0) (ls 1)).get? (mz (mz s.heap (ls 0)) (ls 1)).objs.size=some _:=kB _ _ (Yr _ rfl);have g0:(zC2 s.heap (ls 0) (ls 1)).get? s.heap.objs.size=some _:=k1 _ _ (Yr _ rfl);have g1:(zC2 s.heap (ls 0) (ls 1)).get? (mz s.heap (ls 0)).objs.size=some _:=k2 _ _ (Yr _ rfl);rw [zB,zA,z2]at gC;rw [zA]at gB;rw [z2,z1]at gA;rw [z1]at g1;show _/\Q (.ref (zB2 s.heap (ls 0) (ls 1)).objs.size) _
 rw [zB];refine ⟨⟨_,gC,rfl⟩,h _ ⟨gC,gA,gB,λj hj=>?_⟩ k0⟩
 match j,hj with
 |0,_=>exact ⟨_,g0,rfl,rfl⟩
 |1,_=>exact ⟨_,g1,rfl,rfl⟩
def Itv (K:At) (n:Nat) (ls:Nat->Nat):It :=
 ⟨λi H=>∀j,j<n->∃xs x,SqT K H (ls j) xs/\xs[i]?=some x,λi H v H'=>∃(T:Is) (xs:List V),H T=none/\v=.ref T/\H'=upd H T (.tup xs)/\xs.length=n/\∀j,j<n->∀ys,SqT K H (ls j) ys->xs[j]?=ys[i]?,
  λi H=>∃xs,SqT K H (ls 0) xs/\xs.length<=i⟩
theorem ZT.obj (Z:ZT h n0 n ls is f0 arr) (hc:c∈zfp n0 n):∃o,h.get? c=some o/\∀v,o.data≠.cell v:=by
 have:=uT hc;by_cases h1:c<n0+n
 ·obtain ⟨o,e,_,d⟩:=Z.it (c-n0) (by lia)
  rw [show n0+(c-n0)=c by lia]at e
  exact ⟨o,e,λv z=>by rw [d]at z;cases z⟩
 ·have h2:c=n0+n\/c=n0+n+1\/c=n0+n+2:=by lia
  rcases h2 with rfl | rfl | rfl
  ·exact ⟨_,Z.ti,λv z=>by cases z⟩
  ·exact ⟨_,Z.to,λv z=>by cases z⟩
  ·exact ⟨_,Z.zp,λv z=>by cases z⟩
theorem ZT.kept (Z:ZT h n0 n ls is f0 arr) (kp:∀b∈zfp n0 n,∀o,h.get? b=some o->h'.get? b=some o):ZT h' n0 n ls is f0 arr :=
 ⟨kp _ (n9 (by lia) (by lia)) _ Z.zp,kp _ (n9 (by lia) (by lia)) _ Z.ti,kp _ (n9 (by lia) (by lia)) _ Z.to,λj hj=>Heap.IsTupleIter.at' (Z.it j hj) λo q=>kp _ (n9 (by lia) (by lia)) o q⟩
theorem C_ {K:At} (n0:Nat) (ls:Nat->Nat) (hlt:∀j,j<2->ls j<n0) :
  Turn P w K (.Tuple es tk pos) (Itv K 2 ls) (zfp n0 2) (n0+2+2) (λi h=>∃arr,arr.length=2/\ZT h n0 2 ls (λ_=>i) .none arr):=by
 constructor
 ·exact n9 (by lia) (by lia)
 ·rintro i h ⟨arr,_,Z⟩ c hc
  exact Z.obj hc
 ·rintro i h h' ⟨arr,ha,Z⟩ kp
  exact ⟨arr,ha,Z.kept kp⟩
 ·intro X hP hw hK hc i pins s σ H E I hf st hg
  subst hP hw hK;obtain ⟨arr,ha,Z⟩:=st;have pick:∀j,∃(xs:List V) (x:V) (its:List Db) (u:Db),j<2->SqT X.K H (ls j) xs/\xs[i]?=some x/\s.heap.IsTuple (ls j) its.toArray/\its[i]?=some u/\RelV x u:=λj=>by
   by_cases hj:j<2
   ·obtain ⟨xs,x,hq,hx⟩:=hg j hj
    obtain ⟨its,rv,p,_⟩:=I.tuple hq;obtain ⟨u,hu,ru⟩:=rv.get hx;exact ⟨xs,x,its,u,λ_=>⟨hq,hx,(show s.heap.IsTuple _ its.toArray from p),hu,ru⟩⟩
   ·exact ⟨[],.non,[],.none,λz=>absurd z hj⟩
  obtain ⟨xs,pick⟩:=Wo pick;obtain ⟨x,pick⟩:=Wo pick;obtain ⟨its,pick⟩:=Wo pick;obtain ⟨u,pick⟩:=Wo pick;refine wu hlt Z ha (xs:=λj=>(its j).toArray) (x:=u) (λj hj=>(pick j hj).2.2.1) (λj hj=>by simpa using (pick j hj).2.2.2.1) λh3 Z3 hT hk=>?_
  refine ⟨_,rfl,wpAny_letOwnedTupleGo_zip Z3.zp λh4 hz4 hs4=>?_⟩
  have zlt:n0+2+2<s.heap.objs.size:=Zg Z.zp;have hs4':∀c,c≠n0+2+2->h4.get? c=h3.get? c:=λc hc=>hs4.2 c (neN hc)
  have kk:∀c w',c∉zfp n0 2->s.heap.get? c=some w'->h4.get? c=some w':=λc w' hc q=>by
   have:=xw hc;exact (hs4' c (by lia)).trans (hk c w' this q)
  have hT4:=(hs4' s.heap.objs.size (by lia)).trans hT
  have Z4:ZT h4 n0 2 ls (λ_=>i+1) .none ((range 2).map u):=Z3.flag hs4.extBut hz4
  refine ⟨.ref s.heap.objs.size,upd H s.heap.objs.size (.tup ((range 2).map x)),qE (s:=s) (h':=h4) (t':=s.toks) I hf kk (Zi _) ?_,rfl,⟨_,(range 2).map x,I.fresh,rfl,rfl,rfl,λj hj ys hy=>?_⟩,⟨_,rfl,Z4⟩,λc hc=>?_⟩
  ·refine ⟨by show 2<=sizeLine;decide,(range 2).map u,Vals.of_get rfl λj hj=>?_,_,hT4,rfl,_,rfl⟩
   have hj:j<2:=hj;exact ⟨x j,u j,by rw [Zx,Z6 hj];rfl,by rw [Zx,Z6 hj];rfl,(pick j hj).2.2.2.2⟩
  ·rw [Zx,Z6 hj,I.tuple_inj hy (pick j hj).1,(pick j hj).2.1]
   rfl
  ·have:=uT hc
   rw [av (neN (by lia))]
   exact (hf c hc).1
 ·intro X hP hw hK hc i pins s σ H E I hf st hg
  subst hP hw hK;obtain ⟨arr,ha,Z⟩:=st;obtain ⟨xs,hq,hx⟩:=hg;obtain ⟨its,rv,p,_⟩:=I.tuple hq;have l1:=rv.length;refine wD (I.ok.hd hc) (hlt 0 (by decide)) Z (show s.heap.IsTuple _ its.toArray from p) (by simp;lia) λh3 hk=>⟨rfl,tP (t':=s.toks) I hf λc w' hc q=>hk c w' (xw hc) q⟩
 ·rintro A i s Q E ⟨arr,ha,Z⟩ h
  exact W0 Z.zp h
def iZA (K:At) (ta:TA):TI:=fun σ H R=>ta σ H λvs H1=>∃a b:Nat,vs=[.ref a,.ref b]/\(((∃xs,SqL K H1 a xs)/\(∃ys,SqL K H1 b ys)/\R (Itz K a b) H1)\/((∃xs,SqT K H1 a xs)/\(∃ys,SqT K H1 b ys)/\R (Itv K 2 λj=>[a,b].getD j 0) H1))
theorem J8 (hg:Gl X "zip") (hm:X.mg "zip" = none) (ha:PA X [a,b] ta) (hs:starEach [a,b] X.env=[(false,eval a X.env),(false,eval b X.env)]:=by rfl) (hs2:starEach [b] X.env=[(false,eval b X.env)]:=by rfl) :
  PI X (.Tuple es k tpos) (.Call (.Name "zip" p) [a,b] [] pos) (iZA X.K ta):=by
 intro pins s σ H R I h;refine Call_ (gv I hg hm z_ (Yc (thn (ha pos pins s σ H _ I h) λus s1 ⟨vs,H1,I1,r1,q1⟩=>?_) (by rw [hs,hs2]) (by rw [hs2];rfl)))
 obtain ⟨l,l',e,q1⟩:=q1;subst e;obtain ⟨u,v,rfl,ru,rv'⟩:=Vals.two r1;cases ru;cases rv';rcases q1 with ⟨⟨xs,hq⟩,⟨ys,hr⟩,q⟩ | ⟨⟨xs,hq⟩,⟨ys,hr⟩,q⟩
 ·obtain ⟨its,rv,pl,hz⟩:=I1.list hq
  obtain ⟨its2,rv2,pl2,hz2⟩:=I1.list hr;have lt1:l<s1.heap.objs.size:=(let ⟨o,e,_⟩:=pl.isList;Zg e);have lt2:l'<s1.heap.objs.size:=(let ⟨o,e,_⟩:=pl2.isList;Zg e);refine call_zip_2 pl.isList pl2.isList λh1 a1 a2 a3 a4 a5 a6 hk=>?_
  refine W0 a1 ?_;have I2:Inv X pins σ H1 { s1 with heap:=h1 }:=I1.kept (t':=s1.toks) hk
  refine ⟨s1.heap.objs.size+4,[s1.heap.objs.size+4,s1.heap.objs.size+2,s1.heap.objs.size+3,s1.heap.objs.size,s1.heap.objs.size+1],_,Itz X.K l l',H1,rfl,I2,
   CQ l l' (s1.heap.objs.size+4) (s1.heap.objs.size+2) (s1.heap.objs.size+3) s1.heap.objs.size (s1.heap.objs.size+1) ⟨neN (by lia),neN (by lia),neN (by lia),neN (by lia)⟩ ⟨neN (by lia),neN (by lia),neN (by lia)⟩ ⟨neN (by lia),neN (by lia)⟩ (neN (by lia)) ⟨neN (by lia),neN (by lia),neN (by lia),neN (by lia)⟩ ⟨neN (by lia),neN (by lia),neN (by lia),neN (by lia)⟩,⟨a1,a2,⟨_,_,a3⟩,a4,a5⟩,λc hc=>?_,q⟩
  have hc':@LE.le Nat instLENat s1.heap.objs.size c:=by
   have hc2:@Eq Nat c (s1.heap.objs.size+4)\/@Eq Nat c (s1.heap.objs.size+2)\/@Eq Nat c (s1.heap.objs.size+3)\/@Eq Nat c s1.heap.objs.size\/@Eq Nat c (s1.heap.objs.size+1):=by simpa using hc
   lia
  exact I1.fpOk hc' (I1.hok.fresh hc')
 ·obtain ⟨its,rv,pl,hz⟩:=I1.tuple hq
  obtain ⟨its2,rv2,pl2,hz2⟩:=I1.tuple hr;have p1:s1.heap.IsTuple l its.toArray:=pl;have p2:s1.heap.IsTuple l' its2.toArray:=pl2;have lt1:l<s1.heap.objs.size:=(let ⟨o,e,_⟩:=p1;Zg e);have lt2:l'<s1.heap.objs.size:=(let ⟨o,e,_⟩:=p2;Zg e);have lt:∀j,j<2->(λj=>[l,l'].getD j 0) j<s1.heap.objs.size:=λj hj=>match j,hj with
   |0,_=>lt1
   |1,_=>lt2
  refine DN (ls:=λj=>[l,l'].getD j 0) (xs:=λj=>[its.toArray,its2.toArray].getD j #[]) (λj hj=>match j,hj with
   |0,_=>p1
   |1,_=>p2) λh1 Z hk=>?_
  refine W0 Z.zp ?_;have I2:Inv X pins σ H1 { s1 with heap:=h1 }:=I1.kept (t':=s1.toks) hk
  refine ⟨s1.heap.objs.size+2+2,zfp s1.heap.objs.size 2,_,Itv X.K 2 _,H1,rfl,I2,C_ _ _ lt,⟨_,rfl,Z⟩,λc hc=>?_,q⟩
  have hc':=(uT hc).1;exact I1.fpOk hc' (I1.hok.fresh hc')
end L2
namespace L3
open PySem L2 PySem.Spec PyProof.Rows
def zY (x y:Gc):R (List Gc):=match x,y with
 |.list ds,.list es=>.ok (tQ ds es)
 |.tuple ds,.tuple es=>if ds.length=es.length then .ok (tQ ds es) else .bad
 |_,_=>.bad
def uS (a b:Fe):Fi:=fun ρ=>(a ρ).bind λx=>(b ρ).bind λy=>zY x.er y.er
theorem Kw (ds es:List Gc):zY (.list ds) (.list es)=.ok (tQ ds es):=rfl
theorem LF (h:ds.length=es.length):zY (.tuple ds) (.tuple es)=.ok (tQ ds es):=N1 h
theorem LN:uS a b ρ=IT zY (a ρ) (b ρ):=by
 unfold uS;cases a ρ <;> cases b ρ <;> rfl
section
variable {M:Mx} {F H:Hp} {X:Cx}
theorem MK {a b:Fe} (h:tI M n (uS a b) σ H R'):iZA M.K (tA M n (aa a (aa b ag))) σ H R':=by
 obtain ⟨F,ρ,fp,S,p⟩:=h;refine ⟨F,ρ,fp,S,u0 (g:=zY) p λv w dx dy G1 H1 d1 rv rw' q=>?_⟩
 unfold zY at q;split at q
 ·rename_i ds es
  cases rv with
  |@lst a vs _ h1 h2 =>
   cases rw' with
   |@lst b ws _ h3 h4 =>
    refine ⟨a,b,rfl,.inl ⟨⟨vs,(h1.same d1.fh).sq⟩,⟨ws,(h3.same d1.fh).sq⟩,q _ G1 H1 d1 λi G H' s1 s2=>?_⟩⟩
    have hq:=(h1.same (s1.trans s2)).sq;have hq':=(h3.same (s1.trans s2)).sq;refine ⟨λd hd=>?_,λhl=>⟨vs,ws,hq,hq',?_⟩⟩
    ·obtain ⟨x,y,hx,hy,rfl⟩:=pX hd
     obtain ⟨u,hu,ru⟩:=RepAll.get h2 hx;obtain ⟨u',hu',ru'⟩:=RepAll.get h4 hy;refine ⟨⟨vs,u,ws,u',hq,hu,hq',hu'⟩,λx H2 y=>?_⟩
     obtain ⟨T,z,z',hT,rfl,rfl,hz,hz'⟩:=y;have e1:=hz vs hq;have e2:=hz' ws hq';rw [hu]at e1;rw [hu']at e2;cases e1;cases e2;have sg:ax G (upd G T (.tup [u,u'])):=(ax.refl G).upd (s2.free hT);exact ⟨upd G T _,Ext.allocF s2 hT,.tup aE (.cons ((ru.same s1).same sg) (.cons ((ru'.same s1).same sg) .nil))⟩
    ·rw [RepAll.len h2,RepAll.len h4]
     unfold tQ at hl;rw [Zy,List.length_zip]at hl
     lia
 ·rename_i ds es
  split at q
  ·rename_i hle
   cases rv with
   |@tup a vs _ h1 h2 =>
    cases rw' with
    |@tup b ws _ h3 h4 =>
     refine ⟨a,b,rfl,.inr ⟨⟨vs,SqT.of (d1.fh _ _ h1)⟩,⟨ws,SqT.of (d1.fh _ _ h3)⟩,q _ G1 H1 d1 λi G H' s1 s2=>?_⟩⟩
     have hq:SqT M.K H' a vs:=SqT.of ((s1.trans s2) _ _ h1);have hq':SqT M.K H' b ws:=SqT.of ((s1.trans s2) _ _ h3);refine ⟨λd hd=>?_,λhl=>⟨vs,hq,?_⟩⟩
     ·obtain ⟨x,y,hx,hy,rfl⟩:=pX hd
      obtain ⟨u,hu,ru⟩:=RepAll.get h2 hx;obtain ⟨u',hu',ru'⟩:=RepAll.get h4 hy;refine ⟨λj hj=>match j,hj with
       |0,_=>⟨vs,u,hq,hu⟩
       |1,_=>⟨ws,u',hq',hu'⟩,λx H2 y=>?_⟩
      obtain ⟨T,us,hT,rfl,rfl,hlen,hz⟩:=y;have z0:=hz 0 (by decide) vs hq
      rw [hu]at z0;have z1:=hz 1 (by decide) ws hq'
      rw [hu']at z1;obtain rfl:us=[u,u']:=by
       match us,hlen with
       |[w0,w1],_ =>
        cases z0;cases z1;rfl
      have sg:ax G (upd G T (.tup [u,u'])):=(ax.refl G).upd (s2.free hT);exact ⟨upd G T _,Ext.allocF s2 hT,.tup aE (.cons ((ru.same s1).same sg) (.cons ((ru'.same s1).same sg) .nil))⟩
     ·rw [RepAll.len h2]
      unfold tQ at hl;rw [Zy,List.length_zip]at hl
      lia
  ·exact q.elim
 ·exact q.elim
theorem xH (hg:Gl X "zip") (hm:X.mg "zip" = none) (h:DE M X a fa) (k:DE M X b fb) (hs1:starEach [a,b] X.env=(false,eval a X.env) :: starEach [b] X.env:=by rfl) (hs0:starEach [b] X.env=(false,eval b X.env) :: starEach [] X.env:=by rfl) (hs:starEach [a,b] X.env=[(false,eval a X.env),(false,eval b X.env)]:=by rfl) (hs2:starEach [b] X.env=[(false,eval b X.env)]:=by rfl):DI M X (.Tuple ts tk tpos) (.Call (.Name "zip" p) [a,b] [] pos) (uS fa fb):=λhK hM=>by
 have q:=J8 (es:=ts) (k:=tk) (tpos:=tpos) (p:=p) (pos:=pos) hg hm ((aB h (aB k cb hs0) hs1) hK hM) hs hs2;rw [hK]at q;exact λpins s σ H R' I z=>q pins s σ H R' I (MK z)
end
theorem nR {K:At}:FnOk P w K mg base CX k f fd ps (sp3 K mg λ_=>.bad) :=
 ⟨λ_ _ _ _ h=>let ⟨_,_,_,_,p⟩:=h;p.elim,λ_ _ _ _ _ _ _ _ _ _ _ _ _ h=>let ⟨_,_,_,_,p⟩:=h;p.elim⟩
mutual
def nol:Gc->Bool
 |.tuple ds=>B7 ds
 |.list _=>false
 |.dict _=>false
 |.none=>true
 |.bool _=>true
 |.int _=>true
 |.str _=>true
def B7:List Gc->Bool
 |[]=>true
 |d :: ds=>nol d && B7 ds
end
def HC:OD->Bool
 |.sh d=>nol d
 |_=>false
def okN:OD->Bool
 |.ol ys=>ys.all HC
 |_=>false
def pH:OD->Bool
 |.ol ys=>ys.all ED
 |.pl _ ys=>ys.all ED
 |_=>false
def qU (i:Nat) (fa:Fe):Fe:=fun ρ=>match ρ[i]? with
 |some (some x)=>if pH x=true then (fa (ρ.set i (some (.sh x.er)))).bind λy=>if okN y=true then .ok y else .bad else .bad
 |_=>.bad
section
variable {K:At} {F H:Hp}
theorem BM {g:List Is} (h:Own K F H v x g) (e:pH x=true):∀b∈g,∃ws,H b=some (.lst ws):=by
 cases h with
 |sh _=>cases e
 |od _ _ _=>cases e
 |oi _ _ _=>cases e
 |ot _ _=>cases e
 |@ol a vs xs f' ha hv =>
  have:=ue hv e;subst this;intro b m;have:b=a:=by simpa using m
  rw [this];exact ⟨_,ha⟩
 |@pl a vs xs f' ha hv =>
  have:=ue hv e;subst this;intro b m;have:b=a:=by simpa using m
  rw [this];exact ⟨_,ha⟩
mutual
theorem wm (hl:∀b∈f,∃ws,F b=some (.lst ws)):Rep K F v d->nol d=true->Rep K (nE F f) v d
 |.non,_=>.non
 |.bl b,_=>.bl b
 |.int i,_=>.int i
 |.str x,_=>.str x
 |.lst _ _,e=>by rw [nol]at e;cases e
 |.dct _ _ _,e=>by unfold dD at e;rw [nol]at e;cases e
 |.ins _ _ _,e=>by unfold mG at e;rw [nol]at e;cases e
 |.tup (a:=a) h1 h2,e=>by
  rw [nol]at e;refine .tup ?_ (sR hl h2 e);rw [dU λm=>by
   obtain ⟨ws,q⟩:=hl a m;rw [h1]at q;cases q]
  exact h1
theorem sR (hl:∀b∈f,∃ws,F b=some (.lst ws)):RepAll K F vs ds->B7 ds=true->RepAll K (nE F f) vs ds
 |.nil,_=>.nil
 |.cons h r,e=>by
  rw [B7,Yy]at e;exact .cons (wm hl h e.1) (sR hl r e.2)
end
theorem sj (hl:∀b∈f,∃ws,F b=some (.lst ws)):∀{vs:List V} {xs:List OD} {g:List Is},OwnL K F H vs xs g->xs.all HC=true->OwnL K (nE F f) H vs xs g
 |_,_,_,.nil,_=>.nil
 |_,_,_,.cons h r,e=>by
  rw [W1,Yy]at e;refine .cons ?_ (sj hl r e.2);cases h with
  |sh q=>exact .sh (wm hl q e.1)
  |ol _ _=>cases e.1
  |ot _ _=>cases e.1
  |od _ _ _=>cases e.1
  |oi _ _ _=>cases e.1
  |pl _ _=>cases e.1
theorem Cr {v:V} {x:OD} {g:List Is} (hl:∀b∈f,∃ws,F b=some (.lst ws)) (h:Own K F H v x g) (e:okN x=true):Own K (nE F f) H v x g:=by
 cases h with
 |sh q=>cases e
 |ol ha hv=>exact .ol ha (sj hl hv e)
 |ot ha hv=>cases e
 |od _ _ _=>cases e
 |oi _ _ _=>cases e
 |pl _ _=>cases e
end
section
theorem Ia (h:tD M n (qU i fa) σ H Q):tD M n fa σ H Q:=by
 obtain ⟨F,ρ,fp,S,p⟩:=h;unfold qU at p;split at p
 ·rename_i x e
  split at p
  ·rename_i hlo
   obtain ⟨v,f,g1,g2,h1,h2,rfl,h4⟩:=S.own.at e;have ff:∀a∈f,F a=none:=λa m=>S.fr a (Zt _ (Zm _ m))
   have o:=h4 (kQ F H f) H (dj ff) (λ_ _ _ q=>q) v (.sh x.er) [] (.sh (h2.frz (dj ff) λa m o q=>by rw [gW m];exact q))
   have hs:σ.set i (some v)=σ:=by
    apply Yo
    intro j;by_cases hj:i=j
    ·subst hj
     rw [h1,Ym (ZA.mp h1).1]
    ·rw [Yi hj]
   rw [hs]at o;have nd:=S.nd;simp only [Yx,Z5]at nd;obtain ⟨n1,⟨n2,n3,n4⟩,n5⟩:=nd;have sub:∀a∈g1++([]++g2),a∈g1++(f++g2)/\a∉f:=λa m=>by
    simp only [Yf,Z5]at m ⊢;rcases m with m | m
    ·exact ⟨.inl m,λz=>n5 a m a (.inl z) rfl⟩
    ·exact ⟨.inr (.inr m),λz=>n4 a z a m rfl⟩
   have hLT:=BM h2 hlo;have S1:Stt M.K n (kQ F H f) H σ (ρ.set i (some (.sh x.er))) (g1++([]++g2)) :=
    ⟨pG S.same,o,by
     simp only [Yf,Yx];exact ⟨n1,n3,λa m b m'=>n5 a m b (.inr m')⟩,λa m=>by
     rw [dt (sub a m).2];exact S.fr a (sub a m).1,by rw [Y3];exact S.len⟩
   have st:Stp F H (g1++(f++g2)) (kQ F H f) H (g1++([]++g2)):=⟨dj ff,λ_ _ h _=>h,λa m=>.inl (sub a m).1,λa h m z=>by
    rw [dt λw=>m (Zt _ (Zm _ w))]
    exact z⟩
   refine ⟨_,_,_,S1,((aq.bind p).stp st).mono λy py v1 F1 H1 fx e1 r1 w1=>?_⟩
   split at py
   ·rename_i hok
    obtain ⟨ro,rn,rf⟩:=r1;have hL1:∀b∈f,∃ws,F1 b=some (.lst ws):=λb m=>let ⟨ws,q⟩:=hLT b m;⟨ws,e1.ff _ _ (by rw [gW m];exact q)⟩
    refine py v1 (nE F1 f) H1 fx ⟨λb o hb=>?_,e1.hh,λb o hb=>?_,λb hb hn=>?_⟩ ⟨Cr hL1 ro hok,rn,λb m=>?_⟩ w1
    ·have:b∉f:=λm=>by
      rw [ff b m]at hb;cases hb
     rw [dU this];exact e1.ff _ _ (dj ff _ _ hb)
    ·by_cases m:b∈f
     ·rw [nh m]at hb
      cases hb
     ·rw [dU m]at hb
      exact e1.fh _ _ hb
    ·by_cases m:b∈f
     ·exact nh m
     ·rw [dU m]
      exact e1.nw b hb (by rw [dt m];exact hn)
    ·by_cases m':b∈f
     ·exact nh m'
     ·rw [dU m']
      exact rf b m
   ·exact py.elim
  ·exact p.elim
 ·exact p.elim
end
section
theorem Gv (i:Nat) (fa:Fe) (ρ:Env) (h:ρ[i]?=some (some x)) (hx:pH x=true) (h2:fa (ρ.set i (some (.sh x.er)))=.ok y) (h3:okN y=true):qU i fa ρ=.ok y:=by
 unfold qU;rw [h];show (if pH x=true then (fa (ρ.set i (some (.sh x.er)))).bind _ else .bad)=_
 rw [N1 hx,h2];show (if okN y=true then R.ok y else .bad)=_
 rw [N1 h3]
theorem DY (i:Nat) (h:DE M X e fa):DE M X e (qU i fa):=λhK hM=>peI (h hK hM) λ_ _ _ q=>Ia q
end
end L3
namespace L2
open PySem PySem.Spec PyProof.Rows
section
end
section
end
section
end
end L2
namespace L3
open PySem L2 PySem.Spec PyProof.Rows
section
open Classical in
end
def CXE (P:Do) (w:Ev):CXT:=λouter H s E e s'=>∃(ea:Is) (cls a0:Db) (B:N0) (H':Hp),
 e=.ref ea/\s'.os=s.os/\AllBare s'.gens/\Un (frs outer) [] H H' s.heap s'.heap/\HOk P w H' s'.heap/\Heap.FlyingW B outer ea cls a0 s'.heap /\
 (∀b o,s'.heap.get? b=some o->b∉frs outer->(H' b≠none\/s.heap.get? b≠none)->B.get? b=some o)/\E cls none H'
theorem lB (h:env.frame=some L):frs (env :: outer)=L :: frs outer:=by
 unfold frs;rw [Wc,h]
theorem rZ (x:cT P w H h a o):∃u,h.get? a=some u:=by
 cases o with
 |lst xs=>obtain ⟨_,_,_,_,e⟩:=x;exact ⟨_,e⟩
 |tup xs=>obtain ⟨_,_,_,_,e,_⟩:=x;exact ⟨_,e⟩
 |dK kvs=>obtain ⟨_,_,_,_,o,_,_,e,_⟩:=x;exact ⟨_,e⟩
 |dT kvs=>obtain ⟨_,_,_,_,o,_,_,e,_⟩:=x;exact ⟨_,e⟩
 |set S n=>obtain ⟨o,_,_,_,e,_⟩:=x;exact ⟨_,e⟩
 |ins C dx fs=>obtain ⟨_,_,_,e,_⟩:=x;exact ⟨_,e⟩
 |own y=>exact x
 |xd fs=>obtain ⟨_,⟨_,_,_,e,_⟩,_⟩:=x;exact ⟨_,e⟩
 |rng lo hi=>obtain ⟨_,_,_,e⟩:=x;exact ⟨_,e⟩
 |frz ob u=>exact ⟨_,x.1⟩
 |tbl ps=>exact ⟨_,(show h.get? a=some _ from x)⟩
 |met f y=>exact ⟨_,(show h.get? a=some _ from x)⟩
 |ext φ=>exact x.2.1
section
variable {X:Cx} {s':Da} {B h'':N0}
theorem xY (J:Inv X pins σ H' s') (hst:X.stack=X.env :: X.outer) (hfr:X.env.frame=some X.env.locals) (hex:X.ex=[]) (up:s'.heap.UpToSlots h'') (stay:B.StaysIn h'')
  (cov:∀b o,s'.heap.get? b=some o->b∉frs X.stack->(H' b≠none\/X.s₀.heap.get? b≠none)->B.get? b=some o) :
  Un (frs X.outer) [] X.H₀ H' X.s₀.heap h''/\HOk X.prog X.w H' h''/\∀b o,h''.get? b=some o->b∉frs X.outer->(H' b≠none\/X.s₀.heap.get? b≠none)->B.get? b=some o:=by
 have nb:∀b o,X.s₀.heap.get? b=some o->b≠X.env.locals:=λb o q=>Ys (Yt (Zg q) J.ok.above)
 have ns:∀b,b∉frs X.outer->b≠X.env.locals->b∉frs X.stack:=λb h1 h2=>by
  rw [hst,lB hfr];exact λm=>(Xz.mp m).elim h2 h1
 have nx:∀b,b∉X.ex:=λb=>by rw [hex];simp
 have tr:∀b,H' b≠none->b∉frs X.stack:=λb n m=>n (J.stkFree b m)
 have old:∀b o,X.s₀.heap.get? b=some o->b∉frs X.outer->∀o',s'.heap.get? b=some o'->h''.get? b=some o':=λb o q n o' q' =>
  stay b o' (cov b o' q' (ns b n (nb b o q)) (.inr (by rw [q];simp)))
 have fr:∀b o,b∈frs X.outer->s'.heap.get? b=some o->∃sl,h''.get? b=some { o with slots:=sl }:=λb o m q=>by
  have m':b∈frs X.stack:=by rw [hst,lB hfr];exact Zs _ m
  obtain ⟨_,o',q',nf⟩:=J.stack.mem m';rw [q]at q';cases q';exact up b o q nf
 refine ⟨⟨λb o q n hb _=>?_,λb o q n hb _=>?_,λb o q n _=>J.base.free b o q n (nx b),λb o q _=>?_,J.base.tups,J.base.frzs,J.base.tbls⟩,λb u e=>?_,λb o q n hc=>?_⟩
 ·exact old b o q hb o (J.base.keep b o q n hb (nx b))
 ·obtain ⟨sl,e1⟩:=J.base.slot b o q n hb (nx b)
  obtain ⟨sl',e2⟩:=fr b _ hb e1;exact ⟨sl',e2⟩
 ·obtain ⟨o',e1⟩:=J.base.there b o q (nx b)
  by_cases hb:b∈frs X.outer
  ·obtain ⟨sl',e2⟩:=fr b _ hb e1
   exact ⟨_,e2⟩
  ·exact ⟨o',old b o q hb o' e1⟩
 ·refine (J.hok b u e).stay (λc v hc q=>stay c v (cov c v q (tr c ?_) (.inl ?_))) (λ_ q=>q) λ_ _ q=>q
  ·rcases hc with rfl | hc
   ·rw [e];simp
   ·rw [hc];simp
  ·rcases hc with rfl | hc
   ·rw [e];simp
   ·rw [hc];simp
 ·have ex:∃o',s'.heap.get? b=some o':=by
   rcases hc with hc | hc
   ·cases z:H' b with
    |none=>exact absurd z hc
    |some u=>exact rZ (J.hok b u z)
   ·cases z:X.s₀.heap.get? b with
    |none=>exact absurd z hc
    |some u=>exact J.base.there b u z (nx b)
  obtain ⟨o',e1⟩:=ex;have nl:b≠X.env.locals:=by
   rcases hc with hc | hc
   ·exact λz=>hc (z▸J.free)
   ·cases z:X.s₀.heap.get? b with
    |none=>exact absurd z hc
    |some u=>exact nb b u z
  have e2:=cov b o' e1 (ns b n nl) hc;have e3:=stay b o' e2;rw [q]at e3;cases e3;exact e2
end
def Lv (X:Cx) (E:XK):Prop:=X.stack=X.env :: X.outer/\X.env.frame=some X.env.locals/\X.ex=[] /\
 ∀(e:Db) (s':Da),wpAny (model X.prog X.w) X.A (leaving X.env e) (λ_ s''=>CXE X.prog X.w X.outer X.H₀ X.s₀ E e s'') (λe' s''=>CXE X.prog X.w X.outer X.H₀ X.s₀ E e' s'') s'->X.xe e s'
theorem Lv.of {K:At} :
  Lv (mI (CXE P w) P w K mg base N qual scope f cd A outer s H E) E:=⟨rfl,rfl,rfl,λ_ _ h=>h⟩
section
variable {X:Cx} {s s':Da}
theorem Lv.pass (L:Lv X E):Passes (CXE X.prog X.w) X E:=λpins σ H s e s' I x=>by
 obtain ⟨hst,hfr,hex,hxe⟩:=L;obtain ⟨ea,cls,a0,B,H',rfl,os,bare,un,hok,fl,cov,hE⟩:=x;have J:Inv X pins σ H' s':=I.call' os un hok bare λb z=>absurd z (by simp)
 refine hxe _ _ ?_;rw [hst]at fl;refine wpAny_leaves_onW (by rw [<-hst];exact I.ok.frames) hfr fl λh'' fl' up=>?_
 have cov':∀b o,s'.heap.get? b=some o->b∉frs X.stack->(H' b≠none\/X.s₀.heap.get? b≠none)->B.get? b=some o:=λb o q n hc=>cov b o q n <| hc.imp_right λz=>by
  cases y:X.s₀.heap.get? b with
  |none=>exact absurd y z
  |some u =>
   obtain ⟨o',q'⟩:=I.base.there b u y (by rw [hex];simp)
   rw [q'];simp
 obtain ⟨u1,u2,u3⟩:=xY J hst hfr hex up fl'.1 cov';exact ⟨ea,cls,a0,B,H',rfl,J.os,bare,u1,u2,fl',u3,hE⟩
theorem Lv.made (L:Lv X E) (I:Inv X pins σ H s) {h':N0} {e C:Is} {args:List Db} (hx:Heap.MadeExcOf s.heap h' e (.ref C) args) (hE:E (.ref C) none H):X.xe (.ref e) { s with heap:=h' }:=by
 obtain ⟨hst,hfr,hex,hxe⟩:=L;refine hxe _ _ ?_;have hin:∀env∈(X.env :: X.outer),∀b,env.frame=some b->b∈frs (X.env :: X.outer):=λenv he b hb=>List.mem_filterMap.mpr ⟨env,he,hb⟩
 have fr:=I.stack;rw [hst]at fr;refine wpAny_leaves_madeW (base:=PySem.W.hideAll s.heap (frs (X.env :: X.outer))) (by rw [<-hst];exact I.ok.frames) hfr (λb o q=>PySem.W.of_hideAll _ q) (PySem.W.funFrames_hide fr hin) hx λh'' t fl _ _ up=>?_
 have up':s.heap.UpToSlots h'':=(Heap.UpToSlots.of_keeps hx.keeps).trans up;obtain ⟨u1,u2,u3⟩:=xY I hst hfr hex up' fl.1 λb o q n _=>PySem.W.hideAll_get _ q (by rw [<-hst];exact n)
 exact ⟨e,_,_,_,H,rfl,I.os,I.bare,u1,u2,fl,u3,hE⟩
end
abbrev vE:List Db:=[.type "ValueError",.type "Exception",.type "BaseException",.type "object"]
abbrev vN:String := "ValueError.__new__"
theorem mU {K:At} (X:K.In h) (q:excIn K C vE vN=true) :
  ∃mr N y1 y2 y3 y4 y5 y6 y7 y8 y9 z0 z1 z2 z3 z5 mN,h.get? C=some (excClassObj y1 y2 C N y3 mr y4 y5 y6 y7 y8 y9 z0 z1 z2 z3 z5 vN)/\h.Ns N mN/\mN "__init__" = none/\OwnTail h vE mr:=by
 unfold excIn at q;split at q
 case h_2=>cases q
 case h_1 y9 cd sl hl =>
  split at q
  case h_2=>cases q
  case h_1 C1 mr z0 z1 z2 z3 z4 z5 e1 e2 =>
   simp only [Yy,beq_iff_eq,Bool.not_eq_true']at q;obtain ⟨⟨⟨⟨⟨c1,c2⟩,c3⟩,c4⟩,c5⟩,c6⟩:=q;cases c1;cases c2;cases cd with
   |mk y1 y3 m0 N y2 y4 y5 y6 y7 y8 dl =>
    dsimp only at e1 c3 c5 c6
    cases e1;cases c3;cases sl with
    |mk ls =>
     dsimp only at e2
     cases e2;exact ⟨mr,N,y1,y2,y3,y4,y5,y6,y7,y8,y9,z0,z1,z2,z3,z5,_,X _ _ hl,.of_isNs (PySem.W.isNs_of_in X c5),PySem.W.nsMap_none_of_in X c5 c6,PySem.W.tail_of_in X c4⟩
def gL (c:Str):Fs:=λ_=>.ex c
section
variable {M:Mx} {X:Cx}
theorem nP (L:Lv X M.E) (hc:X.calm=true) (hg:Gl X x) (hm:M.mg x=some (.ref C)) (hk:excIn M.K C vE vN=true) (hd:(x == ("__debug__" : Str))=false:=by decide) (hs:starEach [.Constant (.str t) j p2] X.env=(false,eval (.Constant (.str t) j p2) X.env) :: starEach [] X.env:=by rfl) :
  DS M X (.Raise (some (.Call (.Name x np) [.Constant (.str t) j p2] [] cpos)) none pos) (gL x):=λhK hM pins s σ H D I q=>by
 obtain ⟨F,ρ,fp,S,cv,e1,e2⟩:=q;rw [hm]at e1;cases e1;have hE:=e2 none H λ_ _ z _=>z
 rw [<-hK]at hk;obtain ⟨mr,N,y1,y2,y3,y4,y5,y6,y7,y8,y9,z0,z1,z2,z3,z5,mN,hC,hN,hni,T⟩:=mU I.mod.kin hk;refine wpAny_Raise_call_subU (C:=C) (nm:=y1) (q:=y2) (N:=N) (bs:=y3) (bm:=mr) (hdct:=y4) (sn:=y5) (sub:=y6) (ab:=y7) (col:=y8) (dd:=y9) (k0:=z0) (k1:=z1) (k2:=z2) (k3:=z3) (k5:=z5)
  PySem.F.excBase_ValueError (by decide) PySem.F.excBase_ValueError (mN:=mN) (T.hasType PySem.F.excBase_ValueError.hasBase) (I.ok.hd hc) (by rw [hs];rfl) hni (kJ I hg (by rw [hM];exact hm) ⟨rfl,?_⟩ hd)
 have ha:PA X [.Constant (.str t) j p2] _:=bB BF fW hs;have hw:=ha cpos pins s σ H (λvs H'=>H'=H/\vs.length<=sizeLine) I ⟨rfl,show 1<=sizeLine by decide⟩
 rw [hs]at hw ⊢;refine Calls.evalArgs_plain (Xp hw (λus s2 hz=>?_) λ_ _ y=>y)
 obtain ⟨vs,H2,I2,r2,rfl,hl⟩:=hz;exact ⟨rfl,by rw [<-r2.length];exact hl,I2.bk _ _ hC,hN.keeps I2.bk,T.keeps I2.bk,λh' e hx=>L.made I2 hx hE⟩
end
end L3
namespace L3
open PySem L2 PySem.Spec PyProof.Rows Builtin Builtin.ObjectAttr Builtin.Getset_descriptor
structure ExcK (K:At) (C:Is):Prop where
 ex:excIn K C vE vN=true
 ga:findIn K (.ref C) "__getattribute__" = some (some (.builtin "BaseException.__getattribute__"))
 ca:findIn K (.ref C) "__class__" = some (some (.builtin "object.__class__"))
 ng:findIn K (.ref C) "__getattr__" = some none
 mo:mroIn K C (.type "object")=some true
section
variable {prog:Do} {w:Ev} {A:Go} {E:Db->Da->Prop} {h:N0} {g:Array GenState} {d:Drawn} {t:Nat} {os:OsState} {a C:Is} {o:Obj} {K:At}
theorem Ja {R:Result->Da->Prop} (Z:ExcK K C) (X:K.In h) (hx:h.get? a=some o) (hc:o.cls=.ref C) (hq:R (.ok (.ret (.ref C))) ⟨h,g,d,t,os⟩) :
  codeAny (model prog w) A (.call (.builtin "getset_descriptor.__get__") ⟨[.builtin "object.__class__",.ref a,tp],[]⟩) R ⟨h,g,d,t,os⟩:=by
 have L0:PySem.W.Looks (model prog w) h (typeOf (.ref a)) (.ref C):=hc▸(PySem.W.Looks.ld hx).andThen .now;have L1:=PySem.W.looks_mroIn (M:=model prog w) X Z.mo;refine codeAny_call_builtin PySem.W.KF.slot_gs.plain PySem.W.KF.entry_gs (PySem.W.KF.slot_gs.check _ _ _ _ _ _ _ _ PySem.W.KF.type_class (PySem.W.KF.args_gs _ _ _) ?_);unfold Builtin.«getset_descriptor.__get__» descrGet;rw [PySem.W.dga_obj];refine Zr (Yn ?_);unfold descrGetter descrCheckInstance descrNameAndClass isInstance;simp only [PySem.W.KF.owner_class]
 repeat lk
 refine ⟨Code.quiet_builtin _ (by decide +kernel),codeAny_builtin PySem.W.KF.entry_class ?_⟩;unfold Builtin.«object.__class__» shownTypeOf
 repeat lk
 exact hq
theorem Cg (Z:ExcK K C) (X:K.In h) (hx:h.get? a=some o) (hc:o.cls=.ref C) (hq:Q (.done (.ret (.ref C))) ⟨h,g,d,t,os⟩) :
  wpAny (model prog w) A (Builtin.«object.__getattribute__» ⟨[.ref a,.str "__class__" tk],[]⟩) Q E ⟨h,g,d,t,os⟩:=by
 have hT:(⟨h,g,d,t,os⟩:Da).TypeIs (.builtin "object.__class__") "getset_descriptor" := PySem.F.typeOf_object_class;have f5:=PySem.F.typeOf_object_class;have f6:=PySem.F.slot_gs_get.lookup;have f7:=PySem.F.slot_gs_set.lookup;have L2:=Wg (M:=model prog w) X Z.ca
 repeat (any_goals (first | assumption | (with_reducible refine Wl hx ?_;rw [hc]) | with_reducible refine L2.at ?_ | wp_step))
 refine Ja Z X hx hc ?_
 repeat (any_goals (first | assumption | wp_step))
theorem CT (Z:ExcK K C) (X:K.In h) (hx:h.get? a=some o) (hc:o.cls=.ref C) (hq:Q () ⟨h,g,d,t,os⟩) :
  wpAny M A (checkBuiltinCall "BaseException.__getattribute__" ⟨[.ref a,nameV],[]⟩) Q E ⟨h,g,d,t,os⟩:=by
 obtain ⟨mr,N,y1,y2,y3,y4,y5,y6,y7,y8,y9,z0,z1,z2,z3,z5,mN,hC,hN,hni,T⟩:=mU X Z.ex;have k1:builtinKind "BaseException.__getattribute__" = some .slot:=by decide +kernel
 have k2:splitId "BaseException.__getattribute__" = some ("BaseException", "__getattribute__"):=by decide +kernel
 have k3:(Value.ref C :: mr).contains (.type "BaseException")=true:=by
  rw [List.contains_cons,T.hasType PySem.F.excBase_ValueError.hasBase];rfl
 have k4:=PySem.F.args_bexc_ga (.ref a) nameV;simp only [checkBuiltinCall,k1,k2];refine Zr ?_;unfold isInstance
 repeat (first | (with_reducible refine Wl hx ?_;rw [hc]) | (with_reducible refine wpAny_isSubtype_exc hC ?_;rw [k3]) | wp_step)
 exact hq
theorem Mc {fill expr:Bool} (Z:ExcK K C) (X:K.In h) (hx:h.get? a=some o) (hc:o.cls=.ref C) (hq:Q (.ref C) ⟨h,g,d,t,os⟩) :
  wpAny (model prog w) A (getAttrBy (.ref a) (.str "__class__" tk) fill expr) Q E ⟨h,g,d,t,os⟩:=by
 have FB:=PySem.F.attrBase_ValueError;have f3:=FB.ga.bind (.ref a);have n1:(expr && onTheHeap (Value.builtin "BaseException.__getattribute__"))=false:=by cases expr <;> rfl
 have n2:(Value.builtin "BaseException.__getattribute__" == Value.builtin "object.__getattribute__")=false:=by decide +kernel
 have n3:(onTheHeap (Value.ref C) && Value.builtin "BaseException.__getattribute__" == Value.builtin "object.__getattribute__")=false:=by rw [n2];rfl
 have L1:=Wg (M:=model prog w) X Z.ga;have L3:=Wg (M:=model prog w) X Z.ng
 repeat (any_goals (first | assumption | (with_reducible refine Wl hx ?_;rw [hc]) | with_reducible refine L1.at ?_ | with_reducible refine L3.at ?_ | wp_step))
 refine codeAny_call_builtin FB.ga.plain PySem.F.entry_bexc_ga (CT Z X hx hc (Cg Z X hx hc ?_))
 repeat (any_goals (first | assumption | wp_step))
theorem DD (Z:ExcK K C) (X:K.In h) (hx:h.get? a=some o) (hc:o.cls=.ref C) (hq:Q (some (.ref C)) ⟨h,g,d,t+1,os⟩) :
  wpAny (model prog w) A (getAttr? (.ref a) "__class__") Q E ⟨h,g,d,t,os⟩:=by
 unfold getAttr? getAttrBy?
 repeat (any_goals (first | assumption | with_reducible apply Mc Z X hx hc | wp_step))
end
end L3
namespace L3
open PySem L2 PySem.Spec PyProof.Rows
def Kb (a C:Is) (h:N0):Prop:=∃o,h.get? a=some o/\o.cls=.ref C
theorem wg {K:At} {a C:Is} (Z:ExcK K C):PySem.W.KitX K (.ref a) (.ref C) (Kb a C) where
 ty:=λM h _ p=>by
  obtain ⟨o,h1,h2⟩:=p;exact h2▸(PySem.W.Looks.ld h1).andThen .now
 it:=λM h X _=>by
  obtain ⟨mr,N,y1,y2,y3,y4,y5,y6,y7,y8,y9,z0,z1,z2,z3,z5,mN,hC,_⟩:=mU X Z.ex;intro A Q E s k q;unfold isType loadHead;exact Zr (wpAny_loadPart (k _ _ hC) (Yn q))
 ne:=λh tp dd its n sl X htp=>by
  obtain ⟨mr,N,y1,y2,y3,y4,y5,y6,y7,y8,y9,z0,z1,z2,z3,z5,mN,hC,_⟩:=mU X Z.ex;refine Bool.eq_false_iff.mpr λq=>?_
  have e:C=tp:=Value.ref.inj (beq_iff_eq.mp q);rw [<-e,hC]at htp;have y:=Yl Obj.data (Yv htp);cases y
 ca:=fun {prog w A E Q s} X p k=>by
  obtain ⟨o,h1,h2⟩:=p;obtain ⟨h,g,d,t,os⟩:=s;exact DD Z X h1 h2 k
section
variable {M:Model} {A:Go} {E:Db->Da->Prop} {h:N0} {g:Array GenState} {d:Drawn} {t:Nat} {os:OsState} {e C D:Is} {o:Obj} {K:At}
theorem Jm (X:K.In h) (hD:excIn K D vE vN=true) (hs:subIn K (.ref C) (.ref D)=some b) (he:h.get? e=some o) (hc:o.cls=.ref C) (hq:Q b ⟨h,g,d,t,os⟩) :
  wpAny M A (excMatches (.ref e) (.ref D)) Q E ⟨h,g,d,t,os⟩:=by
 obtain ⟨mr,N,y1,y2,y3,y4,y5,y6,y7,y8,y9,z0,z1,z2,z3,z5,mN,hd,hN,hni,T⟩:=mU X hD;have hB:(Value.ref D :: mr).contains (.type "BaseException")=true:=by
  rw [List.contains_cons,T.hasType PySem.F.excBase_ValueError.hasBase,Bool.or_true]
 have f:=tc_notTuple;have LS:=PySem.W.looks_subIn (M:=M) X hs;unfold excMatches
 repeat (first | (with_reducible refine Wl he ?_;rw [hc]) | with_reducible refine LS.at ?_ | with_reducible refine Wl hd ?_ | (with_reducible refine wpAny_isSubtype_exc hd ?_;rw [hB]) | wp_step)
 cases b <;> (wp_walk;exact hq)
end
def cxM (X:Cx) (ea:Is) (oe:Obj):Cx:={ X with A:=X.A.mark (some (.ref ea)),calm:=false,xe:=λ_ _=>False,pn:=(ea,oe) :: X.pn }
section
variable {X:Cx} {oe:Obj} {s:Da}
theorem ET (I:Inv X pins σ H s) (hp:s.heap.get? ea=some oe/\H ea=none/\ea≠X.env.locals/\ea∉X.fs/\∀v,oe.data≠.cell v):Inv (cxM X ea oe) pins σ H s :=
  ⟨⟨I.ok.mod,I.ok.kind,I.ok.glob,I.ok.blt,I.ok.above,I.ok.inj,I.ok.has,I.ok.cab,λz=>(by cases z),I.ok.frames,I.ok.stk,I.ok.exf,I.ok.bs,I.ok.bsz,I.ok.noex,I.ok.exfs,I.ok.funs,I.ok.frf⟩,
    I.os,I.bare,I.base,I.loc,I.cell,I.free,I.freeC,λp m=>by
      rcases Xz.mp (show p∈(ea,oe) :: (X.pn++pins) from m) with rfl | m
      · exact hp
      · exact I.pin p m,I.hok,I.len⟩
theorem Bf (hc:X.calm=true->X.A.handled=none) (hf:X.A.frames=some X.stack) (I:Inv (cxM X ea oe) pins σ H s):Inv X pins σ H s :=
  ⟨⟨I.ok.mod,I.ok.kind,I.ok.glob,I.ok.blt,I.ok.above,I.ok.inj,I.ok.has,I.ok.cab,hc,hf,I.ok.stk,I.ok.exf,I.ok.bs,I.ok.bsz,I.ok.noex,I.ok.exfs,I.ok.funs,I.ok.frf⟩,
    I.os,I.bare,I.base,I.loc,I.cell,I.free,I.freeC,λp m=>I.pin p (Zs _ m),I.hok,I.len⟩
end
def tB (P:St->Prop) (b:Bool):TE:=fun σ H Q=>P σ/\∀H',ax H H'->Q (.bl b) H'
section
variable {X:Cx}
theorem yw (Z:ExcK X.K C) (hp:(ea,oe)∈X.pn) (ho:oe.cls=.ref C) :
  dR X (.builtin "isinstance") (λxs H Q=>∃v b,xs=[.ref ea,v]/\((∃u,RelV v u/\(∀u',RelV v u'->u'=u)/\kitOne X.K (.ref C) u=some b) \/
   ∃p vs us,v=.ref p/\H p=some (.tup vs)/\(∀us',Vals vs us'->us'=us)/\PySem.W.kitAny X.K (.ref C) us=some b)/\Q (.bl b) H):=by
 intro pins s σ H xs us Q I r h;obtain ⟨v,b,rfl,h1,q⟩:=h;obtain ⟨u1,u2,rfl,ru,rv⟩:=Vals.two r;cases (show u1=Value.ref ea from ru)
 have fin:∀tk,EP X pins σ Q (.bool b) { s with toks:=tk }:=λtk=>⟨.bl b,H,I.tok tk,rfl,q⟩
 have hx:Kb ea C s.heap:=⟨oe,(I.pin _ (Zm _ hp)).1,ho⟩;rcases h1 with ⟨u,r1,r2,e⟩ | ⟨p,vs,ws,rfl,hv,r2,e⟩
 ·cases r2 _ rv
  exact X6 (wg Z) I.kIn hx e (λz=>nomatch z) fin
 ·cases (show u2=Value.ref p from rv)
  obtain ⟨_,its,k1,o,k2,k3,n,k4⟩:=(show cT X.prog X.w H s.heap p (.tup vs) from I.hok p _ hv)
  cases r2 _ k1;obtain ⟨oc,od,odt,osl⟩:=o;cases k3;cases k4;exact PySem.W.kia_tup (wg Z) I.kIn hx k2 e (λz=>nomatch z) fin
end
structure Xs (X:Cx) (C ea:Is) (oe:Obj):Prop where
 k:ExcK X.K C
 pin:(ea,oe)∈X.pn
 ob:oe.cls=.ref C
section
variable {X:Cx} {P:St->Prop} {es:List M2} {c:Bool} {pos p p2 p3:Pos} {i j x1:Nat} {x y:Str} {C ea D:Is} {oe:Obj} {Ds:List Is}
theorem aO (Z:Xs X C ea oe) (hP:∀σ,P σ->σ[i]?=some (some (.ref ea))) (hN:X.N[i]?=some y) (hv:Vis X.env.scope y) (hgi:Gl X "isinstance") (hmi:X.mg "isinstance" = none) (hg:Gl X x) (hm:X.mg x=some (.ref D))
  (e:kitOne X.K (.ref C) (.ref D)=some c) (hd:(x == ("__debug__" : Str))=false:=by decide) (hdy:(y == ("__debug__" : Str))=false:=by decide) (hcd:(y == ("__classdict__" : Str))=false:=by decide)
  (hs1:starEach [.Name y p2,.Name x p3] X.env=(false,eval (.Name y p2) X.env) :: starEach [.Name x p3] X.env:=by rfl) (hs2:starEach [.Name x p3] X.env=(false,eval (.Name x p3) X.env) :: starEach [] X.env:=by rfl)
  (hpl:(backTo pos (starEach [.Name x p3] X.env)).any (·.1)=false:=by rfl) :
  PE X (.Call (.Name "isinstance" p) [.Name y p2,.Name x p3] [] pos) (tB P c) :=
 peI (m_ (yw Z.k Z.pin Z.ob) hgi hmi fB (bB (aK hN hv hdy hcd) (bB (yx (v:=.ref D) hg hm rfl hd) fW hs2) hs1) (by decide) (by decide) hs1 hpl) fun σ H Q q =>
  ⟨_,hP σ q.1,_,c,rfl,.inl ⟨.ref D,rfl,λ_ h=>h,e⟩,q.2 H (ax.refl _)⟩
theorem pA (Z:Xs X C ea oe) (hP:∀σ,P σ->σ[i]?=some (some (.ref ea))) (hN:X.N[i]?=some y) (hv:Vis X.env.scope y) (hgi:Gl X "isinstance") (hmi:X.mg "isinstance" = none) (hg:Gl X x) (hm:X.mg x=none) (hT:bootBuiltins x=some (.type T)) (e:kitOne X.K (.ref C) (.type T)=some c) (hn:x ≠ "__name__" := by decide) (hd:(x == ("__debug__" : Str))=false:=by decide) (hdy:(y == ("__debug__" : Str))=false:=by decide) (hcd:(y == ("__classdict__" : Str))=false:=by decide) (hs1:starEach [.Name y p2,.Name x p3] X.env=(false,eval (.Name y p2) X.env) :: starEach [.Name x p3] X.env:=by rfl) (hs2:starEach [.Name x p3] X.env=(false,eval (.Name x p3) X.env) :: starEach [] X.env:=by rfl) (hpl:(backTo pos (starEach [.Name x p3] X.env)).any (·.1)=false:=by rfl) :
  PE X (.Call (.Name "isinstance" p) [.Name y p2,.Name x p3] [] pos) (tB P c) :=
 peI (m_ (yw Z.k Z.pin Z.ob) hgi hmi fB (bB (aK hN hv hdy hcd) (bB (yG (v:=V.ty T) hg hm hT rfl hn hd) fW hs2) hs1) (by decide) (by decide) hs1 hpl) fun σ H Q q =>
  ⟨_,hP σ q.1,_,c,rfl,.inl ⟨.type T,rfl,λ_ h=>h,e⟩,q.2 H (ax.refl _)⟩
end
section
variable {h1 hs h5 B:N0}
theorem GH (un:Un fs [] H1 H' h1 hs) (hok:HOk P w H' hs) (stay:B.StaysIn h5) (up:hs.UpToSlots h5) (cov:∀b o,hs.get? b=some o->b∉fs->(H' b≠none\/h1.get? b≠none)->B.get? b=some o)
  (hf:∀b∈fs,∀o,hs.get? b=some o->∀vs,o.data≠.fields vs) (hn:∀b∈fs,H' b=none):Un fs [] H1 H' h1 h5/\HOk P w H' h5:=by
 refine ⟨⟨λb o q n hb hx=>?_,λb o q n hb hx=>?_,un.free,λb o q hx=>?_,un.tups,un.frzs,un.tbls⟩,λb u e=>?_⟩
 ·exact stay b o (cov b o (un.keep b o q n hb hx) hb (.inr (by rw [q];simp)))
 ·obtain ⟨sl,e1⟩:=un.slot b o q n hb hx
  obtain ⟨sl',e2⟩:=up b _ e1 (hf b hb _ e1);exact ⟨sl',e2⟩
 ·obtain ⟨o',e1⟩:=un.there b o q hx
  by_cases hb:b∈fs
  ·obtain ⟨sl',e2⟩:=up b _ e1 (hf b hb _ e1)
   exact ⟨_,e2⟩
  ·exact ⟨o',stay b o' (cov b o' e1 hb (.inr (by rw [q];simp)))⟩
 ·have tr:∀c,H' c≠none->∀v,hs.get? c=some v->h5.get? c=some v:=λc hc v q=>stay c v (cov c v q (λm=>hc (hn c m)) (.inl hc))
  refine (hok b u e).stay (λc v hc q=>tr c ?_ v q) (λ_ q=>q) λ_ _ q=>q
  rcases hc with rfl | hc
  ·rw [e];simp
  ·rw [hc];simp
end
section
variable {X:Cx} {σ:St}
theorem yX (I:Inv X pins σ H s) (hN:X.N.Nodup) (hi:X.N[i]?=some n) (hl:X.env.scope.names.lookup n=some .local) (hv:σ[i]?=some (some v)) (h:∀s',Inv X pins (σ.set i none) H s'->Q () s'):wpAny M A (unbindName X.env n) Q E s:=by
 obtain ⟨m,hn,hm⟩:=id I.loc;have cne:=I.cne;have hp:(X.env.scope.kind == .class || (X.env.scope.kind == .module && X.env.locals != X.env.globals))=false:=by rw [I.ok.kind];rfl
 obtain ⟨u,_,lk⟩:=hm i n v hi hv (.inl hl);have hu:m n=some u:=by
  rcases lk with ⟨_,e⟩ | ⟨e,_⟩
  ·exact e
  ·rcases e with e | e
   ·rw [show X.env.kindOf n=some .local from hl]at e;cases e
   ·rw [show X.env.kindOf n=some .local from hl]at e;cases e
 obtain ⟨oL,_,_,hoL,_⟩:=id hn;refine wpAny_unbindName_local hl hn hu hp λh' u' hn' hs=>h _ ?_
 have old:∀b o,X.s₀.heap.get? b=some o->b≠X.env.locals:=λb o e=>Ys (Yt (Zg e) I.ok.above)
 refine ⟨I.ok,I.os,I.bare,⟨?_,?_,I.base.free,?_,I.base.tups,I.base.frzs,I.base.tbls⟩,⟨_,hn',?_⟩,?_,I.free,I.freeC,?_,?_,?_⟩
 ·exact λb o e n1 n2 n3=>(hs.2 b (old b o e)).trans (I.base.keep b o e n1 n2 n3)
 ·exact λb o e n1 n2 n3=>(I.base.slot b o e n1 n2 n3).imp λsl q=>(hs.2 b (old b o e)).trans q
 ·exact λb o e n1=>(I.base.there b o e n1).imp λo' q=>(hs.2 b (old b o e)).trans q
 ·intro j y v' e1 e2 e3
  by_cases hj:j=i
  ·subst hj
   rw [List.getElem?_set]at e2;split at e2
   ·split at e2 <;> cases e2
   ·rename_i z
    exact absurd rfl z
  ·rw [Yi (Xj hj)]at e2
   obtain ⟨w',r',q⟩:=hm j y v' e1 e2 e3;refine ⟨w',r',q.imp (λz=>⟨z.1,?_⟩) λz=>⟨z.1,?_⟩⟩
   ·have ny:y≠n:=λe=>hj (pO hN e1 (e▸hi))
    show (if y=n then u' else m y)=some w'
    rw [N2 ny];exact z.2
   ·obtain ⟨_,c,e,z'⟩:=z
    exact ⟨c,e,z'.sameBut hs (cne y c e)⟩
 ·exact λy c e=>(I.cell y c e).imp λw' z=>z.sameBut hs (cne y c e)
 ·exact λp m=>let ⟨q1,q2,q3,q4,q5⟩:=I.pin p m;⟨(hs.2 p.1 q3).trans q1,q2,q3,q4,q5⟩
 ·intro b ob e
  refine (I.hok b ob e).stay (λc w' hc q=>(hs.2 c ?_).trans q) (λ_ q=>q) λ_ _ q=>q
  intro z;subst z;rcases hc with z | hc
  ·rw [<-z,I.free]at e;cases e
  ·rw [I.free]at hc;cases hc
 ·rw [Y3]
  exact I.len
end
section
variable {X:Cx}
theorem Dp (I:Inv X pins σ H1 s1) (x:CXE X.prog X.w X.stack H1 s1 E' ev s') (hst:X.stack=X.env :: X.outer) (hfr:X.env.frame=some X.env.locals) (hD:excIn X.K D vE vN=true) (hgD:Gl X dx) (hmD:X.mg dx=some (.ref D)) (hd:(dx == ("__debug__" : Str))=false) (h:∀ea cls H' ,ev=.ref ea->E' cls none H'->∃C,cls=.ref C/\subIn X.K (.ref C) (.ref D)=some true /\
   ∀s5,(∀(Q':Unit->Da->Prop) (E'':Db->Da->Prop),(∀oe s6,oe.cls=.ref C->Inv (cxM X ea oe) pins σ H' s6->Q' () s6)->wpAny (model X.prog X.w) (X.A.mark (some (.ref ea))) (setFlight (.ref ea) none) Q' E'' s5) ->
    codeAny (model X.prog X.w) (X.A.mark (some (.ref ea))) (.handlers (.ref ea) [.ExceptHandler none nm (b0 :: suite) hpos] X.env) (λr s₂=>match r with
     |.ok f=>(match nm with
      |none=>Q f s₂
      |some n=>wpAny (model X.prog X.w) X.A (do bindName X.env n .none;unbindBehindTheSuite X.env n hpos) (λ_ s₃=>Q f s₃) E s₂)
     |.error x=>cameBackBy (model X.prog X.w) X.A X.env E x s₂) s5) :
  wpAny (model X.prog X.w) X.A (noteFrame ev X.env) (λ_ s₂=>wpAny (model X.prog X.w) X.A (setFlight ev none) (λ_ s₃ =>
   wpAny (model X.prog X.w) X.A (handleBy ev X.env [.ExceptHandler (some (.Name dx np)) nm (b0 :: suite) hpos]) Q E s₃) E s₂) E s':=by
 obtain ⟨ea,cls,a0,B,H',rfl,os,bare,un,hok,fl,cov,hE'⟩:=x;obtain ⟨C,rfl,hsub,hh⟩:=h ea cls H' rfl hE';have J:Inv X pins σ H' s':=I.call' os un hok bare λb z=>absurd z (by simp)
 have nf:∀b∈frs X.stack,∀o,s'.heap.get? b=some o->∀vs,o.data≠.fields vs:=λb m o q vs=>by
  obtain ⟨_,o',q',k⟩:=J.stack.mem m;rw [q]at q';cases q';exact k vs
 have later:∀h5,B.StaysIn h5->s'.heap.UpToSlots h5->Inv X pins σ H' { s' with heap:=h5 }:=λh5 st up=>by
  obtain ⟨u5,k5⟩:=GH un hok st up cov nf J.stkFree;exact I.call' (s':={ s' with heap:=h5 }) os u5 k5 bare λb z=>absurd z (by simp)
 obtain ⟨oe,vs,hoe,hoc,hod,_⟩:=fl.first
 have eaF:ea∉frs X.stack:=λm=>nf ea m oe hoe vs hod
 have eaN:H' ea=none:=by
  cases z:H' ea with
  |none=>rfl
  |some u =>
   have q:=cov ea oe hoe eaF (.inl (by rw [z];simp))
   rw [fl.2.1]at q;cases q
 have eaL:ea≠X.env.locals:=λz=>eaF (by rw [hst,lB hfr,z];exact Zz)
 have eaO:ea∉X.fs:=λm=>eaF (by rw [hst,lB hfr];exact Zs _ m)
 have mk:∀h5 o v,h5.get? ea=some o->o.data=.fields v->Inv X pins σ H' { s' with heap:=h5 }->Inv (cxM X ea o) pins σ H' { s' with heap:=h5 }:=λh5 o v q1 q2 I5 =>
  ET I5 ⟨q1,eaN,eaL,eaO,λz=>by rw [q2];intro y;cases y⟩
 rw [hst]at fl;refine wpAny_looks_onW (by rw [<-hst];exact I.ok.frames) hfr fl λh4 fl4 up4=>?_
 refine wpAny_landsW fl4 λh5 fl5 up5=>?_
 have I5:=later h5 fl5.1 (up4.trans up5);obtain ⟨oe5,vs5,hoe5,hoc5,hod5,_⟩:=fl5.first
 have M5:=mk h5 oe5 vs5 hoe5 hod5 I5;refine wpAny_handleBy_cons (codeAny_handlers_test ?_) (by intro q;cases q)
 refine kJ (X:=cxM X ea oe5) M5 hgD hmD ?_ hd;refine Jm (h:=h5) (K:=X.K) I5.kIn hD hsub hoe5 hoc5 ?_;refine hh _ λQ' E'' hq=>?_
 refine lands_againW fl5 λh6 fl6 up6=>?_
 obtain ⟨oe6,vs6,hoe6,hoc6,hod6,_⟩:=fl6.first
 exact hq oe6 _ hoc6 (mk h6 oe6 vs6 hoe6 hod6 (later h6 fl6.1 ((up4.trans up5).trans up6)))
end
section
end
theorem FA (I:Inv X pins σ H s):Inv { X with xe:=xe } pins σ H s :=
  ⟨⟨I.ok.mod,I.ok.kind,I.ok.glob,I.ok.blt,I.ok.above,I.ok.inj,I.ok.has,I.ok.cab,I.ok.hd,I.ok.frames,I.ok.stk,I.ok.exf,I.ok.bs,I.ok.bsz,I.ok.noex,I.ok.exfs,I.ok.funs,I.ok.frf⟩,
    I.os,I.bare,I.base,I.loc,I.cell,I.free,I.freeC,I.pin,I.hok,I.len⟩
theorem qY (I:Inv { X with xe:=xe } pins σ H s):Inv X pins σ H s :=
  ⟨⟨I.ok.mod,I.ok.kind,I.ok.glob,I.ok.blt,I.ok.above,I.ok.inj,I.ok.has,I.ok.cab,I.ok.hd,I.ok.frames,I.ok.stk,I.ok.exf,I.ok.bs,I.ok.bsz,I.ok.noex,I.ok.exfs,I.ok.funs,I.ok.frf⟩,
    I.os,I.bare,I.base,I.loc,I.cell,I.free,I.freeC,I.pin,I.hok,I.len⟩
def uC (ρ:L3.Env) (i:Nat):Bool:=match ρ[i]? with
 |some none=>true
 |_=>false
theorem pv {K:At} {F H:Hp} {g:List Is} (S:OwnS K F H σ ρ g):∀{i:Nat},uC ρ i=true->OwnS K F H (σ.set i v) ρ g:=by
 induction S with
 |nil=>exact fun {i} _=>.nil
 |no r ih =>
  intro i h;cases i with
  |zero=>exact .no r
  |succ i=>exact .no (ih (i:=i) (by simpa [uC]using h))
 |yes o r ih =>
  intro i h;cases i with
  |zero=>simp [uC]at h
  |succ i=>exact .yes o (ih (i:=i) (by simpa [uC]using h))
section
end
theorem m5 {K:At} {st:Ix} (hf:fn=aM np n body) (hp:ps.length=np) (hn:N.length=n) (F:Fun K x qual st f fd) (S:FnScope N ps (ah st)) (h:∀(cdv:Db) (A:Go) (outer:List PySem.Env) (s:Da) (H:Hp) (E:XK),Room k (A.deeper (envOfC qual (ah st) s.heap.objs.size f cdv))->DSs ⟨K,mg,E⟩ (mI (CXE P w) P w K mg base N qual (ah st) f cdv A outer s H E) (d6 st) body) :
  FnOk P w K mg base (CXE P w) (k+1) f fd ps (sp3 K mg fn):=by
 subst hf hp hn;have hpl:ps.length<=N.length:=by
  have:=Yl List.length S.pre;rw [Ze]at this
  lia
 have hlen:∀vs H Q E,sp3 K mg (aM ps.length N.length body) vs H Q E->vs.length=ps.length:=by
  rintro vs H Q E ⟨F,ds,sm,ra,p⟩;by_cases hl:ds.length=ps.length
  ·rw [RepAll.len ra]
   exact hl
  ·unfold aM at p
   rw [N2 hl]at p;exact p.elim
 obtain ⟨oc,od,kV,doc,pm,an,cdv,ct,osl,rfl,lk,hcd⟩:=F.ex;refine Fl lk hcd S hlen λA outer s H vs Q E hr hs=>?_
 have hvl:=hlen _ _ _ _ hs;obtain ⟨F0,ds,sm,ra,p⟩:=hs;have hdl:ds.length=ps.length:=by rw [<-RepAll.len ra];exact hvl
 unfold aM at p;rw [N1 hdl]at p;refine ⟨_,h cdv A outer s H E hr rfl rfl,F0,mC N.length ds,[],⟨sm,?_,Y0,(λ_ m=>by cases m),?_⟩,(aq.bind p).mono λo po=>?_⟩
 ·unfold L2.start mC
  rw [hvl,hdl];exact oh _ ra
 ·unfold mC
  show _=N.length
  rw [Zv,Zy,Xv,hdl]
  lia
 ·cases o with
  |nx ρ=>exact fun σ' F' H' fp' S' st=>po .non F' H' [] ⟨st.ff,λa o q=>st.keep a o q (by simp),S'.same,λa q z=>st.nw a q (by simp) z⟩ (Res.sh .non) λ_ m=>by cases m
  |rt y=>exact λv F' H' fx sm' r st=>po v F' H' fx ⟨st.ff,λa o q=>st.keep a o q (by simp),sm',λa q z=>st.nw a q (by simp) z⟩ r λa m=>(st.new a m).elim (λz=>by cases z) id
  |bk ρ=>exact po.elim
  |ct ρ=>exact po.elim
theorem Cw (h:i≠j):uC (ρ.set j v) i=uC ρ i:=by
 unfold uC;rw [Yi (Xj h)]
section
end
end L3
namespace L3
open PySem L2
section
theorem cg:EI (.ex c) p=.ex c:=rfl
theorem ua:An (.ex c) r=.ex c:=rfl
theorem bV:EH (.ex c)=.ex c:=rfl
theorem eK (c:Str):gL c ρ=.ex c:=rfl
end
end L3
namespace L3
open PySem L2 PySem.Spec PyProof.Rows
section
end
section
end
end L3
namespace L3
open PySem L2 PySem.Spec PyProof.Rows PySem.W
section
end
end L3
namespace L3
open PySem L2
end L3
namespace L3
open PySem L2 PySem.Spec PyProof.Rows PySem.W
section
def vR (f:Fs):Fs:=fun ρ=>match f ρ with
 |.ok o=>.ok o
 |_=>.bad
theorem Dt (hb:∀xe,DSs M { X with xe:=xe } body f):DS M X (.Try body (h0 :: hs) [] [] pos) (vR f):=λhK hM pins s σ H D I q=>by
 obtain ⟨F,ρ,fp,S,p⟩:=q;have p':aq M H fp (dF M X.N.length F H fp D) (f ρ):=by
  unfold vR at p;cases hf:f ρ with
  |ok o =>
   rw [hf]at p;exact p
  |ex c =>
   rw [hf]at p;exact p.elim
  |bad =>
   rw [hf]at p;exact p.elim
 refine wpAny_Try_except (Xp (hb (λe s₁=>wpAny (model X.prog X.w) X.A (noteFrame e X.env) (λ_ s₂=>wpAny (model X.prog X.w) X.A (setFlight e none) (λ_ s₃=>wpAny (model X.prog X.w) X.A (handleBy e X.env (h0 :: hs)) (SP X pins D) X.xe s₃) X.xe s₂) X.xe s₁) hK hM pins s σ H D (FA I) ⟨F,ρ,fp,S,p'⟩) (λfl s1 hz=>?_) λ_ _ z=>z)
 cases fl with
 |next =>
  obtain ⟨σ',H',I',d⟩:=hz;exact X7 ⟨σ',H',qY I',d⟩
 |brk =>
  obtain ⟨σ',H',I',d⟩:=hz;exact ⟨σ',H',qY I',d⟩
 |cont =>
  obtain ⟨σ',H',I',d⟩:=hz;exact ⟨σ',H',qY I',d⟩
 |ret u =>
  obtain ⟨v,σ',H',I',r,d⟩:=hz;exact ⟨v,σ',H',qY I',r,d⟩
end
section
end
end L3
namespace L3
open PySem L2
section
variable {K:At} {F H:Hp} {g fp:List Is}
end
section
end
end L3
namespace L3
open PySem L2 PySem.Spec PyProof.Rows PySem.W
section
variable {M:Mx} {X:Cx}
def iY (neg:Bool):Gc->Gc->R OD
 |.int i,.list ds=>(match cW ds with
  |some ns=>.ok (.sh (.bool (if neg then !decide (i∈ns) else decide (i∈ns))))
  |none=>.bad)
 |_,_=>.bad
theorem Co (i:Int) (ns:List Int):inV (.int i) (ns.map V.int)=decide (i∈ns):=by
 unfold inV;rw [Xm,List.any_map,List.any_eq_true,Zk];constructor
 ·rintro ⟨n,hn,h⟩
  have h:(decide (n=i))=true:=by simpa [eqV]using h
  rw [<-of_decide_eq_true h];exact hn
 ·intro h
  exact ⟨i,h,by simp [eqV]⟩
theorem yZ (ns:List Int):(ns.map V.int).all nC=true:=by
 rw [Wa,Vy];intro x _;rfl
theorem kY (hK:X.K=M.K):Ok2 M (rIn X.K neg) (iY neg):=by
 rw [hK];intro x y dx dy F H fp Q s rx ry p;unfold iY at p;split at p
 ·split at p
  ·rename_i ns hn
   cases rx;cases ry with
   |lst h1 h2 =>
    rw [ka hn]at h2;have e:=RepAll.toInts h2;subst e;refine ⟨_,_,rfl,.inl (h1.same s).sq,rfl,yZ ns,?_⟩;rw [Co];exact OkE.val s p (.bl _)
  ·exact p.elim
 ·exact p.elim
theorem sO (neg:Bool) (i:Int) (ns:List Int):iY neg (.int i) (.list (ns.map PyData.int))=.ok (.sh (.bool (if neg then !decide (i∈ns) else decide (i∈ns)))):=by
 have e:cW (ns.map PyData.int)=some ns:=fR ns;unfold iY;simp only [e]
end
end L3
namespace L3
open PySem L2 PySem.Spec PyProof.Rows
def dY:Gc->Option Str
 |.dict ((.none,.str nm) :: _)=>some nm
 |_=>none
def b9 (f:Str):List (Gc×Gc)->Option Gc
 |[]=>none
 | (.tuple [.str g],d) :: r=>if f=g then some d else b9 f r
 |_ :: r=>b9 f r
def o9 (f:Str):Gc->Option Gc
 |.dict (_ :: r)=>b9 f r
 |_=>none
theorem yB (f nm:Str) (ds:List (Str×Gc)):o9 f (mG nm ds)=b9 f (ds.map λp=>(.tuple [.str p.1],p.2)):=rfl
theorem zV (f:Str):b9 f []=none:=rfl
theorem bE (f g:Str) (d:Gc) (r:List (Gc×Gc)):b9 f ((.tuple [.str g],d) :: r)=if f=g then some d else b9 f r:=rfl
theorem Cz (kvs:List (Key×Gc)):dY (dD kvs)=none:=by
 unfold dD;cases kvs with
 |nil=>rfl
 |cons p r =>
  obtain ⟨k,v⟩:=p;cases k <;> rfl
section
variable {K:At}
theorem uI:∀{ds:List (Str×Gc)} {fs:List (Str×V)},fs.map (·.1)=ds.map (·.1)->RepAll K H (fs.map (·.2)) (ds.map (·.2))->b9 f (ds.map λp=>(.tuple [.str p.1],p.2))=some d->∃v,fs.lookup f=some v/\Rep K H v d
 |[],_,_,_,e=>by cases e
 | (g,d0) :: ds,[],h,_,_=>by cases h
 | (g,d0) :: ds,(g',v0) :: fs,h,r,e=>by
  rw [Zw,Zw]at h r;rw [Zw,bE]at e;obtain ⟨h1,h2⟩:=Wh h;have h1:g'=g:=h1;subst h1;cases r with
  |cons r1 r2 =>
   by_cases hf:f=g'
   ·rw [N1 hf]at e
    cases e;have hb:(f == g')=true:=beq_iff_eq.mpr hf;refine ⟨v0,?_,r1⟩;simp only [List.lookup,hb]
   ·rw [N2 hf]at e
    obtain ⟨v,q1,q2⟩:=uI h2 r2 e;have hb:(f == g')=false:=beq_eq_false_iff_ne.mpr hf;refine ⟨v,?_,q2⟩;simp only [List.lookup,hb];exact q1
theorem pS:∀{ds:List (Str×Gc)} {fs:List (Str×V)},fs.map (·.1)=ds.map (·.1)->b9 f (ds.map λp=>(.tuple [.str p.1],p.2))=none->fs.lookup f=none
 |[],[],_,_=>rfl
 |[],_ :: _,h,_=>by cases h
 | (g,d0) :: ds,[],h,_=>by cases h
 | (g,d0) :: ds,(g',v0) :: fs,h,e=>by
  rw [Zw,Zw]at h;rw [Zw,bE]at e;obtain ⟨h1,h2⟩:=Wh h;have h1:g'=g:=h1;subst h1;by_cases hf:f=g'
  ·rw [N1 hf]at e
   cases e
  ·rw [N2 hf]at e
   have hb:(f == g')=false:=beq_eq_false_iff_ne.mpr hf;simp only [List.lookup,hb];exact pS h2 e
end
theorem B1 {K:At} {F:Hp} (r:Rep K F v d) (e:dY d=some nm) :
  ∃a C dx fs ds,v=.ref a/\d=mG nm ds/\nsIn K mainGlobals nm=some (some (.ref C))/\F a=some (.ins C dx fs)/\fs.map (·.1)=ds.map (·.1)/\RepAll K F (fs.map (·.2)) (ds.map (·.2)):=by
 cases r with
 |non=>cases e
 |bl _=>cases e
 |int _=>cases e
 |str _=>cases e
 |lst _ _=>cases e
 |tup _ _=>cases e
 |dct _ _ _=>rw [Cz]at e;cases e
 |@ins a C dx fs nm' ds h1 h2 h3 =>
  have e':some nm'=some nm:=e;cases e';exact ⟨a,C,dx,fs,ds,rfl,rfl,h1.1,h1.2,h2,h3⟩
def fT (tb:Str->Bool) (f:Str) (a:Fe):Fe:=fun ρ=>(a ρ).bind λx=>match dY x.er,o9 f x.er with
 |some nm,some d=>if tb nm=true then .ok (.sh d) else .bad
 |_,_=>.bad
section
variable {M:Mx} {σ:L3.St} {H:Hp} {Q:VK} {al:Fa}
theorem JH (hN:∀C nm,nsIn M.K mainGlobals nm=some (some (.ref C))->tb nm=true->Cls M.K C/\dQ M.K C f) (h:tD M n (fT tb f fa) σ H Q):Hl M.K (tD M n fa) f σ H Q:=by
 obtain ⟨F,ρ,fp,S,p⟩:=h;refine ⟨F,ρ,fp,S,(aq.bind p).mono λx px v F1 H1 fx e1 r1 w1=>?_⟩
 obtain ⟨G1,d1,k1⟩:=r1.frz e1 w1;cases e:dY x.er with
 |none=>rw [e]at px;exact px.elim
 |some nm =>
  rw [e]at px;obtain ⟨a,C,dx,fs,ds,hv,hd,hC,ha,hn,hr⟩:=B1 k1 e;subst hv;cases e2:o9 f x.er with
  |none=>rw [e2]at px;exact px.elim
  |some d =>
   rw [e2]at px;have px':aq M H fp (OkE M F H Q) (if tb nm=true then .ok (.sh d) else .bad):=px
   by_cases ht:tb nm=true
   ·rw [N1 ht]at px'
    rw [hd,yB]at e2;obtain ⟨u,l,ru⟩:=uI hn hr e2;obtain ⟨hc,hna⟩:=hN C nm hC ht;exact ⟨a,C,dx,fs,u,rfl,d1.fh _ _ ha,hc,hna,l,OkE.val d1.fh (OkE.pre d1 px') ru⟩
   ·rw [N2 ht]at px'
    exact px'.elim
def bG (tb:Str->Option Fn) (m:Str) (a:Fe) (al:Fa):Fe:=fun ρ=>(a ρ).bind λx=>match dY x.er,o9 m x.er with
 |some nm,none=>match tb nm with
  |some fn=>(al ρ).bind λxs=>fn (x.er :: xs.map OD.er)
  |none=>.bad
 |_,_=>.bad
structure HasM (P:Do) (w:Ev) (K:At) (mg:Str->Ch) (base:N0) (CX:CXT) (k:Nat) (m:Str) (C f:Is) (sp:Sp):Prop where
 c:Cls K C
 m:Meth K C m f
 f:∃fd ps,FnOk P w K mg base CX k f fd ps sp/\Binds K fd ps []
def tE (ok:Is->Is->Sp->Prop) (m:Str) (E:XK) (ta:TE) (t:TA):TE:=fun σ H Q=>ta σ H λx H1=>∃a C dx fs f sp,x=.ref a/\H1 a=some (.ins C dx fs)/\ok C f sp/\fs.lookup m=none/\t σ H1 λvs H2=>sp (x :: vs) H2 Q E
theorem AG (hT:∀C nm fn,nsIn M.K mainGlobals nm=some (some (.ref C))->tb nm=some fn->∃f,ok C f (sp3 M.K M.mg fn)) (h:tD M n (bG tb m fa al) σ H Q) :
  tE ok m M.E (tD M n fa) (tA M n al) σ H Q:=by
 obtain ⟨F,ρ,fp,S,p⟩:=h;refine ⟨F,ρ,fp,S,(aq.bind p).mono λx px v F1 H1 fx e1 r1 w1=>?_⟩
 obtain ⟨G1,d1,k1⟩:=r1.frz e1 w1;cases e:dY x.er with
 |none=>rw [e]at px;exact px.elim
 |some nm =>
  rw [e]at px;have k1':=k1;obtain ⟨a,C,dx,fs,ds,hv,hd,hC,ha,hn,hr⟩:=B1 k1 e;subst hv;cases e2:o9 m x.er with
  |some d=>rw [e2]at px;exact px.elim
  |none =>
   rw [e2]at px;have px':aq M H fp (OkE M F H Q) (match tb nm with
    |some fn=>(al ρ).bind λxs=>fn (x.er :: xs.map OD.er)
    |none=>.bad):=px
   cases e3:tb nm with
   |none=>rw [e3]at px';exact px'.elim
   |some fn =>
    rw [e3]at px';have px2:aq M H fp (OkE M F H Q) ((al ρ).bind λxs=>fn (x.er :: xs.map OD.er)):=px'
    rw [hd,yB]at e2;obtain ⟨f,hf⟩:=hT C nm fn hC e3;refine ⟨a,C,dx,fs,f,_,rfl,d1.fh _ _ ha,hf,pS hn e2,G1,ρ,fp,S.ext d1,((aq.bind px2).ext d1).mono λxs pxs vs F2 H2 fxs e2 r2 w2=>?_⟩
    obtain ⟨G2,d2,k2⟩:=r2.frz e2 w2;exact ⟨G2,x.er :: xs.map OD.er,d2.fh,.cons (k1'.same d2.ff) k2,(pxs.ext (d1.trans d2)).nofp.mono λz hz=>hz.pre (d1.trans d2)⟩
structure InsK (K:At) (C:Is):Prop where
 c:Cls K C
 ha:findIn K (.ref C) "__class__" = some (some (.builtin "object.__class__"))
 hn:specialIn K (.builtin "object.__class__") "__get__" = some (some (.builtin "getset_descriptor.__get__"))
 ht:takesIn K (.builtin "object.__class__")=some true
 hm:mroIn K C (.type "object")=some true
end
section
variable {M:Mx} {X:Cx} {pos apos p:Pos}
theorem uG (hN:∀C nm,nsIn M.K mainGlobals nm=some (some (.ref C))->tb nm=true->Cls M.K C/\dQ M.K C f) (h:DE M X e fa) (hb:attributeBase e f X.env (eval e X.env)=eval e X.env:=by rfl) :
  DE M X (.Attribute e f pos) (fT tb f fa):=λhK hM=>by
 have q:=Bg (pos:=pos) (h hK hM) hb;rw [hK]at q;exact peI q λ_ _ _ z=>JH hN z
theorem vy (he:PE X o ta) (hr:Room k X.A) (hx:Passes CX X E) (ha:PA X (e :: es) t) (hst:starEach (e :: es) X.env=(false,eval e X.env) :: starEach es X.env:=by rfl) (hpl:(backTo pos (starEach es X.env)).any (·.1)=false:=by rfl) (ht:eval (.Call (.Attribute o m apos) (e :: es) [] pos) X.env=(do
   let ov <-eval o X.env
   standAt apos.atName
   let (f,first) <-holding [ov] (getMethod ov m pl)
   callWith pos f first (backTo pos (starEach (e :: es) X.env)) (backToKw pos (keywordEach [] X.env))):=by rfl) :
  PE X (.Call (.Attribute o m apos) (e :: es) [] pos) (tE (HasM X.prog X.w X.K X.mg X.base CX k m) m E ta t):=by
 intro pins s σ H Q I h;refine PySem.W.methodCall_KW (pl:=pl) (thn (he pins s σ H _ I h) λu s1 ⟨x,H1,I1,rx,a,C,dx,fs,f,sp,ex,ea,hm,l,q⟩=>?_) ht
 subst ex;obtain rfl:u=Value.ref a:=rx;obtain ⟨fd,ps,F,hb⟩:=hm.f;refine rq I1 ea hm.c hm.m l ?_;refine Ws (first:=[.ref a]) (h₀:=X.base) I.ok.mod.kin hm.m.kp (thn (ha pos pins s1 σ H1 _ I1 q) λus s2 ⟨vs,H2,I2,r,q2⟩=>⟨I2.kIn,?_⟩) hst hpl
 exact xb (us:=.ref a :: us) (vs:=.ref a :: vs) (dvs:=[]) (ds:=[]) F hr hb .nil hx I2 (.cons rfl r) (by rw [Zc];exact q2)
theorem fE (hT:∀C nm fn,nsIn M.K mainGlobals nm=some (some (.ref C))->tb nm=some fn->∃f,HasM X.prog X.w M.K M.mg X.base CX k m C f (sp3 M.K M.mg fn)) (hr:Room k X.A) (hx:Passes CX X M.E) (he:DE M X o fa) (ha:DA M X (e :: es) al) (hst:starEach (e :: es) X.env=(false,eval e X.env) :: starEach es X.env:=by rfl) (hpl:(backTo pos (starEach es X.env)).any (·.1)=false:=by rfl) (ht:eval (.Call (.Attribute o m apos) (e :: es) [] pos) X.env=(do
   let ov <-eval o X.env
   standAt apos.atName
   let (f,first) <-holding [ov] (getMethod ov m pl)
   callWith pos f first (backTo pos (starEach (e :: es) X.env)) (backToKw pos (keywordEach [] X.env))):=by rfl) :
  DE M X (.Call (.Attribute o m apos) (e :: es) [] pos) (bG tb m fa al):=λhK hM=>by
 have q:=vy (CX:=CX) (k:=k) (E:=M.E) (he hK hM) hr hx (ha hK hM) hst hpl ht;rw [hK,hM]at q;exact peI q λ_ _ _ z=>AG hT z
end
theorem cL {K:At} {Pr:Is->α->Prop}:∀C nm v,nsIn K mainGlobals nm=some (some (.ref C))->List.lookup nm ([]:List (Str×α))=some v->Pr C v:=λ_ _ _ _ e=>by cases e
theorem bR {α:Type} {K:At} {x:Str} {c:Is} {v:α} {l:List (Str×α)} {Pr:Is->α->Prop} (a:nsIn K mainGlobals x=some (some (.ref c))) (h:Pr c v)
  (r:∀C nm v',nsIn K mainGlobals nm=some (some (.ref C))->List.lookup nm l=some v'->Pr C v') :
  ∀C nm v',nsIn K mainGlobals nm=some (some (.ref C))->List.lookup nm ((x,v) :: l)=some v'->Pr C v':=λC nm v' hC e=>by
 by_cases hx:nm=x
 ·subst hx
  have hb:(nm == nm)=true:=beq_iff_eq.mpr rfl;simp only [List.lookup,hb]at e;cases e;rw [a]at hC;cases hC;exact h
 ·have hb:(nm == x)=false:=beq_eq_false_iff_ne.mpr hx
  simp only [List.lookup,hb]at e;exact r C nm v' hC e
theorem cC {K:At} {Pr:Is->Prop} (a:nsIn K mainGlobals x=some (some (.ref c))) (h:Pr c):∀C nm,nsIn K mainGlobals nm=some (some (.ref C))->decide (nm=x)=true->Pr C:=λC nm hC e=>by
 have e:=of_decide_eq_true e;subst e;rw [a]at hC;cases hC;exact h
def eS:Ix->List Ix
 |.ClassDef _ _ _ b _ _ _ _ _ _ _=>b
 |_=>[]
section
def o7 (tb:Str->Bool) (f:Str) (d:Gc):R OD:=match dY d,o9 f d with
 |some nm,some d'=>if tb nm=true then .ok (.sh d') else .bad
 |_,_=>.bad
theorem lJ:fT tb f a ρ=unK (λx=>o7 tb f x.er) (a ρ):=b_ _ _
end
section
variable {K:At} {F H:Hp} {ρ:Env}
theorem Stt.swap (S:Stt K n F H σ ρ fp) (hx:ρ[i]?=some (some x)) :
  ∃v f,σ[i]?=some (some v)/\Res K F H v x f/\(∀a∈f,a∈fp) /\
   ∀F' H' x' f',ax F' H'->Own K F' H' v x' f'->f'.Nodup->(∀a∈f',F' a=none)->Stp F H f F' H' f'->∃fp',Stt K n F' H' σ (ρ.set i (some x')) fp'/\Stp F H fp F' H' fp'/\∀a∈fp',(a∈fp/\a∉f)\/a∈f':=by
 obtain ⟨v,f,g1,g2,h1,h2,rfl,h4⟩:=S.own.at hx;have nd:=S.nd;have nd':=nd;simp only [Yx,Z5]at nd';obtain ⟨n1,⟨n2,n3,n4⟩,n5⟩:=nd';refine ⟨v,f,h1,⟨h2,n2,λa m=>S.fr a (by simp [m])⟩,λa m=>by simp [m],λF' H' x' f' sm o nf ff st=>?_⟩
 have out:∀a∈g1++g2,a∉f:=λa m z=>by
  rcases Z5.mp m with m | m
  ·exact n5 a m a (.inl z) rfl
  ·exact n4 a z a m rfl
 have hs:∀c∈f',c∈f\/c∉g1++(f++g2):=λc m=>by
  rcases st.new c m with z | z
  ·exact .inl z
  ·refine .inr λw=>?_
   obtain ⟨o,q⟩:=S.own.dom c w;rw [z]at q;cases q
 have own:=h4 F' H' st.ff (λa m o q=>st.keep a o q (out a m)) v x' f' o
 rw [kU h1]at own;refine ⟨g1++(f'++g2),⟨sm,own,gz nd nf hs,λa m=>?_,by rw [Y3];exact S.len⟩,⟨st.ff,λa o q m=>st.keep a o q λz=>m (by simp [z]),λa m=>?_,λa q m z=>st.nw a q (λw=>m (by simp [w])) z⟩,λa m=>?_⟩
 ·simp only [Z5]at m
  have go:a∈g1++g2->F' a=none:=λm=>by
   obtain ⟨o,q⟩:=S.own.dom a (by simp at m ⊢;rcases m with m | m <;> simp [m])
   exact st.nw a (bg q) (out a m) (S.fr a (by simp at m ⊢;rcases m with m | m <;> simp [m]))
  rcases m with m | m | m
  ·exact go (by simp [m])
  ·exact ff a m
  ·exact go (by simp [m])
 ·simp only [Z5]at m ⊢
  rcases m with m | m | m
  ·exact .inl (.inl m)
  ·rcases st.new a m with z | z
   ·exact .inl (.inr (.inl z))
   ·exact .inr z
  ·exact .inl (.inr (.inr m))
 ·simp only [Z5]at m ⊢
  rcases m with m | m | m
  ·exact .inl ⟨.inl m,out a (by simp [m])⟩
  ·exact .inr m
  ·exact .inl ⟨.inr (.inr m),out a (by simp [m])⟩
end
def gh (i:Nat) (tb:Str->Bool) (f:Str):Fe:=fun ρ=>match ρ[i]? with
 |some (some (.oi p nm ds))=>match b9 f (ds.map λq=>(.tuple [.str q.1],q.2)) with
  |some d=>if tb nm=true then .ok (.sh d) else .bad
  |none=>.bad
 |_=>.bad
def bO (f:Str) (v:Gc):List (Str×Gc)->List (Str×Gc)
 |[]=>[(f,v)]
 | (g,x) :: r=>if g=f then (g,v) :: r else (g,x) :: bO f v r
def mh (i:Nat) (tb:Str->Bool) (f:Str) (a:Fe):Fs:=fun ρ=>(a ρ).bind λy=>match ρ[i]? with
 |some (some (.oi p nm ds))=>if tb nm=true/\ds.length<1000 then .ok (.nx (ρ.set i (some (.oi p nm (bO f y.er ds))))) else .bad
 |_=>.bad
theorem sM:∀{fs:List (Str×V)} {ds:List (Str×Gc)},fs.map (·.1)=ds.map (·.1)->(L2.gm f v fs).map (·.1)=(bO f d ds).map (·.1)
 |[],[],_=>rfl
 |[],_ :: _,h=>by cases h
 |_ :: _,[],h=>by cases h
 | (g,x) :: fs,(g',y) :: ds,h=>by
  rw [Zw,Zw]at h;obtain ⟨h1,h2⟩:=Wh h;have h1:g=g':=h1;subst h1;unfold L2.gm bO;by_cases e:g=f
  ·rw [N1 e,N1 e,Zw,Zw,h2]
  ·rw [N2 e,N2 e,Zw,Zw,sM h2]
theorem vB {K:At} {F:Hp} (r:Rep K F v d):∀{fs:List (Str×V)} {ds:List (Str×Gc)},fs.map (·.1)=ds.map (·.1)->RepAll K F (fs.map (·.2)) (ds.map (·.2))->RepAll K F ((L2.gm f v fs).map (·.2)) ((bO f d ds).map (·.2))
 |[],[],_,_=>.cons r .nil
 |[],_ :: _,h,_=>by cases h
 |_ :: _,[],h,_=>by cases h
 | (g,x) :: fs,(g',y) :: ds,h,q=>by
  rw [Zw,Zw]at h q;obtain ⟨h1,h2⟩:=Wh h;have h1:g=g':=h1;subst h1;cases q with
  |cons q1 q2 =>
   unfold L2.gm bO;by_cases e:g=f
   ·rw [N1 e,N1 e]
    exact .cons r q2
   ·rw [N2 e,N2 e]
    exact .cons q1 (vB r h2 q2)
section
variable {M:Mx}
theorem GG (hN:∀C nm,nsIn M.K mainGlobals nm=some (some (.ref C))->tb nm=true->Cls M.K C/\dQ M.K C f) (h:tD M n (gh i tb f) σ H Q):Hl M.K (fm i) f σ H Q:=by
 obtain ⟨F,ρ,fp,S,p⟩:=h;unfold gh at p;split at p
 ·rename_i q nm ds e
  obtain ⟨v,g,h1,r,_,_⟩:=S.swap e;have ro:=r.own;cases ro with
  |@oi a C dx fs _ _ _ hh hk hr =>
   split at p
   ·rename_i d hd
    by_cases ht:tb nm=true
    ·rw [N1 ht]at p
     obtain ⟨u,l,ru⟩:=uI hk hr hd;obtain ⟨hc,hna⟩:=hN C nm hh.2.1 ht;exact ⟨.ref a,h1,a,C,dx,fs,u,rfl,hh.2.2,hc,hna,l,OkE.val S.same p ru⟩
    ·rw [N2 ht]at p
     exact p.elim
   ·exact p.elim
 ·exact p.elim
theorem GA (hN:∀C nm,nsIn M.K mainGlobals nm=some (some (.ref C))->tb nm=true->Cls M.K C/\dQ M.K C f) (h:tS M n (mh i tb f a) D σ H):Ll M.K (fm i) (tD M n a) f D σ H:=by
 obtain ⟨F,ρ,fp,S,p⟩:=h;refine ⟨F,ρ,fp,S,(aq.bind p).mono λy py w F1 H1 fy e1 r1 w1=>?_⟩
 obtain ⟨G1,d1,k1⟩:=r1.frz e1 w1;split at py
 ·rename_i q nm ds e
  by_cases ht:tb nm=true/\ds.length<1000
  ·rw [N1 ht]at py
   obtain ⟨v,g,h1,r,sub,wr⟩:=(S.ext d1).swap e;have ro:=r.own;cases ro with
   |@oi b C dx fs _ _ _ hh hk hr =>
    obtain ⟨hc,hna⟩:=hN C nm hh.2.1 ht.1;have hl:fs.length<1000:=by
     have:=Yl List.length hk;rw [Zy,Zy]at this
     lia
    have fb:G1 b=none:=r.fr b Zz;refine ⟨.ref b,h1,b,C,dx,fs,rfl,hh.2.2,hc,hna,hl,?_⟩;have sm:ax G1 (upd H1 b (.ins C dx (L2.gm f w fs))):=λc o z=>by
     rw [av (aG z fb)];exact d1.fh _ _ z
    obtain ⟨fp',S',st,_⟩:=wr G1 (upd H1 b (.ins C dx (L2.gm f w fs))) (.oi q nm (bO f y.er ds)) [b] sm (.oi ⟨hh.1,hh.2.1,aE⟩ (sM hk) (vB k1 hk hr)) r.nd (λc m=>by
     rw [Y9]at m;subst m;exact fb) ⟨ax.refl _,λc o z m=>by
      rw [av (λz=>m (by rw [z];exact Zz))]
      exact z,λc m=>.inl m,λ_ _ _ z=>z⟩
    exact py _ _ _ _ S' (d1.stp.trans st)
  ·rw [N2 ht]at py
   exact py.elim
 ·exact py.elim
end
mutual
def noD:Gc->Bool
 |.tuple ds=>rO ds
 |.list ds=>rO ds
 |.dict _=>false
 |.none=>true
 |.bool _=>true
 |.int _=>true
 |.str _=>true
def rO:List Gc->Bool
 |[]=>true
 |d :: ds=>noD d && rO ds
end
def Ki:OD->Bool
 |.sh d=>noD d
 |_=>false
def nu (i:Nat) (fa:Fe):Fe:=fun ρ=>match ρ[i]? with
 |some (some (.oi p nm ds))=>(fa (ρ.set i (some (.sh (mG nm ds))))).bind λy=>if Ki y=true then .ok y else .bad
 |_=>.bad
section
variable {K:At} {F H:Hp}
def Ins (F:Hp) (b:Is):Prop:=∃C dx fs,F b=some (.ins C dx fs)
theorem C9 (hl:∀b∈f,Ins F b) (h:RdK K F a xs):RdK K (nE F f) a xs:=by
 rcases h with h | h
 ·refine .inl ?_
  have go:∀o,F a=some o->(∀C dx fs,o≠.ins C dx fs)->nE F f a=some o:=λo q nq=>by
   rw [dU λm=>by
    obtain ⟨C,dx,fs,z⟩:=hl a m;rw [q]at z;exact nq C dx fs (Yv z)]
   exact q
  rcases h with h | ⟨o,h⟩
  ·exact .inl (go _ h λC dx fs z=>by cases z)
  ·exact .inr ⟨o,go _ h λC dx fs z=>by cases z⟩
 ·exact .inr h
mutual
theorem ve (hl:∀b∈f,Ins F b):Rep K F v d->noD d=true->Rep K (nE F f) v d
 |.non,_=>.non
 |.bl b,_=>.bl b
 |.int i,_=>.int i
 |.str x,_=>.str x
 |.lst h1 h2,e=>by
  rw [noD]at e;exact .lst (C9 hl h1) (nV hl h2 e)
 |.dct _ _ _,e=>by unfold dD at e;rw [noD]at e;cases e
 |.ins _ _ _,e=>by unfold mG at e;rw [noD]at e;cases e
 |.tup (a:=a) h1 h2,e=>by
  rw [noD]at e;refine .tup ?_ (nV hl h2 e);rw [dU λm=>by
   obtain ⟨C,dx,fs,q⟩:=hl a m;rw [h1]at q;cases q]
  exact h1
theorem nV (hl:∀b∈f,Ins F b):RepAll K F vs ds->rO ds=true->RepAll K (nE F f) vs ds
 |.nil,_=>.nil
 |.cons h r,e=>by
  rw [rO,Yy]at e;exact .cons (ve hl h e.1) (nV hl r e.2)
end
theorem Jy {v:V} {p:Option Is} {nm:Str} {ds:List (Str×Gc)} {g:List Is} (h:Own K F H v (.oi p nm ds) g):∀b∈g,Ins H b:=by
 cases h with
 |@oi a C dx fs _ _ _ hh hk hr =>
  intro b m;rw [Y9]at m;subst m;exact ⟨C,dx,fs,hh.2.2⟩
end
section
theorem Jt (h:tD M n (nu i fa) σ H Q):tD M n fa σ H Q:=by
 obtain ⟨F,ρ,fp,S,p⟩:=h;unfold nu at p;split at p
 ·rename_i q nm ds e
  obtain ⟨v,f,g1,g2,h1,h2,rfl,h4⟩:=S.own.at e;have ff:∀a∈f,F a=none:=λa m=>S.fr a (Zt _ (Zm _ m))
  have o:=h4 (kQ F H f) H (dj ff) (λ_ _ _ q=>q) v (.sh (OD.oi q nm ds).er) [] (.sh (h2.frz (dj ff) λa m o q=>by rw [gW m];exact q))
  rw [kU h1,A0]at o;have nd:=S.nd;simp only [Yx,Z5]at nd;obtain ⟨n1,⟨n2,n3,n4⟩,n5⟩:=nd;have sub:∀a∈g1++([]++g2),a∈g1++(f++g2)/\a∉f:=λa m=>by
   simp only [Yf,Z5]at m ⊢;rcases m with m | m
   ·exact ⟨.inl m,λz=>n5 a m a (.inl z) rfl⟩
   ·exact ⟨.inr (.inr m),λz=>n4 a z a m rfl⟩
  have hI:=Jy h2;have S1:Stt M.K n (kQ F H f) H σ (ρ.set i (some (.sh (mG nm ds)))) (g1++([]++g2)) :=
   ⟨pG S.same,o,by
    simp only [Yf,Yx];exact ⟨n1,n3,λa m b m'=>n5 a m b (.inr m')⟩,λa m=>by
    rw [dt (sub a m).2];exact S.fr a (sub a m).1,by rw [Y3];exact S.len⟩
  have st:Stp F H (g1++(f++g2)) (kQ F H f) H (g1++([]++g2)):=⟨dj ff,λ_ _ h _=>h,λa m=>.inl (sub a m).1,λa h m z=>by
   rw [dt λw=>m (Zt _ (Zm _ w))]
   exact z⟩
  refine ⟨_,_,_,S1,((aq.bind p).stp st).mono λy py v1 F1 H1 fx e1 r1 w1=>?_⟩
  split at py
  ·rename_i hok
   cases y with
   |sh d =>
    obtain ⟨ro,rn,rf⟩:=r1;cases ro with
    |sh rr =>
     have hL1:∀b∈f,Ins F1 b:=λb m=>let ⟨C,dx,fs,q⟩:=hI b m;⟨C,dx,fs,e1.ff _ _ (by rw [gW m];exact q)⟩
     refine py v1 (nE F1 f) H1 [] ⟨λb o hb=>?_,e1.hh,λb o hb=>?_,λb hb hn=>?_⟩ (Res.sh (ve hL1 rr hok)) (λ_ m=>by cases m)
     ·have:b∉f:=λm=>by
       rw [ff b m]at hb;cases hb
      rw [dU this];exact e1.ff _ _ (dj ff _ _ hb)
     ·by_cases m:b∈f
      ·rw [nh m]at hb
       cases hb
      ·rw [dU m]at hb
       exact e1.fh _ _ hb
     ·by_cases m:b∈f
      ·exact nh m
      ·rw [dU m]
       exact e1.nw b hb (by rw [dt m];exact hn)
   |ol _=>cases hok
   |ot _=>cases hok
   |od _=>cases hok
   |oi _ _ _=>cases hok
   |pl _ _=>cases hok
  ·exact py.elim
 ·exact p.elim
end
section
variable {M:Mx} {X:Cx} {pos apos p:Pos}
theorem xK (i:Nat) (h:DE M X e fa):DE M X e (nu i fa):=λhK hM=>peI (h hK hM) λ_ _ _ z=>Jt z
theorem lT (hN:∀C nm,nsIn M.K mainGlobals nm=some (some (.ref C))->tb nm=true->Cls M.K C/\dQ M.K C f) (hi:PE X (.Name x p) (fm i)) (hb:attributeBase (.Name x p) f X.env (eval (.Name x p) X.env)=eval (.Name x p) X.env:=by rfl) :
  DE M X (.Attribute (.Name x p) f pos) (gh i tb f):=λhK hM=>by
 have q:=Bg (pos:=pos) hi hb;rw [hK]at q;exact peI q λ_ _ _ z=>GG hN z
theorem jI (hN:∀C nm,nsIn M.K mainGlobals nm=some (some (.ref C))->tb nm=true->Cls M.K C/\dQ M.K C f) (hi:PE X (.Name x p) (fm i)) (h:DE M X e fa) (hs:swapsWith e (some (.Attribute (.Name x p) f apos)) pos.line X.env=pure false:=by rfl):DS M X (.Assign [.Attribute (.Name x p) f apos] e pos) (mh i tb f fa):=λhK hM=>by
 have q:=JG (pos:=pos) (pos':=apos) hi (h hK hM) hs;rw [hK]at q;exact psI q λ_ _ _ z=>GA hN z
end
end L3
namespace L3
open PySem L2 PySem.Spec PyProof.Rows
abbrev Fb:=Env->R (Env×OD)
def sV (n:Nat) (xs:List OD):Env:=xs.map some++replicate (n-xs.length) none
def sJ (M:Mx) (n:Nat) (F H:Hp) (fp:List Is) (D:Ends) (r:Env×OD):Prop :=
 ∀v σ' F' H' fp' fy,Stt M.K n F' H' σ' r.1 fp'->Stp F H fp F' H' (fp'++fy)->Res M.K F' H' v r.2 fy->(∀a∈fy,a∉fp')->D.rt v H'
def tBd (M:Mx) (n:Nat) (b:Fb):TS:=λD σ H=>∃F ρ fp,Stt M.K n F H σ ρ fp/\aq M H fp (sJ M n F H fp D) (b ρ)
def DB (M:Mx) (X:Cx) (c:Bool) (ss:List Ix) (b:Fb):Prop:=X.K=M.K->X.mg=M.mg->∃T,PSs X ss T/\∀D:Ends,(c=true->∀σ H,D.rt .non H->D.nx σ H)->∀σ H,tBd M X.N.length b D σ H->T D σ H
def bNx:Fb:=fun ρ=>.ok (ρ,.sh .none)
def Cc (a:Fe):Fb:=fun ρ=>(a ρ).bind λx=>.ok (ρ,x)
def dc (s:Fs) (b:Fb):Fb:=fun ρ=>(s ρ).bind λo=>match o with
 |.nx ρ'=>b ρ'
 |_=>.bad
def bIf (t:Ft) (b1 b2:Fb):Fb:=fun ρ=>(t ρ).bind λc=>if c=true then b1 ρ else b2 ρ
section
variable {F H F1 H1:Hp} {st:Ix}
theorem sJ.stp (s:Stp F H fp F1 H1 fp1) (h:sJ M n F H fp D r):sJ M n F1 H1 fp1 D r:=λv σ' F' H' fp' fy a b c d=>h v σ' F' H' fp' fy a (s.trans b) c d
theorem PostBs.stp (s:Stp F H fp F1 H1 fp1) (h:aq M H fp (sJ M n F H fp D) r):aq M H1 fp1 (sJ M n F1 H1 fp1 D) r:=(h.stp s).mono λo ho=>ho.stp s
theorem pR:DB M X true [] bNx:=λhK hM=>⟨_,ud,λD hD σ H h=>by
 obtain ⟨F,ρ,fp,S,p⟩:=h;refine hD rfl σ H (p .non σ F H fp [] S ?_ (Res.sh .non) (λ_ m=>by cases m))
 rw [Zc];exact Stp.refl⟩
theorem Av (h:DE M X e fa):DB M X f [.Return (some e) pos] (Cc fa):=λhK hM=>⟨_,pD (oR (h hK hM)),λD hD σ H h=>by
 obtain ⟨F,ρ,fp,S,p⟩:=h;refine ⟨F,ρ,fp,S,(aq.bind p).mono λx px v F1 H1 fx e1 r1 w1=>?_⟩
 refine px v σ F1 H1 fp fx (S.ext e1) (e1.stpN w1) r1 λa m z=>?_
 obtain ⟨o,q⟩:=S.own.dom a z;rw [w1 a m]at q;cases q⟩
theorem bb (h1:DS M X st s) (h2:DB M X f ss b):DB M X f (st :: ss) (dc s b):=λhK hM=>by
 obtain ⟨T,hT,k⟩:=h2 hK hM;refine ⟨_,ni (h1 hK hM) hT,λD hD σ H h=>?_⟩
 obtain ⟨F,ρ,fp,S,p⟩:=h;refine ⟨F,ρ,fp,S,(aq.bind p).mono λo po=>?_⟩
 cases o with
 |nx ρ1=>exact fun σ' F' H' fp' S' st=>k D hD σ' H' ⟨F',ρ1,fp',S',PostBs.stp st po⟩
 |bk ρ=>exact po.elim
 |ct ρ=>exact po.elim
 |rt x=>exact po.elim
theorem FH (hc:DT M X c t) (h1:DB M X false ss1 b1) (h2:DB M X f ss2 b2):DB M X f (.If c ss1 [] pos :: ss2) (bIf t b1 b2):=λhK hM=>by
 obtain ⟨T1,hT1,k1⟩:=h1 hK hM;obtain ⟨T2,hT2,k2⟩:=h2 hK hM;refine ⟨_,ni (yK (hc hK hM) hT1 ud) hT2,λD hD σ H h=>?_⟩
 obtain ⟨F,ρ,fp,S,p⟩:=h;refine ⟨F,ρ,fp,S,(aq.bind p).mono λc pc F1 H1 e1=>?_⟩
 cases c with
 |true =>
  rw [N1 rfl]at pc ⊢;exact k1 _ (λz=>by cases z) σ H1 ⟨F1,ρ,fp,S.ext e1,PostBs.stp e1.stp pc⟩
 |false =>
  rw [N2 Zo]at pc ⊢;exact k2 D hD σ H1 ⟨F1,ρ,fp,S.ext e1,PostBs.stp e1.stp pc⟩
end
def spP (K:At) (np n:Nat) (b:Fb):Sp:=λvs H Q _=>∃F xs f,ax F H/\ResL K F H vs xs f/\xs.length=np/\∃r,b (sV n xs)=.ok r /\
 ∀v σ' F' H' fp' fy,Stt K n F' H' σ' r.1 fp'->Stp F H f F' H' (fp'++fy)->Res K F' H' v r.2 fy->(∀a∈fy,a∉fp')->Q v H'
theorem qZ {K:At} {F H:Hp} (m:Nat):∀{vs:List V} {xs:List OD} {f:List Is},OwnL K F H vs xs f->OwnS K F H (vs.map some++replicate m none) (xs.map some++replicate m none) f
 |_,_,_,.nil=>by
  rw [Yh,Yh,Yf,Yf]
  induction m with
  |zero=>exact .nil
  |succ m ih=>exact .no ih
 |_,_,_,.cons h r=>.yes h (qZ m r)
theorem fnP {K:At} {st:Ix} (hp:ps.length=np) (hn:N.length=n) (F:Fun K x qual st f fd) (S:FnScope N ps (ah st)) (h:∀(cdv:Db) (A:Go) (outer:List PySem.Env) (s:Da) (H:Hp) (E:XK),Room k (A.deeper (envOfC qual (ah st) s.heap.objs.size f cdv))->DB ⟨K,mg,E⟩ (mI CX0 P w K mg base N qual (ah st) f cdv A outer s H E).nox true (d6 st) b) :
  FnOk P w K mg base CX0 (k+1) f fd ps (spP K np n b):=by
 subst hp hn;have hpl:ps.length<=N.length:=by
  have:=Yl List.length S.pre;rw [Ze]at this
  lia
 have hlen:∀vs H Q E,spP K ps.length N.length b vs H Q E->vs.length=ps.length:=by
  rintro vs H Q E ⟨F,xs,g,sm,ra,hl,_⟩;rw [ra.own.len,hl]
 refine F.ok S hlen λcdv A outer s H vs Q E hr hs=>?_
 have hvl:=hlen _ _ _ _ hs;obtain ⟨F0,xs,g,sm,ra,hl,r,hb,q⟩:=hs;obtain ⟨T,hT,k0⟩:=h cdv A outer s H E hr rfl rfl;refine ⟨T,hT,k0 _ (λ_ σ H z=>z) _ H ⟨F0,sV N.length xs,g,⟨sm,?_,ra.nd,ra.fr,?_⟩,?_⟩⟩
 ·unfold L2.start sV
  rw [hvl,hl];exact qZ _ ra.own
 ·unfold sV
  rw [Zv,Zy,Xv,hl];show ps.length+(N.length-ps.length)=N.length
  lia
 ·show aq _ _ _ _ (b (sV N.length xs))
  rw [hb];exact q
def rT (a:Is):OD->OD
 |.oi _ nm ds=>.oi (some a) nm ds
 |.ol xs=>.pl a xs
 |x=>x
def free:OD->Bool
 |.oi none _ _=>true
 |.ol _=>true
 |_=>false
def Fc:OD->Option OD
 |.oi _ nm ds=>some (.oi none nm ds)
 |.ol xs=>some (.ol xs)
 |.pl _ xs=>some (.ol xs)
 |_=>none
def q_:OD->OD->OD
 |.oi p _ _,.oi _ nm ds=>.oi p nm ds
 |.pl a _,.ol xs=>.pl a xs
 |_,x=>x
theorem BB (hx:free x=true) (hy:free y=true) (h:rT a x=rT a y):x=y:=by
 cases x with
 |oi p nm ds =>
  cases p with
  |some _=>cases hx
  |none =>
   cases y with
   |oi q nm' ds' =>
    cases q with
    |some _=>cases hy
    |none=>cases h;rfl
   |ol _=>cases h
   |_=>cases hy
 |ol xs =>
  cases y with
  |oi q nm' ds'=>cases h
  |ol _=>cases h;rfl
  |_=>cases hy
 |_=>cases hx
section
variable {K:At} {F H:Hp}
theorem xx (h:Own K F H v x f) (e:Fc x=some x0):∃a,v=.ref a/\free x0=true/\Own K F H v (rT a x0) f/\∀y F' H' g,free y=true->Own K F' H' v (rT a y) g->(∃nm ds nm' ds',x0=.oi none nm ds/\y=.oi none nm' ds')\/(∃xs ys,x0=.ol xs/\y=.ol ys)->Own K F' H' v (q_ x y) g:=by
 cases h with
 |sh _=>cases e
 |ot _ _=>cases e
 |od _ _ _=>cases e
 |@oi a C dx fs p nm ds hh hk hr =>
  cases e;refine ⟨a,rfl,rfl,.oi ⟨λb z=>(Yv z).symm,hh.2⟩ hk hr,λy F' H' g hy o z=>?_⟩
  rcases z with ⟨nm',ds',nm2,ds2,_,rfl⟩ | ⟨xs,ys,z,_⟩
  ·cases o with
   |oi hh' hk' hr'=>exact .oi ⟨hh.1,hh'.2⟩ hk' hr'
  ·cases z
 |@ol a vs xs g ha hv =>
  cases e;refine ⟨a,rfl,rfl,.pl ha hv,λy F' H' g hy o z=>?_⟩
  rcases z with ⟨nm',ds',nm2,ds2,z,_⟩ | ⟨xs,ys,_,rfl⟩
  ·cases z
  ·cases o with
   |pl h1 h2=>exact .ol h1 h2
 |@pl a vs xs g ha hv =>
  cases e;refine ⟨a,rfl,rfl,.pl ha hv,λy F' H' g hy o z=>?_⟩
  rcases z with ⟨nm',ds',nm2,ds2,z,_⟩ | ⟨xs,ys,_,rfl⟩
  ·cases z
  ·cases o with
   |pl h1 h2=>exact .pl h1 h2
theorem xE (hy:free y=true) (h:Own K F H v (rT a y) f):v=.ref a:=by
 cases y with
 |oi p nm ds =>
  cases h with
  |oi hh _ _=>rw [hh.1 a rfl]
 |ol xs =>
  cases h with
  |pl _ _=>rfl
 |_=>cases hy
end
def Dy:OD->OD->Bool
 |.oi none _ _,.oi none _ _=>true
 |.ol _,.ol _=>true
 |_,_=>false
theorem rC (h:Dy x y=true):(∃nm ds nm' ds',x=.oi none nm ds/\y=.oi none nm' ds')\/(∃xs ys,x=.ol xs/\y=.ol ys):=by
 unfold Dy at h;split at h
 ·exact .inl ⟨_,_,_,_,rfl,rfl⟩
 ·exact .inr ⟨_,_,rfl,rfl⟩
 ·cases h
theorem gp (h:Dy x y=true):free y=true:=by
 rcases rC h with ⟨_,_,_,_,_,rfl⟩ | ⟨_,_,_,rfl⟩ <;> rfl
def bF (n:Nat) (b:Fb) (x0:OD) (ys:List Gc) (r:OD×OD):Prop:=Dy x0 r.1=true/\∀a,∃ρ',b (sV n (rT a x0 :: ys.map OD.sh))=.ok (ρ',r.2)/\ρ'[0]?=some (some (rT a r.1))
open Classical in
def gX (n:Nat) (b:Fb) (x0:OD) (ys:List Gc):R (OD×OD):=if h:∃r,bF n b x0 ys r then .ok h.choose else .bad
theorem rF (h:gX n b x0 ys=.ok r):bF n b x0 ys r:=by
 unfold gX at h;split at h
 ·rename_i hx
  cases h;exact hx.choose_spec
 ·cases h
theorem vf:gX n b x0 ys≠.ex c:=by
 unfold gX;split
 ·intro z;cases z
 ·intro z;cases z
theorem qF (h:bF n b x0 ys r):gX n b x0 ys=.ok r:=by
 have hx:∃r,bF n b x0 ys r:=⟨r,h⟩;unfold gX;rw [dif_pos hx];have s:=hx.choose_spec;obtain ⟨ρ1,e1,q1⟩:=s.2 0;obtain ⟨ρ2,e2,q2⟩:=h.2 0;rw [e1]at e2;have e3:=R.ok.inj e2;have e4:ρ1=ρ2:=(Prod.mk.inj e3).1;have e5:hx.choose.2=r.2:=(Prod.mk.inj e3).2;rw [e4,q2]at q1;have e6:=BB (gp h.1) (gp s.1) (Yv (Yv q1));exact Yl R.ok (Prod.ext e6.symm e5)
def p9 (n i:Nat) (b:Fb) (al:Fa) (ρ:Env):R (Env×OD):=match ρ[i]? with
 |some (some x)=>match Fc x with
  |some x0=>(al ρ).bind λys=>(gX n b x0 (ys.map OD.er)).bind λr=>.ok (ρ.set i (some (q_ x r.1)),r.2)
  |none=>.bad
 |_=>.bad
def eO (n i:Nat) (b:Fb) (al:Fa):Fs:=fun ρ=>(p9 n i b al ρ).bind λr=>.ok (.nx r.1)
def kK (nm m:Str) (n i:Nat) (b:Fb) (al:Fa):Fs:=fun ρ=>match ρ[i]? with
 |some (some (.oi _ nm' ds))=>if nm'=nm/\b9 m (ds.map λq=>(.tuple [.str q.1],q.2))=none then eO n i b al ρ else .bad
 |_=>.bad
section
variable {M:Mx}
theorem p_ {F:Hp} (S:Stt M.K n F H σ ρ fp) (p:aq M H fp P (p9 n' i b al ρ)) (hP:∀r,P r->∀v F' H' fp' fy,Stt M.K n F' H' σ r.1 fp'->Stp F H fp F' H' (fp'++fy)->Res M.K F' H' v r.2 fy->(∀a∈fy,a∉fp')->Q v H') (hl:∀ys,al ρ=.ok ys->ys.length+1=np) :
  ∃a,σ[i]?=some (some (.ref a))/\tA M n al σ H λvs H2=>spP M.K np n' b (.ref a :: vs) H2 Q M.E:=by
 unfold p9 at p;split at p
 ·rename_i x e
  split at p
  ·rename_i x0 hu
   obtain ⟨v,f,h1,r0,sub,wr⟩:=S.swap e;obtain ⟨a,rfl,hfree,hpin,hre⟩:=xx r0.own hu;refine ⟨a,h1,F,ρ,fp,S,?_⟩;have hl':=hl;cases ha:al ρ with
   |bad=>rw [ha]at p;exact p.elim
   |ex c=>rw [ha]at p;exact p
   |ok ys =>
    rw [ha]at p;have hy:=hl ys ha;intro vs F1 H1 fx e1 r1 w1;obtain ⟨G1,d1,k1⟩:=r1.frz e1 w1;obtain ⟨v2,f2,h2,r2,sub2,wr2⟩:=(S.ext d1).swap e;rw [h1]at h2;cases h2;have p':aq M H fp P ((gX n' b x0 (ys.map OD.er)).bind λr=>.ok (ρ.set i (some (q_ x r.1)),r.2)):=p
    cases hc:gX n' b x0 (ys.map OD.er) with
    |bad=>rw [hc]at p';exact p'.elim
    |ex c=>exact absurd hc vf
    |ok r =>
     rw [hc]at p';have pr:P (ρ.set i (some (q_ x r.1)),r.2):=p';obtain ⟨hlk,hrun⟩:=rF hc;obtain ⟨ρ',hb,hρ⟩:=hrun a;obtain ⟨a2,q2,_,hpin2,hre2⟩:=xx r2.own hu;cases q2;refine ⟨G1,rT a x0 :: (ys.map OD.er).map OD.sh,f2,d1.fh,⟨?_,r2.nd,r2.fr⟩,by rw [Zp,Zy,Zy];exact hy,_,hb,?_⟩
     ·have:=OwnL.cons hpin2 (OwnL.shs (H:=H1) k1)
      rw [Zc]at this;exact this
     ·intro v' σ' F' H' fp' fy S' st' ry dis
      obtain ⟨v3,f3,h3,r3,sub3,_⟩:=S'.swap hρ;have hv3:=xE (gp hlk) r3.own;subst hv3;have o3:=hre2 r.1 F' H' f3 (gp hlk) r3.own (rC hlk);have st3:Stp G1 H1 f2 F' H' f3:=st'.sub λc m=>Zm _ (sub3 c m)
      obtain ⟨fp2,S2,st2,sub4⟩:=wr2 F' H' (q_ x r.1) f3 S'.same o3 r3.nd r3.fr st3;have st4:=d1.stp.trans st2;refine hP _ pr v' F' H' fp2 fy S2 ⟨st4.ff,st4.keep,λc m=>?_,st4.nw⟩ ry λc m z=>?_
      ·rcases Z5.mp m with m | m
       ·exact st4.new c m
       ·rcases st'.new c (Zt _ m) with w | w
        ·exact .inl (sub2 c w)
        ·exact .inr (d1.hh.free w)
      ·rcases sub4 c z with ⟨z1,z2⟩ | z
       ·rcases st'.new c (Zt _ m) with w | w
        ·exact z2 w
        ·obtain ⟨o,q⟩:=(S.ext d1).own.dom c z1
         rw [w]at q;cases q
       ·exact dis c m (sub3 c z)
  ·exact p.elim
 ·exact p.elim
theorem Ew (hl:∀ρ ys,al ρ=.ok ys->ys.length+1=np) (h:tS M n (eO n' i b al) D σ H):nF (vY (spP M.K np n' b) [] M.E (e8 (fm i) (tA M n al))) D σ H:=by
 obtain ⟨F,ρ,fp,S,p⟩:=h;obtain ⟨a,h1,h2⟩:=p_ (np:=np) (Q:=λ_ H1=>D.nx σ H1) S (aq.bind p) (λr pr v F' H' fp' fy S' st ry _=>pr σ F' H' fp' S' (st.sub λc m=>Zm _ m)) (hl ρ)
 refine ⟨.ref a,h1,?_⟩;obtain ⟨F2,ρ2,fp2,S2,p2⟩:=h2;refine ⟨F2,ρ2,fp2,S2,p2.mono λxs px vs F1 H1 fx e1 r1 w1=>?_⟩
 have:=px vs F1 H1 fx e1 r1 w1;show spP M.K np n' b ((V.ref a :: vs)++[]) H1 (λx H1=>D.nx σ H1) M.E
 rw [Zc];exact this
theorem Ej (hl:∀ρ ys,al ρ=.ok ys->ys.length+1=np) (hT:∀C,nsIn M.K mainGlobals nm=some (some (.ref C))->∃f,ok C f (spP M.K np n' b)) (h:tS M n (kK nm m n' i b al) D σ H):nF (tE ok m M.E (fm i) (tA M n al)) D σ H:=by
 obtain ⟨F,ρ,fp,S,p⟩:=h;unfold kK at p;split at p
 ·rename_i q nm' ds e
  split at p
  ·rename_i hc
   obtain ⟨hn,hfld⟩:=hc;subst hn;obtain ⟨v,f,h1,r,_,_⟩:=S.swap e;have ro:=r.own;cases ro with
   |@oi a C dx fs _ _ _ hh hk hr =>
    obtain ⟨fa,hok⟩:=hT C hh.2.1;obtain ⟨a',h1',h2⟩:=p_ (np:=np) (Q:=λ_ H1=>D.nx σ H1) S (aq.bind p) (λr pr v F' H' fp' fy S' st ry _=>pr σ F' H' fp' S' (st.sub λc m=>Zm _ m)) (hl ρ)
    rw [h1]at h1';cases h1';exact ⟨.ref a,h1,a,C,dx,fs,fa,_,rfl,hh.2.2,hok,pS hk hfld,h2⟩
  ·exact p.elim
 ·exact p.elim
end
section
variable {K:At} {F H:Hp}
theorem zz (hy:free y=true) (h:Own K F H v (rT a y) f):Own K F H v y f:=by
 cases y with
 |oi p nm ds =>
  cases p with
  |some _=>cases hy
  |none =>
   cases h with
   |oi hh h1 h2=>exact .oi ⟨(λ_ z=>by cases z),hh.2⟩ h1 h2
 |ol xs =>
  cases h with
  |pl h1 h2=>exact .ol h1 h2
 |_=>cases hy
end
def sQ (nm:Str) (n:Nat) (b:Fb) (al:Fa):Fe:=fun ρ=>(al ρ).bind λys=>(gX n b (.oi none nm []) (ys.map OD.er)).bind λr=>match r.2 with
 |.sh .none=>.ok r.1
 |_=>.bad
def rJ (i c:Nat) (k a:Fe):Fs:=fun ρ=>(a ρ).bind λy=>match ρ[i]? with
 |some (some (.pl l xs))=>(match xs[c]? with
  |some (.ol ys)=>(match shs ys with
   |some ds=>(k ρ).bind λz=>match z.er with
    |.int q=>(match ixN ds.length q with
     |some j=>.ok (.nx (ρ.set i (some (.pl l (xs.set c (.ol ((ds.set j y.er).map OD.sh)))))))
     |none=>.bad)
    |_=>.bad
   |none=>.bad)
  |_=>.bad)
 |_=>.bad
theorem RepAll.set {K:At} {F:Hp} (r:Rep K F v d):∀{vs:List V} {ds:List Gc} (j:Nat),RepAll K F vs ds->RepAll K F (vs.set j v) (ds.set j d)
 |_,_,_,.nil=>.nil
 |_,_,0,.cons _ q=>.cons r q
 |_,_,j+1,.cons h q=>.cons h (RepAll.set r j q)
section
variable {M:Mx}
theorem Gh (hC:nsIn M.K mainGlobals nm=some (some (.ref C))) (hl:∀ρ ys,al ρ=.ok ys->ys.length+1=np) (h:tD M n (sQ nm n' b al) σ H Q):E7 C (spP M.K np n' b) [] M.E (tA M n al) σ H Q:=by
 obtain ⟨F,ρ,fp,S,p⟩:=h;unfold sQ at p;refine ⟨F,ρ,fp,S,?_⟩;cases ha:al ρ with
 |bad=>rw [ha]at p;exact p.elim
 |ex c=>rw [ha]at p;exact p
 |ok ys =>
  rw [ha]at p;have hy:=hl ρ ys ha;intro vs F1 H1 fx e1 r1 w1;obtain ⟨G1,d1,k1⟩:=r1.frz e1 w1;intro x dx hx hdx ne;have p':aq M H fp (OkE M F H Q) ((gX n' b (.oi none nm []) (ys.map OD.er)).bind λr=>match r.2 with
   |.sh .none=>.ok r.1
   |_=>.bad):=p
  cases hc:gX n' b (.oi none nm []) (ys.map OD.er) with
  |bad=>rw [hc]at p';exact p'.elim
  |ex c=>exact absurd hc vf
  |ok r =>
   rw [hc]at p';obtain ⟨x1,y1⟩:=r;have p2:aq M H fp (OkE M F H Q) (match (generalizing:=false) y1 with
    |.sh .none=>.ok x1
    |_=>.bad):=p'
   obtain ⟨hlk,hrun⟩:=rF hc;obtain ⟨ρ',hb,hρ⟩:=hrun x;have gx:G1 x=none:=d1.fh.free hx;have keep:∀c o,H1 c=some o->upd (upd H1 dx (.own x)) x (.ins C dx []) c=some o:=λc o q=>by
    have h1:c≠x:=by rintro rfl;rw [hx]at q;cases q
    have h2:c≠dx:=by rintro rfl;rw [hdx]at q;cases q
    rw [av h1,av h2];exact q
   split at p2
   ·rw [Zc]
    refine ⟨G1,rT x (.oi none nm []) :: (ys.map OD.er).map OD.sh,[x],λc o q=>keep c o (d1.fh c o q),⟨?_,Xn.mpr ⟨by simp,Y0⟩,λc m=>?_⟩,by rw [Zp,Zy,Zy];exact hy,_,hb,?_⟩
    ·have o1:Own M.K G1 (upd (upd H1 dx (.own x)) x (.ins C dx [])) (.ref x) (.oi (some x) nm []) [x]:=.oi (fs:=[]) ⟨λb z=>(Yv z).symm,hC,aE⟩ rfl .nil
     have:=OwnL.cons o1 (OwnL.shs (H:=upd (upd H1 dx (.own x)) x (.ins C dx [])) k1);exact this
    ·rw [Y9]at m
     subst m;exact gx
    ·intro v' σ' F' H' fp' fy S' st' ry dis
     have ro:=ry.own;cases ro with
     |sh rr =>
      cases rr;refine ⟨rfl,?_⟩;obtain ⟨v3,f3,h3,r3,sub3,_⟩:=S'.swap hρ;have hv3:=xE (gp hlk) r3.own;subst hv3;refine p2 (.ref x) F' H' f3 (d1.trans ⟨st'.ff,λc o q=>st'.keep c o (keep c o q) ?_,S'.same,λc q z=>st'.nw c ?_ ?_ z⟩) ⟨zz (gp hlk) r3.own,r3.nd,r3.fr⟩ λc m=>?_
      ·intro m
       rw [Y9]at m;subst m;rw [hx]at q;cases q
      ·cases hq:H1 c with
       |none=>exact absurd hq q
       |some o=>rw [keep c o hq];simp
      ·intro m
       rw [Y9]at m;subst m;exact q hx
      ·rcases st'.new c (Zm _ (sub3 c m)) with w | w
       ·rw [Y9]at w
        subst w;exact d1.hh.free hx
       ·cases hq:H c with
        |none=>rfl
        |some o =>
         rw [keep c o (d1.hh c o hq)]at w;cases w
   ·exact p2.elim
theorem Stt.nest {F:Hp} (S:Stt M.K n F H σ ρ fp) (hx:ρ[i]?=some (some (.pl l xs))) (hc:xs[c]?=some (.ol ys)) (hd:shs ys=some ds) :
  ∃vs b ws,σ[i]?=some (some (.ref l))/\H l=some (.lst vs)/\vs.length=xs.length/\vs[c]?=some (.ref b)/\H b=some (.lst ws)/\RepAll M.K F ws ds/\b≠l /\
   ∀ws' ds',RepAll M.K F ws' ds'->∃fp',Stt M.K n F (upd H b (.lst ws')) σ (ρ.set i (some (.pl l (xs.set c (.ol (ds'.map OD.sh)))))) fp'/\Stp F H fp F (upd H b (.lst ws')) fp':=by
 obtain ⟨v,f,h1,r,sub,wr⟩:=S.swap hx;have ro:=r.own;cases ro with
 |@pl _ vs _ g ha hv =>
  obtain ⟨u,f1,k1,k2,b1,b2,b3,b4⟩:=hv.at hc;cases b2 with
  |@ol b ws _ f2 hb hw =>
   obtain ⟨rfl,ra⟩:=OwnL.of_shs hw hd;subst b3;have nd:=r.nd;simp only [Xn,Yx,Z5,Xz,Wz,or_false]at nd;have bl:b≠l:=λz=>nd.1 (.inr (.inl z.symm))
   refine ⟨vs,b,ws,h1,ha,hv.len,b1,hb,ra,bl,λws' ds' ra'=>?_⟩
   have fb:F b=none:=r.fr b (by simp)
   have o:=b4 F (upd H b (.lst ws')) (ax.refl _) (λa m o q=>by
    have:a≠b:=by
     rintro rfl;rcases Z5.mp m with m | m
     ·exact nd.2.2.2 a m a (.inl rfl) rfl
     ·exact nd.2.2.1.2.2 a rfl a m rfl
    rw [av this];exact q) (.ref b) (.ol (ds'.map OD.sh)) [b] (.ol aE (OwnL.shs ra'))
   have hset:vs.set c (.ref b)=vs:=by
    apply Yo
    intro j;by_cases hj:c=j
    ·subst hj
     rw [b1,Ym (ZA.mp b1).1]
    ·rw [Yi hj]
   rw [hset]at o;obtain ⟨fp',S',st,_⟩:=wr F (upd H b (.lst ws')) (.pl l (xs.set c (.ol (ds'.map OD.sh)))) (l :: (k1++([b]++k2))) (λa o q=>by
    rw [av (aG q fb)];exact S.same a o q) (.pl (by rw [av (Xj bl)];exact ha) o) (by simpa using r.nd) (λa m=>r.fr a (by simpa using m)) ⟨ax.refl _,λa o q m=>by
     rw [av (λz=>m (by rw [z];simp))]
     exact q,λa m=>.inl (by simpa using m),λ_ _ _ z=>z⟩
   exact ⟨fp',S',st⟩
theorem EW (h:tS M n (rJ i c k a) D σ H):sY (tD M n a) (Jk (tOp (u7 M.K) (fm i) (tC (.int (c:Int)))) (tD M n k) Be) D σ H:=by
 obtain ⟨F,ρ,fp,S,p⟩:=h;refine ⟨F,ρ,fp,S,(aq.bind p).mono λy py v F1 H1 fy e1 r1 w1=>?_⟩
 obtain ⟨G1,d1,k1⟩:=r1.frz e1 w1;split at py
 ·rename_i l xs e
  split at py
  ·rename_i ys hy
   split at py
   ·rename_i ds hd
    obtain ⟨vs,b,ws,h1,h2,h3,h4,h5,h6,h7,_⟩:=(S.ext d1).nest e hy hd;refine ⟨_,h1,l,vs,(c:Int),.ref b,rfl,rfl,SqL.of h2,bt h4,?_⟩;refine ⟨G1,ρ,fp,S.ext d1,((aq.bind py).ext d1).mono λz pz u F2 H2 fz e2 r2 w2=>?_⟩
    obtain ⟨G2,d2,k2⟩:=r2.frz e2 w2;generalize z.er=dz at pz k2
    cases dz with
    |int q =>
     cases k2;have pz':aq M H fp (dF M n F H fp D) (match ixN ds.length q with
      |some j=>.ok (.nx (ρ.set i (some (.pl l (xs.set c (.ol ((ds.set j y.er).map OD.sh)))))))
      |none=>.bad):=pz
     cases hj:ixN ds.length q with
     |none=>rw [hj]at pz';exact pz'.elim
     |some j =>
      rw [hj]at pz';have d12:=d1.trans d2;obtain ⟨vs',b',ws',h1',h2',h3',h4',h5',h6',h7',wr⟩:=(S.ext d12).nest e hy hd;have eb:b'=b:=by
       have q1:=d2.hh _ _ h2;rw [h2']at q1;cases q1;rw [h4']at h4;injection h4 with h4
       injection h4
      subst eb;refine ⟨b',ws',q,j,rfl,rfl,h5',by rw [RepAll.len h6'];exact hj,?_⟩
      obtain ⟨fp',S',st⟩:=wr (ws'.set j v) (ds.set j y.er) (RepAll.set (k1.same d2.ff) j h6');exact pz' σ G2 _ fp' S' (d12.stp.trans st)
    |none=>exact pz.elim
    |bool _=>exact pz.elim
    |str _=>exact pz.elim
    |list _=>exact pz.elim
    |tuple _=>exact pz.elim
    |dict _=>exact pz.elim
   ·exact py.elim
  ·exact py.elim
 ·exact py.elim
end
def AL (al:Fa) (k:Nat):Prop:=∀ρ ys,al ρ=.ok ys->ys.length=k
theorem ip:AL ag 0:=λ_ _ h=>by cases h;rfl
theorem cE (h:AL r k):AL (aa a r) (k+1):=fun ρ ys e=>by
 unfold aa at e;cases ha:a ρ with
 |bad=>rw [ha]at e;cases e
 |ex c=>rw [ha]at e;cases e
 |ok x =>
  rw [ha]at e;cases hr:r ρ with
  |bad=>rw [aC,hr]at e;cases e
  |ex c=>rw [aC,hr]at e;cases e
  |ok xs =>
   rw [aC,hr]at e;cases e;rw [Zp,h ρ xs hr]
section
variable {M:Mx} {X:Cx} {pos apos cpos p pp px:Pos} {g:Is}
theorem AS (G:FnOk X.prog X.w M.K M.mg X.base CX k g fd ps (spP M.K (m+1) n' b)) (hr:Room k X.A) (hg:Gl X nm) (hm:M.mg nm=some (.ref g)) (hk:keepIn M.K (.ref g)=true)
  (hb:Binds M.K fd ps []) (hx:Passes CX X M.E) (v:PE X (.Name x px) (fm i)) (ha:DA M X es al) (hK:X.K=M.K) (hM:X.mg=M.mg)
  (hdb:(nm == ("__debug__" : Str))=false) (he:starEach (.Name x px :: es) X.env=(false,eval (.Name x px) X.env) :: starEach es X.env) (hpl:(backTo cpos (starEach es X.env)).any (·.1)=false) :
  PE X (.Call (.Name nm pp) (.Name x px :: es) [] cpos) (vY (spP M.K (m+1) n' b) [] M.E (e8 (fm i) (tA M X.N.length al))):=by
 have G':FnOk X.prog X.w X.K X.mg X.base CX k g fd ps (spP M.K (m+1) n' b):=by
  rw [hK,hM];exact G
 exact pF (ds:=[]) (dvs:=[]) G' hr hg (by rw [hM];exact hm) (by rw [hK];exact hk) (by rw [hK];exact hb) .nil hx (bB v (ha hK hM) he) hdb he hpl
theorem pN (G:FnOk X.prog X.w M.K M.mg X.base CX k g fd ps (spP M.K (m+1) n' b)) (hr:Room k X.A) (hg:Gl X nm) (hm:M.mg nm=some (.ref g)) (hk:keepIn M.K (.ref g)=true)
  (hb:Binds M.K fd ps []) (hx:Passes CX X M.E) (v:PE X (.Name x px) (fm i)) (ha:DA M X es al) (hA:AL al m)
  (hdb:(nm == ("__debug__" : Str))=false:=by decide) (he:starEach (.Name x px :: es) X.env=(false,eval (.Name x px) X.env) :: starEach es X.env:=by rfl) (hpl:(backTo cpos (starEach es X.env)).any (·.1)=false:=by rfl)
  (hs:swapsWith (.Call (.Name nm pp) (.Name x px :: es) [] cpos) none pos.line X.env=pure false:=by rfl) :
  DS M X (.Expr (.Call (.Name nm pp) (.Name x px :: es) [] cpos) pos) (eO n' i b al):=λhK hM =>
 psI (nH (AS G hr hg hm hk hb hx v ha hK hM hdb he hpl) hs) λ_ _ _ z=>Ew (fun ρ ys q=>by rw [hA ρ ys q]) z
theorem mM {mt:Str} (hT:∀C,nsIn M.K mainGlobals nm=some (some (.ref C))->∃f,HasM X.prog X.w M.K M.mg X.base CX k mt C f (spP M.K (m+1) n' b)) (hr:Room k X.A) (hx:Passes CX X M.E) (v:PE X (.Name x px) (fm i)) (ha:DA M X (e :: es) al) (hA:AL al m) (hst:starEach (e :: es) X.env=(false,eval e X.env) :: starEach es X.env:=by rfl) (hpl:(backTo cpos (starEach es X.env)).any (·.1)=false:=by rfl) (ht:eval (.Call (.Attribute (.Name x px) mt apos) (e :: es) [] cpos) X.env=(do
   let ov <-eval (.Name x px) X.env
   standAt apos.atName
   let (f,first) <-holding [ov] (getMethod ov mt pl)
   callWith cpos f first (backTo cpos (starEach (e :: es) X.env)) (backToKw cpos (keywordEach [] X.env))):=by rfl) (hs:swapsWith (.Call (.Attribute (.Name x px) mt apos) (e :: es) [] cpos) none pos.line X.env=pure false:=by rfl) :
  DS M X (.Expr (.Call (.Attribute (.Name x px) mt apos) (e :: es) [] cpos) pos) (kK nm mt n' i b al):=λhK hM=>by
 have q:=vy (CX:=CX) (k:=k) (E:=M.E) v hr hx (ha hK hM) hst hpl ht;rw [hK,hM]at q;exact psI (nH q hs) λ_ _ _ z=>Ej (fun ρ ys q=>by rw [hA ρ ys q]) hT z
theorem En (hC:nsIn M.K mainGlobals x=some (some (.ref C))) (Mk:Mk M.K C f) (F:FnOk X.prog X.w M.K M.mg X.base CX k f fd ps (spP M.K (m+1) n' b)) (hr:Room (k+1) X.A) (hg:Gl X x) (hm:M.mg x=some (.ref C)) (hb:Binds M.K fd ps []) (hx:Passes CX X M.E) (ha:DA M X (e :: es) al) (hA:AL al m) (hdb:(x == ("__debug__" : Str))=false:=by decide) (he:starEach (e :: es) X.env=(false,eval e X.env) :: starEach es X.env:=by rfl) (hpl:(backTo pos (starEach es X.env)).any (·.1)=false:=by rfl) :
  DE M X (.Call (.Name x p) (e :: es) [] pos) (sQ x n' b al):=λhK hM=>by
 have F':FnOk X.prog X.w X.K X.mg X.base CX k f fd ps (spP M.K (m+1) n' b):=by
  rw [hK,hM];exact F
 exact peI (Ea (by rw [hK];exact Mk) F' hr hg (by rw [hM];exact hm) (by rw [hK];exact hb) .nil hx (ha hK hM) hdb he hpl) λ_ _ _ q=>Gh hC (fun ρ ys q=>by rw [hA ρ ys q]) q
theorem zC {mt:Str} (he:PE X o ta) (hr:Room k X.A) (hx:Passes CX X E) (ht:eval (.Call (.Attribute o mt apos) [] [] pos) X.env=(do
   let ov <-eval o X.env
   standAt apos.atName
   let (f,first) <-holding [ov] (getMethod ov mt pl)
   callWith pos f first (backTo pos (starEach [] X.env)) (backToKw pos (keywordEach [] X.env))):=by rfl) :
  PE X (.Call (.Attribute o mt apos) [] [] pos) (tE (HasM X.prog X.w X.K X.mg X.base CX k mt) mt E ta qM):=by
 intro pins s σ H Q I h;refine PySem.W.methodCall_KW (pl:=pl) (thn (he pins s σ H _ I h) λu s1 ⟨x,H1,I1,rx,a,C,dx,fs,f,sp,ex,ea,hm,l,q⟩=>?_) ht
 subst ex;obtain rfl:u=Value.ref a:=rx;obtain ⟨fd,ps,F,hb⟩:=hm.f;refine rq I1 ea hm.c hm.m l ?_;exact PySem.W.callWith_K0 (first:=[.ref a]) I1.kIn hm.m.kp (xb (us:=[.ref a]) (vs:=[.ref a]) (dvs:=[]) (ds:=[]) F hr hb .nil hx I1 (.cons rfl .nil) q)
theorem iW {mt:Str} (hT:∀C nm fn,nsIn M.K mainGlobals nm=some (some (.ref C))->tb nm=some fn->∃f,HasM X.prog X.w M.K M.mg X.base CX k mt C f (sp3 M.K M.mg fn)) (hr:Room k X.A) (hx:Passes CX X M.E) (he:DE M X o fa) (ht:eval (.Call (.Attribute o mt apos) [] [] pos) X.env=(do
   let ov <-eval o X.env
   standAt apos.atName
   let (f,first) <-holding [ov] (getMethod ov mt pl)
   callWith pos f first (backTo pos (starEach [] X.env)) (backToKw pos (keywordEach [] X.env))):=by rfl) :
  DE M X (.Call (.Attribute o mt apos) [] [] pos) (bG tb mt fa ag):=λhK hM=>by
 have q:=zC (CX:=CX) (k:=k) (E:=M.E) (he hK hM) hr hx ht;rw [hK,hM]at q;exact peI q fun σ H Q z=>by
  obtain ⟨F,ρ,fp,S,p⟩:=AG hT z;refine ⟨F,ρ,fp,S,p.mono λx px v F1 H1 fx e1 r1 w1=>?_⟩
  obtain ⟨a,C,dx,fs,f,sp,e1,e2,e3,e4,e5⟩:=px v F1 H1 fx e1 r1 w1;exact ⟨a,C,dx,fs,f,sp,e1,e2,e3,e4,CS e5⟩
theorem Ar {bx:M2} {c jj:Nat} {p2 p3 p4:Pos} (v:PE X (.Name x p) (fm i)) (hb:DE M X bx fb) (h:DE M X e fa) (hix:jS (.Constant (.int (c:Int)) jj p4):=λ_ _=>rfl)
  (hs:swapsWithSole [.Subscript (.Subscript (.Name x p) (.Constant (.int (c:Int)) jj p4) p3) bx p2] e pos.line X.env=pure false:=by rfl) (hw:swappedStores [.Subscript (.Subscript (.Name x p) (.Constant (.int (c:Int)) jj p4) p3) bx p2] e X.env=pure none:=by rfl)
  (ha:∀v,assign (.Subscript (.Subscript (.Name x p) (.Constant (.int (c:Int)) jj p4) p3) bx p2) X.env v=(do
   let ov <-holding [v] (eval (.Subscript (.Name x p) (.Constant (.int (c:Int)) jj p4) p3) X.env)
   let iv <-holding [v,ov] (eval bx X.env)
   standAt p2
   holding [v,ov,iv] (setItem ov iv v)
   release [v,ov,iv] []):=by intro _;rfl) (h1:(assignEach [.Subscript (.Subscript (.Name x p) (.Constant (.int (c:Int)) jj p4) p3) bx p2] X.env).map (·.2)=[assign (.Subscript (.Subscript (.Name x p) (.Constant (.int (c:Int)) jj p4) p3) bx p2) X.env]:=by rfl) :
  DS M X (.Assign [.Subscript (.Subscript (.Name x p) (.Constant (.int (c:Int)) jj p4) p3) bx p2] e pos) (rJ i c fb fa):=λhK hM =>
 psI (xf (h hK hM) (Ax (su (lH M.K hK) v (nW (i:=(c:Int)) (j:=jj) (pos:=p4)) hix) (hb hK hM) set_list ha) hs hw h1) λ_ _ _ q=>EW q
end
section
end
section
end
section
end
section
end
theorem GV {Pr:Str->α->Prop}:∀c b,List.lookup c ([]:List (Str×α))=some b->Pr c b:=λ_ _ h=>by cases h
theorem pK {α:Type} {Pr:Str->α->Prop} {a:Str} {b0:α} {l:List (Str×α)} (h:Pr a b0) (r:∀c b,l.lookup c=some b->Pr c b):∀c b,((a,b0) :: l).lookup c=some b->Pr c b:=λc b q=>by
 rw [Z2]at q;split at q
 ·rename_i e
  cases q;rw [beq_iff_eq.mp e];exact h
 ·exact r c b q
section
end
section
variable {g:Is}
end
def Mh:Fb:=λ_=>.bad
section
theorem sf:PSs X ss uQ:=λ_ _ _ _ _ _ h=>h.elim
theorem GB:DB M X f ss Mh:=λ_ _=>⟨_,sf,λD _ σ H h=>by
 obtain ⟨F,ρ,fp,S,p⟩:=h;exact p.elim⟩
end
theorem uK {K:At} {Pr:Is->Prop} (a:nsIn K mainGlobals x=some (some (.ref c))) (h:Pr c):∀C,nsIn K mainGlobals x=some (some (.ref C))->Pr C:=λC e=>by
 rw [a]at e;cases e;exact h
section
variable {ρ:Env} {i n w:Nat} {tb:Str->Bool} {f nm:Str} {b:Fb}
def JS (tb:Str->Bool) (f:Str):Option (Option OD)->R OD
 |some (some (.oi p nm ds))=>match b9 f (ds.map λq=>(.tuple [.str q.1],q.2)) with
  |some d=>if tb nm=true then .ok (.sh d) else .bad
  |none=>.bad
 |_=>.bad
theorem C3:gh i tb f ρ=JS tb f ρ[i]?:=rfl
def yE (i:Nat) (tb:Str->Bool) (f:Str) (ρ:Env) (y:OD):Option (Option OD)->R Out
 |some (some (.oi p nm ds))=>if tb nm=true/\ds.length<1000 then .ok (.nx (ρ.set i (some (.oi p nm (bO f y.er ds))))) else .bad
 |_=>.bad
theorem BJ:mh i tb f a ρ=unK (λy=>yE i tb f ρ y ρ[i]?) (a ρ):=b_ _ _
theorem BI (h:tb nm=true) (hl:ds.length<1000):yE i tb f ρ y (some (some (.oi p nm ds)))=.ok (.nx (ρ.set i (some (.oi p nm (bO f y.er ds))))):=N1 ⟨h,hl⟩
def F8 (i:Nat) (fa:Fe) (ρ:Env):Option (Option OD)->R OD
 |some (some (.oi p nm ds))=>unK (λy=>if Ki y=true then .ok y else .bad) (fa (ρ.set i (some (.sh (mG nm ds)))))
 |_=>.bad
theorem C2:nu i a ρ=F8 i a ρ ρ[i]?:=by
 unfold nu F8;generalize ρ[i]?=o
 rcases tF (β:=Nat) o with rfl | rfl | ⟨d,rfl⟩ | ⟨xs,rfl⟩ | ⟨xs,rfl⟩ | ⟨xs,rfl⟩ | ⟨p,nm,xs,rfl⟩ | ⟨c,xs,rfl⟩ <;> first | rfl | exact b_ _ _
theorem wB:Cc a ρ=unK (λx=>.ok (ρ,x)) (a ρ):=b_ _ _
def Fw (b:Fb):Out->R (Env×OD)
 |.nx ρ'=>b ρ'
 |_=>.bad
theorem jL:dc s b ρ=unK (Fw b) (s ρ):=by
 unfold dc;cases s ρ with
 |ok o=>cases o <;> rfl
 |ex c=>rfl
 |bad=>rfl
theorem jJ:Fw b (.nx ρ')=b ρ':=rfl
theorem sy:bNx ρ=.ok (ρ,.sh .none):=rfl
theorem FZ:bIf t b1 b2 ρ=unK (λc=>if c=true then b1 ρ else b2 ρ) (t ρ):=b_ _ _
end
def qD:List (Gc×Gc)->Option (List Gc)
 |[]=>some []
 | (.int i,_) :: r=>(qD r).map (.int i :: ·)
 | (.str x,_) :: r=>(qD r).map (.str x :: ·)
 |_ :: _=>none
def Ai:List Gc->R OD
 |[.dict kvs]=>(match qD kvs with
  |some ks=>.ok (.ol (ks.map OD.sh))
  |none=>.bad)
 |_=>.bad
def La:List V->Hp->VK->Prop:=λxs H Q=>∃a kvs,xs=[.ref a]/\H a=some (.dK kvs)/\∀l,H l=none->Q (.ref l) (upd H l (.lst (kvs.map λp=>kV p.1)))
theorem mZ:∀kvs:List (Key×Gc),qD (kvs.map λp=>(kD p.1,p.2))=some (kvs.map λp=>kD p.1)
 |[]=>rfl
 | (.inl i,d) :: r=>by
  rw [Zw,Zw];show (qD (r.map λp=>(kD p.1,p.2))).map _=_
  rw [mZ r];rfl
 | (.inr x,d) :: r=>by
  rw [Zw,Zw];show (qD (r.map λp=>(kD p.1,p.2))).map _=_
  rw [mZ r];rfl
theorem DP (kvs:List (Key×Gc)):Ai [dD kvs]=.ok (.ol ((kvs.map λp=>kD p.1).map OD.sh)):=by
 show (match qD (kvs.map λp=>(kD p.1,p.2)) with
  |some ks=>R.ok (OD.ol (ks.map OD.sh))
  |none=>.bad)=_
 rw [mZ]
theorem ze:∀{k:Key} {v:Db} (h:pQ k v=true),RelV (kV k) v
 |.inl i,v,h=>by
  obtain ⟨t,e⟩:=Value.isInt_shape (k:=i) (v:=v) h;exact ⟨t,e⟩
 |.inr x,v,h=>by
  obtain ⟨t,e⟩:=Value.isStrOf_shape (x:=x) (v:=v) h;exact ⟨t,e⟩
section
variable {X:Cx}
theorem Dj (hl:us.length=vs.length) (h:∀(i:Nat) v u,vs[i]?=some v->us[i]?=some u->RelV v u):Vals vs us:=by
 induction vs generalizing us with
 |nil =>
  cases us with
  |nil=>exact .nil
  |cons u us=>simp at hl
 |cons v vs ih =>
  cases us with
  |nil=>simp at hl
  |cons u us=>exact .cons (h 0 v u rfl rfl) (ih (by simpa using hl) λi v' u' a b=>h (i+1) v' u' (by simpa using a) (by simpa using b))
theorem BC (hc:X.calm=true):dR X (.type "list") La:=by
 intro pins s σ H xs us Q I r h;obtain ⟨a,kvs,rfl,ha,q⟩:=h;obtain ⟨u,rfl,ru⟩:=Vals.one r;cases ru;obtain ⟨hz,lo,vs,r',hd⟩:=(show kvs.length<=sizeLine/\(a == sysModules)=false/\∃vs,KV kvs vs/\s.heap.DictOf (cB X.prog X.w) a vs from I.hok a _ ha)
 obtain ⟨ep,hda⟩:=hd.dictAt;have hk:=KV.keys r';have hlen:vs.length=kvs.length:=by
  have:=Yl List.length hk;rw [Zy,Zy]at this;exact this.symm
 refine PySem.W.kdl_call (PySem.W.kdl_dict (knd:=cB X.prog X.w) (kvs:=vs) (ep:=ep) lo) (I.ok.hd hc) hda (by lia) λh' tk acc' c' kp e hacc=>?_
 refine ⟨.ref s.heap.objs.size,_,I.laid (t':=tk) kp (Zi _) (show cT X.prog X.w _ h' _ (.lst (kvs.map λp=>kV p.1)) from ⟨by rw [Zy];exact hz,acc'.toList,c',?_,e⟩),rfl,q _ (I.hok.fresh (Zi _))⟩
 refine Dj (by rw [Xx,hacc.1,Zy,hlen]) λi v u hv hu=>?_
 rw [Zx]at hv;obtain ⟨p,hp,rfl⟩:=ZB.mp hv;obtain ⟨k,x,hkx,his⟩:=hacc.2 i u (by simpa using hu)
 have e1:(kvs.map (·.1))[i]?=(vs.map (·.1))[i]?:=by rw [hk]
 rw [Zx,Zx,hp,hkx]at e1;have e2:p.1=k:=Yv e1;rw [e2];exact ze his
theorem IH:OkC M La Ai:=by
 intro x dx F H fp Q s rx p;unfold Ai at p;split at p
 ·rename_i kvs
  cases rx with
  |cons h1 h2 =>
   cases h2;generalize hdd:PyData.dict kvs=d at h1
   cases h1 with
   |@dct a kv ds ha hk hr =>
    unfold dD at hdd;cases hdd;rw [mZ]at p;refine ⟨a,kv,rfl,s _ _ ha,λl hl=>?_⟩
    have e:(kv.map λp=>kV p.1)=(ds.map λp=>kV p.1):=by
     have:=Yl (List.map kV) hk;rw [Yu,Yu]at this;exact this
    rw [e];refine OkE.lstD s p ?_ hl;clear p ha hk hr e
    induction ds with
    |nil=>exact .nil
    |cons q r ih =>
     refine .cons ?_ ih;show Rep M.K F (kV q.1) (kD q.1)
     cases q.1 with
     |inl i=>exact .int i
     |inr x=>exact .str x
   |@ins a C dx fs nm ds ha hk hr =>
    unfold mG at hdd;cases hdd;exact p.elim
   |non=>cases hdd
   |bl _=>cases hdd
   |int _=>cases hdd
   |str _=>cases hdd
   |lst _ _=>cases hdd
   |tup _ _=>cases hdd
 ·exact p.elim
end
open Classical in
section
end
section
end
def Hd (X:Cx) (ea:Is) (oe:Obj):Cx:={ X with calm:=false,pn:=(ea,oe) :: X.pn }
def FP (P:St->Prop) (vs:List V):TS:=λD σ H=>P σ/\∀H1 p,ax H H1->H1 p=none->D.rt (.ref p) (upd H1 p (.lst vs))
structure KindsOk (P:Do) (w:Ev) (K:At) (mg:Str->Ch) (base:N0) (f:Is) (fd:Fk) (ps:List Str) (C:Is) (vs:List V):Prop where
 run:∀(A:Go) (outer:List PySem.Env) (s:Da) (H:Hp) (args:Args) (ea:Is) (oe:Obj) (Q:VK),A.depth<recursionLimit->Env0 P w K mg base A outer s H->BindsTo s fd args (ps.zip [.ref ea])->s.heap.get? ea=some oe->oe.cls=.ref C->H ea=none->ea∉frs outer->(∀v,oe.data≠.cell v) ->
  (∀H1 p,ax H H1->H1 p=none->Q (.ref p) (upd H1 p (.lst vs)))->codeAny (model P w) A (.call (.ref f) args) (CR CX0 outer P w H s Q E0) s
theorem kinds_of {K:At} {st:Ix} (F:Fun K x qual st f fd) (S:FnScope [pn,qn] [pn] (ah st)) (h:∀(cdv:Db) (A:Go) (outer:List PySem.Env) (s:Da) (H:Hp) (ea:Is) (oe:Obj),oe.cls=.ref C->PSs (Hd (mI CX0 P w K mg base [pn,qn] qual (ah st) f cdv A outer s H E0) ea oe) (d6 st) (FP (fun σ=>σ[0]?=some (some (.ref ea))/\1<σ.length) vs)) :
    KindsOk P w K mg base f fd [pn] C vs:=by
  obtain ⟨oc,od,kV,doc,pm,an,cdv,ct,osl,rfl,lk,hcd⟩:=F.ex;refine ⟨λA outer s H args ea oe Q hr e0 hb hea hoc hH hfo hcl hq=>?_⟩
  have KX:K.In s.heap:=e0.mod.kin.keeps λb o e=>(e0.bs b o e).1
  have lim:s.heap.NoLimit:=e0.mod.nolimit.keeps λb o e=>(e0.bs b o e).1
  have hkind:∀y∈([pn]:List Str).zip [Value.ref ea],(ah st).names.lookup y.1=some .local\/((ah st).names.lookup y.1=some .cell/\((cellsFrom (s.heap.objs.size+1) (ah st).names []).lookup y.1).isSome=true):=λ⟨n,v⟩ hy=>by
    rcases S.par n (Vw hy).1 with q | q
    · exact .inl q
    · exact .inr ⟨q,Wk _ _ _ (.inl q)⟩
  refine codeAny_call_function hr (KX _ _ lk) rfl S.co S.gen rfl (PySem.W.codeRec_of KX hcd) (hb _ _ _ _ ?_);refine wpAny_newFunctionEnv_cells S.kind hkind λenv he s1 x=>?_
  subst he;refine ⟨lim.keeps x.toInCall.keep,codeAny_func ?_⟩;have e0':Env0 P w K mg base { A with handled:=none } outer s H:=⟨e0.frames,e0.mod,e0.bs,e0.bsz,e0.funs,e0.frf,e0.hok,e0.bare⟩
  have I:Inv (mI CX0 P w K mg base [pn,qn] qual (ah st) f cdv { A with handled:=none } outer s H E0) [] (L2.start [pn,qn] [.ref ea]) H s1:=r_ S rfl e0' rfl (.cons rfl .nil) x
  have hlt:ea<s.heap.objs.size:=Zg hea;have I2:Inv (Hd (mI CX0 P w K mg base [pn,qn] qual (ah st) f cdv A outer s H E0) ea oe) [] (L2.start [pn,qn] [.ref ea]) H s1 :=
    ⟨⟨I.ok.mod,I.ok.kind,I.ok.glob,I.ok.blt,I.ok.above,I.ok.inj,I.ok.has,I.ok.cab,λz=>(by cases z),I.ok.frames,I.ok.stk,I.ok.exf,I.ok.bs,I.ok.bsz,I.ok.noex,I.ok.exfs,I.ok.funs,I.ok.frf⟩,
      I.os,I.bare,I.base,I.loc,I.cell,I.free,I.freeC,λp m=>by
        have m':p∈[(ea,oe)]:=by simpa [Hd,mI]using m
        cases Y9.mp m';exact ⟨I.base.keep ea oe hea hH hfo (by show ea∉([]:List Is);simp),hH,Ys hlt,hfo,hcl⟩,I.hok,I.len⟩
  refine Xp (h cdv A outer s H ea oe hoc [] s1 (L2.start [pn,qn] [.ref ea]) H { nx:=λ_ _=>False,rt:=Q } I2 ⟨⟨rfl,show 1<2 by decide⟩,hq⟩) (λfl s' hs=>?_) λe s' hs=>hs
  cases fl with
  |ret u =>
    obtain ⟨v,σ',H',J,rv,q⟩:=hs;exact ⟨v,H',J.os,J.bare,J.base,J.hok,rv,q⟩
  |next =>
    obtain ⟨σ',H',J,q⟩:=hs;exact False.elim q
  |brk =>
    obtain ⟨_,_,_,q⟩:=hs;exact False.elim q
  |cont =>
    obtain ⟨_,_,_,q⟩:=hs;exact False.elim q
def rE (P:L2.St->Prop) (bs:List Bool):TA:=fun σ H Q=>P σ/\∀H',ax H H'->Q (bs.map V.bl) H'
section
variable {X:Cx} {bs cs:List Bool} {p1 p2 p3 p4 p5 q1 q2:Pos}
theorem lA:PA X [] (rE P []):=paI fW fun σ H Q q=>q.2 H (ax.refl _)
theorem aJ (h:PE X e (tB P b)) (r:PA X es (rE P bs)) (hs:starEach (e :: es) X.env=(false,eval e X.env) :: starEach es X.env:=by rfl):PA X (e :: es) (rE P (b :: bs)) :=
 paI (bB h r hs) fun σ H Q q=>⟨q.1,λH1 s1=>⟨q.1,λH2 s2=>q.2 H2 (s1.trans s2)⟩⟩
theorem gQ (hN:X.N.Nodup) (hj:X.N[1]?=some kn) (hx:Loc X.env.scope kn) (hv:Vis X.env.scope kn) (h1:PA X l1 (rE (fun σ=>σ[0]?=some (some (.ref ea))/\1<σ.length) bs)) (h2:PA X l2 (rE (fun σ=>σ[0]?=some (some (.ref ea))/\1<σ.length) cs)) (hl:bs.length+cs.length<=100) (hd:(kn == ("__debug__" : Str))=false:=by decide) (hcd:(kn == ("__classdict__" : Str))=false:=by decide) (hs:swapsWith (.List l1 p2) (some (.Name kn p1)) q1.line X.env=pure false:=by rfl) (hf:X.fn kn=true\/X.env.scope.names.lookup kn=some .local:=by first | exact .inl rfl | exact .inr rfl | assumption) :
  PSs X [.Assign [.Name kn p1] (.List l1 p2) q1,.Return (some (.BinOp (.Name kn p3) .Add (.List l2 p4) q2)) p5] (FP (fun σ=>σ[0]?=some (some (.ref ea))/\1<σ.length) ((bs++cs).map V.bl)):=by
 refine Ha (ni (wz hN hj hx (ub h1) hs hf) (pD (oR (E9 xP (aK hj hv hd hcd) (ub h2))))) λD σ H q=>?_
 obtain ⟨⟨P0,P1⟩,k⟩:=q;have sz:100<=sizeLine:=by decide
 refine ⟨⟨P0,P1⟩,λH1 s1=>⟨by rw [Zy];lia,λa ha=>?_⟩⟩
 have P2:(σ.set 1 (some (V.ref a)))[0]?=some (some (.ref ea))/\1<(σ.set 1 (some (V.ref a))).length:=⟨by rw [Yi (by decide)];exact P0,by rw [Y3];exact P1⟩
 refine ⟨_,Ym P1,P2,λH2 s2=>⟨by rw [Zy];lia,λc hc=>?_⟩⟩
 have ha2:H2 a=some (.lst (bs.map V.bl)):=s2 a _ aE;have hac:a≠c:=λz=>by subst z;rw [ha2]at hc;cases hc
 refine ⟨a,c,_,_,rfl,rfl,RdK.of (by rw [av hac];exact ha2),RdK.of aE,by rw [Zy,Zy];lia,λd hd=>?_⟩
 rw [<-Zh];refine k _ d ((s1.trans ((ax.refl _).upd ha)).trans (s2.trans ((ax.refl _).upd hc))) hd
end
section
variable {X:Cx} {pins:List (Is×Obj)} {σ:L2.St} {H':Hp} {C ea f:Is} {fd:Fk} {n x y pn:Str} {hpos p p2 cp ap yp:Pos} {Q:Flow->Da->Prop} {E:Db->Da->Prop} {i j k:Nat} {vs:List V}
theorem jU (W:KindsOk X.prog X.w X.K X.mg X.base f fd [pn] C vs) (hr:Room k X.A) (hg:Gl X x) (hm:X.mg x=some (.ref f)) (hk:keepIn X.K (.ref f)=true) (hb:Binds X.K fd [pn] []) (hst:X.stack=X.env :: X.outer) (hfe:X.env.frame=some X.env.locals)
  (hca:X.calm=true->X.A.handled=none) (hfr:X.A.frames=some X.stack) (hN:X.N.Nodup) (hi:X.N[i]?=some n) (hl:X.env.scope.names.lookup n=some .local) (hj:X.N[j]?=some y) (hly:X.env.scope.names.lookup y=some .local) (hij:i≠j) (hlen:σ.length=X.N.length)
  (hq:∀H1 p s'',ax H' H1->H1 p=none->Inv X pins ((σ.set j (some (.ref p))).set i none) (upd H1 p (.lst vs)) s''->Q .next s'')
  (hd:(x == ("__debug__" : Str))=false:=by decide) (hdn:(n == ("__debug__" : Str))=false:=by decide) (hcd:(n == ("__classdict__" : Str))=false:=by decide)
  (he:starEach [.Name n p2] X.env=(false,eval (.Name n p2) X.env) :: starEach [] X.env:=by rfl) (hpl:(backTo cp (starEach [] X.env)).any (·.1)=false:=by rfl)
  (hs:swapsWith (.Call (.Name x p) [.Name n p2] [] cp) (some (.Name y yp)) ap.line X.env=pure false:=by rfl) :
  ∀s5,(∀(Q':Unit->Da->Prop) (E'':Db->Da->Prop),(∀oe s6,oe.cls=.ref C->Inv (cxM X ea oe) pins σ H' s6->Q' () s6)->wpAny (model X.prog X.w) (X.A.mark (some (.ref ea))) (setFlight (.ref ea) none) Q' E'' s5) ->
    codeAny (model X.prog X.w) (X.A.mark (some (.ref ea))) (.handlers (.ref ea) [.ExceptHandler none (some n) [.Assign [.Name y yp] (.Call (.Name x p) [.Name n p2] [] cp) ap] hpos] X.env) (λr s₂=>match r with
     |.ok f=>wpAny (model X.prog X.w) X.A (do bindName X.env n .none;unbindBehindTheSuite X.env n hpos) (λ_ s₃=>Q f s₃) E s₂
     |.error x=>cameBackBy (model X.prog X.w) X.A X.env E x s₂) s5:=by
 intro s5 hset;have iL:i<σ.length:=by rw [hlen];exact sF hi
 refine codeAny_handlers_suite_as (hset _ _ λoe s6 hoc I6=>?_)
 refine jB (X:=cxM X ea oe) I6 hN hi (.inl hl) (v:=.ref ea) (u:=.ref ea) rfl (λs7 I7=>?_) (.inr hl)
 have pr:PS (cxM X ea oe) (.Assign [.Name y yp] (.Call (.Name x p) [.Name n p2] [] cp) ap) (sY (fun σ H Q=>σ[i]?=some (some (.ref ea))/\∀H1 p,ax H H1->H1 p=none->Q (.ref p) (upd H1 p (.lst vs))) (si j)):=by
  refine wz (X:=cxM X ea oe) hN hj (.inl hly) ?_ hs (.inr hly);intro pins2 s σ2 H Q2 I h;refine Xk (kJ I hg hm ?_ hd);refine Ws (h₀:=X.base) I.ok.mod.kin hk (thn (bB (X:=cxM X ea oe) (aK hi (Or.inl hl) hdn hcd) fW he cp pins2 s σ2 H (λvs2 H2=>vs2=[V.ref ea]/\H2=H) I ⟨_,h.1,rfl,rfl⟩) λus s1 ⟨vs2,H1,I1,r,q⟩=>⟨I1.kIn,?_⟩) he hpl
  obtain ⟨rfl,rfl⟩:=q;obtain ⟨u,rfl,ru⟩:=Vals.one r;cases (show u=Value.ref ea from ru)
  obtain ⟨k1,k2,k3,k4,k5⟩:=I1.pin (ea,oe) (Zm _ Zz);have nf:ea∉frs (cxM X ea oe).stack:=λz=>by
   have z':ea∈frs X.stack:=z;rw [hst,lB hfe]at z';rcases Xz.mp z' with z' | z'
   ·exact k3 z'
   ·exact k4 z'
  have bd:=hb s1 [Value.ref ea] I1.kIn rfl;refine wpAny_call (Wn (W.run (X.A.mark (some (.ref ea))) X.stack s1 H1 ⟨[.ref ea],[]⟩ ea oe Q2 hr.depth I1.mC bd k1 hoc k2 nf k5 h.2) λr s' hz=>?_)
  cases r with
  |error e=>exact False.elim hz
  |ok fl =>
   cases fl with
   |ret u=>exact I1.after hz
   |next=>exact False.elim hz
   |brk=>exact False.elim hz
   |cont=>exact False.elim hz
 refine Xp (pD pr pins s7 (σ.set i (some (.ref ea))) H' ⟨fun σ2 H2=>∃H1 p,ax H' H1/\H1 p=none/\σ2=(σ.set i (some (.ref ea))).set j (some (.ref p))/\H2=upd H1 p (.lst vs),λ_ _=>False,λ_ _=>False,λ_ _=>False⟩ I7
  ⟨Ym iL,λH1 p a b=>⟨H1,p,a,b,rfl,rfl⟩⟩) (λfl s8 q=>?_) λ_ _ z=>z.elim
 cases fl with
 |next =>
  obtain ⟨_,_,I8,H1,pp,sm,hn1,rfl,rfl⟩:=q;have I9:=Bf hca hfr I8;show wpAny _ _ _ _ _ _
  refine Zr (wpAny_bindName (jB I9 hN hi (.inl hl) (v:=.non) (u:=.none) rfl (λs10 I10=>?_) (.inr hl)))
  unfold unbindBehindTheSuite;refine wpAny_onRaise (yX (v:=.non) I10 hN hi hl (Ym (by rw [Y3,Y3];exact iL)) λs11 I11=>hq H1 pp s11 sm hn1 ?_)
  rw [List.set_set,List.set_comm _ _ hij,List.set_set]at I11;exact I11
 |ret u =>
  obtain ⟨_,_,_,_,_,z⟩:=q;exact z.elim
 |brk =>
  obtain ⟨_,_,_,z⟩:=q;exact z.elim
 |cont =>
  obtain ⟨_,_,_,z⟩:=q;exact z.elim
end
def xV (fn:Fn) (al:Fa) (ok:L3.Env->Bool) (j:Nat) (tbl:List (Str×List Bool)):Fs:=fun ρ=>(al ρ).bind λxs=>match fn (xs.map OD.er) with
 |.ok _=>.ok (.nx ρ)
 |.ex c=>(match tbl.lookup c with
  |some bs=>if ok ρ=true then .ok (.nx (ρ.set j (some (.sh (.list (bs.map PyData.bool)))))) else .bad
  |none=>.bad)
 |.bad=>.bad
theorem sG {K:At} {F:Hp}:∀bs:List Bool,RepAll K F (bs.map V.bl) (bs.map PyData.bool)
 |[]=>.nil
 |b :: bs=>.cons (.bl b) (sG bs)
section
variable {M:Mx} {X:Cx} {p pos cpos epos hpos np:Pos} {tbl:List (Str×List Bool)}
theorem DK (F:FnOk X.prog X.w M.K M.mg X.base (CXE X.prog X.w) k f fd ps (sp3 M.K M.mg fn)) (hr:Room k X.A) (hg:Gl X x) (hm:M.mg x=some (.ref f)) (hk:keepIn M.K (.ref f)=true) (hb:Binds M.K fd ps [])
  (ha:∀xe,DA M { X with xe:=xe } (e :: es) al) (hst:X.stack=X.env :: X.outer) (hfr:X.env.frame=some X.env.locals)
  (hD:excIn M.K D vE vN=true) (hgD:Gl X dx) (hmD:M.mg dx=some (.ref D)) (hj:j<X.N.length)
  (hT:∀c bs,tbl.lookup c=some bs->∃C,M.mg c=some (.ref C)/\subIn M.K (.ref C) (.ref D)=some true /\
   ∀(pins:List (Is×Obj)) (σ:St) (H':Hp) (ea:Is) (Q:Flow->Da->Prop) (E:Db->Da->Prop),(X.calm=true->X.A.handled=none)->X.A.frames=some X.stack->σ.length=X.N.length ->
    (∀σ' H1 p s'',ax H' H1->H1 p=none->Inv X pins σ' (upd H1 p (.lst (bs.map V.bl))) s''->(∀K F H ρ g,ok ρ=true->OwnS K F H (σ.set j (some (.ref p))) ρ g->OwnS K F H σ' ρ g)->Q .next s'') ->
    ∀s5,(∀(Q':Unit->Da->Prop) (E'':Db->Da->Prop),(∀oe s6,oe.cls=.ref C->Inv (cxM X ea oe) pins σ H' s6->Q' () s6)->wpAny (model X.prog X.w) (X.A.mark (some (.ref ea))) (setFlight (.ref ea) none) Q' E'' s5) ->
    codeAny (model X.prog X.w) (X.A.mark (some (.ref ea))) (.handlers (.ref ea) [.ExceptHandler none nm (b0 :: suite) hpos] X.env) (λr s₂=>match r with
     |.ok f=>(match nm with
      |none=>Q f s₂
      |some n=>wpAny (model X.prog X.w) X.A (do bindName X.env n .none;unbindBehindTheSuite X.env n hpos) (λ_ s₃=>Q f s₃) E s₂)
     |.error x=>cameBackBy (model X.prog X.w) X.A X.env E x s₂) s5)
  (hok:∀(ρ:L3.Env) v,ok (ρ.set j v)=ok ρ)
  (hd:(x == ("__debug__" : Str))=false:=by decide) (hdD:(dx == ("__debug__" : Str))=false:=by decide)
  (he:starEach (e :: es) X.env=(false,eval e X.env) :: starEach es X.env:=by rfl) (hpl:(backTo cpos (starEach es X.env)).any (·.1)=false:=by rfl)
  (hs:swapsWith (.Call (.Name x p) (e :: es) [] cpos) none epos.line X.env=pure false:=by rfl) :
  DS M X (.Try [.Expr (.Call (.Name x p) (e :: es) [] cpos) epos] [.ExceptHandler (some (.Name dx np)) nm (b0 :: suite) hpos] [] [] pos) (xV fn al ok j tbl):=λhK hM pins s σ H D' I q=>by
 obtain ⟨F0,ρ,fp,S,pq⟩:=q;refine wpAny_Try_except (wpAny_execs_cons ?_);have F':FnOk X.prog X.w X.K X.mg X.base (CXE X.prog X.w) k f fd ps (sp3 M.K M.mg fn):=by
  rw [hK,hM];exact F
 refine wpAny_Expr_any ?_ I.quiet hs;refine Xk (kJ I hg (by rw [hM];exact hm) ?_ hd)
 refine Ws (h₀:=X.base) (K:=X.K) I.ok.mod.kin (by rw [hK];exact hk) ?_ he hpl
 have pa:=ha (λe s₁=>wpAny (model X.prog X.w) X.A (noteFrame e X.env) (λ_ s₂=>wpAny (model X.prog X.w) X.A (setFlight e none) (λ_ s₃=>wpAny (model X.prog X.w) X.A (handleBy e X.env [.ExceptHandler (some (.Name dx np)) nm (b0 :: suite) hpos]) (SP X pins D') X.xe s₃) X.xe s₂) X.xe s₁) hK hM
 refine thn (pa cpos pins s σ H (λvs H1=>∃G1 ds,Ext F0 H G1 H1/\RepAll M.K G1 vs ds/\aq M H1 fp (dF M X.N.length G1 H1 fp D') (match fn ds with
   |.ok _=>.ok (.nx ρ)
   |.ex c=>(match tbl.lookup c with
    |some bs=>if ok ρ=true then .ok (.nx (ρ.set j (some (.sh (.list (bs.map PyData.bool)))))) else .bad
    |none=>.bad)
   |.bad=>.bad)) (FA I) ⟨F0,ρ,fp,S,(aq.bind pq).mono λxs px vs F1 H1 fx e1 r1 w1=>?_⟩) λus s1 hz=>?_
 ·obtain ⟨G1,d1,k1⟩:=r1.frz e1 w1
  exact ⟨G1,xs.map OD.er,d1,k1,(px.ext d1).mono λo ho=>dF.stp d1.stp ho⟩
 ·obtain ⟨vs,H1,I1',r1,G1,ds,d1,k1,px⟩:=hz
  have I1:Inv X pins σ H1 s1:=qY I1';have S1:=S.ext d1;refine ⟨I1.kIn,?_⟩;have hsp:sp3 M.K M.mg fn vs H1 (λ_ H2=>(∃z,fn ds=.ok z)/\∃G2,Ext G1 H1 G2 H2) (λcls _ H2=>(∃c b,fn ds=.ex c/\tbl.lookup c=some b/\M.mg c=some cls)/\ax H1 H2):=by
   refine ⟨G1,ds,d1.fh,k1,?_⟩;cases hf:fn ds with
   |ok z=>exact λv F' H' fx e _ _=>⟨⟨z,rfl⟩,F',e⟩
   |bad =>
    rw [hf]at px;exact px.elim
   |ex c =>
    rw [hf]at px;cases hc:tbl.lookup c with
    |none =>
     simp only [hc]at px;exact px.elim
    |some b =>
     obtain ⟨C,hC,_⟩:=hT c b hc;exact ⟨.ref C,hC,λod H2 hk=>⟨⟨c,b,rfl,hc,hC⟩,λa o z=>hk a o z (by simp)⟩⟩
  have hl:(us++[]).length=ps.length:=by
   rw [Zc,<-r1.length];exact F.len _ _ _ _ hsp
  have hbd:=hb s1 us (hK▸I1.kIn) hl;rw [Zc]at hbd;refine wpAny_call (Wn (F'.run X.A X.stack s1 H1 ⟨us,[]⟩ us vs _ _ hr I1.mC hbd r1 hsp) λr s2 hq=>?_)
  cases r with
  |error ev =>
   have hq':CXE X.prog X.w X.stack H1 s1 (λcls _ H2=>(∃c b,fn ds=.ex c/\tbl.lookup c=some b/\M.mg c=some cls)/\ax H1 H2) ev s2:=hq
   refine Dp I1 hq' hst hfr (by rw [hK];exact hD) hgD (by rw [hM];exact hmD) hdD λea cls H' _ hE=>?_
   obtain ⟨⟨c,b,hfn,hc,hmc⟩,same⟩:=hE;obtain ⟨C,hC,hsub,hh⟩:=hT c b hc;rw [hC]at hmc;cases hmc;refine ⟨C,rfl,by rw [hK];exact hsub,λs5 hset=>hh pins σ H' ea _ _ I1.ok.hd I1.ok.frames I1.len (fun σ' H2 p2 s'' sm hn J hown=>?_) s5 hset⟩
   rw [hfn]at px;simp only [hc]at px;split at px
   ·rename_i hO
    have hn1:H1 p2=none:=by
     cases z:H1 p2 with
     |none=>rfl
     |some o =>
      rw [sm _ _ (same _ _ z)]at hn;cases hn
    have gn:G1 p2=none:=by
     cases z:G1 p2 with
     |none=>rfl
     |some o =>
      rw [d1.fh _ _ z]at hn1;cases hn1
    have up:ax H1 (upd H2 p2 (.lst (b.map V.bl))):=λa o z=>by
     rw [av (λy=>by subst y;rw [hn1]at z;cases z)]
     exact sm _ _ (same _ _ z)
    have gf:ax G1 (upd G1 p2 (.lst (b.map V.bl))):=λa o z=>by
     rw [av (λy=>by subst y;rw [gn]at z;cases z)]
     exact z
    have fh:ax (upd G1 p2 (.lst (b.map V.bl))) (upd H2 p2 (.lst (b.map V.bl))):=λa o z=>by
     by_cases ha:a=p2
     ·subst ha
      rw [aE]at z ⊢;exact z
     ·rw [av ha]at z ⊢
      exact sm _ _ (same _ _ (d1.fh _ _ z))
    have nw:∀a,H1 a≠none->G1 a=none->upd G1 p2 (.lst (b.map V.bl)) a=none:=λa z1 z3=>by
     rw [av (λy=>by subst y;exact z1 hn1)]
     exact z3
    have e2:Ext G1 H1 (upd G1 p2 (.lst (b.map V.bl))) (upd H2 p2 (.lst (b.map V.bl))):=⟨gf,up,fh,nw⟩;obtain ⟨fp',S3,sub⟩:=(S1.ext e2).set hj (Res.sh (K:=M.K) (F:=upd G1 p2 (.lst (b.map V.bl))) (H:=upd H2 p2 (.lst (b.map V.bl))) (.lst (RdK.of aE) (sG b))) λ_ m=>by cases m
    exact ⟨σ',upd H2 p2 (.lst (b.map V.bl)),J,px σ' (upd G1 p2 (.lst (b.map V.bl))) (upd H2 p2 (.lst (b.map V.bl))) fp' ⟨S3.same,hown _ _ _ _ _ (by rw [hok];exact hO) S3.own,S3.nd,S3.fr,S3.len⟩ ⟨gf,λa o z _=>up a o z,λa m=>.inl ((sub a m).elim id λz=>by cases z),λa z1 _ z3=>nw a z1 z3⟩⟩
   ·exact px.elim
  |ok fl =>
   cases fl with
   |ret u =>
    obtain ⟨v,H2,J,_,⟨z,hf⟩,G2,e2⟩:=I1.after hq;rw [hf]at px;exact X7 (X7 ⟨σ,H2,J,px σ G2 H2 fp (S1.ext e2) e2.stp⟩)
   |next=>exact False.elim hq
   |brk=>exact False.elim hq
   |cont=>exact False.elim hq
end
section
variable {K:At} {F H:Hp}
def Put (K:At) (F H:Hp) (u:V) (f:List Is) (F' H':Hp) (y':OD) (f':List Is):Prop:=Own K F' H' u y' f'/\f'.Nodup/\(∀a∈f',F' a=none)/\Stp F H f F' H' f'
theorem BL {mk:List OD->OD} {g:List Is} (hb:H b=some (.lst ws)) (hw:OwnL K F H ws ys g) (nd:(b :: g).Nodup) (fr:∀a∈b :: g,F a=none) (hk:ys[k]?=some y) (hmk:∀F' H' vs' xs' g',H' b=some (.lst vs')->OwnL K F' H' vs' xs' g'->Own K F' H' (.ref b) (mk xs') (b :: g')) :
  ∃u f2,ws[k]?=some u/\Res K F H u y f2/\b∉f2/\∀F' H' y' f2',Put K F H u f2 F' H' y' f2'->∃f',Put K F H (.ref b) (b :: g) F' H' (mk (ys.set k y')) f':=by
 obtain ⟨u,f2,k1,k2,b1,b2,rfl,b4⟩:=hw.at hk;have nd0:=nd;rw [Xn]at nd;have nd1:((b :: k1)++(f2++k2)).Nodup:=by simpa using nd0
 have nd2:=nd.2;simp only [Yx,Z5]at nd2;obtain ⟨n1,⟨n2,n3,n4⟩,n5⟩:=nd2;have bn:b∉f2:=λz=>nd.1 (by simp [z])
 refine ⟨u,f2,b1,⟨b2,n2,λa m=>fr a (by simp [m])⟩,bn,λF' H' y' f2' ⟨o,nf,ff,st⟩=>?_⟩
 have out:∀a∈k1++k2,a∉f2:=λa m z=>by
  rcases Z5.mp m with m | m
  ·exact n5 a m a (.inl z) rfl
  ·exact n4 a z a m rfl
 have own:=b4 F' H' st.ff (λa m o q=>st.keep a o q (out a m)) u y' f2' o
 have hset:ws.set k u=ws:=by
  apply Yo
  intro j;by_cases hj:k=j
  ·subst hj
   rw [b1,Ym (ZA.mp b1).1]
  ·rw [Yi hj]
 rw [hset]at own;have hs:∀c∈f2',c∈f2\/c∉(b :: k1)++(f2++k2):=λc m=>by
  rcases st.new c m with z | z
  ·exact .inl z
  ·refine .inr λw=>?_
   have w':c=b\/c∈k1++(f2++k2):=by simpa using w
   rcases w' with rfl | w'
   ·rw [z]at hb;cases hb
   ·obtain ⟨o,q⟩:=hw.dom c w'
    rw [z]at q;cases q
 refine ⟨b :: (k1++(f2'++k2)),hmk _ _ _ _ _ (st.keep b _ hb bn) own,by have:=gz nd1 nf hs;simpa using this,λa m=>?_,⟨st.ff,λa o q m=>st.keep a o q λz=>m (by simp [z]),λa m=>?_,λa q m z=>st.nw a q (λw=>m (by simp [w])) z⟩⟩
 ·have go:(a=b\/a∈k1++k2)->F' a=none:=λm=>by
   rcases m with rfl | m
   ·exact st.nw a (bg hb) bn (fr a (by simp))
   ·obtain ⟨o,q⟩:=hw.dom a (by simp at m ⊢;rcases m with m | m <;> simp [m])
    exact st.nw a (bg q) (out a m) (fr a (by simp at m ⊢;rcases m with m | m <;> simp [m]))
  have m':a=b\/a∈k1\/a∈f2'\/a∈k2:=by simpa using m
  rcases m' with m | m | m | m
  ·exact go (.inl m)
  ·exact go (.inr (by simp [m]))
  ·exact ff a m
  ·exact go (.inr (by simp [m]))
 ·have m':a=b\/a∈k1\/a∈f2'\/a∈k2:=by simpa using m
  rcases m' with m | m | m | m
  ·exact .inl (by simp [m])
  ·exact .inl (by simp [m])
  ·rcases st.new a m with z | z
   ·exact .inl (by simp [z])
   ·exact .inr z
  ·exact .inl (by simp [m])
theorem Gj (r:Res K F H (.ref b) (.ol ys) f) (hk:ys[k]?=some y) :
  ∃ws u f2,H b=some (.lst ws)/\ws.length=ys.length/\ws[k]?=some u/\Res K F H u y f2/\b∉f2/\∀F' H' y' f2',Put K F H u f2 F' H' y' f2'->∃f',Put K F H (.ref b) f F' H' (.ol (ys.set k y')) f':=by
 have nd:=r.nd;have fr:=r.fr;have ro:=r.own;cases ro with
 |@ol _ ws _ g hb hw =>
  obtain ⟨u,f2,h1,h2,h3,h4⟩:=BL (mk:=OD.ol) hb hw nd fr hk λ_ _ _ _ _ q r=>.ol q r
  exact ⟨ws,u,f2,hb,hw.len,h1,h2,h3,h4⟩
variable {ρ:L3.Env}
theorem Stt.inP (S:Stt K n F H σ ρ fp) (hx:ρ[i]?=some (some (.pl l xs))) (hc:xs[c]?=some y) :
  ∃vs u f,σ[i]?=some (some (.ref l))/\H l=some (.lst vs)/\vs.length=xs.length/\vs[c]?=some u/\Res K F H u y f/\l∉f /\
   ∀F' H' y' f',ax F' H'->Put K F H u f F' H' y' f'->∃fp',Stt K n F' H' σ (ρ.set i (some (.pl l (xs.set c y')))) fp'/\Stp F H fp F' H' fp':=by
 obtain ⟨v,f0,h1,r,sub,wr⟩:=S.swap hx;have nd:=r.nd;have fr:=r.fr;have ro:=r.own;cases ro with
 |@pl _ vs _ g ha hv =>
  obtain ⟨u,f2,q1,q2,q3,q4⟩:=BL (mk:=OD.pl l) ha hv nd fr hc λ_ _ _ _ _ q r=>.pl q r
  refine ⟨vs,u,f2,h1,ha,hv.len,q1,q2,q3,λF' H' y' f' sm pt=>?_⟩
  obtain ⟨f1,o,nf,ff,st⟩:=q4 F' H' y' f' pt;obtain ⟨fp',S',st',_⟩:=wr F' H' _ f1 sm o nf ff st;exact ⟨fp',S',st'⟩
end
def Kj:V->List V->Hp->VK->Prop:=λx vs H Q=>∃(l:Is) (xs:List V) (k:Nat) (y:V),x=.ref l/\vs=[.int (k:Int),y]/\H l=some (.lst xs)/\k<=xs.length/\xs.length<1000000/\Q .non (upd H l (.lst (xs.take k++y :: xs.drop k)))
section
theorem yU:MtM X "list.insert" Kj:=by
 intro pins s σ H x vs v us Q I rx rv h;obtain ⟨l,xs,k,y,rfl,rfl,hH,hk,hz,q⟩:=h;cases rx;obtain ⟨u1,u2,rfl,⟨t,rfl⟩,ru⟩:=Vals.two rv;obtain ⟨z,its,n,r,hl,e⟩:=I.lstM hH;have hsz:its.length<=sizeLine:=by rw [<-hl];exact z
 have hlen:its.length=xs.length:=r.length.symm;have big:1000001<=sizeLine:=by rw [W5];decide
 have main:∀x:Int,x=(k:Int)->wpAny (model X.prog X.w) X.A (call (.builtin "list.insert") [.ref l,.int x t,u2]) (EP X pins σ Q) X.xe s:=λx hx=>by
  have fits:Builtin.List.listFitsIndex x=true:=by
   unfold Builtin.List.listFitsIndex;rw [Yy,Zk,Zk];exact ⟨by lia,by lia⟩
  have hc0:¬(!Builtin.List.listFitsIndex x)=true:=by rw [fits];decide
  have hs1:its.toArray.size<=sizeLine:=by rw [Z0];exact hsz
  have hm:=PySem.AutoSeq1.list_insert_list_int_val_1 l its.toArray n x t u2 hc0 hs1;refine W9 F.slot_list_insert ⟨_,e,rfl⟩ F.entry_list_insert (F.args_list_insert_3 _ _ _) hm ⟨e,?_⟩;refine ⟨.non,_,I.lset (its':=its.take k++u2 :: its.drop k) hH e ?_ ?_ ?_,rfl,q⟩
  ·have e1:¬(x<0):=by lia
   have e2:x.toNat=k:=by lia
   simp only [e1,if_false,e2];apply Array.ext'
   simp [hlen,Xu hk]
   exact Y4 (by rw [Y2];lia)
  ·exact (r.take k).append (.cons ru (r.drop k))
  ·rw [Zv,Zp,Ze,Y2]
   lia
 exact main _ rfl
end
def AZ (K:At):V->List V->Hp->VK->Prop:=λx vs H Q=>∃(l b:Is) (xs zs:List V),x=.ref l/\vs=[.ref b]/\H l=some (.lst xs)/\RdK K H b zs/\xs.length+zs.length<=sizeLine/\Q .non (upd H l (.lst (xs++zs)))
theorem Ef:MtM X "list.extend" (AZ X.K):=by
 intro pins s σ H x vs v us Q I rx rv h;obtain ⟨l,b,xs,zs,rfl,rfl,hH,hB,hz,q⟩:=h;cases rx;obtain ⟨u,rfl,ru⟩:=rv.one;cases ru;obtain ⟨z,its,n,r,hl,e⟩:=I.lstM hH;obtain ⟨z2,its2,n2,r2,hl2,e2⟩:=hB.obj I;have hsz:its.toArray.size+its2.toArray.size<=sizeLine:=by rw [Z0,Z0];lia
 have hlong:¬(!its.toArray.isEmpty && Builtin.List.listTooLong (its.toArray.size+its2.toArray.size))=true:=by
  rw [vK hsz,Bool.and_false];exact Zo
 refine W9 F.slot_list_extend ⟨_,e,rfl⟩ F.entry_list_extend (F.args_list_extend_2 _ _)
  (AutoSeq1.list_extend_list_list_0 l its.toArray n b its2.toArray n2 hlong (by rw [Z0];lia) (by lia)) ⟨e,e2,?_⟩
 refine ⟨.non,_,I.lset (its':=its++its2) hH e (by simp) (r.append r2) ?_,rfl,q⟩
 rw [Zv]
 lia
def la (i c:Nat) (a:Fe):Fs:=fun ρ=>match ρ[i]? with
 |some (some (.pl l xs))=>(match xs[c]? with
  |some (.ol ys)=>(a ρ).bind λy=>(match y.er with
   |.list ds=>if ys.length+ds.length<=BIG then .ok (.nx (ρ.set i (some (.pl l (xs.set c (.ol (ys++ds.map OD.sh))))))) else .bad
   |_=>.bad)
  |_=>.bad)
 |_=>.bad
section
variable {M:Mx}
theorem Stt.listP {F:Hp} (S:Stt M.K n F H σ ρ fp) (hx:ρ[i]?=some (some (.pl l xs))) (hc:xs[c]?=some (.ol ys)) :
  ∃vs b ws g,σ[i]?=some (some (.ref l))/\H l=some (.lst vs)/\vs[c]?=some (.ref b)/\H b=some (.lst ws)/\OwnL M.K F H ws ys g/\(b :: g).Nodup/\(∀a∈b :: g,F a=none) /\
   ∀F' H' y' f',ax F' H'->Put M.K F H (.ref b) (b :: g) F' H' y' f'->∃fp',Stt M.K n F' H' σ (ρ.set i (some (.pl l (xs.set c y')))) fp'/\Stp F H fp F' H' fp':=by
 obtain ⟨vs,u,f,h1,h2,h3,h4,r,h5,wr⟩:=S.inP hx hc;have nd:=r.nd;have fr:=r.fr;have ro:=r.own;cases ro with
 |@ol b ws _ g hb hw=>exact ⟨vs,b,ws,g,h1,h2,h4,hb,hw,nd,fr,wr⟩
theorem Hj (h:tS M n (la i c a) D σ H):nF (tBM M.K "list" (AZ M.K) (tOp (u7 M.K) (fm i) (tC (.int (c:Int)))) (e8 (tD M n a) qM)) D σ H:=by
 obtain ⟨F,ρ,fp,S,p⟩:=h;unfold la at p;split at p
 ·rename_i l xs e
  split at p
  ·rename_i ys hy
   obtain ⟨vs,b,ws,g,h1,h2,h4,hb,hw,nd,fr,_⟩:=S.listP e hy;refine ⟨_,h1,l,vs,(c:Int),.ref b,rfl,rfl,SqL.of h2,bt h4,.inl ⟨rfl,ws,SqL.of hb⟩,F,ρ,fp,S,(aq.bind p).mono λy py v F2 H2 fy e2 r2 w2=>?_⟩
   obtain ⟨G2,d2,k2⟩:=r2.frz e2 w2;generalize y.er=dy at py k2
   cases k2 with
   |@lst a' zs ds q1 q2 =>
    have py':aq M H fp (dF M n F H fp D) (if ys.length+ds.length<=BIG then .ok (.nx (ρ.set i (some (.pl l (xs.set c (.ol (ys++ds.map OD.sh))))))) else .bad):=py
    split at py'
    ·rename_i hlt
     obtain ⟨vs',b',ws',g',h1',h2',h4',hb',hw',nd',fr',wr⟩:=(S.ext d2).listP e hy;have eb:b'=b:=by
      have z1:=d2.hh _ _ h2;rw [h2']at z1;cases z1;rw [h4']at h4;injection h4 with h4
      injection h4
     subst eb;have gb:G2 b'=none:=fr' b' Zz;have bn:b'∉g':=(Xn.mp nd').1;refine ⟨b',a',ws',zs,rfl,rfl,hb',q1.same d2.fh,by rw [hw'.len,RepAll.len q2];exact kT hlt,?_⟩
     have sm:ax G2 (upd H2 b' (.lst (ws'++zs))):=λx o z=>by
      rw [av (λw=>by subst w;rw [gb]at z;cases z)]
      exact d2.fh _ _ z
     have o:OwnL M.K G2 (upd H2 b' (.lst (ws'++zs))) (ws'++zs) (ys++ds.map OD.sh) (g'++[]):=(hw'.mono (ax.refl _) λx m o z=>by
      rw [av (λw=>bn (by rw [<-w];exact m))]
      exact z).app (OwnL.shs q2)
     rw [Zc]at o;obtain ⟨fp',S',st⟩:=wr G2 (upd H2 b' (.lst (ws'++zs))) (.ol (ys++ds.map OD.sh)) (b' :: g') sm ⟨.ol aE o,nd',fr',⟨ax.refl _,λx o z m=>by
      rw [av (λw=>m (by rw [w];exact Zz))]
      exact z,λx m=>.inl m,λ_ _ _ z=>z⟩⟩
     exact py' σ G2 _ fp' S' (d2.stp.trans st)
    ·exact py'.elim
   |non=>exact py.elim
   |bl _=>exact py.elim
   |int _=>exact py.elim
   |str _=>exact py.elim
   |dct _ _ _=>exact py.elim
   |ins _ _=>exact py.elim
   |tup _ _=>exact py.elim
  ·exact p.elim
 ·exact p.elim
end
def qQ (i c:Nat) (k p a:Fe):Fs:=fun ρ=>match ρ[i]? with
 |some (some (.pl l xs))=>(match xs[c]? with
  |some (.ol ys)=>(k ρ).bind λz=>(match z.er with
   |.int q=>(match ixN ys.length q with
    |some j=>(match ys[j]? with
     |some (.ol zs)=>(p ρ).bind λw=>(match w.er with
      |.int m=>if 0<=m/\m<=zs.length/\zs.length<1000000 then (a ρ).bind λy=>.ok (.nx (ρ.set i (some (.pl l (xs.set c (.ol (ys.set j (.ol (zs.take m.toNat++.sh y.er :: zs.drop m.toNat)))))))))
       else .bad
      |_=>.bad)
     |_=>.bad)
    |none=>.bad)
   |_=>.bad)
  |_=>.bad)
 |_=>.bad
section
variable {M:Mx}
theorem Stt.listP2 {F:Hp} (S:Stt M.K n F H σ ρ fp) (hx:ρ[i]?=some (some (.pl l xs))) (hc:xs[c]?=some (.ol ys)) (hj:ys[j]?=some (.ol zs)) :
  ∃vs b ws b2 us g2,σ[i]?=some (some (.ref l))/\H l=some (.lst vs)/\vs[c]?=some (.ref b)/\H b=some (.lst ws)/\ws.length=ys.length/\ws[j]?=some (.ref b2)/\H b2=some (.lst us)/\OwnL M.K F H us zs g2/\(b2 :: g2).Nodup/\(∀a∈b2 :: g2,F a=none) /\
   ∀F' H' y' f',ax F' H'->Put M.K F H (.ref b2) (b2 :: g2) F' H' y' f'->∃fp',Stt M.K n F' H' σ (ρ.set i (some (.pl l (xs.set c (.ol (ys.set j y')))))) fp'/\Stp F H fp F' H' fp':=by
 obtain ⟨vs,u,f,h1,h2,h3,h4,r,h5,wr⟩:=S.inP hx hc;have ro:=r.own;cases ro with
 |@ol b ws _ g hb hw =>
  obtain ⟨ws',u2,f2,k1,k2,k3,r2,k5,k6⟩:=Gj r hj;rw [hb]at k1;cases k1;have nd2:=r2.nd;have fr2:=r2.fr;have ro2:=r2.own;cases ro2 with
  |@ol b2 us _ g2 hb2 hw2 =>
   refine ⟨vs,b,ws,b2,us,g2,h1,h2,h4,hb,k2,k3,hb2,hw2,nd2,fr2,λF' H' y' f' sm pt=>?_⟩
   obtain ⟨f1,pt1⟩:=k6 F' H' y' f' pt;exact wr F' H' _ f1 sm pt1
theorem OwnL.take {K:At} {F H:Hp}:∀{vs:List V} {xs:List OD} {g:List Is} (k:Nat),OwnL K F H vs xs g->∃g1 g2,g=g1++g2/\OwnL K F H (vs.take k) (xs.take k) g1/\OwnL K F H (vs.drop k) (xs.drop k) g2
 |_,_,g,0,h=>⟨[],g,rfl,.nil,h⟩
 |_,_,_,_+1,.nil=>⟨[],[],rfl,.nil,.nil⟩
 |_,_,_,k+1,.cons (f:=f) (g:=g) o r=>by
  obtain ⟨g1,g2,rfl,q1,q2⟩:=OwnL.take k r;exact ⟨f++g1,g2,by rw [Yq],.cons o q1,q2⟩
theorem JB (h:tS M n (qQ i c k p a) D σ H):nF (tBM M.K "list" Kj (tOp (u7 M.K) (tOp (u7 M.K) (fm i) (tC (.int (c:Int)))) (tD M n k)) (e8 (tD M n p) (e8 (tD M n a) qM))) D σ H:=by
 obtain ⟨F,ρ,fp,S,pp⟩:=h;unfold qQ at pp;split at pp
 ·rename_i l xs e
  split at pp
  ·rename_i ys hy
   obtain ⟨vs,b,ws,g,h1,h2,h4,hb,hw,nd,fr,_⟩:=S.listP e hy;refine ⟨_,h1,l,vs,(c:Int),.ref b,rfl,rfl,SqL.of h2,bt h4,F,ρ,fp,S,(aq.bind pp).mono λz pz u F1 H1 fz e1 r1 w1=>?_⟩
   obtain ⟨G1,d1,k1⟩:=r1.frz e1 w1;generalize z.er=dz at pz k1
   cases dz with
   |int q =>
    cases k1;have pz':aq M H fp (dF M n F H fp D) (match ixN ys.length q with
     |some j=>(match ys[j]? with
      |some (.ol zs)=>(p ρ).bind λw=>(match w.er with
       |.int m=>if 0<=m/\m<=zs.length/\zs.length<1000000 then (a ρ).bind λy=>.ok (.nx (ρ.set i (some (.pl l (xs.set c (.ol (ys.set j (.ol (zs.take m.toNat++.sh y.er :: zs.drop m.toNat)))))))))
        else .bad
       |_=>.bad)
      |_=>.bad)
     |none=>.bad):=pz
    cases hj:ixN ys.length q with
    |none=>rw [hj]at pz';exact pz'.elim
    |some j =>
     rw [hj]at pz';have pz2:aq M H fp (dF M n F H fp D) (match ys[j]? with
      |some (.ol zs)=>(p ρ).bind λw=>(match w.er with
       |.int m=>if 0<=m/\m<=zs.length/\zs.length<1000000 then (a ρ).bind λy=>.ok (.nx (ρ.set i (some (.pl l (xs.set c (.ol (ys.set j (.ol (zs.take m.toNat++.sh y.er :: zs.drop m.toNat)))))))))
        else .bad
       |_=>.bad)
      |_=>.bad):=pz'
     split at pz2
     ·rename_i zs hz
      obtain ⟨vs1,b1,ws1,b2,us,g2,i1,i2,i3,i4,i5,i6,i7,_,_,_,_⟩:=(S.ext d1).listP2 e hy hz;have eb:b1=b:=by
       have z1:=d1.hh _ _ h2;rw [i2]at z1;cases z1;rw [i3]at h4;injection h4 with h4
       injection h4
      subst eb;have at1:atI ws1 q=some (.ref b2):=by
       unfold atI;rw [i5,hj];exact i6
      refine ⟨b1,ws1,q,.ref b2,rfl,rfl,SqL.of i4,at1,.inl ⟨rfl,us,SqL.of i7⟩,G1,ρ,fp,S.ext d1,((aq.bind pz2).ext d1).mono λw pw u2 F2 H2 fw e2 r2 w2=>?_⟩
      obtain ⟨G2,d2,k2⟩:=r2.frz e2 w2;generalize w.er=dw at pw k2
      cases dw with
      |int m =>
       cases k2;have pw':aq M H fp (dF M n F H fp D) (if 0<=m/\m<=zs.length/\zs.length<1000000 then (a ρ).bind λy=>.ok (.nx (ρ.set i (some (.pl l (xs.set c (.ol (ys.set j (.ol (zs.take m.toNat++.sh y.er :: zs.drop m.toNat)))))))))
        else .bad):=pw
       split at pw'
       ·rename_i hm
        refine ⟨G2,ρ,fp,(S.ext d1).ext d2,(((aq.bind pw').ext d1).ext d2).mono λy py v F3 H3 fy e3 r3 w3=>?_⟩
        obtain ⟨G3,d3,k3⟩:=r3.frz e3 w3;have d13:=(d1.trans d2).trans d3;obtain ⟨vs3,b3,ws3,b4,us3,g3,j1,j2,j3,j4,j5,j6,j7,hw3,nd3,fr3,wr⟩:=(S.ext d13).listP2 e hy hz;have e3b:b3=b1:=by
         have z1:=(d2.trans d3).hh _ _ i2;rw [j2]at z1;cases z1;rw [j3]at i3;injection i3 with i3
         injection i3
        subst e3b;have e4b:b4=b2:=by
         have z1:=(d2.trans d3).hh _ _ i4;rw [j4]at z1;cases z1;rw [j6]at i6;injection i6 with i6
         injection i6
        subst e4b;have gb:G3 b4=none:=fr3 b4 Zz;have bn:b4∉g3:=(Xn.mp nd3).1;have lu:us3.length=zs.length:=hw3.len;refine ⟨b4,us3,m.toNat,v,rfl,by rw [Wv hm.1],j7,by lia,by lia,?_⟩
        have sm:ax G3 (upd H3 b4 (.lst (us3.take m.toNat++v :: us3.drop m.toNat))):=λx o z=>by
         rw [av (λw=>by subst w;rw [gb]at z;cases z)]
         exact d3.fh _ _ z
        have hw4:=hw3.mono (H':=upd H3 b4 (.lst (us3.take m.toNat++v :: us3.drop m.toNat))) (ax.refl _) λx mm o z=>by
         rw [av (λw=>bn (by rw [<-w];exact mm))]
         exact z
        obtain ⟨ga,gc,hg,oa,oc⟩:=OwnL.take m.toNat hw4;have o:OwnL M.K G3 (upd H3 b4 (.lst (us3.take m.toNat++v :: us3.drop m.toNat))) (us3.take m.toNat++v :: us3.drop m.toNat) (zs.take m.toNat++OD.sh y.er :: zs.drop m.toNat) (ga++([]++gc)):=oa.app (.cons (.sh k3) oc);rw [Yf,<-hg]at o;obtain ⟨fp',S',st⟩:=wr G3 (upd H3 b4 (.lst (us3.take m.toNat++v :: us3.drop m.toNat))) (.ol (zs.take m.toNat++OD.sh y.er :: zs.drop m.toNat)) (b4 :: g3) sm ⟨.ol aE o,nd3,fr3,⟨ax.refl _,λx o z mm=>by
         rw [av (λw=>mm (by rw [w];exact Zz))]
         exact z,λx mm=>.inl mm,λ_ _ _ z=>z⟩⟩
        exact py σ G3 _ fp' S' (d13.stp.trans st)
       ·exact pw'.elim
      |none=>exact pw.elim
      |bool _=>exact pw.elim
      |str _=>exact pw.elim
      |list _=>exact pw.elim
      |tuple _=>exact pw.elim
      |dict _=>exact pw.elim
     ·exact pz2.elim
   |none=>exact pz.elim
   |bool _=>exact pz.elim
   |str _=>exact pz.elim
   |list _=>exact pz.elim
   |tuple _=>exact pz.elim
   |dict _=>exact pz.elim
  ·exact pp.elim
 ·exact pp.elim
end
section
variable {X:Cx} {x:Str} {p ap cp pos:Pos}
theorem t_ {c jj:Nat} {p2 p4:Pos} (i:Nat) (h:DE M X e fa) (hN:X.N[i]?=some x:=by rfl) (hv:Vis X.env.scope x:=by first | exact Or.inl rfl | exact Or.inr (Or.inl rfl) | exact Or.inr (Or.inr rfl)) (hd:(x == ("__debug__" : Str))=false:=by decide) (hcd:(x == ("__classdict__" : Str))=false:=by decide) (hix:jS (.Constant (.int (c:Int)) jj p4):=λ_ _=>rfl)
  (hbase:attributeBase (.Subscript (.Name x p) (.Constant (.int (c:Int)) jj p4) p2) "extend" X.env (eval (.Subscript (.Name x p) (.Constant (.int (c:Int)) jj p4) p2) X.env)=eval (.Subscript (.Name x p) (.Constant (.int (c:Int)) jj p4) p2) X.env:=by rfl)
  (hfew:((backTo cp (starEach [e] X.env)).all (λx=>!x.1) && (backToKw cp (keywordEach [] X.env)).all (λx=>x.1.isSome) && decide (([e]:List M2).length+([]:List Keyword).length+(if ([]:List Keyword).isEmpty then 0 else 1)<30))=true:=by rfl)
  (hline:(ap.endLine == cp.line)=true:=by rfl) (hs:starEach [e] X.env=(false,eval e X.env) :: starEach [] X.env:=by rfl) (hplain:(backTo cp (starEach [] X.env)).any (·.1)=false:=by rfl)
  (hsw:swapsWith (.Call (.Attribute (.Subscript (.Name x p) (.Constant (.int (c:Int)) jj p4) p2) "extend" ap) [e] [] cp) none pos.line X.env=pure false:=by rfl):DS M X (.Expr (.Call (.Attribute (.Subscript (.Name x p) (.Constant (.int (c:Int)) jj p4) p2) "extend" ap) [e] [] cp) pos) (la i c fa):=λhK hM =>
 Jf (r:=AZ M.K) PySem.F.slot_list_extend PySem.F.type_list_extend (by rw [<-hK];exact Ef) (su (lH M.K hK) (aK hN hv hd hcd) (nW (i:=(c:Int)) (j:=jj) (pos:=p4)) hix) (Ib h hs hK hM) (λ_ _ _ q=>Hj q) hbase hfew hline hs hplain hsw hK
theorem D6 {c jj:Nat} {p2 p3 p4:Pos} (i:Nat) (hb:DE M X b fb) (h:DE M X e fa) (h2:DE M X e2 fc) (hixb:jS b) (hN:X.N[i]?=some x:=by rfl) (hv:Vis X.env.scope x:=by first | exact Or.inl rfl | exact Or.inr (Or.inl rfl) | exact Or.inr (Or.inr rfl)) (hd:(x == ("__debug__" : Str))=false:=by decide) (hcd:(x == ("__classdict__" : Str))=false:=by decide) (hix:jS (.Constant (.int (c:Int)) jj p4):=λ_ _=>rfl)
  (hbase:attributeBase (.Subscript (.Subscript (.Name x p) (.Constant (.int (c:Int)) jj p4) p2) b p3) "insert" X.env (eval (.Subscript (.Subscript (.Name x p) (.Constant (.int (c:Int)) jj p4) p2) b p3) X.env)=eval (.Subscript (.Subscript (.Name x p) (.Constant (.int (c:Int)) jj p4) p2) b p3) X.env:=by rfl)
  (hfew:((backTo cp (starEach [e,e2] X.env)).all (λx=>!x.1) && (backToKw cp (keywordEach [] X.env)).all (λx=>x.1.isSome) && decide (([e,e2]:List M2).length+([]:List Keyword).length+(if ([]:List Keyword).isEmpty then 0 else 1)<30))=true:=by rfl)
  (hline:(ap.endLine == cp.line)=true:=by rfl) (hs:starEach [e,e2] X.env=(false,eval e X.env) :: starEach [e2] X.env:=by rfl) (hs2:starEach [e2] X.env=(false,eval e2 X.env) :: starEach [] X.env:=by rfl) (hplain:(backTo cp (starEach [e2] X.env)).any (·.1)=false:=by rfl)
  (hsw:swapsWith (.Call (.Attribute (.Subscript (.Subscript (.Name x p) (.Constant (.int (c:Int)) jj p4) p2) b p3) "insert" ap) [e,e2] [] cp) none pos.line X.env=pure false:=by rfl):DS M X (.Expr (.Call (.Attribute (.Subscript (.Subscript (.Name x p) (.Constant (.int (c:Int)) jj p4) p2) b p3) "insert" ap) [e,e2] [] cp) pos) (qQ i c fb fa fc):=λhK hM=>by
 have q:=B8 (apos:=ap) (cpos:=cp) Wp PySem.F.slot_list_insert PySem.F.type_list_insert yU (su (lH M.K hK) (su (lH M.K hK) (aK hN hv hd hcd) (nW (i:=(c:Int)) (j:=jj) (pos:=p4)) hix) (hb hK hM) hixb) (bB (h hK hM) (bB (h2 hK hM) fW hs2) hs) hbase hfew hline hs hplain;rw [hK]at q;exact psI (nH q hsw) λ_ _ _ z=>JB z
end
section
variable {ρ:L3.Env}
theorem wW (h0:ρ[i]?=some (some (.pl l xs))) (h1:xs[c]?=some (.ol ys)) (ha:a ρ=.ok y) (h2:y.er=.list ds) (h3:ys.length+ds.length<=BIG):la i c a ρ=.ok (.nx (ρ.set i (some (.pl l (xs.set c (.ol (ys++ds.map OD.sh))))))):=by
 unfold la;simp only [h0,h1,ha,aC,h2,N1 h3]
theorem H_ (h1:ρ[i]?=some (some (.pl l xs))) (h2:xs[c]?=some (.ol ys)) (h3:k ρ=.ok kz) (h4:kz.er=.int q) (h5:ixN ys.length q=some j) (h6:ys[j]?=some (.ol zs)) (h7:p ρ=.ok pz) (h8:pz.er=.int m) (h9:0<=m/\m<=zs.length/\zs.length<1000000) (ha:a ρ=.ok y) :
  qQ i c k p a ρ=.ok (.nx (ρ.set i (some (.pl l (xs.set c (.ol (ys.set j (.ol (zs.take m.toNat++.sh y.er :: zs.drop m.toNat))))))))):=by
 unfold qQ;simp only [h1,h2,h3,aC,h4,h5,h6,h7,h8,N1 h9,ha]
end
def uA (n i:Nat) (b:Fb) (al:Fa) (c:Int) (s1 s2:Fs):Fs:=fun ρ=>(p9 n i b al ρ).bind λr=>match r.2 with
 |.sh (.int k)=>if k≠c then s1 r.1 else s2 r.1
 |_=>.bad
section
variable {M:Mx}
theorem FV (hl:∀ρ ys,al ρ=.ok ys->ys.length+1=np) (P1 P2:Hp->Prop) (hp1:∀H,tS M n s1 D σ H->P1 H) (hp2:∀H,tS M n s2 D σ H->P2 H) (h:tS M n (uA n' i b al c s1 s2) D σ H) :
  xG (tOp rNe (vY (spP M.K np n' b) [] M.E (e8 (fm i) (tA M n al))) (tC (.int c))) σ H (λk H1=>if k=true then P1 H1 else P2 H1):=by
 obtain ⟨F,ρ,fp,S,p⟩:=h;obtain ⟨a,h1,h2⟩:=p_ (np:=np) (Q:=λv H1=>tC (.int c) σ H1 λy H2=>rNe v y H2 λx H3=>∃k,x=.bl k/\if k=true then P1 H3 else P2 H3) S (aq.bind p) (λr pr v F' H' fp' fy S' st ry _=>by
  have st':Stp F H fp F' H' fp':=st.sub λc m=>Zm _ m
  obtain ⟨ρ1,x1⟩:=r;split at pr
  ·rename_i k e1
   have e1:x1=.sh (.int k):=e1;subst e1;have ro:=ry.own;cases ro with
   |sh rr =>
    cases rr;refine ⟨rfl,_,rfl,?_⟩;have ed:(!decide (V.int k=V.int c))=decide (k≠c):=by
     by_cases z:k=c
     ·subst z;simp
     ·have:¬V.int k=V.int c:=λq=>z (by injection q)
      simp [z,this]
    rw [ed];by_cases z:k≠c
    ·rw [N1 (Za z)]
     rw [N1 z]at pr;exact hp1 _ ⟨F',ρ1,fp',S',PostS.stp st' pr⟩
    ·rw [N2 (by rw [Zq z];exact Zo)]
     rw [N2 z]at pr;exact hp2 _ ⟨F',ρ1,fp',S',PostS.stp st' pr⟩
  ·exact pr.elim) (hl ρ)
 refine ⟨.ref a,h1,?_⟩;obtain ⟨F2,ρ2,fp2,S2,p2⟩:=h2;refine ⟨F2,ρ2,fp2,S2,p2.mono λxs px vs F1 H1 fx e1 r1 w1=>?_⟩
 have:=px vs F1 H1 fx e1 r1 w1;show spP M.K np n' b ((V.ref a :: vs)++[]) H1 _ M.E
 rw [Zc];exact this
end
section
variable {M:Mx} {X:Cx} {g:Is}
theorem GQ (G:FnOk X.prog X.w M.K M.mg X.base CX k g fd ps (spP M.K (m+1) n' b)) (hr:Room k X.A) (hg:Gl X nm) (hm:M.mg nm=some (.ref g)) (hk:keepIn M.K (.ref g)=true) (hb:Binds M.K fd ps []) (hx:Passes CX X M.E) (v:PE X (.Name x px) (fm i)) (ha:DA M X es al) (hA:AL al m) (h1:DSs M X sa f1) (h2:DSs M X sb f2) (hdb:(nm == ("__debug__" : Str))=false:=by decide) (he:starEach (.Name x px :: es) X.env=(false,eval (.Name x px) X.env) :: starEach es X.env:=by rfl) (hpl:(backTo cpos (starEach es X.env)).any (·.1)=false:=by rfl) (hbm:behindInMarks .NotEq (.Constant (.int c) kk pw)=false:=by first | exact vS _ (by decide) (by decide) | rfl) :
  DS M X (.If (.Compare (.Call (.Name nm pp) (.Name x px :: es) [] cpos) [.NotEq] [.Constant (.int c) kk pw] apos) sa sb pos) (uA n' i b al c f1 f2):=λhK hM=>by
 have G':FnOk X.prog X.w X.K X.mg X.base CX k g fd ps (spP M.K (m+1) n' b):=by
  rw [hK,hM];exact G
 exact psI (yK (uL Aw (pF (ds:=[]) (dvs:=[]) G' hr hg (by rw [hM];exact hm) (by rw [hK];exact hk) (by rw [hK];exact hb) .nil hx (bB v (ha hK hM) he) hdb he hpl) nW hbm) (h1 hK hM) (h2 hK hM)) λD σ H z=>FV (fun ρ ys q=>by rw [hA ρ ys q]) (λH=>tS M X.N.length f1 D σ H) (λH=>tS M X.N.length f2 D σ H) (λ_ q=>q) (λ_ q=>q) z
theorem Dn (G:FnOk X.prog X.w M.K M.mg X.base CX k g fd ps (spP M.K (m+1) n' b)) (hr:Room k X.A) (hg:Gl X nm) (hm:M.mg nm=some (.ref g)) (hk:keepIn M.K (.ref g)=true) (hb:Binds M.K fd ps []) (hx:Passes CX X M.E) (v:PE X (.Name x px) (fm i)) (ha:DA M X es al) (hA:AL al m) (ht:DT M X t ft) (h1:DSs M X sa f1) (h2:DSs M X sb f2) (hdb:(nm == ("__debug__" : Str))=false:=by decide) (he:starEach (.Name x px :: es) X.env=(false,eval (.Name x px) X.env) :: starEach es X.env:=by rfl) (hpl:(backTo cpos (starEach es X.env)).any (·.1)=false:=by rfl) (hbm:behindInMarks .NotEq (.Constant (.int c) kk pw)=false:=by first | exact vS _ (by decide) (by decide) | rfl) :
  DS M X (.If (.BoolOp .Or [.Compare (.Call (.Name nm pp) (.Name x px :: es) [] cpos) [.NotEq] [.Constant (.int c) kk pw] apos,t] bp) sa sb pos) (uA n' i b al c f1 (sIf ft f1 f2)):=λhK hM=>by
 have G':FnOk X.prog X.w X.K X.mg X.base CX k g fd ps (spP M.K (m+1) n' b):=by
  rw [hK,hM];exact G
 refine psI (yK (FO (uL Aw (pF (ds:=[]) (dvs:=[]) G' hr hg (by rw [hM];exact hm) (by rw [hK];exact hk) (by rw [hK];exact hb) .nil hx (bB v (ha hK hM) he) hdb he hpl) nW hbm) (Cp (ht hK hM))).pt (h1 hK hM) (h2 hK hM)) λD σ H z=>?_
 exact FV (fun ρ ys q=>by rw [hA ρ ys q]) (λH=>if true=true then tS M X.N.length f1 D σ H else tS M X.N.length f2 D σ H) (λH=>tT M X.N.length ft σ H λc H1=>if c=true then tS M X.N.length f1 D σ H1 else tS M X.N.length f2 D σ H1) (λ_ q=>by rw [N1 rfl];exact q) (λ_ q=>Kx q) z
end
def kM:List Gc->R OD
 |[.int i,.int j]=>if 0<=i/\i<=65536/\0<=j/\j<=65536 then .ok (.ol ((((List.range' i.toNat (j-i).toNat).map λk:Nat=>(k:Int)).map PyData.int).map OD.sh)) else .bad
 |_=>.bad
def FC:List V->Hp->VK->Prop:=λxs H Q=>∃i j:Int,xs=[.int i,.int j]/\(0<=i/\i<=65536/\0<=j/\j<=65536)/\∀l,H l=none->Q (.ref l) (upd H l (.lst (((List.range' i.toNat (j-i).toNat).map λk:Nat=>(k:Int)).map V.int)))
section
variable {X:Cx}
theorem E3:OkC M FC kM:=by
 intro x dx F H fp Q s rx p;unfold kM at p;split at p
 ·cases rx with
  |cons h r =>
   cases r with
   |cons h' r' =>
    cases r';cases h;cases h';split at p
    ·rename_i hj
     exact ⟨_,_,rfl,hj,λl hl=>OkE.lstD s p (nz _) hl⟩
    ·exact p.elim
 ·exact p.elim
theorem zx (i j:Int):Builtin.Range.rangeSize i j 1=(((j-i).toNat:Nat):Int):=by rw [rangeSize_one];split <;> lia
theorem E2 (hc:X.calm=true) (hgl:Gl X "list") (hml:X.mg "list" = none) (hvl:bootBuiltins "list" = some (.type "list")) (hg:Gl X "range") (hm:X.mg "range" = none) (ha:PA X [a,b] ta) (hs:starEach [a,b] X.env=(false,eval a X.env) :: starEach [b] X.env:=by rfl) (hpl:(backTo pos2 (starEach [b] X.env)).any (·.1)=false:=by rfl) (hs2:starEach [Expr.Call (.Name "range" p2) [a,b] [] pos2] X.env=[(false,eval (Expr.Call (.Name "range" p2) [a,b] [] pos2) X.env)]:=by rfl) :
  PE X (.Call (.Name "list" p) [.Call (.Name "range" p2) [a,b] [] pos2] [] pos) (tCB FC ta):=by
 intro pins s σ H Q I h;refine Xk (gv I hgl hml hvl ?_);refine Yc ?_ hs2 rfl;rw [hs2];show wpAny _ _ (spliced ((false,eval (Expr.Call (.Name "range" p2) [a,b] [] pos2) X.env) :: backTo pos [])) _ _ s
 refine Calls.spliced_cons ?_;refine Call_ (gv I hg hm boot_range (Yc (thn (ha pos2 pins s σ H _ I h) λus s1 ⟨vs,H1,I1,r1,q1⟩=>?_) hs hpl))
 obtain ⟨i,j,e,⟨hi0,hi,hj0,hj⟩,q⟩:=q1;subst e;obtain ⟨u1,u2,rfl,⟨t1,rfl⟩,⟨t2,rfl⟩⟩:=Vals.two r1;refine call_range_2 ?_;refine Calls.spliced_nil ?_;have I2:Inv X pins σ H1 { s1 with heap:=s1.heap.push { cls:=.type "range",data:=.fields #[.int i t1,.int j t2,.int 1 s1.toks] },toks:=s1.toks+1 }:=I1.kept λb o e=>Zl _ e
 refine call_list_range (I.ok.hd hc) (IsRange.new ..) (small_one (by lia) (by lia) (by lia) (by lia)) (zx i j) (by lia) λh' tk acc c hk hS hI=>?_
 ·refine ⟨.ref _,_,I2.laid (t':=tk) (o:=.lst (((List.range' i.toNat (j-i).toNat).map λk:Nat=>(k:Int)).map V.int)) hk (Zi _) ⟨?_,acc.toList,c,?_,?_⟩,rfl,q _ (I2.hok.fresh (Zi _))⟩
  ·rw [Zy,Zy,Y7,W5]
   lia
  ·have k:=mB acc.toList i.toNat λm v hv=>by
    obtain ⟨t,ht⟩:=hI.2 m v (by rw [<-hv,Vs])
    exact ⟨t,by rw [ht];congr 1;lia⟩
   rw [Xx,hI.1]at k;rw [Yu];exact k
  ·rw [Vn]
   exact hS
theorem DV (hc:X.calm=true) (hgl:Gl X "list") (hml:X.mg "list" = none) (hvl:bootBuiltins "list" = some (.type "list")) (hg:Gl X "range") (hm:X.mg "range" = none) (ha:DA M X [a,b] al) (hs:starEach [a,b] X.env=(false,eval a X.env) :: starEach [b] X.env:=by rfl) (hpl:(backTo pos2 (starEach [b] X.env)).any (·.1)=false:=by rfl) (hs2:starEach [Expr.Call (.Name "range" p2) [a,b] [] pos2] X.env=[(false,eval (Expr.Call (.Name "range" p2) [a,b] [] pos2) X.env)]:=by rfl) :
  DE M X (.Call (.Name "list" p) [.Call (.Name "range" p2) [a,b] [] pos2] [] pos) (eB kM al):=λhK hM=>peI (E2 hc hgl hml hvl hg hm (ha hK hM) hs hpl hs2) λ_ _ _ q=>Ez E3 q
theorem I0 (h:0<=i/\i<=65536/\0<=j/\j<=65536):kM [.int i,.int j]=.ok (.ol ((((List.range' i.toNat (j-i).toNat).map λk:Nat=>(k:Int)).map PyData.int).map OD.sh)):=N1 h
end
def xt (a b c:Fe):Fe:=fun ρ=>(a ρ).bind λx=>(b ρ).bind λy=>match x.er,y.er with
 |.int i,.int j=>if i<=j then (c ρ).bind λz=>(match z.er with
  |.int k=>oB (decide (j<k))
  |_=>.bad) else oB false
 |_,_=>.bad
def KO (ta tb tc:TE):TE:=fun σ H Q=>ta σ H λx H1=>tb σ H1 λy H2=>∃i j,x=.int i/\y=.int j/\if i<=j then tc σ H2 λz H3=>∃k,z=.int k/\Q (.bl (decide (j<k))) H3 else Q (.bl false) H2
section
theorem JM (h:tD M n (xt fa fb fc) σ H Q):KO (tD M n fa) (tD M n fb) (tD M n fc) σ H Q:=by
 obtain ⟨F,ρ,fp,S,p⟩:=h;refine ⟨F,ρ,fp,S,(aq.bind p).mono λx px v F1 H1 fx e1 r1 w1=>?_⟩
 obtain ⟨G1,d1,k1⟩:=r1.frz e1 w1;refine ⟨G1,ρ,fp,S.ext d1,((aq.bind px).ext d1).mono λy py v2 F2 H2 fy e2 r2 w2=>?_⟩
 obtain ⟨G2,d2,k2⟩:=r2.frz e2 w2;have py2:=py.ext (d1.trans d2);split at py2
 ·rename_i i j hi hj
  rw [hi]at k1;rw [hj]at k2;cases k1;cases k2;refine ⟨i,j,rfl,rfl,?_⟩;split at py2
  ·rename_i hij
   rw [N1 hij];refine ⟨G2,ρ,fp,(S.ext d1).ext d2,(aq.bind py2).mono λz pz v3 F3 H3 fz e3 r3 w3=>?_⟩
   obtain ⟨G3,d3,k3⟩:=r3.frz e3 w3;split at pz
   ·rename_i k hk
    rw [hk]at k3;cases k3;exact ⟨k,rfl,OkE.val d3.fh (OkE.pre ((d1.trans d2).trans d3) pz) (.bl _)⟩
   ·exact pz.elim
  ·rename_i hij
   rw [N2 hij];exact OkE.val d2.fh (OkE.pre (d1.trans d2) py2) (.bl false)
 ·exact py2.elim
end
theorem Fh (h1:fa ρ=.ok x) (h2:x.er=.int i) (h3:fb ρ=.ok y) (h4:y.er=.int j) (h5:fc ρ=.ok z) (h6:z.er=.int k):xt fa fb fc ρ=.ok (.sh (.bool (decide (i<=j/\j<k)))):=by
 unfold xt;rw [h1,aC,h3,aC];simp only [h2,h4];by_cases hij:i<=j
 ·rw [N1 hij,h5,aC]
  simp only [h6];unfold oB;simp [hij]
 ·rw [N2 hij]
  unfold oB;simp [hij]
section
theorem GW (ha:PE X a ta) (hb:PE X b tb) (hc:PE X c tc) (hm:lastMarks [.LtE,.Lt] [b,c]=false:=by with_unfolding_all rfl):PT X (.Compare a [.LtE,.Lt] [b,c] pos) (xG (KO ta tb tc)):=by
 intro pins s σ H Q I h;refine isTrue_chain (thn (ha pins s σ H _ I h) λv s1 ⟨x,H1,I1,r1,q1⟩=>test_link (thn (hb pins s1 σ H1 _ I1 q1) λu s2 ⟨y,H2,I2,r2,q2⟩=>?_)) hm
 obtain ⟨i,j,rfl,rfl,q⟩:=q2;obtain ⟨t1,rfl⟩:=r1;obtain ⟨t2,rfl⟩:=r2;refine le_int (Xe ?_);by_cases hij:i<=j
 ·rw [N1 hij]at q
  rw [Za hij,N1 rfl];refine test_last (thn (hc pins s2 σ H2 _ I2 q) λz s3 ⟨w,H3,I3,r3,q3⟩=>?_)
  obtain ⟨k,rfl,kb,e,q3⟩:=q3;obtain ⟨t3,rfl⟩:=r3;refine lt_int (Xe ⟨H3,I3,?_⟩);injection e with e
  rw [e];exact q3
 ·rw [N2 hij]at q
  rw [Zq hij,N2 (by simp)]
  obtain ⟨kb,e,q⟩:=q;injection e with e
  rw [<-e]at q;exact ⟨H2,I2,q⟩
theorem Im (ha:DE M X a fa) (hb:DE M X b fb) (hc:DE M X c fc) (hm:lastMarks [.LtE,.Lt] [b,c]=false:=by with_unfolding_all rfl):DT M X (.Compare a [.LtE,.Lt] [b,c] pos) (ao (xt fa fb fc)):=λhK hM =>
 ptI (GW (ha hK hM) (hb hK hM) (hc hK hM) hm) fun σ H Q q=>by
  obtain ⟨F,ρ,fp,S,p⟩:=xn q;exact JM ⟨F,ρ,fp,S,p⟩
end
def mT (a:Fe) (i:Nat) (b:Fe):Fs:=fun ρ=>(a ρ).bind λy=>match ρ[i]? with
 |some (some x)=>(b ρ).bind λz=>.ok (.rt (.ol [y,x,z]))
 |_=>.bad
section
variable {X:Cx}
theorem B3 (h:tS M n (mT fa i fb) D σ H):CV (Hf (e8 (tD M n fa) (e8 (fm i) (e8 (tD M n fb) qM)))) D σ H:=by
 obtain ⟨F,ρ,fp,S,p⟩:=h;refine ⟨F,ρ,fp,S,(aq.bind p).mono λy py w F1 H1 fy e1 r1 w1=>?_⟩
 split at py
 ·rename_i x e
  obtain ⟨v,f,g1,g2,h1,h2,rfl,h4⟩:=S.own.at e;have sub:∀a∈f,a∈g1++(f++g2):=λa m=>Zt _ (Zm _ m)
  have fnd:f.Nodup:=by
   have nd:=S.nd;simp only [Yx]at nd;exact nd.2.1.1
  refine ⟨v,h1,F1,ρ,_,S.ext e1,((aq.bind py).ext e1).mono λz pz u F2 H2 fz e2 r2 w2=>⟨by show 3<=sizeLine;decide,λq hq=>?_⟩⟩
  have x1:Own M.K F2 H2 v x f:=(h2.mono e1.ff λa _ o z=>e1.hh _ _ z).mono e2.ff λa _ o z=>e2.hh _ _ z
  have y1:=r1.ext e2;have q1:q∉f:=λm=>by
   obtain ⟨o,z⟩:=x1.dom q m;rw [hq]at z;cases z
  have q2:q∉fy:=λm=>by
   obtain ⟨o,z⟩:=y1.own.dom q m;rw [hq]at z;cases z
  have q3:q∉fz:=λm=>by
   obtain ⟨o,z⟩:=r2.own.dom q m;rw [hq]at z;cases z
  have d1:∀a∈fy,a∉f:=λa z m=>by
   obtain ⟨o,u⟩:=h2.dom a m;rw [w1 a z]at u;cases u
  have d2:∀a∈fy,a∉fz:=λa z m=>by
   obtain ⟨o,u⟩:=r1.own.dom a z;rw [w2 a m]at u;cases u
  have d3:∀a∈f,a∉fz:=λa z m=>by
   obtain ⟨o,u⟩:=h2.dom a z;have:=e1.hh _ _ u;rw [w2 a m]at this;cases this
  have up:∀a o,H2 a=some o->upd H2 q (.lst [w,v,u]) a=some o:=λa o z=>by
   rw [av (aG z hq)];exact z
  have e12:=e1.trans e2;have nd:(q :: (fy++(f++(fz++[])))).Nodup:=by
   rw [Zc,Xn,Yx,Yx];refine ⟨λm=>(Z5.mp m).elim q2 λm=>(Z5.mp m).elim q1 q3,r1.nd,⟨fnd,r2.nd,λa ha b hb e=>d3 a ha (e▸hb)⟩,λa ha b hb e=>?_⟩
   rcases Z5.mp hb with m | m
   ·exact d1 a ha (e▸m)
   ·exact d2 a ha (e▸m)
  refine pz (.ref q) F2 (upd H2 q (.lst [w,v,u])) (q :: (fy++(f++(fz++[])))) (Ext.alloc e12.fh hq).fh ⟨.ol aE (.cons (y1.own.mono (ax.refl _) λa _ o z=>up a o z) (.cons (x1.mono (ax.refl _) λa _ o z=>up a o z) (.cons (r2.own.mono (ax.refl _) λa _ o z=>up a o z) .nil))),nd,λa m=>?_⟩ ⟨e12.ff,λa o z _=>up a o (e12.hh _ _ z),λa m=>?_,λa z _ u=>e12.nw a z u⟩
  ·rw [Zc]at m
   rcases Xz.mp m with rfl | m
   ·exact e12.fh.free hq
   ·rcases Z5.mp m with m | m
    ·exact y1.fr a m
    ·rcases Z5.mp m with m | m
     ·exact let ⟨_,z⟩:=h2.dom a m;e12.nw a (bg z) (S.fr a (sub a m))
     ·exact r2.fr a m
  ·rw [Zc]at m
   rcases Xz.mp m with rfl | m
   ·exact .inr (e12.hh.free hq)
   ·rcases Z5.mp m with m | m
    ·exact .inr (w1 a m)
    ·rcases Z5.mp m with m | m
     ·exact .inl (sub a m)
     ·exact .inr (e1.hh.free (w2 a m))
 ·exact py.elim
theorem zJ (i:Nat) (h:DE M X e fa) (h2:DE M X e2 fb) (hN:X.N[i]?=some x:=by rfl) (hv:Vis X.env.scope x:=by first | exact Or.inl rfl | exact Or.inr (Or.inl rfl) | exact Or.inr (Or.inr rfl)) (hd:(x == ("__debug__" : Str))=false:=by decide) (hcd:(x == ("__classdict__" : Str))=false:=by decide) (hs1:starEach [e,.Name x p,e2] X.env=(false,eval e X.env) :: starEach [.Name x p,e2] X.env:=by rfl) (hs2:starEach [.Name x p,e2] X.env=(false,eval (.Name x p) X.env) :: starEach [e2] X.env:=by rfl) (hs3:starEach [e2] X.env=(false,eval e2 X.env) :: starEach [] X.env:=by rfl) :
  DS M X (.Return (some (.List [e,.Name x p,e2] pt)) pos) (mT fa i fb):=λhK hM=>psI (oR (ub (bB (h hK hM) (bB (aK hN hv hd hcd) (bB (h2 hK hM) fW hs3) hs2) hs1))) λ_ _ _ q=>B3 q
theorem Cn (h1:ρ[i]?=some (some x)) (h2:fa ρ=.ok y) (h3:fb ρ=.ok z):mT fa i fb ρ=.ok (.rt (.ol [y,x,z])):=by
 unfold mT;rw [h2,aC,h1];show (fb ρ).bind _=_
 rw [h3];rfl
end
end L3
namespace B
inductive F where
 |nil
 |cons (k:Nat) (c r:F)
namespace F
def pre:F->List Nat
 |nil=>[]
 |cons k c r=>k :: (pre c++pre r)
def roots:F->List Nat
 |nil=>[]
 |cons k _ r=>k :: roots r
def fN:F->List Nat
 |nil=>[]
 |cons k c r=>fN r++(k :: fN c)
def app:F->F->F
 |nil,g=>g
 |cons k c r,g=>cons k c (app r g)
def mir:F->F
 |nil=>nil
 |cons k c r=>app (mir r) (cons k (mir c) nil)
def map (h:Nat->Nat):F->F
 |nil=>nil
 |cons k c r=>cons (h k) (map h c) (map h r)
def Con (ch:Nat->List Nat):F->Prop
 |nil=>True
 |cons k c r=>ch k=roots c/\Con ch c/\Con ch r
def Eld (e:Nat->Int):Int->F->Prop
 |_,nil=>True
 |p,cons k c r=>e k=p/\Eld e (k:Int) c/\Eld e p r
theorem pre_app:∀f g:F,pre (app f g)=pre f++pre g
 |nil,g=>rfl
 |cons k c r,g=>by rw [app,pre,pre,pre_app r g,Y6,Yq]
theorem qO:∀f g:F,fN (app f g)=fN g++fN f
 |nil,g=>by rw [app,fN,Zc]
 |cons k c r,g=>by rw [app,fN,fN,qO r g,Yq]
theorem l3:∀f g:F,roots (app f g)=roots f++roots g
 |nil,g=>rfl
 |cons k c r,g=>by rw [app,roots,roots,l3 r g,Y6]
theorem xS:∀f:F,app f nil=f
 |nil=>rfl
 |cons k c r=>by rw [app,xS r]
theorem sv:∀f g h:F,app (app f g) h=app f (app g h)
 |nil,g,h=>rfl
 |cons k c r,g,h=>by rw [app,app,app,sv r g h]
theorem xQ:∀f g:F,mir (app f g)=app (mir g) (mir f)
 |nil,g=>by rw [app,mir,xS]
 |cons k c r,g=>by rw [app,mir,mir,xQ r g,sv]
theorem uo:∀f:F,mir (mir f)=f
 |nil=>rfl
 |cons k c r=>by
  rw [mir,xQ,mir,mir,uo c,uo r];rfl
theorem m9:∀f:F,pre (mir f)=fN f
 |nil=>rfl
 |cons k c r=>by rw [mir,pre_app,m9 r,fN,pre,m9 c,pre,Zc]
theorem AD (f:F):fN (mir f)=pre f:=by rw [<-m9 (mir f),uo]
theorem pJ {ch:Nat->List Nat}:∀f g:F,Con ch (app f g) ↔ Con ch f/\Con ch g
 |nil,g=>by rw [app,Con];simp
 |cons k c r,g=>by rw [app,Con,Con,pJ r g];simp only [and_assoc]
theorem yL {e:Nat->Int} {p:Int}:∀f g:F,Eld e p (app f g) ↔ Eld e p f/\Eld e p g
 |nil,g=>by rw [app,Eld];simp
 |cons k c r,g=>by rw [app,Eld,Eld,yL r g];simp only [and_assoc]
theorem m8 (h:Nat->Nat):∀f:F,pre (map h f)=(pre f).map h
 |nil=>rfl
 |cons k c r=>by rw [map,pre,m8 h c,m8 h r,pre,Zw,Zh]
theorem snoc:∀f:F,f≠nil->∃g k c,f=app g (cons k c nil)
 |nil,h=>absurd rfl h
 |cons k c nil,_=>⟨nil,k,c,rfl⟩
 |cons k c (cons k' c' r'),_=>by
  obtain ⟨g,a,b,e⟩:=snoc (cons k' c' r') (λz=>nomatch z)
  exact ⟨cons k c g,a,b,by rw [app,e]⟩
theorem iQ {e:Nat->Int} {q:Int}:∀(p:Int) (f:F),Eld e p f->q≠p->(∀j∈pre f,(j:Int)≠q)->(pre f).filter (λj=>decide (e j=q))=[]
 |_,nil,_,_,_=>rfl
 |p,cons k c r,h,hp,hq=>by
  obtain ⟨h1,h2,h3⟩:=h;rw [pre,Wy,N2 (by rw [Zk,h1];exact λz=>hp z.symm),Xr,iQ _ c h2 (λz=>hq k (by rw [pre];exact Zz) z.symm) (λj hj=>hq j (by rw [pre];simp [hj])),iQ p r h3 hp (λj hj=>hq j (by rw [pre];simp [hj]))]
  rfl
theorem vT {e:Nat->Int}:∀(p:Int) (f:F),Eld e p f->(∀j∈pre f,(j:Int)≠p)->(pre f).filter (λj=>decide (e j=p))=roots f
 |_,nil,_,_=>rfl
 |p,cons k c r,h,hq=>by
  obtain ⟨h1,h2,h3⟩:=h;rw [pre,Wy,N1 (by rw [Zk,h1]),Xr,iQ _ c h2 (λz=>hq k (by rw [pre];exact Zz) z.symm) (λj hj=>hq j (by rw [pre];simp [hj])),vT p r h3 (λj hj=>hq j (by rw [pre];simp [hj])),roots]
  rfl
theorem lW {ch ch':Nat->List Nat}:∀f:F,(∀q∈pre f,ch q=ch' q)->Con ch' f->Con ch f
 |nil,_,_=>trivial
 |cons k c r,h,hc=>by
  obtain ⟨h1,h2,h3⟩:=hc;exact ⟨(h k (by rw [pre];exact Zz)).trans h1,lW c (λq m=>h q (by rw [pre];simp [m])) h2,lW r (λq m=>h q (by rw [pre];simp [m])) h3⟩
theorem uP {e:Nat->Int}:∀(p:Int) (f:F),Eld e p f->(pre f).Nodup->(∀j∈pre f,(j:Int)≠p)->Con (λq=>(pre f).filter (λj=>decide (e j=(q:Int)))) f
 |_,nil,_,_,_=>trivial
 |p,cons k c r,h,nd,hp=>by
  obtain ⟨h1,h2,h3⟩:=h;rw [pre,Xn,Yx]at nd;obtain ⟨nk,n1,n2,n3⟩:=nd;have hpk:(k:Int)≠p:=hp k (by rw [pre];exact Zz)
  have kc:∀j∈pre c,(j:Int)≠(k:Int):=λj m z=>nk (by
   have:j=k:=by lia
   rw [<-this];simp [m])
  have kr:∀j∈pre r,(j:Int)≠(k:Int):=λj m z=>nk (by
   have:j=k:=by lia
   rw [<-this];simp [m])
  have pc:∀j∈pre c,(j:Int)≠p:=λj m=>hp j (by rw [pre];simp [m])
  have pr:∀j∈pre r,(j:Int)≠p:=λj m=>hp j (by rw [pre];simp [m])
  have split:∀q:Nat,(q:Int)≠p->(pre (cons k c r)).filter (λj=>decide (e j=(q:Int)))=(pre c).filter (λj=>decide (e j=(q:Int)))++(pre r).filter (λj=>decide (e j=(q:Int))):=λq hq=>by
   rw [pre,Wy,N2 (by rw [Zk,h1];exact λz=>hq z.symm),Xr]
  refine ⟨?_,lW c (λq m=>?_) (uP _ c h2 n1 kc),lW r (λq m=>?_) (uP p r h3 n2 pr)⟩
  ·show (pre (cons k c r)).filter (λj=>decide (e j=(k:Int)))=roots c
   rw [split k hpk,vT _ c h2 kc,iQ p r h3 hpk kr,Zc]
  ·show (pre (cons k c r)).filter (λj=>decide (e j=(q:Int)))=(pre c).filter (λj=>decide (e j=(q:Int)))
   rw [split q (pc q m),iQ p r h3 (pc q m) (λj mj z=>n3 q m j mj (by lia)),Zc]
  ·show (pre (cons k c r)).filter (λj=>decide (e j=(q:Int)))=(pre r).filter (λj=>decide (e j=(q:Int)))
   rw [split q (pr q m),iQ _ c h2 (λz=>kr q m z) (λj mj z=>n3 j mj q m (by lia)),Yf]
end F
end B
namespace B
namespace F
theorem lP:∀f:F,(fN f).Perm (pre f)
 |nil=>List.Perm.refl _
 |cons k c r=>by
  rw [fN,pre];have h1:=lP c;have h2:=lP r;have:(fN r++k :: fN c).Perm (k :: (fN r++fN c)):=List.perm_middle;refine this.trans (List.Perm.cons k ?_);exact (h2.append h1).trans List.perm_append_comm
structure Pf (n:Nat) (e:Nat->Int) (c:F):Prop where
 pre:0 :: pre c=range n
 root:e 0=-1
 eld:Eld e 0 c
variable {n:Nat} {e:Nat->Int} {c:F}
def full (c:F):F:=cons 0 c nil
theorem Pf.pos (h:Pf n e c):0<n:=by
 have:=Yl List.length h.pre;rw [Zp,Zu]at this
 lia
theorem Pf.preF (h:Pf n e c):F.pre (full c)=range n:=by
 unfold full;rw [F.pre,F.pre,Zc];exact h.pre
theorem Pf.eldF (h:Pf n e c):Eld e (-1) (full c):=⟨h.root,h.eld,trivial⟩
theorem Pf.con (h:Pf n e c):Con (λq=>(range n).filter (λj=>decide (e j=(q:Int)))) (full c):=by
 have:=uP (-1) (full c) h.eldF (by rw [h.preF];exact Wi) (λj _=>by lia)
 rw [h.preF]at this;exact this
def R (c:F):List Nat:=fN (full c)
def g (c:F) (k:Nat):Nat:=(R c).idxOf k
def e1 (e:Nat->Int) (c:F) (i:Nat):Int:=match (R c)[i]? with
 |some k=>if e k<0 then -1 else (g c (e k).toNat:Int)
 |none=>-1
def c1 (c:F):F:=map (g c) (mir c)
theorem ui {e:Nat->Int}:∀(p:Int) (f:F),Eld e p f->∀k∈F.pre f,e k=p\/∃j:Nat,j∈F.pre f/\e k=(j:Int)
 |_,nil,_,_,m=>by cases m
 |p,cons a c r,h,k,m=>by
  obtain ⟨h1,h2,h3⟩:=h;rw [F.pre]at m;rcases Xz.mp m with rfl | m
  ·exact .inl h1
  ·rcases Z5.mp m with m | m
   ·rcases ui _ c h2 k m with z | ⟨j,j1,j2⟩
    ·exact .inr ⟨a,by rw [F.pre];exact Zz,z⟩
    ·exact .inr ⟨j,by rw [F.pre];simp [j1],j2⟩
   ·rcases ui p r h3 k m with z | ⟨j,j1,j2⟩
    ·exact .inl z
    ·exact .inr ⟨j,by rw [F.pre];simp [j1],j2⟩
end F
end B
namespace B
namespace F
def path:F->List Nat
 |nil=>[]
 |cons k c nil=>k :: path c
 |cons _ _ (cons k c r)=>path (cons k c r)
def kO:F->Nat->Nat->F
 |f,0,x=>app f (cons x nil nil)
 |nil,_+1,_=>nil
 |cons k c nil,d+1,x=>cons k (kO c d x) nil
 |cons k c (cons k' c' r'),d+1,x=>cons k c (kO (cons k' c' r') (d+1) x)
theorem rW:∀(f:F) (x:Nat),path (app f (cons x nil nil))=[x]
 |nil,x=>rfl
 |cons k c nil,x=>rfl
 |cons k c (cons k' c' r'),x=>by
  have:=rW (cons k' c' r') x;rw [app]at this ⊢;rw [app];rw [path];exact this
theorem ou {e e':Nat->Int}:∀(p:Int) (f:F),(∀k∈F.pre f,e' k=e k)->Eld e p f->Eld e' p f
 |_,nil,_,_=>trivial
 |p,cons k c r,h,hc=>by
  obtain ⟨h1,h2,h3⟩:=hc;exact ⟨(h k (by rw [F.pre];exact Zz)).trans h1,ou _ c (λq m=>h q (by rw [F.pre];simp [m])) h2,ou p r (λq m=>h q (by rw [F.pre];simp [m])) h3⟩
theorem Bj {k d x:Nat} {c r:F}:∃k' c' r',kO (cons k c r) (d+1) x=cons k' c' r':=by
 cases r with
 |nil=>exact ⟨_,_,_,by rw [kO]⟩
 |cons a b t=>exact ⟨_,_,_,by rw [kO]⟩
theorem rM {e:Nat->Int} {x:Nat}:∀(f:F) (d:Nat) (p:Int),d<=(path f).length->Eld e p f->e x=(if d=0 then p else ((path f)[d-1]?.getD 0:Int)) ->
  F.pre (kO f d x)=F.pre f++[x]/\path (kO f d x)=(path f).take d++[x]/\Eld e p (kO f d x)
 |f,0,p,_,h,hx=>by
  rw [kO,pre_app,rW,yL];exact ⟨rfl,rfl,h,by simpa using hx,trivial,trivial⟩
 |nil,d+1,p,hd,_,_=>by
  rw [path]at hd;simp at hd
 |cons k c nil,d+1,p,hd,h,hx=>by
  obtain ⟨h1,h2,h3⟩:=h;rw [path,Zp]at hd;have ih:=rM (e:=e) (x:=x) c d (k:Int) (by lia) h2 (by
   rw [hx,N2 (by lia),path]
   by_cases d0:d=0
   ·subst d0
    rfl
   ·obtain ⟨m,rfl⟩:∃m,d=m+1:=⟨d-1,by lia⟩
    rw [N2 (by lia)]
    rfl)
  rw [kO,F.pre,F.pre,ih.1,F.pre];refine ⟨by simp [F.pre],?_,h1,ih.2.2,trivial⟩
  rw [path,path,ih.2.1,Vl,Y6]
 |cons k c (cons k' c' r'),d+1,p,hd,h,hx=>by
  obtain ⟨h1,h2,h3⟩:=h;have hp:path (cons k c (cons k' c' r'))=path (cons k' c' r'):=by rw [path]
  rw [hp]at hd hx;have ih:=rM (e:=e) (x:=x) (cons k' c' r') (d+1) p hd h3 hx;obtain ⟨a,b,t,hq⟩:=Bj (k:=k') (d:=d) (x:=x) (c:=c') (r:=r');rw [kO,F.pre,ih.1,hp];refine ⟨?_,?_,h1,h2,ih.2.2⟩
  ·show k :: (F.pre c++(F.pre (cons k' c' r')++[x]))=(k :: (F.pre c++F.pre (cons k' c' r')))++[x]
   rw [Y6,Yq]
  rw [hq]at ih ⊢;rw [path];exact ih.2.1
end F
end B
namespace B
open PySem L2 L3
def jY:Fs:=(aw (sIf (ao (eOp gLt (ae 1) (eB a_ (aa (ae 0) ag)))) (aI (eOp gIx (ae 0) (ae 1))) sNx)
 (aw (aH 2 (eOp bQ (eOp kW (eC (.int 7919)) (ae 1)) (eC (.int 5))))
 (aw (sIf (ao (eOp gGt (eB a_ (aa (ae 0) ag)) (eC (.int 0)))) (aH 2 (eOp eJ (eOp bQ (eOp kW (eOp gIx (ae 0) (eOp eJ (ae 1) (eB a_ (aa (ae 0) ag)))) (eC (.int 48271))) (eOp kW (ae 1) (eC (.int 7919)))) (eC (.int 2147483647)))) sNx)
 (aI (eOp eJ (eOp kW (ae 2) (ae 2)) (eC (.int 2147483629)))))))
def bL:Fn:=aM 2 3 jY
def dW:Fs:=(aI (jR (eh "int" (ae 0)) (zX (eh "bool" (ae 0)))))
def aD:Fn:=aM 1 1 dW
def iE:Fs:=(aw (aH 2 (eC (.str "abcdefghijklmnopqrstuvwxyz")))
 (aw (aH 3 (eC (.str "")))
 (aw (fX (iR1 (eOp bQ (eC (.int 1)) (eOp eJ (ae 0) (ae 1)))) (gNm 4) (aH 3 (eOp bQ (ae 3) (eOp gIx (ae 2) (eOp eJ (eOp l8 (ae 0) (eOp bQ (eC (.int 9)) (eOp kW (eOp kW (eC (.int 4)) (ae 4)) (ae 4)))) (eC (.int 26)))))))
 (aI (ae 3)))))
def da:Fn:=aM 2 5 iE
def ki:Fs:=(aw (aH 5 (cK ag))
 (aw (aH 6 (eSh (cK ag)))
 (aw (fX (iR1 (ae 2)) (gNm 7) (aw (aH 8 (eOp eJ (eOp kW (ak bL (aa (ae 0) (aa (eOp bQ (ae 1) (ae 7)) ag))) (eC (.int 69621))) (eC (.int 2147483629))))
 (aw (sIf (ao (eOp gGt (ae 7) (eC (.int 0)))) (aw (aH 9 (eOp bQ (eC (.int 1)) (eOp eJ (ae 8) (eB a_ (aa (ae 6) ag)))))
 (aw (sIf (ao (eOp gEq (eOp eJ (eOp l8 (ae 8) (eC (.int 16))) (eC (.int 3))) (eC (.int 0)))) (aH 9 (eB a_ (aa (ae 6) ag))) sNx)
 (aw (aH 6 (eSh (eSl vq (ae 6) oT (mX (eB sI (aa (ae 9) (aa (ae 4) ag)))))))
 (nI 5 (eSh (cP (aa (eOp gIx (ae 6) (eUn gP (eC (.int 1)))) (aa (eSh (ak da (aa (eOp l8 (ae 8) (eC (.int 64))) (aa (ae 3) ag)))) (aa (eOp bQ (eC (.int 1)) (eOp eJ (eOp l8 (ae 8) (eC (.int 4096))) (eC (.int 9)))) ag))))))))) (nI 5 (eSh (cP (aa (eUn gP (eC (.int 1))) (aa (eSh (ak da (aa (eOp l8 (ae 8) (eC (.int 64))) (aa (ae 3) ag)))) (aa (eOp bQ (eC (.int 1)) (eOp eJ (eOp l8 (ae 8) (eC (.int 4096))) (eC (.int 9)))) ag)))))))
 (aH 6 (eSh (eOp bQ (ae 6) (cK (aa (ae 7) ag))))))))
 (ly 5))))
def eQ:Fn:=aM 5 10 ki
local macro_rules
 |`(tactic| push_cast only [$a,*] $[$l:location]?)=>do
  let e <- ("v_var v_c M6 MT JE Iz LP HV v_and v_or v_not Nh Ic DH KD LG Ik v_b GY v_bor HL Jd Lb J4 LX EK EB Nj GI M_ M8 Ng Mt Mb Ky KS Hs LD MR JN Mn Hz LJ Js Ke KW IV Ma KY Mi K4 JK Le JQ M1 JJ M3 Kh Jz Ho LA Mq Ep Ec H0 Gw IY IF JV K9 IJ Kl ID Kq Jv MV Mf G_ KR Ip Iw L4 EO Km Ks Ls MM MN MY Jn Hv J5 KG Kk Li Mo Lk Mp Lf Kv Kr Nn My M0 MC MQ He J_ Lw IM Gk Il GC KC Iu at0 at1 at2 K8 HG Jo Gp IP Ht Gd HQ HF Gq J9 Lc Nb MD Ni aQ dS BD flat List.map_cons List.map_nil List.length_cons List.length_nil List.getElem?_cons_zero List.getElem?_cons_succ List.getElem?_nil List.set_cons_zero List.set_cons_succ List.cons_append List.nil_append List.append_nil List.replicate_succ List.replicate_zero Nat.reduceAdd Nat.reduceSub Nat.reduceLeDiff Nat.reduceLT Nat.reduceEqDiff Nat.zero_add Bool.not_true Bool.not_false if_true if_false Bool.false_eq_true reduceIte decide_true decide_false reduceCtorEq Ei Na Int.reduceLT Int.reduceLE Int.reduceNeg Int.reducePow Int.reduceToNat Int.reduceMul Int.reduceAdd Int.reduceSub Nat.reducePow and_true true_and and_self List.length_map LK v_sub K_ yH Int.cast_ofNat_Int Int.reduceEq Int.reduceNe Lr Jq Jw Lp JZ".splitOn " ").toArray.mapM λs=>`(Lean.Parser.Tactic.simpLemma| $(Lean.mkIdent s.toName):ident)
  `(tactic| simp (maxSteps:=1000000) -implicitDefEqProofs only [$e,*,$a,*] $[$l]?)
theorem zO (z:Int):aD [.int z]=.ok (.sh (.bool true)):=by
 unfold aD dW;push_cast only [Yw]
theorem pB (ns:List Int) (k:Int) (h0:0<=k) (h1:k<1000000):∃z,bL [.list (ns.map PyData.int),.int k]=.ok (.sh (.int z)):=by
 unfold bL jY;by_cases hk:k<(ns.length:Int)
 ·obtain ⟨x,e1,e2⟩:=wX (ns.map PyData.int) k h0 (by simpa using hk)
  rw [Zx]at e1;obtain ⟨z,_,rfl⟩:=ZB.mp e1;exact ⟨z,by push_cast only [Za hk,e2]⟩
 ·by_cases hl:(0:Int)<ns.length
  ·have hm:=de k hl
   obtain ⟨x,e1,e2⟩:=wX (ns.map PyData.int) (k % (ns.length:Int)) hm.1 (by simpa using hm.2)
   rw [Zx]at e1;obtain ⟨z,_,rfl⟩:=ZB.mp e1;have h2:=de (z * 48271+k * 7919) (show (0:Int)<2147483647 by decide)
   have c2:lC ((z * 48271+k * 7919) % 2147483647) ((z * 48271+k * 7919) % 2147483647)=true:=Ei (by lia) (by lia)
   refine ⟨(z * 48271+k * 7919) % 2147483647 * ((z * 48271+k * 7919) % 2147483647) % 2147483629,?_⟩;push_cast only [Zq hk,Za hl,hl,e2,c2]
  ·have c2:lC (7919 * k+5) (7919 * k+5)=true:=Ei (by lia) (by lia)
   refine ⟨(7919 * k+5) * (7919 * k+5) % 2147483629,?_⟩;push_cast only [Zq hk,Zq hl,c2]
structure Nd where
 e:Int
 l:Str
 t:Int
def Bu (l:Str):Prop:=1<=l.length/\l.length<=9/\∀c∈l.cps.toList,97<=c/\c<=122
def zG (n:Nd):Prop:=Bu n.l/\1<=n.t/\n.t<=9
def ndD (n:Nd):Gc:=.tuple [.int n.e,.str n.l,.int n.t]
def ai (ts:List Nd):List Gc:=ts.map ndD
inductive Grown (deep:Nat):List Nd->List Int->Prop
 |root {n:Nd}:zG n->n.e=-1->Grown deep [n] [0]
 |step {ns:List Nd} {way:List Int} {c:Nat} {n:Nd}:Grown deep ns way->1<=c->c<=way.length->c<=deep->zG n->way[c-1]?=some n.e->Grown deep (ns++[n]) (way.take c++[(ns.length:Int)])
theorem Grown.pos {deep:Nat} {ns:List Nd} {way:List Int} (g:Grown deep ns way):0<ns.length/\0<way.length:=by
 cases g with
 |root=>simp
 |step=>simp
theorem Grown.way_lt {deep:Nat} {ns:List Nd} {way:List Int} (g:Grown deep ns way):∀x∈way,0<=x/\x<ns.length:=by
 induction g with
 |root=>simp
 |@step ns way c n g h1 h2 h3 h4 h5 ih =>
  intro x hx;rw [Z5]at hx;rw [Zv];rcases hx with hx | hx
  ·have:=ih x (List.mem_of_mem_take hx)
   simp
   lia
  ·have:x=ns.length:=by simpa using hx
   simp
   lia
theorem Grown.elder {deep:Nat} {ns:List Nd} {way:List Int} (g:Grown deep ns way):∀(k:Nat) (n:Nd),ns[k]?=some n->(k=0->n.e=-1)/\(0<k->0<=n.e)/\n.e<k:=by
 induction g with
 |@root n h e =>
  intro k m hm;cases k with
  |zero =>
   have:n=m:=by simpa using hm
   subst this;exact ⟨λ_=>e,λh=>absurd h (Xq _),by lia⟩
  |succ k=>simp at hm
 |@step ns way c n g h1 h2 h3 h4 h5 ih =>
  intro k m hm;by_cases hk:k<ns.length
  ·rw [Yz hk]at hm
   exact ih k m hm
  ·rw [Z9 (by lia)]at hm
   have hk':k=ns.length:=by
    have:=(ZA.mp hm).1;simp at this
    lia
   subst hk';have:n=m:=by simpa using hm
   subst this;have hp:=g.pos.1;have:=g.way_lt n.e (Yp h5);exact ⟨λh=>by lia,λ_=>this.1,this.2⟩
theorem Dl (h0:0<=k) (h1:k<26):∃c,atI (Str.ofString "abcdefghijklmnopqrstuvwxyz").cps.toList k=some c/\97<=c/\c<=122:=by
 have e:(Str.ofString "abcdefghijklmnopqrstuvwxyz").cps.toList=List.range' 97 26:=by decide +kernel
 rw [e];obtain ⟨v,e1,e2⟩:=wX (List.range' 97 26) k h0 (by simpa using h1)
 refine ⟨v,e2,?_⟩;have:=List.mem_range'.mp (Yp e1)
 lia
theorem AE (k:Int) (h0:0<=k) (h1:k<26):∃c,atI (Str.ofString "abcdefghijklmnopqrstuvwxyz").cps.toList k=some c/\(97<=c/\c<=122):=Dl h0 h1
theorem yJ (a b:Str):(a++b).cps.toList=a.cps.toList++b.cps.toList:=PyProof.Rows.cps_toList_append a b
theorem yt (a:Str):a.length=a.cps.toList.length:=by simp [Str.length]
theorem Cf (a:Str) (c:Nat):(a++⟨#[c]⟩:Str).length=a.length+1:=by
 rw [yt,yJ,yt,Zv];rfl
theorem BE (z m:Int) (m1:1<=m) (m2:m<=9):∃l,Bu l/\da [.int z,.int m]=.ok (.sh (.str l)):=by
 unfold da iE;have hm:=de z (show 0<m by lia)
 have s1:aL (1+z % m)=true:=qT (by lia) (by lia)
 have p0:(0:Int)<m:=by lia
 obtain ⟨f,hf⟩:∃f:Nat->Nat,∀i:Nat,atI (Str.ofString "abcdefghijklmnopqrstuvwxyz").cps.toList (z / (9+4 * (0+(i:Int)) * (0+(i:Int))) % 26)=some (f i)/\(97<=f i/\f i<=122) :=
  ⟨λi=>Classical.choose (AE _ (de (z / (9+4 * (0+(i:Int)) * (0+(i:Int)))) (show (0:Int)<26 by decide)).1 (de _ (by decide)).2),λi=>Classical.choose_spec (AE _ (de (z / (9+4 * (0+(i:Int)) * (0+(i:Int)))) (show (0:Int)<26 by decide)).1 (de _ (by decide)).2)⟩
 push_cast only [p0,s1];generalize hL:bw _ _ _ _=r
 refine eM hL (λi ρ=>∃(l:Str) (v:Option OD),ρ=[some (.sh (.int z)),some (.sh (.int m)),some (.sh (.str (Str.ofString "abcdefghijklmnopqrstuvwxyz"))),some (.sh (.str l)),v]/\l.length=i/\∀c∈l.cps.toList,97<=c/\c<=122) ⟨_,_,rfl,rfl,λc hc=>by cases hc⟩ ?_ ?_
 ·rintro i d ρ hd ⟨l,v,rfl,hl,hc⟩
  obtain ⟨hi,rfl⟩:=lI hd;have i9:(i:Int)<9:=by lia
  have ib:0<=4 * (0+(i:Int)) * (0+(i:Int))/\4 * (0+(i:Int)) * (0+(i:Int))<=4 * 8 * 8:=by
   have a1:0<=(0+(i:Int)):=by lia
   have a2:(0+(i:Int))<=8:=by lia
   refine ⟨Int.mul_nonneg (by lia) a1,?_⟩
   exact Int.mul_le_mul (by lia) a2 a1 (by lia)
  have ec:=(hf i).1;have c1:=(hf i).2.1;have c2:=(hf i).2.2;generalize f i=c at ec c1 c2
  have k1:lC (4 * (0+(i:Int))) (0+(i:Int))=true:=Ei (by lia) (by lia)
  have k2:(0<9+4 * (0+(i:Int)) * (0+(i:Int))/\9+4 * (0+(i:Int)) * (0+(i:Int))<1073741824)=True:=eq_true ⟨by lia,by lia⟩
  have k3:((Str.ofString "abcdefghijklmnopqrstuvwxyz").length<=BIG)=True:=by decide +kernel
  have k4:(l.length+(⟨#[c]⟩:Str).length<=BIG)=True:=az (by rw [hl];show i+1<=1000;lia)
  push_cast only [k1,k2,k3,k4,ec,Option.map_some];refine ⟨_,_,rfl,by rw [Cf,hl],λd hd=>?_⟩
  rw [yJ,Z5]at hd;rcases hd with hd | hd
  ·exact hc d hd
  ·have:d=c:=by simpa using hd
   lia
 ·rintro ρ' rfl ⟨l,v,rfl,hl,hc⟩
  rw [mL]at hl;push_cast only [Yw];exact ⟨l,⟨by lia,by lia,hc⟩,rfl⟩
theorem vz (xs:List Gc) (k:Nat):cutD xs none (some (k:Int))=xs.take k:=by
 unfold cutD;rw [HT.v_,HT.xA,List.drop_zero,Nat.sub_zero];rcases Nat.le_total k xs.length with h | h
 ·rw [Xu h]
 ·rw [Nat.min_eq_right h,Y4 (Zi _),Y4 h]
theorem sr {way:List Int} (h1:1<=k) (h2:k<=way.length):∃e,way[k-1]?=some e/\atI ((way.take k).map PyData.int) (-1)=some (.int e):=by
 have hk:k-1<way.length:=by lia
 refine ⟨way[k-1],by simp [hk],?_⟩
 have h:way.take (k-1+1)=way.take (k-1)++[way[k-1]]:=by
  rw [List.take_add_one];simp [hk]
 rw [show k-1+1=k by lia]at h
 rw [h,Zh];exact CD _ _
theorem ay (ts:List Nd):(ai ts).length=ts.length:=by unfold ai;rw [Zy]
theorem pV (ts:List Nd) (n:Nd):ai (ts++[n])=ai ts++[.tuple [.int n.e,.str n.l,.int n.t]]:=by
 unfold ai;rw [Zh];rfl
theorem EX (ns:List Int) (st:Int) (many:Nat) (most deep:Int) (s0:0<=st) (s1:st<=1000) (n0:1<=many) (n1:many<=900) (m0:1<=most) (m1:most<=9) (d0:1<=deep) (d1:deep<=1000) :
  ∃ts way,Grown deep.toNat ts way/\ts.length=many/\eQ [.list (ns.map PyData.int),.int st,.int many,.int most,.int deep]=.ok (.ol ((ai ts).map OD.sh)):=by
 unfold eQ ki;have s62:aL (many:Int)=true:=qT (by lia) (by lia)
 push_cast only [s62];generalize hL:bw _ _ _ _=r
 refine eM hL (λi ρ=>∃(ts:List Nd) (way:List Int) (v7 v8 v9:Option OD),ρ=[some (.sh (.list (ns.map PyData.int))),some (.sh (.int st)),some (.sh (.int many)),some (.sh (.int most)),some (.sh (.int deep)),some (.ol ((ai ts).map OD.sh)),some (.sh (.list (way.map PyData.int))),v7,v8,v9]/\ts.length=i/\way.length<=i/\((i=0/\ts=[]/\way=[])\/(0<i/\Grown deep.toNat ts way)))
  ⟨[],[],_,_,_,rfl,rfl,Zi _,.inl ⟨rfl,rfl,rfl⟩⟩ ?_ ?_
 ·rintro i d ρ hd ⟨ts,way,v7,v8,v9,rfl,hti,hwi,hg⟩
  obtain ⟨hi,rfl⟩:=lI hd;rw [Zn]at hi;obtain ⟨y,hy⟩:=pB ns (st+(0+(i:Int))) (by lia) (by lia)
  obtain ⟨l,hl,el⟩:=BE (y * 69621 % 2147483629 / 64) most m0 m1;have hq:=de (y * 69621 % 2147483629 / 4096) (show (0:Int)<9 by decide)
  have lb:((ai ts).length<BIG)=True:=by rw [ay];exact ik (by lia)
  by_cases h0:(0:Int)<0+(i:Int)
  ·have hg':Grown deep.toNat ts way:=by
    rcases hg with hg | hg
    ·lia
    ·exact hg.2
   have wp:=hg'.pos.2;have wl:(0:Int)<way.length:=by lia
   have hr:=de (y * 69621 % 2147483629) wl;have fin:∀c:Nat,1<=c->c<=way.length->c<=deep.toNat->∀(e:Int),way[c-1]?=some e->Grown deep.toNat (ts++[⟨e,l,1+y * 69621 % 2147483629 / 4096 % 9⟩]) (way.take c++[(ts.length:Int)]):=λc c1 c2 c3 e he =>
    Grown.step hg' c1 c2 c3 ⟨hl,by show 1<=1+_;lia,by show 1+_<=9;lia⟩ he
   have lw:∀c:Nat,((way.take c).length+1<=BIG)=True:=λc=>az (by rw [Ze];lia)
   by_cases h3:y * 69621 % 2147483629 / 16 % 3=0
   ·obtain ⟨c,hc⟩:∃c:Nat,(if deep<(way.length:Int) then deep else (way.length:Int))=(c:Int):=⟨(if deep<(way.length:Int) then deep else (way.length:Int)).toNat,by split <;> lia⟩
    obtain ⟨c1,c2,c3⟩:1<=c/\c<=way.length/\c<=deep.toNat:=by split at hc <;> lia
    obtain ⟨e,he,hat⟩:=sr c1 c2;push_cast only [hy,el,wl,Za h0,Za h3,hc,vz,<-Vi,aX,hat,lb,lw];have t1:=pV ts ⟨e,l,1+y * 69621 % 2147483629 / 4096 % 9⟩;have t2:(ai ts).map OD.sh++[OD.sh (.tuple [.int e,.str l,.int (1+y * 69621 % 2147483629 / 4096 % 9)])]=(ai (ts++[⟨e,l,1+y * 69621 % 2147483629 / 4096 % 9⟩])).map OD.sh:=by rw [t1,Zh];rfl
    have w1:(way.take c).map PyData.int++[PyData.int (0+(i:Int))]=(way.take c++[(ts.length:Int)]).map PyData.int:=by rw [Zh,hti,X2];rfl
    rw [t2,w1];exact ⟨_,_,_,_,_,rfl,by rw [Zv,hti];rfl,by rw [Zv,Ze,Zd];lia,.inr ⟨Nat.succ_pos _,fin c c1 c2 c3 e he⟩⟩
   ·obtain ⟨c,hc⟩:∃c:Nat,(if deep<1+y * 69621 % 2147483629 % (way.length:Int) then deep else 1+y * 69621 % 2147483629 % (way.length:Int))=(c:Int):=⟨(if deep<1+y * 69621 % 2147483629 % (way.length:Int) then deep else 1+y * 69621 % 2147483629 % (way.length:Int)).toNat,by split <;> lia⟩
    obtain ⟨c1,c2,c3⟩:1<=c/\c<=way.length/\c<=deep.toNat:=by split at hc <;> lia
    obtain ⟨e,he,hat⟩:=sr c1 c2;push_cast only [hy,el,wl,Za h0,Zq h3,hc,vz,<-Vi,aX,hat,lb,lw];have t1:=pV ts ⟨e,l,1+y * 69621 % 2147483629 / 4096 % 9⟩;have t2:(ai ts).map OD.sh++[OD.sh (.tuple [.int e,.str l,.int (1+y * 69621 % 2147483629 / 4096 % 9)])]=(ai (ts++[⟨e,l,1+y * 69621 % 2147483629 / 4096 % 9⟩])).map OD.sh:=by rw [t1,Zh];rfl
    have w1:(way.take c).map PyData.int++[PyData.int (0+(i:Int))]=(way.take c++[(ts.length:Int)]).map PyData.int:=by rw [Zh,hti,X2];rfl
    rw [t2,w1];exact ⟨_,_,_,_,_,rfl,by rw [Zv,hti];rfl,by rw [Zv,Ze,Zd];lia,.inr ⟨Nat.succ_pos _,fin c c1 c2 c3 e he⟩⟩
  ·obtain ⟨i0,rfl,rfl⟩:i=0/\ts=[]/\way=[]:=by
    rcases hg with hg | hg
    ·exact hg
    ·lia
   push_cast only [hy,el,Zq h0,aX,lb];subst i0;exact ⟨[⟨-1,l,1+y * 69621 % 2147483629 / 4096 % 9⟩],[0],_,_,_,rfl,rfl,by decide,.inr ⟨Nat.succ_pos _,Grown.root ⟨hl,by show 1<=1+_;lia,by show 1+_<=9;lia⟩ rfl⟩⟩
 ·rintro ρ' rfl ⟨ts,way,v7,v8,v9,rfl,hti,hwi,hg⟩
  rw [mL,Zn]at hti hg;rcases hg with hg | hg
  ·lia
  ·push_cast only [Yw]
   exact ⟨ts,way,hg.2,hti,rfl⟩
theorem lF {ts:List Nd} {k:Nat} {n:Nd} (h:ts[k]?=some n):atI (ai ts) (k:Int)=some (.tuple [.int n.e,.str n.l,.int n.t]):=bt (by unfold ai;rw [Zx,h];rfl)
instance:Inhabited Nd:=⟨⟨0, "",0⟩⟩
def eOf (ts:List Nd) (k:Nat):Int:=(ts[k]?.map (·.e)).getD 0
def PT (ts:List Nd) (c:F):Prop:=F.Pf ts.length (eOf ts) c
theorem d9 {ts:List Nd} {k:Nat} {n:Nd} (h:ts[k]?=some n):eOf ts k=n.e:=by unfold eOf;rw [h];rfl
theorem qH {deep:Nat} {ns:List Nd} {way:List Int} (g:Grown deep ns way):∃c,PT ns c/\way=(0 :: F.path c).map (λk:Nat=>(k:Int)):=by
 induction g with
 |@root n h1 h2=>exact ⟨F.nil,⟨rfl,by rw [d9 (n:=n) rfl];exact h2,trivial⟩,rfl⟩
 |@step ns way k n g h1 h2 h3 h4 h5 ih =>
  obtain ⟨c,p,hw⟩:=ih;subst hw;rw [Zy,Zp]at h2;have same:∀j,j<ns.length->eOf (ns++[n]) j=eOf ns j:=λj hj=>by
   unfold eOf;rw [Yz hj]
  have new:eOf (ns++[n]) ns.length=n.e:=d9 (by simp)
  have inR:∀j∈F.pre c,j<ns.length:=λj m=>by
   have:j∈0 :: F.pre c:=Zs _ m;rw [p.pre,Yk]at this;exact this
  have he:F.Eld (eOf (ns++[n])) 0 c:=F.ou 0 c (λj m=>same j (inR j m)) p.eld
  obtain ⟨q1,q2,q3⟩:=F.rM (x:=ns.length) c (k-1) 0 (by lia) he (by
   rw [new];rw [Zx]at h5;by_cases k1:k=1
   ·subst k1
    have:=Yv h5;rw [N1 rfl];exact this.symm
   ·obtain ⟨m,rfl⟩:∃m,k=m+2:=⟨k-2,by lia⟩
    rw [N2 (by lia)]
    have e:(0 :: F.path c)[m+2-1]?=(F.path c)[m+2-1-1]?:=rfl;rw [e]at h5;obtain ⟨v,hv,hv2⟩:=ZB.mp h5;rw [hv,<-hv2];rfl)
  refine ⟨F.kO c (k-1) ns.length,⟨?_,?_,q3⟩,?_⟩
  ·rw [q1,<-Y6,p.pre,Zv,Zp,X5,Wf]
  ·rw [same 0 p.pos]
   exact p.root
  ·rw [q2]
   obtain ⟨m,rfl⟩:∃m,k=m+1:=⟨k-1,by lia⟩
   rw [Zw,Zw,Vl,Zh,Wr,Vi];rfl
def cS (ts:List Nd) (k:Nat):Nd:=ts[k]?.getD default
theorem iD {ts:List Nd} {k:Nat} (h:k<ts.length):(cS ts k).e=eOf ts k:=by
 unfold cS eOf;rw [Ya h];rfl
section
end
def iu:Fs:=(sIf (iP (ao (eOp gLt (ae 1) (eC (.int 0)))) (ao (eOp gGe (ae 1) (eB a_ (aa (ae 0) ag))))) p7 sNx)
def cH:Fn:=aM 2 2 iu
def gK:Fs:=(aw (aH 1 (cK ag))
 (aw (fX (dg (ae 0)) (gNm 2) (nI 1 (eSh (vk (eIf (ao (eOp gEq (eOp gIx (ae 2) (eC (.int 0))) (eUn gP (eC (.int 1))))) (eC (.int 0)) (eOp bQ (eOp gIx (ae 1) (eOp gIx (ae 2) (eC (.int 0)))) (eC (.int 1))))))))
 (ly 1)))
def cR:Fn:=aM 1 3 gK
def gN:Fs:=(aw (cU (ak cH (aa (ae 0) (aa (ae 1) ag))))
 (aI (bu (iEn (ae 0)) (gTp 2 (aZ (gNm 0) (aZ (gNm 1) fP))) (ao (eOp gEq (eOp gIx (ae 1) (eC (.int 0))) (ae 2))) (ae 0) 2 [1])))
def aP:Fn:=aM 2 2 gN
def EL (ts:List Nd):Prop:=∀(k:Nat) (n:Nd),ts[k]?=some n->(k=0->n.e=-1)/\(0<k->0<=n.e)/\n.e<k
def dI (acc:List Nat) (n:Nd):Nat:=if n.e=-1 then 0 else (acc[n.e.toNat]?).getD 0+1
def lvs (ts:List Nd):List Nat:=ts.foldl (λacc n=>acc++[dI acc n]) []
theorem i_ (ts:List Nd) (n:Nd):lvs (ts++[n])=lvs ts++[dI (lvs ts) n]:=by
 unfold lvs;rw [List.foldl_append];rfl
theorem snoc_ind {P:List α->Prop} (h0:P []) (hs:∀xs x,P xs->P (xs++[x])) (xs:List α):P xs:=by
 have:∀ys:List α,P ys.reverse:=by
  intro ys
  induction ys with
  |nil=>exact h0
  |cons y ys ih=>rw [X4];exact hs _ _ ih
 have h:=this xs.reverse
 rwa [List.reverse_reverse]at h
theorem dE:∀ts:List Nd,(lvs ts).length=ts.length:=by
 intro ts;refine snoc_ind (P:=λts=>(lvs ts).length=ts.length) rfl (λts n ih=>?_) ts
 rw [i_,Zv,Zv,ih];rfl
theorem take_snoc {α:Type} {xs:List α} {i:Nat} {x:α} (h:xs[i]?=some x):xs.take (i+1)=xs.take i++[x]:=by rw [List.take_add_one,h];rfl
theorem lx (ts:List Nd):∀i:Nat,(lvs ts).take i=lvs (ts.take i):=by
 refine snoc_ind (P:=λts=>∀i:Nat,(lvs ts).take i=lvs (ts.take i)) (λi=>by simp [lvs]) (λts n ih=>?_) ts
 ·intro i
  rcases Nat.le_total i ts.length with h | h
  ·rw [i_,Xw (by rw [dE];exact h),Xw h,ih]
  ·by_cases h2:i=ts.length
   ·subst h2
    rw [i_,Xw (by rw [dE];exact Zi _),Xw (Zi _),ih]
   ·rw [Y4 (by rw [dE,Zv];simp;lia),Y4 (by rw [Zv];simp;lia)]
theorem uJ {ts:List Nd} {i:Nat} {n:Nd} (h:ts[i]?=some n):(lvs ts)[i]?=some (dI (lvs (ts.take i)) n):=by
 have hi:=(ZA.mp h).1;have e:=lx ts (i+1);rw [take_snoc h,i_]at e;have:((lvs ts).take (i+1))[i]?=some (dI (lvs (ts.take i)) n):=by
  rw [e,Z9 (by rw [dE,Ze];lia),dE,Ze,Xu (by lia),Xf]
  rfl
 rw [Yb (by lia)]at this
 exact this
def pM (ks:List Nat):List Gc:=ks.map λk:Nat=>PyData.int (k:Int)
theorem Cm (ks:List Nat):(pM ks).length=ks.length:=by unfold pM;rw [Zy]
theorem Dq {ks:List Nat} {k v:Nat} (h:ks[k]?=some v):atI (pM ks) (k:Int)=some (.int v):=bt (by unfold pM;rw [Zx,h];rfl)
theorem sT (ks:List Nat) (k:Nat):(pM ks).map OD.sh++[OD.sh (.int (k:Int))]=(pM (ks++[k])).map OD.sh:=by
 unfold pM;rw [Zh,Zh];rfl
theorem k_ (ts:List Nd) (he:EL ts) (hl:ts.length<=100):cR [.list (ai ts)]=.ok (.ol ((pM (lvs ts)).map OD.sh)):=by
 unfold cR gK;push_cast only [Yw];generalize hL:bw _ _ _ _=r'
 refine eM hL (λi ρ=>∃v2:Option OD,ρ=[some (.sh (.list (ai ts))),some (.ol ((pM (lvs (ts.take i))).map OD.sh)),v2]) ⟨_,rfl⟩ ?_ ?_
 ·rintro i d ρ hd ⟨v2,rfl⟩
  unfold ai at hd;rw [Zx]at hd;obtain ⟨n,hn,rfl⟩:=ZB.mp hd;have hi:=(ZA.mp hn).1;have lb:((pM (lvs (ts.take i))).length<BIG)=True:=by rw [Cm,dE,Ze];exact ik (by lia)
  have e0:(lvs (ts.take (i+1)))=lvs (ts.take i)++[dI (lvs (ts.take i)) n]:=by rw [take_snoc hn,i_]
  have el:=he i n hn;by_cases h1:n.e=-1
  ·have e1:dI (lvs (ts.take i)) n=0:=by unfold dI;rw [N1 h1]
   rw [e1]at e0;have sn:=sT (lvs (ts.take i)) 0;rw [<-e0,Vx]at sn;push_cast only [ndD,Za h1,lb,aX,sn];exact ⟨_,rfl⟩
  ·have h0:0<i:=by
    rcases Nat.eq_zero_or_pos i with h | h
    ·exact absurd (el.1 h) h1
    ·exact h
   obtain ⟨k,hk⟩:∃k:Nat,n.e=(k:Int):=⟨n.e.toNat,by have:=el.2.1 h0;lia⟩
   have hki:k<i:=by have:=el.2.2;lia
   obtain ⟨v,hv⟩:∃v,(lvs (ts.take i))[k]?=some v:=⟨(lvs (ts.take i))[k]'(by rw [dE,Ze];lia),by simp⟩
   have e1:dI (lvs (ts.take i)) n=v+1:=by unfold dI;rw [N2 h1,hk,Zn,hv];rfl
   rw [e1]at e0;have sn:=sT (lvs (ts.take i)) (v+1);rw [<-e0,Int.natCast_add,Int.natCast_one]at sn;have ga:=Dq hv;have h1':¬((k:Int)=-1):=by lia
   push_cast only [ndD,hk,Zq h1',lb,aX,ga,sn];exact ⟨_,rfl⟩
 ·rintro ρ' rfl ⟨v2,rfl⟩
  push_cast only [Yw];rw [ay,Y4 (Zi _)]
theorem qG (xs:List Gc) (j:Nat) (h:j<xs.length):cH [.list xs,.int j]=.ok (.sh .none):=by
 unfold cH iu;have d1:decide ((j:Int)<0)=false:=Zq (by lia)
 have d2:decide ((xs.length:Int)<=(j:Int))=false:=Zq (by lia)
 push_cast only [d1,d2]
def iL (rs:List Nat):List Int:=rs.map λk:Nat=>(k:Int)
def nD (rs:List Nat):List Gc:=(iL rs).map PyData.int
def nO (rs:List Nat):List OD:=(nD rs).map OD.sh
theorem cJ (rs:List Nat):(nO rs).map OD.er=nD rs:=aX _
theorem aY (rs:List Nat):(nD rs).length=rs.length:=by unfold nD iL;rw [Zy,Zy]
theorem wC (rs:List Nat):(nO rs).length=rs.length:=by unfold nO;rw [Zy,aY]
theorem Jr (a b:List Nat):nO a++nO b=nO (a++b):=by unfold nO nD iL;rw [Zh,Zh,Zh]
theorem mW (a:List Nat) (k:Nat):nO a++[OD.sh (.int (k:Int))]=nO (a++[k]):=by rw [<-Jr];rfl
theorem kN {rs:List Nat} {i k:Nat} (h:rs[i]?=some k):(nD rs)[i]?=some (.int (k:Int)):=by
 unfold nD iL;rw [Zx,Zx,h];rfl
def chN (ts:List Nd) (q:Nat):List Nat:=(range ts.length).filter (λj=>decide (eOf ts j=(q:Int)))
theorem zj (ts:List Nd):dn (ai ts)=(range ts.length).map λk:Nat=>PyData.tuple [.int (k:Int),ndD (cS ts k)]:=by
 apply Yo
 intro i;rw [Zx];by_cases hi:i<ts.length
 ·rw [Z6 hi]
  unfold dn ai;rw [Zx,X3,Zx,Ya hi];unfold cS;simp [Ya hi]
 ·rw [Zb (by unfold dn ai;simp;lia),Zb (by rw [Zu];lia)]
  rfl
theorem gi (L:List Nat):(L.map λk:Nat=>OD.sh (.int (k:Int)))=nO L:=by
 unfold nO nD iL;rw [Yu,Yu];rfl
theorem eD (ts:List Nd) (q:Nat) (hq:q<ts.length) (hl:ts.length<=100):aP [.list (ai ts),.int q]=.ok (.ol (nO (chN ts q))):=by
 unfold aP gN;have ck:=qG (ai ts) q (by rw [ay];exact hq)
 push_cast only [ck];generalize hC:bH _ _ _ _ _ _=rc
 have e:=gR hC (λk:Nat=>PyData.tuple [.int (k:Int),ndD (cS ts k)]) (λk=>decide (eOf ts k=(q:Int))) (λk:Nat=>.sh (.int (k:Int))) (range ts.length) (zj ts) (by rw [Zu];exact Y8 (az (by lia))) (by
  intro k hk;rw [Yk]at hk;have he:=iD hk;refine ⟨?_,λ_=>?_⟩
  ·push_cast only [ndD,he]
  ·push_cast only [ndD])
 subst e;rw [gi];push_cast only [Yw];rfl
theorem iy (f g:Nat->β) (n k:Nat) (hk:∀q,q≠k->g q=f q):((range n).map f).set k (g k)=(range n).map g:=by
 apply Yo
 intro i;by_cases hi:k=i
 ·subst hi
  by_cases hn:k<n
  ·rw [Ym (by simpa using hn),Zx,Z6 hn]
   rfl
  ·rw [Zb (by simp;lia),Zb (by simp;lia)]
 ·rw [Yi hi,Zx,Zx]
  by_cases hn:i<n
  ·rw [Z6 hn]
   show some (f i)=some (g i)
   rw [hk i (Xj hi)]
  ·rw [Zb (by simp;lia)]
   rfl
def chI (ts:List Nd) (i q:Nat):List Nat:=(range i).filter (λj=>decide (eOf ts j=(q:Int)))
theorem EV (ts:List Nd) (i q:Nat):(chI ts i q).length<=i:=by
 unfold chI;have:=Xl (λj=>decide (eOf ts j=(q:Int))) (range i)
 rw [Zu]at this;exact this
theorem pZ (ts:List Nd) (i q:Nat):chI ts (i+1) q=chI ts i q++(if eOf ts i=(q:Int) then [i] else []):=by
 unfold chI;rw [Wf,Xr];congr 1
 by_cases h:eOf ts i=(q:Int)
 ·rw [N1 h]
  simp [h]
 ·rw [N2 h]
  simp [h]
def fK:Fs:=(sIf (iP (ao (eOp gLt (ae 1) (eC (.int 0)))) (ao (eOp gGe (ae 1) (eB a_ (aa (ae 0) ag))))) (gL "NoNode") sNx)
def aU:Fn:=aM 2 2 fK
def ko:Fs:=(aw (aH 2 (eOp bQ (ae 1) (eC (.int 1))))
 (aw (dM (oX (ao (eOp gLt (ae 2) (eB a_ (aa (ae 0) ag)))) (ao (eOp gGe (eOp gIx (eOp gIx (ae 0) (ae 2)) (eC (.int 0))) (ae 1)))) (yT 2 xC (eC (.int 1))))
 (aI (ae 2))))
def cy:Fn:=aM 2 3 ko
def iw:Fs:=(aw (aH 2 (eD1 (eUn gP (eC (.int 1))) (eUn gP (eC (.int 1)))))
 (aw (fX (iEn (ae 1)) (gTp 2 (aZ (gNm 3) (aZ (gNm 4) fP))) (sDP 2 (ae 4) (ae 3)))
 (aw (aH 5 (eSh (bu (dg (ae 1)) (gNm 0) dG (eOp gIx (ae 1) (ae 0)) 1 [0])))
 (rA 2 (aI (bu (dg (ae 5)) (gNm 0) dG (cP (aa (eOp gDx (ae 1) (eOp gIx (ae 0) (eC (.int 0)))) (aa (eOp gIx (ae 0) (eC (.int 1))) (aa (eOp gIx (ae 0) (eC (.int 2))) ag)))) 1 [2]))))))
def aR:Fn:=aM 2 6 iw
def bP:Fb:=(dc (mh 0 (λnm=>decide (nm = "Easel")) "tree" (eB eL (aa (ae 1) ag)))
 (dc (mh 0 (λnm=>decide (nm = "Easel")) "gap" (ae 2))
 (dc (mh 0 (λnm=>decide (nm = "Easel")) "folds" (cK ag))
 (dc (mh 0 (λnm=>decide (nm = "Easel")) "anew" (eB l9 (aa (eB a_ (aa (ae 1) ag)) ag)))
 bNx))))
def gI:Fs:=(aI (eB eL (aa (fT (λnm=>decide (nm = "Easel")) "tree" (ae 0)) ag)))
def cM:Fn:=aM 1 1 gI
def fU:Fs:=(aI (eB eL (aa (fT (λnm=>decide (nm = "Easel")) "folds" (ae 0)) ag)))
def cq:Fn:=aM 1 1 fU
def fu:Fs:=(aI (eB eL (aa (fT (λnm=>decide (nm = "Easel")) "anew" (ae 0)) ag)))
def b6:Fn:=aM 1 1 fu
def jG:Fs:=(aI (cP (aa (ae 0) (aa (eSh (eB l9 (aa (eB a_ (aa (ae 0) ag)) ag))) ag))))
def cw:Fn:=aM 1 1 jG
def ij:Fs:=(aw (aH 2 (eSh (bu (dg (eOp gIx (ae 0) (eC (.int 0)))) (gNm 0) dG (eOp gIx (ae 0) (eC (.int 0))) 1 [])))
 (aI (bu (iEn (eOp gIx (ae 0) (eC (.int 1)))) (gTp 2 (aZ (gNm 0) (aZ (gNm 1) fP))) (oX (ao (eOp (iY false) (ae 1) (ae 2))) (ao (eOp (iY false) (ae 0) (ae 3)))) (ae 0) 2 [1,2])))
def dX:Fn:=aM 2 3 ij
def gM:Fs:=(aw (aH 2 eD0)
 (aw (fX (dg (ae 1)) (gNm 3) (aw (aH 4 (ae 3))
 (dM (ao (eOp gNe (ae 4) (eUn gP (eC (.int 1))))) (aw (sDP 2 (ae 4) (eC (.bool true)))
 (aH 4 (eOp gIx (eOp gIx (ae 0) (ae 4)) (eC (.int 0))))))))
 (rA 2 (aI (eB CC (aa (eB Ai (aa (ae 2) ag)) ag))))))
def eY:Fn:=aM 2 5 gM
def hV:Fs:=(aw (aH 1 (bu (dg (ae 0)) (gNm 0) dG (cK ag) 1 []))
 (aw (fX (iR2 (eC (.int 1)) (eB a_ (aa (ae 0) ag))) (gNm 2) (ow 1 (eOp gIx (eOp gIx (ae 0) (ae 2)) (eC (.int 0))) (ae 2)))
 (mT (bu (dg (ae 0)) (gTp 3 (aZ (gNm 0) (aZ (gNm 1) (aZ (gNm 2) fP)))) dG (cP (aa (ae 1) (aa (ae 2) ag))) 3 []) 1 (eOp kW (cK (aa (eC (.bool false)) ag)) (eB a_ (aa (ae 0) ag))))))
def cF:Fn:=aM 1 3 hV
def iH:Fs:=(aw (aH 2 (cK ag))
 (aw (aH 3 (cK (aa (eC (.int 0)) ag)))
 (aw (dM (rP (ao (eOp gNe (ae 3) (cK ag)))) (aw (Aj 3 (gNm 4))
 (aw (nI 2 (ae 4))
 (sIf (iP (ao (ae 1)) (bA (ao (eOp gIx (eOp gIx (ae 0) (eC (.int 2))) (ae 4))))) (rA 3 (aH 3 (eOp bQ (ae 3) (BO (eOp gIx (eOp gIx (ae 0) (eC (.int 1))) (ae 4)) (eUn gP (eC (.int 1))))))) sNx))))
 (ly 2))))
def b5:Fn:=aM 2 5 iH
def gG:Fs:=(aw (aH 1 (eOp kW (cK (aa (eUn gP (eC (.int 1))) ag)) (eB a_ (aa (eOp gIx (ae 0) (eC (.int 0))) ag))))
 (aw (fX (iR1 (eB a_ (aa (eOp gIx (ae 0) (eC (.int 0))) ag))) (gNm 2) (fX (dg (eOp gIx (eOp gIx (ae 0) (eC (.int 1))) (ae 2))) (gNm 3) (zN 1 (ae 3) (ae 2))))
 (ly 1)))
def dq:Fn:=aM 1 4 gG
def ig:Fs:=(aI (bu (iR1 (ae 0)) (gNm 0) dG (eSh (cP (aa (eOp nB (eB sI (aa (ae 0) (aa (ae 1) ag))) (eC (.int 1))) (aa (eC (.str "ab")) (aa (eOp bQ (eC (.int 1)) (eOp eJ (ae 0) (eC (.int 9)))) ag))))) 1 [1]))
def aT:Fn:=aM 2 2 ig
def lh:Fs:=(aI (eOp gIx (cK (aa (eOp nB (eUn gP (eC (.int 1))) (eOp l8 (ae 1) (eC (.int 2)))) (aa (eOp bQ (ae 0) (eOp l8 (ae 1) (eC (.int 2)))) ag))) (eOp eJ (ae 1) (eC (.int 2)))))
def fO:Fn:=aM 2 2 lh
def pU:Fs:=(aw (aH 2 (cK ag))
 (aw (fX (dg (ae 0)) (gNm 3) (nI 2 (vk (eOr (eOp gEq (eOp gIx (ae 3) (eC (.int 0))) (eUn gP (eC (.int 1)))) (jR (eOp gIx (ae 2) (eOp gIx (ae 3) (eC (.int 0)))) (eOp (iY true) (eOp gIx (ae 3) (eC (.int 0))) (ae 1)))))))
 (aw (rA 2 (aH 4 (bu (iEn (ae 2)) (gTp 2 (aZ (gNm 0) (aZ (gNm 1) fP))) (ao (ae 1)) (ae 0) 2 [])))
 (qA (qU 4 (ak aR (aa (ae 0) (aa (ae 4) ag)))) 4))))
def lK:Fn:=aM 2 5 pU
def dZ:Fs:=(aw (cU (ak aU (aa (ae 0) (aa (ae 2) ag))))
 (sIf (ao (eOp (iY true) (ae 2) (ae 1))) (gL "NoDeed") sNx))
def bz:Fn:=aM 3 3 dZ
def gS:Fs:=(aI (eOp bQ (eB l9 (aa (ae 1) ag)) (eB kM (aa (ak cy (aa (ae 0) (aa (ae 1) ag))) (aa (eB a_ (aa (ae 0) ag)) ag)))))
def dk:Fn:=aM 2 2 gS
def fg:Fs:=(aw (sIf (iP (ao (eOp gLt (ae 3) (eC (.int 0)))) (ao (eOp gGt (ae 3) (eB a_ (aa (ae 2) ag))))) p7 sNx)
 (aI (eIf (ao (eOp gLt (ae 3) (eB a_ (aa (ae 2) ag)))) (eOp gIx (ae 2) (ae 3)) (ak cy (aa (ae 0) (aa (ae 1) ag))))))
def cN:Fn:=aM 4 4 fg
def dA:Fs:=(aw (sIf (iP (ao (eOp gLt (ae 3) (eC (.int 0)))) (ao (eOp gGt (ae 3) (eB a_ (aa (ae 2) ag))))) (gL "NoPlace") sNx)
 (aI (eIf (ao (eOp gLt (ae 3) (eB a_ (aa (ae 2) ag)))) (eOp gIx (ae 2) (ae 3)) (ak cy (aa (ae 0) (aa (ae 1) ag))))))
def bj:Fn:=aM 4 4 dA
def mK:Fs:=(aw (sIf (ao (eOp gGt (eB a_ (aa (ae 1) ag)) (eC (.int 40)))) p7 sNx)
 (aw (aH 2 (eSh (ak aR (aa (ae 0) (aa (ae 1) ag)))))
 (aw (sIf (ao (eOp gGt (eB rj (aa (ak cR (aa (ae 2) ag)) ag)) (eC (.int 8)))) p7 sNx)
 (aI (cP (aa (ae 2) (aa (ae 1) ag)))))))
def fj:Fn:=aM 2 3 mK
def kH:Fs:=(aw (sIf (ao (eOp gGt (eB a_ (aa (ae 1) ag)) (eC (.int 40)))) (gL "NoTree") sNx)
 (aw (aH 2 (eSh (ak aR (aa (ae 0) (aa (ae 1) ag)))))
 (aw (sIf (ao (eOp gGt (eB rj (aa (ak cR (aa (ae 2) ag)) ag)) (eC (.int 8)))) (gL "NoTree") sNx)
 (aI (cP (aa (ae 2) (aa (ae 1) ag)))))))
def cY:Fn:=aM 2 3 kH
def jH:Fs:=(aw (aH 2 (eSh (ak dq (aa (ae 0) ag))))
 (aw (aH 3 (cK ag))
 (aw (fX (dg (ae 1)) (gNm 4) (aw (aH 5 (eUn gP (eC (.int 1))))
 (aw (sIf (ao (eOp gGe (eOp gIx (ae 2) (ae 4)) (eC (.int 0)))) (aH 5 (yV (ae 1) (eOp gIx (ae 2) (ae 4)))) sNx)
 (nI 3 (cP (aa (ae 5) (aa (eOp gIx (eOp gIx (eOp gIx (ae 0) (eC (.int 0))) (ae 4)) (eC (.int 0))) (aa (eOp gIx (eOp gIx (eOp gIx (ae 0) (eC (.int 0))) (ae 4)) (eC (.int 1))) ag))))))))
 (ly 3))))
def dC:Fn:=aM 2 6 jH
def aW:Fb:=(dc (aH 2 (eSh (vd (ak b5 (aa (ae 0) (aa (eC (.bool true)) ag))))))
 (dc (aH 3 (eOp gIx (ae 2) (eOp gIx (ae 1) (eC (.int 1)))))
 (bIf (iP (ao (eOp gEq (eOp gIx (ae 1) (eC (.int 0))) (eC (.str "fold")))) (ao (eOp gEq (eOp gIx (ae 1) (eC (.int 0))) (eC (.str "unfold"))))) (dc (rJ 0 2 (ae 3) (eOp gEq (eOp gIx (ae 1) (eC (.int 0))) (eC (.str "fold"))))
 (Cc (cK (aa (ae 3) ag))))
 (bIf (ao (eOp gEq (eOp gIx (ae 1) (eC (.int 0))) (eC (.str "put")))) (dc (aH 4 (vk (eB a_ (aa (eOp gIx (ae 0) (eC (.int 0))) ag))))
 (dc (aH 5 (eSh (ak cF (aa (eOp gIx (ae 1) (eC (.int 3))) ag))))
 (dc (la 0 0 (eOp gIx (ae 5) (eC (.int 0))))
 (dc (la 0 1 (bu (dg (eOp gIx (ae 5) (eC (.int 1)))) (gNm 0) dG (eSh (bu (dg (ae 0)) (gNm 0) dG (eOp bQ (ae 1) (ae 0)) 1 [1])) 1 [4]))
 (dc (la 0 2 (eOp gIx (ae 5) (eC (.int 2))))
 (dc (qQ 0 1 (ae 3) (eOp gIx (ae 1) (eC (.int 2))) (ae 4))
 (Cc (cK (aa (ae 3) ag)))))))))
 Mh))))
def iJ:Fs:=(aw (cU (ak cH (aa (ae 0) (aa (ae 2) ag))))
 (sIf (iP (ao (eOp (iY false) (ae 2) (ae 1))) (ao (eOp gEq (eB a_ (aa (ak aP (aa (ae 0) (aa (ae 2) ag))) ag)) (eC (.int 0))))) p7 sNx))
def fC:Fn:=aM 3 3 iJ
def fG:Fs:=(aw (cU (ak aU (aa (ae 0) (aa (ae 2) ag))))
 (sIf (iP (ao (eOp (iY false) (ae 2) (ae 1))) (ao (eOp gEq (eB a_ (aa (ak aP (aa (ae 0) (aa (ae 2) ag))) ag)) (eC (.int 0))))) (gL "NoDeed") sNx))
def bY:Fn:=aM 3 3 fG
def kA:Fs:=(aw (cU (ak aU (aa (ae 0) (aa (ae 1) ag))))
 (aw (sIf (ao (eOp gEq (ae 1) (eC (.int 0)))) (gL "NoDeed") sNx)
 (aw (aH 2 (eSh (ak dk (aa (ae 0) (aa (ae 1) ag)))))
 (aI (cP (aa (eSh (ak aR (aa (ae 0) (aa (ae 2) ag)))) (aa (ae 2) ag)))))))
def dr:Fn:=aM 2 3 kA
def nX:Fs:=(aw (cU (ak cH (aa (ae 0) (aa (ae 1) ag))))
 (aw (aH 4 (eSh (ak cN (aa (ae 0) (aa (ae 1) (aa (ak aP (aa (ae 0) (aa (ae 1) ag))) (aa (ae 2) ag)))))))
 (aw (aH 5 (eOp bQ (ae 0) (cK (aa (cP (aa (ae 1) (aa (eOp gIx (eOp gIx (ae 3) (eC (.int 0))) (eC (.int 1))) (aa (eOp gIx (eOp gIx (ae 3) (eC (.int 0))) (eC (.int 2))) ag)))) ag))))
 (aw (fX (dg (eSl vq (ae 3) (mX (eC (.int 1))) oT)) (gNm 6) (nI 5 (eSh (cP (aa (eOp bQ (eOp gIx (ae 6) (eC (.int 0))) (eB a_ (aa (ae 0) ag))) (aa (eOp gIx (ae 6) (eC (.int 1))) (aa (eOp gIx (ae 6) (eC (.int 2))) ag)))))))
 (aw (rA 5 (aH 7 (eSh (eB kM (aa (eB a_ (aa (ae 0) ag)) (aa (eB a_ (aa (ae 5) ag)) ag))))))
 (aI (ak fj (aa (ae 5) (aa (eOp bQ (eOp bQ (eB l9 (aa (ae 4) ag)) (ae 7)) (eB kM (aa (ae 4) (aa (eB a_ (aa (ae 0) ag)) ag)))) ag)))))))))
def gu:Fn:=aM 4 8 nX
def iU:Fs:=(aw (cU (ak aU (aa (ae 0) (aa (ae 1) ag))))
 (aw (aH 4 (eSh (ak bj (aa (ae 0) (aa (ae 1) (aa (ak aP (aa (ae 0) (aa (ae 1) ag))) (aa (ae 2) ag)))))))
 (aw (aH 5 (eOp bQ (ae 0) (cK (aa (cP (aa (ae 1) (aa (eOp gIx (eOp gIx (ae 3) (eC (.int 0))) (eC (.int 1))) (aa (eOp gIx (eOp gIx (ae 3) (eC (.int 0))) (eC (.int 2))) ag)))) ag))))
 (aw (fX (dg (eSl vq (ae 3) (mX (eC (.int 1))) oT)) (gNm 6) (nI 5 (eSh (cP (aa (eOp bQ (eOp gIx (ae 6) (eC (.int 0))) (eB a_ (aa (ae 0) ag))) (aa (eOp gIx (ae 6) (eC (.int 1))) (aa (eOp gIx (ae 6) (eC (.int 2))) ag)))))))
 (aw (rA 5 (aH 7 (eSh (eB kM (aa (eB a_ (aa (ae 0) ag)) (aa (eB a_ (aa (ae 5) ag)) ag))))))
 (aI (ak cY (aa (ae 5) (aa (eOp bQ (eOp bQ (eB l9 (aa (ae 4) ag)) (ae 7)) (eB kM (aa (ae 4) (aa (eB a_ (aa (ae 0) ag)) ag)))) ag)))))))))
def c_:Fn:=aM 4 8 iU
def jE:Fs:=(aw (cU (ak aU (aa (ae 0) (aa (ae 1) ag))))
 (aw (cU (ak aU (aa (ae 0) (aa (ae 2) ag))))
 (aw (aH 4 (eSh (ak cy (aa (ae 0) (aa (ae 1) ag)))))
 (aw (sIf (ao (xt (ae 1) (ae 2) (ae 4))) (gL "NoDeed") sNx)
 (aw (aH 5 (eSh (bu (dg (ak aP (aa (ae 0) (aa (ae 2) ag)))) (gNm 0) (ao (eOp gNe (ae 0) (ae 1))) (ae 0) 1 [1])))
 (aw (aH 6 (eSh (ak bj (aa (ae 0) (aa (ae 2) (aa (ae 5) (aa (ae 3) ag)))))))
 (aw (aH 7 (eOp bQ (eOp bQ (eSl vq (ae 0) oT (mX (ae 1))) (cK (aa (cP (aa (ae 2) (aa (eOp gIx (eOp gIx (ae 0) (ae 1)) (eC (.int 1))) (aa (eOp gIx (eOp gIx (ae 0) (ae 1)) (eC (.int 2))) ag)))) ag))) (eSl vq (ae 0) (mX (eOp bQ (ae 1) (eC (.int 1)))) oT)))
 (aw (aH 8 (eSh (ak dk (aa (ae 0) (aa (ae 1) ag)))))
 (aw (aH 9 (eSh (bu (dg (ae 8)) (gNm 0) (ao (eOp gLt (ae 0) (ae 1))) (ae 0) 1 [6])))
 (aw (aH 10 (eSh (bu (dg (ae 8)) (gNm 0) (ao (eOp gGe (ae 0) (ae 1))) (ae 0) 1 [6])))
 (aI (ak cY (aa (ae 7) (aa (eOp bQ (eOp bQ (ae 9) (eB kM (aa (ae 1) (aa (ae 4) ag)))) (ae 10)) ag))))))))))))))
def c7:Fn:=aM 4 11 jE
def iF:Fs:=(aI (ak lK (aa (fT (λnm=>decide (nm = "Easel")) "tree" (ae 0)) (aa (fT (λnm=>decide (nm = "Easel")) "folds" (ae 0)) ag))))
def aS:Fn:=aM 1 1 iF
def aV:Fb:=(dc (aH 4 (eOp gIx (nu 0 (eSh (bG (λnm=>List.lookup nm [("Easel",aS)]) "seen" (ae 0) ag))) (eC (.int 1))))
 (dc (mh 0 (λnm=>decide (nm = "Easel")) "tree" (eOp gIx (ae 1) (eC (.int 0))))
 (dc (mh 0 (λnm=>decide (nm = "Easel")) "folds" (ak dX (aa (ae 1) (aa (ae 2) ag))))
 (dc (aH 5 (eSh (nu 0 (eSh (bG (λnm=>List.lookup nm [("Easel",aS)]) "seen" (ae 0) ag)))))
 (dc (aH 6 (eSh (bu (dg (eOp gIx (ae 5) (eC (.int 1)))) (gNm 0) dG (eOp gIx (eOp gIx (ae 1) (eC (.int 1))) (ae 0)) 1 [1])))
 (dc (aH 7 (eSh (bu (iEn (ae 6)) (gTp 2 (aZ (gNm 0) (aZ (gNm 1) fP))) (iP (ao (eOp (iY false) (ae 1) (ae 2))) (ao (eOp (iY true) (ae 1) (ae 3)))) (ae 0) 2 [3,4])))
 (dc (mh 0 (λnm=>decide (nm = "Easel")) "anew" (ak eY (aa (eOp gIx (ae 5) (eC (.int 0))) (aa (ae 7) ag))))
 bNx)))))))
def fI:Fs:=(aw (cU (ak bY (aa (fT (λnm=>decide (nm = "Easel")) "tree" (ae 0)) (aa (fT (λnm=>decide (nm = "Easel")) "folds" (ae 0)) (aa (ae 1) ag)))))
 (cU (bG (λnm=>List.lookup nm [("Easel",λ_=>.bad)]) "settle" (ae 0) (aa (ak cw (aa (fT (λnm=>decide (nm = "Easel")) "tree" (ae 0)) ag)) (aa (eOp bQ (fT (λnm=>decide (nm = "Easel")) "folds" (ae 0)) (cK (aa (ae 1) ag))) (aa (cK (aa (ae 1) ag)) ag))))))
def bJ:Fn:=aM 2 2 fI
def bX:Fb:=(dc (cU (ak fC (aa (gh 0 (λnm=>decide (nm = "Easel")) "tree") (aa (gh 0 (λnm=>decide (nm = "Easel")) "folds") (aa (ae 1) ag)))))
 (dc (kK "Easel" "settle" 8 0 aV (aa (ak cw (aa (gh 0 (λnm=>decide (nm = "Easel")) "tree") ag)) (aa (eOp bQ (gh 0 (λnm=>decide (nm = "Easel")) "folds") (cK (aa (ae 1) ag))) (aa (cK (aa (ae 1) ag)) ag))))
 bNx))
def d5:Fs:=(aw (cU (ak bz (aa (fT (λnm=>decide (nm = "Easel")) "tree" (ae 0)) (aa (fT (λnm=>decide (nm = "Easel")) "folds" (ae 0)) (aa (ae 1) ag)))))
 (cU (bG (λnm=>List.lookup nm [("Easel",λ_=>.bad)]) "settle" (ae 0) (aa (ak cw (aa (fT (λnm=>decide (nm = "Easel")) "tree" (ae 0)) ag)) (aa (bu (dg (fT (λnm=>decide (nm = "Easel")) "folds" (ae 0))) (gNm 0) (ao (eOp gNe (ae 0) (ae 1))) (ae 0) 1 [1]) (aa (cK (aa (ae 1) ag)) ag))))))
def bc:Fn:=aM 2 2 d5
def kg:Fs:=(cU (bG (λnm=>List.lookup nm [("Easel",λ_=>.bad)]) "settle" (ae 0) (aa (ak dr (aa (fT (λnm=>decide (nm = "Easel")) "tree" (ae 0)) (aa (ae 1) ag))) (aa (fT (λnm=>decide (nm = "Easel")) "folds" (ae 0)) (aa (cK (aa (eOp gIx (eOp gIx (fT (λnm=>decide (nm = "Easel")) "tree" (ae 0)) (ae 1)) (eC (.int 0))) ag)) ag)))))
def cZ:Fn:=aM 2 2 kg
def jP:Fs:=(cU (bG (λnm=>List.lookup nm [("Easel",λ_=>.bad)]) "settle" (ae 0) (aa (ak c_ (aa (fT (λnm=>decide (nm = "Easel")) "tree" (ae 0)) (aa (ae 1) (aa (ae 2) (aa (ae 3) ag))))) (aa (fT (λnm=>decide (nm = "Easel")) "folds" (ae 0)) (aa (cK (aa (ae 1) ag)) ag)))))
def cX:Fn:=aM 4 4 jP
def cu:Fb:=(dc (kK "Easel" "settle" 8 0 aV (aa (ak gu (aa (gh 0 (λnm=>decide (nm = "Easel")) "tree") (aa (ae 1) (aa (ae 2) (aa (ae 3) ag))))) (aa (gh 0 (λnm=>decide (nm = "Easel")) "folds") (aa (cK (aa (ae 1) ag)) ag))))
 bNx)
def iN:Fs:=(cU (bG (λnm=>List.lookup nm [("Easel",λ_=>.bad)]) "settle" (ae 0) (aa (ak c7 (aa (fT (λnm=>decide (nm = "Easel")) "tree" (ae 0)) (aa (ae 1) (aa (ae 2) (aa (ae 3) ag))))) (aa (fT (λnm=>decide (nm = "Easel")) "folds" (ae 0)) (aa (cK (aa (eOp gIx (eOp gIx (fT (λnm=>decide (nm = "Easel")) "tree" (ae 0)) (ae 1)) (eC (.int 0))) (aa (ae 2) ag))) ag)))))
def cG:Fn:=aM 4 4 iN
def d8:Fs:=(sIf (ao (eOp gEq (eOp gIx (ae 1) (eC (.int 0))) (eC (.str "fold")))) (cU (bG (λnm=>List.lookup nm [("Easel",bJ)]) "fold" (ae 0) (aa (eOp gIx (ae 1) (eC (.int 1))) ag))) (sIf (ao (eOp gEq (eOp gIx (ae 1) (eC (.int 0))) (eC (.str "unfold")))) (cU (bG (λnm=>List.lookup nm [("Easel",bc)]) "unfold" (ae 0) (aa (eOp gIx (ae 1) (eC (.int 1))) ag))) (sIf (ao (eOp gEq (eOp gIx (ae 1) (eC (.int 0))) (eC (.str "cut")))) (cU (bG (λnm=>List.lookup nm [("Easel",cZ)]) "cut" (ae 0) (aa (eOp gIx (ae 1) (eC (.int 1))) ag))) (sIf (ao (eOp gEq (eOp gIx (ae 1) (eC (.int 0))) (eC (.str "put")))) (cU (bG (λnm=>List.lookup nm [("Easel",cX)]) "put" (ae 0) (aa (eOp gIx (ae 1) (eC (.int 1))) (aa (eOp gIx (ae 1) (eC (.int 2))) (aa (eOp gIx (ae 1) (eC (.int 3))) ag))))) (cU (bG (λnm=>List.lookup nm [("Easel",cG)]) "move" (ae 0) (aa (eOp gIx (ae 1) (eC (.int 1))) (aa (eOp gIx (ae 1) (eC (.int 2))) (aa (eOp gIx (ae 1) (eC (.int 3))) ag)))))))))
def aN:Fn:=aM 2 2 d8
def b7:Fb:=(dc (sIf (ao (eOp gEq (eOp gIx (ae 1) (eC (.int 0))) (eC (.str "fold")))) (kK "Easel" "fold" 2 0 bX (aa (eOp gIx (ae 1) (eC (.int 1))) ag)) (sIf (ao (eOp gEq (eOp gIx (ae 1) (eC (.int 0))) (eC (.str "unfold")))) p7 (sIf (ao (eOp gEq (eOp gIx (ae 1) (eC (.int 0))) (eC (.str "cut")))) p7 (sIf (ao (eOp gEq (eOp gIx (ae 1) (eC (.int 0))) (eC (.str "put")))) (kK "Easel" "put" 4 0 cu (aa (eOp gIx (ae 1) (eC (.int 1))) (aa (eOp gIx (ae 1) (eC (.int 2))) (aa (eOp gIx (ae 1) (eC (.int 3))) ag)))) p7))))
 bNx)
def iX:Fn:=λ_=>.bad
def iT:Fs:=(aw (sIf (ao (eh "str" (ae 1))) (aI (jR (eh "str" (ae 0)) (eOp gEq (ae 0) (ae 1)))) sNx)
 (aw (sIf (ao (ak aD (aa (ae 1) ag))) (aI (jR (ak aD (aa (ae 0) ag)) (eOp gEq (ae 0) (ae 1)))) sNx)
 (aw (sIf (ao (eh "tuple" (ae 1))) (sIf (bA (ao (eh "tuple" (ae 0)))) (aI (eC (.bool false))) sNx) (sIf (bA (ao (eh "list" (ae 0)))) (aI (eC (.bool false))) sNx))
 (aw (sIf (ao (eOp gNe (eB a_ (aa (ae 0) ag)) (eB a_ (aa (ae 1) ag)))) (aI (eC (.bool false))) sNx)
 (aw (fX (uS (ae 0) (ae 1)) (gTp 2 (aZ (gNm 2) (aZ (gNm 3) fP))) (sIf (bA (ao (ak iX (aa (ae 2) (aa (ae 3) ag))))) (aI (eC (.bool false))) sNx))
 (aI (eC (.bool true))))))))
def fq:Fn:=aM 2 4 iT
def iS:Fs:=(aw (sIf (ao (eh "str" (ae 1))) (aI (jR (eh "str" (ae 0)) (eOp gEq (ae 0) (ae 1)))) sNx)
 (aw (sIf (ao (ak aD (aa (ae 1) ag))) (aI (jR (ak aD (aa (ae 0) ag)) (eOp gEq (ae 0) (ae 1)))) sNx)
 (aw (sIf (ao (eh "tuple" (ae 1))) (sIf (bA (ao (eh "tuple" (ae 0)))) (aI (eC (.bool false))) sNx) (sIf (bA (ao (eh "list" (ae 0)))) (aI (eC (.bool false))) sNx))
 (aw (sIf (ao (eOp gNe (eB a_ (aa (ae 0) ag)) (eB a_ (aa (ae 1) ag)))) (aI (eC (.bool false))) sNx)
 (aw (fX (uS (ae 0) (ae 1)) (gTp 2 (aZ (gNm 2) (aZ (gNm 3) fP))) (sIf (bA (ao (ak fq (aa (ae 2) (aa (ae 3) ag))))) (aI (eC (.bool false))) sNx))
 (aI (eC (.bool true))))))))
def fv:Fn:=aM 2 4 iS
def jA:Fs:=(aw (sIf (ao (eh "str" (ae 1))) (aI (jR (eh "str" (ae 0)) (eOp gEq (ae 0) (ae 1)))) sNx)
 (aw (sIf (ao (ak aD (aa (ae 1) ag))) (aI (jR (ak aD (aa (ae 0) ag)) (eOp gEq (ae 0) (ae 1)))) sNx)
 (aw (sIf (ao (eh "tuple" (ae 1))) (sIf (bA (ao (eh "tuple" (ae 0)))) (aI (eC (.bool false))) sNx) (sIf (bA (ao (eh "list" (ae 0)))) (aI (eC (.bool false))) sNx))
 (aw (sIf (ao (eOp gNe (eB a_ (aa (ae 0) ag)) (eB a_ (aa (ae 1) ag)))) (aI (eC (.bool false))) sNx)
 (aw (fX (uS (ae 0) (ae 1)) (gTp 2 (aZ (gNm 2) (aZ (gNm 3) fP))) (sIf (bA (ao (ak fv (aa (ae 2) (aa (ae 3) ag))))) (aI (eC (.bool false))) sNx))
 (aI (eC (.bool true))))))))
def dB:Fn:=aM 2 4 jA
def i8:Fs:=(aw (sIf (ao (eh "str" (ae 1))) (aI (jR (eh "str" (ae 0)) (eOp gEq (ae 0) (ae 1)))) sNx)
 (aw (sIf (ao (ak aD (aa (ae 1) ag))) (aI (jR (ak aD (aa (ae 0) ag)) (eOp gEq (ae 0) (ae 1)))) sNx)
 (aw (sIf (ao (eh "tuple" (ae 1))) (sIf (bA (ao (eh "tuple" (ae 0)))) (aI (eC (.bool false))) sNx) (sIf (bA (ao (eh "list" (ae 0)))) (aI (eC (.bool false))) sNx))
 (aw (sIf (ao (eOp gNe (eB a_ (aa (ae 0) ag)) (eB a_ (aa (ae 1) ag)))) (aI (eC (.bool false))) sNx)
 (aw (fX (uS (ae 0) (ae 1)) (gTp 2 (aZ (gNm 2) (aZ (gNm 3) fP))) (sIf (bA (ao (ak dB (aa (ae 2) (aa (ae 3) ag))))) (aI (eC (.bool false))) sNx))
 (aI (eC (.bool true))))))))
def iZ:Fn:=aM 2 4 i8
abbrev bI:Fn:=iZ
def br:Fb:=(dc (vR (eO 2 0 b7 (aa (ae 1) ag)))
 (Cc (eC (.int 0))))
def iB:Fs:=(aw (aH 3 (eSh (ak b5 (aa (ae 1) (aa (eC (.bool true)) ag)))))
 (aw (aH 4 (eSh (ak b5 (aa (ae 1) (aa (eC (.bool false)) ag)))))
 (aw (aH 5 (eSh (bu (iR1 (eB a_ (aa (ae 3) ag))) (gNm 0) (ao (eOp gIx (eOp gIx (ae 1) (eC (.int 2))) (eOp gIx (ae 2) (ae 0)))) (ae 0) 1 [1,3])))
 (aw (aH 6 (eSh (cK (aa (eSh (ak dC (aa (ae 1) (aa (ae 3) ag)))) (aa (ae 5) (aa (eSh (cP (aa (eSh (ak dC (aa (ae 1) (aa (ae 4) ag)))) (aa (eSh (bu (dg (ae 4)) (gNm 0) dG (yV (ae 1) (ae 0)) 1 [3])) ag)))) ag))))))
 (aw (fX (iR1 (eC (.int 3))) (gNm 7) (aw (aH 8 (eOp eJ (eOp bQ (ae 7) (ae 2)) (eC (.int 3))))
 (aw (aH 9 (eOp gIx (ae 6) (ae 8)))
 (aw (sIf (ao (eOp gEq (ae 8) (eC (.int 0)))) (aH 9 (eSh (bG (λnm=>List.lookup nm [("Easel",cM)]) "whole" (ae 0) ag))) sNx)
 (aw (sIf (ao (eOp gEq (ae 8) (eC (.int 1)))) (aH 9 (eSh (bG (λnm=>List.lookup nm [("Easel",cq)]) "folded" (ae 0) ag))) sNx)
 (aw (sIf (ao (eOp gEq (ae 8) (eC (.int 2)))) (aH 9 (eSh (bG (λnm=>List.lookup nm [("Easel",aS)]) "seen" (ae 0) ag))) sNx)
 (sIf (bA (ao (ak bI (aa (ae 9) (aa (eOp gIx (ae 6) (ae 8)) ag))))) (aI (eC (.bool false))) sNx)))))))
 (aI (eC (.bool true))))))))
def bM:Fn:=aM 3 10 iB
def fS:Fs:=(aw (aH 3 (eSh (cK ag)))
 (aw (xV aN (aa (ae 0) (aa (ae 1) ag)) (fun ρ=>uC ρ 4) 3 [("NoDeed",[false,true,false,false,false,false,false,true]),("NoNode",[true,false,false,false,false,false,false,true]),("NoPlace",[false,false,true,false,false,false,false,true]),("NoTree",[false,false,false,true,false,false,false,true])])
 (aI (eOp gEq (ae 3) (eOp bQ (bu (iR2 (eC (.int 1)) (eC (.int 8))) (gNm 0) dG (eOp gEq (ae 1) (ae 0)) 1 [2]) (cK (aa (eC (.bool true)) ag)))))))
def aj:Fn:=aM 3 5 fS
def eI:Fs:=(aw (aH 3 (eSh (ak fO (aa (ae 1) (aa (ae 2) ag)))))
 (aw (fX (dg (cK (aa (cP (aa (eC (.str "fold")) (aa (ae 3) ag))) (aa (cP (aa (eC (.str "unfold")) (aa (ae 3) ag))) (aa (cP (aa (eC (.str "cut")) (aa (ae 3) ag))) (aa (eSh (cP (aa (eC (.str "put")) (aa (ae 3) (aa (eUn gP (eC (.int 1))) (aa (eSh (ak aT (aa (eC (.int 40)) (aa (eC (.int 8)) ag)))) ag)))))) ag)))))) (gNm 4) (sIf (bA (ao (ak aj (aa (ae 0) (aa (ae 4) (aa (eC (.int 1)) ag)))))) (aI (eC (.bool false))) sNx))
 (aI (jR (ak aj (aa (ae 0) (aa (cP (aa (eC (.str "move")) (aa (ae 3) (aa (eC (.int 0)) (aa (eC (.int 9)) ag))))) (aa (eC (.int 1)) ag)))) (ak aj (aa (ae 0) (aa (cP (aa (eC (.str "move")) (aa (eC (.int 0)) (aa (ae 3) (aa (eUn gP (eC (.int 1))) ag))))) (aa (eC (.int 1)) ag))))))))
def cD:Fn:=aM 3 5 eI
def dP:Fs:=(aw (aH 3 (eOp nB (eB a_ (aa (ae 1) ag)) (eC (.int 1))))
 (aw (sIf (iP (bA (ao (ak aj (aa (ae 0) (aa (cP (aa (eC (.str "fold")) (aa (ae 3) ag))) (aa (eC (.int 2)) ag)))))) (bA (ao (ak aj (aa (ae 0) (aa (cP (aa (eC (.str "unfold")) (aa (eOp eJ (ae 2) (eB a_ (aa (ae 1) ag))) ag))) (aa (eC (.int 2)) ag))))))) (aI (eC (.bool false))) sNx)
 (aw (sIf (iP (bA (ao (ak aj (aa (ae 0) (aa (cP (aa (eC (.str "cut")) (aa (eC (.int 0)) ag))) (aa (eC (.int 2)) ag)))))) (bA (ao (ak aj (aa (ae 0) (aa (cP (aa (eC (.str "move")) (aa (eC (.int 0)) (aa (eOp eJ (ae 2) (eB a_ (aa (ae 1) ag))) (aa (eUn gP (eC (.int 1))) ag))))) (aa (eC (.int 2)) ag))))))) (aI (eC (.bool false))) sNx)
 (aI (ak aj (aa (ae 0) (aa (cP (aa (eC (.str "move")) (aa (ae 3) (aa (ae 3) (aa (eC (.int 99)) ag))))) (aa (eC (.int 2)) ag))))))))
def bS:Fn:=aM 3 4 dP
def du:Fs:=(aw (aH 3 (eOp eJ (ae 2) (eB a_ (aa (ae 1) ag))))
 (aw (aH 4 (eB a_ (aa (bu (dg (ae 1)) (gNm 0) (ao (eOp gEq (eOp gIx (ae 0) (eC (.int 0))) (ae 1))) (ae 0) 1 [3]) ag)))
 (aw (fX (dg (cK (aa (eOp nB (eUn gP (eC (.int 1))) (eOp l8 (ae 2) (eC (.int 64)))) (aa (eOp bQ (eOp bQ (ae 4) (eC (.int 1))) (eOp l8 (ae 2) (eC (.int 64)))) ag)))) (gNm 5) (sIf (bA (ao (ak aj (aa (ae 0) (aa (cP (aa (eC (.str "put")) (aa (ae 3) (aa (ae 5) (aa (eSh (ak aT (aa (eC (.int 40)) (aa (eC (.int 8)) ag)))) ag))))) (aa (eC (.int 3)) ag)))))) (aI (eC (.bool false))) sNx))
 (aw (sIf (ao (eOp gEq (eB a_ (aa (ae 1) ag)) (eC (.int 1)))) (aI (eC (.bool true))) sNx)
 (aw (aH 6 (eOp nB (eB a_ (aa (ae 1) ag)) (eC (.int 1))))
 (aw (aH 4 (eB a_ (aa (bu (iR1 (eB a_ (aa (ae 1) ag))) (gNm 0) (oX (ao (eOp gEq (eOp gIx (eOp gIx (ae 1) (ae 0)) (eC (.int 0))) (eC (.int 0)))) (ao (eOp gNe (ae 0) (ae 2)))) (ae 0) 1 [1,6]) ag)))
 (aI (jR (ak aj (aa (ae 0) (aa (cP (aa (eC (.str "move")) (aa (ae 6) (aa (eC (.int 0)) (aa (eOp bQ (ae 4) (eC (.int 1))) ag))))) (aa (eC (.int 3)) ag)))) (ak aj (aa (ae 0) (aa (cP (aa (eC (.str "move")) (aa (ae 6) (aa (eC (.int 0)) (aa (eUn gP (eC (.int 1))) ag))))) (aa (eC (.int 3)) ag))))))))))))
def bN:Fn:=aM 3 7 du
def dN:Fs:=(aw (aH 3 (eOp eJ (ae 2) (eB a_ (aa (ae 1) ag))))
 (aw (sIf (bA (ao (ak aj (aa (ae 0) (aa (cP (aa (eC (.str "put")) (aa (ae 3) (aa (eC (.int 0)) (aa (eSh (ak aT (aa (eC (.int 40)) (aa (eC (.int 8)) ag)))) ag))))) (aa (eC (.int 4)) ag)))))) (aI (eC (.bool false))) sNx)
 (aw (aH 4 (eC (.int 0)))
 (aw (aH 5 (ae 3))
 (aw (dM (ao (eOp gGt (ae 5) (eC (.int 0)))) (aw (aH 5 (eOp gIx (eOp gIx (ae 1) (ae 5)) (eC (.int 0))))
 (aH 4 (eOp bQ (ae 4) (eC (.int 1))))))
 (aI (ak aj (aa (ae 0) (aa (cP (aa (eC (.str "put")) (aa (ae 3) (aa (eC (.int 0)) (aa (eSh (ak aT (aa (eOp nB (eC (.int 9)) (ae 4)) (aa (eC (.int 8)) ag)))) ag))))) (aa (eC (.int 4)) ag))))))))))
def bU:Fn:=aM 3 6 dN
def wV:Fs:=(aw (aH 1 (eSh (ak eQ (aa (ae 0) (aa (eC (.int 2)) (aa (eOp bQ (eC (.int 1)) (eOp eJ (ak bL (aa (ae 0) (aa (eC (.int 0)) ag))) (eC (.int 12)))) (aa (eC (.int 9)) (aa (eC (.int 7)) ag))))))))
 (aw (aH 2 (sQ "Easel" 3 bP (aa (eB eL (aa (ae 1) ag)) (aa (eOp bQ (eC (.int 1)) (eOp eJ (ak bL (aa (ae 0) (aa (eC (.int 1)) ag))) (eC (.int 20)))) ag))))
 (aw (aH 3 (ak cF (aa (ae 1) ag)))
 (aw (aH 4 (eOp eJ (eOp kW (ak bL (aa (ae 0) (aa (eC (.int 16)) ag))) (eC (.int 48271))) (eC (.int 1000003))))
 (aw (sIf (rP (iP (bA (ao (ak cD (aa (ae 2) (aa (eB a_ (aa (ae 1) ag)) (aa (ae 4) ag)))))) (bA (ao (ak bS (aa (ae 2) (aa (ae 1) (aa (ae 4) ag)))))))) (aI (eC (.bool false))) sNx)
 (aw (sIf (rP (iP (bA (ao (ak bN (aa (ae 2) (aa (ae 1) (aa (ae 4) ag)))))) (bA (ao (ak bU (aa (ae 2) (aa (ae 1) (aa (ae 4) ag)))))))) (aI (eC (.bool false))) sNx)
 (aw (sIf (rP (iP (bA (ao (ak bM (aa (ae 2) (aa (ae 3) (aa (ae 4) ag)))))) (bA (ao (ak bI (aa (bG (λnm=>List.lookup nm [("Easel",b6)]) "redrawn" (ae 2) ag) (aa (eB l9 (aa (eB a_ (aa (ae 1) ag)) ag)) ag))))))) (aI (eC (.bool false))) sNx)
 (aw (aH 5 (eSh (cP (aa (eC (.str "put")) (aa (eOp eJ (ae 4) (eB a_ (aa (ae 1) ag))) (aa (eC (.int 0)) (aa (eSh (cK (aa (cP (aa (eUn gP (eC (.int 1))) (aa (eC (.str "x")) (aa (eC (.int 2)) ag)))) ag))) ag)))))))
 (aw (uA 4 2 br (aa (ae 5) ag) 0 (aI (eC (.bool false))) sNx)
 (aw (eO 8 3 aW (aa (ae 5) ag))
 (aw (sIf (rP (iP (bA (ao (ak aj (aa (ae 2) (aa (cP (aa (eC (.str "unfold")) (aa (eOp eJ (ae 4) (eB a_ (aa (ae 1) ag))) ag))) (aa (eC (.int 2)) ag)))))) (bA (ao (ak bM (aa (ae 2) (aa (ae 3) (aa (eOp l8 (ae 4) (eC (.int 3))) ag)))))))) (aI (eC (.bool false))) sNx)
 (aw (aH 5 (cP (aa (eC (.str "fold")) (aa (eOp eJ (ae 4) (eB a_ (aa (ae 1) ag))) ag))))
 (aw (uA 4 2 br (aa (ae 5) ag) 0 (aI (eC (.bool false))) (sIf (rP (bA (ao (ak aj (aa (ae 2) (aa (ae 5) (aa (eC (.int 2)) ag))))))) (aI (eC (.bool false))) sNx))
 (aw (eO 8 3 aW (aa (ae 5) ag))
 (aI (vk (ak bM (aa (ae 2) (aa (ae 3) (aa (eOp l8 (ae 4) (eC (.int 9))) ag))))))))))))))))))))
def rK:Fn:=aM 1 6 wV
def top (i:Nat):Ix:=PySem.Challenge.pw_boughdraw_k76_deeds_refused.main.body.getD i (.Pass ⟨0,0,0,0⟩)
set_option hygiene false in
local macro_rules
 |`(tactic| trivial)=>`(tactic| first
  | ((with_reducible show DA _ _ _ _);first | (refine aB ?_ ?_ <;> trivial) | exact cb)
  | ((with_reducible show DE _ _ _ _);first | ((with_reducible show DE _ _ _ (ae _));exact au _) | ((with_reducible show DE _ _ _ (eC _));first | exact mJ | exact Gx | exact AF) | ((with_reducible show DE _ _ _ (eOp gIx _ _));(refine CM wF CW ?_ ?_ (λ_ _=>rfl) <;> trivial)) | ((with_reducible show DE _ _ _ (eUn _ _));(refine Lo Hx (λ_=>Hc) ?_ <;> trivial)) | ((with_reducible show DE _ _ _ (eB eL _));(refine Fx (yS _ rfl) Ie rfl T.t6 lR ?_ <;> trivial)) | ((with_reducible show DE _ _ _ (eB Ai _));(refine Fx (BC rfl) (λ_=>IH) rfl T.t6 lR ?_ <;> trivial)) | ((with_reducible show DE _ _ _ (cP _));(refine w8 ?_ <;> trivial)) | ((with_reducible show DE _ _ _ (eSh _));(refine gZ ?_ <;> trivial)) | ((with_reducible show DE _ _ _ (eOp _ _ _));(refine mv IK (λ_=>Gi) ?_ ?_ <;> trivial)) | ((with_reducible show DE _ _ _ (eOp kW _ _));(refine mv Eo Hu ?_ ?_ <;> trivial)) | ((with_reducible show DE _ _ _ (eOp eJ _ _));(refine mv Ii (λ_=>GK) ?_ ?_ <;> trivial)) | ((with_reducible show DE _ _ _ (eOp l8 _ _));(refine mv C7 (λ_=>Hy) ?_ ?_ <;> trivial)) | ((with_reducible show DE _ _ _ (eOp bQ _ _));(refine mv l4 oE ?_ ?_ <;> trivial)) | ((with_reducible show DE _ _ _ (zX _));(refine Gs ?_ <;> trivial)) | ((with_reducible show DE _ _ _ (cK _));(refine uw ?_ <;> trivial)) | ((with_reducible show DE _ _ _ (eB kM _));(refine DV rfl rfl T.t6 lR rfl T.t9 ?_ <;> trivial)) | ((with_reducible show DE _ _ _ (eB l9 _));(refine CZ rfl rfl T.t6 lR rfl T.t9 ?_ <;> trivial)) | ((with_reducible show DE _ _ _ (eh _ _));first | (refine qW rfl T.t4 rfl T.tc Bh ?_ <;> trivial) | (refine qW rfl T.t4 rfl T.tb JC ?_ <;> trivial) | (refine qW rfl T.t4 rfl T.t6 lR ?_ <;> trivial) | (refine qW rfl T.t4 rfl T.t3 Gg ?_ <;> trivial) | (refine qW rfl T.t4 rfl T.t1 Ek ?_ <;> trivial)) | ((with_reducible show DE _ _ _ (eIf _ _ _));(refine K0 ?_ ?_ ?_ <;> trivial)) | ((with_reducible show DE _ _ _ (fT _ _ _));first | (refine uG (tb:=λnm=>decide (nm = "Easel")) (cC T.t1t ⟨T.t1v.c,T.t20⟩) ?_ <;> trivial) | (refine uG (tb:=λnm=>decide (nm = "Easel")) (cC T.t1t ⟨T.t1v.c,T.t1z⟩) ?_ <;> trivial) | (refine uG (tb:=λnm=>decide (nm = "Easel")) (cC T.t1t ⟨T.t1v.c,T.t1x⟩) ?_ <;> trivial)) | ((with_reducible show DE _ _ _ (eOp gEq _ _));(refine xg (wQ hr.units) CB ?_ ?_ (gJ _) <;> trivial)) | ((with_reducible show DE _ _ _ (eB a_ _));(refine pW lQ uq rfl T.t5 Vr ?_ <;> trivial)) | ((with_reducible show DE _ _ _ (eB CC _));(refine pW (zh _ rfl) GL rfl T.ta PyProof.Rows.boot_sorted ?_ <;> trivial)) | ((with_reducible show DE _ _ _ (eB sI _));(refine pW (zD rfl) (λ_=>Dz) rfl T.t8 PyProof.Rows.boot_min ?_ <;> trivial)) | ((with_reducible show DE _ _ _ (eB rj _));(refine pW (zu _ rfl rfl) DU rfl T.t7 PyProof.Rows.boot_max ?_ <;> trivial)) | ((with_reducible show DE _ _ _ (vk _));(refine AJ ?_ <;> trivial)) | ((with_reducible show DE _ _ _ (jR _ _));(refine A5 ?_ ?_ <;> trivial)) | ((with_reducible show DE _ _ _ (eD0));exact KZ) | ((with_reducible show DE _ _ _ (ak bU _));(refine dcl g8.y3 T.t3o hr ?_ <;> trivial)) | ((with_reducible show DE _ _ _ (ak bN _));(refine dcl g8.y2 T.t3n hr ?_ <;> trivial)) | ((with_reducible show DE _ _ _ (ak bS _));(refine dcl g8.y1 T.t3m hr ?_ <;> trivial)) | ((with_reducible show DE _ _ _ (ak cD _));(refine dcl g8.y0 T.t3l hr ?_ <;> trivial)) | ((with_reducible show DE _ _ _ (ak aj _));(refine dcl g7.y2 T.t3k hr ?_ <;> trivial)) | ((with_reducible show DE _ _ _ (ak bM _));(refine dcl g7.y1 T.t3j hr ?_ <;> trivial)) | ((with_reducible show DE _ _ _ (ak bI _));(refine dcl g6.y2 T.t3h hr ?_ <;> trivial)) | ((with_reducible show DE _ _ _ (ak dC _));(refine dcl g2.y9 T.t33 hr ?_ <;> trivial)) | ((with_reducible show DE _ _ _ (ak eQ _));(refine dcl g2.y8 T.t32 hr ?_ <;> trivial)) | ((with_reducible show DE _ _ _ (ak fj _));(refine dcl g2.y6 T.t31 hr ?_ <;> trivial)) | ((with_reducible show DE _ _ _ (ak cN _));(refine dcl g2.y4 T.t30 hr ?_ <;> trivial)) | ((with_reducible show DE _ _ _ (ak dk _));(refine dcl g2.y3 T.t2z hr ?_ <;> trivial)) | ((with_reducible show DE _ _ _ (ak lK _));(refine dcl g2.y1 T.t2x hr ?_ <;> trivial)) | ((with_reducible show DE _ _ _ (ak aP _));(refine dcl g2.y0 T.t2w hr ?_ <;> trivial)) | ((with_reducible show DE _ _ _ (ak fO _));(refine dcl g1.yn T.t2v hr ?_ <;> trivial)) | ((with_reducible show DE _ _ _ (ak aT _));(refine dcl g1.ym T.t2u hr ?_ <;> trivial)) | ((with_reducible show DE _ _ _ (ak dq _));(refine dcl g1.yh T.t2s hr ?_ <;> trivial)) | ((with_reducible show DE _ _ _ (ak b5 _));(refine dcl g1.yg T.t2r hr ?_ <;> trivial)) | ((with_reducible show DE _ _ _ (ak cF _));(refine dcl g1.yf T.t2q hr ?_ <;> trivial)) | ((with_reducible show DE _ _ _ (ak da _));(refine dcl g1.ye T.t2p hr ?_ <;> trivial)) | ((with_reducible show DE _ _ _ (ak aD _));(refine dcl g1.yd T.t2o hr ?_ <;> trivial)) | ((with_reducible show DE _ _ _ (ak bL _));(refine dcl g1.yc T.t2n hr ?_ <;> trivial)) | ((with_reducible show DE _ _ _ (ak cw _));(refine dcl g1.y9 T.t2k hr ?_ <;> trivial)) | ((with_reducible show DE _ _ _ (ak aR _));(refine dcl g1.y4 T.t2f hr ?_ <;> trivial)) | ((with_reducible show DE _ _ _ (ak cy _));(refine dcl g1.y3 T.t2e hr ?_ <;> trivial)) | ((with_reducible show DE _ _ _ (ak cR _));(refine dcl g1.y2 T.t2d hr ?_ <;> trivial)) | ((with_reducible show DE _ _ _ (ak cH _));(refine dcl g1.y0 T.t2c hr ?_ <;> trivial)) | ((with_reducible show DE _ _ _ (ak _ _));(refine dcl G__law_alike T.t3h hr ?_ <;> trivial)) | ((with_reducible show DE _ _ _ (ak c7 _));(refine dcx g3.y5 T.t38 hr Lv.of.pass ?_ <;> trivial)) | ((with_reducible show DE _ _ _ (ak c_ _));(refine dcx g3.y4 T.t37 hr Lv.of.pass ?_ <;> trivial)) | ((with_reducible show DE _ _ _ (ak dr _));(refine dcx g3.y2 T.t36 hr Lv.of.pass ?_ <;> trivial)) | ((with_reducible show DE _ _ _ (ak bY _));(refine dcx g3.y1 T.t35 hr Lv.of.pass ?_ <;> trivial)) | ((with_reducible show DE _ _ _ (ak cY _));(refine dcx g2.y7 T.t31 hr Lv.of.pass ?_ <;> trivial)) | ((with_reducible show DE _ _ _ (ak bj _));(refine dcx g2.y5 T.t30 hr Lv.of.pass ?_ <;> trivial)) | ((with_reducible show DE _ _ _ (ak bz _));(refine dcx g2.y2 T.t2y hr Lv.of.pass ?_ <;> trivial)) | ((with_reducible show DE _ _ _ (ak aU _));(refine dcx g1.y1 T.t2c hr Lv.of.pass ?_ <;> trivial)) | (refine wY ?_ <;> trivial))
  | ((with_reducible show DT _ _ _ _);first | ((with_reducible show DT _ _ _ (ao (eOp gLt _ _)));(refine dO Kf (λ_=>KI) ?_ ?_ (gJ _) <;> trivial)) | ((with_reducible show DT _ _ _ (ao (eOp gGt _ _)));(refine dO uX (λ_=>wb) ?_ ?_ (gJ _) <;> trivial)) | ((with_reducible show DT _ _ _ (ao (eOp gGe _ _)));(refine dO K7 (λ_=>L6) ?_ ?_ (gJ _) <;> trivial)) | ((with_reducible show DT _ _ _ (ao (eOp gNe _ _)));(refine dO (HS hr.units) Ml ?_ ?_ (gJ _) <;> trivial)) | ((with_reducible show DT _ _ _ (ao (eOp gEq _ _)));(refine dO (wQ hr.units) CB ?_ ?_ (gJ _) <;> trivial)) | ((with_reducible show DT _ _ _ (bA _));(refine C4 ?_ <;> trivial)) | ((with_reducible show DT _ _ _ (rP _));(refine BZ ?_ <;> trivial)) | ((with_reducible show DT _ _ _ (ao _));(refine CN ?_ <;> trivial)) | (refine zi ?_ <;> trivial))
  | ((with_reducible show DW _ _ _ _);first | (refine we ?_ ?_ <;> trivial) | (refine Bv ?_ ?_ <;> trivial) | (refine wI ?_ <;> trivial) | (refine yo ?_ <;> trivial))
  | ((with_reducible show DSs _ _ _ _);first | (refine af ?_ ?_ <;> trivial) | exact cx | (refine aA ?_ <;> trivial))
  | ((with_reducible show DS _ _ _ _);first | ((with_reducible show DS _ _ _ (dM _ _));(refine nG Yj ?_ ?_ <;> trivial)) | ((with_reducible show DS _ _ _ (aH _ _));first | (refine df nd rfl (Or.inr rfl) ?_ <;> trivial) | (refine df nd rfl (Or.inl rfl) ?_ <;> trivial)) | ((with_reducible show DS _ _ _ (aI _));(refine oq ?_ <;> trivial)) | ((with_reducible show DS _ _ _ (sIf _ _ _));(refine di ?_ ?_ ?_ <;> trivial)) | ((with_reducible show DS _ _ _ (rA _ _));(refine tZ _ ?_ <;> trivial)) | ((with_reducible show DS _ _ _ (cU _));(refine d7 ?_ <;> trivial)) | ((with_reducible show DS _ _ _ (nI _ _));(refine Cy _ ?_ <;> trivial)) | ((with_reducible show DS _ _ _ (ly _));exact C8 _) | ((with_reducible show DS _ _ _ (gL _));first | exact nP Lv.of rfl rfl T.tm T.tr.ex | exact nP Lv.of rfl rfl T.tk T.tq.ex | exact nP Lv.of rfl rfl T.ti T.tp.ex | exact nP Lv.of rfl rfl T.th T.to.ex) | ((with_reducible show DS _ _ _ (p7));exact Bw) | ((with_reducible show DS _ _ _ (fX _ _ _));(apply dJ <;> first | trivial | exact Yj | exact PassesOwn.leaving | exact λ_=>rfl)))
  | ((with_reducible show DG _ _ _ _ _);(refine bC ?_ ?_ ?_ <;> first | rfl | exact Or.inl rfl | exact Or.inr rfl | exact nd | (dsimp only [cxK];decide +kernel)))
  | ((with_reducible show DI _ _ _ _ _);first | ((with_reducible show DI _ _ _ _ (iR2 _ _));(refine Kg rfl T.t9 ?_ ?_ <;> trivial)) | ((with_reducible show DI _ _ _ _ (iR1 _));(refine J1 rfl T.t9 ?_ <;> trivial)) | ((with_reducible show DI _ _ _ _ (dg _));(refine tX ?_ <;> trivial)) | ((with_reducible show DI _ _ _ _ (iEn _));(refine Et rfl T.t2 ?_ <;> trivial)))
  | ((with_reducible show DF _ _ _ _);(refine wR ?_ <;> trivial))
  | ((with_reducible show DO _ _ _ _);(refine uE ?_ <;> trivial))
  | ((with_reducible show DB _ _ _ _ _);(refine Av ?_ <;> trivial))
  | (refine BlkK.mk rfl rfl (by decide +kernel) (by decide +kernel) (by decide +kernel) (by decide +kernel) ?_;(repeat (refine ⟨⟨rfl,rfl⟩,?_⟩));exact True.intro)
  |exact FnScope.mk rfl rfl rfl (by decide +kernel) rfl (by decide +kernel) (by decide +kernel))
abbrev jV:Ix:=top 13
theorem iK:FnScope ["tree", "node"] ["tree", "node"] (ah jV):=by trivial
abbrev iz:Ix:=top 15
theorem lL:FnScope ["tree", "levels", "row"] ["tree"] (ah iz):=by trivial
abbrev lN:Ix:=top 17
theorem ku:FnScope ["tree", "node", "end"] ["tree", "node"] (ah lN):=by trivial
abbrev eV:Ix:=top 18
theorem c9:FnScope ["rows", "numbers", "places", "place", "number", "named"] ["rows", "numbers"] (ah eV):=by trivial
abbrev e_:Ix:=(eS (top 30)).getD 0 (.Pass ⟨0,0,0,0⟩)
theorem nr:FnScope ["self", "tree", "gap"] ["self", "tree", "gap"] (ah e_):=by trivial
abbrev iA:Ix:=(eS (top 30)).getD 1 (.Pass ⟨0,0,0,0⟩)
theorem pT:FnScope ["self"] ["self"] (ah iA):=by trivial
abbrev gD:Ix:=(eS (top 30)).getD 2 (.Pass ⟨0,0,0,0⟩)
theorem o8:FnScope ["self"] ["self"] (ah gD):=by trivial
abbrev fV:Ix:=(eS (top 30)).getD 5 (.Pass ⟨0,0,0,0⟩)
theorem ox:FnScope ["self"] ["self"] (ah fV):=by trivial
abbrev kX:Ix:=top 31
theorem uk:FnScope ["tree"] ["tree"] (ah kX):=by trivial
abbrev eE:Ix:=top 32
theorem iC:FnScope ["changed", "folds", "elders"] ["changed", "folds"] (ah eE):=by trivial
abbrev ic:Ix:=top 33
theorem lM:FnScope ["tree", "nodes", "found", "node", "higher"] ["tree", "nodes"] (ah ic):=by trivial
abbrev lD:Ix:=top 35
theorem nA:FnScope ["_law_script", "_law_k", "_law_number"] ["_law_script", "_law_k"] (ah lD):=by trivial
abbrev jO:Ix:=top 36
theorem md:FnScope ["_law_found"] ["_law_found"] (ah jO):=by trivial
abbrev jK:Ix:=top 37
theorem mi:FnScope ["_law_number", "_law_most", "_law_letters", "_law_label_here", "_law_k"] ["_law_number", "_law_most"] (ah jK):=by trivial
abbrev eX:Ix:=top 39
theorem iM:FnScope ["_law_tree_here", "_law_kids", "_law_k"] ["_law_tree_here"] (ah eX):=by trivial
abbrev jT:Ix:=top 40
theorem ie:FnScope ["_law_state", "_law_all_of_them", "_law_found", "_law_left", "_law_node"] ["_law_state", "_law_all_of_them"] (ah jT):=by trivial
abbrev iG:Ix:=top 41
theorem kZ:FnScope ["_law_state", "_law_found", "_law_node", "_law_child"] ["_law_state"] (ah iG):=by trivial
abbrev kj:Ix:=top 55
theorem bW:FnScope ["_law_e", "_law_found"] ["_law_e"] (ah kj):=by trivial
abbrev gk:Ix:=top 57
theorem mq:FnScope ["_law_many", "_law_level_here"] ["_law_many", "_law_level_here"] (ah gk):=by trivial
abbrev mF:Ix:=top 58
theorem vL:FnScope ["_law_size", "_law_number"] ["_law_size", "_law_number"] (ah mF):=by trivial
abbrev fJ:Ix:=top 14
theorem lp:FnScope ["tree", "node"] ["tree", "node"] (ah fJ):=by trivial
abbrev pE:Ix:=top 20
theorem pP:FnScope ["tree", "folds", "seen", "row", "numbers"] ["tree", "folds"] (ah pE):=by trivial
abbrev gF:Ix:=top 22
theorem o5:FnScope ["tree", "folds", "node"] ["tree", "folds", "node"] (ah gF):=by trivial
abbrev fA:Ix:=top 24
theorem nK:FnScope ["tree", "node"] ["tree", "node"] (ah fA):=by trivial
abbrev fY:Ix:=top 27
theorem jC:FnScope ["tree", "elder", "children", "place"] ["tree", "elder", "children", "place"] (ah fY):=by trivial
abbrev nU:Ix:=top 28
theorem j_:FnScope ["rows", "numbers", "tree"] ["rows", "numbers"] (ah nU):=by trivial
abbrev lO:Ix:=top 38
theorem jF:FnScope ["_law_script", "_law_start_here", "_law_many", "_law_most", "_law_deep", "_law_tree_here", "_law_way", "_law_k", "_law_number", "_law_keep"] ["_law_script", "_law_start_here", "_law_many", "_law_most", "_law_deep"] (ah lO):=by trivial
abbrev kR:Ix:=top 42
theorem kI:FnScope ["_law_state", "_law_order_here", "_law_elders_here", "_law_found", "_law_node", "_law_elder"] ["_law_state", "_law_order_here"] (ah kR):=by trivial
abbrev g_:Ix:=top 49
theorem kG:FnScope ["_law_state", "_law_deed", "_law_order_here", "_law_node", "_law_first", "_law_more", "_law_elder", "_law_touched"] ["_law_state", "_law_deed"] (ah g_):=by trivial
abbrev kE:Ix:=top 21
theorem mn:FnScope ["tree", "folds", "node"] ["tree", "folds", "node"] (ah kE):=by trivial
abbrev oF:Ix:=top 23
theorem rh:FnScope ["tree", "node", "numbers"] ["tree", "node"] (ah oF):=by trivial
abbrev rL:Ix:=top 25
theorem lU:FnScope ["tree", "elder", "place", "other", "later", "rows", "row", "new"] ["tree", "elder", "place", "other"] (ah rL):=by trivial
abbrev lV:Ix:=top 26
theorem iO:FnScope ["tree", "node", "elder", "place", "end", "children", "later", "rows", "rest", "ahead", "behind"] ["tree", "node", "elder", "place"] (ah lV):=by trivial
abbrev kf:Ix:=(eS (top 30)).getD 3 (.Pass ⟨0,0,0,0⟩)
theorem rR:FnScope ["self"] ["self"] (ah kf):=by trivial
abbrev dv:Ix:=(eS (top 30)).getD 11 (.Pass ⟨0,0,0,0⟩)
theorem cn:FnScope ["self", "changed", "folds", "touched", "before", "now", "numbers", "roused"] ["self", "changed", "folds", "touched"] (ah dv):=by trivial
abbrev jX:Ix:=(eS (top 30)).getD 6 (.Pass ⟨0,0,0,0⟩)
theorem ma:FnScope ["self", "node"] ["self", "node"] (ah jX):=by trivial
abbrev eT:Ix:=(eS (top 30)).getD 7 (.Pass ⟨0,0,0,0⟩)
theorem kL:FnScope ["self", "node"] ["self", "node"] (ah eT):=by trivial
abbrev k7:Ix:=(eS (top 30)).getD 8 (.Pass ⟨0,0,0,0⟩)
theorem tK:FnScope ["self", "node"] ["self", "node"] (ah k7):=by trivial
abbrev lg:Ix:=(eS (top 30)).getD 9 (.Pass ⟨0,0,0,0⟩)
theorem mO:FnScope ["self", "elder", "place", "tree"] ["self", "elder", "place", "tree"] (ah lg):=by trivial
abbrev jM:Ix:=(eS (top 30)).getD 10 (.Pass ⟨0,0,0,0⟩)
theorem rV:FnScope ["self", "node", "elder", "place"] ["self", "node", "elder", "place"] (ah jM):=by trivial
abbrev oG:Ix:=top 50
theorem qN:FnScope ["_law_easel", "_law_deed"] ["_law_easel", "_law_deed"] (ah oG):=by trivial
abbrev jW:Ix:=top 53
theorem aF:FnScope ["_law_found", "_law_due_here", "_law_one", "_law_other"] ["_law_found", "_law_due_here"] (ah jW):=by trivial
abbrev lj:Ix:=top 51
theorem uz:FnScope ["_law_easel", "_law_deed", "_law_e", "_law_kinds_here"] ["_law_easel", "_law_deed"] (ah lj):=by trivial
abbrev eP:Ix:=top 54
theorem cI:FnScope ["_law_easel", "_law_state", "_law_turn", "_law_order_here", "_law_sight", "_law_shut", "_law_due_here", "_law_k", "_law_at", "_law_found"] ["_law_easel", "_law_state", "_law_turn"] (ah eP):=by trivial
abbrev eR:Ix:=top 56
theorem cj:FnScope ["_law_easel", "_law_deed", "_law_due_here", "_law_found", "_law_e"] ["_law_easel", "_law_deed", "_law_due_here"] (ah eR):=by trivial
abbrev fi:Ix:=top 59
theorem gY:FnScope ["_law_easel", "_law_size", "_law_number", "_law_far_here", "_law_deed"] ["_law_easel", "_law_size", "_law_number"] (ah fi):=by trivial
abbrev eg:Ix:=top 60
theorem fZ:FnScope ["_law_easel", "_law_tree_here", "_law_number", "_law_leaf"] ["_law_easel", "_law_tree_here", "_law_number"] (ah eg):=by trivial
abbrev bT:Ix:=top 61
theorem cA:FnScope ["_law_easel", "_law_tree_here", "_law_number", "_law_node", "_law_many", "_law_place", "_law_last"] ["_law_easel", "_law_tree_here", "_law_number"] (ah bT):=by trivial
abbrev d_:Ix:=top 62
theorem f9:FnScope ["_law_easel", "_law_tree_here", "_law_number", "_law_node", "_law_level_here", "_law_elder"] ["_law_easel", "_law_tree_here", "_law_number"] (ah d_):=by trivial
abbrev mS:Ix:=top 63
theorem xc:FnScope ["_law_script", "_law_tree_here", "_law_easel", "_law_state", "_law_number", "_law_deed"] ["_law_script"] (ah mS):=by trivial
theorem lR:bootBuiltins "list" = some (.type "list"):=by decide +kernel
theorem Bh:bootBuiltins "tuple" = some (.type "tuple"):=by decide +kernel
theorem Gg:bootBuiltins "int" = some (.type "int"):=by decide +kernel
theorem Ek:bootBuiltins "bool" = some (.type "bool"):=by decide +kernel
theorem JC:bootBuiltins "str" = some (.type "str"):=by decide +kernel
theorem fF:bootBuiltins "ValueError" = some (.type "ValueError"):=by decide +kernel
set_option genInjectivity false
structure Ad where
 (j0 j1 j2 j3 j4 j5 j6 j7 j8 j9 ja jb jc jd je jf jg jh ji jj jk jl jm jn jo jp jq jr js jt ju jv jw jx jy jz j10 j11 j12 j13 j14 j15 j16 j17 j18 j19 j1a j1b j1c j1d j1e j1f j1g j1h j1i j1j j1k j1l:Is)
 (j1m j1n j1o j1p j1q j1r j1s j1t j1u j1v j1w j1x j1y j1z j20 j21 j22 j23 j24 j25 j26 j27 j28 j29 j2a j2b j2c j2d j2e j2f j2g j2h j2i j2j j2k j2l j2m j2n j2o j2p j2q j2r j2s j2t j2u j2v j2w j2x j2y:Fk)
structure DefM (K:At) (x q:Str) (st:Ix) (ps:List Str) (f:Is) (fd:Fk):Prop where
 F:Fun K x q st f fd
 b:Binds K fd ps []
structure Wd (K:At) (mg:Str->Ch) (J:Ad):Prop where
 t0:mg "ValueError" = none
 t1:mg "bool" = none
 t2:mg "enumerate" = none
 t3:mg "int" = none
 t4:mg "isinstance" = none
 t5:mg "len" = none
 t6:mg "list" = none
 t7:mg "max" = none
 t8:mg "min" = none
 t9:mg "range" = none
 ta:mg "sorted" = none
 tb:mg "str" = none
 tc:mg "tuple" = none
 td:mg "zip" = none
 te:∃t,mg "GREATEST_LEVEL" = some (.int 8 t)
 tf:∃t,mg "MOST_NODES" = some (.int 40 t)
 tg:mg "DrawError" = some (.ref J.j1)
 th:mg "NoDeed" = some (.ref J.j2)
 ti:mg "NoNode" = some (.ref J.j3)
 tj:mg "NoPicture" = some (.ref J.j4)
 tk:mg "NoPlace" = some (.ref J.j5)
 tl:mg "NoText" = some (.ref J.j6)
 tm:mg "NoTree" = some (.ref J.j7)
 tn:mg "TooMany" = some (.ref J.j8)
 to:ExcK K J.j2
 tp:ExcK K J.j3
 tq:ExcK K J.j5
 tr:ExcK K J.j7
 ts:excIn K J.j1 vE vN=true
 tt:subIn K (.ref J.j2) (.ref J.j1)=some true
 tu:subIn K (.ref J.j3) (.ref J.j1)=some true
 tv:subIn K (.ref J.j5) (.ref J.j1)=some true
 tw:subIn K (.ref J.j7) (.ref J.j1)=some true
 tx:kitOne K (.ref J.j2) (.ref J.j2)=some true
 ty:kitOne K (.ref J.j2) (.ref J.j3)=some false
 tz:kitOne K (.ref J.j2) (.ref J.j4)=some false
 t10:kitOne K (.ref J.j2) (.ref J.j5)=some false
 t11:kitOne K (.ref J.j2) (.ref J.j6)=some false
 t12:kitOne K (.ref J.j2) (.ref J.j7)=some false
 t13:kitOne K (.ref J.j2) (.ref J.j8)=some false
 t14:kitOne K (.ref J.j3) (.ref J.j2)=some false
 t15:kitOne K (.ref J.j3) (.ref J.j3)=some true
 t16:kitOne K (.ref J.j3) (.ref J.j4)=some false
 t17:kitOne K (.ref J.j3) (.ref J.j5)=some false
 t18:kitOne K (.ref J.j3) (.ref J.j6)=some false
 t19:kitOne K (.ref J.j3) (.ref J.j7)=some false
 t1a:kitOne K (.ref J.j3) (.ref J.j8)=some false
 t1b:kitOne K (.ref J.j5) (.ref J.j2)=some false
 t1c:kitOne K (.ref J.j5) (.ref J.j3)=some false
 t1d:kitOne K (.ref J.j5) (.ref J.j4)=some false
 t1e:kitOne K (.ref J.j5) (.ref J.j5)=some true
 t1f:kitOne K (.ref J.j5) (.ref J.j6)=some false
 t1g:kitOne K (.ref J.j5) (.ref J.j7)=some false
 t1h:kitOne K (.ref J.j5) (.ref J.j8)=some false
 t1i:kitOne K (.ref J.j7) (.ref J.j2)=some false
 t1j:kitOne K (.ref J.j7) (.ref J.j3)=some false
 t1k:kitOne K (.ref J.j7) (.ref J.j4)=some false
 t1l:kitOne K (.ref J.j7) (.ref J.j5)=some false
 t1m:kitOne K (.ref J.j7) (.ref J.j6)=some false
 t1n:kitOne K (.ref J.j7) (.ref J.j7)=some true
 t1o:kitOne K (.ref J.j7) (.ref J.j8)=some false
 t1p:kitOne K (.ref J.j2) (.type "ValueError")=some true
 t1q:kitOne K (.ref J.j3) (.type "ValueError")=some true
 t1r:kitOne K (.ref J.j5) (.type "ValueError")=some true
 t1s:kitOne K (.ref J.j7) (.type "ValueError")=some true
 t1t:nsIn K mainGlobals "Easel" = some (some (.ref J.j0))
 t1u:mg "Easel" = some (.ref J.j0)
 t1v:InsK K J.j0
 t1w:Mk K J.j0 J.jd
 t1x:dQ K J.j0 "tree"
 t1y:dQ K J.j0 "gap"
 t1z:dQ K J.j0 "folds"
 t20:dQ K J.j0 "anew"
 t21:Meth K J.j0 "cut" J.j1a
 t22:Meth K J.j0 "fold" J.j18
 t23:Meth K J.j0 "folded" J.jf
 t24:Meth K J.j0 "move" J.j1c
 t25:Meth K J.j0 "put" J.j1b
 t26:Meth K J.j0 "redrawn" J.jg
 t27:Meth K J.j0 "seen" J.j16
 t28:Meth K J.j0 "settle" J.j17
 t29:Meth K J.j0 "unfold" J.j19
 t2a:Meth K J.j0 "whole" J.je
 t2b:kitOne K (.ref J.j0) (.ref J.j0)=some true
 t2c:Def K mg "check_node" jV ["tree", "node"] J.j9 J.j1m
 t2d:Def K mg "node_levels" iz ["tree"] J.ja J.j1n
 t2e:Def K mg "bough_end" lN ["tree", "node"] J.jb J.j1o
 t2f:Def K mg "renumbered" eV ["rows", "numbers"] J.jc J.j1p
 t2g:DefM K "__init__" "Easel.__init__" e_ ["self", "tree", "gap"] J.jd J.j1q
 t2h:DefM K "whole" "Easel.whole" iA ["self"] J.je J.j1r
 t2i:DefM K "folded" "Easel.folded" gD ["self"] J.jf J.j1s
 t2j:DefM K "redrawn" "Easel.redrawn" fV ["self"] J.jg J.j1t
 t2k:Def K mg "unchanged" kX ["tree"] J.jh J.j1u
 t2l:Def K mg "kept_folds" eE ["changed", "folds"] J.ji J.j1v
 t2m:Def K mg "with_elders" ic ["tree", "nodes"] J.jj J.j1w
 t2n:Def K mg "_law_cell" lD ["_law_script", "_law_k"] J.jk J.j1x
 t2o:Def K mg "_law_whole" jO ["_law_found"] J.jl J.j1y
 t2p:Def K mg "_law_label" jK ["_law_number", "_law_most"] J.jm J.j1z
 t2q:Def K mg "_law_start" eX ["_law_tree_here"] J.jn J.j20
 t2r:Def K mg "_law_order" jT ["_law_state", "_law_all_of_them"] J.jo J.j21
 t2s:Def K mg "_law_elders" iG ["_law_state"] J.jp J.j22
 t2t:Def K mg "_law_kinds" kj ["_law_e"] J.jq J.j23
 t2u:Def K mg "_law_chain" gk ["_law_many", "_law_level_here"] J.jr J.j24
 t2v:Def K mg "_law_far" mF ["_law_size", "_law_number"] J.js J.j25
 t2w:Def K mg "children_of" fJ ["tree", "node"] J.jt J.j26
 t2x:Def K mg "shown" pE ["tree", "folds"] J.ju J.j27
 t2y:Def K mg "check_unfold" gF ["tree", "folds", "node"] J.jv J.j28
 t2z:Def K mg "numbers_beside" fA ["tree", "node"] J.jw J.j29
 t30:Def K mg "number_behind" fY ["tree", "elder", "children", "place"] J.jx J.j2a
 t31:Def K mg "bounded" nU ["rows", "numbers"] J.jy J.j2b
 t32:Def K mg "_law_tree" lO ["_law_script", "_law_start_here", "_law_many", "_law_most", "_law_deep"] J.jz J.j2c
 t33:Def K mg "_law_rows" kR ["_law_state", "_law_order_here"] J.j10 J.j2d
 t34:Def K mg "_law_done" g_ ["_law_state", "_law_deed"] J.j11 J.j2e
 t35:Def K mg "check_fold" kE ["tree", "folds", "node"] J.j12 J.j2f
 t36:Def K mg "cut_off" oF ["tree", "node"] J.j13 J.j2g
 t37:Def K mg "put_in" rL ["tree", "elder", "place", "other"] J.j14 J.j2h
 t38:Def K mg "moved" lV ["tree", "node", "elder", "place"] J.j15 J.j2i
 t39:DefM K "seen" "Easel.seen" kf ["self"] J.j16 J.j2j
 t3a:DefM K "settle" "Easel.settle" dv ["self", "changed", "folds", "touched"] J.j17 J.j2k
 t3b:DefM K "fold" "Easel.fold" jX ["self", "node"] J.j18 J.j2l
 t3c:DefM K "unfold" "Easel.unfold" eT ["self", "node"] J.j19 J.j2m
 t3d:DefM K "cut" "Easel.cut" k7 ["self", "node"] J.j1a J.j2n
 t3e:DefM K "put" "Easel.put" lg ["self", "elder", "place", "tree"] J.j1b J.j2o
 t3f:DefM K "move" "Easel.move" jM ["self", "node", "elder", "place"] J.j1c J.j2p
 t3g:Def K mg "_law_do" oG ["_law_easel", "_law_deed"] J.j1d J.j2q
 t3h:Def K mg "_law_alike" jW ["_law_found", "_law_due_here"] J.j1e J.j2r
 t3i:Def K mg "_law_said" lj ["_law_easel", "_law_deed"] J.j1f J.j2s
 t3j:Def K mg "_law_looks" eP ["_law_easel", "_law_state", "_law_turn"] J.j1g J.j2t
 t3k:Def K mg "_law_refused" eR ["_law_easel", "_law_deed", "_law_due_here"] J.j1h J.j2u
 t3l:Def K mg "_law_strangers" fi ["_law_easel", "_law_size", "_law_number"] J.j1i J.j2v
 t3m:Def K mg "_law_wrong_deeds" eg ["_law_easel", "_law_tree_here", "_law_number"] J.j1j J.j2w
 t3n:Def K mg "_law_wrong_places" bT ["_law_easel", "_law_tree_here", "_law_number"] J.j1k J.j2x
 t3o:Def K mg "_law_wrong_trees" d_ ["_law_easel", "_law_tree_here", "_law_number"] J.j1l J.j2y
structure G1 (P:Do) (w:Ev) (K:At) (mg:Str->Ch) (base:N0) (J:Ad):Prop where
 y0:FnOk P w K mg base CX0 1 J.j9 J.j1m ["tree", "node"] (sp3 K mg cH)
 y1:FnOk P w K mg base (CXE P w) 1 J.j9 J.j1m ["tree", "node"] (sp3 K mg aU)
 y2:FnOk P w K mg base CX0 1 J.ja J.j1n ["tree"] (sp3 K mg cR)
 y3:FnOk P w K mg base CX0 1 J.jb J.j1o ["tree", "node"] (sp3 K mg cy)
 y4:FnOk P w K mg base CX0 1 J.jc J.j1p ["rows", "numbers"] (sp3 K mg aR)
 y5:FnOk P w K mg base CX0 1 J.jd J.j1q ["self", "tree", "gap"] (spP K 3 3 bP)
 y6:FnOk P w K mg base CX0 1 J.je J.j1r ["self"] (sp3 K mg cM)
 y7:FnOk P w K mg base CX0 1 J.jf J.j1s ["self"] (sp3 K mg cq)
 y8:FnOk P w K mg base CX0 1 J.jg J.j1t ["self"] (sp3 K mg b6)
 y9:FnOk P w K mg base CX0 1 J.jh J.j1u ["tree"] (sp3 K mg cw)
 ya:FnOk P w K mg base CX0 1 J.ji J.j1v ["changed", "folds"] (sp3 K mg dX)
 yb:FnOk P w K mg base CX0 1 J.jj J.j1w ["tree", "nodes"] (sp3 K mg eY)
 yc:FnOk P w K mg base CX0 1 J.jk J.j1x ["_law_script", "_law_k"] (sp3 K mg bL)
 yd:FnOk P w K mg base CX0 1 J.jl J.j1y ["_law_found"] (sp3 K mg aD)
 ye:FnOk P w K mg base CX0 1 J.jm J.j1z ["_law_number", "_law_most"] (sp3 K mg da)
 yf:FnOk P w K mg base CX0 1 J.jn J.j20 ["_law_tree_here"] (sp3 K mg cF)
 yg:FnOk P w K mg base CX0 1 J.jo J.j21 ["_law_state", "_law_all_of_them"] (sp3 K mg b5)
 yh:FnOk P w K mg base CX0 1 J.jp J.j22 ["_law_state"] (sp3 K mg dq)
 yi:∀(C:Is) (hC:mg "NoDeed" = some (.ref C)),KindsOk P w K mg base J.jq J.j23 ["_law_e"] C (([false,true,false,false,false,false,false,true]:List Bool).map V.bl)
 yj:∀(C:Is) (hC:mg "NoNode" = some (.ref C)),KindsOk P w K mg base J.jq J.j23 ["_law_e"] C (([true,false,false,false,false,false,false,true]:List Bool).map V.bl)
 yk:∀(C:Is) (hC:mg "NoPlace" = some (.ref C)),KindsOk P w K mg base J.jq J.j23 ["_law_e"] C (([false,false,true,false,false,false,false,true]:List Bool).map V.bl)
 yl:∀(C:Is) (hC:mg "NoTree" = some (.ref C)),KindsOk P w K mg base J.jq J.j23 ["_law_e"] C (([false,false,false,true,false,false,false,true]:List Bool).map V.bl)
 ym:FnOk P w K mg base CX0 1 J.jr J.j24 ["_law_many", "_law_level_here"] (sp3 K mg aT)
 yn:FnOk P w K mg base CX0 1 J.js J.j25 ["_law_size", "_law_number"] (sp3 K mg fO)
structure G2 (P:Do) (w:Ev) (K:At) (mg:Str->Ch) (base:N0) (J:Ad):Prop where
 y0:FnOk P w K mg base CX0 2 J.jt J.j26 ["tree", "node"] (sp3 K mg aP)
 y1:FnOk P w K mg base CX0 2 J.ju J.j27 ["tree", "folds"] (sp3 K mg lK)
 y2:FnOk P w K mg base (CXE P w) 2 J.jv J.j28 ["tree", "folds", "node"] (sp3 K mg bz)
 y3:FnOk P w K mg base CX0 2 J.jw J.j29 ["tree", "node"] (sp3 K mg dk)
 y4:FnOk P w K mg base CX0 2 J.jx J.j2a ["tree", "elder", "children", "place"] (sp3 K mg cN)
 y5:FnOk P w K mg base (CXE P w) 2 J.jx J.j2a ["tree", "elder", "children", "place"] (sp3 K mg bj)
 y6:FnOk P w K mg base CX0 2 J.jy J.j2b ["rows", "numbers"] (sp3 K mg fj)
 y7:FnOk P w K mg base (CXE P w) 2 J.jy J.j2b ["rows", "numbers"] (sp3 K mg cY)
 y8:FnOk P w K mg base CX0 2 J.jz J.j2c ["_law_script", "_law_start_here", "_law_many", "_law_most", "_law_deep"] (sp3 K mg eQ)
 y9:FnOk P w K mg base CX0 2 J.j10 J.j2d ["_law_state", "_law_order_here"] (sp3 K mg dC)
 ya:FnOk P w K mg base CX0 2 J.j11 J.j2e ["_law_state", "_law_deed"] (spP K 2 8 aW)
structure G3 (P:Do) (w:Ev) (K:At) (mg:Str->Ch) (base:N0) (J:Ad):Prop where
 y0:FnOk P w K mg base CX0 3 J.j12 J.j2f ["tree", "folds", "node"] (sp3 K mg fC)
 y1:FnOk P w K mg base (CXE P w) 3 J.j12 J.j2f ["tree", "folds", "node"] (sp3 K mg bY)
 y2:FnOk P w K mg base (CXE P w) 3 J.j13 J.j2g ["tree", "node"] (sp3 K mg dr)
 y3:FnOk P w K mg base CX0 3 J.j14 J.j2h ["tree", "elder", "place", "other"] (sp3 K mg gu)
 y4:FnOk P w K mg base (CXE P w) 3 J.j14 J.j2h ["tree", "elder", "place", "other"] (sp3 K mg c_)
 y5:FnOk P w K mg base (CXE P w) 3 J.j15 J.j2i ["tree", "node", "elder", "place"] (sp3 K mg c7)
 y6:FnOk P w K mg base CX0 3 J.j16 J.j2j ["self"] (sp3 K mg aS)
structure G4 (P:Do) (w:Ev) (K:At) (mg:Str->Ch) (base:N0) (J:Ad):Prop where
 y0:FnOk P w K mg base CX0 4 J.j17 J.j2k ["self", "changed", "folds", "touched"] (spP K 4 8 aV)
structure G5 (P:Do) (w:Ev) (K:At) (mg:Str->Ch) (base:N0) (J:Ad):Prop where
 y0:FnOk P w K mg base (CXE P w) 5 J.j18 J.j2l ["self", "node"] (sp3 K mg bJ)
 y1:FnOk P w K mg base CX0 5 J.j18 J.j2l ["self", "node"] (spP K 2 2 bX)
 y2:FnOk P w K mg base (CXE P w) 5 J.j19 J.j2m ["self", "node"] (sp3 K mg bc)
 y3:FnOk P w K mg base (CXE P w) 5 J.j1a J.j2n ["self", "node"] (sp3 K mg cZ)
 y4:FnOk P w K mg base (CXE P w) 5 J.j1b J.j2o ["self", "elder", "place", "tree"] (sp3 K mg cX)
 y5:FnOk P w K mg base CX0 5 J.j1b J.j2o ["self", "elder", "place", "tree"] (spP K 4 4 cu)
 y6:FnOk P w K mg base (CXE P w) 5 J.j1c J.j2p ["self", "node", "elder", "place"] (sp3 K mg cG)
structure G6 (P:Do) (w:Ev) (K:At) (mg:Str->Ch) (base:N0) (J:Ad):Prop where
 y0:FnOk P w K mg base (CXE P w) 6 J.j1d J.j2q ["_law_easel", "_law_deed"] (sp3 K mg aN)
 y1:FnOk P w K mg base CX0 6 J.j1d J.j2q ["_law_easel", "_law_deed"] (spP K 2 2 b7)
 y2:FnOk P w K mg base CX0 6 J.j1e J.j2r ["_law_found", "_law_due_here"] (sp3 K mg bI)
structure G7 (P:Do) (w:Ev) (K:At) (mg:Str->Ch) (base:N0) (J:Ad):Prop where
 y0:FnOk P w K mg base CX0 7 J.j1f J.j2s ["_law_easel", "_law_deed"] (spP K 2 4 br)
 y1:FnOk P w K mg base CX0 7 J.j1g J.j2t ["_law_easel", "_law_state", "_law_turn"] (sp3 K mg bM)
 y2:FnOk P w K mg base CX0 7 J.j1h J.j2u ["_law_easel", "_law_deed", "_law_due_here"] (sp3 K mg aj)
structure G8 (P:Do) (w:Ev) (K:At) (mg:Str->Ch) (base:N0) (J:Ad):Prop where
 y0:FnOk P w K mg base CX0 8 J.j1i J.j2v ["_law_easel", "_law_size", "_law_number"] (sp3 K mg cD)
 y1:FnOk P w K mg base CX0 8 J.j1j J.j2w ["_law_easel", "_law_tree_here", "_law_number"] (sp3 K mg bS)
 y2:FnOk P w K mg base CX0 8 J.j1k J.j2x ["_law_easel", "_law_tree_here", "_law_number"] (sp3 K mg bN)
 y3:FnOk P w K mg base CX0 8 J.j1l J.j2y ["_law_easel", "_law_tree_here", "_law_number"] (sp3 K mg bU)
section
variable {P:Do} {w:Ev} {K:At} {mg:Str->Ch} {base:N0} {J:Ad}
theorem bK (b:Blk X sc scope outs):BlkK X sc scope outs:=⟨b.hsc,b.kind,b.loc,λx hx h=>absurd h (b.nocell x hx),λx hx _ h=>b.nocell _ h rfl,b.fr,b.out⟩
theorem dcx {st:Ix} (G:FnOk X.prog X.w M.K M.mg X.base CX k f fd ps (sp3 M.K M.mg fn)) (D:Def M.K M.mg x st ps f fd) (hr:Room k' X.A) (hx:Passes CX X M.E) (ha:DA M X (e :: es) al) (hk:k<=k':=by decide) (hg:Gl X x:=by rfl) (hdb:(x == ("__debug__" : Str))=false:=by decide) (he:starEach (e :: es) X.env=(false,eval e X.env) :: starEach es X.env:=by rfl) (hpl:(backTo pos (starEach es X.env)).any (·.1)=false:=by rfl):DE M X (.Call (.Name x p) (e :: es) [] pos) (ak fn al):=EG G (hr.mono hk) hg D.g D.F.kp D.b hx ha hdb he hpl
theorem dcl {st:Ix} (G:FnOk X.prog X.w M.K M.mg X.base CX0 k f fd ps (sp3 M.K M.mg fn)) (D:Def M.K M.mg x st ps f fd) (hr:Room k' X.A) (ha:DA M X (e :: es) al) (hk:k<=k':=by decide) (hg:Gl X x:=by rfl) (hdb:(x == ("__debug__" : Str))=false:=by decide) (he:starEach (e :: es) X.env=(false,eval e X.env) :: starEach es X.env:=by rfl) (hpl:(backTo pos (starEach es X.env)).any (·.1)=false:=by rfl):DE M X (.Call (.Name x p) (e :: es) [] pos) (ak fn al):=dcx G D hr dH ha hk hg hdb he hpl
theorem n8 (T:Wd K mg J) (g1:G1 P w K mg base J) (G__law_alike:FnOk P w K mg base CX0 2 J.j1e J.j2r ["_law_found", "_law_due_here"] (sp3 K mg iX)):FnOk P w K mg base CX0 3 J.j1e J.j2r ["_law_found", "_law_due_here"] (sp3 K mg fq):=by
 refine cV rfl rfl rfl T.t3h.F aF λ_ _ _ _ _ _ hr=>?_
 have nd:=aF.nd;unfold iT;exact af (by trivial) (af (by trivial) (af (by trivial) (af (by trivial) (af (dJ rfl Yj (xH rfl T.td (au 0) (au 1)) (ia (n:=2) rfl (ba (bC (i:=2) aF.nd rfl (Or.inl rfl)) (ba (bC (i:=3) aF.nd rfl (Or.inl rfl)) fH))) (by trivial)) (by trivial)))))
theorem oy (T:Wd K mg J) (g1:G1 P w K mg base J) (G__law_alike:FnOk P w K mg base CX0 3 J.j1e J.j2r ["_law_found", "_law_due_here"] (sp3 K mg fq)):FnOk P w K mg base CX0 4 J.j1e J.j2r ["_law_found", "_law_due_here"] (sp3 K mg fv):=by
 refine cV rfl rfl rfl T.t3h.F aF λ_ _ _ _ _ _ hr=>?_
 have nd:=aF.nd;unfold iS;exact af (by trivial) (af (by trivial) (af (by trivial) (af (by trivial) (af (dJ rfl Yj (xH rfl T.td (au 0) (au 1)) (ia (n:=2) rfl (ba (bC (i:=2) aF.nd rfl (Or.inl rfl)) (ba (bC (i:=3) aF.nd rfl (Or.inl rfl)) fH))) (by trivial)) (by trivial)))))
theorem nQ (T:Wd K mg J) (g1:G1 P w K mg base J) (G__law_alike:FnOk P w K mg base CX0 4 J.j1e J.j2r ["_law_found", "_law_due_here"] (sp3 K mg fv)):FnOk P w K mg base CX0 5 J.j1e J.j2r ["_law_found", "_law_due_here"] (sp3 K mg dB):=by
 refine cV rfl rfl rfl T.t3h.F aF λ_ _ _ _ _ _ hr=>?_
 have nd:=aF.nd;unfold jA;exact af (by trivial) (af (by trivial) (af (by trivial) (af (by trivial) (af (dJ rfl Yj (xH rfl T.td (au 0) (au 1)) (ia (n:=2) rfl (ba (bC (i:=2) aF.nd rfl (Or.inl rfl)) (ba (bC (i:=3) aF.nd rfl (Or.inl rfl)) fH))) (by trivial)) (by trivial)))))
theorem oN (T:Wd K mg J) (g1:G1 P w K mg base J) (G__law_alike:FnOk P w K mg base CX0 5 J.j1e J.j2r ["_law_found", "_law_due_here"] (sp3 K mg dB)):FnOk P w K mg base CX0 6 J.j1e J.j2r ["_law_found", "_law_due_here"] (sp3 K mg iZ):=by
 refine cV rfl rfl rfl T.t3h.F aF λ_ _ _ _ _ _ hr=>?_
 have nd:=aF.nd;unfold i8;exact af (by trivial) (af (by trivial) (af (by trivial) (af (by trivial) (af (dJ rfl Yj (xH rfl T.td (au 0) (au 1)) (ia (n:=2) rfl (ba (bC (i:=2) aF.nd rfl (Or.inl rfl)) (ba (bC (i:=3) aF.nd rfl (Or.inl rfl)) fH))) (by trivial)) (by trivial)))))
theorem mk1 (T:Wd K mg J):G1 P w K mg base J:=by
 refine ⟨?_,?_,?_,?_,?_,?_,?_,?_,?_,?_,?_,?_,?_,?_,?_,?_,?_,?_,?_,?_,?_,?_,?_,?_⟩
 ·refine cV rfl rfl rfl T.t2c.F iK λ_ _ _ _ _ _ hr=>?_
  have nd:=iK.nd;unfold iu;trivial
 ·refine m5 rfl rfl rfl T.t2c.F iK λ_ _ _ _ _ _ hr=>?_
  unfold fK;trivial
 ·refine cV rfl rfl rfl T.t2d.F lL λ_ _ _ _ _ _ hr=>?_
  have nd:=lL.nd;unfold gK;trivial
 ·refine cV rfl rfl rfl T.t2e.F ku λ_ _ _ _ _ _ hr=>?_
  have nd:=ku.nd;unfold ko;exact af (by trivial) (af (nG Yj (by trivial) (aA (GF (i:=2) ku.nd rfl (Or.inl rfl) mJ Iy (λ_=>A1)))) (by trivial))
 ·refine cV rfl rfl rfl T.t2f.F c9 λ_ _ _ _ _ _ hr=>?_
  have nd:=c9.nd;unfold iw;exact af (df (i:=2) c9.nd rfl (Or.inr rfl) (K5 (by trivial) (by trivial))) (af (dJ rfl Yj (by trivial) (ia (n:=2) rfl (ba (bC (i:=3) c9.nd rfl (Or.inl rfl)) (ba (bC (i:=4) c9.nd rfl (Or.inl rfl)) fH))) (aA (xU 2 (wA hr) (au 4) (au 3)))) (af (eU (i:=5) (sc:=(ah eV)) (outs:=[(0, "rows")]) (is:=[0]) ["number"] (λ_ _ _ q=>vF q) c9.nd rfl (Or.inl rfl) (by trivial) rfl (by decide) (by trivial) (λ_ _ _ _ _=>by trivial) (λ_ _ _ _ _=>gE) (λ_ _ _ _ _=>by trivial)) (aA (tZ 2 (oq (cQ (sc:=(ah eV)) (outs:=[(2, "places")]) (is:=[0]) ["row"] (by trivial) rfl (by decide) (by trivial) (λ_ _ _ _ _=>by trivial) (λ_ _ _ _ _=>gE) (λ_ _ _ _ _=>w8 (aB (J7 (wA hr) (au 1) (by trivial) (λ_ _=>rfl)) (by trivial)))))))))
 ·refine fnP rfl rfl T.t2g.F nr λ_ _ _ _ _ _ hr=>?_
  unfold bP;exact bb (jI (tb:=λnm=>decide (nm = "Easel")) (i:=0) (cC T.t1t ⟨T.t1v.c,T.t1x⟩) (aK rfl (by first | exact Or.inl rfl | exact Or.inr (Or.inl rfl) | exact Or.inr (Or.inr rfl))) (by trivial)) (bb (jI (tb:=λnm=>decide (nm = "Easel")) (i:=0) (cC T.t1t ⟨T.t1v.c,T.t1y⟩) (aK rfl (by first | exact Or.inl rfl | exact Or.inr (Or.inl rfl) | exact Or.inr (Or.inr rfl))) (au 2)) (bb (jI (tb:=λnm=>decide (nm = "Easel")) (i:=0) (cC T.t1t ⟨T.t1v.c,T.t1z⟩) (aK rfl (by first | exact Or.inl rfl | exact Or.inr (Or.inl rfl) | exact Or.inr (Or.inr rfl))) (uw cb)) (bb (jI (tb:=λnm=>decide (nm = "Easel")) (i:=0) (cC T.t1t ⟨T.t1v.c,T.t20⟩) (aK rfl (by first | exact Or.inl rfl | exact Or.inr (Or.inl rfl) | exact Or.inr (Or.inr rfl))) (by trivial)) pR)))
 ·refine cV rfl rfl rfl T.t2h.F pT λ_ _ _ _ _ _ hr=>?_
  unfold gI;trivial
 ·refine cV rfl rfl rfl T.t2i.F o8 λ_ _ _ _ _ _ hr=>?_
  unfold fU;trivial
 ·refine cV rfl rfl rfl T.t2j.F ox λ_ _ _ _ _ _ hr=>?_
  unfold fu;trivial
 ·refine cV rfl rfl rfl T.t2k.F uk λ_ _ _ _ _ _ hr=>?_
  unfold jG;trivial
 ·refine cV rfl rfl rfl T.t2l.F iC λ_ _ _ _ _ _ hr=>?_
  have nd:=iC.nd;unfold ij;exact af (df (i:=2) iC.nd rfl (Or.inr rfl) (gZ (cQ (sc:=(ah eE)) (outs:=[]) (is:=[0]) ["row"] (by trivial) rfl (by decide) (by trivial) (λ_ _ _ _ _=>by trivial) (λ_ _ _ _ _=>gE) (λ_ _ _ _ _=>by trivial)))) (aA (oq (cQ (sc:=(ah eE)) (outs:=[(1, "folds"),(2, "elders")]) (is:=[0,1]) ["node", "number"] (by trivial) rfl (by decide) (by trivial) (λ_ _ _ _ _=>ia (n:=2) rfl (ba (bC (i:=0) (show List.Nodup (["node", "number", "folds", "elders"]:List Str) by decide +kernel) rfl (Or.inl rfl)) (ba (bC (i:=1) (show List.Nodup (["node", "number", "folds", "elders"]:List Str) by decide +kernel) rfl (Or.inl rfl)) fH))) (λ_ _ _ _ _=>wR (zi (Bv (dO jD kY (au 1) (au 2) rfl) (yo (dO jD kY (au 0) (au 3) rfl))))) (λ_ _ _ _ _=>au 0))))
 ·refine cV rfl rfl rfl T.t2m.F lM λ_ _ _ _ _ _ hr=>?_
  have nd:=lM.nd;unfold gM;exact af (by trivial) (af (dJ rfl Yj (by trivial) (by trivial) (af (by trivial) (aA (nG Yj (by trivial) (af (xU 2 (wA hr) (au 4) AF) (by trivial)))))) (by trivial))
 ·refine cV rfl rfl rfl T.t2n.F nA λ_ _ _ _ _ _ hr=>?_
  have nd:=nA.nd;unfold jY;trivial
 ·refine cV rfl rfl rfl T.t2o.F md λ_ _ _ _ _ _ hr=>?_
  have nd:=md.nd;unfold dW;trivial
 ·refine cV rfl rfl rfl T.t2p.F mi λ_ _ _ _ _ _ hr=>?_
  have nd:=mi.nd;unfold iE;trivial
 ·refine cV rfl rfl rfl T.t2q.F iM λ_ _ _ _ _ _ hr=>?_
  have nd:=iM.nd;unfold hV;exact af (eU (i:=1) (sc:=(ah eX)) (outs:=[]) (is:=[0]) ["_law_row"] (λ_ _ _ q=>q) iM.nd rfl (Or.inl rfl) (by trivial) rfl (by decide) (by trivial) (λ_ _ _ _ _=>by trivial) (λ_ _ _ _ _=>gE) (λ_ _ _ _ _=>uw cb)) (af (dJ rfl Yj (by trivial) (by trivial) (aA (Cj 1 (by trivial) (au 2) (λ_ _=>rfl)))) (aA (zJ 1 (cQ (sc:=(ah eX)) (outs:=[]) (is:=[0,1,2]) ["_law_elder", "_law_label_here", "_law_tall"] (by trivial) rfl (by decide) (by trivial) (λ_ _ _ _ _=>ia (n:=3) rfl (ba (bC (i:=0) (show List.Nodup (["_law_elder", "_law_label_here", "_law_tall"]:List Str) by decide +kernel) rfl (Or.inl rfl)) (ba (bC (i:=1) (show List.Nodup (["_law_elder", "_law_label_here", "_law_tall"]:List Str) by decide +kernel) rfl (Or.inl rfl)) (ba (bC (i:=2) (show List.Nodup (["_law_elder", "_law_label_here", "_law_tall"]:List Str) by decide +kernel) rfl (Or.inl rfl)) fH)))) (λ_ _ _ _ _=>gE) (λ_ _ _ _ _=>by trivial)) (by trivial))))
 ·refine cV rfl rfl rfl T.t2r.F ie λ_ _ _ _ _ _ hr=>?_
  have nd:=ie.nd;unfold iH;exact af (by trivial) (af (by trivial) (af (nG Yj (by trivial) (af (HR 3 (by trivial)) (af (by trivial) (aA (di (by trivial) (aA (tZ 3 (df (i:=3) ie.nd rfl (Or.inl rfl) (mv l4 oE (au 3) (Hi (λv u=>[v,u]) (by trivial) (by trivial)))))) cx))))) (by trivial)))
 ·refine cV rfl rfl rfl T.t2s.F kZ λ_ _ _ _ _ _ hr=>?_
  have nd:=kZ.nd;unfold gG;exact af (by trivial) (af (dJ rfl Yj (by trivial) (by trivial) (aA (dJ rfl Yj (by trivial) (by trivial) (aA (GR 1 (au 3) (au 2)))))) (by trivial))
 ·intro C hC
  cases T.th.symm.trans hC;refine kinds_of T.t2t.F bW λcdv A outer s H ea oe hoc=>?_
  refine gQ (bs:=[false,true,false,false]) (cs:=[false,false,false,true]) bW.nd rfl (Or.inl rfl) (Or.inl rfl) ?_ ?_ (by decide)
  ·refine aJ ?_ ?_
   ·exact aO ⟨T.to,Zz,hoc⟩ (λ_ h=>h.1) rfl (Or.inl rfl) rfl T.t4 rfl T.ti T.ty
   refine aJ ?_ ?_
   ·exact aO ⟨T.to,Zz,hoc⟩ (λ_ h=>h.1) rfl (Or.inl rfl) rfl T.t4 rfl T.th T.tx
   refine aJ ?_ ?_
   ·exact aO ⟨T.to,Zz,hoc⟩ (λ_ h=>h.1) rfl (Or.inl rfl) rfl T.t4 rfl T.tk T.t10
   refine aJ ?_ ?_
   ·exact aO ⟨T.to,Zz,hoc⟩ (λ_ h=>h.1) rfl (Or.inl rfl) rfl T.t4 rfl T.tm T.t12
   exact lA
  ·refine aJ ?_ ?_
   ·exact aO ⟨T.to,Zz,hoc⟩ (λ_ h=>h.1) rfl (Or.inl rfl) rfl T.t4 rfl T.tl T.t11
   refine aJ ?_ ?_
   ·exact aO ⟨T.to,Zz,hoc⟩ (λ_ h=>h.1) rfl (Or.inl rfl) rfl T.t4 rfl T.tj T.tz
   refine aJ ?_ ?_
   ·exact aO ⟨T.to,Zz,hoc⟩ (λ_ h=>h.1) rfl (Or.inl rfl) rfl T.t4 rfl T.tn T.t13
   refine aJ ?_ ?_
   ·exact pA ⟨T.to,Zz,hoc⟩ (λ_ h=>h.1) rfl (Or.inl rfl) rfl T.t4 rfl T.t0 fF T.t1p
   exact lA
 ·intro C hC
  cases T.ti.symm.trans hC;refine kinds_of T.t2t.F bW λcdv A outer s H ea oe hoc=>?_
  refine gQ (bs:=[true,false,false,false]) (cs:=[false,false,false,true]) bW.nd rfl (Or.inl rfl) (Or.inl rfl) ?_ ?_ (by decide)
  ·refine aJ ?_ ?_
   ·exact aO ⟨T.tp,Zz,hoc⟩ (λ_ h=>h.1) rfl (Or.inl rfl) rfl T.t4 rfl T.ti T.t15
   refine aJ ?_ ?_
   ·exact aO ⟨T.tp,Zz,hoc⟩ (λ_ h=>h.1) rfl (Or.inl rfl) rfl T.t4 rfl T.th T.t14
   refine aJ ?_ ?_
   ·exact aO ⟨T.tp,Zz,hoc⟩ (λ_ h=>h.1) rfl (Or.inl rfl) rfl T.t4 rfl T.tk T.t17
   refine aJ ?_ ?_
   ·exact aO ⟨T.tp,Zz,hoc⟩ (λ_ h=>h.1) rfl (Or.inl rfl) rfl T.t4 rfl T.tm T.t19
   exact lA
  ·refine aJ ?_ ?_
   ·exact aO ⟨T.tp,Zz,hoc⟩ (λ_ h=>h.1) rfl (Or.inl rfl) rfl T.t4 rfl T.tl T.t18
   refine aJ ?_ ?_
   ·exact aO ⟨T.tp,Zz,hoc⟩ (λ_ h=>h.1) rfl (Or.inl rfl) rfl T.t4 rfl T.tj T.t16
   refine aJ ?_ ?_
   ·exact aO ⟨T.tp,Zz,hoc⟩ (λ_ h=>h.1) rfl (Or.inl rfl) rfl T.t4 rfl T.tn T.t1a
   refine aJ ?_ ?_
   ·exact pA ⟨T.tp,Zz,hoc⟩ (λ_ h=>h.1) rfl (Or.inl rfl) rfl T.t4 rfl T.t0 fF T.t1q
   exact lA
 ·intro C hC
  cases T.tk.symm.trans hC;refine kinds_of T.t2t.F bW λcdv A outer s H ea oe hoc=>?_
  refine gQ (bs:=[false,false,true,false]) (cs:=[false,false,false,true]) bW.nd rfl (Or.inl rfl) (Or.inl rfl) ?_ ?_ (by decide)
  ·refine aJ ?_ ?_
   ·exact aO ⟨T.tq,Zz,hoc⟩ (λ_ h=>h.1) rfl (Or.inl rfl) rfl T.t4 rfl T.ti T.t1c
   refine aJ ?_ ?_
   ·exact aO ⟨T.tq,Zz,hoc⟩ (λ_ h=>h.1) rfl (Or.inl rfl) rfl T.t4 rfl T.th T.t1b
   refine aJ ?_ ?_
   ·exact aO ⟨T.tq,Zz,hoc⟩ (λ_ h=>h.1) rfl (Or.inl rfl) rfl T.t4 rfl T.tk T.t1e
   refine aJ ?_ ?_
   ·exact aO ⟨T.tq,Zz,hoc⟩ (λ_ h=>h.1) rfl (Or.inl rfl) rfl T.t4 rfl T.tm T.t1g
   exact lA
  ·refine aJ ?_ ?_
   ·exact aO ⟨T.tq,Zz,hoc⟩ (λ_ h=>h.1) rfl (Or.inl rfl) rfl T.t4 rfl T.tl T.t1f
   refine aJ ?_ ?_
   ·exact aO ⟨T.tq,Zz,hoc⟩ (λ_ h=>h.1) rfl (Or.inl rfl) rfl T.t4 rfl T.tj T.t1d
   refine aJ ?_ ?_
   ·exact aO ⟨T.tq,Zz,hoc⟩ (λ_ h=>h.1) rfl (Or.inl rfl) rfl T.t4 rfl T.tn T.t1h
   refine aJ ?_ ?_
   ·exact pA ⟨T.tq,Zz,hoc⟩ (λ_ h=>h.1) rfl (Or.inl rfl) rfl T.t4 rfl T.t0 fF T.t1r
   exact lA
 ·intro C hC
  cases T.tm.symm.trans hC;refine kinds_of T.t2t.F bW λcdv A outer s H ea oe hoc=>?_
  refine gQ (bs:=[false,false,false,true]) (cs:=[false,false,false,true]) bW.nd rfl (Or.inl rfl) (Or.inl rfl) ?_ ?_ (by decide)
  ·refine aJ ?_ ?_
   ·exact aO ⟨T.tr,Zz,hoc⟩ (λ_ h=>h.1) rfl (Or.inl rfl) rfl T.t4 rfl T.ti T.t1j
   refine aJ ?_ ?_
   ·exact aO ⟨T.tr,Zz,hoc⟩ (λ_ h=>h.1) rfl (Or.inl rfl) rfl T.t4 rfl T.th T.t1i
   refine aJ ?_ ?_
   ·exact aO ⟨T.tr,Zz,hoc⟩ (λ_ h=>h.1) rfl (Or.inl rfl) rfl T.t4 rfl T.tk T.t1l
   refine aJ ?_ ?_
   ·exact aO ⟨T.tr,Zz,hoc⟩ (λ_ h=>h.1) rfl (Or.inl rfl) rfl T.t4 rfl T.tm T.t1n
   exact lA
  ·refine aJ ?_ ?_
   ·exact aO ⟨T.tr,Zz,hoc⟩ (λ_ h=>h.1) rfl (Or.inl rfl) rfl T.t4 rfl T.tl T.t1m
   refine aJ ?_ ?_
   ·exact aO ⟨T.tr,Zz,hoc⟩ (λ_ h=>h.1) rfl (Or.inl rfl) rfl T.t4 rfl T.tj T.t1k
   refine aJ ?_ ?_
   ·exact aO ⟨T.tr,Zz,hoc⟩ (λ_ h=>h.1) rfl (Or.inl rfl) rfl T.t4 rfl T.tn T.t1o
   refine aJ ?_ ?_
   ·exact pA ⟨T.tr,Zz,hoc⟩ (λ_ h=>h.1) rfl (Or.inl rfl) rfl T.t4 rfl T.t0 fF T.t1s
   exact lA
 ·refine cV rfl rfl rfl T.t2u.F mq λ_ _ _ _ _ _ hr=>?_
  have nd:=mq.nd;unfold ig;exact aA (oq (cQ (sc:=(ah gk)) (outs:=[(1, "_law_level_here")]) (is:=[0]) ["_law_k"] (by trivial) rfl (by decide) (by trivial) (λ_ _ _ _ _=>by trivial) (λ_ _ _ _ _=>gE) (λ_ _ _ _ _=>by trivial)))
 ·refine cV rfl rfl rfl T.t2v.F vL λ_ _ _ _ _ _ hr=>?_
  unfold lh;trivial
theorem mk2 (T:Wd K mg J) (g1:G1 P w K mg base J):G2 P w K mg base J:=by
 refine ⟨?_,?_,?_,?_,?_,?_,?_,?_,?_,?_,?_⟩
 ·refine cV rfl rfl rfl T.t2w.F lp λ_ _ _ _ _ _ hr=>?_
  have nd:=lp.nd;unfold gN;exact af (by trivial) (aA (oq (cQ (sc:=(ah fJ)) (outs:=[(1, "node")]) (is:=[0,1]) ["number", "row"] (by trivial) rfl (by decide) (by trivial) (λ_ _ _ _ _=>ia (n:=2) rfl (ba (bC (i:=0) (show List.Nodup (["number", "row", "node"]:List Str) by decide +kernel) rfl (Or.inl rfl)) (ba (bC (i:=1) (show List.Nodup (["number", "row", "node"]:List Str) by decide +kernel) rfl (Or.inl rfl)) fH))) (λ_ _ _ _ _=>by trivial) (λ_ _ _ _ _=>au 0))))
 ·refine cV rfl rfl rfl T.t2x.F pP λ_ _ _ _ _ _ hr=>?_
  have nd:=pP.nd;unfold pU;exact af (by trivial) (af (dJ rfl Yj (by trivial) (by trivial) (aA (Cy 2 (AJ (Md (by trivial) (wY (A5 (by trivial) (wY (xg kF kY (by trivial) (au 1) rfl))))))))) (af (tZ 2 (eU (i:=4) (sc:=(ah pE)) (outs:=[]) (is:=[0,1]) ["number", "is_seen"] (λ_ _ _ q=>q) pP.nd rfl (Or.inl rfl) (by trivial) rfl (by decide) (by trivial) (λ_ _ _ _ _=>ia (n:=2) rfl (ba (bC (i:=0) (show List.Nodup (["number", "is_seen"]:List Str) by decide +kernel) rfl (Or.inl rfl)) (ba (bC (i:=1) (show List.Nodup (["number", "is_seen"]:List Str) by decide +kernel) rfl (Or.inl rfl)) fH))) (λ_ _ _ _ _=>by trivial) (λ_ _ _ _ _=>au 0))) (aA (A9 4 (DY 4 (dcl g1.y4 T.t2f hr (aB (au 0) (aB (au 4) cb))))))))
 ·refine m5 rfl rfl rfl T.t2y.F o5 λ_ _ _ _ _ _ hr=>?_
  unfold dZ;exact af (by trivial) (aA (di (dO kF kY (au 2) (au 1) rfl) (by trivial) cx))
 ·refine cV rfl rfl rfl T.t2z.F nK λ_ _ _ _ _ _ hr=>?_
  unfold gS;trivial
 ·refine cV rfl rfl rfl T.t30.F jC λ_ _ _ _ _ _ hr=>?_
  unfold fg;trivial
 ·refine m5 rfl rfl rfl T.t30.F jC λ_ _ _ _ _ _ hr=>?_
  unfold dA;trivial
 ·refine cV rfl rfl rfl T.t31.F j_ λ_ _ _ _ _ _ hr=>?_
  have nd:=j_.nd;unfold mK;exact af (di (dO uX (λ_=>wb) (by trivial) (nL rfl T.tf) (gJ _)) (by trivial) cx) (af (by trivial) (af (di (dO uX (λ_=>wb) (by trivial) (nL rfl T.te) (gJ _)) (by trivial) cx) (by trivial)))
 ·refine m5 rfl rfl rfl T.t31.F j_ λ_ _ _ _ _ _ hr=>?_
  have nd:=j_.nd;unfold kH;exact af (di (dO uX (λ_=>wb) (by trivial) (nL rfl T.tf) (gJ _)) (by trivial) cx) (af (by trivial) (af (di (dO uX (λ_=>wb) (by trivial) (nL rfl T.te) (gJ _)) (by trivial) cx) (by trivial)))
 ·refine cV rfl rfl rfl T.t32.F jF λ_ _ _ _ _ _ hr=>?_
  have nd:=jF.nd;unfold ki;exact af (by trivial) (af (by trivial) (af (dJ rfl Yj (by trivial) (by trivial) (af (by trivial) (af (di (by trivial) (af (by trivial) (af (by trivial) (af (df (i:=6) jF.nd rfl (Or.inl rfl) (gZ (vZ mV rH (au 6) m6 (by trivial)))) (by trivial)))) (by trivial)) (by trivial)))) (by trivial)))
 ·refine cV rfl rfl rfl T.t33.F kI λ_ _ _ _ _ _ hr=>?_
  have nd:=kI.nd;unfold jH;exact af (by trivial) (af (by trivial) (af (dJ rfl Yj (by trivial) (by trivial) (af (by trivial) (af (di (by trivial) (aA (df (i:=5) kI.nd rfl (Or.inl rfl) (wt (au 1) (by trivial)))) cx) (by trivial)))) (by trivial)))
 ·refine fnP rfl rfl T.t34.F kG λ_ _ _ _ _ _ hr=>?_
  have nd:=kG.nd;unfold aW;exact bb (df (i:=2) kG.nd rfl (Or.inl rfl) (gZ (D3 (dcl g1.yg T.t2r hr (aB (au 0) (aB AF cb)))))) (bb (by trivial) (FH (by trivial) (bb (Ar (i:=0) (c:=2) (aK rfl (by first | exact Or.inl rfl | exact Or.inr (Or.inl rfl) | exact Or.inr (Or.inr rfl))) (au 3) (by trivial)) (by trivial)) (FH (by trivial) (bb (by trivial) (bb (by trivial) (bb (t_ (c:=0) 0 (by trivial)) (bb (t_ (c:=1) 0 (cQ (sc:=(ah g_)) (outs:=[(4, "_law_first")]) (is:=[0]) ["_law_row"] (by trivial) rfl (by decide) (by trivial) (λ_ _ _ _ _=>by trivial) (λ_ _ _ _ _=>gE) (λ_ _ _ _ _=>gZ (cQ (sc:=_) (outs:=[(1, "_law_first")]) (is:=[0]) ["_law_child"] (bK <| Hh rfl (by decide +kernel) (by decide +kernel) (by decide +kernel) (show k9 _ _ [(1, "_law_first")] from ⟨⟨rfl,rfl⟩,trivial⟩)) rfl (by decide) (by trivial) (λ_ _ _ _ _=>by trivial) (λ_ _ _ _ _=>gE) (λ_ _ _ _ _=>by trivial))))) (bb (t_ (c:=2) 0 (by trivial)) (bb (D6 (c:=1) 0 (au 3) (by trivial) (au 4) (λ_ _=>rfl)) (by trivial))))))) GB)))
theorem mk3 (T:Wd K mg J) (g1:G1 P w K mg base J) (g2:G2 P w K mg base J):G3 P w K mg base J:=by
 refine ⟨?_,?_,?_,?_,?_,?_,?_⟩
 ·refine cV rfl rfl rfl T.t35.F mn λ_ _ _ _ _ _ hr=>?_
  unfold iJ;exact af (by trivial) (aA (di (zi (we (dO jD kY (au 2) (au 1) rfl) (by trivial))) (by trivial) cx))
 ·refine m5 rfl rfl rfl T.t35.F mn λ_ _ _ _ _ _ hr=>?_
  unfold fG;exact af (by trivial) (aA (di (zi (we (dO jD kY (au 2) (au 1) rfl) (by trivial))) (by trivial) cx))
 ·refine m5 rfl rfl rfl T.t36.F rh λ_ _ _ _ _ _ hr=>?_
  have nd:=rh.nd;unfold kA;trivial
 ·refine cV rfl rfl rfl T.t37.F lU λ_ _ _ _ _ _ hr=>?_
  have nd:=lU.nd;unfold nX;exact af (by trivial) (af (by trivial) (af (by trivial) (af (dJ rfl Yj (tX (vZ mV rH (au 3) (uE mJ) m6)) (by trivial) (by trivial)) (by trivial))))
 ·refine m5 rfl rfl rfl T.t37.F lU λ_ _ _ _ _ _ hr=>?_
  have nd:=lU.nd;unfold iU;exact af (by trivial) (af (by trivial) (af (by trivial) (af (dJ rfl PassesOwn.leaving (tX (vZ mV rH (au 3) (uE mJ) m6)) (by trivial) (by trivial)) (by trivial))))
 ·refine m5 rfl rfl rfl T.t38.F iO λ_ _ _ _ _ _ hr=>?_
  have nd:=iO.nd;unfold jE;exact af (by trivial) (af (by trivial) (af (by trivial) (af (di (Im (au 1) (au 2) (au 4)) (by trivial) cx) (af (eU (i:=5) (sc:=(ah lV)) (outs:=[(1, "node")]) (is:=[0]) ["child"] (λ_ _ _ q=>vF q) iO.nd rfl (Or.inl rfl) (by trivial) rfl (by decide) (by trivial) (λ_ _ _ _ _=>by trivial) (λ_ _ _ _ _=>by trivial) (λ_ _ _ _ _=>au 0)) (af (by trivial) (af (df (i:=7) iO.nd rfl (Or.inl rfl) (mv l4 oE (mv l4 oE (vZ mV rH (au 0) m6 (by trivial)) (by trivial)) (vZ mV rH (au 0) (by trivial) m6))) (af (by trivial) (af (eU (i:=9) (sc:=(ah lV)) (outs:=[(6, "later")]) (is:=[0]) ["number"] (λ_ _ _ q=>vF q) iO.nd rfl (Or.inl rfl) (by trivial) rfl (by decide) (by trivial) (λ_ _ _ _ _=>by trivial) (λ_ _ _ _ _=>by trivial) (λ_ _ _ _ _=>au 0)) (af (eU (i:=10) (sc:=(ah lV)) (outs:=[(6, "later")]) (is:=[0]) ["number"] (λ_ _ _ q=>vF q) iO.nd rfl (Or.inl rfl) (by trivial) rfl (by decide) (by trivial) (λ_ _ _ _ _=>by trivial) (λ_ _ _ _ _=>by trivial) (λ_ _ _ _ _=>au 0)) (by trivial))))))))))
 ·refine cV rfl rfl rfl T.t39.F rR λ_ _ _ _ _ _ hr=>?_
  unfold iF;trivial
theorem mk4 (T:Wd K mg J) (g1:G1 P w K mg base J) (g3:G3 P w K mg base J):G4 P w K mg base J:=by
 refine ⟨?_⟩
 ·refine fnP rfl rfl T.t3a.F cn λ_ _ _ _ _ _ hr=>?_
  have nd:=cn.nd;unfold aV;exact bb (df (i:=4) cn.nd rfl (Or.inr rfl) (CM wF CW (xK 0 (gZ (iW (tb:=(λnm=>List.lookup nm [("Easel",aS)])) (k:=3) (bR T.t1t ⟨_,⟨T.t1v.c,T.t27,⟨_,_,FnOk.mono (k:=3) g3.y6 (by decide),T.t39.b⟩⟩⟩ cL) (hr.mono (by decide)) dH (au 0)))) mJ (λ_ _=>rfl))) (bb (jI (tb:=λnm=>decide (nm = "Easel")) (i:=0) (cC T.t1t ⟨T.t1v.c,T.t1x⟩) (aK rfl (by first | exact Or.inl rfl | exact Or.inr (Or.inl rfl) | exact Or.inr (Or.inr rfl))) (by trivial)) (bb (jI (tb:=λnm=>decide (nm = "Easel")) (i:=0) (cC T.t1t ⟨T.t1v.c,T.t1z⟩) (aK rfl (by first | exact Or.inl rfl | exact Or.inr (Or.inl rfl) | exact Or.inr (Or.inr rfl))) (dcl g1.ya T.t2l hr (aB (au 1) (aB (au 2) cb)))) (bb (df (i:=5) cn.nd rfl (Or.inl rfl) (gZ (xK 0 (gZ (iW (tb:=(λnm=>List.lookup nm [("Easel",aS)])) (k:=3) (bR T.t1t ⟨_,⟨T.t1v.c,T.t27,⟨_,_,FnOk.mono (k:=3) g3.y6 (by decide),T.t39.b⟩⟩⟩ cL) (hr.mono (by decide)) dH (au 0)))))) (bb (eU (i:=6) (sc:=(ah dv)) (outs:=[(1, "changed")]) (is:=[0]) ["number"] (λ_ _ _ q=>vF q) cn.nd rfl (Or.inl rfl) (by trivial) rfl (by decide) (by trivial) (λ_ _ _ _ _=>by trivial) (λ_ _ _ _ _=>gE) (λ_ _ _ _ _=>by trivial)) (bb (eU (i:=7) (sc:=(ah dv)) (outs:=[(3, "touched"),(4, "before")]) (is:=[0,1]) ["node", "number"] (λ_ _ _ q=>vF q) cn.nd rfl (Or.inl rfl) (by trivial) rfl (by decide) (by trivial) (λ_ _ _ _ _=>ia (n:=2) rfl (ba (bC (i:=0) (show List.Nodup (["node", "number", "touched", "before"]:List Str) by decide +kernel) rfl (Or.inl rfl)) (ba (bC (i:=1) (show List.Nodup (["node", "number", "touched", "before"]:List Str) by decide +kernel) rfl (Or.inl rfl)) fH))) (λ_ _ _ _ _=>wR (zi (we (dO jD kY (au 1) (au 2) rfl) (wI (dO kF kY (au 1) (au 3) rfl))))) (λ_ _ _ _ _=>au 0)) (bb (jI (tb:=λnm=>decide (nm = "Easel")) (i:=0) (cC T.t1t ⟨T.t1v.c,T.t20⟩) (aK rfl (by first | exact Or.inl rfl | exact Or.inr (Or.inl rfl) | exact Or.inr (Or.inr rfl))) (dcl g1.yb T.t2m hr (aB (CM wF CW (au 5) mJ (λ_ _=>rfl)) (aB (au 7) cb)))) pR))))))
theorem mk5 (T:Wd K mg J) (g1:G1 P w K mg base J) (g2:G2 P w K mg base J) (g3:G3 P w K mg base J) (g4:G4 P w K mg base J):G5 P w K mg base J:=by
 refine ⟨?_,?_,?_,?_,?_,?_,?_⟩
 ·refine m5 rfl rfl rfl T.t3b.F ma λ_ _ _ _ _ _ hr=>?_
  unfold fI;exact af (by trivial) (aA (d7 (fE (tb:=(λnm=>List.lookup nm [("Easel",λ_=>.bad)])) (k:=4) (bR T.t1t ⟨_,⟨T.t1v.c,T.t28,⟨_,_,FnOk.mono (k:=4) nR (Y1 _),T.t3a.b⟩⟩⟩ cL) (hr.mono (by decide)) dH (au 0) (by trivial))))
 ·refine fnP rfl rfl T.t3b.F ma λ_ _ _ _ _ _ hr=>?_
  unfold bX;exact bb (d7 (dcl g3.y0 T.t35 hr (aB (lT (tb:=λnm=>decide (nm = "Easel")) (i:=0) (cC T.t1t ⟨T.t1v.c,T.t1x⟩) (aK rfl (by first | exact Or.inl rfl | exact Or.inr (Or.inl rfl) | exact Or.inr (Or.inr rfl)))) (aB (lT (tb:=λnm=>decide (nm = "Easel")) (i:=0) (cC T.t1t ⟨T.t1v.c,T.t1z⟩) (aK rfl (by first | exact Or.inl rfl | exact Or.inr (Or.inl rfl) | exact Or.inr (Or.inr rfl)))) (aB (au 1) cb))))) (bb (mM (nm := "Easel") (m:=3) (k:=4) (uK T.t1t ⟨_,⟨T.t1v.c,T.t28,⟨_,_,FnOk.mono (k:=4) g4.y0 (by decide),T.t3a.b⟩⟩⟩) (hr.mono (by decide)) dH (aK rfl (by first | exact Or.inl rfl | exact Or.inr (Or.inl rfl) | exact Or.inr (Or.inr rfl))) (aB (dcl g1.y9 T.t2k hr (aB (lT (tb:=λnm=>decide (nm = "Easel")) (i:=0) (cC T.t1t ⟨T.t1v.c,T.t1x⟩) (aK rfl (by first | exact Or.inl rfl | exact Or.inr (Or.inl rfl) | exact Or.inr (Or.inr rfl)))) cb)) (aB (mv l4 oE (lT (tb:=λnm=>decide (nm = "Easel")) (i:=0) (cC T.t1t ⟨T.t1v.c,T.t1z⟩) (aK rfl (by first | exact Or.inl rfl | exact Or.inr (Or.inl rfl) | exact Or.inr (Or.inr rfl)))) (by trivial)) (by trivial))) (cE (cE (cE ip)))) pR)
 ·refine m5 rfl rfl rfl T.t3c.F kL λ_ _ _ _ _ _ hr=>?_
  have nd:=kL.nd;unfold d5;exact af (by trivial) (aA (d7 (fE (tb:=(λnm=>List.lookup nm [("Easel",λ_=>.bad)])) (k:=4) (bR T.t1t ⟨_,⟨T.t1v.c,T.t28,⟨_,_,FnOk.mono (k:=4) nR (Y1 _),T.t3a.b⟩⟩⟩ cL) (hr.mono (by decide)) dH (au 0) (aB (dcl g1.y9 T.t2k hr (aB (uG (tb:=λnm=>decide (nm = "Easel")) (cC T.t1t ⟨T.t1v.c,T.t1x⟩) (au 0)) cb)) (aB (cQ (sc:=(ah eT)) (outs:=[(1, "node")]) (is:=[0]) ["number"] (by trivial) rfl (by decide) (by trivial) (λ_ _ _ _ _=>by trivial) (λ_ _ _ _ _=>by trivial) (λ_ _ _ _ _=>au 0)) (by trivial))))))
 ·refine m5 rfl rfl rfl T.t3d.F tK λ_ _ _ _ _ _ hr=>?_
  unfold kg;exact aA (d7 (fE (tb:=(λnm=>List.lookup nm [("Easel",λ_=>.bad)])) (k:=4) (bR T.t1t ⟨_,⟨T.t1v.c,T.t28,⟨_,_,FnOk.mono (k:=4) nR (Y1 _),T.t3a.b⟩⟩⟩ cL) (hr.mono (by decide)) dH (au 0) (by trivial)))
 ·refine m5 rfl rfl rfl T.t3e.F mO λ_ _ _ _ _ _ hr=>?_
  unfold jP;exact aA (d7 (fE (tb:=(λnm=>List.lookup nm [("Easel",λ_=>.bad)])) (k:=4) (bR T.t1t ⟨_,⟨T.t1v.c,T.t28,⟨_,_,FnOk.mono (k:=4) nR (Y1 _),T.t3a.b⟩⟩⟩ cL) (hr.mono (by decide)) dH (au 0) (by trivial)))
 ·refine fnP rfl rfl T.t3e.F mO λ_ _ _ _ _ _ hr=>?_
  unfold cu;exact bb (mM (nm := "Easel") (m:=3) (k:=4) (uK T.t1t ⟨_,⟨T.t1v.c,T.t28,⟨_,_,FnOk.mono (k:=4) g4.y0 (by decide),T.t3a.b⟩⟩⟩) (hr.mono (by decide)) dH (aK rfl (by first | exact Or.inl rfl | exact Or.inr (Or.inl rfl) | exact Or.inr (Or.inr rfl))) (aB (dcl g3.y3 T.t37 hr (aB (lT (tb:=λnm=>decide (nm = "Easel")) (i:=0) (cC T.t1t ⟨T.t1v.c,T.t1x⟩) (aK rfl (by first | exact Or.inl rfl | exact Or.inr (Or.inl rfl) | exact Or.inr (Or.inr rfl)))) (aB (au 1) (aB (au 2) (aB (au 3) cb))))) (aB (lT (tb:=λnm=>decide (nm = "Easel")) (i:=0) (cC T.t1t ⟨T.t1v.c,T.t1z⟩) (aK rfl (by first | exact Or.inl rfl | exact Or.inr (Or.inl rfl) | exact Or.inr (Or.inr rfl)))) (by trivial))) (cE (cE (cE ip)))) pR
 ·refine m5 rfl rfl rfl T.t3f.F rV λ_ _ _ _ _ _ hr=>?_
  unfold iN;exact aA (d7 (fE (tb:=(λnm=>List.lookup nm [("Easel",λ_=>.bad)])) (k:=4) (bR T.t1t ⟨_,⟨T.t1v.c,T.t28,⟨_,_,FnOk.mono (k:=4) nR (Y1 _),T.t3a.b⟩⟩⟩ cL) (hr.mono (by decide)) dH (au 0) (by trivial)))
theorem mk6 (T:Wd K mg J) (g1:G1 P w K mg base J) (g5:G5 P w K mg base J):G6 P w K mg base J:=by
 refine ⟨?_,?_,?_⟩
 ·refine m5 rfl rfl rfl T.t3g.F qN λ_ _ _ _ _ _ hr=>?_
  unfold d8;exact aA (di (by trivial) (aA (d7 (fE (tb:=(λnm=>List.lookup nm [("Easel",bJ)])) (k:=5) (bR T.t1t ⟨_,⟨T.t1v.c,T.t22,⟨_,_,FnOk.mono (k:=5) g5.y0 (by decide),T.t3b.b⟩⟩⟩ cL) (hr.mono (by decide)) Lv.of.pass (au 0) (by trivial)))) (aA (di (by trivial) (aA (d7 (fE (tb:=(λnm=>List.lookup nm [("Easel",bc)])) (k:=5) (bR T.t1t ⟨_,⟨T.t1v.c,T.t29,⟨_,_,FnOk.mono (k:=5) g5.y2 (by decide),T.t3c.b⟩⟩⟩ cL) (hr.mono (by decide)) Lv.of.pass (au 0) (by trivial)))) (aA (di (by trivial) (aA (d7 (fE (tb:=(λnm=>List.lookup nm [("Easel",cZ)])) (k:=5) (bR T.t1t ⟨_,⟨T.t1v.c,T.t21,⟨_,_,FnOk.mono (k:=5) g5.y3 (by decide),T.t3d.b⟩⟩⟩ cL) (hr.mono (by decide)) Lv.of.pass (au 0) (by trivial)))) (aA (di (by trivial) (aA (d7 (fE (tb:=(λnm=>List.lookup nm [("Easel",cX)])) (k:=5) (bR T.t1t ⟨_,⟨T.t1v.c,T.t25,⟨_,_,FnOk.mono (k:=5) g5.y4 (by decide),T.t3e.b⟩⟩⟩ cL) (hr.mono (by decide)) Lv.of.pass (au 0) (by trivial)))) (aA (d7 (fE (tb:=(λnm=>List.lookup nm [("Easel",cG)])) (k:=5) (bR T.t1t ⟨_,⟨T.t1v.c,T.t24,⟨_,_,FnOk.mono (k:=5) g5.y6 (by decide),T.t3f.b⟩⟩⟩ cL) (hr.mono (by decide)) Lv.of.pass (au 0) (by trivial)))))))))))
 ·refine fnP rfl rfl T.t3g.F qN λ_ _ _ _ _ _ hr=>?_
  unfold b7;exact bb (di (by trivial) (aA (mM (nm := "Easel") (m:=1) (k:=5) (uK T.t1t ⟨_,⟨T.t1v.c,T.t22,⟨_,_,FnOk.mono (k:=5) g5.y1 (by decide),T.t3b.b⟩⟩⟩) (hr.mono (by decide)) dH (aK rfl (by first | exact Or.inl rfl | exact Or.inr (Or.inl rfl) | exact Or.inr (Or.inr rfl))) (by trivial) (cE ip))) (aA (di (by trivial) (by trivial) (aA (di (by trivial) (by trivial) (aA (di (by trivial) (aA (mM (nm := "Easel") (m:=3) (k:=5) (uK T.t1t ⟨_,⟨T.t1v.c,T.t25,⟨_,_,FnOk.mono (k:=5) g5.y5 (by decide),T.t3e.b⟩⟩⟩) (hr.mono (by decide)) dH (aK rfl (by first | exact Or.inl rfl | exact Or.inr (Or.inl rfl) | exact Or.inr (Or.inr rfl))) (by trivial) (cE (cE (cE ip))))) (by trivial)))))))) pR
 ·exact oN T g1 (nQ T g1 (oy T g1 (n8 T g1 nR)))
theorem mk7 (T:Wd K mg J) (g1:G1 P w K mg base J) (g2:G2 P w K mg base J) (g3:G3 P w K mg base J) (g6:G6 P w K mg base J):G7 P w K mg base J:=by
 refine ⟨?_,?_,?_⟩
 ·refine fnP rfl rfl T.t3i.F uz λ_ _ _ _ _ _ hr=>?_
  unfold br;exact bb (Dt (λ_=>aA (pN (m:=1) g6.y1 (hr.mono (by decide)) rfl T.t3g.g T.t3g.F.kp T.t3g.b dH (aK rfl (by first | exact Or.inl rfl | exact Or.inr (Or.inl rfl) | exact Or.inr (Or.inr rfl))) (by trivial) (cE ip)))) (Av mJ)
 ·refine cV rfl rfl rfl T.t3j.F cI λ_ _ _ _ _ _ hr=>?_
  have nd:=cI.nd;unfold iB;exact af (by trivial) (af (by trivial) (af (eU (i:=5) (sc:=(ah eP)) (outs:=[(1, "_law_state"),(3, "_law_order_here")]) (is:=[0]) ["_law_k"] (λ_ _ _ q=>vF q) cI.nd rfl (Or.inl rfl) (by trivial) rfl (by decide) (by trivial) (λ_ _ _ _ _=>by trivial) (λ_ _ _ _ _=>by trivial) (λ_ _ _ _ _=>au 0)) (af (df (i:=6) cI.nd rfl (Or.inl rfl) (gZ (uw (aB (by trivial) (aB (au 5) (aB (gZ (w8 (aB (by trivial) (aB (gZ (cQ (sc:=(ah eP)) (outs:=[(3, "_law_order_here")]) (is:=[0]) ["_law_node"] (by trivial) rfl (by decide) (by trivial) (λ_ _ _ _ _=>by trivial) (λ_ _ _ _ _=>gE) (λ_ _ _ _ _=>wt (au 1) (au 0)))) cb)))) cb)))))) (af (dJ rfl Yj (by trivial) (by trivial) (af (by trivial) (af (by trivial) (af (di (by trivial) (aA (df (i:=9) cI.nd rfl (Or.inl rfl) (gZ (iW (tb:=(λnm=>List.lookup nm [("Easel",cM)])) (k:=1) (bR T.t1t ⟨_,⟨T.t1v.c,T.t2a,⟨_,_,FnOk.mono (k:=1) g1.y6 (by decide),T.t2h.b⟩⟩⟩ cL) (hr.mono (by decide)) dH (au 0))))) cx) (af (di (by trivial) (aA (df (i:=9) cI.nd rfl (Or.inl rfl) (gZ (iW (tb:=(λnm=>List.lookup nm [("Easel",cq)])) (k:=1) (bR T.t1t ⟨_,⟨T.t1v.c,T.t23,⟨_,_,FnOk.mono (k:=1) g1.y7 (by decide),T.t2i.b⟩⟩⟩ cL) (hr.mono (by decide)) dH (au 0))))) cx) (af (di (by trivial) (aA (df (i:=9) cI.nd rfl (Or.inl rfl) (gZ (iW (tb:=(λnm=>List.lookup nm [("Easel",aS)])) (k:=3) (bR T.t1t ⟨_,⟨T.t1v.c,T.t27,⟨_,_,FnOk.mono (k:=3) g3.y6 (by decide),T.t39.b⟩⟩⟩ cL) (hr.mono (by decide)) dH (au 0))))) cx) (by trivial))))))) (by trivial)))))
 ·refine cV rfl rfl rfl T.t3k.F cj λ_ _ _ _ _ _ hr=>?_
  have nd:=cj.nd;unfold fS;exact af (by trivial) (af (DK (tbl:=[("NoDeed",[false,true,false,false,false,false,false,true]),("NoNode",[true,false,false,false,false,false,false,true]),("NoPlace",[false,false,true,false,false,false,false,true]),("NoTree",[false,false,false,true,false,false,false,true])]) g6.y0 (hr.mono (by decide)) rfl T.t3g.g T.t3g.F.kp T.t3g.b (λ_=>by trivial) rfl rfl T.ts rfl T.tg (sF (i:=3) rfl) (pK ⟨J.j2,T.th,T.tt,λpins σ H' ea Q E hca hfr hlen hq=>jU (i:=4) (j:=3) (g1.yi _ T.th) (hr.mono (Zi _)) rfl T.t2t.g T.t2t.F.kp T.t2t.b rfl rfl hca hfr cj.nd rfl rfl rfl rfl (by decide) hlen (λH1 p s2 sm hn J=>hq _ H1 p s2 sm hn J (λ_ _ _ _ _ hok o=>pv o hok))⟩ (pK ⟨J.j3,T.ti,T.tu,λpins σ H' ea Q E hca hfr hlen hq=>jU (i:=4) (j:=3) (g1.yj _ T.ti) (hr.mono (Zi _)) rfl T.t2t.g T.t2t.F.kp T.t2t.b rfl rfl hca hfr cj.nd rfl rfl rfl rfl (by decide) hlen (λH1 p s2 sm hn J=>hq _ H1 p s2 sm hn J (λ_ _ _ _ _ hok o=>pv o hok))⟩ (pK ⟨J.j5,T.tk,T.tv,λpins σ H' ea Q E hca hfr hlen hq=>jU (i:=4) (j:=3) (g1.yk _ T.tk) (hr.mono (Zi _)) rfl T.t2t.g T.t2t.F.kp T.t2t.b rfl rfl hca hfr cj.nd rfl rfl rfl rfl (by decide) hlen (λH1 p s2 sm hn J=>hq _ H1 p s2 sm hn J (λ_ _ _ _ _ hok o=>pv o hok))⟩ (pK ⟨J.j7,T.tm,T.tw,λpins σ H' ea Q E hca hfr hlen hq=>jU (i:=4) (j:=3) (g1.yl _ T.tm) (hr.mono (Zi _)) rfl T.t2t.g T.t2t.F.kp T.t2t.b rfl rfl hca hfr cj.nd rfl rfl rfl rfl (by decide) hlen (λH1 p s2 sm hn J=>hq _ H1 p s2 sm hn J (λ_ _ _ _ _ hok o=>pv o hok))⟩ GV)))) (λ_ _=>Cw (by decide))) (aA (oq (xg (wQ hr.units) CB (au 3) (mv l4 oE (cQ (sc:=(ah eR)) (outs:=[(2, "_law_due_here")]) (is:=[0]) ["_law_k"] (by trivial) rfl (by decide) (by trivial) (λ_ _ _ _ _=>by trivial) (λ_ _ _ _ _=>gE) (λ_ _ _ _ _=>by trivial)) (by trivial)) (gJ _)))))
theorem mk8 (T:Wd K mg J) (g1:G1 P w K mg base J) (g7:G7 P w K mg base J):G8 P w K mg base J:=by
 refine ⟨?_,?_,?_,?_⟩
 ·refine cV rfl rfl rfl T.t3l.F gY λ_ _ _ _ _ _ hr=>?_
  have nd:=gY.nd;unfold eI;trivial
 ·refine cV rfl rfl rfl T.t3m.F fZ λ_ _ _ _ _ _ hr=>?_
  have nd:=fZ.nd;unfold dP;trivial
 ·refine cV rfl rfl rfl T.t3n.F cA λ_ _ _ _ _ _ hr=>?_
  have nd:=cA.nd;unfold du;exact af (by trivial) (af (df (i:=4) cA.nd rfl (Or.inl rfl) (pW lQ uq rfl T.t5 Vr (aB (cQ (sc:=(ah bT)) (outs:=[(3, "_law_node")]) (is:=[0]) ["_law_row"] (by trivial) rfl (by decide) (by trivial) (λ_ _ _ _ _=>by trivial) (λ_ _ _ _ _=>by trivial) (λ_ _ _ _ _=>au 0)) cb))) (af (by trivial) (af (by trivial) (af (by trivial) (af (df (i:=4) cA.nd rfl (Or.inl rfl) (pW lQ uq rfl T.t5 Vr (aB (cQ (sc:=(ah bT)) (outs:=[(1, "_law_tree_here"),(6, "_law_last")]) (is:=[0]) ["_law_k"] (by trivial) rfl (by decide) (by trivial) (λ_ _ _ _ _=>by trivial) (λ_ _ _ _ _=>by trivial) (λ_ _ _ _ _=>au 0)) cb))) (by trivial))))))
 ·refine cV rfl rfl rfl T.t3o.F f9 λ_ _ _ _ _ _ hr=>?_
  have nd:=f9.nd;unfold dN;trivial
theorem GO {f:Is} {fd:Fk} (F:Fun K "law" "law" mS f fd) (T:Wd K mg J) (g1:G1 P w K mg base J) (g2:G2 P w K mg base J) (g6:G6 P w K mg base J) (g7:G7 P w K mg base J) (g8:G8 P w K mg base J):FnOk P w K mg base CX0 9 f fd ["_law_script"] (sp3 K mg rK):=by
 refine cV rfl rfl rfl F xc λ_ _ _ _ _ _ hr=>?_
 have nd:=xc.nd;unfold wV;exact af (by trivial) (af (df (i:=2) xc.nd rfl (Or.inl rfl) (En (m:=2) T.t1t T.t1w g1.y5 (hr.mono (by decide)) rfl T.t1u T.t2g.b dH (by trivial) (cE (cE ip)))) (af (by trivial) (af (by trivial) (af (by trivial) (af (by trivial) (af (di (BZ (zi (we (by trivial) (wI (C4 (CN (dcl g6.y2 T.t3h hr (aB (iW (tb:=(λnm=>List.lookup nm [("Easel",b6)])) (k:=1) (bR T.t1t ⟨_,⟨T.t1v.c,T.t26,⟨_,_,FnOk.mono (k:=1) g1.y8 (by decide),T.t2j.b⟩⟩⟩ cL) (hr.mono (by decide)) dH (au 2)) (aB (CZ rfl rfl T.t6 lR rfl T.t9 (aB (pW lQ uq rfl T.t5 Vr (aB (au 1) cb)) cb)) cb))))))))) (by trivial) cx) (af (by trivial) (af (GQ (m:=1) (c:=0) g7.y0 (hr.mono (by decide)) rfl T.t3i.g T.t3i.F.kp T.t3i.b dH (aK rfl (by first | exact Or.inl rfl | exact Or.inr (Or.inl rfl) | exact Or.inr (Or.inr rfl))) (by trivial) (cE ip) (by trivial) cx) (af (pN (m:=1) g2.ya (hr.mono (by decide)) rfl T.t34.g T.t34.F.kp T.t34.b dH (aK rfl (by first | exact Or.inl rfl | exact Or.inr (Or.inl rfl) | exact Or.inr (Or.inr rfl))) (by trivial) (cE ip)) (af (by trivial) (af (by trivial) (af (Dn (m:=1) (c:=0) g7.y0 (hr.mono (by decide)) rfl T.t3i.g T.t3i.F.kp T.t3i.b dH (aK rfl (by first | exact Or.inl rfl | exact Or.inr (Or.inl rfl) | exact Or.inr (Or.inr rfl))) (by trivial) (cE ip) (by trivial) (by trivial) cx) (af (pN (m:=1) g2.ya (hr.mono (by decide)) rfl T.t34.g T.t34.F.kp T.t34.b dH (aK rfl (by first | exact Or.inl rfl | exact Or.inr (Or.inl rfl) | exact Or.inr (Or.inr rfl))) (by trivial) (cE ip)) (by trivial))))))))))))))
end
namespace F
def pr (fl:Nat->Bool):F->F
 |nil=>nil
 |cons k c r=>cons k (if fl k=true then nil else pr fl c) (pr fl r)
theorem qP (fl:Nat->Bool):∀f:F,roots (pr fl f)=roots f
 |nil=>rfl
 |cons k c r=>by rw [pr,roots,roots,qP fl r]
theorem oA:∀f:F,roots (mir f)=(roots f).reverse
 |nil=>rfl
 |cons k c r=>by rw [mir,l3,oA r,roots,roots,roots,X4]
theorem uN {ch:Nat->List Nat}:∀f:F,Con ch f->Con (λq=>(ch q).reverse) (mir f)
 |nil,_=>trivial
 |cons k c r,h=>by
  obtain ⟨h1,h2,h3⟩:=h;rw [mir,pJ];refine ⟨uN r h3,?_,uN c h2,trivial⟩;show (ch k).reverse=roots (mir c)
  rw [h1,oA]
theorem ur {ch:Nat->List Nat} {fl:Nat->Bool}:∀f:F,Con ch f->Con (λq=>if fl q=true then [] else ch q) (pr fl f)
 |nil,_=>trivial
 |cons k c r,h=>by
  obtain ⟨h1,h2,h3⟩:=h;rw [pr];by_cases hk:fl k=true
  ·rw [N1 hk]
   exact ⟨N1 hk,trivial,ur r h3⟩
  ·rw [N2 hk]
   refine ⟨?_,ur c h2,ur r h3⟩;show (if fl k=true then [] else ch k)=_
   rw [N2 hk,h1,qP]
theorem mD (fl:Nat->Bool):∀f:F,∀k∈pre (pr fl f),k∈pre f
 |nil,k,h=>h
 |cons a c r,k,h=>by
  rw [pr,pre]at h;rw [pre];rcases Xz.mp h with h | h
  ·rw [h];exact Zz
  ·rcases Z5.mp h with h | h
   ·split at h
    ·cases h
    ·exact Zs _ (Zm _ (mD fl c k h))
   ·exact Zs _ (Zt _ (mD fl r k h))
theorem kx (fl:Nat->Bool):∀f:F,(pre (pr fl f)).length<=(pre f).length
 |nil=>Zi _
 |cons a c r=>by
  rw [pr,pre,pre,Zp,Zp,Zv,Zv];have h2:=kx fl r;have h1:(pre (if fl a=true then nil else pr fl c)).length<=(pre c).length:=by
   split
   ·exact Y1 _
   ·exact kx fl c
  lia
theorem w6 {e:Nat->Int} {fl sn:Nat->Bool}:∀(p:Int) (b:Bool) (f:F),Eld e p f->(∀k∈pre f,e k=p->sn k=b)->(∀k∈pre f,∀j:Nat,e k=(j:Int)->(j:Int)≠p->sn k=(sn j && !fl j))->(pre f).Nodup->(∀k∈pre f,(k:Int)≠p)->b=true->pre (pr fl f)=(pre f).filter sn
 |_,_,nil,_,_,_,_,_,_=>rfl
 |p,b,cons a c r,he,h1,h2,nd,hp,hb=>by
  obtain ⟨q1,q2,q3⟩:=he;rw [pre]at h1 h2 nd hp;have sa:sn a=true:=by rw [h1 a Zz q1,hb]
  rw [pr,pre,pre,Wy,N1 sa,Xr];simp only [Xn,Yx,Z5]at nd;obtain ⟨n0,n1,n2,n3⟩:=nd;have ih:=w6 p b r q3 (λk hk=>h1 k (by simp [hk])) (λk hk=>h2 k (by simp [hk])) n2 (λk hk=>hp k (by simp [hk])) hb
  have no:∀g:F,Eld e (a:Int) g->(∀k∈pre g,k∈pre c)->fl a=true->(∀k∈pre g,sn k=false):=by
   intro g;exact λhg hs hf=>by
    have key:∀(g:F) (q:Int),Eld e q g->(∀k∈pre g,k∈pre c)->(∃j:Nat,q=(j:Int)/\q≠p/\(sn j && !fl j)=false)->∀k∈pre g,sn k=false:=by
     intro g
     induction g with
     |nil=>intro q _ _ _ k hk;cases hk
     |cons x d s ih1 ih2 =>
      intro q hg hs hq k hk;obtain ⟨j,hj,hjp,hjf⟩:=hq;obtain ⟨g1,g2,g3⟩:=hg;rw [pre]at hs hk;have sx:sn x=false:=by
       rw [h2 x (by simp [hs x Zz]) j (by rw [g1,hj]) (by rw [<-hj];exact hjp)]
       exact hjf
      rcases Xz.mp hk with hk | hk
      ·rw [hk];exact sx
      ·rcases Z5.mp hk with hk | hk
       ·exact ih1 _ g2 (λk hk=>hs k (by simp [hk])) ⟨x,rfl,hp x (by simp [hs x Zz]),by rw [sx];rfl⟩ k hk
       ·exact ih2 q g3 (λk hk=>hs k (by simp [hk])) ⟨j,hj,hjp,hjf⟩ k hk
    exact key g _ hg hs ⟨a,rfl,hp a Zz,by rw [hf];simp⟩
  by_cases hf:fl a=true
  ·rw [N1 hf,pre,Yf,ih]
   have z:(pre c).filter sn=[]:=List.filter_eq_nil_iff.mpr λk hk=>by rw [no c q2 (λ_ m=>m) hf k hk];exact Zo
   rw [z,Yf]
  ·rw [N2 hf,ih]
   have ihc:=w6 (a:Int) (sn a && !fl a) c q2 (λk hk hk2=>by
     exact h2 k (by simp [hk]) a hk2 (hp a Zz)) (λk hk j hj hja=>by
     by_cases hjp:(j:Int)=p
     ·exfalso
      have:k∈pre c:=hk;rcases ui _ c q2 k hk with z | ⟨j',hj',z⟩
      ·rw [hj]at z;exact hja z
      ·rw [hj]at z
       have e1:j=j':=by lia
       subst e1;exact hp j (by simp [hj']) hjp
     ·exact h2 k (by simp [hk]) j hj hjp) n1 (λk hk z=>n0 (.inl (by
      have:k=a:=by lia
      rw [<-this];exact hk))) (by rw [sa];simp [hf])
   rw [ihc]
end F
theorem LC {ch:Nat->List Nat} {n:Nat} {f:F} (hc:F.Con ch f) (hf:f≠F.nil) (hm:∀k∈F.pre f,k<n):∃g a b,F.roots f=F.roots g++[a]/\a<n/\F.roots g++ch a=F.roots (F.app g b)/\F.Con ch (F.app g b)/\(F.pre f).length=(F.pre (F.app g b)).length+1/\(∀k∈F.pre (F.app g b),k<n)/\∀o:List Nat,(o++[a])++F.fN (F.app g b)=o++F.fN f:=by
 obtain ⟨g,a,b,rfl⟩:=F.snoc f hf;rw [F.pJ]at hc;obtain ⟨h1,h2,h3,_⟩:=hc;rw [F.pre_app,F.pre,F.pre,Zc]at hm;refine ⟨g,a,b,by rw [F.l3];rfl,hm a (by simp),by rw [F.l3,h2],(F.pJ _ _).mpr ⟨h1,h3⟩,?_,λk hk=>hm k ?_,λo=>?_⟩
 ·rw [F.pre_app,F.pre_app,F.pre,F.pre,Zc,Zv,Zv,Zp]
  lia
 ·rw [F.pre_app]at hk
  rcases Z5.mp hk with hk | hk <;> simp [hk]
 ·rw [F.qO,F.qO,F.fN,F.fN,Yf]
  simp
theorem w4 {f:F} (h:F.roots f=[]):f=F.nil:=by
 cases f with
 |nil=>rfl
 |cons k c r=>cases h
def ez (ts:List Nd):List Gc:=ts.map λn=>.tuple [.str n.l,.int n.t]
def gO (n:Nat) (ch:Nat->List Nat):List Gc:=(range n).map λk=>.list (nD (ch k))
def fgD (fl:Nat->Bool) (n:Nat):List Gc:=(range n).map λk=>.bool (fl k)
def stD (ts:List Nd) (ch:Nat->List Nat) (fl:Nat->Bool):Gc:=.list [.list (ez ts),.list (gO ts.length ch),.list (fgD fl ts.length)]
def stK (ts:List Nd) (ks:List OD) (fl:Nat->Bool):OD:=.ol [.ol ((ez ts).map OD.sh),.ol ks,.ol ((fgD fl ts.length).map OD.sh)]
def kdO (n:Nat) (ch:Nat->List Nat):List OD:=(range n).map λq=>OD.ol (nO (ch q))
theorem AM (n:Nat) (ch:Nat->List Nat):(kdO n ch).map OD.er=gO n ch:=by
 unfold gO kdO;rw [Yu];refine Xy λq _=>?_
 show (OD.ol (nO (ch q))).er=_
 rw [dS,cJ]
theorem uD {ts:List Nd} {ks:List OD} {ch:Nat->List Nat} (fl:Nat->Bool) (h:ks.map OD.er=gO ts.length ch):(stK ts ks fl).er=stD ts ch fl:=by
 unfold stK stD;rw [dS,Zw,Zw,Zw,Yh,dS,dS,dS,aX,aX,h]
theorem mQ (ts:List Nd):(ez ts).length=ts.length:=by unfold ez;rw [Zy]
theorem yz {n:Nat} {ch:Nat->List Nat} {k:Nat} (h:k<n):atI (gO n ch) (k:Int)=some (.list (nD (ch k))):=bt (by unfold gO;rw [Zx,Z6 h];rfl)
theorem A2 {fl:Nat->Bool} {n k:Nat} (h:k<n):atI (fgD fl n) (k:Int)=some (.bool (fl k)):=bt (by unfold fgD;rw [Zx,Z6 h];rfl)
theorem EU {ts:List Nd} {k:Nat} (h:k<ts.length):atI (ez ts) (k:Int)=some (.tuple [.str (cS ts k).l,.int (cS ts k).t]):=bt (by
 unfold ez cS;rw [Zx,Ya h];rfl)
theorem vD (ts:List Nd) (he:EL ts) (h0:0<ts.length) (hl:ts.length<=100):cF [.list (ai ts)]=.ok (stK ts (kdO ts.length (chN ts)) λ_=>false):=by
 unfold cF hV;push_cast only [Yw];generalize hC:bH _ _ _ _ _ _=rc
 have e:=gH hC ndD (λ_:Nd=>.ol []) ts rfl (Y8 (az (by lia))) (by intro n hn;push_cast only [Yw])
 subst e;clear hC;have s1:aL 1=true:=qT (by decide) (by decide)
 have s2:aL (ts.length:Int)=true:=qT (by lia) (by lia)
 have z0:eOf ts 0=-1:=by
  obtain ⟨n,hn⟩:∃n,ts[0]?=some n:=⟨ts[0],by simp [h0]⟩
  rw [d9 hn];exact (he 0 n hn).1 rfl
 have e0:(ts.map λ_:Nd=>OD.ol [])=(range ts.length).map λq=>OD.ol (nO (chI ts 1 q)):=by
  have:∀q:Nat,chI ts 1 q=[]:=λq=>by
   rw [pZ,z0,N2 (by lia)]
   rfl
  apply Yo
  intro i;rw [Zx,Zx];by_cases hi:i<ts.length
  ·rw [Z6 hi,Ya hi]
   show some (OD.ol [])=some (OD.ol (nO (chI ts 1 i)))
   rw [this];rfl
  ·rw [Zb (by lia),Zb (by rw [Zu];lia)]
   rfl
 push_cast only [e0,ay,s1,s2,Vh];generalize hL:bw _ _ _ _=r'
 refine eM hL (λi ρ=>∃v2:Option OD,ρ=[some (.sh (.list (ai ts))),some (.ol ((range ts.length).map λq=>OD.ol (nO (chI ts (i+1) q)))),v2]) ⟨_,rfl⟩ ?_ ?_
 ·rintro i d ρ hd ⟨v2,rfl⟩
  obtain ⟨hi,rfl⟩:=lI hd;have hi2:i+1<ts.length:=by lia
  have ei:(1:Int)+(i:Int)=((i+1:Nat):Int):=by lia
  rw [ei];obtain ⟨n,hn⟩:∃n,ts[i+1]?=some n:=⟨ts[i+1],by simp [hi2]⟩
  have el:=he (i+1) n hn;obtain ⟨k,hk⟩:∃k:Nat,n.e=(k:Int):=⟨n.e.toNat,by have:=el.2.1 (by lia);lia⟩
  have hki:k<i+1:=by have:=el.2.2;lia
  have g3:=lF hn;rw [hk]at g3;have hl2:=EV ts (i+1) k;have ap:=Di (i:=1) (ρ:=[some (.sh (.list (ai ts))),some (.ol ((range ts.length).map λq=>OD.ol (nO (chI ts (i+1) q)))),some (.sh (.int ((i+1:Nat):Int)))]) (k:=eOp gIx (eOp gIx (ae 0) (ae 2)) (eC (.int 0))) (a:=ae 2) (xs:=(range ts.length).map λq=>OD.ol (nO (chI ts (i+1) q))) (ys:=nO (chI ts (i+1) k)) (z:=k) (j:=k) (y:=.sh (.int ((i+1:Nat):Int))) rfl (by push_cast only [g3]) (pC (by rw [Zy,Zu];lia)) (by rw [Zx,Z6 (by lia)];rfl) rfl (by rw [wC];exact Y8 (ik (by lia)))
  push_cast only [Yw];rw [ap];have st:((range ts.length).map λq=>OD.ol (nO (chI ts (i+1) q))).set k (OD.ol (nO (chI ts (i+1) k)++[OD.sh (.int ((i+1:Nat):Int))]))=(range ts.length).map λq=>OD.ol (nO (chI ts (i+1+1) q)):=by
   rw [mW];have e1:chI ts (i+1) k++[i+1]=chI ts (i+1+1) k:=by rw [pZ ts (i+1),d9 hn,hk,N1 rfl]
   rw [e1];refine iy (λq=>OD.ol (nO (chI ts (i+1) q))) (λq=>OD.ol (nO (chI ts (i+1+1) q))) ts.length k λq hq=>?_
   show OD.ol (nO (chI ts (i+1+1) q))=_
   rw [pZ ts (i+1),d9 hn,hk,N2 (by lia),Zc]
  rw [st];push_cast only [Yw];exact ⟨_,rfl⟩
 ·rintro ρ' rfl ⟨v2,rfl⟩
  rw [mL,show ((ts.length:Int)-1).toNat+1=ts.length by lia]
  have ek:((range ts.length).map λq=>OD.ol (nO (chI ts ts.length q)))=kdO ts.length (chN ts):=rfl
  have rp:=xM (.bool false) ts.length (by lia)
  have ef:(replicate ts.length (PyData.bool false))=fgD (λ_=>false) ts.length:=by
   unfold fgD;apply Yo
   intro i;rw [Zx];by_cases hi:i<ts.length
   ·rw [Z6 hi,Xa,N1 hi]
    rfl
   ·rw [Zb (by rw [Xv];lia),Zb (by rw [Zu];lia)]
    rfl
  rw [ef]at rp;have c1:∀v1 v2:Option OD,bu (dg (ae 0)) (gTp 3 (aZ (gNm 0) (aZ (gNm 1) (aZ (gNm 2) fP)))) dG (cP (aa (ae 1) (aa (ae 2) ag))) 3 [] [some (.sh (.list (ai ts))),v1,v2]=.ok (.ol ((ez ts).map OD.sh)):=λv1 v2=>by
   push_cast only [Yw];generalize hC:bH _ _ _ _ _ _=rc
   have e:=gH hC ndD (λn:Nd=>.sh (.tuple [.str n.l,.int n.t])) ts rfl (Y8 (az (by lia))) (by intro n hn;push_cast only [ndD])
   subst e;have e2:(ts.map λn:Nd=>OD.sh (.tuple [.str n.l,.int n.t]))=(ez ts).map OD.sh:=by
    unfold ez;rw [Yu];rfl
   push_cast only [e2]
  have c2:(eOp kW (cK (aa (eC (.bool false)) ag)) (eB a_ (aa (ae 0) ag))) [some (.sh (.list (ai ts))),some (.ol (kdO ts.length (chN ts))),v2]=.ok (.ol ((fgD (λ_=>false) ts.length).map OD.sh)):=by push_cast only [ay,rp]
  rw [ek];have rt:=Cn (i:=1) rfl (c1 (some (.ol (kdO ts.length (chN ts)))) v2) c2;push_cast only [↓rt];rfl
def chO (ch:Nat->List Nat) (fl:Nat->Bool) (b:Bool) (q:Nat):List Nat:=(if (!b && fl q)=true then [] else ch q).reverse
def frO (fl:Nat->Bool) (b:Bool) (f:F):F:=F.mir (F.pr (λk=>!b && fl k) f)
def iV (fl:Nat->Bool) (b:Bool) (f:F):List Nat:=F.pre (F.pr (λk=>!b && fl k) f)
theorem C6 (ts:List Nd) (ch:Nat->List Nat) (c:F) (con:F.Con ch c) (rt:F.roots c=[0]) (km:∀k∈F.pre c,k<ts.length) (cl:(F.pre c).length<=100) (fl:Nat->Bool) (b:Bool):b5 [stD ts ch fl,.bool b]=.ok (.ol (nO (iV fl b c))):=by
 unfold b5 iH;have con0:F.Con (chO ch fl b) (frO fl b c):=F.uN _ (F.ur _ con);have z0:F.roots (frO fl b c)=[0]:=by
  unfold frO;rw [F.oA,F.qP,rt];rfl
 have mp:F.fN (frO fl b c)=iV fl b c:=F.AD _;have pl:(F.pre (frO fl b c)).length<=100:=by
  have h1:=F.kx (λk=>!b && fl k) c
  unfold frO;rw [F.m9,(F.lP _).length_eq]
  lia
 have kl:∀k∈F.pre (frO fl b c),k<ts.length:=λk hk=>by
  unfold frO at hk;rw [F.m9]at hk;exact km k (F.mD _ _ k ((F.lP _).mem_iff.mp hk))
 have rl:∀f:F,(F.roots f).length<=(F.pre f).length:=by
  intro f
  induction f with
  |nil=>exact Zi _
  |cons k c r ih1 ih2 =>
   rw [F.roots,F.pre,Zp,Zp,Zv]
   lia
 push_cast only [Yw];generalize hL:dM _ _ _=r
 refine pk hL (λm ρ=>∃(f:F) (o:List Nat) (v4:Option OD),F.Con (chO ch fl b) f/\(F.pre f).length=m/\m<=100/\(∀k∈F.pre f,k<ts.length)/\o++F.fN f=iV fl b c/\ρ=[some (.sh (stD ts ch fl)),some (.sh (.bool b)),some (.ol (nO o)),some (.ol (nO (F.roots f))),v4])
  (F.pre (frO fl b c)).length ⟨frO fl b c,[],_,con0,rfl,pl,kl,mp,by rw [z0];rfl⟩
  (fun ρ=>∃v3 v4:Option OD,ρ=[some (.sh (stD ts ch fl)),some (.sh (.bool b)),some (.ol (nO (iV fl b c))),v3,v4]) ?_ ?_
 ·rintro m ρ ⟨f,o,v4,hc,hm,hmt,hk,ho,rfl⟩
  by_cases hf:F.roots f=[]
  ·left
   have:=w4 hf;subst this;rw [F.fN,Zc]at ho;subst ho;have ge:gNe (.list (nD [])) (.list [])=.ok (.sh (.bool false)):=CJ (lay_ints []);constructor
   ·push_cast only [cJ,F.roots,ge]
   ·exact ⟨_,_,rfl⟩
  ·right
   obtain ⟨g,a,d,r1,r2,r3,r4,r5,r6,r7⟩:=LC hc (λz=>hf (by rw [z];rfl)) hk
   have ge:gNe (.list (nD (F.roots g++[a]))) (.list [])=.ok (.sh (.bool true)):=by
    have h0:iL (F.roots g++[a])≠[]:=by unfold iL;simp
    unfold nD;generalize iL (F.roots g++[a])=ns at h0
    cases ns with
    |nil=>exact absurd rfl h0
    |cons x xs =>
     unfold gNe;rw [qI];unfold og;rw [ke (lay_ints (x :: xs)) (by decide),show SeqAt.shaped (.list [])=true from ke (lay_ints []) (by decide),Vh,N1 rfl]
     rfl
   have ol:o.length<=100:=by
    have h1:=Yl List.length ho;rw [Zv]at h1;have h2:(iV fl b c).length<=(F.pre c).length:=F.kx (λk=>!b && fl k) c
    lia
   have lb1:((nO o).length<BIG)=True:=by rw [wC];exact ik (by lia)
   have kd:=yz (ch:=ch) r2;have fd:=A2 (fl:=fl) r2;have k2:atI [PyData.list (ez ts),.list (gO ts.length ch),.list (fgD fl ts.length)] 2=some (.list (fgD fl ts.length)):=rfl;have k1:atI [PyData.list (ez ts),.list (gO ts.length ch),.list (fgD fl ts.length)] 1=some (.list (gO ts.length ch)):=rfl;rw [r1];constructor
   ·push_cast only [cJ,ge]
   ·rw [<-mW]
    have rv:(nD (ch a)).reverse=nD (ch a).reverse:=by unfold nD iL;rw [<-List.map_reverse,<-List.map_reverse]
    have ap:nD (F.roots g)++nD (ch a).reverse=nD (F.roots g++(ch a).reverse):=by unfold nD iL;rw [Zh,Zh]
    unfold stD;by_cases hb:(!b && fl a)=true
    ·rw [Yy]at hb
     have b0:b=false:=by simpa using hb.1
     subst b0;have c0:chO ch fl false a=[]:=by
      unfold chO;rw [N1 (by rw [hb.2];rfl)]
      rfl
     rw [c0,Zc]at r3;have f1:=hb.2;push_cast only [yH,lb1,k2,fd,f1];rw [mW];exact ⟨_,by lia,F.app g d,o++[a],_,r4,rfl,by lia,r6,by rw [r7];exact ho,by rw [r3]⟩
    ·have c0:chO ch fl b a=(ch a).reverse:=by
      unfold chO;rw [N2 hb]
     rw [c0]at r3;have lb2:((nD (F.roots g)).length+(nD (ch a).reverse).length<=BIG)=True:=by
      rw [aY,aY];have q1:=rl (F.app g d);rw [<-r3,Zv]at q1;exact az (by lia)
     have fin:∀v4:Option OD,∃n,n<m/\∃(f:F) (o':List Nat) (v:Option OD),F.Con (chO ch fl b) f/\(F.pre f).length=n/\n<=100/\(∀k∈F.pre f,k<ts.length)/\o'++F.fN f=iV fl b c/\[some (OD.sh (.list [.list (ez ts),.list (gO ts.length ch),.list (fgD fl ts.length)])),some (.sh (.bool b)),some (.ol (nO (o++[a]))),some (.ol ((nD (F.roots g++(ch a).reverse)).map OD.sh)),v4]=[some (OD.sh (.list [.list (ez ts),.list (gO ts.length ch),.list (fgD fl ts.length)])),some (.sh (.bool b)),some (.ol (nO o')),some (.ol (nO (F.roots f))),v]:=λv4 =>
      ⟨_,by lia,F.app g d,o++[a],v4,r4,rfl,by lia,r6,by rw [r7];exact ho,by rw [<-r3];rfl⟩
     cases b with
     |true =>
      push_cast only [yH,lb1,k1,kd,cJ,A4,rv,aX,lb2,ap];rw [mW];exact fin _
     |false =>
      have f1:fl a=false:=by simpa using hb
      push_cast only [yH,lb1,k2,k1,fd,f1,kd,cJ,A4,rv,aX,lb2,ap];rw [mW];exact fin _
 ·rintro ρ' rfl ⟨v3,v4,rfl⟩
  push_cast only [Yw]
def Am (ts:List Nd):List Gc:=(range ts.length).map λk=>.int (eOf ts k)
theorem EJ {ts:List Nd} {k:Nat} (h:k<ts.length):atI (Am ts) (k:Int)=some (.int (eOf ts k)):=bt (by unfold Am;rw [Zx,Z6 h];rfl)
def elI (ts:List Nd) (m:Nat) (k:Nat):Int:=if eOf ts k<(m:Int) then eOf ts k else -1
theorem iI {ts:List Nd} {q k:Nat}:k∈chN ts q ↔ k<ts.length/\eOf ts k=(q:Int):=by
 unfold chN;rw [We,Yk,Zk]
theorem zQ (ts:List Nd) (ch:Nat->List Nat) (fl:Nat->Bool) (hch:∀q,q<ts.length->∀k,k∈ch q ↔ k∈chN ts q) (he:EL ts) (hl:ts.length<=100):dq [stD ts ch fl]=.ok (.ol ((Am ts).map OD.sh)):=by
 unfold dq gG;have k0:atI [PyData.list (ez ts),.list (gO ts.length ch),.list (fgD fl ts.length)] 0=some (.list (ez ts)):=rfl;have k1:atI [PyData.list (ez ts),.list (gO ts.length ch),.list (fgD fl ts.length)] 1=some (.list (gO ts.length ch)):=rfl;have rp:=xM (.int (-1)) ts.length (by lia)
 have eb:∀k,k<ts.length->-1<=eOf ts k/\eOf ts k<(ts.length:Int):=λk hk=>by
  obtain ⟨n,hn⟩:∃n,ts[k]?=some n:=⟨ts[k],by simp [hk]⟩
  have h:=he k n hn;rw [d9 hn];by_cases z:k=0
  ·have:=h.1 z;lia
  ·have:=h.2.1 (by lia);lia
 have ef:replicate ts.length (PyData.int (-1))=(range ts.length).map λk=>PyData.int (elI ts 0 k):=by
  apply Yo
  intro i;rw [Zx];by_cases hi:i<ts.length
  ·rw [Z6 hi,Xa,N1 hi]
   have:=eb i hi;show some _=some (PyData.int (elI ts 0 i))
   unfold elI;by_cases z:eOf ts i<((0:Nat):Int)
   ·rw [N1 z,show eOf ts i=-1 by lia]
   ·rw [N2 z]
  ·rw [Zb (by rw [Xv];lia),Zb (by rw [Zu];lia)]
   rfl
 rw [ef]at rp;have s2:aL (ts.length:Int)=true:=qT (by lia) (by lia)
 unfold stD;push_cast only [k0,mQ,rp,s2];generalize hL:bw _ _ _ _=r'
 refine eM hL (λi ρ=>∃v2 v3:Option OD,ρ=[some (.sh (.list [.list (ez ts),.list (gO ts.length ch),.list (fgD fl ts.length)])),some (.ol (((range ts.length).map λk=>PyData.int (elI ts i k)).map OD.sh)),v2,v3]) ⟨_,_,rfl⟩ ?_ ?_
 ·rintro i d ρ hd ⟨v2,v3,rfl⟩
  obtain ⟨hi,rfl⟩:=lI hd;rw [Zn]at hi;rw [X2];have kd:=yz (ch:=ch) hi;push_cast only [k1,kd];generalize hT:bw _ _ _ _=rt
  have kin:∀j k,(ch i)[j]?=some k->k<ts.length/\eOf ts k=(i:Int):=λj k h=>iI.mp ((hch i hi k).mp (Yp h))
  refine eM hT (λj ρ=>∃v3:Option OD,ρ=[some (.sh (.list [.list (ez ts),.list (gO ts.length ch),.list (fgD fl ts.length)])),some (.ol (((range ts.length).map λk=>PyData.int (if ((ch i).take j).contains k=true then (i:Int) else elI ts i k)).map OD.sh)),some (.sh (.int (i:Int))),v3]) ⟨v3,by simp only [Vq,List.contains_nil,Bool.false_eq_true,if_false]⟩ ?_ ?_
  ·rintro j d ρ hd ⟨v3,rfl⟩
   have hj:j<(ch i).length:=by
    have:=(ZA.mp hd).1;rw [aY]at this;exact this
   obtain ⟨k,hk⟩:∃k,(ch i)[j]?=some k:=⟨(ch i)[j],by simp⟩
   rw [kN hk]at hd;cases hd;have hkl:=(kin j k hk).1;have ix:ixN (((range ts.length).map λk=>PyData.int (if ((ch i).take j).contains k=true then (i:Int) else elI ts i k)).map OD.sh).length (k:Int)=some k:=pC (by rw [Zy,Zy,Zu];exact hkl)
   have st:((((range ts.length).map λk=>PyData.int (if ((ch i).take j).contains k=true then (i:Int) else elI ts i k)).map OD.sh)).set k (OD.sh (.int (i:Int)))=((range ts.length).map λk=>PyData.int (if ((ch i).take (j+1)).contains k=true then (i:Int) else elI ts i k)).map OD.sh:=by
    rw [Yu,Yu];have tk:=take_snoc hk;have e2:(OD.sh ∘ λk=>PyData.int (if ((ch i).take (j+1)).contains k=true then (i:Int) else elI ts i k)) k=OD.sh (.int (i:Int)):=by
     show OD.sh (.int (if ((ch i).take (j+1)).contains k=true then (i:Int) else elI ts i k))=_
     rw [N1 (List.contains_iff_mem.mpr (by rw [tk];simp))]
    rw [<-e2];refine iy _ _ ts.length k λq hq=>?_
    show OD.sh (.int (if ((ch i).take (j+1)).contains q=true then (i:Int) else elI ts i q))=OD.sh (.int (if ((ch i).take j).contains q=true then (i:Int) else elI ts i q))
    have:((ch i).take (j+1)).contains q=((ch i).take j).contains q:=by
     rw [tk,Xm,List.contains_iff_mem,List.contains_iff_mem];simp [hq]
    rw [this]
   push_cast only [Mm ix,st];exact ⟨_,rfl⟩
  ·rintro ρ' rfl ⟨v3',rfl⟩
   rw [aY,Wj];have e3:((range ts.length).map λk=>PyData.int (if (ch i).contains k=true then (i:Int) else elI ts i k))=(range ts.length).map λk=>PyData.int (elI ts (i+1) k):=Xy λk hk=>by
    rw [Yk]at hk;refine Yl PyData.int ?_;unfold elI;by_cases z:eOf ts k=(i:Int)
    ·rw [N1 (List.contains_iff_mem.mpr ((hch i hi k).mpr (iI.mpr ⟨hk,z⟩))),N1 (by lia),z]
    ·rw [N2 (λw=>z (iI.mp ((hch i hi k).mp (List.contains_iff_mem.mp w))).2)]
     by_cases y:eOf ts k<(i:Int)
     ·rw [N1 y,N1 (by lia)]
     ·rw [N2 y,N2 (by lia)]
   rw [e3];exact ⟨_,_,rfl⟩
 ·rintro ρ' rfl ⟨v2,v3,rfl⟩
  rw [mL,Zn];have e4:((range ts.length).map λk=>PyData.int (elI ts ts.length k))=Am ts:=Xy λk hk=>by
   rw [Yk]at hk;have:=eb k hk;unfold elI;rw [N1 (by lia)]
  rw [e4];push_cast only [Yw]
def gj (ts:List Nd) (L:List Nat) (k:Nat):Gc:=.tuple [.int (if eOf ts k<0 then -1 else (L.idxOf (eOf ts k).toNat:Nat)),.str (cS ts k).l,.int (cS ts k).t]
def bZ (ts:List Nd) (L:List Nat):List Gc:=L.map (gj ts L)
theorem AR (L:List Nat) (q:Nat) (h:q∈L) (hl:L.length<=100):tV (nD L) (.int (q:Int))=.ok (.sh (.int ((L.idxOf q:Nat):Int))):=by
 have e:(iL L).idxOf (q:Int)=L.idxOf q:=by
  unfold iL;clear hl
  induction L with
  |nil=>cases h
  |cons a r ih =>
   rw [Zw,Vv,Vv];by_cases z:a=q
   ·subst z
    simp
   ·have z2:((a:Int) == (q:Int))=false:=beq_eq_false_iff_ne.mpr (by lia)
    have z3:(a == q)=false:=beq_eq_false_iff_ne.mpr z;rw [z2,z3];have hm:q∈r:=by
     rcases Xz.mp h with w | w
     ·exact absurd w.symm z
     ·exact w
    show _+1=_+1
    rw [ih hm]
 have m:(q:Int)∈iL L:=ZC.mpr ⟨q,h,rfl⟩;rw [<-e];exact Ln _ _ m
theorem vU (ts:List Nd) (ch:Nat->List Nat) (fl:Nat->Bool) (hch:∀q,q<ts.length->∀k,k∈ch q ↔ k∈chN ts q) (L:List Nat) (he:EL ts) (hl:ts.length<=100) (hLn:L.length<=100) (hm:∀k∈L,k<ts.length/\(0<=eOf ts k->(eOf ts k).toNat∈L)):dC [stD ts ch fl,.list (nD L)]=.ok (.ol ((bZ ts L).map OD.sh)):=by
 unfold dC jH;have el:=zQ ts ch fl hch he hl;have k0:atI [PyData.list (ez ts),.list (gO ts.length ch),.list (fgD fl ts.length)] 0=some (.list (ez ts)):=rfl;push_cast only [el,aX];generalize hL:bw _ _ _ _=r'
 refine eM hL (λi ρ=>∃v4 v5:Option OD,ρ=[some (.sh (stD ts ch fl)),some (.sh (.list (nD L))),some (.sh (.list (Am ts))),some (.ol (((L.take i).map (gj ts L)).map OD.sh)),v4,v5]) ⟨_,_,rfl⟩ ?_ ?_
 ·rintro i d ρ hd ⟨v4,v5,rfl⟩
  have hi:i<L.length:=by
   have:=(ZA.mp hd).1;rw [aY]at this;exact this
  obtain ⟨k,hk⟩:∃k,L[i]?=some k:=⟨L[i],by simp⟩
  rw [kN hk]at hd;cases hd;obtain ⟨h1,h2⟩:=hm k (Yp hk);have ed:=EJ h1;have ld:=EU h1;have lb:((L.take i).length<BIG)=True:=by rw [Ze];exact ik (by lia)
  have sn:((L.take i).map (gj ts L)).map OD.sh++[OD.sh (gj ts L k)]=((L.take (i+1)).map (gj ts L)).map OD.sh:=by rw [take_snoc hk,Zh,Zh];rfl
  by_cases z:eOf ts k<0
  ·have d1:decide ((0:Int)<=eOf ts k)=false:=Zq (by lia)
   have rd:gj ts L k=.tuple [.int (-1),.str (cS ts k).l,.int (cS ts k).t]:=by unfold gj;rw [N1 z]
   rw [rd]at sn;unfold stD;push_cast only [ed,d1,k0,ld,lb,sn];exact ⟨_,_,rfl⟩
  ·have d1:decide ((0:Int)<=eOf ts k)=true:=Za (by lia)
   obtain ⟨q,hq⟩:∃q:Nat,eOf ts k=(q:Int):=⟨(eOf ts k).toNat,by lia⟩
   have ix:=AR L q (by have:=h2 (by lia);rw [hq,Zn]at this;exact this) hLn
   have rd:gj ts L k=.tuple [.int ((L.idxOf q:Nat):Int),.str (cS ts k).l,.int (cS ts k).t]:=by unfold gj;rw [N2 z,hq,Zn]
   rw [rd]at sn;rw [hq]at ed d1;unfold stD;push_cast only [ed,d1,k0,ld,lb,ix,sn];exact ⟨_,_,rfl⟩
 ·rintro ρ' rfl ⟨v4,v5,rfl⟩
  rw [aY,Wj];push_cast only [Yw];rfl
def snL (ts:List Nd) (fl:Nat->Bool):Nat->List Bool
 |0=>[]
 |i+1=>snL ts fl i++[decide (eOf ts i=-1) || (((snL ts fl i)[(eOf ts i).toNat]?).getD false && !fl (eOf ts i).toNat)]
theorem eN (ts:List Nd) (fl:Nat->Bool):∀i,(snL ts fl i).length=i
 |0=>rfl
 |i+1=>by rw [snL,Zv,eN ts fl i];rfl
def sn (ts:List Nd) (fl:Nat->Bool) (k:Nat):Bool:=((snL ts fl (k+1))[k]?).getD false
theorem qS (ts:List Nd) (fl:Nat->Bool):∀(m k:Nat),k<m->(snL ts fl m)[k]?=some (sn ts fl k)
 |0,k,h=>by lia
 |m+1,k,h=>by
  by_cases e:k=m
  ·subst e
   unfold sn;rw [Ya (by rw [eN];lia)]
   rfl
  ·rw [snL,Yz (by rw [eN];lia)]
   exact qS ts fl m k (by lia)
theorem yI {ts:List Nd} {fl:Nat->Bool} {k:Nat} (h:eOf ts k=-1):sn ts fl k=true:=by
 unfold sn;rw [snL,Z9 (by rw [eN];lia),eN,Xf,h]
 rfl
theorem tU {ts:List Nd} {fl:Nat->Bool} {k j:Nat} (h:eOf ts k=(j:Int)) (hj:j<k):sn ts fl k=(sn ts fl j && !fl j):=by
 have e:sn ts fl k=(decide (eOf ts k=-1) || (((snL ts fl k)[(eOf ts k).toNat]?).getD false && !fl (eOf ts k).toNat)):=by
  unfold sn;rw [snL,Z9 (by rw [eN];lia),eN,Xf]
  rfl
 rw [e,h,Zn,qS ts fl k j hj,Zq (by lia)]
 rfl
def seen (ts:List Nd) (fl:Nat->Bool):List Nat:=(range ts.length).filter (sn ts fl)
theorem elt {ts:List Nd} (he:EL ts) {k:Nat} (hk:k<ts.length):eOf ts k=-1/\k=0\/∃j:Nat,eOf ts k=(j:Int)/\j<k:=by
 obtain ⟨n,hn⟩:∃n,ts[k]?=some n:=⟨ts[k],by simp [hk]⟩
 have h:=he k n hn;rw [d9 hn];by_cases z:k=0
 ·exact .inl ⟨h.1 z,z⟩
 ·have:=h.2.1 (by lia)
  exact .inr ⟨n.e.toNat,by lia,by lia⟩
theorem Bs (ts:List Nd) (c:F) (p:PT ts c) (he:EL ts) (fl:Nat->Bool):iV fl false (F.full c)=seen ts fl:=by
 unfold iV seen;have e:(λk=>!false && fl k)=fl:=funext λk=>by cases fl k <;> rfl
 rw [e,<-p.preF];refine F.w6 (-1) true (F.full c) p.eldF (λk hk h=>yI h) (λk hk j hj _=>?_) (by rw [p.preF];exact Wi) (λk _=>by lia) rfl
 rw [p.preF,Yk]at hk;rcases elt he hk with ⟨z,_⟩ | ⟨j',h1,h2⟩
 ·lia
 ·have:j=j':=by lia
  subst this;exact tU h1 h2
theorem sW:∀f:F,F.pr (λ_=>false) f=f
 |.nil=>rfl
 |.cons k c r=>by rw [F.pr,N2 Zo,sW c,sW r]
theorem zP (ts:List Nd) (c:F) (p:PT ts c) (fl:Nat->Bool):iV fl true (F.full c)=range ts.length:=by
 unfold iV;have e:(λk=>!true && fl k)=λ_=>false:=funext λk=>rfl
 rw [e,sW,p.preF]
theorem lS {ts:List Nd} {fl:Nat->Bool} {k:Nat} (h:k∈seen ts fl):k<ts.length:=by
 unfold seen at h;rw [We,Yk]at h;exact h.1
theorem pI {ts:List Nd} (he:EL ts) {fl:Nat->Bool} {k:Nat} (h:k∈seen ts fl):0<=eOf ts k->(eOf ts k).toNat∈seen ts fl:=λh0=>by
 unfold seen at h ⊢;rw [We,Yk]at h ⊢;rcases elt he h.1 with ⟨z,_⟩ | ⟨j,h1,h2⟩
 ·lia
 ·rw [h1,Zn]
  have:=tU (fl:=fl) h1 h2;rw [h.2]at this;have h3:(sn ts fl j && !fl j)=true:=this.symm;rw [Yy]at h3;exact ⟨by lia,h3.1⟩
theorem Em (ts:List Nd) (fl:Nat->Bool):(seen ts fl).Nodup:=Vo _ Wi
theorem qX (ts:List Nd) (fl:Nat->Bool):(seen ts fl).length<=ts.length:=by
 have:=Xl (sn ts fl) (range ts.length);rw [Zu]at this;exact this
def nY (R:List Nat) (i:Nat):List (Key×Gc):=(.inl (-1),.int (-1)) :: (range i).map λj:Nat=>(.inl ((R[j]?.getD 0:Nat):Int),.int (j:Int))
theorem zE (h:∀p∈ks,p.1≠k):putD ks k d=ks++[(k,d)]:=by
 unfold putD;rw [N2];rw [Bool.not_eq_true,List.any_eq_false];intro p hp;rw [Zk];exact h p hp
theorem xT {R:List Nat} (nd:R.Nodup) (hi:i<R.length) (hj:j<R.length) (h:R[i]=R[j]):i=j:=by
 have a:=nd.idxOf_getElem i hi;have b:=nd.idxOf_getElem j hj;rw [h]at a
 lia
theorem yY {R:List Nat} (nd:R.Nodup) {i k:Nat} (hk:R[i]?=some k):putD (nY R i) (.inl (k:Int)) (.int (i:Int))=nY R (i+1):=by
 rw [zE]
 ·unfold nY
  rw [Wf,Zh,Y6,Zw,hk];rfl
 ·intro p hp
  unfold nY at hp;rcases Xz.mp hp with rfl | hp
  ·intro z
   have:=W4 z
   lia
  ·obtain ⟨j,hj,rfl⟩:=ZC.mp hp
   rw [Yk]at hj;intro z;have hz:=W4 z;obtain ⟨h1,h2⟩:=ZA.mp hk;rw [Ya (show j<R.length by lia)]at hz
   have hz:((R[j]:Nat):Int)=(k:Int):=hz;have:=xT nd (show j<R.length by lia) h1 (by rw [h2];lia)
   lia
theorem zH (R:List Nat) (i:Nat):rB (nY R i) (.inl (-1))=some (.int (-1)):=by
 unfold rB nY;rw [Xt];simp
theorem D8 {R:List Nat} (nd:R.Nodup) {i k:Nat} (hk:R[i]?=some k):rB (nY R R.length) (.inl (k:Int))=some (.int (i:Int)):=by
 unfold rB nY;have h0:decide ((Sum.inl (-1):Key)=.inl (k:Int))=false:=Zq λz=>by
  have:=W4 z
  lia
 obtain ⟨h1,h2⟩:=ZA.mp hk;rw [Xt,h0,List.find?_map];have:(range R.length).find? ((λkv:Key×Gc=>decide (kv.1=.inl (k:Int))) ∘ λj:Nat=>(.inl ((R[j]?.getD 0:Nat):Int),PyData.int (j:Int)))=some i:=by
  rw [List.find?_range_eq_some];refine ⟨?_,Yk.mpr h1,λj hj=>?_⟩
  ·show decide ((Sum.inl ((R[i]?.getD 0:Nat):Int):Key)=.inl (k:Int))=true
   rw [hk];exact Za rfl
  ·show (!decide ((Sum.inl ((R[j]?.getD 0:Nat):Int):Key)=.inl (k:Int)))=true
   rw [Bool.not_eq_true',decide_eq_false_iff_not];intro z;have hz:=W4 z;rw [Ya (show j<R.length by lia)]at hz
   have hz:((R[j]:Nat):Int)=(k:Int):=hz;have:=xT nd (show j<R.length by lia) h1 (by rw [h2];lia)
   lia
 rw [this];rfl
theorem D5 {R:List Nat} (h:k∈R):R[R.idxOf k]?=some k:=by
 have hl:=List.idxOf_lt_length_iff.mpr h;rw [Ya hl];exact Yl some (List.getElem_idxOf hl)
theorem gy {ts:List Nd} {k:Nat} (h:k<ts.length):ts[k]?=some (cS ts k):=by
 unfold cS;rw [Ya h];rfl
theorem B6 (ts:List Nd) (he:EL ts) (R:List Nat) (nd:R.Nodup) (hR:R.length<=100) (hm:∀k∈R,k<ts.length/\(0<=eOf ts k->(eOf ts k).toNat∈R)):aR [.list (ai ts),.list (nD R)]=.ok (.ol ((bZ ts R).map OD.sh)):=by
 unfold aR iw;have hd1:∀ρ:L3.Env,eD1 (eUn gP (eC (.int 1))) (eUn gP (eC (.int 1))) ρ=.ok (.od (nY R 0)):=fun ρ=>rfl
 push_cast only [hd1];generalize hL:bw _ _ _ _=r'
 refine eM hL (λi ρ=>∃v3 v4:Option OD,ρ=[some (.sh (.list (ai ts))),some (.sh (.list (nD R))),some (.od (nY R i)),v3,v4,none]) ⟨_,_,rfl⟩ ?_ ?_
 ·rintro i d ρ hd ⟨v3,v4,rfl⟩
  obtain ⟨e,hee,rfl⟩:=rY hd;have hi:i<R.length:=by
   have:=(ZA.mp hee).1;rw [aY]at this;exact this
  obtain ⟨k,hk⟩:∃k,R[i]?=some k:=⟨R[i],by simp⟩
  rw [kN hk]at hee;cases hee;have lb:((nY R i).length<BIG)=True:=by unfold nY;rw [Zp,Zy,Zu];exact ik (by lia)
  push_cast only [CY,AY,lb,yY nd hk];exact ⟨_,_,rfl⟩
 ·rintro ρ' rfl ⟨v3,v4,rfl⟩
  have el:(dn (nD R)).length=R.length:=by unfold dn;rw [Zy,Wq,aY]
  rw [el];push_cast only [Yw];generalize hC:bH _ _ _ _ _ _=rc
  have e:=gH hC (λk:Nat=>PyData.int (k:Int)) (λk=>.sh (ndD (cS ts k))) R (by unfold nD iL;rw [Yu];rfl) (Y8 (az (by lia))) (by
   intro k hk;have g1:=lF (gy (hm k hk).1);push_cast only [g1,ndD])
  subst e;clear hC;have e2:(R.map λk=>OD.sh (ndD (cS ts k))).map OD.er=R.map λk=>ndD (cS ts k):=by
   rw [Yu];exact Xy λk _=>aQ _
  push_cast only [e2,Ce];generalize hC:bH _ _ _ _ _ _=rc
  have e:=gH hC (λk:Nat=>ndD (cS ts k)) (λk=>.sh (gj ts R k)) R rfl (Y8 (az (by lia))) (by
   intro k hk;obtain ⟨h1,h2⟩:=hm k hk;have ee:=iD h1;have g1:rB (nY R R.length) (.inl (cS ts k).e)=some (.int (if eOf ts k<0 then -1 else (R.idxOf (eOf ts k).toNat:Nat))):=by
    rw [ee];rcases elt he h1 with ⟨z,_⟩ | ⟨j,z,_⟩
    ·rw [z,zH,N1 (by lia)]
    ·have hj:=h2 (by lia)
     rw [z,Zn]at hj;rw [z,N2 (by lia),Zn]
     exact D8 nd (D5 hj)
   unfold gj;push_cast only [ndD,MI,g1])
  subst e;clear hC;have e3:(R.map λk=>OD.sh (gj ts R k))=(bZ ts R).map OD.sh:=by
   unfold bZ;rw [Yu];rfl
  push_cast only [e3]
def fdL (ts:List Nd) (fl:Nat->Bool):List Nat:=(range ts.length).filter fl
theorem CH {ts:List Nd} {fl:Nat->Bool} {j:Nat} (h:j<ts.length):decide ((j:Int)∈iL (fdL ts fl))=fl j:=by
 unfold iL fdL;rw [Xm,Zk,ZC];constructor
 ·rintro ⟨q,h1,h2⟩
  have:q=j:=by lia
  subst this;exact (We.mp h1).2
 ·exact λz=>⟨j,We.mpr ⟨Yk.mpr h,z⟩,rfl⟩
def eA (ts:List Nd) (fl:Nat->Bool):Gc:=.tuple [.list (bZ ts (seen ts fl)),.list (nD (seen ts fl))]
def k8 (ts:List Nd) (fl:Nat->Bool):OD:=.ot [.ol ((bZ ts (seen ts fl)).map OD.sh),.ol (nO (seen ts fl))]
theorem rD (ts:List Nd) (fl:Nat->Bool):(k8 ts fl).er=eA ts fl:=by
 unfold k8 eA;rw [BD,Zw,Zw,Yh,dS,aX,dS,cJ]
theorem AU (ts:List Nd) (L:List Nat):okN (.ol ((bZ ts L).map OD.sh))=true:=by
 show ((bZ ts L).map OD.sh).all HC=true
 rw [Wa,Vy];intro x hx;unfold bZ at hx;obtain ⟨k,_,rfl⟩:=ZC.mp hx;show nol (gj ts L k)=true
 unfold gj;simp [nol,B7]
def bD (bs:List Bool):List Gc:=bs.map PyData.bool
theorem Bo (ts:List Nd) (he:EL ts) (fl:Nat->Bool) (hl:ts.length<=100):lK [.list (ai ts),.list (nD (fdL ts fl))]=.ok (k8 ts fl):=by
 unfold lK pU;push_cast only [Yw];generalize hL:bw _ _ _ _=r'
 refine eM hL (λi ρ=>∃v3:Option OD,ρ=[some (.sh (.list (ai ts))),some (.sh (.list (nD (fdL ts fl)))),some (.ol ((bD (snL ts fl i)).map OD.sh)),v3,none]) ⟨_,rfl⟩ ?_ ?_
 ·rintro i d ρ hd ⟨v3,rfl⟩
  unfold ai at hd;rw [Zx]at hd;obtain ⟨n,hn,rfl⟩:=ZB.mp hd;have hi:=(ZA.mp hn).1;have en:n.e=eOf ts i:=(d9 hn).symm;have lb:((bD (snL ts fl i)).length<BIG)=True:=by unfold bD;rw [Zy,eN];exact ik (by lia)
  have sn1:(bD (snL ts fl i)).map OD.sh++[OD.sh (.bool (sn ts fl i))]=(bD (snL ts fl (i+1))).map OD.sh:=by
   have:=qS ts fl (i+1) i (by lia)
   have e1:snL ts fl (i+1)=snL ts fl i++[sn ts fl i]:=by
    unfold sn;rw [snL,Z9 (by rw [eN];lia),eN,Xf]
    rfl
   rw [e1];unfold bD;rw [Zh,Zh];rfl
  rcases elt he hi with ⟨z,_⟩ | ⟨j,z,hj⟩
  ·rw [yI z]at sn1
   have d1:decide (n.e=-1)=true:=Za (by rw [en];exact z)
   push_cast only [ndD,d1,aX,lb,sn1];exact ⟨_,rfl⟩
  ·have d1:decide (n.e=-1)=false:=Zq (by rw [en,z];lia)
   have ej:n.e=(j:Int):=by rw [en,z]
   rw [tU z hj]at sn1;have at1:atI (bD (snL ts fl i)) (j:Int)=some (.bool (sn ts fl j)):=bt (by unfold bD;rw [Zx,qS ts fl i j hj];rfl)
   have m1:iY true (.int (j:Int)) (.list (nD (fdL ts fl)))=.ok (.sh (.bool (!fl j))):=by
    unfold nD;rw [sO,N1 rfl,CH (by lia)]
   rw [ej]at d1;cases hs:sn ts fl j with
   |true =>
    rw [hs]at sn1 at1;push_cast only [ndD,ej,d1,aX,at1,m1,lb];rw [Bool.true_and]at sn1;push_cast only [sn1];exact ⟨_,rfl⟩
   |false =>
    rw [hs]at sn1 at1;rw [Bool.false_and]at sn1;push_cast only [ndD,ej,d1,aX,at1,m1,lb,sn1];exact ⟨_,rfl⟩
 ·rintro ρ' rfl ⟨v3,rfl⟩
  rw [ay];push_cast only [aX];generalize hC:bH _ _ _ _ _ _=rc
  have ee:dn (bD (snL ts fl ts.length))=(range ts.length).map λk:Nat=>PyData.tuple [.int (k:Int),.bool (sn ts fl k)]:=by
   apply Yo
   intro i;rw [Zx];by_cases hi:i<ts.length
   ·rw [Z6 hi]
    unfold dn bD;rw [Zx,X3,Zx,qS ts fl ts.length i hi];simp
   ·rw [Zb (by unfold dn bD;simp [eN];lia),Zb (by rw [Zu];lia)]
    rfl
  have e:=gR hC (λk:Nat=>PyData.tuple [.int (k:Int),.bool (sn ts fl k)]) (sn ts fl) (λk:Nat=>.sh (.int (k:Int))) (range ts.length) ee (by rw [Zu];exact Y8 (az (by lia))) (by
   intro k hk;refine ⟨?_,λ_=>?_⟩
   ·push_cast only [Yw]
   ·push_cast only [Yw])
  subst e;clear hC;have e4:(((range ts.length).filter (sn ts fl)).map λk:Nat=>OD.sh (.int (k:Int)))=nO (seen ts fl):=gi _
  have rn:=B6 ts he (seen ts fl) (Em ts fl) (by have:=qX ts fl;lia) λk hk=>⟨lS hk,pI he hk⟩
  have rt:=Dk (i:=4) (ρ:=[some (.sh (.list (ai ts))),some (.sh (.list (nD (fdL ts fl)))),some (.sh (.list (bD (snL ts fl ts.length)))),v3,some (.ol (nO (seen ts fl)))]) (fa:=qU 4 (ak aR (aa (ae 0) (aa (ae 4) ag)))) rfl (Gv 4 _ _ (x:=.ol (nO (seen ts fl))) rfl (by
   show (nO (seen ts fl)).all ED=true
   unfold nO;rw [Wa,Vy];intro x _;rfl) (by push_cast only [cJ,rn]) (AU ts (seen ts fl)))
  push_cast only [e4,↓rt];rfl
def bo (ts:List Nd) (g:Int) (fl:Nat->Bool) (an:Gc):List (Str×Gc):=[("tree",.list (ai ts)),("gap",.int g),("folds",.list (nD (fdL ts fl))),("anew",an)]
def esD (ts:List Nd) (g:Int) (fl:Nat->Bool) (an:Gc):Gc:=mG "Easel" (bo ts g fl an)
section
variable {ts:List Nd} {g:Int} {fl:Nat->Bool} {an:Gc}
theorem hG:o9 "tree" (esD ts g fl an)=some (.list (ai ts)):=rfl
theorem jQ:o9 "folds" (esD ts g fl an)=some (.list (nD (fdL ts fl))):=by
 show b9 "folds" ((bo ts g fl an).map λp=>(.tuple [.str p.1],p.2))=_
 unfold bo;rw [Zw,Zw,Zw,Zw,Yh,bE,N2 (show ¬("folds" : Str)=("tree" : Str) by decide +kernel),bE,N2 (show ¬("folds" : Str)=("gap" : Str) by decide +kernel),bE,N1 rfl]
theorem uf {m:Str} (h1:m ≠ "tree") (h2:m ≠ "gap") (h3:m ≠ "folds") (h4:m ≠ "anew"):b9 m ((bo ts g fl an).map λp=>(.tuple [.str p.1],p.2))=none:=by
 unfold bo;rw [Zw,Zw,Zw,Zw,Yh,bE,N2 h1,bE,N2 h2,bE,N2 h3,bE,N2 h4,zV]
theorem wM (he:EL ts) (hl:ts.length<=100):aS [esD ts g fl an]=.ok (k8 ts fl):=by
 unfold aS iF;have h1:=hG (ts:=ts) (g:=g) (fl:=fl) (an:=an);have h2:=jQ (ts:=ts) (g:=g) (fl:=fl) (an:=an);have h3:dY (esD ts g fl an)=some ("Easel" : Str):=rfl;have sh:=Bo ts he fl hl;push_cast only [lJ,o7,h1,h2,h3,sh]
theorem DL (hl:ts.length<=100):cM [esD ts g fl an]=.ok (.ol ((ai ts).map OD.sh)):=by
 unfold cM gI;have h1:=hG (ts:=ts) (g:=g) (fl:=fl) (an:=an);have h3:dY (esD ts g fl an)=some ("Easel" : Str):=rfl;have lb:(ts.length<=BIG)=True:=az (by lia)
 push_cast only [lJ,o7,h1,h3,ay,lb]
theorem AB (hl:ts.length<=100):cq [esD ts g fl an]=.ok (.ol (nO (fdL ts fl))):=by
 unfold cq fU;have h2:=jQ (ts:=ts) (g:=g) (fl:=fl) (an:=an);have h3:dY (esD ts g fl an)=some ("Easel" : Str):=rfl;push_cast only [lJ,o7,h2,h3];rfl
theorem nS {m:Str} {f:Fn} {r:R OD} {ρ:L3.Env} {i:Nat} (hm:b9 m ((bo ts g fl an).map λp=>(.tuple [.str p.1],p.2))=none) (hr:f [esD ts g fl an]=r) (h:ρ[i]?=some (some (.sh (esD ts g fl an)))):bG (λnm=>List.lookup nm [("Easel",f)]) m (ae i) ag ρ=r:=by
 have hv:ae i ρ=.ok (.sh (esD ts g fl an)):=by
  unfold ae;rw [h]
 have h4:o9 m (esD ts g fl an)=none:=hm;have h3:dY (esD ts g fl an)=some ("Easel" : Str):=rfl;unfold bG;rw [hv,aC,aQ];simp only [h3,h4];show (match List.lookup ("Easel" : Str) [(("Easel" : Str),f)] with
  |some fn=>(ag ρ).bind λxs=>fn (esD ts g fl an :: xs.map OD.er)
  |none=>.bad)=r
 have:List.lookup ("Easel" : Str) [(("Easel" : Str),f)]=some f:=by rw [Z2];rfl
 rw [this];exact hr
end
theorem qL (f:α->Gc):∀L:List α,(∀x∈L,noD (f x)=true)->rO (L.map f)=true
 |[],_=>rfl
 |x :: L,h=>by
  rw [Zw,rO,h x Zz,qL f L λy hy=>h y (Zs _ hy)]
  rfl
theorem Ge (L:List Nat):noD (.list (nD L))=true:=by
 rw [noD];unfold nD iL;rw [Yu];exact qL _ L λx _=>rfl
theorem BH (ts:List Nd) (L:List Nat):noD (.list (bZ ts L))=true:=by
 rw [noD];exact qL _ L λx _=>by unfold gj;rfl
theorem vo (ts:List Nd) (fl:Nat->Bool):noD (eA ts fl)=true:=by
 unfold eA;rw [noD,rO,rO,rO,BH,Ge];rfl
theorem AQ (n:Nat) (hn:n<=100):l9 [.int (n:Int)]=.ok (.ol (nO (range n))):=by
 show (if 0<=(n:Int)/\(n:Int)<=65536 then R.ok (OD.ol ((((range (n:Int).toNat).map λk:Nat=>(k:Int)).map PyData.int).map OD.sh)) else .bad)=_
 rw [N1 (by lia),Zn]
 rfl
theorem CU (xs:List Gc) (j:Nat) (h:j<xs.length):aU [.list xs,.int j]=.ok (.sh .none):=by
 unfold aU fK;have d1:decide ((j:Int)<0)=false:=Zq (by lia)
 have d2:decide (((xs.length:Nat):Int)<=(j:Int))=false:=Zq (by lia)
 push_cast only [d1,d2]
section
variable {ts:List Nd} {fl:Nat->Bool} {k:Nat}
theorem wJ (hk:k<ts.length) (neg:Bool):iY neg (.int (k:Int)) (.list (nD (fdL ts fl)))=.ok (.sh (.bool (if neg then !fl k else fl k))):=by
 unfold nD;rw [sO,CH hk]
theorem A6 (hl:ts.length<=100) (hk:k<ts.length) (h1:fl k=false) (h2:chN ts k≠[]):fC [.list (ai ts),.list (nD (fdL ts fl)),.int (k:Int)]=.ok (.sh .none):=by
 unfold fC iJ;have ck:=qG (ai ts) k (by rw [ay];exact hk)
 have ch:=eD ts k hk hl;have m:=wJ (fl:=fl) hk false;rw [h1]at m;have d:decide (((chN ts k).length:Int)=0)=false:=Zq (by
  have:(chN ts k).length≠0:=λz=>h2 (List.length_eq_zero_iff.mp z)
  lia)
 push_cast only [ck,m,ch,cJ,aY,d]
theorem wq (hl:ts.length<=100) (hk:k<ts.length) (h:fl k=true\/chN ts k=[]):bY [.list (ai ts),.list (nD (fdL ts fl)),.int (k:Int)]=.ex "NoDeed" := by
 unfold bY fG;have ck:=CU (ai ts) k (by rw [ay];exact hk)
 have ch:=eD ts k hk hl;have m:=wJ (fl:=fl) hk false;cases h1:fl k with
 |true =>
  rw [h1]at m;push_cast only [ck,m,eK,cg,bV]
 |false =>
  rw [h1]at m;have h2:chN ts k=[]:=h.resolve_left (by rw [h1];exact Zo)
  have d:decide (((chN ts k).length:Int)=0)=true:=by rw [h2];rfl
  push_cast only [ck,m,ch,cJ,aY,d,eK,cg,bV]
theorem xJ (hk:k<ts.length) (h1:fl k=false):bz [.list (ai ts),.list (nD (fdL ts fl)),.int (k:Int)]=.ex "NoDeed" := by
 unfold bz dZ;have ck:=CU (ai ts) k (by rw [ay];exact hk)
 have m:=wJ (fl:=fl) hk true;rw [h1]at m;push_cast only [ck,m,eK,cg,bV]
theorem Dw (hl:ts.length<=100):cw [.list (ai ts)]=.ok (.sh (.tuple [.list (ai ts),.list (nD (range ts.length))])):=by
 unfold cw jG;have lr:l9 [.int (ts.length:Int)]=.ok (.ol (nO (range ts.length))):=AQ _ hl;push_cast only [ay,lr,cJ]
def mY (ts:List Nd) (k:Nat):Bool:=!(chN ts k).isEmpty
theorem Ay {j:Nat} (hj:j<ts.length):decide ((j:Int)∈ts.map (·.e))=mY ts j:=by
 rw [Xm,Zk];unfold mY;constructor
 ·intro h
  obtain ⟨n,hn,he⟩:=ZC.mp h;obtain ⟨i,hi⟩:=List.getElem?_of_mem hn;have hil:=(ZA.mp hi).1;have:i∈chN ts j:=iI.mpr ⟨hil,by rw [d9 hi];exact he⟩
  cases hc:chN ts j with
  |nil=>rw [hc]at this;cases this
  |cons a r=>rfl
 ·intro h
  cases hc:chN ts j with
  |nil=>rw [hc]at h;cases h
  |cons a r =>
   have:a∈chN ts j:=by rw [hc];exact Zz
   obtain ⟨h1,h2⟩:=iI.mp this;obtain ⟨n,hn⟩:∃n,ts[a]?=some n:=⟨ts[a],by simp [h1]⟩
   rw [d9 hn]at h2;exact ZC.mpr ⟨n,Yp hn,h2⟩
theorem D1 (hl:ts.length<=100) {R:List Nat} (hR:R.length=ts.length) (L:List Nat):dX [.tuple [.list (ai ts),.list (nD R)],.list (nD L)]=.ok (.ol (nO ((range ts.length).filter λk=>decide (((R[k]?.getD 0:Nat):Int)∈iL L) && mY ts k))):=by
 unfold dX ij;push_cast only [Yw];generalize hC:bH _ _ _ _ _ _=rc
 have e:=gH hC ndD (λn:Nd=>.sh (.int n.e)) ts rfl (Y8 (az (by lia))) (by intro n hn;push_cast only [ndD])
 subst e;clear hC;have e2:(ts.map λn:Nd=>OD.sh (.int n.e)).map OD.er=(ts.map (·.e)).map PyData.int:=by
  rw [Yu,Yu];exact Xy λn _=>aQ _
 push_cast only [e2];generalize hC:bH _ _ _ _ _ _=rc
 have ee:dn (nD R)=(range ts.length).map λk:Nat=>PyData.tuple [.int (k:Int),.int ((R[k]?.getD 0:Nat):Int)]:=by
  apply Yo
  intro i;rw [Zx];by_cases hi:i<ts.length
  ·obtain ⟨q,hq⟩:∃q,R[i]?=some q:=⟨R[i],by simp⟩
   rw [Z6 hi];unfold dn;rw [Zx,X3,kN hq];simp [hq]
  ·rw [Zb (by unfold dn;rw [Zy,Wq,aY];lia),Zb (by rw [Zu];lia)]
   rfl
 have e:=gR hC (λk:Nat=>PyData.tuple [.int (k:Int),.int ((R[k]?.getD 0:Nat):Int)]) (λk=>decide (((R[k]?.getD 0:Nat):Int)∈iL L) && mY ts k) (λk:Nat=>.sh (.int (k:Int))) (range ts.length) ee (by rw [Zu];exact Y8 (az (by lia))) (by
  intro k hk;rw [Yk]at hk;have m1:iY false (.int ((R[k]?.getD 0:Nat):Int)) (.list (nD L))=.ok (.sh (.bool (decide (((R[k]?.getD 0:Nat):Int)∈iL L)))):=by
   unfold nD;rw [sO];rfl
  have m2:iY false (.int (k:Int)) (.list ((ts.map (·.e)).map PyData.int))=.ok (.sh (.bool (mY ts k))):=by
   rw [sO,Ay hk];rfl
  refine ⟨?_,λ_=>?_⟩
  ·generalize ((R[k]?.getD 0:Nat):Int)=w at m1
   cases hd:decide (w∈iL L) with
   |true =>
    rw [hd]at m1;push_cast only [m1,m2];rfl
   |false =>
    rw [hd]at m1;push_cast only [m1,m2];rfl
  ·push_cast only [Yw])
 subst e;clear hC;push_cast only [Yw];rw [gi]
end
theorem wj:∀(m:Nat) (ks:List Nat),ks.Nodup->(∀k∈ks,k<m)->ks.length<=m:=by
 intro m
 induction m with
 |zero =>
  intro ks _ h;cases ks with
  |nil=>exact Zi _
  |cons a r=>have:=h a Zz;lia
 |succ m ih =>
  intro ks nd h;have h1:=ih (ks.erase m) (nd.erase m) λk hk=>by
   have h2:=(List.Nodup.mem_erase_iff nd).mp hk;have:=h k h2.2;have h3:k≠m:=h2.1
   lia
  by_cases hm:m∈ks
  ·rw [List.length_erase_of_mem hm]at h1
   lia
  ·rw [List.erase_of_not_mem hm]at h1
   lia
def fk (ks:List Nat):List (Key×Gc):=ks.map λk:Nat=>(.inl (k:Int),.bool true)
theorem Je (ks:List Nat) (k:Nat):putD (fk ks) (.inl (k:Int)) (.bool true)=fk (if ks.contains k=true then ks else ks++[k]):=by
 unfold putD;by_cases h:k∈ks
 ·rw [N1 (List.contains_iff_mem.mpr h),N1]
  ·unfold fk
   rw [Yu];refine Xy λq _=>?_
   show (if (Sum.inl (q:Int):Key)=.inl (k:Int) then ((Sum.inl (q:Int):Key),PyData.bool true) else (.inl (q:Int),.bool true))=_
   split <;> rfl
  ·rw [List.any_eq_true]
   exact ⟨_,ZC.mpr ⟨k,h,rfl⟩,Za rfl⟩
 ·rw [N2 (λz=>h (List.contains_iff_mem.mp z)),N2]
  ·unfold fk
   rw [Zh];rfl
  ·rw [Bool.not_eq_true,List.any_eq_false]
   intro p hp;obtain ⟨q,hq,rfl⟩:=ZC.mp hp;rw [Zk];intro z;have:=W4 z;exact h (by rw [show k=q by lia];exact hq)
def FY (rw_:List Gc) (m:Nat):Prop:=∀k,k<m->∃z x y,atI rw_ (k:Int)=some (.tuple [.int z,x,y])/\-1<=z/\z<(k:Int)
theorem Ex (R:List Gc) (m:Nat) (hm:m<=60) (ha:FY R m) (ns:List Nat) (hn:∀k∈ns,k<m):∃o,eY [.list R,.list (nD ns)]=.ok o:=by
 unfold eY gM;have d0:∀ρ:L3.Env,eD0 ρ=.ok (.od (fk [])):=λ_=>rfl
 push_cast only [d0];generalize hL:bw _ _ _ _=r'
 refine eM hL (λi ρ=>∃(ks:List Nat) (v3 v4:Option OD),ks.Nodup/\(∀k∈ks,k<m)/\ρ=[some (.sh (.list R)),some (.sh (.list (nD ns))),some (.od (fk ks)),v3,v4]) ⟨[],_,_,Y0,(λk h=>by cases h),rfl⟩ ?_ ?_
 ·rintro i d ρ hd ⟨ks,v3,v4,nd,hk,rfl⟩
  have hi:i<ns.length:=by
   have:=(ZA.mp hd).1;rw [aY]at this;exact this
  obtain ⟨k,hki⟩:∃k,ns[i]?=some k:=⟨ns[i],by simp⟩
  rw [kN hki]at hd;cases hd;have hkm:=hn k (Yp hki);push_cast only [Yw];generalize hW:dM _ _ _=rw'
  refine pk hW (λq ρ=>∃(ks:List Nat) (z:Int),ks.Nodup/\(∀k∈ks,k<m)/\-1<=z/\z<(m:Int)/\q=(z+1).toNat/\ρ=[some (.sh (.list R)),some (.sh (.list (nD ns))),some (.od (fk ks)),some (.sh (.int (k:Int))),some (.sh (.int z))]) (k+1) ⟨ks,(k:Int),nd,hk,by lia,by lia,by lia,rfl⟩
   (fun ρ=>∃(ks:List Nat) (v4:Option OD),ks.Nodup/\(∀k∈ks,k<m)/\ρ=[some (.sh (.list R)),some (.sh (.list (nD ns))),some (.od (fk ks)),some (.sh (.int (k:Int))),v4]) ?_ ?_
  ·rintro q ρ ⟨ks,z,nd,hk,z0,z1,rfl,rfl⟩
   by_cases hz:z=-1
   ·left
    subst hz;constructor
    ·push_cast only [Yw]
    ·exact ⟨ks,_,nd,hk,rfl⟩
   ·right
    obtain ⟨j,hj⟩:∃j:Nat,z=(j:Int):=⟨z.toNat,by lia⟩
    subst hj;obtain ⟨y,x1,x2,at1,y0,y1⟩:=ha j (by lia)
    have dz:decide ((j:Int)=-1)=false:=Zq (by lia)
    have kl:=wj m ks nd hk;have lb:((fk ks).length<BIG)=True:=by unfold fk;rw [Zy];exact ik (by lia)
    have pf:=Je ks j;constructor
    ·push_cast only [dz]
    ·push_cast only [CY,AY,lb,pf,at1]
     refine ⟨_,?_,(if ks.contains j=true then ks else ks++[j]),y,?_,?_,y0,by lia,rfl,rfl⟩
     ·lia
     ·split
      ·exact nd
      ·rename_i hc
       refine Yx.mpr ⟨nd,Xn.mpr ⟨by simp,Y0⟩,λa h b hb e=>?_⟩
       rw [Y9]at hb;subst e hb;exact hc (List.contains_iff_mem.mpr h)
     ·intro a h
      split at h
      ·exact hk a h
      ·rcases Z5.mp h with h | h
       ·exact hk a h
       ·rw [Y9]at h
        lia
  ·rintro ρ' rfl ⟨ks',v4',nd',hk',rfl⟩
   push_cast only [Yw];exact ⟨ks',_,_,nd',hk',rfl⟩
 ·rintro ρ' rfl ⟨ks,v3,v4,nd,hk,rfl⟩
  have kl:=wj m ks nd hk;have lo:Ai [dD (fk ks)]=.ok (.ol (nO ks)):=by
   rw [DP];unfold fk nO nD iL;rw [Yu,Yu,Yu,Yu];rfl
  have so:CC [.list (nD ks)]=.ok (.ol (((oY (iL ks)).map PyData.int).map OD.sh)):=by
   show (match cW ((iL ks).map PyData.int) with
    |some ns=>if ns.length<64 then L3.R.ok (OD.ol (((oY ns).map PyData.int).map OD.sh)) else L3.R.bad
    |_=>L3.R.bad)=_
   rw [fR];show (if (iL ks).length<64 then _ else _)=_
   rw [N1 (by unfold iL;rw [Zy];lia)]
  push_cast only [Ce,lo,cJ,so];exact ⟨_,rfl⟩
theorem wL {ts:List Nd} (he:EL ts) {fl:Nat->Bool}:FY (bZ ts (seen ts fl)) (seen ts fl).length:=λi hi=>by
 obtain ⟨k,hk⟩:∃k,(seen ts fl)[i]?=some k:=⟨(seen ts fl)[i],by simp⟩
 have km:=Yp hk;have kt:=lS km;refine ⟨_,_,_,bt (by unfold bZ;rw [Zx,hk];rfl),?_,?_⟩
 ·split <;> lia
 ·rcases elt he kt with ⟨z,_⟩ | ⟨j,z,hj⟩
  ·rw [N1 (by lia)]
   lia
  ·rw [N2 (by lia),z,Zn]
   have jm:=pI he km (by lia)
   rw [z,Zn]at jm;have hjl:=List.idxOf_lt_length_iff.mpr jm;have pw:(seen ts fl).Pairwise (·<·):=Vo _ List.pairwise_lt_range;by_cases hlt:(seen ts fl).idxOf j<i
   ·lia
   ·exfalso
    have e1:=List.getElem_idxOf hjl;obtain ⟨hi',e2⟩:=ZA.mp hk;by_cases he:(seen ts fl).idxOf j=i
    ·have:(seen ts fl)[(seen ts fl).idxOf j]=(seen ts fl)[i]:=by congr 1
     rw [e1,e2]at this
     lia
    ·have:=List.pairwise_iff_getElem.mp pw i _ hi' hjl (by lia)
     rw [e1,e2]at this
     lia
def eZ (fl:Nat->Bool) (k:Nat) (b:Bool) (j:Nat):Bool:=if j=k then b else fl j
def OkF (ts:List Nd) (fl:Nat->Bool):Prop:=∀k,k<ts.length->fl k=true->mY ts k=true
theorem Ey {ts:List Nd} {fl:Nat->Bool} (h:OkF ts fl) {k:Nat} {b:Bool} (hk:b=true->mY ts k=true):OkF ts (eZ fl k b):=λj hj e=>by
 unfold eZ at e;split at e
 ·rename_i z
  rw [z];exact hk e
 ·exact h j hj e
def chg (ts:List Nd) (R:List Nat):Gc:=.tuple [.list (ai ts),.list (nD R)]
theorem Gz (n:Nat) {k:Nat} (h:k<n):atI (nD (range n)) (k:Int)=some (.int (k:Int)):=bt (kN (Z6 h))
theorem rX {ts ts2:List Nd} (he:EL ts) (he2:EL ts2) (hl:ts.length<=40) (hl2:ts2.length<=40) (g:Int) (fl fl2:Nat->Bool) (an:Gc) {R:List Nat} (hR:R.length=ts2.length) (L:List Nat) (hL:(range ts2.length).filter (λk:Nat=>decide (((R[k]?.getD 0:Nat):Int)∈iL L) && mY ts2 k)=fdL ts2 fl2) (k:Nat) :
  ∃an2,bF 8 aV (.oi none "Easel" (bo ts g fl an)) [chg ts2 R,.list (nD L),.list [.int (k:Int)]] (.oi none "Easel" (bo ts2 g fl2 an2),.sh .none):=by
 have hsl:=qX ts2 fl2;generalize hNM:(seen ts2 fl2).map (λi=>R[i]?.getD 0)=NM
 have nml:NM.length=(seen ts2 fl2).length:=by rw [<-hNM,Zy]
 obtain ⟨o,ho⟩:=Ex (bZ ts2 (seen ts2 fl2)) (seen ts2 fl2).length (by lia) (wL he2) ((range NM.length).filter λi=>(decide ((((NM[i]?).getD 0:Nat):Int)∈[(k:Int)]) || !decide ((((NM[i]?).getD 0:Nat):Int)∈iL (seen ts fl)))) (λi hi=>by rw [<-nml];exact Yk.mp (We.mp hi).1)
 refine ⟨o.er,rfl,λa=>?_⟩
 have hn:b9 "seen" ((bo ts g fl an).map λp=>(.tuple [.str p.1],p.2))=none:=uf (by decide +kernel) (by decide +kernel) (by decide +kernel) (by decide +kernel)
 have hn2:b9 "seen" ((bo ts2 g fl2 an).map λp=>(.tuple [.str p.1],p.2))=none:=uf (by decide +kernel) (by decide +kernel) (by decide +kernel) (by decide +kernel)
 have l1:∀(ρ:L3.Env),ρ[0]?=some (some (.oi (some a) "Easel" (bo ts g fl an)))->nu 0 (eSh (bG (λnm=>List.lookup nm [("Easel",aS)]) "seen" (ae 0) ag)) ρ=.ok (.sh (eA ts fl)):=fun ρ h=>by
  have hlt:=(ZA.mp h).1;rw [C2,h];show unK _ (eSh _ (ρ.set 0 (some (.sh (esD ts g fl an)))))=_
  rw [GY,nS (r:=.ok (k8 ts fl)) hn (wM he (by lia)) (Ym hlt)]
  show (if noD (k8 ts fl).er=true then L3.R.ok (OD.sh (k8 ts fl).er) else L3.R.bad)=_
  rw [rD,N1 (vo ts fl)]
 have l2:∀(ρ:L3.Env),ρ[0]?=some (some (.oi (some a) "Easel" (bo ts2 g fl2 an)))->nu 0 (eSh (bG (λnm=>List.lookup nm [("Easel",aS)]) "seen" (ae 0) ag)) ρ=.ok (.sh (eA ts2 fl2)):=fun ρ h=>by
  have hlt:=(ZA.mp h).1;rw [C2,h];show unK _ (eSh _ (ρ.set 0 (some (.sh (esD ts2 g fl2 an)))))=_
  rw [GY,nS (r:=.ok (k8 ts2 fl2)) hn2 (wM he2 (by lia)) (Ym hlt)]
  show (if noD (k8 ts2 fl2).er=true then L3.R.ok (OD.sh (k8 ts2 fl2).er) else L3.R.bad)=_
  rw [rD,N1 (vo ts2 fl2)]
 have kp:=D1 (ts:=ts2) (by lia) hR L
 rw [hL]at kp;generalize hdm:([("tree",.list (ai ts2)),("gap",.int g),("folds",.list (nD (fdL ts fl))),("anew",an)]:List (Str×Gc))=dm
 have p1:bO "tree" (.list (ai ts2)) (bo ts g fl an)=dm:=by
  unfold bo bO;rw [N1 rfl,hdm]
 have p2:bO "folds" (.list (nD (fdL ts2 fl2))) dm=bo ts2 g fl2 an:=by
  rw [<-hdm];unfold bo;rw [bO,N2 (by decide +kernel),bO,N2 (by decide +kernel),bO,N1 rfl]
 have p3:bO "anew" o.er (bo ts2 g fl2 an)=bo ts2 g fl2 o.er:=by
  unfold bo;rw [bO,N2 (by decide +kernel),bO,N2 (by decide +kernel),bO,N2 (by decide +kernel),bO,N1 rfl]
 have f1:(bo ts g fl an).length<1000:=by unfold bo;exact (show (4:Nat)<1000 by decide)
 have f2:(bo ts2 g fl2 an).length<1000:=by unfold bo;exact (show (4:Nat)<1000 by decide)
 have f3:dm.length<1000:=by rw [<-hdm];exact (show (4:Nat)<1000 by decide)
 have tb:decide (("Easel" : Str) = "Easel")=true:=by decide +kernel
 have i1:atI [PyData.list (bZ ts (seen ts fl)),.list (nD (seen ts fl))] 1=some (.list (nD (seen ts fl))):=rfl;have i2:atI [PyData.list (bZ ts2 (seen ts2 fl2)),.list (nD (seen ts2 fl2))] 1=some (.list (nD (seen ts2 fl2))):=rfl;have i3:atI [PyData.list (bZ ts2 (seen ts2 fl2)),.list (nD (seen ts2 fl2))] 0=some (.list (bZ ts2 (seen ts2 fl2))):=rfl;have c0:atI [PyData.list (ai ts2),.list (nD R)] 0=some (.list (ai ts2)):=rfl;have c1:atI [PyData.list (ai ts2),.list (nD R)] 1=some (.list (nD R)):=rfl;have e6:∀(x0 x4 x5 x6 x7:Option OD),bu (dg (eOp gIx (ae 5) (eC (.int 1)))) (gNm 0) dG (eOp gIx (eOp gIx (ae 1) (eC (.int 1))) (ae 0)) 1 [1] [x0,some (.sh (chg ts2 R)),some (.sh (.list (nD L))),some (.sh (.list [.int (k:Int)])),x4,some (.sh (eA ts2 fl2)),x6,x7]=.ok (.ol (nO NM)):=λx0 x4 x5 x6 x7=>by
  unfold eA chg;push_cast only [i2];generalize hC:bH _ _ _ _ _ _=rc
  have e:=gH hC (λq:Nat=>PyData.int (q:Int)) (λq:Nat=>OD.sh (.int ((R[q]?.getD 0:Nat):Int))) (seen ts2 fl2) (by unfold nD iL;rw [Yu];rfl) (Y8 (az (by lia))) (by
   intro q hq;have hq2:=lS hq;obtain ⟨w,hw⟩:∃w,R[q]?=some w:=⟨R[q]'(by lia),by simp⟩
   have rg:atI (nD R) (q:Int)=some (.int ((R[q]?.getD 0:Nat):Int)):=by rw [hw];exact bt (kN hw)
   push_cast only [c1,rg])
  subst e;push_cast only [Yw];rw [<-hNM,<-gi,Yu];rfl
 have e7:∀(x0 x5 x7:Option OD),bu (iEn (ae 6)) (gTp 2 (aZ (gNm 0) (aZ (gNm 1) fP))) (iP (ao (eOp (iY false) (ae 1) (ae 2))) (ao (eOp (iY true) (ae 1) (ae 3)))) (ae 0) 2 [3,4] [x0,some (.sh (chg ts2 R)),some (.sh (.list (nD L))),some (.sh (.list [.int (k:Int)])),some (.sh (.list (nD (seen ts fl)))),x5,some (.sh (.list (nD NM))),x7]=.ok (.ol (nO ((range NM.length).filter λi=>(decide ((((NM[i]?).getD 0:Nat):Int)∈[(k:Int)]) || !decide ((((NM[i]?).getD 0:Nat):Int)∈iL (seen ts fl)))))):=λx0 x5 x7=>by
  push_cast only [Yw];generalize hC:bH _ _ _ _ _ _=rc
  have ee:dn (nD NM)=(range NM.length).map λi:Nat=>PyData.tuple [.int (i:Int),.int (((NM[i]?).getD 0:Nat):Int)]:=by
   apply Yo
   intro i;rw [Zx];by_cases hi:i<NM.length
   ·obtain ⟨q,hq⟩:∃q,NM[i]?=some q:=⟨NM[i],by simp⟩
    rw [Z6 hi];unfold dn;rw [Zx,X3,kN hq];simp [hq]
   ·rw [Zb (by unfold dn;rw [Zy,Wq,aY];lia),Zb (by rw [Zu];lia)]
    rfl
  have e:=gR hC (λi:Nat=>PyData.tuple [.int (i:Int),.int (((NM[i]?).getD 0:Nat):Int)]) (λi=>(decide ((((NM[i]?).getD 0:Nat):Int)∈[(k:Int)]) || !decide ((((NM[i]?).getD 0:Nat):Int)∈iL (seen ts fl)))) (λi:Nat=>.sh (.int (i:Int))) (range NM.length) ee (by rw [Zu];exact Y8 (az (by lia))) (by
   intro i hi;generalize (NM[i]?).getD 0=q
   have m1:iY false (.int (q:Int)) (.list [.int (k:Int)])=.ok (.sh (.bool (decide ((q:Int)∈[(k:Int)])))):=sO false (q:Int) [(k:Int)];have m2:iY true (.int (q:Int)) (.list (nD (seen ts fl)))=.ok (.sh (.bool (!decide ((q:Int)∈iL (seen ts fl))))):=sO true (q:Int) (iL (seen ts fl));refine ⟨?_,λ_=>?_⟩
   ·cases hd:decide ((q:Int)∈[(k:Int)]) with
    |true =>
     rw [hd]at m1;push_cast only [m1,m2];rfl
    |false =>
     rw [hd]at m1;push_cast only [m1,m2];rfl
   ·push_cast only [Yw])
  subst e;push_cast only [Yw];rw [gi]
 unfold aV;show ∃ρ',dc _ _ [some (.oi (some a) "Easel" (bo ts g fl an)),some (.sh (chg ts2 R)),some (.sh (.list (nD L))),some (.sh (.list [.int (k:Int)])),none,none,none,none]=.ok (ρ',.sh .none)/\_
 have a1:∀(f:Str) (y:OD) (ds:List (Str×Gc)) (ρ:L3.Env),ds.length<1000->yE 0 (λnm=>decide (nm = "Easel")) f ρ y (some (some (.oi (some a) "Easel" ds)))=.ok (.nx (ρ.set 0 (some (.oi (some a) "Easel" (bO f y.er ds))))):=λf y ds ρ h=>BI tb h
 have q1:=l1 [some (.oi (some a) "Easel" (bo ts g fl an)),some (.sh (chg ts2 R)),some (.sh (.list (nD L))),some (.sh (.list [.int (k:Int)])),none,none,none,none] rfl;have q2:=l2 [some (.oi (some a) "Easel" (bo ts2 g fl2 an)),some (.sh (chg ts2 R)),some (.sh (.list (nD L))),some (.sh (.list [.int (k:Int)])),some (.sh (.list (nD (seen ts fl)))),none,none,none] rfl;have kp':dX [chg ts2 R,.list (nD L)]=.ok (.ol (nO (fdL ts2 fl2))):=kp;have g1:gIx (eA ts fl) (.int 1)=.ok (.sh (.list (nD (seen ts fl)))):=by unfold eA;push_cast only [i1]
 have g2:gIx (eA ts2 fl2) (.int 0)=.ok (.sh (.list (bZ ts2 (seen ts2 fl2)))):=by unfold eA;push_cast only [i3]
 have g3:gIx (chg ts2 R) (.int 0)=.ok (.sh (.list (ai ts2))):=by unfold chg;push_cast only [c0]
 have e6':=λx0 x4 x6 x7=>e6 x0 x4 none x6 x7
 push_cast only [jL,jJ,sy,BJ,↓q1,g1,g3,a1,f1,f3,p1,kp',cJ,p2,↓q2,↓e6',↓e7,g2,ho,f2,p3];exact ⟨_,rfl,rfl⟩
section
variable {ρ:L3.Env} {ds ds':List (Str×Gc)} {ys:List OD}
theorem sP (h:ρ[i]?=some (some (.oi p nm ds))) (ha:al ρ=.ok ys) (hr:bF n b (.oi none nm ds) (ys.map OD.er) (.oi none nm ds',y)):p9 n i b al ρ=.ok (ρ.set i (some (.oi p nm ds')),y):=by
 unfold p9;rw [h];show (al ρ).bind (λys=>(gX n b (.oi none nm ds) (ys.map OD.er)).bind λr=>.ok (ρ.set i (some (q_ (.oi p nm ds) r.1)),r.2))=_
 rw [ha,aC,qF hr,aC];rfl
theorem sE (h:ρ[i]?=some (some (.oi p nm ds))) (ha:al ρ=.ok ys) (hr:bF n b (.oi none nm ds) (ys.map OD.er) (.oi none nm ds',y)):eO n i b al ρ=.ok (.nx (ρ.set i (some (.oi p nm ds')))):=by
 unfold eO;rw [sP h ha hr];rfl
theorem lX (h:ρ[i]?=some (some (.oi p nm ds))) (hm:b9 m (ds.map λq=>(.tuple [.str q.1],q.2))=none) (ha:al ρ=.ok ys) (hr:bF n b (.oi none nm ds) (ys.map OD.er) (.oi none nm ds',y)):kK nm m n i b al ρ=.ok (.nx (ρ.set i (some (.oi p nm ds')))):=by
 unfold kK;rw [h];show (if nm=nm/\b9 m (ds.map λq=>(.tuple [.str q.1],q.2))=none then eO n i b al ρ else .bad)=_
 rw [N1 ⟨rfl,hm⟩,sE h ha hr]
end
section
variable {ts:List Nd} {g:Int} {fl:Nat->Bool} {an:Gc} {k:Nat}
theorem Bc {ρ:L3.Env} {p:Option Is} (h:ρ[0]?=some (some (.oi p "Easel" (bo ts g fl an)))):gh 0 (λnm=>decide (nm = "Easel")) "tree" ρ=.ok (.sh (.list (ai ts))):=by
 rw [C3,h];have h1:b9 "tree" ((bo ts g fl an).map λp=>(.tuple [.str p.1],p.2))=some (.list (ai ts)):=hG
 have tb:decide (("Easel" : Str) = "Easel")=true:=by decide +kernel
 show (match b9 "tree" ((bo ts g fl an).map λq=>(.tuple [.str q.1],q.2)) with
  |some d=>if decide (("Easel" : Str) = "Easel")=true then R.ok (OD.sh d) else .bad
  |none=>.bad)=_
 rw [h1];exact N1 tb
theorem xI {ρ:L3.Env} {p:Option Is} (h:ρ[0]?=some (some (.oi p "Easel" (bo ts g fl an)))):gh 0 (λnm=>decide (nm = "Easel")) "folds" ρ=.ok (.sh (.list (nD (fdL ts fl)))):=by
 rw [C3,h];have h1:b9 "folds" ((bo ts g fl an).map λp=>(.tuple [.str p.1],p.2))=some (.list (nD (fdL ts fl))):=jQ
 have tb:decide (("Easel" : Str) = "Easel")=true:=by decide +kernel
 show (match b9 "folds" ((bo ts g fl an).map λq=>(.tuple [.str q.1],q.2)) with
  |some d=>if decide (("Easel" : Str) = "Easel")=true then R.ok (OD.sh d) else .bad
  |none=>.bad)=_
 rw [h1];exact N1 tb
theorem HX (hF:OkF ts fl) (hk:k<ts.length) (b:Bool) (hb:b=true->mY ts k=true) (L:List Nat) (hL:∀j,j<ts.length->(decide ((j:Int)∈iL L))=eZ fl k b j):(range ts.length).filter (λk:Nat=>decide ((k:Int)∈iL L) && mY ts k)=fdL ts (eZ fl k b):=by
 unfold fdL;refine Xc λj hj=>?_
 rw [Yk]at hj;rw [hL j hj];have:=Ey hF (k:=k) hb j hj;cases h1:eZ fl k b j with
 |false=>rfl
 |true=>rw [this h1];rfl
theorem fM:b9 "settle" ((bo ts g fl an).map λp=>(.tuple [.str p.1],p.2))=none:=uf (by decide +kernel) (by decide +kernel) (by decide +kernel) (by decide +kernel)
theorem IA {L:List Nat} {j:Nat}:(j:Int)∈iL L ↔ j∈L:=by
 unfold iL;rw [ZC];constructor
 ·rintro ⟨q,h1,h2⟩
  rw [show j=q by lia]
  exact h1
 ·exact λh=>⟨j,h,rfl⟩
theorem Bq (he:EL ts) (hl:ts.length<=40) (hF:OkF ts fl) (hk:k<ts.length) (h1:fl k=false) (h2:mY ts k=true) :
  ∃an2,bF 2 bX (.oi none "Easel" (bo ts g fl an)) [.int (k:Int)] (.oi none "Easel" (bo ts g (eZ fl k true) an2),.sh .none):=by
 have hL:=HX hF hk true (λ_=>h2) (fdL ts fl++[k]) (λj hj=>by
  rw [Xm,Zk,IA,Z5,Y9];unfold fdL eZ;rw [We,Yk];by_cases z:j=k
  ·rw [N1 z];simp [z]
  ·rw [N2 z];simp [z,hj])
 obtain ⟨an2,hs⟩:=rX he he hl hl g fl (eZ fl k true) an (R:=range ts.length) Zu (fdL ts fl++[k]) (by
  rw [<-hL];refine Xc λj hj=>?_
  rw [Z6 (Yk.mp hj)];rfl) k
 refine ⟨an2,rfl,λa=>?_⟩
 unfold bX;show ∃ρ',dc _ _ [some (.oi (some a) "Easel" (bo ts g fl an)),some (.sh (.int (k:Int)))]=.ok (ρ',.sh .none)/\_
 have ot:=Bc (ts:=ts) (g:=g) (fl:=fl) (an:=an) (ρ:=[some (.oi (some a) "Easel" (bo ts g fl an)),some (.sh (.int (k:Int)))]) rfl;have of:=xI (ts:=ts) (g:=g) (fl:=fl) (an:=an) (ρ:=[some (.oi (some a) "Easel" (bo ts g fl an)),some (.sh (.int (k:Int)))]) rfl;have hne:chN ts k≠[]:=λz=>by unfold mY at h2;rw [z]at h2;cases h2
 have cf:=A6 (ts:=ts) (fl:=fl) (by lia) hk h1 hne
 have un:=Dw (ts:=ts) (by lia)
 have fl0:(fdL ts fl).length<=ts.length:=by
  have:=Xl fl (range ts.length);rw [Zu]at this;exact this
 have lb:((nD (fdL ts fl)).length+1<=BIG)=True:=az (by rw [aY];lia)
 have ad:nD (fdL ts fl)++[PyData.int (k:Int)]=nD (fdL ts fl++[k]):=by unfold nD iL;rw [Zh,Zh];rfl
 have ar:(aa (ak cw (aa (gh 0 (λnm=>decide (nm = "Easel")) "tree") ag)) (aa (eOp bQ (gh 0 (λnm=>decide (nm = "Easel")) "folds") (cK (aa (ae 1) ag))) (aa (cK (aa (ae 1) ag)) ag))) [some (.oi (some a) "Easel" (bo ts g fl an)),some (.sh (.int (k:Int)))]=.ok [.sh (chg ts (range ts.length)),.ol ((nD (fdL ts fl++[k])).map OD.sh),.ol [.sh (.int (k:Int))]]:=by
  push_cast only [↓ot,↓of,un,lb,ad];rfl
 have mr:=lX (n:=8) (i:=0) (b:=aV) (p:=some a) (nm := "Easel") (m := "settle") (ρ:=[some (.oi (some a) "Easel" (bo ts g fl an)),some (.sh (.int (k:Int)))]) rfl fM ar (y:=.sh .none) (ds':=bo ts g (eZ fl k true) an2) (by
  show bF 8 aV _ [(OD.sh (chg ts (range ts.length))).er,(OD.ol ((nD (fdL ts fl++[k])).map OD.sh)).er,(OD.ol [OD.sh (.int (k:Int))]).er] _
  rw [aQ,dS,aX,dS,Zw,Yh,aQ];exact hs)
 push_cast only [jL,jJ,sy,↓ot,↓of,cf,↓mr];exact ⟨_,rfl,rfl⟩
end
theorem eF {ts:List Nd} (hl:ts.length<=40) (k:Int):aU [.list (ai ts),.int k]=if 0<=k/\k<ts.length then .ok (.sh .none) else .ex "NoNode" := by
 unfold aU fK;have lb:(ts.length<=BIG)=True:=az (by lia)
 by_cases h1:k<0
 ·rw [N2 (by lia)]
  push_cast only [Za h1,eK,bV]
 ·by_cases h2:(ts.length:Int)<=k
  ·rw [N2 (by lia)]
   push_cast only [ay,lb,Zq h1,Za h2,eK,bV]
  ·rw [N1 (by lia)]
   push_cast only [ay,lb,Zq h1,Zq h2]
theorem Ci {ts:List Nd} (hl:ts.length<=40) {k:Int} (h:¬(0<=k/\k<ts.length)):dr [.list (ai ts),.int k]=.ex "NoNode" := by
 unfold dr kA;have e:=eF hl k;rw [N2 h]at e;push_cast only [e,cg,bV]
theorem wN {ts:List Nd} (hl:ts.length<=40) (h:0<ts.length):dr [.list (ai ts),.int 0]=.ex "NoDeed" := by
 unfold dr kA;have e:=eF hl 0;rw [N1 (by lia)]at e
 push_cast only [e,eK,cg,bV]
theorem Bx {ts:List Nd} (hl:ts.length<=40) {k p:Int} {d:Gc} (h:¬(0<=k/\k<ts.length)):c_ [.list (ai ts),.int k,.int p,d]=.ex "NoNode" := by
 unfold c_ iU;have e:=eF hl k;rw [N2 h]at e;push_cast only [e,cg,bV]
theorem B4 {ts:List Nd} (hl:ts.length<=40) {k j p:Int} (h:¬(0<=k/\k<ts.length)):c7 [.list (ai ts),.int k,.int j,.int p]=.ex "NoNode" := by
 unfold c7 jE;have e:=eF hl k;rw [N2 h]at e;push_cast only [e,cg,bV]
theorem zI {ts:List Nd} (hl:ts.length<=40) {k j p:Int} (h:0<=k/\k<ts.length) (h2:¬(0<=j/\j<ts.length)):c7 [.list (ai ts),.int k,.int j,.int p]=.ex "NoNode" := by
 unfold c7 jE;have e:=eF hl k;rw [N1 h]at e;have e2:=eF hl j;rw [N2 h2]at e2;push_cast only [e,e2,cg,bV]
def inB (j:Nat) (n:Nd):Bool:=decide ((j:Int)<=n.e)
theorem eW (p:α->Bool):∀(l:List α) (i:Nat),(∀k,k<i->∀x,l[k]?=some x->p x=true)->(∀x,l[i]?=some x->p x=false)->i<=l.length->l.takeWhile p=l.take i
 |[],i,_,_,_=>by simp
 |a :: l,0,_,h2,_=>by
  rw [List.takeWhile_cons_of_neg (by rw [h2 a rfl];simp)]
  rfl
 |a :: l,i+1,h1,h2,h3=>by
  rw [List.takeWhile_cons_of_pos (h1 0 (by lia) a rfl),eW p l i (λk hk x hx=>h1 (k+1) (by lia) x hx) h2 (by simpa using h3)]
  rfl
theorem uv (ts:List Nd) (j:Nat) (h:j<ts.length):cy [.list (ai ts),.int j]=.ok (.sh (.int ((j+1+((ts.drop (j+1)).takeWhile (inB j)).length:Nat):Int))):=by
 unfold cy ko;push_cast only [Yw];generalize hL:dM _ _ _=r
 refine pk hL (λm ρ=>∃i:Nat,m=ts.length-(j+1+i)/\j+1+i<=ts.length/\ρ=[some (.sh (.list (ai ts))),some (.sh (.int j)),some (.sh (.int ((j+1+i:Nat):Int)))]/\∀k,k<i->∀n,(ts.drop (j+1))[k]?=some n->inB j n=true) (ts.length-(j+1)) ⟨0,rfl,by lia,by rfl,λk hk=>by lia⟩
  (fun ρ=>ρ=[some (.sh (.list (ai ts))),some (.sh (.int j)),some (.sh (.int ((j+1+((ts.drop (j+1)).takeWhile (inB j)).length:Nat):Int)))]) ?_ ?_
 ·rintro m ρ ⟨i,rfl,hi,rfl,ha⟩
  have fin:(∀x,(ts.drop (j+1))[i]?=some x->inB j x=false)->((ts.drop (j+1)).takeWhile (inB j)).length=i:=λhx=>by
   rw [eW _ _ i ha hx (by rw [Y2];lia),Ze,Y2]
   lia
  by_cases h1:((j+1+i:Nat):Int)<(ts.length:Int)
  ·obtain ⟨n,hn⟩:∃n,ts[j+1+i]?=some n:=⟨ts[j+1+i]'(by lia),by simp⟩
   have hd:(ts.drop (j+1))[i]?=some n:=by rw [W7];exact hn
   have g1:=lF hn;by_cases h2:(j:Int)<=n.e
   ·right
    constructor
    ·push_cast only [ay,Za h1,g1,Za h2]
    ·push_cast only [Yw]
     refine ⟨_,?_,i+1,rfl,by lia,?_,λk hk x hx=>?_⟩
     ·lia
     ·have e:((j+1+i:Nat):Int)+1=((j+1+(i+1):Nat):Int):=by lia
      rw [e]
     ·by_cases hk':k<i
      ·exact ha k hk' x hx
      ·have:k=i:=by lia
       subst this;rw [hd]at hx;cases hx;exact Za h2
   ·left
    constructor
    ·push_cast only [ay,Za h1,g1,Zq h2]
    ·rw [fin λx hx=>by rw [hd]at hx;cases hx;exact Zq h2]
  ·left
   constructor
   ·push_cast only [ay,Zq h1]
   ·rw [fin λx hx=>by
     have:=(ZA.mp hx).1;rw [Y2]at this
     lia]
 ·rintro ρ' rfl rfl
  push_cast only [Yw]
theorem uZ {ts:List Nd} (hl:ts.length<=40) {k:Nat} {L:List Nat} (hL:L.length<=100) {p:Int} (h:p<0\/(L.length:Int)<p):bj [.list (ai ts),.int (k:Int),.list (nD L),.int p]=.ex "NoPlace" := by
 unfold bj dA;have el:(nD L).length=L.length:=aY L;have lb:(L.length<=BIG)=True:=az (by lia)
 by_cases h1:p<0
 ·push_cast only [Za h1,eK,cg,bV]
 ·have h2:(L.length:Int)<p:=h.resolve_left h1
  push_cast only [el,lb,Zq h1,Za h2,eK,cg,bV]
theorem va {ts:List Nd} (hl:ts.length<=40) {k:Nat} (hk:k<ts.length) {p:Int} {d:Gc} (h:p<0\/((chN ts k).length:Int)<p) (hc:(chN ts k).length<=100):c_ [.list (ai ts),.int (k:Int),.int p,d]=.ex "NoPlace" := by
 unfold c_ iU;have e:=eF hl (k:Int);rw [N1 (by lia)]at e
 have ch:=eD ts k hk (by lia)
 have en:(nO (chN ts k)).map OD.er=nD (chN ts k):=cJ _;have bh:=uZ (k:=k) hl hc h;push_cast only [e,ch,en,bh,cg,bV]
theorem sL {ts:List Nd} (hl:ts.length<=40) {k j:Nat} (hk:k<ts.length) (hj:j<ts.length) (h1:k<=j) (h2:j<k+1+((ts.drop (k+1)).takeWhile (inB k)).length) {p:Int}:c7 [.list (ai ts),.int (k:Int),.int (j:Int),.int p]=.ex "NoDeed" := by
 unfold c7 jE;have e:=eF hl (k:Int);rw [N1 (by lia)]at e
 have e2:=eF hl (j:Int);rw [N1 (by lia)]at e2
 have en:=uv ts k hk;generalize ((ts.drop (k+1)).takeWhile (inB k)).length=m at h2 en
 have cc:∀a3 a5 a6 a7 a8 a9 a10:Option OD,xt (ae 1) (ae 2) (ae 4) [some (.sh (.list (ai ts))),some (.sh (.int (k:Int))),some (.sh (.int (j:Int))),a3,some (.sh (.int ((k+1+m:Nat):Int))),a5,a6,a7,a8,a9,a10]=.ok (.sh (.bool true)):=λ_ _ _ _ _ _ _=>by
  rw [Fh (x:=.sh (.int (k:Int))) (y:=.sh (.int (j:Int))) (z:=.sh (.int ((k+1+m:Nat):Int))) rfl (aQ _) rfl (aQ _) rfl (aQ _),Za (by lia)]
 push_cast only [e,e2,en,cc,eK,cg,bV]
section
variable {ts:List Nd} {g:Int} {fl:Nat->Bool} {an:Gc}
theorem Ck {m:Str} {f:Fn} {al:Fa} {c:Str} {ρ:L3.Env} (hm:b9 m ((bo ts g fl an).map λp=>(.tuple [.str p.1],p.2))=none) (h:ρ[0]?=some (some (.sh (esD ts g fl an)))) (ha:al ρ=.ex c) :
  bG (λnm=>List.lookup nm [("Easel",f)]) m (ae 0) al ρ=.ex c:=by
 have hv:ae 0 ρ=.ok (.sh (esD ts g fl an)):=by
  unfold ae;rw [h]
 have h4:o9 m (esD ts g fl an)=none:=hm;have h3:dY (esD ts g fl an)=some ("Easel" : Str):=rfl;unfold bG;rw [hv,aC,aQ];simp only [h3,h4];have:List.lookup ("Easel" : Str) [(("Easel" : Str),f)]=some f:=by rw [Z2];rfl
 rw [this];show (al ρ).bind (λxs=>f (esD ts g fl an :: xs.map OD.er))=_
 rw [ha];rfl
theorem Cd {z:Int} {c:Str} (h:dr [.list (ai ts),.int z]=.ex c):cZ [esD ts g fl an,.int z]=.ex c:=by
 unfold cZ kg;have h1:=hG (ts:=ts) (g:=g) (fl:=fl) (an:=an);have h3:dY (esD ts g fl an)=some ("Easel" : Str):=rfl;have e:=λf al c h=>Ck (ts:=ts) (g:=g) (fl:=fl) (an:=an) (f:=f) (al:=al) (c:=c) (ρ:=[some (.sh (esD ts g fl an)),some (.sh (.int z))]) fM rfl h
 push_cast only [Yw];rw [e _ _ c (by push_cast only [lJ,o7,h1,h3,h,ua])]
 rfl
theorem xp {z p:Int} {d:Gc} {c:Str} (h:c_ [.list (ai ts),.int z,.int p,d]=.ex c):cX [esD ts g fl an,.int z,.int p,d]=.ex c:=by
 unfold cX jP;have h1:=hG (ts:=ts) (g:=g) (fl:=fl) (an:=an);have h3:dY (esD ts g fl an)=some ("Easel" : Str):=rfl;have e:=λf al c h=>Ck (ts:=ts) (g:=g) (fl:=fl) (an:=an) (f:=f) (al:=al) (c:=c) (ρ:=[some (.sh (esD ts g fl an)),some (.sh (.int z)),some (.sh (.int p)),some (.sh d)]) fM rfl h
 push_cast only [Yw];rw [e _ _ c (by push_cast only [lJ,o7,h1,h3,h,ua])]
 rfl
theorem oH {z j p:Int} {c:Str} (h:c7 [.list (ai ts),.int z,.int j,.int p]=.ex c):cG [esD ts g fl an,.int z,.int j,.int p]=.ex c:=by
 unfold cG iN;have h1:=hG (ts:=ts) (g:=g) (fl:=fl) (an:=an);have h3:dY (esD ts g fl an)=some ("Easel" : Str):=rfl;have e:=λf al c h=>Ck (ts:=ts) (g:=g) (fl:=fl) (an:=an) (f:=f) (al:=al) (c:=c) (ρ:=[some (.sh (esD ts g fl an)),some (.sh (.int z)),some (.sh (.int j)),some (.sh (.int p))]) fM rfl h
 push_cast only [Yw];rw [e _ _ c (by push_cast only [lJ,o7,h1,h3,h,ua])]
 rfl
end
section
variable {ts:List Nd} {g:Int} {fl:Nat->Bool} {an:Gc}
theorem vM {m:Str} {f:Fn} {al:Fa} {r:R OD} {xs:List OD} {ρ:L3.Env} (hm:b9 m ((bo ts g fl an).map λp=>(.tuple [.str p.1],p.2))=none) (h:ρ[0]?=some (some (.sh (esD ts g fl an)))) (ha:al ρ=.ok xs) (hr:f (esD ts g fl an :: xs.map OD.er)=r) :
  bG (λnm=>List.lookup nm [("Easel",f)]) m (ae 0) al ρ=r:=by
 have hv:ae 0 ρ=.ok (.sh (esD ts g fl an)):=by
  unfold ae;rw [h]
 have h4:o9 m (esD ts g fl an)=none:=hm;have h3:dY (esD ts g fl an)=some ("Easel" : Str):=rfl;unfold bG;rw [hv,aC,aQ];simp only [h3,h4];have:List.lookup ("Easel" : Str) [(("Easel" : Str),f)]=some f:=by rw [Z2];rfl
 rw [this];show (al ρ).bind (λxs=>f (esD ts g fl an :: xs.map OD.er))=_
 rw [ha,aC];exact hr
theorem qC {m:Str} (h:m = "fold" \/ m = "unfold" \/ m = "cut" \/ m = "put" \/ m = "move" \/ m = "seen" \/ m = "whole" \/ m = "folded" \/ m = "redrawn"):b9 m ((bo ts g fl an).map λp=>(.tuple [.str p.1],p.2))=none:=by
 rcases h with rfl | rfl | rfl | rfl | rfl | rfl | rfl | rfl | rfl <;> exact uf (by decide +kernel) (by decide +kernel) (by decide +kernel) (by decide +kernel)
theorem MP:decide (("unfold" : Str) = "fold")=false:=by decide +kernel
theorem MB:decide (("cut" : Str) = "fold")=false:=by decide +kernel
theorem Nk:decide (("cut" : Str) = "unfold")=false:=by decide +kernel
theorem IG:decide (("put" : Str) = "fold")=false:=by decide +kernel
theorem Gn:decide (("put" : Str) = "unfold")=false:=by decide +kernel
theorem JP:decide (("put" : Str) = "cut")=false:=by decide +kernel
theorem Mz:decide (("move" : Str) = "fold")=false:=by decide +kernel
theorem M9:decide (("move" : Str) = "unfold")=false:=by decide +kernel
theorem MG:decide (("move" : Str) = "cut")=false:=by decide +kernel
theorem MA:decide (("move" : Str) = "put")=false:=by decide +kernel
theorem DX:decide (("fold" : Str) = "fold")=true:=by decide +kernel
theorem M7:decide (("unfold" : Str) = "unfold")=true:=by decide +kernel
theorem MH:decide (("cut" : Str) = "cut")=true:=by decide +kernel
theorem Jl:decide (("put" : Str) = "put")=true:=by decide +kernel
theorem uH {z:Int} {c:Str} (h:bJ [esD ts g fl an,.int z]=.ex c):aN [esD ts g fl an,.tuple [.str "fold",.int z]]=.ex c:=by
 unfold aN d8;have e:bG (λnm=>List.lookup nm [("Easel",bJ)]) "fold" (ae 0) (aa (eOp gIx (ae 1) (eC (.int 1))) ag) [some (.sh (esD ts g fl an)),some (.sh (.tuple [.str "fold",.int z]))]=.ex c:=vM (xs:=[.sh (.int z)]) (qC (.inl rfl)) rfl (by push_cast only [Yw]) h
 push_cast only [DX];rw [e];rfl
theorem wO {z:Int} {c:Str} (h:bc [esD ts g fl an,.int z]=.ex c):aN [esD ts g fl an,.tuple [.str "unfold",.int z]]=.ex c:=by
 unfold aN d8;have e:bG (λnm=>List.lookup nm [("Easel",bc)]) "unfold" (ae 0) (aa (eOp gIx (ae 1) (eC (.int 1))) ag) [some (.sh (esD ts g fl an)),some (.sh (.tuple [.str "unfold",.int z]))]=.ex c:=vM (xs:=[.sh (.int z)]) (qC (.inr (.inl rfl))) rfl (by push_cast only [Yw]) h
 push_cast only [MP,M7];rw [e];rfl
theorem Cq {z:Int} {c:Str} (h:cZ [esD ts g fl an,.int z]=.ex c):aN [esD ts g fl an,.tuple [.str "cut",.int z]]=.ex c:=by
 unfold aN d8;have e:bG (λnm=>List.lookup nm [("Easel",cZ)]) "cut" (ae 0) (aa (eOp gIx (ae 1) (eC (.int 1))) ag) [some (.sh (esD ts g fl an)),some (.sh (.tuple [.str "cut",.int z]))]=.ex c:=vM (xs:=[.sh (.int z)]) (qC (by simp)) rfl (by push_cast only [Yw]) h
 push_cast only [MB,Nk,MH];rw [e];rfl
end
section
variable {ts:List Nd} {g:Int} {fl:Nat->Bool} {an:Gc}
theorem wU {z p:Int} {d:Gc} {c:Str} (h:cX [esD ts g fl an,.int z,.int p,d]=.ex c):aN [esD ts g fl an,.tuple [.str "put",.int z,.int p,d]]=.ex c:=by
 unfold aN d8;have e:bG (λnm=>List.lookup nm [("Easel",cX)]) "put" (ae 0) (aa (eOp gIx (ae 1) (eC (.int 1))) (aa (eOp gIx (ae 1) (eC (.int 2))) (aa (eOp gIx (ae 1) (eC (.int 3))) ag))) [some (.sh (esD ts g fl an)),some (.sh (.tuple [.str "put",.int z,.int p,d]))]=.ex c:=vM (xs:=[.sh (.int z),.sh (.int p),.sh d]) (qC (by simp)) rfl (by push_cast only [Yw];rfl) h
 push_cast only [IG,Gn,JP,Jl];rw [e];rfl
theorem oK {z j p:Int} {c:Str} (h:cG [esD ts g fl an,.int z,.int j,.int p]=.ex c):aN [esD ts g fl an,.tuple [.str "move",.int z,.int j,.int p]]=.ex c:=by
 unfold aN d8;have e:bG (λnm=>List.lookup nm [("Easel",cG)]) "move" (ae 0) (aa (eOp gIx (ae 1) (eC (.int 1))) (aa (eOp gIx (ae 1) (eC (.int 2))) (aa (eOp gIx (ae 1) (eC (.int 3))) ag))) [some (.sh (esD ts g fl an)),some (.sh (.tuple [.str "move",.int z,.int j,.int p]))]=.ex c:=vM (xs:=[.sh (.int z),.sh (.int j),.sh (.int p)]) (qC (by simp)) rfl (by push_cast only [Yw];rfl) h
 push_cast only [Mz,M9,MG,MA];rw [e];rfl
end
abbrev Ag:List (Str×List Bool):=[("NoDeed",[false,true,false,false,false,false,false,true]),("NoNode",[true,false,false,false,false,false,false,true]),("NoPlace",[false,false,true,false,false,false,false,true]),("NoTree",[false,false,false,true,false,false,false,true])]
theorem zt (bs:List Bool):lay 1 (.list (bs.map PyData.bool)):=vv λx hx=>by
 obtain ⟨b,_,rfl⟩:=ZC.mp hx;exact B2 b
theorem kq {es deed:Gc} {c:Str} {due:Int} {bs:List Bool} (h:aN [es,deed]=.ex c) (hl:List.lookup c Ag=some bs) (hb:bs=((range 7).map λi:Nat=>decide (due=1+(i:Int)))++[true]):aj [es,deed,.int due]=.ok (.sh (.bool true)):=by
 unfold aj fS;have tr:xV aN (aa (ae 0) (aa (ae 1) ag)) (fun ρ=>uC ρ 4) 3 Ag [some (.sh es),some (.sh deed),some (.sh (.int due)),some (.sh (.list [])),none]=.ok (.nx [some (.sh es),some (.sh deed),some (.sh (.int due)),some (.sh (.list (bs.map PyData.bool))),none]):=by
  unfold xV;have a:aa (ae 0) (aa (ae 1) ag) [some (.sh es),some (.sh deed),some (.sh (.int due)),some (.sh (.list [])),none]=.ok [.sh es,.sh deed]:=by push_cast only [Yw]
  rw [a,aC,Zw,Zw,Yh,aQ,aQ,h];simp only [hl];rfl
 have b8:(8<=BIG)=True:=az (by lia)
 have b71:(7+1<=BIG)=True:=az (by lia)
 have s1:aL 1=true:=qT (by decide) (by decide)
 have s8:aL 8=true:=qT (by decide) (by decide)
 push_cast only [↓tr,s1,s8,Vh];generalize hC:bH _ _ _ _ _ _=rc
 have e:=gH hC (λi:Nat=>PyData.int (1+(i:Int))) (λi:Nat=>.sh (.bool (decide (due=1+(i:Int))))) (range 7) (by rfl) (by rw [Zu];exact Y8 (az (by lia))) (by
  intro i hi;push_cast only [Yw])
 subst e;have e2:((range 7).map λi:Nat=>OD.sh (.bool (decide (due=1+(i:Int))))).map OD.er++[PyData.bool true]=bs.map PyData.bool:=by
  rw [hb,Zh,Yu,Yu];rfl
 have e3:(((range 7).map λi:Nat=>OD.sh (.bool (decide (due=1+(i:Int))))).map OD.er).length=7:=by rw [Zy,Zy,Zu]
 have sm:=CF (zt bs);push_cast only [e2,e3,b8,b71,aX,sm]
section
variable {ts:List Nd} {g:Int} {fl:Nat->Bool} {an:Gc}
theorem Eh (hl:ts.length<=40) {z:Int} (h:¬(0<=z/\z<ts.length)):bJ [esD ts g fl an,.int z]=.ex "NoNode" := by
 have e:=eF hl z;rw [N2 h]at e;have hc:bY [.list (ai ts),.list (nD (fdL ts fl)),.int z]=.ex "NoNode" := by
  unfold bY fG;push_cast only [e,cg,bV]
 unfold bJ fI;have h1:=hG (ts:=ts) (g:=g) (fl:=fl) (an:=an);have h2:=jQ (ts:=ts) (g:=g) (fl:=fl) (an:=an);have h3:dY (esD ts g fl an)=some ("Easel" : Str):=rfl;push_cast only [lJ,o7,h1,h2,h3,hc,cg,bV]
theorem IW (hl:ts.length<=40) {z:Int} (h:¬(0<=z/\z<ts.length)):bc [esD ts g fl an,.int z]=.ex "NoNode" := by
 have e:=eF hl z;rw [N2 h]at e;have hc:bz [.list (ai ts),.list (nD (fdL ts fl)),.int z]=.ex "NoNode" := by
  unfold bz dZ;push_cast only [e,cg,bV]
 unfold bc d5;have h1:=hG (ts:=ts) (g:=g) (fl:=fl) (an:=an);have h2:=jQ (ts:=ts) (g:=g) (fl:=fl) (an:=an);have h3:dY (esD ts g fl an)=some ("Easel" : Str):=rfl;push_cast only [lJ,o7,h1,h2,h3,hc,cg,bV]
end
def cO (m:Nat) (lev:Int):List Nd:=(range m).map λi:Nat=>⟨(if lev<(i:Int) then lev else (i:Int))-1, "ab",1+(i:Int) % 9⟩
theorem nN (m:Nat) (hm:m<=100) (lev:Int):aT [.int (m:Int),.int lev]=.ok (.ol ((ai (cO m lev)).map OD.sh)):=by
 unfold aT ig;have s1:aL (m:Int)=true:=qT (by lia) (by lia)
 push_cast only [s1];generalize hC:bH _ _ _ _ _ _=rc
 have e:=gH hC (λi:Nat=>PyData.int (0+(i:Int))) (λi:Nat=>OD.sh (ndD ⟨(if lev<(i:Int) then lev else (i:Int))-1, "ab",1+(i:Int) % 9⟩)) (range m) (by rw [Zn];rfl) (by rw [Zu];exact Y8 (az (by lia))) (by
  intro i hi;have e0:(0:Int)+(i:Int)=(i:Int):=by lia
  push_cast only [e0,ndD])
 subst e;have e2:(range m).map (λi:Nat=>OD.sh (ndD ⟨(if lev<(i:Int) then lev else (i:Int))-1, "ab",1+(i:Int) % 9⟩))=(ai (cO m lev)).map OD.sh:=by
  unfold ai cO;rw [Yu,Yu];rfl
 rw [e2];push_cast only [Yw]
theorem Hr (n:Nat) {z:Int} (hz:0<=z):∃w:Int,fO [.int (n:Int),.int z]=.ok (.sh (.int w))/\¬(0<=w/\w<n):=by
 unfold fO lh;have d0:0<=z / 2:=Int.ediv_nonneg hz (by decide)
 have r:=de z (show (0:Int)<2 by decide)
 by_cases h:z % 2=0
 ·refine ⟨-1-z / 2,?_,by lia⟩
  push_cast only [h]
 ·have h1:z % 2=1:=by lia
  refine ⟨(n:Int)+z / 2,?_,by lia⟩
  push_cast only [h1]
theorem lkD:List.lookup (Str.ofString "NoDeed") Ag=some [false,true,false,false,false,false,false,true]:=by
 show List.lookup (Str.ofString "NoDeed") ((Str.ofString "NoDeed",_) :: _)=_
 rw [Z2,X0]
theorem lkN:List.lookup (Str.ofString "NoNode") Ag=some [true,false,false,false,false,false,false,true]:=by
 show List.lookup (Str.ofString "NoNode") ((Str.ofString "NoDeed",_) :: (Str.ofString "NoNode",_) :: _)=_
 rw [Z2,show (Str.ofString "NoNode" == Str.ofString "NoDeed")=false by decide +kernel,Z2,X0]
theorem lkP:List.lookup (Str.ofString "NoPlace") Ag=some [false,false,true,false,false,false,false,true]:=by
 show List.lookup (Str.ofString "NoPlace") ((Str.ofString "NoDeed",_) :: (Str.ofString "NoNode",_) :: (Str.ofString "NoPlace",_) :: _)=_
 rw [Z2,show (Str.ofString "NoPlace" == Str.ofString "NoDeed")=false by decide +kernel,Z2,show (Str.ofString "NoPlace" == Str.ofString "NoNode")=false by decide +kernel,Z2,X0]
theorem lkT:List.lookup (Str.ofString "NoTree") Ag=some [false,false,false,true,false,false,false,true]:=by
 show List.lookup (Str.ofString "NoTree") ((Str.ofString "NoDeed",_) :: (Str.ofString "NoNode",_) :: (Str.ofString "NoPlace",_) :: (Str.ofString "NoTree",_) :: _)=_
 rw [Z2,show (Str.ofString "NoTree" == Str.ofString "NoDeed")=false by decide +kernel,Z2,show (Str.ofString "NoTree" == Str.ofString "NoNode")=false by decide +kernel,Z2,show (Str.ofString "NoTree" == Str.ofString "NoPlace")=false by decide +kernel,Z2,X0]
theorem zw {es deed:Gc} (h:aN [es,deed]=.ex "NoNode"):aj [es,deed,.int 1]=.ok (.sh (.bool true)):=kq h lkN (by decide)
theorem wK {es deed:Gc} (h:aN [es,deed]=.ex "NoDeed"):aj [es,deed,.int 2]=.ok (.sh (.bool true)):=kq h lkD (by decide)
theorem Hk {es deed:Gc} (h:aN [es,deed]=.ex "NoPlace"):aj [es,deed,.int 3]=.ok (.sh (.bool true)):=kq h lkP (by decide)
theorem MO {es deed:Gc} (h:aN [es,deed]=.ex "NoTree"):aj [es,deed,.int 4]=.ok (.sh (.bool true)):=kq h lkT (by decide)
section
variable {ts:List Nd} {g:Int} {fl:Nat->Bool} {an:Gc}
theorem tH (hl:ts.length<=40) (h0:0<ts.length) {z:Int} (hz:0<=z):cD [esD ts g fl an,.int (ts.length:Int),.int z]=.ok (.sh (.bool true)):=by
 unfold cD eI;obtain ⟨w,hw,nw⟩:=Hr ts.length hz;have ch:aT [.int 40,.int 8]=.ok (.ol ((ai (cO 40 8)).map OD.sh)):=nN 40 (by decide) 8
 have b4:(4<=BIG)=True:=az (by lia)
 have m1:aj [esD ts g fl an,.tuple [.str "move",.int w,.int 0,.int 9],.int 1]=.ok (.sh (.bool true)):=zw (oK (oH (B4 hl nw)));have m2:aj [esD ts g fl an,.tuple [.str "move",.int 0,.int w,.int (-1)],.int 1]=.ok (.sh (.bool true)):=zw (oK (oH (zI hl (by lia) nw)))
 have all:∀d∈[PyData.tuple [.str "fold",.int w],.tuple [.str "unfold",.int w],.tuple [.str "cut",.int w],.tuple [.str "put",.int w,.int (-1),.list (ai (cO 40 8))]],aj [esD ts g fl an,d,.int 1]=.ok (.sh (.bool true)):=λd hd=>by
  simp only [Xz,Wz,or_false]at hd;rcases hd with rfl | rfl | rfl | rfl
  ·exact zw (uH (Eh hl nw))
  ·exact zw (wO (IW hl nw))
  ·exact zw (Cq (Cd (Ci hl nw)))
  ·exact zw (wU (xp (Bx hl nw)))
 generalize esD ts g fl an=es at *
 push_cast only [hw,ch,aX,b4];generalize hL:bw _ _ _ _=r
 refine Bl hL (λi ρ=>∃v4:Option OD,ρ=[some (.sh es),some (.sh (.int (ts.length:Int))),some (.sh (.int z)),some (.sh (.int w)),v4]) (λ_=>False) ⟨_,rfl⟩ ?_ ?_ (λ_ _ f=>f.elim)
 ·rintro i d ρ hd ⟨v4,rfl⟩
  have rd:=all d (Yp hd);push_cast only [rd];exact ⟨_,rfl⟩
 ·rintro ρ' rfl ⟨v4,rfl⟩
  push_cast only [m1,m2]
end
theorem takeWhile_all:∀l:List α,(∀x∈l,p x=true)->l.takeWhile p=l
 |[],_=>rfl
 |a :: l,h=>by rw [List.takeWhile_cons_of_pos (h a Zz),takeWhile_all l λx hx=>h x (Zs _ hx)]
section
variable {ts:List Nd} {g:Int} {fl:Nat->Bool} {an:Gc}
theorem xR {z:Int} {c:Str} (hc:bY [.list (ai ts),.list (nD (fdL ts fl)),.int z]=.ex c):bJ [esD ts g fl an,.int z]=.ex c:=by
 unfold bJ fI;have h1:=hG (ts:=ts) (g:=g) (fl:=fl) (an:=an);have h2:=jQ (ts:=ts) (g:=g) (fl:=fl) (an:=an);have h3:dY (esD ts g fl an)=some ("Easel" : Str):=rfl;push_cast only [lJ,o7,h1,h2,h3,hc,cg,bV]
theorem B0 {z:Int} {c:Str} (hc:bz [.list (ai ts),.list (nD (fdL ts fl)),.int z]=.ex c):bc [esD ts g fl an,.int z]=.ex c:=by
 unfold bc d5;have h1:=hG (ts:=ts) (g:=g) (fl:=fl) (an:=an);have h2:=jQ (ts:=ts) (g:=g) (fl:=fl) (an:=an);have h3:dY (esD ts g fl an)=some ("Easel" : Str):=rfl;push_cast only [lJ,o7,h1,h2,h3,hc,cg,bV]
theorem Ba (he:EL ts):((ts.drop 1).takeWhile (inB 0)).length=ts.length-1:=by
 have:(ts.drop 1).takeWhile (inB 0)=ts.drop 1:=by
  refine takeWhile_all _ λn hn=>?_
  obtain ⟨i,hi⟩:=List.mem_iff_getElem?.mp hn;rw [W7]at hi;have:=he (1+i) n hi;refine Za ?_;have:=this.2.1 (by lia)
  lia
 rw [this,Y2]
theorem qJ (hl:ts.length<=40) (h0:0<ts.length) (he:EL ts) (hf:∀k,fl k=false) (hleaf:chN ts (ts.length-1)=[]) {z:Int} (hz:0<=z):bS [esD ts g fl an,.list (ai ts),.int z]=.ok (.sh (.bool true)):=by
 unfold bS dP;have lb:(ts.length<=BIG)=True:=az (by lia)
 have p0:(0:Int)<(ts.length:Int):=by lia
 have pp:(0<(ts.length:Int)/\(ts.length:Int)<1073741824)=True:=eq_true ⟨by lia,by lia⟩
 have r:=de z p0;obtain ⟨a,ha⟩:∃a:Nat,z % (ts.length:Int)=(a:Int):=⟨_,(Wv r.1).symm⟩;have hal:a<ts.length:=by lia
 have el:(ts.length:Int)-1=((ts.length-1:Nat):Int):=by lia
 have q1:aj [esD ts g fl an,.tuple [.str "fold",.int ((ts.length-1:Nat):Int)],.int 2]=.ok (.sh (.bool true)):=wK (uH (xR (wq (by lia) (by lia) (.inr hleaf))))
 have q2:aj [esD ts g fl an,.tuple [.str "unfold",.int (a:Int)],.int 2]=.ok (.sh (.bool true)):=wK (wO (B0 (xJ hal (hf a))));have q3:aj [esD ts g fl an,.tuple [.str "cut",.int 0],.int 2]=.ok (.sh (.bool true)):=wK (Cq (Cd (wN hl h0)));have q4:aj [esD ts g fl an,.tuple [.str "move",.int 0,.int (a:Int),.int (-1)],.int 2]=.ok (.sh (.bool true)):=wK (oK (oH (sL (k:=0) hl h0 hal (Y1 _) (by rw [Ba he];lia))))
 have q5:aj [esD ts g fl an,.tuple [.str "move",.int ((ts.length-1:Nat):Int),.int ((ts.length-1:Nat):Int),.int 99],.int 2]=.ok (.sh (.bool true)):=wK (oK (oH (sL hl (by lia) (by lia) (Zi _) (by lia))))
 generalize esD ts g fl an=es at *
 push_cast only [ay,lb,p0,pp,ha,el,q1,q2,q3,q4,q5]
end
section
variable {ts:List Nd} {g:Int} {fl:Nat->Bool} {an:Gc}
theorem sk (hl:ts.length<=40) {k:Nat} (hk:k<ts.length) {p:Int} {d:Gc} (h:p<0\/((chN ts k).length:Int)<p) (hc:(chN ts k).length<=100):aj [esD ts g fl an,.tuple [.str "put",.int (k:Int),.int p,d],.int 3]=.ok (.sh (.bool true)):=Hk (wU (xp (va hl hk h hc)))
end
theorem Jb (ts:List Nd):(range ts.length).map (cS ts)=ts:=by
 apply Yo
 intro i;rw [Zx];by_cases hi:i<ts.length
 ·rw [Z6 hi,gy hi]
  rfl
 ·rw [Zb (by rw [Zu];lia),Zb (by lia)]
  rfl
theorem AK (ts:List Nd) (k:Nat):(ts.filter λn=>decide (n.e=(k:Int))).length=(chN ts k).length:=by
 have e:(ts.filter λn=>decide (n.e=(k:Int)))=((range ts.length).map (cS ts)).filter λn=>decide (n.e=(k:Int)):=by rw [Jb]
 rw [e,List.filter_map,Zy];unfold chN;refine Yl List.length (Xc λj hj=>?_)
 rw [Yk]at hj;show decide ((cS ts j).e=(k:Int))=_
 rw [iD hj]
theorem oo (ts:List Nd) (k:Nat):(chN ts k).length<=ts.length:=by
 unfold chN;have:=Xl (λj=>decide (eOf ts j=(k:Int))) (range ts.length)
 rw [Zu]at this;exact this
theorem oW {ts:List Nd} (hl:ts.length<=40) {k:Nat} (hk:k<ts.length) (h0:0<k) {p:Int} (h:p<0\/(((chN ts 0).filter λj=>!decide (j=k)).length:Int)<p):c7 [.list (ai ts),.int (k:Int),.int 0,.int p]=.ex "NoPlace" := by
 unfold c7 jE;have e:=eF hl (k:Int);rw [N1 (by lia)]at e
 have e2:=eF hl 0;rw [N1 (by lia)]at e2
 have en:=uv ts k hk;generalize ((ts.drop (k+1)).takeWhile (inB k)).length=m at en
 have cc:∀a3 a5 a6 a7 a8 a9 a10:Option OD,xt (ae 1) (ae 2) (ae 4) [some (.sh (.list (ai ts))),some (.sh (.int (k:Int))),some (.sh (.int 0)),a3,some (.sh (.int ((k+1+m:Nat):Int))),a5,a6,a7,a8,a9,a10]=.ok (.sh (.bool false)):=λ_ _ _ _ _ _ _=>by
  rw [Fh (x:=.sh (.int (k:Int))) (y:=.sh (.int 0)) (z:=.sh (.int ((k+1+m:Nat):Int))) rfl (aQ _) rfl (aQ _) rfl (aQ _),Zq (by lia)]
 have cl:=oo ts 0;have ch:aP [.list (ai ts),.int 0]=.ok (.ol (nO (chN ts 0))):=eD ts 0 (by lia) (by lia)
 have cm:∀a3 a4 a5 a6 a7 a8 a9 a10:Option OD,bu (dg (ak aP (aa (ae 0) (aa (ae 2) ag)))) (gNm 0) (ao (eOp gNe (ae 0) (ae 1))) (ae 0) 1 [1] [some (.sh (.list (ai ts))),some (.sh (.int (k:Int))),some (.sh (.int 0)),a3,a4,a5,a6,a7,a8,a9,a10]=.ok (.ol (nO ((chN ts 0).filter λj=>!decide (j=k)))):=λ_ _ _ _ _ _ _ _=>by
  push_cast only [ch,cJ];generalize hC:bH _ _ _ _ _ _=rc
  have e:=gR hC (λq:Nat=>PyData.int (q:Int)) (λq=>!decide (q=k)) (λq:Nat=>OD.sh (.int (q:Int))) (chN ts 0) (by unfold nD iL;rw [Yu];rfl) (Y8 (az (by lia))) (by
   intro q hq;have ed:decide ((q:Int)=(k:Int))=decide (q=k):=by
    by_cases z:q=k
    ·subst z;simp
    ·rw [Zq z,Zq (by lia)]
   refine ⟨?_,λ_=>?_⟩
   ·push_cast only [ed]
   ·push_cast only [Yw])
  subst e;push_cast only [Yw];rw [gi]
 have fl:=Xl (λj=>!decide (j=k)) (chN ts 0)
 have bh:=uZ (k:=0) hl (show ((chN ts 0).filter λj=>!decide (j=k)).length<=100 by lia) h
 rw [Vx]at bh;push_cast only [e,e2,en,cc,↓cm,cJ,bh,cg,bV]
section
variable {ts:List Nd} {g:Int} {fl:Nat->Bool} {an:Gc}
theorem o4 (hl:ts.length<=40) (h0:0<ts.length) {z:Int} (hz:0<=z):bN [esD ts g fl an,.list (ai ts),.int z]=.ok (.sh (.bool true)):=by
 unfold bN du;have lb:(ts.length<=BIG)=True:=az (by lia)
 have p0:(0:Int)<(ts.length:Int):=by lia
 have pp:(0<(ts.length:Int)/\(ts.length:Int)<1073741824)=True:=eq_true ⟨by lia,by lia⟩
 have r:=de z p0;obtain ⟨a,ha⟩:∃a:Nat,z % (ts.length:Int)=(a:Int):=⟨_,(Wv r.1).symm⟩;have hal:a<ts.length:=by lia
 have el:(ts.length:Int)-1=((ts.length-1:Nat):Int):=by lia
 have d0:0<=z / 64:=Int.ediv_nonneg hz (by decide)
 have ch:aT [.int 40,.int 8]=.ok (.ol ((ai (cO 40 8)).map OD.sh)):=nN 40 (by decide) 8
 have cl:=oo ts a;have cl0:=oo ts 0;have q1:aj [esD ts g fl an,.tuple [.str "put",.int (a:Int),.int (-1-z / 64),.list (ai (cO 40 8))],.int 3]=.ok (.sh (.bool true)):=sk hl hal (.inl (by lia)) (by lia)
 have q2:aj [esD ts g fl an,.tuple [.str "put",.int (a:Int),.int (((chN ts a).length:Int)+1+z / 64),.list (ai (cO 40 8))],.int 3]=.ok (.sh (.bool true)):=sk hl hal (.inr (by lia)) (by lia)
 have q3:1<ts.length->aj [esD ts g fl an,.tuple [.str "move",.int ((ts.length-1:Nat):Int),.int 0,.int ((((chN ts 0).filter λj=>!decide (j=ts.length-1)).length:Int)+1)],.int 3]=.ok (.sh (.bool true)):=λh1=>Hk (oK (oH (oW hl (by lia) (by lia) (.inr (by lia)))))
 have q4:1<ts.length->aj [esD ts g fl an,.tuple [.str "move",.int ((ts.length-1:Nat):Int),.int 0,.int (-1)],.int 3]=.ok (.sh (.bool true)):=λh1=>Hk (oK (oH (oW hl (by lia) (by lia) (.inl (by lia)))))
 generalize esD ts g fl an=es at *
 have c1:∀v4 v5 v6:Option OD,bu (dg (ae 1)) (gNm 0) (ao (eOp gEq (eOp gIx (ae 0) (eC (.int 0))) (ae 1))) (ae 0) 1 [3] [some (.sh es),some (.sh (.list (ai ts))),some (.sh (.int z)),some (.sh (.int (a:Int))),v4,v5,v6]=.ok (.ol ((ts.filter λn=>decide (n.e=(a:Int))).map λn=>OD.sh (ndD n))):=λ_ _ _=>by
  push_cast only [Yw];generalize hC:bH _ _ _ _ _ _=rc
  have e:=gR hC ndD (λn=>decide (n.e=(a:Int))) (λn:Nd=>OD.sh (ndD n)) ts rfl (Y8 (az (by lia))) (by
   intro n hn;refine ⟨?_,λ_=>?_⟩
   ·push_cast only [ndD]
   ·push_cast only [ndD])
  subst e;push_cast only [Yw]
 have l1:(((ts.filter λn=>decide (n.e=(a:Int))).map λn=>OD.sh (ndD n)).map OD.er).length=(chN ts a).length:=by rw [Zy,Zy,AK]
 have lb1:((chN ts a).length<=BIG)=True:=az (by lia)
 have c2:∀v2 v3 v4 v5:Option OD,bu (iR1 (eB a_ (aa (ae 1) ag))) (gNm 0) (oX (ao (eOp gEq (eOp gIx (eOp gIx (ae 1) (ae 0)) (eC (.int 0))) (eC (.int 0)))) (ao (eOp gNe (ae 0) (ae 2)))) (ae 0) 1 [1,6] [some (.sh es),some (.sh (.list (ai ts))),v2,v3,v4,v5,some (.sh (.int ((ts.length-1:Nat):Int)))]=.ok (.ol (nO ((chN ts 0).filter λj=>!decide (j=ts.length-1)))):=λ_ _ _ _=>by
  have s2:aL (ts.length:Int)=true:=qT (by lia) (by lia)
  push_cast only [ay,lb,s2];generalize hC:bH _ _ _ _ _ _=rc
  have e:=gR hC (λi:Nat=>PyData.int (0+(i:Int))) (λi:Nat=>decide (eOf ts i=((0:Nat):Int)) && !decide (i=ts.length-1)) (λi:Nat=>OD.sh (.int (i:Int))) (range ts.length) (by rw [Zn];rfl) (by rw [Zu];exact Y8 (az (by lia))) (by
   intro i hi;rw [Yk]at hi;have g1:=lF (gy hi);have e0:=iD hi;have ed:decide ((i:Int)=((ts.length-1:Nat):Int))=decide (i=ts.length-1):=by
    by_cases z:i=ts.length-1
    ·rw [Za z,Za (by lia)]
    ·rw [Zq z,Zq (by lia)]
   refine ⟨?_,λ_=>?_⟩
   ·cases hd:decide (eOf ts i=0) with
    |true =>
     push_cast only [X2,g1,e0,hd,ed,Vx,Bool.true_and]
    |false =>
     push_cast only [X2,g1,e0,hd,ed,Vx,Bool.false_and]
   ·push_cast only [X2])
  subst e;push_cast only [Yw];rw [gi];unfold chN;rw [List.filter_filter];refine Yl (λL=>R.ok (OD.ol (nO L))) (Xc λi _=>?_)
  rw [Bool.and_comm];rfl
 have fl0:=Xl (λj=>!decide (j=ts.length-1)) (chN ts 0)
 have lb2:(((chN ts 0).filter λj=>!decide (j=ts.length-1)).length<=BIG)=True:=az (by lia)
 have b2:(2<=BIG)=True:=az (by lia)
 push_cast only [ay,lb,p0,pp,ha,↓c1,l1,lb1,b2];generalize hL:bw _ _ _ _=r'
 refine Bl hL (λi ρ=>∃v5:Option OD,ρ=[some (.sh es),some (.sh (.list (ai ts))),some (.sh (.int z)),some (.sh (.int (a:Int))),some (.sh (.int ((chN ts a).length:Int))),v5,none]) (λ_=>False) ⟨_,rfl⟩ ?_ ?_ (λ_ _ f=>f.elim)
 ·rintro i d ρ hd ⟨v5,rfl⟩
  have hd':=Yp hd;simp only [Xz,Wz,or_false]at hd';rcases hd' with rfl | rfl
  ·push_cast only [ch,aX,q1]
   exact ⟨_,rfl⟩
  ·push_cast only [ch,aX,q2]
   exact ⟨_,rfl⟩
 ·rintro ρ' rfl ⟨v5,rfl⟩
  by_cases h1:(ts.length:Int)=1
  ·push_cast only [ay,lb,Za h1]
  ·have q3':=q3 (by lia)
   have q4':=q4 (by lia)
   push_cast only [ay,lb,Zq h1,el,↓c2,cJ,aY,lb2,q3',q4']
end
section
variable {deep:Nat} {ns:List Nd} {way:List Int}
theorem Ak (g:Grown deep ns way):way[way.length-1]?=some ((ns.length-1:Nat):Int):=by
 cases g with
 |root=>rfl
 |@step ns way c n g h1 h2 h3 h4 h5 =>
  rw [Zv,Zv,Zd,Zd,Ze,Xu h2,Wr,Wr,Z9 (by rw [Ze];lia),Ze,Xu h2,Xf]
  rfl
theorem J0 (g:Grown deep ns way):way.length<=deep+1:=by
 cases g with
 |root=>show 1<=deep+1;lia
 |@step ns way c n g h1 h2 h3 h4 h5 =>
  rw [Zv,Zd,Ze]
  lia
theorem IZ (g:Grown deep ns way) {D:Nat} (h:deep<=D):Grown D ns way:=by
 induction g with
 |root a b=>exact .root a b
 |step g h1 h2 h3 h4 h5 ih=>exact .step ih h1 h2 (by lia) h4 h5
theorem pL {n:Nd} {k:Nat} (hk:k<ns.length):eOf (ns++[n]) k=eOf ns k:=by
 unfold eOf;rw [Yz hk]
theorem yQ {n:Nd}:eOf (ns++[n]) ns.length=n.e:=d9 (by simp)
theorem D7 (g:Grown deep ns way):(∀(i:Nat) (x:Int),i+1<way.length->way[i]?=some x->x.toNat+1<ns.length/\eOf ns (x.toNat+1)=x)/\∀k,0<k->k<ns.length->eOf ns ((eOf ns k).toNat+1)=eOf ns k:=by
 induction g with
 |@root n a b=>exact ⟨λi x h _=>by rw [Zd]at h;lia,λk h1 h2=>by rw [Zd]at h2;lia⟩
 |@step ns way c n g h1 h2 h3 h4 h5 ih =>
  obtain ⟨i1,i2⟩:=ih;have ew:=g.way_lt n.e (Yp h5);have hp:=g.pos.1;have key:n.e.toNat+1<(ns++[n]).length/\eOf (ns++[n]) (n.e.toNat+1)=n.e:=by
   by_cases hc:c<way.length
   ·obtain ⟨a,b⟩:=i1 (c-1) n.e (by lia) h5
    exact ⟨by rw [Zv];lia,by rw [pL a,b]⟩
   ·have last:=Ak g
    rw [show way.length-1=c-1 by lia,h5]at last
    have e1:=Yv last;have e2:n.e.toNat+1=ns.length:=by lia
    rw [e2];exact ⟨by rw [Zv,Zd];lia,yQ⟩
  refine ⟨λi x hi hx=>?_,λk k1 k2=>?_⟩
  ·rw [Zv,Ze,Zd]at hi
   rw [Yz (by rw [Ze];lia),Yb (by lia)]at hx
   by_cases hic:i=c-1
   ·subst hic
    rw [h5]at hx;cases hx;exact key
   ·obtain ⟨a,b⟩:=i1 i x (by lia) hx
    exact ⟨by rw [Zv];lia,by rw [pL a,b]⟩
  ·by_cases hk:k<ns.length
   ·obtain ⟨m,hm⟩:∃m,ns[k]?=some m:=⟨ns[k],by simp [hk]⟩
    have:=g.elder k m hm;rw [<-d9 hm]at this;have e0:=this.2.1 k1;rw [pL hk,pL (by lia)]
    exact i2 k k1 hk
   ·rw [Zv,Zd]at k2
    have:k=ns.length:=by lia
    subst this;rw [yQ];exact key.2
theorem u6 (g:Grown deep ns way) {v:Nat}:chN ns v=[]\/∃r,chN ns v=(v+1) :: r:=by
 cases hc:chN ns v with
 |nil=>exact .inl rfl
 |cons a r =>
  right
  have ha:a∈chN ns v:=by rw [hc];exact Zz
  obtain ⟨h1,h2⟩:=iI.mp ha;have he:EL ns:=g.elder;rcases elt he h1 with ⟨z,_⟩ | ⟨j,z,hj⟩
  ·lia
  ·have e1:=(D7 g).2 a (by lia) h1
   rw [h2,Zn]at e1;have hm:v+1∈chN ns v:=iI.mpr ⟨by lia,e1⟩
   have pw:(chN ns v).Pairwise (·<·):=Vo _ List.pairwise_lt_range;rw [hc]at hm pw;have hav:a=v+1:=by
    rcases Xz.mp hm with e | e
    ·exact e.symm
    ·have:=List.rel_of_pairwise_cons pw e
     lia
   exact ⟨r,by rw [hav]⟩
theorem L5 (g:Grown deep ns way):(∀(i:Nat) (x:Int),way[i]?=some x->(lvs ns)[x.toNat]?=some i)/\∀l∈lvs ns,l<=deep:=by
 induction g with
 |@root n a b =>
  have z:lvs [n]=[0]:=by
   show [dI [] n]=[0]
   unfold dI;rw [N1 b]
  rw [z];refine ⟨λi x hx=>?_,λl hl=>?_⟩
  ·have hi:=(ZA.mp hx).1
   have:i=0:=by rw [Zd]at hi;lia
   subst this;cases hx;rfl
  ·rw [Y9]at hl
   lia
 |@step ns way c n g h1 h2 h3 h4 h5 ih =>
  obtain ⟨i1,i2⟩:=ih;have ew:=g.way_lt n.e (Yp h5);have el:=i1 (c-1) n.e h5;have last:dI (lvs ns) n=c:=by
   unfold dI;rw [N2 (by lia),el]
   show c-1+1=c
   lia
  rw [i_,last];refine ⟨λi x hx=>?_,λl hl=>?_⟩
  ·by_cases hi:i<c
   ·rw [Yz (by rw [Ze];lia),Yb hi]at hx
    have xl:=g.way_lt x (Yp hx);rw [Yz (by rw [dE];lia)]
    exact i1 i x hx
   ·have hl:=(ZA.mp hx).1
    rw [Zv,Zd,Ze]at hl;have:i=c:=by lia
    subst this;rw [Z9 (by rw [Ze];lia),Ze,Xu h2,Xf]at hx
    cases hx;rw [Zn,Z9 (by rw [dE];lia),dE,Xf]
    rfl
  ·rcases Z5.mp hl with hl | hl
   ·exact i2 l hl
   ·rw [Y9]at hl
    lia
end
def shE (v m:Nat) (e:Int):Int:=if e<=(v:Int) then e else e+(m:Int)
def shN (v m:Nat) (n:Nd):Nd:=⟨shE v m n.e,n.l,n.t⟩
def rQ:Nat->List Nd->List Nd
 |_,[]=>[]
 |v,x :: xs=>⟨(v:Int),x.l,x.t⟩ :: rQ (v+1) xs
theorem iR:∀(v:Nat) (X:List Nd),(rQ v X).length=X.length
 |_,[]=>rfl
 |v,x :: xs=>by rw [rQ,Zp,Zp,iR (v+1) xs]
theorem uu:∀(v:Nat) (X:List Nd) (i:Nat) (x:Nd),X[i]?=some x->(rQ v X)[i]?=some ⟨((v+i:Nat):Int),x.l,x.t⟩
 |v,y :: xs,0,x,h=>by
  cases h;rfl
 |v,y :: xs,i+1,x,h=>by
  have:=uu (v+1) xs i x h;rw [show v+1+i=v+(i+1) by lia]at this
  exact this
def iq (ts:List Nd) (v:Nat) (X:List Nd):List Nd:=ts.take (v+1)++(rQ v X++(ts.drop (v+1)).map (shN v X.length))
theorem lE {ts:List Nd} {v:Nat} (X:List Nd) (hv:v<ts.length):(iq ts v X).length=ts.length+X.length:=by
 unfold iq;rw [Zv,Zv,iR,Zy,Ze,Y2]
 lia
section
variable {D d:Nat} {way:List Int} {X:List Nd}
theorem xr:∀(X:List Nd) {ns:List Nd} {way:List Int},(∀x∈X,zG x)->Grown D ns way->way.length+X.length<=D+1->∃w,Grown D (ns++rQ (ns.length-1) X) (way++w)
 |[],ns,way,_,g,_=>⟨[],by rw [rQ,Zc,Zc];exact g⟩
 |x :: xs,ns,way,ok,g,h=>by
  have hp:=g.pos;rw [Zp]at h;have st:=Grown.step (c:=way.length) (n:=⟨((ns.length-1:Nat):Int),x.l,x.t⟩) g (by lia) (Zi _) (by lia) (ok x Zz) (Ak g)
  rw [Wj]at st;obtain ⟨w,hw⟩:=xr xs (λy hy=>ok y (Zs _ hy)) st (by rw [Zv,Zd];lia)
  refine ⟨[(ns.length:Int)]++w,?_⟩;rw [Zv,Zd,Wr,Yq,Yq]at hw;rw [rQ,show ns.length-1+1=ns.length by lia]
  exact hw
theorem C5 {v m:Nat} {L:List Int} (h:∀x∈L,x<=(v:Int)):L.map (shE v m)=L:=by
 rw [Xy (g:=id) λx hx=>by unfold shE;rw [N1 (h x hx)];rfl,List.map_id]
theorem oM (ok:∀x∈X,zG x) {ts:List Nd} (g:Grown d ts way):∀v,v<ts.length->∃w,Grown (d+X.length) (iq ts v X) w/\w.take way.length=way.map (shE v X.length):=by
 induction g with
 |@root n a b =>
  intro v hv;have:v=0:=by rw [Zd]at hv;lia
  subst this;obtain ⟨w,hw⟩:=xr (D:=d+X.length) X ok (Grown.root a b) (by rw [Zd];lia)
  refine ⟨[0]++w,?_,?_⟩
  ·show Grown _ ([n]++(rQ 0 X++[])) _
   rw [Zc];exact hw
  ·rw [C5 λx hx=>by rw [Y9]at hx;lia]
   rfl
 |@step ns way c n g h1 h2 h3 h4 h5 ih =>
  intro v hv;by_cases hvn:v<ns.length
  ·obtain ⟨w,hw,ht⟩:=ih v hvn
   have lw:way.length<=w.length:=by
    have:=Yl List.length ht;rw [Ze,Zy]at this
    lia
   have a5:w[c-1]?=some (shE v X.length n.e):=by
    have:(w.take way.length)[c-1]?=w[c-1]?:=Yb (by lia)
    rw [<-this,ht,Zx,h5];rfl
   have st:=Grown.step (n:=shN v X.length n) hw h1 (by lia) (by lia) ⟨h4.1,h4.2⟩ a5
   refine ⟨w.take c++[((iq ns v X).length:Int)],?_,?_⟩
   ·have:iq (ns++[n]) v X=iq ns v X++[shN v X.length n]:=by
     unfold iq;rw [Xw (by lia),List.drop_append_of_le_length (by lia),Zh]
     simp only [Yq];rfl
    rw [this];exact st
   ·rw [Y4 (by simp only [Zv,Ze,Zd];lia),Zh,Vi,<-ht,List.take_take,Xu h2,lE X hvn]
    refine Yl (w.take c++·) ?_;show [((ns.length+X.length:Nat):Int)]=[shE v X.length (ns.length:Int)]
    unfold shE;rw [N2 (by lia)]
    rfl
  ·rw [Zv,Zd]at hv
   have:v=ns.length:=by lia
   subst this;have st:=Grown.step g h1 h2 h3 h4 h5;obtain ⟨w,hw⟩:=xr (D:=d+X.length) X ok (IZ st (by lia)) (by have:=J0 st;lia)
   refine ⟨(way.take c++[(ns.length:Int)])++w,?_,?_⟩
   ·have:iq (ns++[n]) ns.length X=(ns++[n])++rQ ((ns++[n]).length-1) X:=by
     unfold iq;rw [Zv,Zd,Wr,Y4 (by simp),List.drop_of_length_le (by simp),Yh,Zc]
    rw [this];exact hw
   ·rw [List.take_left,C5 λx hx=>by have:=st.way_lt x hx;rw [Zv,Zd]at this;lia]
end
theorem CA {ts:List Nd} {v l:Nat} {X:List Nd} (hv:v<ts.length) (h:(lvs ts)[v]?=some l):∀i,i<=X.length->(lvs (iq ts v X))[v+i]?=some (l+i)
 |0,_=>by
  have e1:=lx (iq ts v X) (v+1);have e2:(iq ts v X).take (v+1)=ts.take (v+1):=by
   unfold iq;rw [Xw (by rw [Ze];lia),List.take_take,Nat.min_self]
  rw [e2,<-lx]at e1;have:((lvs (iq ts v X)).take (v+1))[v]?=((lvs ts).take (v+1))[v]?:=by rw [e1]
  rw [Yb (by lia),Yb (by lia),h]at this
  exact this
 |i+1,hi=>by
  have ih:=CA (X:=X) hv h i (by lia)
  obtain ⟨x,hx⟩:∃x,X[i]?=some x:=⟨X[i],by simp⟩
  have at1:(iq ts v X)[v+(i+1)]?=some ⟨((v+i:Nat):Int),x.l,x.t⟩:=by
   unfold iq;rw [Z9 (by rw [Ze];lia),Ze,Xu (by lia),show v+(i+1)-(v+1)=i by lia,Yz (by rw [iR];lia)]
   exact uu v X i x hx
  have e1:=uJ at1;rw [e1];refine Yl some ?_;unfold dI;rw [N2 (by show ¬((v+i:Nat):Int)=-1;lia),<-lx]
  show (((lvs (iq ts v X)).take (v+(i+1)))[((v+i:Nat):Int).toNat]?).getD 0+1=_
  rw [Zn,Yb (by lia),ih]
  show l+i+1=l+(i+1)
  lia
def sg (n v m j:Nat):Nat:=if j<=v then j else if j<=v+m then n+(j-(v+1)) else j-m
def tu (n v m k:Nat):Nat:=if k<=v then k else if k<n then k+m else k-n+(v+1)
def fQ (n v m:Nat):List Nat:=(range (n+m)).map (sg n v m)
section
variable {n v m:Nat}
theorem FT (hv:v<n) {k:Nat} (hk:k<n+m):tu n v m k<n+m:=by
 unfold tu;split
 ·lia
 ·split <;> lia
theorem vV (hv:v<n) {j:Nat} (hj:j<n+m):sg n v m j<n+m:=by
 unfold sg;split
 ·lia
 ·split <;> lia
theorem AW (hv:v<n) {k:Nat} (hk:k<n+m):sg n v m (tu n v m k)=k:=by
 unfold tu;by_cases h1:k<=v
 ·rw [N1 h1]
  unfold sg;rw [N1 h1]
 ·rw [N2 h1]
  by_cases h2:k<n
  ·rw [N1 h2]
   unfold sg;rw [N2 (by lia),N2 (by lia)]
   lia
  ·rw [N2 h2]
   unfold sg;rw [N2 (by lia),N1 (by lia)]
   lia
theorem vJ (hv:v<n) {j:Nat} (hj:j<n+m):tu n v m (sg n v m j)=j:=by
 unfold sg;by_cases h1:j<=v
 ·rw [N1 h1]
  unfold tu;rw [N1 h1]
 ·rw [N2 h1]
  by_cases h2:j<=v+m
  ·rw [N1 h2]
   unfold tu;rw [N2 (by lia),N2 (by lia)]
   lia
  ·rw [N2 h2]
   unfold tu;rw [N2 (by lia),N1 (by lia)]
   lia
theorem c8:(fQ n v m).length=n+m:=by unfold fQ;rw [Zy,Zu]
theorem ky {j:Nat} (hj:j<n+m):(fQ n v m)[j]?=some (sg n v m j):=by
 unfold fQ;rw [Zx,Z6 hj];rfl
theorem xX (hv:v<n):(fQ n v m).Nodup:=by
 unfold List.Nodup;rw [List.pairwise_iff_getElem];intro i j hi hj hij e;rw [c8]at hi hj;have a1:=ZA.mp (ky (n:=n) (v:=v) (m:=m) hi);have a2:=ZA.mp (ky (n:=n) (v:=v) (m:=m) hj);obtain ⟨_,a1⟩:=a1;obtain ⟨_,a2⟩:=a2;rw [a1,a2]at e;have:=Yl (tu n v m) e;rw [vJ hv hi,vJ hv hj]at this
 lia
theorem pY (hv:v<n) {k:Nat}:k∈fQ n v m ↔ k<n+m:=by
 constructor
 ·intro h
  unfold fQ at h;obtain ⟨j,hj,rfl⟩:=ZC.mp h;exact vV hv (Yk.mp hj)
 ·intro h
  have:=ky (v:=v) (FT (m:=m) hv h);rw [AW hv h]at this;exact Yp this
theorem kS (hv:v<n) {k:Nat} (hk:k<n+m):(fQ n v m).idxOf k=tu n v m k:=by
 have a:=FT (m:=m) hv hk;have e1:=(xX (m:=m) hv).idxOf_getElem (tu n v m k) (by rw [c8];exact a)
 obtain ⟨_,e2⟩:=ZA.mp (ky (n:=n) (v:=v) (m:=m) a);rw [AW hv hk]at e2;rw [e2]at e1;exact e1
theorem wd (hv:v<n):fQ n v m=range (v+1)++List.range' n m++List.range' (v+1) (n-(v+1)):=by
 apply Yo
 intro j;by_cases hj:j<n+m
 ·rw [ky hj]
  unfold sg;by_cases h1:j<=v
  ·rw [N1 h1,Yz (by rw [Zv,Zu];lia),Yz (by rw [Zu];lia),Z6 (by lia)]
  ·rw [N2 h1]
   by_cases h2:j<=v+m
   ·rw [N1 h2,Yz (by rw [Zv,Zu,Y7];lia),Z9 (by rw [Zu];lia),Zu,List.getElem?_range' (by lia)]
    simp
   ·rw [N2 h2,Z9 (by rw [Zv,Zu,Y7];lia),Zv,Zu,Y7,List.getElem?_range' (by lia)]
    refine Yl some ?_
    lia
 ·rw [Zb (by rw [c8];lia),Zb (by rw [Zv,Zv,Zu,Y7,Y7];lia)]
end
def hgR (n:Nat) (x:Nd):Nd:=⟨x.e+(n:Int),x.l,x.t⟩
def hgP (ts:List Nd) (v:Nat) (x:Nd) (xs:List Nd):List Nd:=ts++(⟨(v:Int),x.l,x.t⟩ :: xs.map (hgR ts.length))
def Pth (X:List Nd):Prop:=∀(i:Nat) (n:Nd),X[i]?=some n->n.e=(i:Int)-1
section
variable {ts:List Nd} {v:Nat} {x:Nd} {xs:List Nd}
theorem gV:(hgP ts v x xs).length=ts.length+(xs.length+1):=by
 unfold hgP;rw [Zv,Zp,Zy]
theorem ph {k:Nat} (hk:k<ts.length):(hgP ts v x xs)[k]?=ts[k]?:=by
 unfold hgP;rw [Yz hk]
theorem uj (hp:Pth (x :: xs)) {i:Nat} {y:Nd} (hy:(x :: xs)[i]?=some y):(hgP ts v x xs)[ts.length+i]?=some ⟨if i=0 then (v:Int) else ((ts.length+i-1:Nat):Int),y.l,y.t⟩:=by
 unfold hgP;rw [Z9 (by lia),show ts.length+i-ts.length=i by lia]
 cases i with
 |zero =>
  cases hy;rfl
 |succ i =>
  have hy':xs[i]?=some y:=hy;show (xs.map (hgR ts.length))[i]?=_
  rw [Zx,hy'];have e:=hp (i+1) y hy;show some (hgR ts.length y)=_
  unfold hgR;rw [N2 (by lia),e]
  congr 2
  lia
theorem tY (he:EL ts) (hv:v<ts.length) (hp:Pth (x :: xs)):EL (hgP ts v x xs):=λk n hn=>by
 by_cases hk:k<ts.length
 ·rw [ph hk]at hn
  exact he k n hn
 ·have hkl:=(ZA.mp hn).1
  rw [gV]at hkl;obtain ⟨y,hy⟩:∃y,(x :: xs)[k-ts.length]?=some y:=⟨(x :: xs)[k-ts.length]'(by rw [Zp];lia),by simp⟩
  have:=uj (ts:=ts) (v:=v) hp hy;rw [show ts.length+(k-ts.length)=k by lia,hn]at this
  have e:=Yv this;subst e;refine ⟨λz=>by lia,λ_=>?_,?_⟩
  ·show 0<=(if k-ts.length=0 then (v:Int) else ((k-1:Nat):Int))
   split <;> lia
  ·show (if k-ts.length=0 then (v:Int) else ((k-1:Nat):Int))<(k:Int)
   split <;> lia
theorem oJ {k:Nat} (hk:k<ts.length):eOf (hgP ts v x xs) k=eOf ts k:=by
 unfold eOf;rw [ph hk]
theorem zg (hp:Pth (x :: xs)) {i:Nat} (hi:i<xs.length+1):eOf (hgP ts v x xs) (ts.length+i)=if i=0 then (v:Int) else ((ts.length+i-1:Nat):Int):=by
 obtain ⟨y,hy⟩:∃y,(x :: xs)[i]?=some y:=⟨(x :: xs)[i]'(by rw [Zp];lia),by simp⟩
 exact d9 (uj hp hy)
theorem vp (he:EL ts) (hv:v<ts.length) (hp:Pth (x :: xs)):bZ (hgP ts v x xs) (fQ ts.length v (xs.length+1))=ai (iq ts v (x :: xs)):=by
 unfold bZ ai;apply Yo
 intro j;rw [Zx,Zx];by_cases hj:j<ts.length+(xs.length+1)
 ·rw [ky hj]
  have hl:=lE (x :: xs) hv;rw [Zp]at hl;show some (gj (hgP ts v x xs) (fQ ts.length v (xs.length+1)) (sg ts.length v (xs.length+1) j))=_
  unfold iq;by_cases h1:j<=v
  ·have e1:sg ts.length v (xs.length+1) j=j:=by unfold sg;rw [N1 h1]
   rw [e1,Yz (by rw [Ze];lia),Yb (by lia),gy (show j<ts.length by lia)]
   refine Yl some ?_;unfold gj ndD;have e2:cS (hgP ts v x xs) j=cS ts j:=by unfold cS;rw [ph (by lia)]
   rw [e2,iD (by lia),oJ (by lia)]
   rcases elt he (show j<ts.length by lia) with ⟨z,_⟩ | ⟨q,z,hq⟩
   ·rw [z,N1 (by lia)]
   ·rw [z,N2 (by lia),Zn,kS hv (by lia)]
    unfold tu;rw [N1 (by lia)]
  ·by_cases h2:j<=v+(xs.length+1)
   ·obtain ⟨i,hi⟩:∃i,j=v+1+i:=⟨j-(v+1),by lia⟩
    subst hi;have e1:sg ts.length v (xs.length+1) (v+1+i)=ts.length+i:=by
     unfold sg;rw [N2 h1,N1 h2]
     lia
    obtain ⟨y,hy⟩:∃y,(x :: xs)[i]?=some y:=⟨(x :: xs)[i]'(by rw [Zp];lia),by simp⟩
    rw [e1,Z9 (by rw [Ze];lia),Ze,Xu (by lia),show v+1+i-(v+1)=i by lia,Yz (by rw [iR,Zp];lia),uu v (x :: xs) i y hy]
    refine Yl some ?_;have nw:=uj (ts:=ts) (v:=v) hp hy;unfold gj ndD;have e2:cS (hgP ts v x xs) (ts.length+i)=⟨if i=0 then (v:Int) else ((ts.length+i-1:Nat):Int),y.l,y.t⟩:=by unfold cS;rw [nw];rfl
    rw [e2,d9 nw];have e3:(if (if i=0 then (v:Int) else ((ts.length+i-1:Nat):Int))<0 then (-1:Int) else (((fQ ts.length v (xs.length+1)).idxOf (if i=0 then (v:Int) else ((ts.length+i-1:Nat):Int)).toNat:Nat):Int))=((v+i:Nat):Int):=by
     by_cases z:i=0
     ·subst z
      rw [N1 rfl,N2 (by lia),Zn,kS hv (by lia)]
      unfold tu;rw [N1 (Zi _)];rfl
     ·rw [N2 z,N2 (by lia),Zn,kS hv (by lia)]
      unfold tu;rw [N2 (by lia),N2 (by lia)]
      congr 1
      lia
    show PyData.tuple [.int (if (if i=0 then (v:Int) else ((ts.length+i-1:Nat):Int))<0 then (-1:Int) else (((fQ ts.length v (xs.length+1)).idxOf (if i=0 then (v:Int) else ((ts.length+i-1:Nat):Int)).toNat:Nat):Int)),_,_]=_
    rw [e3]
   ·obtain ⟨q,hq⟩:∃q,j=v+1+(xs.length+1)+q:=⟨j-(v+1+(xs.length+1)),by lia⟩
    subst hq;have e1:sg ts.length v (xs.length+1) (v+1+(xs.length+1)+q)=v+1+q:=by
     unfold sg;rw [N2 h1,N2 h2]
     lia
    have hq:v+1+q<ts.length:=by lia
    rw [e1,Z9 (by rw [Ze];lia),Ze,Xu (by lia),Z9 (by rw [iR,Zp];lia),iR,Zp,show v+1+(xs.length+1)+q-(v+1)-(xs.length+1)=q by lia,Zx,W7,gy hq]
    refine Yl some ?_;unfold gj ndD shN shE;have e2:cS (hgP ts v x xs) (v+1+q)=cS ts (v+1+q):=by unfold cS;rw [ph hq]
    rw [e2,iD hq,oJ hq];rcases elt he hq with ⟨z,_⟩ | ⟨r,z,hr⟩
    ·lia
    ·rw [z,N2 (by lia),Zn,kS hv (by lia)]
     unfold tu;by_cases h3:r<=v
     ·rw [N1 h3,N1 (by lia)]
     ·rw [N2 h3,N1 (by lia),N2 (by lia)]
      rfl
 ·rw [Zb (by rw [c8];lia),Zb (by rw [lE _ hv,Zp];lia)]
  rfl
end
theorem F9 (d:Gc) (ds:List Gc):cutD (d :: ds) (some 1) none=ds:=by
 exact BW (d :: ds) 1 (by rw [Zp];lia)
section
variable {deep:Nat} {ts:List Nd} {way:List Int} {v:Nat}
theorem uV (he:EL ts) (hc:chN ts v=[]):((ts.drop (v+1)).takeWhile (inB v)).length=0:=by
 cases hd:ts.drop (v+1) with
 |nil=>rfl
 |cons n r =>
  have h1:ts[v+1]?=some n:=by
   have:=Yl (λL=>L[0]?) hd
   simp only [W7,List.getElem?_cons_zero,Nat.add_zero]at this;exact this
  have h2:=he (v+1) n h1;have hl:=(ZA.mp h1).1;have h3:n.e≠(v:Int):=λz=>by
   have:v+1∈chN ts v:=iI.mpr ⟨hl,by rw [d9 h1];exact z⟩
   rw [hc]at this;cases this
  rw [List.takeWhile_cons_of_neg]
  ·rfl
  ·unfold inB
   rw [Zk]
   lia
theorem By (g:Grown deep ts way) (hl:ts.length<=40) (hv:v<ts.length):bj [.list (ai ts),.int (v:Int),.list (nD (chN ts v)),.int 0]=.ok (.sh (.int ((v+1:Nat):Int))):=by
 unfold bj dA;have en:=uv ts v hv;have el:(nD (chN ts v)).length=(chN ts v).length:=aY _;have cl:=oo ts v;have lb:((chN ts v).length<=BIG)=True:=az (by lia)
 have d1:decide (((chN ts v).length:Int)<0)=false:=Zq (by lia)
 rcases u6 g (v:=v) with h | ⟨r,h⟩
 ·have d2:decide ((0:Int)<((chN ts v).length:Int))=false:=by rw [h];rfl
  rw [uV g.elder h,Nat.add_zero]at en;push_cast only [el,lb,d1,d2,en]
 ·have d2:decide ((0:Int)<((chN ts v).length:Int))=true:=Za (by rw [h,Zp];lia)
  have a0:atI (nD (chN ts v)) 0=some (.int ((v+1:Nat):Int)):=bt (j:=0) (kN (rs:=chN ts v) (i:=0) (by rw [h];rfl))
  push_cast only [el,lb,d1,d2,a0]
theorem Du (g:Grown deep ts way) (hl:ts.length<=40) (hv:v<ts.length):cN [.list (ai ts),.int (v:Int),.list (nD (chN ts v)),.int 0]=.ok (.sh (.int ((v+1:Nat):Int))):=by
 unfold cN fg;have en:=uv ts v hv;have el:(nD (chN ts v)).length=(chN ts v).length:=aY _;have cl:=oo ts v;have lb:((chN ts v).length<=BIG)=True:=az (by lia)
 have d1:decide (((chN ts v).length:Int)<0)=false:=Zq (by lia)
 rcases u6 g (v:=v) with h | ⟨r,h⟩
 ·have d2:decide ((0:Int)<((chN ts v).length:Int))=false:=by rw [h];rfl
  rw [uV g.elder h,Nat.add_zero]at en;push_cast only [el,lb,d1,d2,en]
 ·have d2:decide ((0:Int)<((chN ts v).length:Int))=true:=Za (by rw [h,Zp];lia)
  have a0:atI (nD (chN ts v)) 0=some (.int ((v+1:Nat):Int)):=bt (j:=0) (kN (rs:=chN ts v) (i:=0) (by rw [h];rfl))
  push_cast only [el,lb,d1,d2,a0]
theorem Lu (n v m:Nat) (hn:n<=100) (hm:m<=100) (hv:v<n):nD (range (v+1))++nD (List.range' n m)++nD (List.range' (v+1) (n-(v+1)))=nD (fQ n v m):=by
 rw [wd hv];unfold nD iL;rw [Zh,Zh,Zh,Zh]
theorem lr2 (i j:Nat) (hi:i<=1000) (hj:j<=1000):kM [.int (i:Int),.int (j:Int)]=.ok (.ol (nO (List.range' i (j-i)))):=by
 rw [I0 (by lia),Zn,show ((j:Int)-(i:Int)).toNat=j-i by lia]
 rfl
theorem yP (ts:List Nd) (v:Nat) (x:Nd):ai ts++[PyData.tuple [.int (v:Int),.str x.l,.int x.t]]=ai (hgP ts v x []):=by
 unfold hgP ai;rw [Zh];rfl
theorem u4 {ts:List Nd} {v:Nat} {x y:Nd} {xs:List Nd} {i:Nat} (h:xs[i]?=some y):(ai (hgP ts v x (xs.take i))).map OD.sh++[OD.sh (.tuple [.int (y.e+(ts.length:Int)),.str y.l,.int y.t])]=(ai (hgP ts v x (xs.take (i+1)))).map OD.sh:=by
 rw [take_snoc h];unfold hgP ai;simp only [Zh,Zw,Yq,Y6];rfl
theorem EZ (g:Grown deep ts way) (hl:ts.length<=40) (hv:v<ts.length) {x:Nd} {xs:List Nd} (hx:xs.length<=50) {r:R OD} (hb:cY [.list (ai (hgP ts v x xs)),.list (nD (fQ ts.length v (xs.length+1)))]=r) (hr:r=.ex "NoTree"):c_ [.list (ai ts),.int (v:Int),.int 0,.list (ai (x :: xs))]=r:=by
 unfold c_ iU;have e:=eF hl (v:Int);rw [N1 (by lia)]at e
 have ch:=eD ts v hv (by lia)
 have en:(nO (chN ts v)).map OD.er=nD (chN ts v):=cJ _;have bh:=By g hl hv;have o0':atI (ai (x :: xs)) 0=some (ndD x):=bt (j:=0) rfl;have ct:cutD (ai (x :: xs)) (some 1) none=ai xs:=F9 _ _;have lb1:((ai ts).length+1<=BIG)=True:=az (by rw [ay];lia)
 have q0:=yP ts v x;have lt:(ts.length<=BIG)=True:=az (by lia)
 push_cast only [e,ch,en,bh,o0',ndD,lb1,ct,q0,aX];generalize hL:bw _ _ _ _=r'
 refine eM hL (λi ρ=>∃v6:Option OD,ρ=[some (.sh (.list (ai ts))),some (.sh (.int (v:Int))),some (.sh (.int 0)),some (.sh (.list (ai (x :: xs)))),some (.sh (.int ((v+1:Nat):Int))),some (.ol ((ai (hgP ts v x (xs.take i))).map OD.sh)),v6,none]) ⟨none,rfl⟩ ?_ ?_
 ·rintro i d ρ hd ⟨v6,rfl⟩
  unfold ai at hd;rw [Zx]at hd;obtain ⟨y,hy,rfl⟩:=ZB.mp hd;have hi:=(ZA.mp hy).1;have sn:=u4 (ts:=ts) (v:=v) (x:=x) hy;have lb2:((hgP ts v x (xs.take i)).length<BIG)=True:=by rw [gV,Ze];exact ik (by lia)
  push_cast only [ndD,ay,lt,lb2,sn];exact ⟨_,rfl⟩
 ·rintro ρ' rfl ⟨v6,rfl⟩
  rw [ay,Wj];have l5:(hgP ts v x xs).length=ts.length+(xs.length+1):=gV;have lb5:(ts.length+(xs.length+1)<=BIG)=True:=az (by lia)
  have r1:=lr2 ts.length (ts.length+(xs.length+1)) (by lia) (by lia)
  rw [show ts.length+(xs.length+1)-ts.length=xs.length+1 by lia]at r1
  have r2:=lr2 (v+1) ts.length (by lia) (by lia)
  have r3:l9 [.int ((v+1:Nat):Int)]=.ok (.ol (nO (range (v+1)))):=AQ _ (by lia)
  have r4:=Lu ts.length v (xs.length+1) (by lia) (by lia) hv
  have lb6:((nD (range (v+1))).length+(nD (List.range' ts.length (xs.length+1))).length<=BIG)=True:=az (by rw [aY,aY,Zu,Y7];lia)
  have lb7:((nD (range (v+1))++nD (List.range' ts.length (xs.length+1))).length+(nD (List.range' (v+1) (ts.length-(v+1)))).length<=BIG)=True:=az (by rw [Zv,aY,aY,aY,Zu,Y7,Y7];lia)
  subst hr;push_cast only [aX,ay,l5,lt,lb5,r1,r2,r3,cJ,lb6,lb7,r4,hb,cg,bV]
theorem yR (g:Grown deep ts way) (hl:ts.length<=40) (hv:v<ts.length) {x:Nd} {xs:List Nd} (hx:xs.length<=50) {r:R OD} (hb:fj [.list (ai (hgP ts v x xs)),.list (nD (fQ ts.length v (xs.length+1)))]=r) {y:OD} (hr:r=.ok y):gu [.list (ai ts),.int (v:Int),.int 0,.list (ai (x :: xs))]=r:=by
 unfold gu nX;have e:=qG (ai ts) v (by rw [ay];exact hv)
 have ch:=eD ts v hv (by lia)
 have en:(nO (chN ts v)).map OD.er=nD (chN ts v):=cJ _;have bh:=Du g hl hv;have o0':atI (ai (x :: xs)) 0=some (ndD x):=bt (j:=0) rfl;have ct:cutD (ai (x :: xs)) (some 1) none=ai xs:=F9 _ _;have lb1:((ai ts).length+1<=BIG)=True:=az (by rw [ay];lia)
 have q0:=yP ts v x;have lt:(ts.length<=BIG)=True:=az (by lia)
 push_cast only [e,ch,en,bh,o0',ndD,lb1,ct,q0,aX];generalize hL:bw _ _ _ _=r'
 refine eM hL (λi ρ=>∃v6:Option OD,ρ=[some (.sh (.list (ai ts))),some (.sh (.int (v:Int))),some (.sh (.int 0)),some (.sh (.list (ai (x :: xs)))),some (.sh (.int ((v+1:Nat):Int))),some (.ol ((ai (hgP ts v x (xs.take i))).map OD.sh)),v6,none]) ⟨none,rfl⟩ ?_ ?_
 ·rintro i d ρ hd ⟨v6,rfl⟩
  unfold ai at hd;rw [Zx]at hd;obtain ⟨y,hy,rfl⟩:=ZB.mp hd;have hi:=(ZA.mp hy).1;have sn:=u4 (ts:=ts) (v:=v) (x:=x) hy;have lb2:((hgP ts v x (xs.take i)).length<BIG)=True:=by rw [gV,Ze];exact ik (by lia)
  push_cast only [ndD,ay,lt,lb2,sn];exact ⟨_,rfl⟩
 ·rintro ρ' rfl ⟨v6,rfl⟩
  rw [ay,Wj];have l5:(hgP ts v x xs).length=ts.length+(xs.length+1):=gV;have lb5:(ts.length+(xs.length+1)<=BIG)=True:=az (by lia)
  have r1:=lr2 ts.length (ts.length+(xs.length+1)) (by lia) (by lia)
  rw [show ts.length+(xs.length+1)-ts.length=xs.length+1 by lia]at r1
  have r2:=lr2 (v+1) ts.length (by lia) (by lia)
  have r3:l9 [.int ((v+1:Nat):Int)]=.ok (.ol (nO (range (v+1)))):=AQ _ (by lia)
  have r4:=Lu ts.length v (xs.length+1) (by lia) (by lia) hv
  have lb6:((nD (range (v+1))).length+(nD (List.range' ts.length (xs.length+1))).length<=BIG)=True:=az (by rw [aY,aY,Zu,Y7];lia)
  have lb7:((nD (range (v+1))++nD (List.range' ts.length (xs.length+1))).length+(nD (List.range' (v+1) (ts.length-(v+1)))).length<=BIG)=True:=az (by rw [Zv,aY,aY,aY,Zu,Y7,Y7];lia)
  subst hr;push_cast only [aX,ay,l5,lt,lb5,r1,r2,r3,cJ,lb6,lb7,r4,hb]
end
theorem CP {L:List Nat} (h:L≠[]):∃m:Nat,rj [.list (pM L)]=.ok (.sh (.int (m:Int)))/\m∈L/\∀l∈L,l<=m:=by
 cases L with
 |nil=>exact absurd rfl h
 |cons a as =>
  obtain ⟨m1,m2⟩:=nT (as.map λk:Nat=>(k:Int)) (a:Int)
  have m1':um (a:Int) (as.map λk:Nat=>(k:Int))∈(a :: as).map λk:Nat=>(k:Int):=m1
  obtain ⟨m,hm,e⟩:=ZC.mp m1';refine ⟨m,?_,hm,λl hl=>?_⟩
  ·rw [e]
   have:=Ih (a:Int) (as.map λk:Nat=>(k:Int))
   rw [Yu]at this;exact this
  ·have:(l:Int)∈(a :: as).map λk:Nat=>(k:Int):=ZC.mpr ⟨l,hl,rfl⟩
   have:=m2 _ this
   lia
section
variable {us ts2:List Nd} {R:List Nat}
theorem yA (h:40<R.length) (h2:R.length<=1000):cY [.list (ai us),.list (nD R)]=.ex "NoTree" := by
 unfold cY kH;have lb:(R.length<=BIG)=True:=az (by lia)
 have d:decide ((40:Int)<(R.length:Int))=true:=Za (by lia)
 push_cast only [aY,lb,d,eK,cg,bV]
theorem Er (h:R.length<=40) (rn:aR [.list (ai us),.list (nD R)]=.ok (.ol ((ai ts2).map OD.sh))) (he:EL ts2) (hl:ts2.length<=40) {l:Nat} (hm:l∈lvs ts2) (h8:8<l):cY [.list (ai us),.list (nD R)]=.ex "NoTree" := by
 unfold cY kH;have lb:(R.length<=BIG)=True:=az (by lia)
 have d:decide ((40:Int)<(R.length:Int))=false:=Zq (by lia)
 have nl:=k_ ts2 he (by lia)
 obtain ⟨m,e1,e2,e3⟩:=CP (L:=lvs ts2) (λz=>by rw [z]at hm;cases hm)
 have d2:decide ((8:Int)<(m:Int))=true:=Za (by have:=e3 l hm;lia)
 push_cast only [aY,lb,d,rn,aX,nl,e1,d2,eK,cg,bV]
theorem M4 (h:R.length<=40) (rn:aR [.list (ai us),.list (nD R)]=.ok (.ol ((ai ts2).map OD.sh))) (he:EL ts2) (hl:ts2.length<=40) (h0:0<ts2.length) (h8:∀l∈lvs ts2,l<=8):fj [.list (ai us),.list (nD R)]=.ok (.sh (.tuple [.list (ai ts2),.list (nD R)])):=by
 unfold fj mK;have lb:(R.length<=BIG)=True:=az (by lia)
 have d:decide ((40:Int)<(R.length:Int))=false:=Zq (by lia)
 have nl:=k_ ts2 he (by lia)
 obtain ⟨m,e1,e2,e3⟩:=CP (L:=lvs ts2) (λz=>by have:=dE ts2;rw [z]at this;simp at this;lia)
 have d2:decide ((8:Int)<(m:Int))=false:=Zq (by have:=h8 m e2;lia)
 push_cast only [aY,lb,d,rn,aX,nl,e1,d2]
end
section
variable {deep:Nat} {ts:List Nd} {way:List Int} {v:Nat} {x:Nd} {xs:List Nd}
theorem xB (he:EL ts) (hl:ts.length+(xs.length+1)<=100) (hv:v<ts.length) (hp:Pth (x :: xs)):aR [.list (ai (hgP ts v x xs)),.list (nD (fQ ts.length v (xs.length+1)))]=.ok (.ol ((ai (iq ts v (x :: xs))).map OD.sh)):=by
 have hE:=tY (xs:=xs) (x:=x) he hv hp;rw [<-vp he hv hp];refine B6 _ hE _ (xX hv) (by rw [c8];exact hl) λk hk=>?_
 have h1:=(pY hv).mp hk;refine ⟨by rw [gV];exact h1,λh0=>(pY hv).mpr ?_⟩
 rcases elt hE (show k<(hgP ts v x xs).length by rw [gV];exact h1) with ⟨z,_⟩ | ⟨j,z,hj⟩
 ·lia
 ·rw [z,Zn]
  lia
theorem yW {m:Nat} (hm:m<=9):Pth (cO m 8):=λi n h=>by
 unfold cO at h;rw [Zx]at h;obtain ⟨j,hj,rfl⟩:=ZB.mp h;obtain ⟨h1,h2⟩:=ZA.mp hj;have e:i=j:=by rw [W8]at h2;exact h2
 subst e;rw [Zu]at h1;show (if (8:Int)<(i:Int) then (8:Int) else (i:Int))-1=(i:Int)-1
 rw [N2 (by lia)]
theorem z7 (m:Nat) (l:Int):(cO m l).length=m:=by unfold cO;rw [Zy,Zu]
theorem zk (m:Nat) (l:Int):∀x∈cO m l,zG x:=λx hx=>by
 unfold cO at hx;obtain ⟨i,_,rfl⟩:=ZC.mp hx;have:=de (i:Int) (show (0:Int)<9 by decide)
 have ab:Bu ("ab" : Str):=⟨by decide +kernel,by decide +kernel,by decide +kernel⟩
 refine ⟨ab,?_,?_⟩
 ·show 1<=1+(i:Int) % 9
  lia
 ·show 1+(i:Int) % 9<=9
  lia
theorem vA {g:Int} {fl:Nat->Bool} {an:Gc} (gr:Grown deep ts way) (hl:ts.length<=12) (hv:v<ts.length) {m:Nat} (h1:1<=m) (h2:m<=40) (h:40<ts.length+m\/m<=9/\∃l,(lvs ts)[v]?=some l/\8<l+m):aj [esD ts g fl an,.tuple [.str "put",.int (v:Int),.int 0,.list (ai (cO m 8))],.int 4]=.ok (.sh (.bool true)):=by
 refine MO (wU (xp ?_));have cl:=z7 m 8;have ck:=zk m 8;have cp:=λh9:m<=9=>yW h9
 cases hc:cO m 8 with
 |nil=>rw [hc]at cl;simp at cl;lia
 |cons x xs =>
  rw [hc,Zp]at cl;rw [hc]at ck cp;refine EZ gr (by lia) hv (by lia) ?_ rfl
  rcases h with h | ⟨h9,l,e1,e2⟩
  ·exact yA (by rw [c8];lia) (by rw [c8];lia)
  ·by_cases h40:40<ts.length+m
   ·exact yA (by rw [c8];lia) (by rw [c8];lia)
   ·have il:=lE (x :: xs) hv
    rw [Zp]at il;obtain ⟨w,gw,_⟩:=oM ck gr v hv;have lv:=CA (X:=x :: xs) hv e1 m (by rw [Zp];lia)
    exact Er (by rw [c8];lia) (xB gr.elder (by lia) hv (cp h9)) gw.elder (by lia) (Yp lv) e2
theorem Eu (he:EL ts) (h0:0<ts.length):(lvs ts)[0]?=some 0:=by
 rw [uJ (gy h0)];unfold dI;rw [N1 ((he 0 _ (gy h0)).1 rfl)]
theorem Es {k j:Nat} (hk:k<ts.length) (h:eOf ts k=(j:Int)) (hj:j<k) {l:Nat} (hl:(lvs ts)[k]?=some l):∃q,l=q+1/\(lvs ts)[j]?=some q:=by
 obtain ⟨q,hq⟩:∃q,(lvs ts)[j]?=some q:=⟨(lvs ts)[j]'(by rw [dE];lia),by simp⟩
 refine ⟨q,?_,hq⟩;rw [uJ (gy hk)]at hl;have e:=Yv hl;unfold dI at e;rw [iD hk,h,N2 (by lia),Zn,<-lx,Yb hj,hq]at e
 exact e.symm
theorem rb {g:Int} {fl:Nat->Bool} {an:Gc} (gr:Grown 7 ts way) (hl:ts.length<=12) {z:Int} (hz:0<=z):bU [esD ts g fl an,.list (ai ts),.int z]=.ok (.sh (.bool true)):=by
 unfold bU dN;have h0:=gr.pos.1;have he:EL ts:=gr.elder;have lb:(ts.length<=BIG)=True:=az (by lia)
 have p0:(0:Int)<(ts.length:Int):=by lia
 have pp:(0<(ts.length:Int)/\(ts.length:Int)<1073741824)=True:=eq_true ⟨by lia,by lia⟩
 have r:=de z p0;obtain ⟨a,ha⟩:∃a:Nat,z % (ts.length:Int)=(a:Int):=⟨_,(Wv r.1).symm⟩;have hal:a<ts.length:=by lia
 obtain ⟨L,hL⟩:∃L,(lvs ts)[a]?=some L:=⟨(lvs ts)[a]'(by rw [dE];lia),by simp⟩
 have L7:=(L5 gr).2 L (Yp hL);have ch:aT [.int 40,.int 8]=.ok (.ol ((ai (cO 40 8)).map OD.sh)):=nN 40 (by decide) 8
 have q1:aj [esD ts g fl an,.tuple [.str "put",.int (a:Int),.int 0,.list (ai (cO 40 8))],.int 4]=.ok (.sh (.bool true)):=vA gr hl hal (by decide) (by decide) (.inl (by lia))
 have q2:aj [esD ts g fl an,.tuple [.str "put",.int (a:Int),.int 0,.list (ai (cO (9-L) 8))],.int 4]=.ok (.sh (.bool true)):=vA gr hl hal (by lia) (by lia) (.inr ⟨by lia,L,hL,by lia⟩)
 have ch2:aT [.int ((9-L:Nat):Int),.int 8]=.ok (.ol ((ai (cO (9-L) 8)).map OD.sh)):=nN (9-L) (by lia) 8
 generalize esD ts g fl an=es at *
 push_cast only [ay,lb,p0,pp,ha,ch,aX,q1];generalize hW:dM _ _ _=r'
 refine pk hW (λm ρ=>∃(q l k:Nat),m=q/\q<ts.length/\(lvs ts)[q]?=some l/\k+l=L/\ρ=[some (.sh es),some (.sh (.list (ai ts))),some (.sh (.int z)),some (.sh (.int (a:Int))),some (.sh (.int (k:Int))),some (.sh (.int (q:Int)))]) a ⟨a,L,0,rfl,hal,hL,by lia,rfl⟩
  (fun ρ=>∃v5:Option OD,ρ=[some (.sh es),some (.sh (.list (ai ts))),some (.sh (.int z)),some (.sh (.int (a:Int))),some (.sh (.int (L:Int))),v5]) ?_ ?_
 ·rintro m ρ ⟨q,l,k,rfl,hq,hl,hk,rfl⟩
  by_cases hq0:m=0
  ·left
   subst hq0;rw [Eu he h0]at hl;cases hl;constructor
   ·push_cast only [Yw]
   ·exact ⟨_,by rw [<-hk,Nat.add_zero]⟩
  ·right
   have d:decide ((0:Int)<(m:Int))=true:=Za (by lia)
   rcases elt he hq with ⟨_,z⟩ | ⟨j,ej,hj⟩
   ·exact absurd z hq0
   ·obtain ⟨l',e1,e2⟩:=Es hq ej hj hl
    have g1:=lF (gy hq);have e0:=iD hq;constructor
    ·push_cast only [d]
    ·push_cast only [g1,e0,ej]
     refine ⟨j,hj,j,l',k+1,rfl,by lia,e2,by lia,?_⟩
     rw [Int.natCast_add,Int.natCast_one]
 ·rintro ρ' rfl ⟨v5,rfl⟩
  have e9:(9:Int)-(L:Int)=((9-L:Nat):Int):=by lia
  push_cast only [e9,ch2,aX,q2]
end
namespace F
theorem xm (h:Nat->Nat):∀f:F,roots (map h f)=(roots f).map h
 |nil=>rfl
 |cons k c r=>by rw [map,roots,roots,xm h r,Zw]
theorem HD {ch ch2:Nat->List Nat} {h:Nat->Nat}:∀f:F,Con ch f->(∀k∈pre f,ch2 (h k)=(ch k).map h)->Con ch2 (map h f)
 |nil,_,_=>trivial
 |cons k c r,hc,hk=>by
  obtain ⟨h1,h2,h3⟩:=hc;rw [pre]at hk;refine ⟨?_,HD c h2 λq hq=>hk q (Zs _ (Zm _ hq)),HD r h3 λq hq=>hk q (Zs _ (Zt _ hq))⟩
  rw [hk k Zz,h1,xm]
theorem prM {fl:Nat->Bool} {h:Nat->Nat}:∀f:F,pr fl (map h f)=map h (pr (λk=>fl (h k)) f)
 |nil=>rfl
 |cons k c r=>by
  rw [map,pr,pr,map,prM r];by_cases z:fl (h k)=true
  ·rw [N1 z,N1 z]
   rfl
  ·rw [N2 z,N2 z,prM c]
end F
theorem Ga {h:Nat->Nat}:∀S:List Nat,(∀a∈S,h a=h j->a=j)->(S.map h).idxOf (h j)=S.idxOf j
 |[],_=>rfl
 |a :: S,hi=>by
  rw [Zw,Vv,Vv];by_cases z:a=j
  ·subst z
   simp
  ·have z2:(h a == h j)=false:=beq_eq_false_iff_ne.mpr λe=>z (hi a Zz e)
   have z3:(a == j)=false:=beq_eq_false_iff_ne.mpr z;rw [z2,z3];show _+1=_+1
   rw [Ga S λb hb=>hi b (Zs _ hb)]
structure Nm (us ts:List Nd) (ch:Nat->List Nat) (h:Nat->Nat):Prop where
 len:us.length=ts.length
 eu:EL us
 et:EL ts
 inj:∀i j,i<ts.length->j<ts.length->h i=h j->i=j
 lt:∀i,i<ts.length->h i<ts.length
 root:h 0=0
 kid:∀i,i<ts.length->ch (h i)=(chN ts i).map h
 mem:∀q,q<us.length->∀k,k∈ch q ↔ k∈chN us q
 lab:∀i,i<ts.length->(cS us (h i)).l=(cS ts i).l/\(cS us (h i)).t=(cS ts i).t
 rt:∀i,i<ts.length->eOf ts i=-1->eOf us (h i)=-1
 eld:∀i (j:Nat),i<ts.length->eOf ts i=(j:Int)->eOf us (h i)=(h j:Int)
section
variable {us ts:List Nd} {ch:Nat->List Nat} {h:Nat->Nat}
theorem Nm.rows (nm:Nm us ts ch h) {S:List Nat} (hS:∀i∈S,i<ts.length/\(0<=eOf ts i->(eOf ts i).toNat∈S)):bZ us (S.map h)=bZ ts S:=by
 unfold bZ;rw [Yu];refine Xy λi hi=>?_
 obtain ⟨h1,h2⟩:=hS i hi;show gj us (S.map h) (h i)=gj ts S i
 unfold gj;rw [(nm.lab i h1).1,(nm.lab i h1).2];rcases elt nm.et h1 with ⟨z,_⟩ | ⟨j,z,hj⟩
 ·rw [nm.rt i h1 z,z]
  rfl
 ·have hj2:=h2 (by lia)
  rw [z,Zn]at hj2;rw [nm.eld i j h1 z,z,N2 (by lia),N2 (by lia),Zn,Zn,Ga S λa ha e=>nm.inj a j (hS a ha).1 (by lia) e]
theorem Nm.cl (nm:Nm us ts ch h) {S:List Nat} (hS:∀i∈S,i<ts.length/\(0<=eOf ts i->(eOf ts i).toNat∈S)):∀k∈S.map h,k<us.length/\(0<=eOf us k->(eOf us k).toNat∈S.map h):=λk hk=>by
 obtain ⟨i,hi,rfl⟩:=ZC.mp hk;obtain ⟨h1,h2⟩:=hS i hi;refine ⟨by rw [nm.len];exact nm.lt i h1,λh0=>?_⟩
 rcases elt nm.et h1 with ⟨z,_⟩ | ⟨j,z,hj⟩
 ·rw [nm.rt i h1 z]at h0
  lia
 ·have hj2:=h2 (by lia)
  rw [z,Zn]at hj2;rw [nm.eld i j h1 z,Zn];exact ZC.mpr ⟨j,hj2,rfl⟩
theorem Cv (he:EL ts):∀i∈range ts.length,i<ts.length/\(0<=eOf ts i->(eOf ts i).toNat∈range ts.length):=λk hk=>⟨Yk.mp hk,λh0=>by
 rcases elt he (Yk.mp hk) with ⟨z,_⟩ | ⟨j,z,hj⟩
 ·lia
 ·rw [z,Zn,Yk]
  have:=Yk.mp hk
  lia⟩
theorem Nm.order (nm:Nm us ts ch h) {c:F} (p:PT ts c) (hl:ts.length<=40) (fl:Nat->Bool) (b:Bool):b5 [stD us ch fl,.bool b]=.ok (.ol (nO ((if b=true then range ts.length else seen ts λi=>fl (h i)).map h))):=by
 have con:F.Con ch (F.map h (F.full c)):=F.HD (ch:=chN ts) _ p.con λk hk=>by
  rw [p.preF,Yk]at hk;exact nm.kid k hk
 have o:=C6 us ch (F.map h (F.full c)) con (by rw [F.xm];show [h 0]=[0];rw [nm.root]) (λk hk=>by
  rw [F.m8,p.preF]at hk;obtain ⟨i,hi,rfl⟩:=ZC.mp hk;rw [nm.len];exact nm.lt i (Yk.mp hi)) (by rw [F.m8,Zy,p.preF,Zu];lia) fl b
 rw [o];unfold iV;rw [F.prM,F.m8];cases b with
 |true =>
  have:=zP ts c p λi=>fl (h i)
  unfold iV at this;rw [this];rfl
 |false =>
  have:=Bs ts c p nm.et λi=>fl (h i)
  unfold iV at this;rw [this];rfl
end
theorem rz {ts:List Nd} (he:EL ts):ai ts=bZ ts (range ts.length):=by
 unfold ai bZ;apply Yo
 intro i;rw [Zx,Zx];by_cases hi:i<ts.length
 ·rw [Z6 hi,gy hi]
  show some _=some _
  refine Yl some ?_;unfold ndD gj;rw [iD hi];rcases elt he hi with ⟨z,_⟩ | ⟨j,z,hj⟩
  ·rw [z,N1 (by lia)]
  ·rw [z,N2 (by lia),Zn]
   have hj':j<(range ts.length).length:=by rw [Zu];lia
   have e1:=Wi (n:=ts.length) |>.idxOf_getElem j hj'
   rw [W8]at e1;rw [e1]
 ·rw [Zb (by lia),Zb (by rw [Zu];lia)]
  rfl
theorem E8 {ts:List Nd} (he:EL ts):Nm ts ts (chN ts) (λi=>i) :=
 ⟨rfl,he,he,λ_ _ _ _ e=>e,λ_ hi=>hi,rfl,λi _=>(List.map_id' _).symm,λ_ _ _=>Iff.rfl,λ_ _=>⟨rfl,rfl⟩,λ_ _ e=>e,λ_ _ _ e=>e⟩
def bdA (f:Fn):Fs:=(aw (sIf (ao (eh "str" (ae 1))) (aI (jR (eh "str" (ae 0)) (eOp gEq (ae 0) (ae 1)))) sNx)
 (aw (sIf (ao (ak aD (aa (ae 1) ag))) (aI (jR (ak aD (aa (ae 0) ag)) (eOp gEq (ae 0) (ae 1)))) sNx)
 (aw (sIf (ao (eh "tuple" (ae 1))) (sIf (bA (ao (eh "tuple" (ae 0)))) (aI (eC (.bool false))) sNx) (sIf (bA (ao (eh "list" (ae 0)))) (aI (eC (.bool false))) sNx))
 (aw (sIf (ao (eOp gNe (eB a_ (aa (ae 0) ag)) (eB a_ (aa (ae 1) ag)))) (aI (eC (.bool false))) sNx)
 (aw (fX (uS (ae 0) (ae 1)) (gTp 2 (aZ (gNm 2) (aZ (gNm 3) fP))) (sIf (bA (ao (ak f (aa (ae 2) (aa (ae 3) ag))))) (aI (eC (.bool false))) sNx))
 (aI (eC (.bool true))))))))
def Ali (f:Fn) (d:Gc):Prop:=f [d,d]=.ok (.sh (.bool true))
theorem uU (f:Fn) (i:Int):Ali (aM 2 4 (bdA f)) (.int i):=by
 unfold Ali bdA;have w:=zO i;have d:decide (i=i)=true:=Za rfl;push_cast only [w,d]
theorem D4 (f:Fn) (x:Str):Ali (aM 2 4 (bdA f)) (.str x):=by
 unfold Ali bdA;have d:decide (x=x)=true:=Za rfl;push_cast only [d]
theorem zc (ds:List Gc):aD [.list ds]=.ok (.sh (.bool false)):=by
 unfold aD dW;push_cast only [Yw]
theorem Ae (ds:List Gc):aD [.tuple ds]=.ok (.sh (.bool false)):=by
 unfold aD dW;push_cast only [Yw]
theorem HW (ds:List Gc):mR "str" (.list ds)=oB false:=rfl
theorem IL (ds:List Gc):mR "str" (.tuple ds)=oB false:=rfl
theorem vj {f:Fn} {ds:List Gc} {x0 x1:OD} (h:∀d∈ds,Ali f d):∀(r:R Out),bw (gTp 2 (aZ (gNm 2) (aZ (gNm 3) fP))) (sIf (bA (ao (ak f (aa (ae 2) (aa (ae 3) ag))))) (aI (eC (.bool false))) sNx) (tQ ds ds) [some x0,some x1,none,none]=r->∃v2 v3,r=.ok (.nx [some x0,some x1,v2,v3]):=λr hL=>by
 refine eM hL (λi ρ=>∃v2 v3:Option OD,ρ=[some x0,some x1,v2,v3]) ⟨_,_,rfl⟩ ?_ ?_
 ·rintro i d ρ hd ⟨v2,v3,rfl⟩
  obtain ⟨x,y,hx,hy,rfl⟩:=pX hd;rw [hx]at hy;cases hy;have hr:f [x,x]=.ok (.sh (.bool true)):=h x (Yp hx);push_cast only [hr];exact ⟨_,_,rfl⟩
 ·rintro ρ' rfl ⟨v2,v3,rfl⟩
  exact ⟨_,_,rfl⟩
theorem vn {f:Fn} {ds:List Gc} (hl:ds.length<=1000) (h:∀d∈ds,Ali f d):Ali (aM 2 4 (bdA f)) (.list ds):=by
 unfold Ali bdA;have w:=zc ds;have bl:(ds.length<=BIG)=True:=az hl;have d:decide ((ds.length:Int)=(ds.length:Int))=true:=Za rfl;push_cast only [HW,w,bl,d,LN,Kw];generalize hL:bw _ _ _ _=r
 obtain ⟨v2,v3,rfl⟩:=vj h r hL;push_cast only [Yw]
theorem xW {f:Fn} {ds:List Gc} (hl:ds.length<=1000) (h:∀d∈ds,Ali f d):Ali (aM 2 4 (bdA f)) (.tuple ds):=by
 unfold Ali bdA;have w:=Ae ds;have bl:(ds.length<=BIG)=True:=az hl;have d:decide ((ds.length:Int)=(ds.length:Int))=true:=Za rfl;push_cast only [IL,w,bl,d,LN,LF];generalize hL:bw _ _ _ _=r
 obtain ⟨v2,v3,rfl⟩:=vj h r hL;push_cast only [Yw]
theorem A3 (f:Fn) (a:Int) (l:Str) (t:Int):Ali (aM 2 4 (bdA (aM 2 4 (bdA f)))) (.tuple [.int a,.str l,.int t]):=xW (show (3:Nat)<=1000 by decide) λd hd=>by
 simp only [Xz,Wz,or_false]at hd;rcases hd with rfl | rfl | rfl
 ·exact uU _ _
 ·exact D4 _ _
 ·exact uU _ _
theorem vQ (f:Fn) (ts:List Nd) (L:List Nat) (hL:L.length<=1000):Ali (aM 2 4 (bdA (aM 2 4 (bdA (aM 2 4 (bdA f)))))) (.list (bZ ts L)):=vn (by unfold bZ;rw [Zy];exact hL) λd hd=>by
 unfold bZ at hd;obtain ⟨k,_,rfl⟩:=ZC.mp hd;exact A3 f _ _ _
theorem wy (f:Fn) (L:List Nat) (hL:L.length<=1000):Ali (aM 2 4 (bdA (aM 2 4 (bdA f)))) (.list (nD L)):=vn (by rw [aY];exact hL) λd hd=>by
 unfold nD iL at hd;rw [Yu]at hd;obtain ⟨k,_,rfl⟩:=ZC.mp hd;exact uU _ _
theorem tW {d:Gc} (h:Ali (aM 2 4 (bdA dB)) d):bI [d,d]=.ok (.sh (.bool true)):=h
section
variable {us ts:List Nd} {g:Int} {fl:Nat->Bool} {an:Gc} {ch:Nat->List Nat} {h:Nat->Nat}
theorem rG (nm:Nm us ts ch h) {c:F} (p:PT ts c) (hl:ts.length<=40) (t:Int):bM [esD ts g (λi=>fl (h i)) an,stD us ch fl,.int t]=.ok (.sh (.bool true)):=by
 unfold bM iB;have he:=nm.et;have o1:=nm.order p hl fl true;rw [N1 rfl]at o1;have o2:=nm.order p hl fl false;rw [N2 Zo]at o2;have sl:=qX ts λi=>fl (h i)
 have ul:us.length<=100:=by rw [nm.len];lia
 have r1:=vU us ch fl nm.mem ((range ts.length).map h) nm.eu ul (by rw [Zy,Zu];lia) (nm.cl (Cv he))
 rw [nm.rows (Cv he),<-rz he]at r1;have r2:=vU us ch fl nm.mem ((seen ts λi=>fl (h i)).map h) nm.eu ul (by rw [Zy];lia) (nm.cl λk hk=>⟨lS hk,pI he hk⟩)
 rw [nm.rows λk hk=>⟨lS hk,pI he hk⟩]at r2
 have s2:aL (ts.length:Int)=true:=qT (by lia) (by lia)
 have s3:aL 3=true:=qT (by decide) (by decide)
 have k2:atI [PyData.list (ez us),.list (gO us.length ch),.list (fgD fl us.length)] 2=some (.list (fgD fl us.length)):=rfl;have c1:∀(x0 x2 x4 x5 x6 x7 x8 x9:Option OD),bu (iR1 (eB a_ (aa (ae 3) ag))) (gNm 0) (ao (eOp gIx (eOp gIx (ae 1) (eC (.int 2))) (eOp gIx (ae 2) (ae 0)))) (ae 0) 1 [1,3] [x0,some (.sh (stD us ch fl)),x2,some (.sh (.list (nD ((range ts.length).map h)))),x4,x5,x6,x7,x8,x9]=.ok (.ol (nO (fdL ts λi=>fl (h i)))):=λx0 x2 x4 x5 x6 x7 x8 x9=>by
  push_cast only [aY,Zy,Zu,s2];generalize hC:bH _ _ _ _ _ _=rc
  have e:=gR hC (λk:Nat=>PyData.int (0+(k:Int))) (λk=>fl (h k)) (λk:Nat=>.sh (.int (k:Int))) (range ts.length) (by rw [Zn];rfl) (by rw [Zu];exact Y8 (az (by lia))) (by
   intro k hk;rw [Yk]at hk;have rg:atI (nD ((range ts.length).map h)) (k:Int)=some (.int (h k:Int)):=bt (kN (by rw [Zx,Z6 hk];rfl))
   have fd:=A2 (fl:=fl) (show h k<us.length by rw [nm.len];exact nm.lt k hk)
   unfold stD;refine ⟨?_,λ_=>?_⟩
   ·push_cast only [X2,k2,rg,fd]
   ·push_cast only [X2])
  subst e;push_cast only [Yw];rw [gi];rfl
 have c2:∀(x0 x1 x2 x5 x6 x7 x8 x9:Option OD),bu (dg (ae 4)) (gNm 0) dG (yV (ae 1) (ae 0)) 1 [3] [x0,x1,x2,some (.sh (.list (nD ((range ts.length).map h)))),some (.sh (.list (nD ((seen ts λi=>fl (h i)).map h)))),x5,x6,x7,x8,x9]=.ok (.ol (nO (seen ts λi=>fl (h i)))):=λx0 x1 x2 x5 x6 x7 x8 x9=>by
  push_cast only [Yw];generalize hC:bH _ _ _ _ _ _=rc
  have e:=gH hC (λk:Nat=>PyData.int (h k:Int)) (λk:Nat=>.sh (.int (k:Int))) (seen ts λi=>fl (h i)) (by unfold nD iL;rw [Yu,Yu];rfl) (Y8 (az (by lia))) (by
   intro k hk;have hk':=lS hk;have ix:=AR ((range ts.length).map h) (h k) (ZC.mpr ⟨k,Yk.mpr hk',rfl⟩) (by rw [Zy,Zu];lia)
   rw [Ga _ λa ha e=>nm.inj a k (Yk.mp ha) hk' e]at ix
   have hj':k<(range ts.length).length:=by rw [Zu];exact hk'
   have e1:=Wi (n:=ts.length) |>.idxOf_getElem k hj'
   rw [W8]at e1;rw [e1]at ix;push_cast only [ix])
  subst e;push_cast only [Yw];rw [gi]
 have al0:bI [.list (ai ts),.list (ai ts)]=.ok (.sh (.bool true)):=by
  rw [rz he];exact tW (vQ _ ts _ (by rw [Zu];lia))
 have fdl:(fdL ts λi=>fl (h i)).length<=ts.length:=by
  have:=Xl (λi=>fl (h i)) (range ts.length)
  rw [Zu]at this;exact this
 have al1:bI [.list (nD (fdL ts λi=>fl (h i))),.list (nD (fdL ts λi=>fl (h i)))]=.ok (.sh (.bool true)):=tW (wy _ _ (by lia))
 have al2:bI [(eA ts λi=>fl (h i)),(eA ts λi=>fl (h i))]=.ok (.sh (.bool true)):=tW (xW (show (2:Nat)<=1000 by decide) λd hd=>by
  simp only [Xz,Wz,or_false]at hd;rcases hd with rfl | rfl
  ·exact vQ _ ts _ (by lia)
  ·exact wy _ _ (by lia))
 have i0:atI [PyData.list (ai ts),.list (nD (fdL ts λi=>fl (h i))),(eA ts λi=>fl (h i))] 0=some (.list (ai ts)):=rfl
 have i1:atI [PyData.list (ai ts),.list (nD (fdL ts λi=>fl (h i))),(eA ts λi=>fl (h i))] 1=some (.list (nD (fdL ts λi=>fl (h i)))):=rfl
 have i2:atI [PyData.list (ai ts),.list (nD (fdL ts λi=>fl (h i))),(eA ts λi=>fl (h i))] 2=some (eA ts λi=>fl (h i)):=rfl
 have sd:PyData.tuple [.list (bZ ts (seen ts λi=>fl (h i))),.list (nD (seen ts λi=>fl (h i)))]=eA ts λi=>fl (h i):=rfl
 have mw:=λ(ρ:L3.Env) (h0:ρ[0]?=some (some (.sh (esD ts g (λi=>fl (h i)) an))))=>nS (m := "whole") (qC (by simp)) (DL (g:=g) (fl:=λi=>fl (h i)) (an:=an) (ts:=ts) (by lia)) h0
 have mf:=λ(ρ:L3.Env) (h0:ρ[0]?=some (some (.sh (esD ts g (λi=>fl (h i)) an))))=>nS (m := "folded") (qC (by simp)) (AB (g:=g) (fl:=λi=>fl (h i)) (an:=an) (ts:=ts) (by lia)) h0
 have ms:=λ(ρ:L3.Env) (h0:ρ[0]?=some (some (.sh (esD ts g (λi=>fl (h i)) an))))=>nS (m := "seen") (qC (by simp)) (wM (g:=g) (fl:=λi=>fl (h i)) (an:=an) he (by lia)) h0
 have m3:∀z:Int,0<=z % 3/\z % 3<3:=λz=>de z (by decide)
 push_cast only [o1,cJ,o2,↓c1,r1,r2,↓c2,aX,sd,s3];generalize hL:bw _ _ _ _=r'
 refine eM hL (λi ρ=>∃v7 v8 v9:Option OD,ρ=[some (.sh (esD ts g (λi=>fl (h i)) an)),some (.sh (stD us ch fl)),some (.sh (.int t)),some (.sh (.list (nD ((range ts.length).map h)))),some (.sh (.list (nD ((seen ts λi=>fl (h i)).map h)))),some (.sh (.list (nD (fdL ts λi=>fl (h i))))),some (.sh (.list [.list (ai ts),.list (nD (fdL ts λi=>fl (h i))),(eA ts λi=>fl (h i))])),v7,v8,v9]) ⟨_,_,_,rfl⟩ ?_ ?_
 ·rintro i d ρ hd ⟨v7,v8,v9,rfl⟩
  obtain ⟨hi,rfl⟩:=lI hd;have cc:(0+(i:Int)+t) % 3=0\/(0+(i:Int)+t) % 3=1\/(0+(i:Int)+t) % 3=2:=by have:=m3 (0+(i:Int)+t);lia
  generalize hz:(0+(i:Int)+t) % 3=z at cc
  have tw:∀r:L3.Env,bG (λnm=>List.lookup nm [("Easel",cM)]) "whole" (ae 0) ag (some (.sh (esD ts g (λi=>fl (h i)) an)) :: r)=.ok (.ol ((ai ts).map OD.sh)):=λr=>mw _ rfl
  have tf:∀r:L3.Env,bG (λnm=>List.lookup nm [("Easel",cq)]) "folded" (ae 0) ag (some (.sh (esD ts g (λi=>fl (h i)) an)) :: r)=.ok (.ol (nO (fdL ts λi=>fl (h i)))):=λr=>mf _ rfl
  have te:∀r:L3.Env,bG (λnm=>List.lookup nm [("Easel",aS)]) "seen" (ae 0) ag (some (.sh (esD ts g (λi=>fl (h i)) an)) :: r)=.ok (k8 ts λi=>fl (h i)):=λr=>ms _ rfl
  rcases cc with rfl | rfl | rfl
  ·push_cast only [hz,i0,↓tw,aX,al0]
   exact ⟨_,_,_,rfl⟩
  ·push_cast only [hz,i1,↓tf,cJ,al1]
   exact ⟨_,_,_,rfl⟩
  ·push_cast only [hz,i2,↓te,rD,al2]
   exact ⟨_,_,_,rfl⟩
 ·rintro ρ' rfl ⟨v7,v8,v9,rfl⟩
  push_cast only [Yw]
end
def X1:Nd:=⟨-1, "x",2⟩
def us1 (ts:List Nd) (v:Nat):List Nd:=hgP ts v X1 []
def ts1 (ts:List Nd) (v:Nat):List Nd:=iq ts v [X1]
def ch1 (ts:List Nd) (v q:Nat):List Nat:=if q=v then ts.length :: chN ts v else chN ts q
theorem oz:Pth [X1]:=λi n h=>by
 cases i with
 |zero=>cases h;rfl
 |succ i=>cases h
theorem FQ:∀x∈[X1],zG x:=λx hx=>by
 rw [Y9]at hx;subst hx;exact ⟨⟨by decide +kernel,by decide +kernel,by decide +kernel⟩,by decide,by decide⟩
section
variable {ts:List Nd} {way:List Int} {v:Nat}
theorem mP:(us1 ts v).length=ts.length+1:=gV
theorem kh (hv:v<ts.length):(ts1 ts v).length=ts.length+1:=lE [X1] hv
theorem yC {k:Nat} (hk:k<ts.length):eOf (us1 ts v) k=eOf ts k:=oJ hk
theorem uh:eOf (us1 ts v) ts.length=(v:Int):=zg (i:=0) oz (by rw [X5];lia)
theorem uM (he:EL ts) (hv:v<ts.length) {i:Nat} (hi:i<ts.length+1):(cS (us1 ts v) (sg ts.length v 1 i)).l=(cS (ts1 ts v) i).l/\(cS (us1 ts v) (sg ts.length v 1 i)).t=(cS (ts1 ts v) i).t/\eOf (ts1 ts v) i=if eOf (us1 ts v) (sg ts.length v 1 i)<0 then -1 else (tu ts.length v 1 (eOf (us1 ts v) (sg ts.length v 1 i)).toNat:Int):=by
 have r:bZ (us1 ts v) (fQ ts.length v 1)=ai (ts1 ts v):=vp he hv oz;have r2:(bZ (us1 ts v) (fQ ts.length v 1))[i]?=(ai (ts1 ts v))[i]?:=by rw [r]
 unfold bZ ai at r2;rw [Zx,ky hi,Zx,gy (by rw [kh hv];exact hi)]at r2
 have r3:=Yv r2;unfold gj ndD at r3;injection r3 with r3
 injection r3 with a r3
 injection r3 with b r3
 injection r3 with c r3
 injection a with a
 injection b with b
 injection c with c
 refine ⟨b,c,?_⟩;rw [<-iD (by rw [kh hv];exact hi),<-a]
 have sl:=vV (m:=1) hv hi;rcases elt (tY he hv oz) (show sg ts.length v 1 i<(us1 ts v).length by rw [mP];exact sl) with ⟨z,_⟩ | ⟨j,z,hj⟩
 ·have z':eOf (us1 ts v) (sg ts.length v 1 i)=-1:=z
  rw [z'];rfl
 ·have z':eOf (us1 ts v) (sg ts.length v 1 i)=(j:Int):=z
  rw [z',N2 (by lia),N2 (by lia),Zn,kS hv (by lia)]
theorem xo (he:EL ts) (hv:v<ts.length) {i j:Nat} (hi:i<ts.length+1) (hj:j<ts.length+1):eOf (ts1 ts v) j=(i:Int) ↔ eOf (us1 ts v) (sg ts.length v 1 j)=(sg ts.length v 1 i:Int):=by
 have r:=(uM he hv hj).2.2;have sl:=vV (m:=1) hv hj;rcases elt (tY he hv oz) (show sg ts.length v 1 j<(us1 ts v).length by rw [mP];exact sl) with ⟨z,_⟩ | ⟨q,z,hq⟩
 ·have z':eOf (us1 ts v) (sg ts.length v 1 j)=-1:=z
  rw [z',N1 (by lia)]at r
  rw [r,z']
  lia
 ·have z':eOf (us1 ts v) (sg ts.length v 1 j)=(q:Int):=z
  rw [z',N2 (by lia),Zn]at r
  rw [r,z'];constructor
  ·intro h
   have h:tu ts.length v 1 q=i:=by lia
   rw [<-h,AW hv (by lia)]
  ·intro h
   have h:q=sg ts.length v 1 i:=by lia
   rw [h,vJ hv hi]
theorem FJ (he:EL ts) (hv:v<ts.length) {q:Nat}:(fQ ts.length v 1).filter (λk=>decide (eOf (us1 ts v) k=(q:Int)))=ch1 ts v q:=by
 have rg:range ts.length=range (v+1)++List.range' (v+1) (ts.length-(v+1)):=by
  have e:=List.range'_append_1 (s:=0) (m:=v+1) (n:=ts.length-(v+1));rw [Wb,show v+1+(ts.length-(v+1))=ts.length by lia]at e
  rw [Vp,Vp,e]
 have a:(range (v+1)).filter (λk=>decide (eOf (us1 ts v) k=(q:Int)))=(range (v+1)).filter (λk=>decide (eOf ts k=(q:Int))):=Xc λk hk=>by
  rw [Yk]at hk;rw [yC (by lia)]
 have b:(List.range' (v+1) (ts.length-(v+1))).filter (λk=>decide (eOf (us1 ts v) k=(q:Int)))=(List.range' (v+1) (ts.length-(v+1))).filter (λk=>decide (eOf ts k=(q:Int))):=Xc λk hk=>by
  rw [List.mem_range'_1]at hk;rw [yC (by lia)]
 rw [wd hv,Xr,Xr,a,b];unfold ch1;have n1:List.range' ts.length 1=[ts.length]:=rfl;by_cases hq:q=v
 ·subst hq
  have z:(range (q+1)).filter (λk=>decide (eOf ts k=(q:Int)))=[]:=List.filter_eq_nil_iff.mpr λk hk=>by
   rw [Yk]at hk;rw [Zk];rcases elt he (show k<ts.length by lia) with ⟨z,_⟩ | ⟨j,z,hj⟩ <;> lia
  rw [N1 rfl,z,n1,Wy,N1 (by rw [uh];exact Za rfl)]
  unfold chN;rw [rg,Xr,z];rfl
 ·rw [N2 hq,n1,Wy,N2 (by rw [uh,Zk];lia)]
  unfold chN;rw [rg,Xr];simp
theorem w9 (gr:Grown 7 ts way) (hv:v<ts.length):Nm (us1 ts v) (ts1 ts v) (ch1 ts v) (sg ts.length v 1):=by
 have he:EL ts:=gr.elder;have hu:EL (us1 ts v):=tY he hv oz;obtain ⟨w,gw,_⟩:=oM FQ gr v hv;have l1:=mP (ts:=ts) (v:=v);have l2:=kh hv;refine ⟨by lia,hu,gw.elder,λi j hi hj e=>?_,λi hi=>?_,?_,λi hi=>?_,λq hq k=>?_,λi hi=>?_,λi hi z=>?_,λi j hi z=>?_⟩
 ·rw [l2]at hi hj
  have:=Yl (tu ts.length v 1) e;rw [vJ hv hi,vJ hv hj]at this;exact this
 ·rw [l2]at hi ⊢
  exact vV hv hi
 ·unfold sg
  rw [N1 (Y1 _)]
 ·rw [l2]at hi
  rw [<-FJ he hv];unfold fQ chN;rw [List.filter_map,l2];refine Yl (List.map _) (Xc λj hj=>?_)
  rw [Yk]at hj;show decide (eOf (us1 ts v) (sg ts.length v 1 j)=(sg ts.length v 1 i:Int))=decide (eOf (ts1 ts v) j=(i:Int))
  rw [Xm,Zk,Zk];exact (xo he hv hi hj).symm
 ·rw [<-FJ he hv,We,pY hv,Zk,iI,l1]
 ·rw [l2]at hi
  have:=uM he hv hi;exact ⟨this.1,this.2.1⟩
 ·rw [l2]at hi
  have r:=(uM he hv hi).2.2;rw [z]at r;rcases elt hu (show sg ts.length v 1 i<(us1 ts v).length by rw [l1];exact vV hv hi) with ⟨y,_⟩ | ⟨q,y,hq⟩
  ·exact y
  ·rw [y,N2 (by lia)]at r
   lia
 ·rw [l2]at hi
  have hj:j<i:=by
   rcases elt (ts:=ts1 ts v) gw.elder (show i<(ts1 ts v).length by rw [l2];exact hi) with ⟨y,_⟩ | ⟨q,y,hq⟩ <;> lia
  exact (xo he hv (by lia) hi).mp z
end
abbrev F0:Nat->Bool:=λ_=>false
theorem fd0 (ts:List Nd):fdL ts F0=[]:=by
 unfold fdL;exact List.filter_eq_nil_iff.mpr λk _=>Zo
section
variable {ts:List Nd} {way:List Int} {v:Nat} {g:Int} {an:Gc}
theorem nZ (gr:Grown 7 ts way) (hv:v<ts.length):∃w,Grown 8 (ts1 ts v) w:=by
 obtain ⟨w,gw,_⟩:=oM FQ gr v hv;exact ⟨w,gw⟩
theorem Ed (gr:Grown 7 ts way) (hl:ts.length<=12) (hv:v<ts.length):gu [.list (ai ts),.int (v:Int),.int 0,.list (ai [X1])]=.ok (.sh (chg (ts1 ts v) (fQ ts.length v 1))):=by
 obtain ⟨w,gw⟩:=nZ gr hv;have l2:=kh hv;refine yR gr (by lia) hv (x:=X1) (xs:=[]) (Y1 _) ?_ rfl
 exact M4 (us:=hgP ts v X1 []) (ts2:=ts1 ts v) (R:=fQ ts.length v 1) (by rw [c8];lia) (xB (xs:=[]) gr.elder (by rw [X5];lia) hv oz) gw.elder (by lia) (by lia) (L5 gw).2
theorem DJ (gr:Grown 7 ts way) (hl:ts.length<=12) (hv:v<ts.length) :
  ∃an2,bF 4 cu (.oi none "Easel" (bo ts g F0 an)) [.int (v:Int),.int 0,.list (ai [X1])] (.oi none "Easel" (bo (ts1 ts v) g F0 an2),.sh .none):=by
 obtain ⟨w,gw⟩:=nZ gr hv;have l2:=kh hv;obtain ⟨an2,hs⟩:=rX gr.elder gw.elder (by lia) (by lia) g F0 F0 an (R:=fQ ts.length v 1) (by rw [c8,l2]) [] (by
  rw [fd0];exact List.filter_eq_nil_iff.mpr λk _=>by simp [iL]) v
 refine ⟨an2,rfl,λa=>?_⟩
 unfold cu;show ∃ρ',dc _ _ [some (.oi (some a) "Easel" (bo ts g F0 an)),some (.sh (.int (v:Int))),some (.sh (.int 0)),some (.sh (.list (ai [X1])))]=.ok (ρ',.sh .none)/\_
 have ot:=Bc (ts:=ts) (g:=g) (fl:=F0) (an:=an) (ρ:=[some (.oi (some a) "Easel" (bo ts g F0 an)),some (.sh (.int (v:Int))),some (.sh (.int 0)),some (.sh (.list (ai [X1])))]) rfl;have of:=xI (ts:=ts) (g:=g) (fl:=F0) (an:=an) (ρ:=[some (.oi (some a) "Easel" (bo ts g F0 an)),some (.sh (.int (v:Int))),some (.sh (.int 0)),some (.sh (.list (ai [X1])))]) rfl;rw [fd0]at of;have pi:=Ed gr hl hv;have ar:(aa (ak gu (aa (gh 0 (λnm=>decide (nm = "Easel")) "tree") (aa (ae 1) (aa (ae 2) (aa (ae 3) ag))))) (aa (gh 0 (λnm=>decide (nm = "Easel")) "folds") (aa (cK (aa (ae 1) ag)) ag))) [some (.oi (some a) "Easel" (bo ts g F0 an)),some (.sh (.int (v:Int))),some (.sh (.int 0)),some (.sh (.list (ai [X1])))]=.ok [.sh (chg (ts1 ts v) (fQ ts.length v 1)),.sh (.list (nD [])),.ol [.sh (.int (v:Int))]]:=by
  push_cast only [↓ot,↓of,pi]
 have mr:=lX (n:=8) (i:=0) (b:=aV) (p:=some a) (nm := "Easel") (m := "settle") (ρ:=[some (.oi (some a) "Easel" (bo ts g F0 an)),some (.sh (.int (v:Int))),some (.sh (.int 0)),some (.sh (.list (ai [X1])))]) rfl fM ar (y:=.sh .none) (ds':=bo (ts1 ts v) g F0 an2) (by
  show bF 8 aV _ [(OD.sh (chg (ts1 ts v) (fQ ts.length v 1))).er,(OD.sh (PyData.list (nD []))).er,(OD.ol [OD.sh (.int (v:Int))]).er] _
  rw [aQ,aQ,dS,Zw,Yh,aQ];exact hs)
 push_cast only [jL,jJ,sy,↓mr];exact ⟨_,rfl,rfl⟩
def f_ (v:Nat):Gc:=.tuple [.str "put",.int (v:Int),.int 0,.list (ai [X1])]
def ir (v:Nat):Gc:=.tuple [.str "fold",.int (v:Int)]
theorem xk {ds ds2:List (Str×Gc)} (hm:b9 "put" (ds.map λp=>(.tuple [.str p.1],p.2))=none) (hs:bF 4 cu (.oi none "Easel" ds) [.int (v:Int),.int 0,.list (ai [X1])] (.oi none "Easel" ds2,.sh .none)):bF 2 b7 (.oi none "Easel" ds) [f_ v] (.oi none "Easel" ds2,.sh .none):=by
 refine ⟨rfl,λa=>?_⟩
 unfold b7;show ∃ρ',dc _ _ [some (.oi (some a) "Easel" ds),some (.sh (.tuple [.str "put",.int (v:Int),.int 0,.list (ai [X1])]))]=.ok (ρ',.sh .none)/\_
 have mr:=lX (n:=4) (i:=0) (b:=cu) (al:=aa (eOp gIx (ae 1) (eC (.int 1))) (aa (eOp gIx (ae 1) (eC (.int 2))) (aa (eOp gIx (ae 1) (eC (.int 3))) ag))) (p:=some a) (nm := "Easel") (m := "put") (ρ:=[some (.oi (some a) "Easel" ds),some (.sh (.tuple [.str "put",.int (v:Int),.int 0,.list (ai [X1])]))]) rfl hm (ys:=[.sh (.int (v:Int)),.sh (.int 0),.sh (.list (ai [X1]))]) (by push_cast only [Yw];rfl) (y:=.sh .none) (ds':=ds2) (by
  show bF 4 cu _ [(OD.sh (.int (v:Int))).er,(OD.sh (.int 0)).er,(OD.sh (.list (ai [X1]))).er] _
  rw [aQ,aQ,aQ];exact hs)
 push_cast only [jL,jJ,sy,IG,Gn,JP,Jl,↓mr];exact ⟨_,rfl,rfl⟩
theorem u_ {ds ds2:List (Str×Gc)} (hm:b9 "fold" (ds.map λp=>(.tuple [.str p.1],p.2))=none) (hs:bF 2 bX (.oi none "Easel" ds) [.int (v:Int)] (.oi none "Easel" ds2,.sh .none)):bF 2 b7 (.oi none "Easel" ds) [ir v] (.oi none "Easel" ds2,.sh .none):=by
 refine ⟨rfl,λa=>?_⟩
 unfold b7;show ∃ρ',dc _ _ [some (.oi (some a) "Easel" ds),some (.sh (.tuple [.str "fold",.int (v:Int)]))]=.ok (ρ',.sh .none)/\_
 have mr:=lX (n:=2) (i:=0) (b:=bX) (al:=aa (eOp gIx (ae 1) (eC (.int 1))) ag) (p:=some a) (nm := "Easel") (m := "fold") (ρ:=[some (.oi (some a) "Easel" ds),some (.sh (.tuple [.str "fold",.int (v:Int)]))]) rfl hm (ys:=[.sh (.int (v:Int))]) (by push_cast only [Yw]) (y:=.sh .none) (ds':=ds2) (by
  show bF 2 bX _ [(OD.sh (.int (v:Int))).er] _
  rw [aQ];exact hs)
 push_cast only [jL,jJ,sy,DX,↓mr];exact ⟨_,rfl,rfl⟩
theorem vP (hs:bF 2 b7 (.oi none "Easel" ds) [d] (.oi none "Easel" ds2,.sh .none)):bF 4 br (.oi none "Easel" ds) [d] (.oi none "Easel" ds2,.sh (.int 0)):=by
 refine ⟨rfl,λa=>?_⟩
 unfold br;show ∃ρ',dc _ _ [some (.oi (some a) "Easel" ds),some (.sh d),none,none]=.ok (ρ',.sh (.int 0))/\_
 have mr:=sE (n:=2) (i:=0) (b:=b7) (al:=aa (ae 1) ag) (p:=some a) (nm := "Easel") (ρ:=[some (.oi (some a) "Easel" ds),some (.sh d),none,none]) rfl (ys:=[.sh d]) (by push_cast only [Yw]) (y:=.sh .none) (ds':=ds2) (by
  show bF 2 b7 _ [(OD.sh d).er] _
  rw [aQ];exact hs)
 have tr:vR (eO 2 0 b7 (aa (ae 1) ag)) [some (.oi (some a) "Easel" ds),some (.sh d),none,none]=.ok (.nx [some (.oi (some a) "Easel" ds2),some (.sh d),none,none]):=by
  unfold vR;rw [mr];rfl
 push_cast only [jL,jJ,wB,↓tr];exact ⟨_,rfl,rfl⟩
theorem x_ (h2:ρ[2]?=some (some (.oi none "Easel" ds))) (h5:ρ[5]?=some (some (.sh d))) (hr:bF 4 br (.oi none "Easel" ds) [d] (.oi none "Easel" ds2,.sh (.int 0))) :
  uA 4 2 br (aa (ae 5) ag) 0 s1 s2 ρ=s2 (ρ.set 2 (some (.oi none "Easel" ds2))):=by
 have ha:aa (ae 5) ag ρ=.ok [.sh d]:=by
  unfold aa ae ag;rw [h5];rfl
 unfold uA;rw [sP h2 ha (y:=.sh (.int 0)) (ds':=ds2) (by
  show bF 4 br _ [(OD.sh d).er] _
  rw [aQ];exact hr),aC]
 rfl
end
theorem Az:∀ds:List Gc,shs (ds.map OD.sh)=some ds
 |[]=>rfl
 |d :: ds=>by
  rw [Zw,shs,Az ds]
theorem Gf {fl:Nat->Bool} {n k:Nat} (hk:k<n) (b:Bool):(fgD fl n).set k (.bool b)=fgD (eZ fl k b) n:=by
 unfold fgD;have e:PyData.bool b=(λj=>PyData.bool (eZ fl k b j)) k:=by
  show _=PyData.bool (eZ fl k b k)
  unfold eZ;rw [N1 rfl]
 rw [e];refine iy (λq=>PyData.bool (fl q)) (λj=>PyData.bool (eZ fl k b j)) n k λq hq=>?_
 show PyData.bool (eZ fl k b q)=.bool (fl q)
 unfold eZ;rw [N2 hq]
theorem Ms (L:List Nat):FU (.ol (nO L))=.ok (.ol (nO L)):=by
 have fa:(nO L).all (λy=>flat y.er)=true:=by
  unfold nO nD iL;rw [Wa,Wa,Wa,Vy];intro x _;show flat (OD.sh (PyData.int (x:Int))).er=true
  rw [aQ];rfl
 show (if (nO L).all (λy=>flat y.er)=true then R.ok (OD.ol ((nO L).map λy=>.sh y.er)) else .bad)=_
 rw [N1 fa];congr 2
 unfold nO;rw [Yu];exact Xy λx _=>by show OD.sh (OD.sh x).er=_;rw [aQ]
section
variable {us ts:List Nd} {ch:Nat->List Nat} {h:Nat->Nat} {ks:List OD} {fl:Nat->Bool} {v:Nat}
theorem FL {a:Is} (hk:ks.map OD.er=gO us.length ch):(OD.pl a [.ol ((ez us).map OD.sh),.ol ks,.ol ((fgD fl us.length).map OD.sh)]).er=stD us ch fl:=by
 rw [E5,<-uD fl hk];unfold stK;rw [dS]
theorem zW (nm:Nm us ts ch h) {c:F} (p:PT ts c) (hl:ts.length<=40) (hk:ks.map OD.er=gO us.length ch) (hv:v<ts.length) (hh:h v=v):bF 8 aW (stK us ks fl) [ir v] (stK us ks (eZ fl v true),.ol [.sh (.int (v:Int))]):=by
 refine ⟨rfl,λa=>?_⟩
 unfold aW;have od:=nm.order p hl fl true;rw [N1 rfl]at od;have rg:atI (nD ((range ts.length).map h)) (v:Int)=some (.int (v:Int)):=bt (kN (by rw [Zx,Z6 hv];show some (h v)=_;rw [hh]))
 have bk:=Ms ((range ts.length).map h);have er0:=FL (fl:=fl) (a:=a) hk;have hvu:v<us.length:=by rw [nm.len];exact hv
 show ∃ρ',dc _ _ [some (.pl a [.ol ((ez us).map OD.sh),.ol ks,.ol ((fgD fl us.length).map OD.sh)]),some (.sh (ir v)),none,none,none,none,none,none]=.ok (ρ',_)/\_
 generalize hlb:ez us=lb at *
 have sb:∀x2:Option OD,rJ 0 2 (ae 3) (eOp gEq (eOp gIx (ae 1) (eC (.int 0))) (eC (.str "fold"))) [some (.pl a [.ol (lb.map OD.sh),.ol ks,.ol ((fgD fl us.length).map OD.sh)]),some (.sh (.tuple [.str "fold",.int (v:Int)])),x2,some (.sh (.int (v:Int))),none,none,none,none]=.ok (.nx [some (.pl a [.ol (lb.map OD.sh),.ol ks,.ol ((fgD (eZ fl v true) us.length).map OD.sh)]),some (.sh (.tuple [.str "fold",.int (v:Int)])),x2,some (.sh (.int (v:Int))),none,none,none,none]):=λx2=>by
  have ev1:(eOp gEq (eOp gIx (ae 1) (eC (.int 0))) (eC (.str "fold"))) [some (.pl a [.ol (lb.map OD.sh),.ol ks,.ol ((fgD fl us.length).map OD.sh)]),some (.sh (.tuple [.str "fold",.int (v:Int)])),x2,some (.sh (.int (v:Int))),none,none,none,none]=.ok (.sh (.bool true)):=by push_cast only [DX]
  have ix:ixN (fgD fl us.length).length (v:Int)=some v:=pC (by unfold fgD;rw [Zy,Zu];exact hvu)
  have e3:ae 3 [some (.pl a [.ol (lb.map OD.sh),.ol ks,.ol ((fgD fl us.length).map OD.sh)]),some (.sh (.tuple [.str "fold",.int (v:Int)])),x2,some (.sh (.int (v:Int))),none,none,none,none]=.ok (.sh (.int (v:Int))):=rfl;unfold rJ;rw [ev1,aC];simp only [List.getElem?_cons_zero,List.getElem?_cons_succ,Az,e3,aC,aQ,ix,List.set_cons_zero,List.set_cons_succ,Gf hvu]
 have s1:=sb (some (.sh (.list (nD ((range ts.length).map h)))));unfold ir;push_cast only [jL,jJ,FZ,wB,er0,od,bk,cJ,rg,DX,↓s1];refine ⟨_,rfl,?_⟩;rw [<-hlb];rfl
def ks1 (ts:List Nd) (v:Nat):List OD:=(kdO ts.length (chN ts)++[OD.sh (.list [])]).set v (OD.ol (OD.sh (.int (ts.length:Int)) :: nO (chN ts v)))
theorem xj (he:EL ts) (hv:v<ts.length):(ks1 ts v).map OD.er=gO (us1 ts v).length (ch1 ts v):=by
 rw [mP];unfold ks1 gO kdO;apply Yo
 intro q;rw [Zx,Zx];by_cases hq:q=v
 ·subst hq
  rw [Ym (by rw [Zv,Zy,Zu];lia),Z6 (by lia)]
  show some _=some _
  refine Yl some ?_;show (OD.ol (.sh (.int (ts.length:Int)) :: nO (chN ts q))).er=PyData.list (nD (ch1 ts q q))
  unfold ch1;rw [N1 rfl,dS,Zw,aQ,cJ];rfl
 ·rw [Yi (by lia)]
  by_cases hq2:q<ts.length
  ·rw [Yz (by rw [Zy,Zu];lia),Zx,Z6 hq2,Z6 (by lia)]
   show some _=some _
   refine Yl some ?_;show (OD.ol (nO (chN ts q))).er=PyData.list (nD (ch1 ts v q))
   unfold ch1;rw [N2 hq,dS,cJ]
  ·by_cases hq3:q=ts.length
   ·subst hq3
    rw [Z9 (by rw [Zy,Zu];lia),Zy,Zu,Xf,Z6 (by lia)]
    show some _=some _
    refine Yl some ?_;show (OD.sh (PyData.list [])).er=PyData.list (nD (ch1 ts v ts.length))
    have z:chN ts ts.length=[]:=List.filter_eq_nil_iff.mpr λk hk=>by
     rw [Yk]at hk;rw [Zk];rcases elt he hk with ⟨z,_⟩ | ⟨j,z,hj⟩ <;> lia
    unfold ch1;rw [N2 hq,z,aQ];rfl
   ·rw [Zb (by rw [Zv,Zy,Zu,Zd];lia),Zb (by rw [Zu];lia)]
    rfl
theorem MS:(ez ts).map OD.sh++[PyData.tuple [.str "x",.int 2]].map OD.sh=(ez (us1 ts v)).map OD.sh:=by
 unfold ez us1 hgP X1;rw [Zh,Zh];rfl
theorem fg1 (n:Nat):(fgD F0 n).map OD.sh++[PyData.bool false].map OD.sh=(fgD F0 (n+1)).map OD.sh:=by
 unfold fgD;rw [Wf,Zh,Zh];rfl
theorem G9:cF [.list (ai [X1])]=.ok (.ol [.ol [.sh (.tuple [.str "x",.int 2])],.ol [.ol []],.ol [.sh (.bool false)]]):=by
 have he:EL [X1]:=λk n hn=>by
  cases k with
  |zero=>cases hn;exact ⟨λ_=>rfl,λz=>by lia,by decide⟩
  |succ k=>cases hn
 exact vD [X1] he (by decide) (by decide)
section
variable {A B C:List OD} {ds:List Gc}
theorem xP0 (h:gIx mo (.int 0)=.ok (.sh (.list ds))) (hl:A.length+ds.length<=BIG):la 0 0 (eOp gIx (ae 5) (eC (.int 0))) [some (.pl a [.ol A,.ol B,.ol C]),some (.sh d1),some (.sh d2),some (.sh d3),some (.sh d4),some (.sh mo),none,none]=.ok (.nx [some (.pl a [.ol (A++ds.map OD.sh),.ol B,.ol C]),some (.sh d1),some (.sh d2),some (.sh d3),some (.sh d4),some (.sh mo),none,none]):=by
 rw [wW (y:=.sh (.list ds)) rfl rfl (by push_cast only [h]) (aQ _) hl]
 rfl
theorem xP2 (h:gIx mo (.int 2)=.ok (.sh (.list ds))) (hl:C.length+ds.length<=BIG):la 0 2 (eOp gIx (ae 5) (eC (.int 2))) [some (.pl a [.ol A,.ol B,.ol C]),some (.sh d1),some (.sh d2),some (.sh d3),some (.sh d4),some (.sh mo),none,none]=.ok (.nx [some (.pl a [.ol A,.ol B,.ol (C++ds.map OD.sh)]),some (.sh d1),some (.sh d2),some (.sh d3),some (.sh d4),some (.sh mo),none,none]):=by
 rw [wW (y:=.sh (.list ds)) rfl rfl (by push_cast only [h]) (aQ _) hl]
 rfl
theorem xP1 (h:gIx mo (.int 1)=.ok (.sh (.list [.list []]))) (hl:B.length+1<=BIG):la 0 1 (bu (dg (eOp gIx (ae 5) (eC (.int 1)))) (gNm 0) dG (eSh (bu (dg (ae 0)) (gNm 0) dG (eOp bQ (ae 1) (ae 0)) 1 [1])) 1 [4]) [some (.pl a [.ol A,.ol B,.ol C]),some (.sh d1),some (.sh d2),some (.sh d3),some (.sh d4),some (.sh mo),none,none]=.ok (.nx [some (.pl a [.ol A,.ol (B++[OD.sh (.list [])]),.ol C]),some (.sh d1),some (.sh d2),some (.sh d3),some (.sh d4),some (.sh mo),none,none]):=by
 have c1:bu (dg (eOp gIx (ae 5) (eC (.int 1)))) (gNm 0) dG (eSh (bu (dg (ae 0)) (gNm 0) dG (eOp bQ (ae 1) (ae 0)) 1 [1])) 1 [4] [some (.pl a [.ol A,.ol B,.ol C]),some (.sh d1),some (.sh d2),some (.sh d3),some (.sh d4),some (.sh mo),none,none]=.ok (.ol [.sh (.list [])]):=by
  push_cast only [h];generalize hC:bH _ _ _ _ _ _=rc
  have e:=gH hC (λ_:Unit=>PyData.list []) (λ_:Unit=>OD.sh (.list [])) [()] rfl (by rw [Zd];exact Y8 Lc) (by
   intro i hi;push_cast only [Yw];generalize hC:bH _ _ _ _ _ _=rc
   have e:=gH hC (λ_:Unit=>PyData.list []) (λ_:Unit=>OD.sh (.list [])) [] rfl (by rw [X5];exact Y8 J9) (by intro i hi;cases hi)
   subst e;push_cast only [Yw])
  subst e;push_cast only [Yw]
 rw [wW (y:=.ol [.sh (.list [])]) (ds:=[.list []]) rfl rfl c1 (by rw [dS,Zw,Yh,aQ]) hl]
 rfl
theorem xPI {v:Int} (h2:gIx d1 (.int 2)=.ok (.sh (.int 0))) (h3:d3=.int v) (h4:d4=.int n) (h5:ixN B.length v=some j) (h6:B[j]?=some (.ol zs)) (hz:zs.length<1000000):qQ 0 1 (ae 3) (eOp gIx (ae 1) (eC (.int 2))) (ae 4) [some (.pl a [.ol A,.ol B,.ol C]),some (.sh d1),some (.sh d2),some (.sh d3),some (.sh d4),some (.sh mo),none,none]=.ok (.nx [some (.pl a [.ol A,.ol (B.set j (.ol (.sh (.int n) :: zs))),.ol C]),some (.sh d1),some (.sh d2),some (.sh d3),some (.sh d4),some (.sh mo),none,none]):=by
 subst h3 h4;rw [H_ (kz:=.sh (.int v)) (pz:=.sh (.int 0)) (y:=.sh (.int n)) (q:=v) (m:=0) (j:=j) (zs:=zs) rfl rfl rfl (aQ _) h5 h6 (by push_cast only [h2]) (aQ _) ⟨Int.le_refl _,by lia,hz⟩ rfl,aQ]
 rfl
end
theorem Ct {way:List Int} (gr:Grown 7 ts way) (hl:ts.length<=12) (hv:v<ts.length):bF 8 aW (stK ts (kdO ts.length (chN ts)) F0) [f_ v] (stK (us1 ts v) (ks1 ts v) F0,.ol [.sh (.int (v:Int))]):=by
 refine ⟨rfl,λa=>?_⟩
 unfold aW;have he:EL ts:=gr.elder;obtain ⟨c,p,_⟩:=qH gr;have od:=(E8 he).order p (by lia) F0 true
 rw [N1 rfl,List.map_id']at od;have rg:=Gz ts.length hv;have bk:=Ms (range ts.length);have er0:=FL (fl:=F0) (a:=a) (AM ts.length (chN ts));show ∃ρ',dc _ _ [some (.pl a [.ol ((ez ts).map OD.sh),.ol (kdO ts.length (chN ts)),.ol ((fgD F0 ts.length).map OD.sh)]),some (.sh (f_ v)),none,none,none,none,none,none]=.ok (ρ',_)/\_
 have lb:(ts.length<=BIG)=True:=az (by lia)
 have k0:gIx (stD ts (chN ts) F0) (.int 0)=.ok (.sh (.list (ez ts))):=rfl;have d1:gIx (f_ v) (.int 1)=.ok (.sh (.int (v:Int))):=rfl;have d0:gIx (f_ v) (.int 0)=.ok (.sh (.str "put")):=rfl;have d2':gIx (f_ v) (.int 2)=.ok (.sh (.int 0)):=rfl;have d3:gIx (f_ v) (.int 3)=.ok (.sh (.list (ai [X1]))):=rfl;have st:=G9;generalize hmo:PyData.list [.list [.tuple [.str "x",.int 2]],.list [.list []],.list [.bool false]]=mo
 have m0:gIx mo (.int 0)=.ok (.sh (.list [.tuple [.str "x",.int 2]])):=by rw [<-hmo];rfl
 have m1:gIx mo (.int 1)=.ok (.sh (.list [.list []])):=by rw [<-hmo];rfl
 have m2:gIx mo (.int 2)=.ok (.sh (.list [.bool false])):=by rw [<-hmo];rfl
 generalize hn:nD (range ts.length)=od2 at *
 have kl:(kdO ts.length (chN ts)).length=ts.length:=by unfold kdO;rw [Zy,Zu]
 have fl0:((fgD F0 ts.length).map OD.sh).length=ts.length:=by unfold fgD;rw [Zy,Zy,Zu]
 have x0:=λ(B C:List OD) (d2 d3 d4:Gc)=>xP0 (a:=a) (A:=(ez ts).map OD.sh) (B:=B) (C:=C) (d1:=f_ v) (d2:=d2) (d3:=d3) (d4:=d4) m0 (by rw [Zy,mQ,Zd];exact Y8 (az (by lia)))
 rw [MS (v:=v)]at x0;have x1:=λ(A C:List OD) (d2 d3 d4:Gc)=>xP1 (a:=a) (A:=A) (B:=kdO ts.length (chN ts)) (C:=C) (d1:=f_ v) (d2:=d2) (d3:=d3) (d4:=d4) m1 (by rw [kl];exact Y8 (az (by lia)))
 have x2:=λ(A B:List OD) (d2 d3 d4:Gc)=>xP2 (a:=a) (A:=A) (B:=B) (C:=(fgD F0 ts.length).map OD.sh) (d1:=f_ v) (d2:=d2) (d3:=d3) (d4:=d4) m2 (by rw [fl0,Zd];exact Y8 (az (by lia)))
 rw [fg1]at x2;have x3:=λ(A C:List OD) (d2:Gc)=>xPI (a:=a) (A:=A) (B:=kdO ts.length (chN ts)++[OD.sh (.list [])]) (C:=C) (d1:=f_ v) (d2:=d2) (d3:=.int (v:Int)) (d4:=.int (ts.length:Int)) (mo:=mo) (v:=(v:Int)) (n:=(ts.length:Int)) (j:=v) (zs:=nO (chN ts v)) d2' rfl rfl (pC (by rw [Zv,kl];lia)) (by rw [Yz (by rw [kl];exact hv)];unfold kdO;rw [Zx,Z6 hv];rfl) (by rw [wC];have:=oo ts v;lia)
 have se:((OD.ol [.ol [.sh (.tuple [.str "x",.int 2])],.ol [.ol []],.ol [.sh (.bool false)]]).er)=mo:=by
  rw [<-hmo];simp only [dS,aQ,Zw,Yh]
 have ll:((ez ts).length<=BIG)=True:=by rw [mQ];exact lb
 generalize hso:OD.ol [.ol [.sh (.tuple [.str "x",.int 2])],.ol [.ol []],.ol [.sh (.bool false)]]=so at *
 push_cast only [jL,jJ,FZ,wB,er0,od,bk,cJ,hn,rg,d0,d1,IG,Gn,Jl,k0,ll,mQ,d3,st,se,↓x0,↓x1,↓x2,↓x3];refine ⟨_,rfl,?_⟩;unfold stK;rw [mP];rfl
end
theorem BU (ts:List Nd) (hl:ts.length<=40) (g:Int):bF 3 bP (.oi none "Easel" []) [.list (ai ts),.int g] (.oi none "Easel" (bo ts g F0 (.list (nD (range ts.length)))),.sh .none):=by
 refine ⟨rfl,λa=>?_⟩
 unfold bP;show ∃ρ',dc _ _ [some (.oi (some a) "Easel" []),some (.sh (.list (ai ts))),some (.sh (.int g))]=.ok (ρ',.sh .none)/\_
 have lb:(ts.length<=BIG)=True:=az (by lia)
 have tb:decide (("Easel" : Str) = "Easel")=true:=by decide +kernel
 have a1:∀(f:Str) (y:OD) (ds:List (Str×Gc)) (ρ:L3.Env),ds.length<1000->yE 0 (λnm=>decide (nm = "Easel")) f ρ y (some (some (.oi (some a) "Easel" ds)))=.ok (.nx (ρ.set 0 (some (.oi (some a) "Easel" (bO f y.er ds))))):=λf y ds ρ h=>BI tb h
 have lr:l9 [.int (ts.length:Int)]=.ok (.ol (nO (range ts.length))):=AQ _ (by lia)
 have n1:("tree" : Str) ≠ "gap" := by decide +kernel
 have n2:("tree" : Str) ≠ "folds" := by decide +kernel
 have n3:("gap" : Str) ≠ "folds" := by decide +kernel
 have n4:("tree" : Str) ≠ "anew" := by decide +kernel
 have n5:("gap" : Str) ≠ "anew" := by decide +kernel
 have n6:("folds" : Str) ≠ "anew" := by decide +kernel
 have z0:([]:List (Str×Gc)).length<1000:=by decide
 have z1:∀x,([x]:List (Str×Gc)).length<1000:=λ_=>(show (1:Nat)<1000 by decide)
 have z2:∀x y,([x,y]:List (Str×Gc)).length<1000:=λ_ _=>(show (2:Nat)<1000 by decide)
 have z3:∀x y z,([x,y,z]:List (Str×Gc)).length<1000:=λ_ _ _=>(show (3:Nat)<1000 by decide)
 have q1:bO "tree" (.list (ai ts)) []=[(("tree" : Str),PyData.list (ai ts))]:=rfl;have q2:bO "gap" (.int g) [(("tree" : Str),PyData.list (ai ts))]=([("tree",.list (ai ts)),("gap",.int g)]:List (Str×Gc)):=by rw [bO,N2 n1,bO]
 have q3:bO "folds" (.list []) [(("tree" : Str),PyData.list (ai ts)),("gap",.int g)]=([("tree",.list (ai ts)),("gap",.int g),("folds",.list [])]:List (Str×Gc)):=by rw [bO,N2 n2,bO,N2 n3,bO]
 have q4:bO "anew" (.list (nD (range ts.length))) [(("tree" : Str),PyData.list (ai ts)),("gap",.int g),("folds",.list [])]=([("tree",.list (ai ts)),("gap",.int g),("folds",.list []),("anew",.list (nD (range ts.length)))]:List (Str×Gc)):=by rw [bO,N2 n4,bO,N2 n5,bO,N2 n6,bO]
 have s1:=a1 "tree" (.ol ((ai ts).map OD.sh)) [] [some (.oi (some a) "Easel" []),some (.sh (.list (ai ts))),some (.sh (.int g))] z0;have s2:=a1 "gap" (.sh (.int g)) [(("tree" : Str),PyData.list (ai ts))] [some (.oi (some a) "Easel" [(("tree" : Str),PyData.list (ai ts))]),some (.sh (.list (ai ts))),some (.sh (.int g))] (z1 _);have s3:=a1 "folds" (.ol []) [(("tree" : Str),PyData.list (ai ts)),("gap",.int g)] [some (.oi (some a) "Easel" [(("tree" : Str),PyData.list (ai ts)),("gap",.int g)]),some (.sh (.list (ai ts))),some (.sh (.int g))] (z2 _ _);have s4:=a1 "anew" (.ol (nO (range ts.length))) [(("tree" : Str),PyData.list (ai ts)),("gap",.int g),("folds",.list [])] [some (.oi (some a) "Easel" [(("tree" : Str),PyData.list (ai ts)),("gap",.int g),("folds",.list [])]),some (.sh (.list (ai ts))),some (.sh (.int g))] (z3 _ _ _);rw [dS,aX,q1]at s1;rw [aQ,q2]at s2;rw [dS,Yh,q3]at s3;rw [dS,cJ,q4]at s4;push_cast only [jL,jJ,sy,BJ,ay,lb,lr,↓s1,↓s2,↓s3,↓s4];refine ⟨_,rfl,?_⟩;unfold bo;rw [fd0];rfl
section
variable {ts us:List Nd} {g:Int} {fl fl2:Nat->Bool} {an:Gc} {ks ks2:List OD}
theorem A7:mG "Easel" (bo ts g fl an)=esD ts g fl an:=rfl
theorem Iq:o9 "anew" (esD ts g fl an)=some an:=by
 show b9 "anew" ((bo ts g fl an).map λp=>(.tuple [.str p.1],p.2))=_
 unfold bo;rw [Zw,Zw,Zw,Zw,Yh,bE,N2 (show ¬("anew" : Str)=("tree" : Str) by decide +kernel),bE,N2 (show ¬("anew" : Str)=("gap" : Str) by decide +kernel),bE,N2 (show ¬("anew" : Str)=("folds" : Str) by decide +kernel),bE,N1 rfl]
theorem zZ {L:List Nat} (hl:L.length<=100):b6 [esD ts g fl (.list (nD L))]=.ok (.ol (nO L)):=by
 unfold b6 fu;have h2:=Iq (ts:=ts) (g:=g) (fl:=fl) (an:=.list (nD L));have h3:dY (esD ts g fl (.list (nD L)))=some ("Easel" : Str):=rfl;push_cast only [lJ,o7,h2,h3];rfl
theorem r9 {ρ:L3.Env} {d:Gc} {y:OD} (h3:ρ[3]?=some (some (stK ts ks fl))) (h5:ρ[5]?=some (some (.sh d))) (hr:bF 8 aW (stK ts ks fl) [d] (stK us ks2 fl2,y)):eO 8 3 aW (aa (ae 5) ag) ρ=.ok (.nx (ρ.set 3 (some (stK us ks2 fl2)))):=by
 have ha:aa (ae 5) ag ρ=.ok [.sh d]:=by
  unfold aa ae ag;rw [h5];rfl
 unfold eO p9;rw [h3];show ((aa (ae 5) ag ρ).bind (λys=>(gX 8 aW (stK ts ks fl) (ys.map OD.er)).bind λr=>.ok (ρ.set 3 (some (q_ (stK ts ks fl) r.1)),r.2))).bind (λr=>R.ok (Out.nx r.1))=_
 rw [ha,aC,Zw,Yh,aQ,qF hr,aC];rfl
theorem zd (he:EL ts):chN ts (ts.length-1)=[]:=List.filter_eq_nil_iff.mpr λk hk=>by
 rw [Yk]at hk;rw [Zk];rcases elt he hk with ⟨z,_⟩ | ⟨j,z,hj⟩ <;> lia
theorem JT {v:Nat} (he:EL ts) (hv:v<ts.length):mY (ts1 ts v) v=true:=by
 have e:eOf (ts1 ts v) (v+1)=(v:Int):=(xo he hv (by lia) (by lia)).mpr (by
  have a:sg ts.length v 1 (v+1)=ts.length:=by
   unfold sg;rw [N2 (by lia),N1 (Zi _),Xf]
   rfl
  have b:sg ts.length v 1 v=v:=by
   unfold sg;rw [N1 (Zi _)]
  rw [a,b,uh])
 have m:v+1∈chN (ts1 ts v) v:=iI.mpr ⟨by rw [kh hv];lia,e⟩
 unfold mY;cases hc:chN (ts1 ts v) v with
 |nil=>rw [hc]at m;cases m
 |cons a r=>rfl
theorem IB {n v:Nat} (hv:v<n):(λi=>eZ F0 v true (sg n v 1 i))=eZ F0 v true:=funext λi=>by
 have e:sg n v 1 i=v ↔ i=v:=by
  unfold sg;split
  ·lia
  ·split <;> lia
 unfold eZ;by_cases z:i=v
 ·rw [N1 z,N1 (e.mpr z)]
 ·rw [N2 z,N2 (λw=>z (e.mp w))]
end
theorem DM (v:Option OD) (r:L3.Env):L3.erase (v :: r)=(v.map λx=>OD.sh x.er) :: L3.erase r:=rfl
theorem Df:L3.erase []=[]:=rfl
theorem BX (ns:List Int) (hn:ns.length<=63):rK [.list (ns.map PyData.int)]=.ok (.sh (.bool true)):=by
 unfold rK wV;obtain ⟨z0,hz0⟩:=pB ns 0 (by decide) (by decide)
 obtain ⟨z1,hz1⟩:=pB ns 1 (by decide) (by decide)
 obtain ⟨z16,hz16⟩:=pB ns 16 (by decide) (by decide)
 have m12:=de z0 (show (0:Int)<12 by decide)
 obtain ⟨many,hm⟩:∃many:Nat,1+z0 % 12=(many:Int):=⟨(1+z0 % 12).toNat,by lia⟩
 obtain ⟨ts,way,gr,tl,ht⟩:=EX ns 2 many 9 7 (by decide) (by decide) (by lia) (by lia) (by decide) (by decide) (by decide) (by decide)
 have gr:Grown 7 ts way:=gr;have he:EL ts:=gr.elder;have h0:=gr.pos.1;have hl:ts.length<=12:=by lia
 have lb:(ts.length<=BIG)=True:=az (by lia)
 generalize hg:1+z1 % 20=g
 have hz0':=de (z16 * 48271) (show (0:Int)<1000003 by decide)
 generalize hz:z16 * 48271 % 1000003=z at hz0'
 have zn:0<=z:=hz0'.1;have p0:(0:Int)<(ts.length:Int):=by lia
 have pp:(0<(ts.length:Int)/\(ts.length:Int)<1073741824)=True:=eq_true ⟨by lia,by lia⟩
 have r:=de z p0;obtain ⟨v,hvz⟩:∃v:Nat,z % (ts.length:Int)=(v:Int):=⟨_,(Wv r.1).symm⟩;have hv:v<ts.length:=by lia
 obtain ⟨c,p,_⟩:=qH gr;obtain ⟨w1,g1⟩:=nZ gr hv;obtain ⟨c1,p1,_⟩:=qH g1;have l1:=kh hv;have st:=vD ts he h0 (by lia)
 have nw:∀v2 v3 v4 v5:Option OD,sQ "Easel" 3 bP (aa (eB eL (aa (ae 1) ag)) (aa (eOp bQ (eC (.int 1)) (eOp eJ (ak bL (aa (ae 0) (aa (eC (.int 1)) ag))) (eC (.int 20)))) ag)) [some (.sh (.list (ns.map PyData.int))),some (.sh (.list (ai ts))),v2,v3,v4,v5]=.ok (.oi none "Easel" (bo ts g F0 (.list (nD (range ts.length))))):=λv2 v3 v4 v5=>by
  have ha:(aa (eB eL (aa (ae 1) ag)) (aa (eOp bQ (eC (.int 1)) (eOp eJ (ak bL (aa (ae 0) (aa (eC (.int 1)) ag))) (eC (.int 20)))) ag)) [some (.sh (.list (ns.map PyData.int))),some (.sh (.list (ai ts))),v2,v3,v4,v5]=.ok [.ol ((ai ts).map OD.sh),.sh (.int g)]:=by push_cast only [hz1,hg,ay,lb]
  unfold sQ;rw [ha,aC,Zw,Zw,Yh,aQ,dS,aX,qF (BU ts (by lia) g),aC]
 have f1:=tH (g:=g) (fl:=F0) (an:=.list (nD (range ts.length))) (show ts.length<=40 by lia) h0 zn
 have f2:=qJ (g:=g) (fl:=F0) (an:=.list (nD (range ts.length))) (show ts.length<=40 by lia) h0 he (λ_=>rfl) (zd he) zn
 have f3:=o4 (g:=g) (fl:=F0) (an:=.list (nD (range ts.length))) (show ts.length<=40 by lia) h0 zn
 have f4:=rb (g:=g) (fl:=F0) (an:=.list (nD (range ts.length))) gr hl zn;have k0:bM [esD ts g F0 (.list (nD (range ts.length))),stD ts (chN ts) F0,.int z]=.ok (.sh (.bool true)):=rG (fl:=F0) (E8 he) p (by lia) z
 have rd:=zZ (ts:=ts) (g:=g) (fl:=F0) (L:=range ts.length) (by rw [Zu];lia)
 have rm:∀v0 v1 v3 v4 v5:Option OD,bG (λnm=>List.lookup nm [("Easel",b6)]) "redrawn" (ae 2) ag [v0,v1,some (.sh (esD ts g F0 (.list (nD (range ts.length))))),v3,v4,v5]=.ok (.ol (nO (range ts.length))):=λv0 v1 v3 v4 v5=>nS (qC (by simp)) rd rfl
 have lr:l9 [.int (ts.length:Int)]=.ok (.ol (nO (range ts.length))):=AQ _ (by lia)
 have al:bI [.list (nD (range ts.length)),.list (nD (range ts.length))]=.ok (.sh (.bool true)):=tW (wy _ _ (by rw [Zu];lia))
 obtain ⟨an2,hr2⟩:=DJ (g:=g) (an:=.list (nD (range ts.length))) gr hl hv;have sx1:∀(s1 s2:Fs) (v0 v1 v3 v4:Option OD),uA 4 2 br (aa (ae 5) ag) 0 s1 s2 [v0,v1,some (.oi none "Easel" (bo ts g F0 (.list (nD (range ts.length))))),v3,v4,some (.sh (f_ v))]=s2 [v0,v1,some (.oi none "Easel" (bo (ts1 ts v) g F0 an2)),v3,v4,some (.sh (f_ v))]:=λs1 s2 v0 v1 v3 v4=>x_ rfl rfl (vP (xk (qC (by simp)) hr2))
 have dc1:∀v0 v1 v2 v4:Option OD,eO 8 3 aW (aa (ae 5) ag) [v0,v1,v2,some (stK ts (kdO ts.length (chN ts)) F0),v4,some (.sh (f_ v))]=.ok (.nx [v0,v1,v2,some (stK (us1 ts v) (ks1 ts v) F0),v4,some (.sh (f_ v))]):=λv0 v1 v2 v4=>r9 rfl rfl (Ct gr hl hv)
 have f5:aj [esD (ts1 ts v) g F0 an2,.tuple [.str "unfold",.int (v:Int)],.int 2]=.ok (.sh (.bool true)):=wK (wO (B0 (xJ (by lia) rfl)))
 have k1:bM [esD (ts1 ts v) g F0 an2,stD (us1 ts v) (ch1 ts v) F0,.int (z / 3)]=.ok (.sh (.bool true)):=rG (fl:=F0) (w9 gr hv) p1 (by lia) (z / 3)
 obtain ⟨an3,hr3⟩:=Bq (ts:=ts1 ts v) (g:=g) (fl:=F0) (an:=an2) (k:=v) g1.elder (by lia) (λ_ _ z=>by cases z) (by lia) rfl (JT he hv)
 have sx2:∀(s1 s2:Fs) (v0 v1 v3 v4:Option OD),uA 4 2 br (aa (ae 5) ag) 0 s1 s2 [v0,v1,some (.oi none "Easel" (bo (ts1 ts v) g F0 an2)),v3,v4,some (.sh (ir v))]=s2 [v0,v1,some (.oi none "Easel" (bo (ts1 ts v) g (eZ F0 v true) an3)),v3,v4,some (.sh (ir v))]:=λs1 s2 v0 v1 v3 v4=>x_ rfl rfl (vP (u_ (qC (by simp)) hr3))
 have f6:aj [esD (ts1 ts v) g (eZ F0 v true) an3,ir v,.int 2]=.ok (.sh (.bool true)):=wK (uH (xR (wq (by lia) (by lia) (.inl (by unfold eZ;rw [N1 rfl])))))
 have dc2:∀v0 v1 v2 v4:Option OD,eO 8 3 aW (aa (ae 5) ag) [v0,v1,v2,some (stK (us1 ts v) (ks1 ts v) F0),v4,some (.sh (ir v))]=.ok (.nx [v0,v1,v2,some (stK (us1 ts v) (ks1 ts v) (eZ F0 v true)),v4,some (.sh (ir v))]):=λv0 v1 v2 v4=>r9 rfl rfl (zW (w9 gr hv) p1 (by lia) (xj he hv) (by lia) (by unfold sg;rw [N1 (Zi _)]))
 have k2:=rG (g:=g) (an:=an3) (fl:=eZ F0 v true) (w9 gr hv) p1 (by lia) (z / 9)
 rw [IB hv]at k2;have e1:=A7 (ts:=ts) (g:=g) (fl:=F0) (an:=.list (nD (range ts.length)));have e2:=uD F0 (AM ts.length (chN ts));have e3:=A7 (ts:=ts1 ts v) (g:=g) (fl:=F0) (an:=an2);have e4:=uD F0 (xj he hv);have e5:=A7 (ts:=ts1 ts v) (g:=g) (fl:=eZ F0 v true) (an:=an3);have e6:=uD (eZ F0 v true) (xj he hv);have pd:PyData.tuple [.str "put",.int (v:Int),.int 0,.list [.tuple [.int (-1),.str "x",.int 2]]]=f_ v:=rfl;have fd:PyData.tuple [.str "fold",.int (v:Int)]=ir v:=rfl;push_cast only [hz0,hm,ht,aX,↓nw,st,hz16,hz,DM,Df,Option.map_some,Option.map_none,A0,e1,e2,ay,lb,f1,f2,f3,f4,k0,rm,cJ,lr,al,p0,pp,hvz,pd,↓sx1,↓dc1,e3,e4,f5,k1,fd,↓sx2,e5,e6,f6,↓dc2,k2]
theorem all_mk {l:PySem.W.OpenLaw} {K:At} {h:N0} {mg:Str->Ch} (X:K.In h) (G:h.Ns mainGlobals mg) (hfa:mg "law" = some (.ref fa)) (q1y:nsIn K mainGlobals "Easel" = some (some (.ref q8))) (q1z:nsIn K mainGlobals "check_node" = some (some (.ref q9))) (q20:∃d,Fun K "check_node" "check_node" jV q9 d) (q21:nsIn K mainGlobals "node_levels" = some (some (.ref qa))) (q22:∃d,Fun K "node_levels" "node_levels" iz qa d) (q23:nsIn K mainGlobals "bough_end" = some (some (.ref qb))) (q24:∃d,Fun K "bough_end" "bough_end" lN qb d) (q25:nsIn K mainGlobals "renumbered" = some (some (.ref qc))) (q26:∃d,Fun K "renumbered" "renumbered" eV qc d) (q27:findIn K (.ref q8) "__init__" = some (some (.ref qd))) (q28:isFn K (.ref qd)=true) (q29:∃d,Fun K "__init__" "Easel.__init__" e_ qd d) (q2a:findIn K (.ref q8) "whole" = some (some (.ref qe))) (q2b:isFn K (.ref qe)=true) (q2c:∃d,Fun K "whole" "Easel.whole" iA qe d) (q2d:findIn K (.ref q8) "folded" = some (some (.ref qf))) (q2e:isFn K (.ref qf)=true) (q2f:∃d,Fun K "folded" "Easel.folded" gD qf d) (q2g:findIn K (.ref q8) "redrawn" = some (some (.ref qg))) (q2h:isFn K (.ref qg)=true) (q2i:∃d,Fun K "redrawn" "Easel.redrawn" fV qg d) (q2j:nsIn K mainGlobals "unchanged" = some (some (.ref qh))) (q2k:∃d,Fun K "unchanged" "unchanged" kX qh d) (q2l:nsIn K mainGlobals "kept_folds" = some (some (.ref qi))) (q2m:∃d,Fun K "kept_folds" "kept_folds" eE qi d) (q2n:nsIn K mainGlobals "with_elders" = some (some (.ref qj))) (q2o:∃d,Fun K "with_elders" "with_elders" ic qj d) (q2p:nsIn K mainGlobals "_law_cell" = some (some (.ref qk))) (q2q:∃d,Fun K "_law_cell" "_law_cell" lD qk d) (q2r:nsIn K mainGlobals "_law_whole" = some (some (.ref ql))) (q2s:∃d,Fun K "_law_whole" "_law_whole" jO ql d) (q2t:nsIn K mainGlobals "_law_label" = some (some (.ref qm))) (q2u:∃d,Fun K "_law_label" "_law_label" jK qm d) (q2v:nsIn K mainGlobals "_law_start" = some (some (.ref qn))) (q2w:∃d,Fun K "_law_start" "_law_start" eX qn d) (q2x:nsIn K mainGlobals "_law_order" = some (some (.ref qo))) (q2y:∃d,Fun K "_law_order" "_law_order" jT qo d) (q2z:nsIn K mainGlobals "_law_elders" = some (some (.ref qp))) (q30:∃d,Fun K "_law_elders" "_law_elders" iG qp d) (q31:nsIn K mainGlobals "_law_kinds" = some (some (.ref qq))) (q32:∃d,Fun K "_law_kinds" "_law_kinds" kj qq d) (q33:nsIn K mainGlobals "_law_chain" = some (some (.ref qr))) (q34:∃d,Fun K "_law_chain" "_law_chain" gk qr d) (q35:nsIn K mainGlobals "_law_far" = some (some (.ref qs))) (q36:∃d,Fun K "_law_far" "_law_far" mF qs d) (q37:nsIn K mainGlobals "children_of" = some (some (.ref qt))) (q38:∃d,Fun K "children_of" "children_of" fJ qt d) (q39:nsIn K mainGlobals "shown" = some (some (.ref qu))) (q3a:∃d,Fun K "shown" "shown" pE qu d) (q3b:nsIn K mainGlobals "check_unfold" = some (some (.ref qv))) (q3c:∃d,Fun K "check_unfold" "check_unfold" gF qv d) (q3d:nsIn K mainGlobals "numbers_beside" = some (some (.ref qw))) (q3e:∃d,Fun K "numbers_beside" "numbers_beside" fA qw d) (q3f:nsIn K mainGlobals "number_behind" = some (some (.ref qx))) (q3g:∃d,Fun K "number_behind" "number_behind" fY qx d) (q3h:nsIn K mainGlobals "bounded" = some (some (.ref qy))) (q3i:∃d,Fun K "bounded" "bounded" nU qy d) (q3j:nsIn K mainGlobals "_law_tree" = some (some (.ref qz))) (q3k:∃d,Fun K "_law_tree" "_law_tree" lO qz d) (q3l:nsIn K mainGlobals "_law_rows" = some (some (.ref q10))) (q3m:∃d,Fun K "_law_rows" "_law_rows" kR q10 d) (q3n:nsIn K mainGlobals "_law_done" = some (some (.ref q11))) (q3o:∃d,Fun K "_law_done" "_law_done" g_ q11 d) (q3p:nsIn K mainGlobals "check_fold" = some (some (.ref q12))) (q3q:∃d,Fun K "check_fold" "check_fold" kE q12 d) (q3r:nsIn K mainGlobals "cut_off" = some (some (.ref q13))) (q3s:∃d,Fun K "cut_off" "cut_off" oF q13 d) (q3t:nsIn K mainGlobals "put_in" = some (some (.ref q14))) (q3u:∃d,Fun K "put_in" "put_in" rL q14 d) (q3v:nsIn K mainGlobals "moved" = some (some (.ref q15))) (q3w:∃d,Fun K "moved" "moved" lV q15 d) (q3x:findIn K (.ref q8) "seen" = some (some (.ref q16))) (q3y:isFn K (.ref q16)=true) (q3z:∃d,Fun K "seen" "Easel.seen" kf q16 d) (q40:findIn K (.ref q8) "settle" = some (some (.ref q17))) (q41:isFn K (.ref q17)=true) (q42:∃d,Fun K "settle" "Easel.settle" dv q17 d) (q43:findIn K (.ref q8) "fold" = some (some (.ref q18))) (q44:isFn K (.ref q18)=true) (q45:∃d,Fun K "fold" "Easel.fold" jX q18 d) (q46:findIn K (.ref q8) "unfold" = some (some (.ref q19))) (q47:isFn K (.ref q19)=true) (q48:∃d,Fun K "unfold" "Easel.unfold" eT q19 d) (q49:findIn K (.ref q8) "cut" = some (some (.ref q1a))) (q4a:isFn K (.ref q1a)=true) (q4b:∃d,Fun K "cut" "Easel.cut" k7 q1a d) (q4c:findIn K (.ref q8) "put" = some (some (.ref q1b))) (q4d:isFn K (.ref q1b)=true) (q4e:∃d,Fun K "put" "Easel.put" lg q1b d) (q4f:findIn K (.ref q8) "move" = some (some (.ref q1c))) (q4g:isFn K (.ref q1c)=true) (q4h:∃d,Fun K "move" "Easel.move" jM q1c d) (q4i:nsIn K mainGlobals "_law_do" = some (some (.ref q1d))) (q4j:∃d,Fun K "_law_do" "_law_do" oG q1d d) (q4k:nsIn K mainGlobals "_law_alike" = some (some (.ref q1e))) (q4l:∃d,Fun K "_law_alike" "_law_alike" jW q1e d) (q4m:nsIn K mainGlobals "_law_said" = some (some (.ref q1f))) (q4n:∃d,Fun K "_law_said" "_law_said" lj q1f d) (q4o:nsIn K mainGlobals "_law_looks" = some (some (.ref q1g))) (q4p:∃d,Fun K "_law_looks" "_law_looks" eP q1g d) (q4q:nsIn K mainGlobals "_law_refused" = some (some (.ref q1h))) (q4r:∃d,Fun K "_law_refused" "_law_refused" eR q1h d) (q4s:nsIn K mainGlobals "_law_strangers" = some (some (.ref q1i))) (q4t:∃d,Fun K "_law_strangers" "_law_strangers" fi q1i d) (q4u:nsIn K mainGlobals "_law_wrong_deeds" = some (some (.ref q1j))) (q4v:∃d,Fun K "_law_wrong_deeds" "_law_wrong_deeds" eg q1j d) (q4w:nsIn K mainGlobals "_law_wrong_places" = some (some (.ref q1k))) (q4x:∃d,Fun K "_law_wrong_places" "_law_wrong_places" bT q1k d) (q4y:nsIn K mainGlobals "_law_wrong_trees" = some (some (.ref q1l))) (q4z:∃d,Fun K "_law_wrong_trees" "_law_wrong_trees" d_ q1l d) (q50:nsIn K mainGlobals "law" = some (some (.ref q1m))) (q51:K.lookup q1m=some ⟨q1q,q1n,.func (fnOf "law" "law" (lY mS) (d6 mS) (ah mS) .none q1r q1s q1t q1o q1u q1v),q1p⟩) (q52:codeIn K q1u "law" = true) (q53:keepIn K (.ref q1m)=true) (q54:plainGet K q8 Str.empty=true) (q55:hasDictIn K q8=true) (q56:plainOver K q8=true) (q57:findIn K (.ref q8) "__setattr__" = some (some (.builtin "object.__setattr__"))) (q58:makesIn K q8=true) (q59:keepIn K (.ref q8)=true) (q5a:findIn K (.ref q8) "__class__" = some (some (.builtin "object.__class__"))) (q5b:mroIn K q8 (.type "object")=some true) (q5c:findIn K (.ref q8) "tree" = some none) (q5d:findIn K (.ref q8) "gap" = some none) (q5e:findIn K (.ref q8) "folds" = some none) (q5f:findIn K (.ref q8) "anew" = some none) (q5g:findIn K (.ref q8) "cut" = some (some (.ref q1a))) (q5h:findIn K (.ref q8) "fold" = some (some (.ref q18))) (q5i:findIn K (.ref q8) "folded" = some (some (.ref qf))) (q5j:findIn K (.ref q8) "move" = some (some (.ref q1c))) (q5k:findIn K (.ref q8) "put" = some (some (.ref q1b))) (q5l:findIn K (.ref q8) "redrawn" = some (some (.ref qg))) (q5m:findIn K (.ref q8) "seen" = some (some (.ref q16))) (q5n:findIn K (.ref q8) "settle" = some (some (.ref q17))) (q5o:findIn K (.ref q8) "unfold" = some (some (.ref q19))) (q5p:findIn K (.ref q8) "whole" = some (some (.ref qe))) (q5q:kitOne K (.ref q8) (.ref q8)=some true) (gg:specialIn K (.builtin "object.__class__") "__get__" = some (some (.builtin "getset_descriptor.__get__"))) (gt:takesIn K (.builtin "object.__class__")=some true) (q5r:nsIn K mainGlobals "ValueError" = some none) (q5s:nsIn K mainGlobals "bool" = some none) (q5t:nsIn K mainGlobals "enumerate" = some none) (q5u:nsIn K mainGlobals "int" = some none) (q5v:nsIn K mainGlobals "isinstance" = some none) (q5w:nsIn K mainGlobals "len" = some none) (q5x:nsIn K mainGlobals "list" = some none) (q5y:nsIn K mainGlobals "max" = some none) (q5z:nsIn K mainGlobals "min" = some none) (q60:nsIn K mainGlobals "range" = some none) (q61:nsIn K mainGlobals "sorted" = some none) (q62:nsIn K mainGlobals "str" = some none) (q63:nsIn K mainGlobals "tuple" = some none) (q64:nsIn K mainGlobals "zip" = some none) (q65:nsIn K mainGlobals "GREATEST_LEVEL" = some (some (.int 8 q1w))) (q66:nsIn K mainGlobals "MOST_NODES" = some (some (.int 40 q1x))) (q67:nsIn K mainGlobals "DrawError" = some (some (.ref q0))) (q68:nsIn K mainGlobals "NoDeed" = some (some (.ref q1))) (q69:nsIn K mainGlobals "NoNode" = some (some (.ref q2))) (q6a:nsIn K mainGlobals "NoPicture" = some (some (.ref q3))) (q6b:nsIn K mainGlobals "NoPlace" = some (some (.ref q4))) (q6c:nsIn K mainGlobals "NoText" = some (some (.ref q5))) (q6d:nsIn K mainGlobals "NoTree" = some (some (.ref q6))) (q6e:nsIn K mainGlobals "TooMany" = some (some (.ref q7))) (q6f:excIn K q1 [.type "ValueError",.type "Exception",.type "BaseException",.type "object"] "ValueError.__new__" = true) (q6g:findIn K (.ref q1) "__getattribute__" = some (some (.builtin "BaseException.__getattribute__"))) (q6h:findIn K (.ref q1) "__class__" = some (some (.builtin "object.__class__"))) (q6i:findIn K (.ref q1) "__getattr__" = some none) (q6j:mroIn K q1 (.type "object")=some true) (q6k:excIn K q2 [.type "ValueError",.type "Exception",.type "BaseException",.type "object"] "ValueError.__new__" = true) (q6l:findIn K (.ref q2) "__getattribute__" = some (some (.builtin "BaseException.__getattribute__"))) (q6m:findIn K (.ref q2) "__class__" = some (some (.builtin "object.__class__"))) (q6n:findIn K (.ref q2) "__getattr__" = some none) (q6o:mroIn K q2 (.type "object")=some true) (q6p:excIn K q4 [.type "ValueError",.type "Exception",.type "BaseException",.type "object"] "ValueError.__new__" = true) (q6q:findIn K (.ref q4) "__getattribute__" = some (some (.builtin "BaseException.__getattribute__"))) (q6r:findIn K (.ref q4) "__class__" = some (some (.builtin "object.__class__"))) (q6s:findIn K (.ref q4) "__getattr__" = some none) (q6t:mroIn K q4 (.type "object")=some true) (q6u:excIn K q6 [.type "ValueError",.type "Exception",.type "BaseException",.type "object"] "ValueError.__new__" = true) (q6v:findIn K (.ref q6) "__getattribute__" = some (some (.builtin "BaseException.__getattribute__"))) (q6w:findIn K (.ref q6) "__class__" = some (some (.builtin "object.__class__"))) (q6x:findIn K (.ref q6) "__getattr__" = some none) (q6y:mroIn K q6 (.type "object")=some true) (q6z:excIn K q0 [.type "ValueError",.type "Exception",.type "BaseException",.type "object"] "ValueError.__new__" = true) (q70:subIn K (.ref q1) (.ref q0)=some true) (q71:subIn K (.ref q2) (.ref q0)=some true) (q72:subIn K (.ref q4) (.ref q0)=some true) (q73:subIn K (.ref q6) (.ref q0)=some true) (q74:kitOne K (.ref q1) (.ref q1)=some true) (q75:kitOne K (.ref q1) (.ref q2)=some false) (q76:kitOne K (.ref q1) (.ref q3)=some false) (q77:kitOne K (.ref q1) (.ref q4)=some false) (q78:kitOne K (.ref q1) (.ref q5)=some false) (q79:kitOne K (.ref q1) (.ref q6)=some false) (q7a:kitOne K (.ref q1) (.ref q7)=some false) (q7b:kitOne K (.ref q2) (.ref q1)=some false) (q7c:kitOne K (.ref q2) (.ref q2)=some true) (q7d:kitOne K (.ref q2) (.ref q3)=some false) (q7e:kitOne K (.ref q2) (.ref q4)=some false) (q7f:kitOne K (.ref q2) (.ref q5)=some false) (q7g:kitOne K (.ref q2) (.ref q6)=some false) (q7h:kitOne K (.ref q2) (.ref q7)=some false) (q7i:kitOne K (.ref q4) (.ref q1)=some false) (q7j:kitOne K (.ref q4) (.ref q2)=some false) (q7k:kitOne K (.ref q4) (.ref q3)=some false) (q7l:kitOne K (.ref q4) (.ref q4)=some true) (q7m:kitOne K (.ref q4) (.ref q5)=some false) (q7n:kitOne K (.ref q4) (.ref q6)=some false) (q7o:kitOne K (.ref q4) (.ref q7)=some false) (q7p:kitOne K (.ref q6) (.ref q1)=some false) (q7q:kitOne K (.ref q6) (.ref q2)=some false) (q7r:kitOne K (.ref q6) (.ref q3)=some false) (q7s:kitOne K (.ref q6) (.ref q4)=some false) (q7t:kitOne K (.ref q6) (.ref q5)=some false) (q7u:kitOne K (.ref q6) (.ref q6)=some true) (q7v:kitOne K (.ref q6) (.ref q7)=some false) (q7w:kitOne K (.ref q1) (.type "ValueError")=some true) (q7x:kitOne K (.ref q2) (.type "ValueError")=some true) (q7y:kitOne K (.ref q4) (.type "ValueError")=some true) (q7z:kitOne K (.ref q6) (.type "ValueError")=some true) :
  ∃fd:Fk,(∀(s:Da) (v:Db),BindsTo s fd ⟨[v],[]⟩ [("_law_script",v)])/\∀base:N0,K.In base->base.Ns mainGlobals mg->FnOk l.prog w K mg base CX0 9 fa fd ["_law_script"] (sp3 K mg rK):=by
 have e:=hfa.symm.trans (Zf X G q50);cases e;obtain ⟨q80,q81⟩:=q20;obtain ⟨q82,q83⟩:=q22;obtain ⟨q84,q85⟩:=q24;obtain ⟨q86,q87⟩:=q26;obtain ⟨q88,q89⟩:=q29;obtain ⟨q8a,q8b⟩:=q2c;obtain ⟨q8c,q8d⟩:=q2f;obtain ⟨q8e,q8f⟩:=q2i;obtain ⟨q8g,q8h⟩:=q2k;obtain ⟨q8i,q8j⟩:=q2m;obtain ⟨q8k,q8l⟩:=q2o;obtain ⟨q8m,q8n⟩:=q2q;obtain ⟨q8o,q8p⟩:=q2s;obtain ⟨q8q,q8r⟩:=q2u;obtain ⟨q8s,q8t⟩:=q2w;obtain ⟨q8u,q8v⟩:=q2y;obtain ⟨q8w,q8x⟩:=q30;obtain ⟨q8y,q8z⟩:=q32;obtain ⟨q90,q91⟩:=q34;obtain ⟨q92,q93⟩:=q36;obtain ⟨q94,q95⟩:=q38;obtain ⟨q96,q97⟩:=q3a;obtain ⟨q98,q99⟩:=q3c;obtain ⟨q9a,q9b⟩:=q3e;obtain ⟨q9c,q9d⟩:=q3g;obtain ⟨q9e,q9f⟩:=q3i;obtain ⟨q9g,q9h⟩:=q3k;obtain ⟨q9i,q9j⟩:=q3m;obtain ⟨q9k,q9l⟩:=q3o;obtain ⟨q9m,q9n⟩:=q3q;obtain ⟨q9o,q9p⟩:=q3s;obtain ⟨q9q,q9r⟩:=q3u;obtain ⟨q9s,q9t⟩:=q3w;obtain ⟨q9u,q9v⟩:=q3z;obtain ⟨q9w,q9x⟩:=q42;obtain ⟨q9y,q9z⟩:=q45;obtain ⟨qa0,qa1⟩:=q48;obtain ⟨qa2,qa3⟩:=q4b;obtain ⟨qa4,qa5⟩:=q4e;obtain ⟨qa6,qa7⟩:=q4h;obtain ⟨qa8,qa9⟩:=q4j;obtain ⟨qaa,qab⟩:=q4l;obtain ⟨qac,qad⟩:=q4n;obtain ⟨qae,qaf⟩:=q4p;obtain ⟨qag,qah⟩:=q4r;obtain ⟨qai,qaj⟩:=q4t;obtain ⟨qak,qal⟩:=q4v;obtain ⟨qam,qan⟩:=q4x;obtain ⟨qao,qap⟩:=q4z;have qaq:=CG (st:=mS) q51 q52 q53;have T:Wd K mg ⟨q8,q0,q1,q2,q3,q4,q5,q6,q7,q9,qa,qb,qc,qd,qe,qf,qg,qh,qi,qj,qk,ql,qm,qn,qo,qp,qq,qr,qs,qt,qu,qv,qw,qx,qy,qz,q10,q11,q12,q13,q14,q15,q16,q17,q18,q19,q1a,q1b,q1c,q1d,q1e,q1f,q1g,q1h,q1i,q1j,q1k,q1l,_,_,_,_,_,_,_,_,_,_,_,_,_,_,_,_,_,_,_,_,_,_,_,_,_,_,_,_,_,_,_,_,_,_,_,_,_,_,_,_,_,_,_,_,_,_,_,_,_⟩:=⟨Ye X G q5r,Ye X G q5s,Ye X G q5t,Ye X G q5u,Ye X G q5v,Ye X G q5w,Ye X G q5x,Ye X G q5y,Ye X G q5z,Ye X G q60,Ye X G q61,Ye X G q62,Ye X G q63,Ye X G q64,⟨_,Zf X G q65⟩,⟨_,Zf X G q66⟩,Zf X G q67,Zf X G q68,Zf X G q69,Zf X G q6a,Zf X G q6b,Zf X G q6c,Zf X G q6d,Zf X G q6e,⟨q6f,q6g,q6h,q6i,q6j⟩,⟨q6k,q6l,q6m,q6n,q6o⟩,⟨q6p,q6q,q6r,q6s,q6t⟩,⟨q6u,q6v,q6w,q6x,q6y⟩,q6z,q70,q71,q72,q73,q74,q75,q76,q77,q78,q79,q7a,q7b,q7c,q7d,q7e,q7f,q7g,q7h,q7i,q7j,q7k,q7l,q7m,q7n,q7o,q7p,q7q,q7r,q7s,q7t,q7u,q7v,q7w,q7x,q7y,q7z,q1y,Zf X G q1y,⟨⟨q54,q55,q56,q57⟩,q5a,gg,gt,q5b⟩,⟨q58,q27,q28,q59⟩,q5c,q5d,q5e,q5f,⟨q5g,q4a,qa3.kp⟩,⟨q5h,q44,q9z.kp⟩,⟨q5i,q2e,q8d.kp⟩,⟨q5j,q4g,qa7.kp⟩,⟨q5k,q4d,qa5.kp⟩,⟨q5l,q2h,q8f.kp⟩,⟨q5m,q3y,q9v.kp⟩,⟨q5n,q41,q9x.kp⟩,⟨q5o,q47,qa1.kp⟩,⟨q5p,q2b,q8b.kp⟩,q5q,⟨q81,Zf X G q1z,q81.binds λ_ _ _ _ _ _ us hl=>by obtain ⟨_,_,rfl⟩:=ex2 hl;rfl⟩,⟨q83,Zf X G q21,q83.binds λ_ _ _ _ _ _ us hl=>by obtain ⟨_,rfl⟩:=ex1 hl;rfl⟩,⟨q85,Zf X G q23,q85.binds λ_ _ _ _ _ _ us hl=>by obtain ⟨_,_,rfl⟩:=ex2 hl;rfl⟩,⟨q87,Zf X G q25,q87.binds λ_ _ _ _ _ _ us hl=>by obtain ⟨_,_,rfl⟩:=ex2 hl;rfl⟩,⟨q89,q89.binds λ_ _ _ _ _ _ us hl=>by obtain ⟨_,_,_,rfl⟩:=ex3 hl;rfl⟩,⟨q8b,q8b.binds λ_ _ _ _ _ _ us hl=>by obtain ⟨_,rfl⟩:=ex1 hl;rfl⟩,⟨q8d,q8d.binds λ_ _ _ _ _ _ us hl=>by obtain ⟨_,rfl⟩:=ex1 hl;rfl⟩,⟨q8f,q8f.binds λ_ _ _ _ _ _ us hl=>by obtain ⟨_,rfl⟩:=ex1 hl;rfl⟩,⟨q8h,Zf X G q2j,q8h.binds λ_ _ _ _ _ _ us hl=>by obtain ⟨_,rfl⟩:=ex1 hl;rfl⟩,⟨q8j,Zf X G q2l,q8j.binds λ_ _ _ _ _ _ us hl=>by obtain ⟨_,_,rfl⟩:=ex2 hl;rfl⟩,⟨q8l,Zf X G q2n,q8l.binds λ_ _ _ _ _ _ us hl=>by obtain ⟨_,_,rfl⟩:=ex2 hl;rfl⟩,⟨q8n,Zf X G q2p,q8n.binds λ_ _ _ _ _ _ us hl=>by obtain ⟨_,_,rfl⟩:=ex2 hl;rfl⟩,⟨q8p,Zf X G q2r,q8p.binds λ_ _ _ _ _ _ us hl=>by obtain ⟨_,rfl⟩:=ex1 hl;rfl⟩,⟨q8r,Zf X G q2t,q8r.binds λ_ _ _ _ _ _ us hl=>by obtain ⟨_,_,rfl⟩:=ex2 hl;rfl⟩,⟨q8t,Zf X G q2v,q8t.binds λ_ _ _ _ _ _ us hl=>by obtain ⟨_,rfl⟩:=ex1 hl;rfl⟩,⟨q8v,Zf X G q2x,q8v.binds λ_ _ _ _ _ _ us hl=>by obtain ⟨_,_,rfl⟩:=ex2 hl;rfl⟩,⟨q8x,Zf X G q2z,q8x.binds λ_ _ _ _ _ _ us hl=>by obtain ⟨_,rfl⟩:=ex1 hl;rfl⟩,⟨q8z,Zf X G q31,q8z.binds λ_ _ _ _ _ _ us hl=>by obtain ⟨_,rfl⟩:=ex1 hl;rfl⟩,⟨q91,Zf X G q33,q91.binds λ_ _ _ _ _ _ us hl=>by obtain ⟨_,_,rfl⟩:=ex2 hl;rfl⟩,⟨q93,Zf X G q35,q93.binds λ_ _ _ _ _ _ us hl=>by obtain ⟨_,_,rfl⟩:=ex2 hl;rfl⟩,⟨q95,Zf X G q37,q95.binds λ_ _ _ _ _ _ us hl=>by obtain ⟨_,_,rfl⟩:=ex2 hl;rfl⟩,⟨q97,Zf X G q39,q97.binds λ_ _ _ _ _ _ us hl=>by obtain ⟨_,_,rfl⟩:=ex2 hl;rfl⟩,⟨q99,Zf X G q3b,q99.binds λ_ _ _ _ _ _ us hl=>by obtain ⟨_,_,_,rfl⟩:=ex3 hl;rfl⟩,⟨q9b,Zf X G q3d,q9b.binds λ_ _ _ _ _ _ us hl=>by obtain ⟨_,_,rfl⟩:=ex2 hl;rfl⟩,⟨q9d,Zf X G q3f,q9d.binds λ_ _ _ _ _ _ us hl=>by obtain ⟨_,_,_,_,rfl⟩:=ex4 hl;rfl⟩,⟨q9f,Zf X G q3h,q9f.binds λ_ _ _ _ _ _ us hl=>by obtain ⟨_,_,rfl⟩:=ex2 hl;rfl⟩,⟨q9h,Zf X G q3j,q9h.binds λ_ _ _ _ _ _ us hl=>by obtain ⟨_,_,_,_,_,rfl⟩:=ex5 hl;rfl⟩,⟨q9j,Zf X G q3l,q9j.binds λ_ _ _ _ _ _ us hl=>by obtain ⟨_,_,rfl⟩:=ex2 hl;rfl⟩,⟨q9l,Zf X G q3n,q9l.binds λ_ _ _ _ _ _ us hl=>by obtain ⟨_,_,rfl⟩:=ex2 hl;rfl⟩,⟨q9n,Zf X G q3p,q9n.binds λ_ _ _ _ _ _ us hl=>by obtain ⟨_,_,_,rfl⟩:=ex3 hl;rfl⟩,⟨q9p,Zf X G q3r,q9p.binds λ_ _ _ _ _ _ us hl=>by obtain ⟨_,_,rfl⟩:=ex2 hl;rfl⟩,⟨q9r,Zf X G q3t,q9r.binds λ_ _ _ _ _ _ us hl=>by obtain ⟨_,_,_,_,rfl⟩:=ex4 hl;rfl⟩,⟨q9t,Zf X G q3v,q9t.binds λ_ _ _ _ _ _ us hl=>by obtain ⟨_,_,_,_,rfl⟩:=ex4 hl;rfl⟩,⟨q9v,q9v.binds λ_ _ _ _ _ _ us hl=>by obtain ⟨_,rfl⟩:=ex1 hl;rfl⟩,⟨q9x,q9x.binds λ_ _ _ _ _ _ us hl=>by obtain ⟨_,_,_,_,rfl⟩:=ex4 hl;rfl⟩,⟨q9z,q9z.binds λ_ _ _ _ _ _ us hl=>by obtain ⟨_,_,rfl⟩:=ex2 hl;rfl⟩,⟨qa1,qa1.binds λ_ _ _ _ _ _ us hl=>by obtain ⟨_,_,rfl⟩:=ex2 hl;rfl⟩,⟨qa3,qa3.binds λ_ _ _ _ _ _ us hl=>by obtain ⟨_,_,rfl⟩:=ex2 hl;rfl⟩,⟨qa5,qa5.binds λ_ _ _ _ _ _ us hl=>by obtain ⟨_,_,_,_,rfl⟩:=ex4 hl;rfl⟩,⟨qa7,qa7.binds λ_ _ _ _ _ _ us hl=>by obtain ⟨_,_,_,_,rfl⟩:=ex4 hl;rfl⟩,⟨qa9,Zf X G q4i,qa9.binds λ_ _ _ _ _ _ us hl=>by obtain ⟨_,_,rfl⟩:=ex2 hl;rfl⟩,⟨qab,Zf X G q4k,qab.binds λ_ _ _ _ _ _ us hl=>by obtain ⟨_,_,rfl⟩:=ex2 hl;rfl⟩,⟨qad,Zf X G q4m,qad.binds λ_ _ _ _ _ _ us hl=>by obtain ⟨_,_,rfl⟩:=ex2 hl;rfl⟩,⟨qaf,Zf X G q4o,qaf.binds λ_ _ _ _ _ _ us hl=>by obtain ⟨_,_,_,rfl⟩:=ex3 hl;rfl⟩,⟨qah,Zf X G q4q,qah.binds λ_ _ _ _ _ _ us hl=>by obtain ⟨_,_,_,rfl⟩:=ex3 hl;rfl⟩,⟨qaj,Zf X G q4s,qaj.binds λ_ _ _ _ _ _ us hl=>by obtain ⟨_,_,_,rfl⟩:=ex3 hl;rfl⟩,⟨qal,Zf X G q4u,qal.binds λ_ _ _ _ _ _ us hl=>by obtain ⟨_,_,_,rfl⟩:=ex3 hl;rfl⟩,⟨qan,Zf X G q4w,qan.binds λ_ _ _ _ _ _ us hl=>by obtain ⟨_,_,_,rfl⟩:=ex3 hl;rfl⟩,⟨qap,Zf X G q4y,qap.binds λ_ _ _ _ _ _ us hl=>by obtain ⟨_,_,_,rfl⟩:=ex3 hl;rfl⟩⟩
 refine ⟨fnOf "law" "law" (lY mS) (d6 mS) (ah mS) .none q1r q1s q1t q1o q1u q1v,λs v=>.of_eq rfl,λbase _ _=>?_⟩
 have g1:=mk1 (P:=l.prog) (w:=w) (base:=base) T;have g2:=mk2 T g1;have g3:=mk3 T g1 g2;have g4:=mk4 T g1 g3;have g5:=mk5 T g1 g2 g3 g4;have g6:=mk6 T g1 g5;have g7:=mk7 T g1 g2 g3 g6;have g8:=mk8 T g1 g7;exact GO qaq T g1 g2 g6 g7 g8
end B
namespace PySem.W.Fast
def tw8219531786743520225:=0
def tw1770437931514333267:=0
def tw17329382677214408500:=0
def tw4801343499845921460:=0
def tw3747367830725194913:=0
def tw10892777507744521646:=0
def tw5232098397613085248:=0
def tw9133626937982451567:=0
def tw3418297224890727168:=0
def tw12697883268260988120:=0
def tw15445728274081216205:=0
def tw1373279650939342023:=0
def tw12213005368693909796:=0
def tw7670832008375712235:=0
def tw5464148863342328770:=0
def tw17983142663025187258:=0
def tw1681331376224663024:=0
def tw8408274970074144047:=0
def tw6709371500674268030:=0
def tw17040326979569458019:=0
def tw3012346609001851355:=0
def tw18431956016186172187:=0
def tw2799856335228935185:=0
def tw1761792518261199139:=0
def tw8895585728518431253:=0
def tw15421247947254889890:=0
def tw6155054338250678536:=0
def tw13474431603922979998:=0
def tw18121234648062649311:=0
def tw7019453404087552942:=0
def tw17562126045220704535:=0
def tw14145290314446749253:=0
def tw11245622534956172025:=0
def tw16493201875946435592:=0
def tw17585678318039830806:=0
def tw4941523525917761781:=0
def tw15634764107403966278:=0
def tw11386418687961154786:=0
def tw10840005003532683065:=0
def tw15050679099437341177:=0
def tw921622513434533822:=0
def tw12191764028449644282:=0
def tw1039067551281437060:=0
def tw8946302054065186899:=0
def tw9015179233773357372:=0
def tw470449349629421447:=0
def tw4363722776927526151:=0
def tw10534144204593450034:=0
def tw11115935371893804474:=0
def tw8455075803773109479:=0
def tw3061934590658877919:=0
def tw16609764330301364289:=0
def tw13073903710300527417:=0
def tw4398032494037608139:=0
def tw9568854670752259827:=0
def tw15895641821984670014:=0
def tw9675359446951321130:=0
def tw11998603065111429813:=0
def tw5860205062413022141:=0
def tw847477472237999027:=0
def tw17887533992456547227:=0
def tw15587956250763480728:=0
def tw16226243697492131638:=0
def tw11160957809519479643:=0
def tw2533925164002477622:=0
def tw12790438991569363867:=0
def tw17373972517555322937:=0
def tw18152632007113233884:=0
def tw18131545807616651619:=0
def tw11643793371179432421:=0
def tw11212464765475500222:=0
def tw2655742420613030222:=0
def tw12499144612247164524:=0
def tw14704474660457400600:=0
def tw7527572349142982380:=0
def tw5916109465914626286:=0
def tw10349566328108991653:=0
def tw7833210868647648446:=0
def tw7426979974586181547:=0
def tw10130786798282767431:=0
def tw8521978286259961065:=0
def tw9413899265501209708:=0
def tw1644467976255738334:=0
end PySem.W.Fast
open PySem PySem.W PyProof.Rows
set_option maxRecDepth 100000 in
set_option maxHeartbeats 0 in
theorem PySem.Challenge.cw_boughdraw_k76_deeds_refused_holds : PySem.Challenge.rw_boughdraw_k76_deeds_refused.Holds := by
 w_on;o_law;k_head;(case hw=>w_witness2)
 k_fill
 refine L3.KP (l:=PySem.Challenge.rw_boughdraw_k76_deeds_refused) (x := "_law_script") (k:=9) (fn:=B.rK) rfl rfl ⟨rfl,by decide,by decide⟩ (λw h Y=>PySem.W.kIn_of Y) B.BX ?F
 case F =>
  intro w mg fa h KX G hmg;refine' B.all_mk KX G hmg ?_ ?_ ?_ ?_ ?_ ?_ ?_ ?_ ?_ ?_ ?_ ?_ ?_ ?_ ?_ ?_ ?_ ?_ ?_ ?_ ?_ ?_ ?_ ?_ ?_ ?_ ?_ ?_ ?_ ?_ ?_ ?_ ?_ ?_ ?_ ?_ ?_ ?_ ?_ ?_ ?_ ?_ ?_ ?_ ?_ ?_ ?_ ?_ ?_ ?_ ?_ ?_ ?_ ?_ ?_ ?_ ?_ ?_ ?_ ?_ ?_ ?_ ?_ ?_ ?_ ?_ ?_ ?_ ?_ ?_ ?_ ?_ ?_ ?_ ?_ ?_ ?_ ?_ ?_ ?_ ?_ ?_ ?_ ?_ ?_ ?_ ?_ ?_ ?_ ?_ ?_ ?_ ?_ ?_ ?_ ?_ ?_ ?_ ?_ ?_ ?_ ?_ ?_ ?_ ?_ ?_ ?_ ?_ ?_ ?_ ?_ ?_ ?_ ?_ ?_ ?_ ?_ ?_ ?_ ?_ ?_ ?_ ?_ ?_ ?_ ?_ ?_ ?_ ?_ ?_ ?_ ?_ ?_ ?_ ?_ ?_ ?_ ?_ ?_ ?_ ?_ ?_ ?_ ?_ ?_ ?_ ?_ ?_ ?_ ?_ ?_ ?_ ?_ ?_ ?_ ?_ ?_ ?_ ?_ ?_ ?_ ?_ ?_ ?_ ?_ ?_ ?_ ?_ ?_ ?_ ?_ ?_ ?_ ?_ ?_ ?_ ?_ ?_ ?_ ?_ ?_ ?_ ?_ ?_ ?_ ?_ ?_ ?_ ?_ ?_ ?_ ?_ ?_ ?_ ?_ ?_ ?_ ?_ ?_ ?_ ?_ ?_ ?_ ?_ ?_ ?_ ?_ ?_ ?_ ?_ ?_ ?_ ?_ ?_ ?_ ?_ ?_ ?_ ?_ ?_
  all_goals try first | k_is | kernel_rfl | (refine' ⟨_,L2.CG ?l ?c ?k⟩;(case l=>k_is);(case c=>k_is);(case k=>k_is))
