import PyProof.Rows.All
import Wide.All
import OpenK.AllK
import Wide.FinOn
import Lean
import PyProof.EqAt
import PyProof.EqKinds
import PyProof.TupleCall
import PySem.Challenge.RW_compasshall_k17_papers_looked_at
noncomputable section
open PySem.W List
set_option Elab.async false
set_option linter.all false
set_option maxRecDepth 100000
namespace L2
open PySem PySem.Spec PyProof.Rows
abbrev Key:=Sum Int Str
noncomputable def vP:Key->Value->Bool
 | .inl k,v=>Value.isInt k v
 | .inr x,v=>Value.isStrOf x v
noncomputable def Es (w:World):Key->Int
 | .inl k=>hashInt k
 | .inr x=>hashStr w x
theorem uY:∀{k:Key} {v:Value},vP k v=true->(∃i t,k=Sum.inl i/\v=Value.int i t)\/(∃x t,k=Sum.inr x/\v=Value.str x t)
 | .inl i,v,h=>by
  obtain ⟨t,e⟩:=Value.isInt_shape (k:=i) (v:=v) h;exact .inl ⟨i,t,rfl,e⟩
 | .inr x,v,h=>by
  obtain ⟨t,e⟩:=Value.isStrOf_shape (x:=x) (v:=v) h;exact .inr ⟨x,t,rfl,e⟩
theorem M3 (a b:Int):decide ((Sum.inl a:Key)=Sum.inl b)=(a == b):=by
 by_cases e:a=b
 ·subst e; simp
 ·have h:¬(Sum.inl a:Key)=Sum.inl b:=fun q=>e (Sum.inl.inj q);rw [decide_eq_false h];exact (beq_eq_false_iff_ne.mpr e).symm
theorem M4 (a b:Str):decide ((Sum.inr a:Key)=Sum.inr b)=decide (a=b):=by
 by_cases e:a=b
 ·subst e; simp
 ·have h:¬(Sum.inr a:Key)=Sum.inr b:=fun q=>e (Sum.inr.inj q);rw [decide_eq_false h,decide_eq_false e]
theorem M5 (a:Int) (b:Str):decide ((Sum.inl a:Key)=Sum.inr b)=false:=decide_eq_false (fun q=>nomatch q)
theorem M6 (a:Str) (b:Int):decide ((Sum.inr a:Key)=Sum.inl b)=false:=decide_eq_false (fun q=>nomatch q)
noncomputable def j8 (prog:Program) (w:World):PySem.KeyKind prog w Key where
 is:=vP
 hash:=Es w
 inj:=fun v a b ha hb=>by
  rcases uY ha with ⟨i,t,rfl,rfl⟩ | ⟨x,t,rfl,rfl⟩
  ·rcases uY hb with ⟨j,u,rfl,e⟩ | ⟨y,u,rfl,e⟩
   ·injection e with e1 _; rw [e1]
   ·exact nomatch e
  ·rcases uY hb with ⟨j,u,rfl,e⟩ | ⟨y,u,rfl,e⟩
   ·exact nomatch e
   ·injection e with e1 _; rw [e1]
 byValue:=fun k v h=>by
  rcases uY h with ⟨i,t,rfl,rfl⟩ | ⟨x,t,rfl,rfl⟩ <;> rfl
 pyHash:=fun hv h=>by
  rcases uY hv with ⟨i,t,rfl,rfl⟩ | ⟨x,t,rfl,rfl⟩
  ·exact wpAny_pyHash_int h
  ·exact wpAny_pyHash_str h
 eqBool:=fun hu hv h=>by
  rcases uY hu with ⟨i,t,rfl,rfl⟩ | ⟨x,t,rfl,rfl⟩
  ·rcases uY hv with ⟨j,u,rfl,rfl⟩ | ⟨y,u,rfl,rfl⟩
   ·rw [M3] at h; exact wpAny_eqBool_int h
   ·rw [M5] at h; exact SeqAt.EqAt.int_str i t y u _ _ _ _ h
  ·rcases uY hv with ⟨j,u,rfl,rfl⟩ | ⟨y,u,rfl,rfl⟩
   ·rw [M6] at h; exact SeqAt.EqAt.str_int x t j u _ _ _ _ h
   ·rw [M4] at h; exact wpAny_eqBool_str h
 «strs»:=fun k x t v h=>by
  rcases uY h with ⟨i,u,rfl,e⟩ | ⟨y,u,rfl,e⟩
  ·exact nomatch e
  ·injection e with e1 _
   subst e1
   cases v <;> rfl
inductive V where
 | non | bl (b:Bool) | int (i:Int) | str (x:Str) | byt (b:Array UInt8) | flt (b:UInt64) | ref (a:Addr) | ty (n:String)
 deriving DecidableEq
noncomputable def RelV:V->Value->Prop
 | .non,u=>u=Value.none
 | .bl b,u=>u=Value.bool b
 | .int i,u=>∃t,u=Value.int i t
 | .str x,u=>∃t,u=Value.str x t
 | .byt b,u=>∃t,u=Value.bytes b t
 | .flt b,u=>∃t,u=Value.float b t
 | .ref a,u=>u=Value.ref a
 | .ty n,u=>u=Value.type n
abbrev Vals:List V->List Value->Prop:=Paired RelV
theorem Vals.length {xs:List V} {us:List Value} (r:Vals xs us):xs.length=us.length:=Paired.length r
theorem Vals.get:∀{xs:List V} {us:List Value} {i:Nat} {x:V},Vals xs us->xs[i]? = some x->∃u,us[i]? = some u/\RelV x u
 | _,_,_,_,.nil,e=>by simp at e
 | _,_,0,_,.cons r _,e=>by simp at e; subst e; exact ⟨_,rfl,r⟩
 | _,_,i + 1,x,.cons _ t,e=>by
  obtain ⟨u,h1,h2⟩:=Vals.get (i:=i) (x:=x) t (by simpa using e);exact ⟨u,by simpa using h1,h2⟩
theorem Vals.set {x:V} {u:Value} (r:RelV x u):∀{xs:List V} {us:List Value} (i:Nat),Vals xs us->Vals (xs.set i x) (us.set i u)
 | _,_,_,.nil=>.nil
 | _,_,0,.cons _ t=>.cons r t
 | _,_,i + 1,.cons q t=>.cons q (Vals.set r i t)
theorem Vals.append:∀{xs ys:List V} {us ws:List Value},Vals xs us->Vals ys ws->Vals (xs ++ ys) (us ++ ws)
 | _,_,_,_,.nil,s=>s
 | _,_,_,_,.cons r t,s=>.cons r (Vals.append t s)
theorem Vals.take:∀{xs:List V} {us:List Value} (n:Nat),Vals xs us->Vals (xs.take n) (us.take n)
 | _,_,0,_=>.nil
 | _,_,_ + 1,.nil=>.nil
 | _,_,n + 1,.cons r t=>.cons r (Vals.take n t)
theorem Vals.drop:∀{xs:List V} {us:List Value} (n:Nat),Vals xs us->Vals (xs.drop n) (us.drop n)
 | _,_,0,r=>r
 | _,_,_ + 1,.nil=>.nil
 | _,_,n + 1,.cons _ t=>Vals.drop n t
noncomputable def wI:Option V->Option Value->Prop
 | some v,some u=>RelV v u
 | none,none=>True
 | _,_=>False
noncomputable def KV {κ:Type}:List (κ×V)->List (κ×Value)->Prop:=Paired fun (p:κ×V) (q:κ×Value)=>p.1=q.1/\RelV p.2 q.2
noncomputable def kV:Key->V
 | .inl i=>.int i
 | .inr x=>.str x
inductive HO where
 | lst (xs:List V)
 | tup (xs:List V)
 | dK (kvs:List (Key×V)) | dT (kvs:List (List Key×V))
 | set (S:Int->Bool) (n:Nat)
 | ins (C dx:Addr) (fs:List (Str×V))
 | own (x:Addr)
 | xd (fs:List (Str×V))
 | met (f x:Addr)
 | rng (lo hi:Int)
 | frz (o:Obj) (u:HO)
 | tbl (ps:Array Value)
 | ext (φ:Heap->Prop)
abbrev Hp:=Addr->Option HO
noncomputable def upd (H:Hp) (a:Addr) (o:HO):Hp:=fun b=>if b=a then some o else H b
theorem jB {H:Hp} {a:Addr} {o:HO}:upd H a o a=some o:=by unfold upd; rw [if_pos rfl]
theorem dU {H:Hp} {a b:Addr} {o:HO} (h:b≠a):upd H a o b=H b:=by unfold upd; rw [if_neg h]
theorem qp {H:Hp} {a b:Addr} {o:HO} (h:H a=some o) (h':H b=none):a≠b:=by
 intro e; subst e; rw [h] at h'; cases h'
section
variable (P:Program) (w:World)
noncomputable def ObjOk (H:Hp) (h:Heap) (a:Addr):HO->Prop
 | .lst xs=>xs.length<=sizeLine/\∃(its:List Value) (n:Nat),Vals xs its/\h.get? a=some { cls:=.type "list",data:=.seq its.toArray n }
 | .tup xs=>xs.length<=sizeLine/\∃its:List Value,Vals xs its/\IsTup h a its.toArray
 | .dK kvs=>kvs.length<=sizeLine/\(a == sysModules)=false/\∃vs,KV kvs vs/\h.DictOf (j8 P w) a vs
 | .dT kvs=>kvs.length<=sizeLine/\(a == sysModules)=false/\∃xs:List (List Key×Addr×Value),
   Paired (fun (p:List Key×V) (q:List Key×Addr×Value)=>p.1=q.1/\H q.2.1=some (.tup (p.1.map kV))/\RelV p.2 q.2.2) kvs xs /\
   ∃o es ep,h.get? a=some o/\o.ExactDict/\o.data=.dict es ep/\es.toList=xs.map (entryOfKey (tupleKind (j8 P w)))/\(xs.map (·.1)).Nodup
 | .set S n=>h.SetOf (intKind P w) a S n
 | .ins C dx fs=>H dx=some (.own a)/\fs.length<=1000/\dx≠a/\h.get? a=some (instObj C dx) /\
   ∃mA,h.Ns1 dx mA/\(∀f,wI (fs.lookup f) (mA f))/\PySem.Within mA (fs.map (·.1))
 | .own _=>∃o,h.get? a=some o
 | .xd fs=>∃mA,h.Ns1 a mA/\∀f,wI (fs.lookup f) (mA f)
 | .rng lo hi=>∃t u v,h.get? a=some { cls:=.type "range",data:=.fields #[.int lo t,.int hi u,.int 1 v] }
 | .frz o u=>h.get? a=some o/\ObjOk H h a u
 | .tbl ps=>h.get? a=some { cls:=.none,data:=.fields ps }
 | .met f x=>h.get? a=some (methodObj (.ref f) (.ref x))
 | .ext φ=>φ h/\(∃o,h.get? a=some o)/\∀h1 h2:Heap,φ h1->(∀o,h1.get? a=some o->h2.get? a=some o)->φ h2
noncomputable def HOk (H:Hp) (h:Heap):Prop:=∀a o,H a=some o->ObjOk P w H h a o
end
section
variable {P:Program} {w:World} {H H':Hp} {h h':Heap} {a:Addr} {o:HO}
theorem ObjOk.lt (x:ObjOk P w H h a o):a < h.objs.size:=by
 cases o with
 | lst xs=>obtain ⟨_,_,_,_,e⟩:=x; exact Heap.lt_size e
 | tup xs=>obtain ⟨_,_,_,p⟩:=x; exact p.lt
 | dK kvs=>obtain ⟨_,_,_,_,o,_,_,e,_⟩:=x; exact Heap.lt_size e
 | dT kvs=>obtain ⟨_,_,_,_,o,_,_,e,_⟩:=x; exact Heap.lt_size e
 | set S n=>obtain ⟨o,_,_,_,e,_⟩:=x; exact Heap.lt_size e
 | ins C dx fs=>obtain ⟨_,_,_,e,_⟩:=x; exact Heap.lt_size e
 | own y=>obtain ⟨_,e⟩:=x; exact Heap.lt_size e
 | xd fs=>obtain ⟨_,⟨_,_,_,e,_⟩,_⟩:=x; exact Heap.lt_size e
 | rng lo hi=>obtain ⟨_,_,_,e⟩:=x; exact Heap.lt_size e
 | frz ob u=>obtain ⟨e,_⟩:=x; exact Heap.lt_size e
 | tbl ps=>exact Heap.lt_size (show h.get? a=some _ from x)
 | met f y=>exact Heap.lt_size (show h.get? a=some _ from x)
 | ext φ=>obtain ⟨_,⟨_,e⟩,_⟩:=x; exact Heap.lt_size e
theorem Paired.mapP {α β:Type} {F G:α->β->Prop}:∀{l₁:List α} {l₂:List β},Paired F l₁ l₂->(∀a b,F a b->G a b)->Paired G l₁ l₂
 | _,_,.nil,_=>.nil
 | _,_,.cons r t,f=>.cons (f _ _ r) (Paired.mapP t f)
theorem ObjOk.stay (x:ObjOk P w H h a o) (k:∀b u,(b=a\/H b=some (.own a))->h.get? b=some u->h'.get? b=some u)
  (ho:∀b,H b=some (.own a)->H' b=some (.own a)) (ht:∀b xs,H b=some (.tup xs)->H' b=some (.tup xs)):ObjOk P w H' h' a o:=by
 induction o with
 | lst xs=>obtain ⟨z,its,n,r,e⟩:=x; exact ⟨z,its,n,r,k _ _ (.inl rfl) e⟩
 | tup xs=>obtain ⟨z,its,r,ob,e,c⟩:=x; exact ⟨z,its,r,ob,k _ _ (.inl rfl) e,c⟩
 | dK kvs=>obtain ⟨z,y,vs,r,ob,es,ep,e,c⟩:=x; exact ⟨z,y,vs,r,ob,es,ep,k _ _ (.inl rfl) e,c⟩
 | dT kvs =>
  obtain ⟨z,y,xs,r,ob,es,ep,e,c⟩:=x;exact ⟨z,y,xs,Paired.mapP r fun p q z=>⟨z.1,ht _ _ z.2.1,z.2.2⟩,ob,es,ep,k _ _ (.inl rfl) e,c⟩
 | set S n=>obtain ⟨ob,es,ep,t,e,c⟩:=x; exact ⟨ob,es,ep,t,k _ _ (.inl rfl) e,c⟩
 | ins C dx fs =>
  obtain ⟨d,z,ne,e,mA,⟨od,es,ep,e2,c⟩,r⟩:=x;exact ⟨ho _ d,z,ne,k _ _ (.inl rfl) e,mA,⟨od,es,ep,k _ _ (.inr d) e2,c⟩,r⟩
 | own y=>obtain ⟨ob,e⟩:=x; exact ⟨ob,k _ _ (.inl rfl) e⟩
 | xd fs=>obtain ⟨mA,⟨od,es,ep,e,c⟩,r⟩:=x; exact ⟨mA,⟨od,es,ep,k _ _ (.inl rfl) e,c⟩,r⟩
 | rng lo hi=>obtain ⟨t,u,v,e⟩:=x; exact ⟨t,u,v,k _ _ (.inl rfl) e⟩
 | frz ob u ih=>obtain ⟨e,q⟩:=x; exact ⟨k _ _ (.inl rfl) e,ih q⟩
 | tbl ps =>
  have e:h.get? a=some { cls:=.none,data:=.fields ps }:=x;show h'.get? a=some { cls:=.none,data:=.fields ps };exact k a _ (.inl rfl) e
 | met f y =>
  have e:h.get? a=some (methodObj (.ref f) (.ref y)):=x;show h'.get? a=some (methodObj (.ref f) (.ref y));exact k a _ (.inl rfl) e
 | ext φ=>obtain ⟨p,⟨o,e⟩,st⟩:=x; exact ⟨st _ _ p fun o q=>k _ _ (.inl rfl) q,⟨o,k _ _ (.inl rfl) e⟩,st⟩
theorem HOk.lt (x:HOk P w H h) (e:H a=some o):a < h.objs.size:=(x a o e).lt
theorem HOk.fresh (x:HOk P w H h) (e:h.objs.size<=a):H a=none:=by
 cases q:H a with
 | none=>rfl
 | some u=>exact absurd (Nat.lt_of_lt_of_le (x.lt q) e) (Nat.lt_irrefl _)
theorem HOk.kept (x:HOk P w H h) (k:∀b u,h.get? b=some u->h'.get? b=some u):HOk P w H h':=fun a o e =>
 (x a o e).stay (fun b u _ q=>k b u q) (fun _ q=>q) fun _ _ q=>q
theorem HOk.laid (x:HOk P w H h) (k:∀b u,h.get? b=some u->h'.get? b=some u) (hp:h.objs.size<=a) (new:ObjOk P w (upd H a o) h' a o):HOk P w (upd H a o) h':=fun b u e=>by
 have hn:=x.fresh hp
 by_cases hb:b=a
 ·subst hb; rw [jB] at e; cases e; exact new
 ·rw [dU hb] at e;exact (x b u e).stay (fun c v _ q=>k c v q) (fun c q=>by rw [dU (qp q hn)]; exact q) fun c xs q=>by rw [dU (qp q hn)]; exact q
end
noncomputable def Rd (H:Hp) (a:Addr) (u:HO):Prop:=H a=some u\/∃o,H a=some (.frz o u)
theorem Rd.of {H:Hp} {a:Addr} {u:HO} (h:H a=some u):Rd H a u:=.inl h
theorem Rd.ok {P:Program} {w:World} {H:Hp} {h:Heap} {a:Addr} {u:HO} (r:Rd H a u) (x:HOk P w H h):ObjOk P w H h a u:=by
 rcases r with r | ⟨o,r⟩
 ·exact x a u r
 ·obtain ⟨_,q⟩:=x a _ r;exact q
noncomputable def Df:Option HO->Prop
 | some (.lst _)=>True
 | some (.dK _)=>True
 | some (.dT _)=>True
 | some (.set _ _)=>True
 | some (.ins _ _ _)=>True
 | some (.ext _)=>True
 | _=>False
section
variable {P:Program} {w:World} {H:Hp} {h h':Heap} {x e:Addr} {o':HO}
theorem HOk.write (ok:HOk P w H h) (mu:Df (H x)) (he:e=x\/H e=some (.own x)) (k:∀b u,b≠e->h.get? b=some u->h'.get? b=some u) (heo:∃u,h'.get? e=some u)
  (new:ObjOk P w (upd H x o') h' x o'):HOk P w (upd H x o') h':=fun b u q=>by
 have nown:∀c y,H c=some (.own y)->c≠x:=fun c y r z=>by subst z; rw [r] at mu; exact mu
 have ntup:∀c xs,H c=some (.tup xs)->c≠x:=fun c xs r z=>by subst z; rw [r] at mu; exact mu
 by_cases hb:b=x
 ·subst hb; rw [jB] at q; cases q; exact new
 ·rw [dU hb] at q
  by_cases hbe:b=e
  ·have q':H b=some (.own x):=by
    rcases he with z | z
    ·exact absurd (hbe.trans z) hb
    ·rw [hbe]; exact z
   rw [q] at q'; cases q';obtain ⟨v,hv⟩:=heo;exact ⟨v,by rw [hbe]; exact hv⟩
  ·refine (ok b u q).stay (fun c v hc r=>k c v ?_ r) (fun c r=>by rw [dU (nown c b r)]; exact r) fun c xs r=>by rw [dU (ntup c xs r)]; exact r
   rcases hc with rfl | hc
   ·exact hbe
   ·rintro rfl
    rcases he with z | z
    ·exact nown c b hc z
    ·rw [hc] at z; cases z; exact hb rfl
end
structure Un (fs ex:List Addr) (H H':Hp) (h h':Heap):Prop where
 keep:∀b o,h.get? b=some o->H b=none->b∉fs->b∉ex->h'.get? b=some o
 slot:∀b o,h.get? b=some o->H b=none->b∈fs->b∉ex->∃sl,h'.get? b=some { o with slots:=sl }
 free:∀b o,h.get? b=some o->H b=none->b∉ex->H' b=none
 there:∀b o,h.get? b=some o->b∉ex->∃o',h'.get? b=some o'
 tups:∀b xs,H b=some (.tup xs)->H' b=some (.tup xs)
 frzs:∀b o u,H b=some (.frz o u)->H' b=some (.frz o u)
 tbls:∀b ps,H b=some (.tbl ps)->∃more,H' b=some (.tbl (ps ++ more))
section
variable {fs fs' ex ex':List Addr} {H H1 H2:Hp} {h h1 h2 h':Heap} {a x e:Addr} {o:HO}
theorem Un.any (u:Un fs ex H H1 h h1) {b:Addr} {ob:Obj} (q:h.get? b=some ob) (n:H b=none) (hx:b∉ex):∃sl,h1.get? b=some { ob with slots:=sl }:=by
 by_cases hb:b∈fs
 ·exact u.slot b ob q n hb hx
 ·exact ⟨ob.slots,u.keep b ob q n hb hx⟩
theorem Un.trans (a:Un fs ex H H1 h h1) (b:Un fs ex H1 H2 h1 h2):Un fs ex H H2 h h2 where
 keep:=fun c ob q n hc hx=>b.keep c ob (a.keep c ob q n hc hx) (a.free c ob q n hx) hc hx
 slot:=fun c ob q n hc hx=>by
  obtain ⟨sl,e1⟩:=a.slot c ob q n hc hx;obtain ⟨sl',e2⟩:=b.slot c _ e1 (a.free c ob q n hx) hc hx;exact ⟨sl',e2⟩
 free:=fun c ob q n hx=>by
  obtain ⟨o',e1⟩:=a.there c ob q hx;exact b.free c o' e1 (a.free c ob q n hx) hx
 there:=fun c ob q hx=>by
  obtain ⟨o',e1⟩:=a.there c ob q hx;exact b.there c o' e1 hx
 tups:=fun c xs q=>b.tups c xs (a.tups c xs q)
 frzs:=fun c ob xs q=>b.frzs c ob xs (a.frzs c ob xs q)
 tbls:=fun c ps q=>by
  obtain ⟨m1,e1⟩:=a.tbls c ps q;obtain ⟨m2,e2⟩:=b.tbls c _ e1;exact ⟨m1 ++ m2,by rw [e2,Array.append_assoc]⟩
theorem Un.kept (k:∀b u,h.get? b=some u->h'.get? b=some u):Un fs ex H H h h' :=
 ⟨fun b ob q _ _ _=>k b ob q,fun b ob q _ _ _=>⟨ob.slots,k b ob q⟩,fun _ _ _ n _=>n,fun b ob q _=>⟨ob,k b ob q⟩,fun _ _ q=>q,fun _ _ _ q=>q,fun _ ps q=>⟨#[],by rw [q]; simp⟩⟩
theorem Un.refl:Un fs ex H H h h:=Un.kept fun _ _ q=>q
theorem Un.laid (k:∀b u,h.get? b=some u->h'.get? b=some u) (hp:h.objs.size<=a) (hn:H a=none):Un fs ex H (upd H a o) h h' where
 keep:=fun b u q _ _ _=>k b u q
 slot:=fun b u q _ _ _=>⟨u.slots,k b u q⟩
 free:=fun b u q n _=>by rw [dU (Nat.ne_of_lt (Nat.lt_of_lt_of_le (Heap.lt_size q) hp))]; exact n
 there:=fun b u q _=>⟨u,k b u q⟩
 tups:=fun b xs q=>by rw [dU (qp q hn)]; exact q
 frzs:=fun b u xs q=>by rw [dU (qp q hn)]; exact q
 tbls:=fun b ps q=>⟨#[],by rw [dU (qp q hn),q]; simp⟩
theorem Un.write (mu:Df (H x)) (he:e=x\/H e=some (.own x)) (k:∀b u,b≠e->h.get? b=some u->h'.get? b=some u) (heo:∃u,h'.get? e=some u):Un fs ex H (upd H x o) h h':=by
 have hx:∀b,H b=none->b≠x:=fun b n z=>by subst z; rw [n] at mu; exact mu
 have hb:∀b,H b=none->b≠e:=fun b n z=>by
  subst z;rcases he with r | r
  ·exact hx b n r
  ·rw [n] at r; cases r
 have hm:∀b u,H b=some u->¬Df (some u)->b≠x:=fun b u q nm z=>by subst z; rw [q] at mu; exact nm mu
 refine ⟨fun b u q n _ _=>k b u (hb b n) q,fun b u q n _ _=>⟨u.slots,k b u (hb b n) q⟩,fun b u q n _=>by rw [dU (hx b n)]; exact n,fun b u q _=>?_,
  fun b xs q=>by rw [dU (hm b _ q fun z=>z)]; exact q,fun b u xs q=>by rw [dU (hm b _ q fun z=>z)]; exact q,fun b ps q=>⟨#[],by rw [dU (hm b _ q fun z=>z),q]; simp⟩⟩
 by_cases hbe:b=e
 ·subst hbe; exact heo
 ·exact ⟨u,k b u hbe q⟩
theorem Un.mono (u:Un fs ex H H1 h h1) (hs:∀b∈fs,b∈fs') (hx:∀b∈ex,b∈ex'):Un fs' ex' H H1 h h1 :=
 ⟨fun b ob q n hb he=>u.keep b ob q n (fun z=>hb (hs b z)) fun z=>he (hx b z),fun _ _ q n _ he=>u.any q n fun z=>he (hx _ z),fun b ob q n he=>u.free b ob q n fun z=>he (hx b z),fun b ob q he=>u.there b ob q fun z=>he (hx b z),u.tups,u.frzs,u.tbls⟩
end
noncomputable def trk (h:Heap) (H:Hp):List Addr:=(List.range h.objs.size).filter fun a=>(H a).isSome
noncomputable def j9 (h:Heap) (H:Hp):Heap:=hideAll h (trk h H)
theorem hN' (h:Heap) (H:Hp):(j9 h H).objs.size=h.objs.size:=hideAll_size _ _
theorem M7 {h:Heap} {H:Hp} {b:Addr} {o:Obj} (e:h.get? b=some o) (n:H b=none):(j9 h H).get? b=some o :=
 hideAll_get _ e fun hm=>by
  have q:(H b).isSome=true:=(mem_filter.mp hm).2;rw [n] at q; simp at q
theorem M8 {h:Heap} {H:Hp} {b:Addr} {o:Obj} (e:(j9 h H).get? b=some o):h.get? b=some o/\H b=none:=by
 have e':h.get? b=some o:=of_hideAll (trk h H) e;refine ⟨e',?_⟩
 cases q:H b with
 | none=>rfl
 | some x =>
  have hm:b∈trk h H:=mem_filter.mpr ⟨mem_range.mpr (Heap.lt_size e'),by simp [q]⟩;have z:(j9 h H).get? b=none:=hideAll_none (trk h H) hm;rw [z] at e; cases e
noncomputable def uZ (g h:Heap) (L:Addr):List (Addr×Obj):=(List.range h.objs.size).filterMap fun a=>if a=L\/(g.get? a).isSome=true then none else (h.get? a).map fun o=>(a,o)
noncomputable def rest (g h:Heap) (L d:Addr):List (Addr×Obj):=(uZ g h L).filter fun p=>decide (p.1≠d)
structure Mod (K:Frag) (mg:Str->Option Value) (base:Heap):Prop where
 kin:K.In base
 glob:base.Ns mainGlobals mg
 blt:∃mb,base.Ns builtinsNs mb/\∀x:Str,x≠"__name__"->mb x=bootBuiltins x
 nolimit:base.NoLimit
structure Cx where
 prog:Program
 w:World
 K:Frag
 mg:Str->Option Value
 base:Heap
 A:Around
 N:List Str
 s₀:Shared
 H₀:Hp
 env:Env
 outer:List Env
 stack:List Env
 ex:List Addr
 fn:Str->Bool
 calm:Bool
 pn:List (Addr×Obj)
 xe:Value->Shared->Prop
noncomputable def frs (l:List Env):List Addr:=l.filterMap (·.frame)
abbrev Cx.fs (X:Cx):List Addr:=frs X.outer
noncomputable def yL (sc:Scope) (x:Str):Prop:=sc.names.lookup x=some .local\/sc.names.lookup x=some .cell\/sc.names.lookup x=some .free
noncomputable def Loc (sc:Scope) (x:Str):Prop:=sc.names.lookup x=some .local\/sc.names.lookup x=some .cell
noncomputable def Look (env:Env) (h:Heap) (m:Str->Option Value) (x:Str) (u:Value):Prop :=
 (env.kindOf x=some .local/\m x=some u)\/((env.kindOf x=some .cell\/env.kindOf x=some .free)/\∃c,env.cells.lookup x=some c/\h.IsCell c (some u))
structure Cx.Ok (X:Cx):Prop where
 mod:Mod X.K X.mg X.base
 kind:X.env.scope.kind=.function
 glob:X.env.globals=mainGlobals
 blt:X.env.builtins=builtinsNs
 above:X.s₀.heap.objs.size<=X.env.locals
 inj:∀x y c,X.env.cells.lookup x=some c->X.env.cells.lookup y=some c->x=y
 has:∀x,(X.env.kindOf x=some .cell\/X.env.kindOf x=some .free)->∃c,X.env.cells.lookup x=some c
 cab:∀x c,X.fn x=true->X.env.cells.lookup x=some c->X.s₀.heap.objs.size<=c
 hd:X.calm=true->X.A.handled=none
 frames:X.A.frames=some X.stack
 stk:X.stack=X.outer\/(X.stack=X.env :: X.outer/\X.env.frame=some X.env.locals)
 exf:∀b∈X.ex,b≠X.env.locals/\∀x c,X.env.cells.lookup x=some c->c≠b
 bs:∀b o,X.base.get? b=some o->X.s₀.heap.get? b=some o/\X.H₀ b=none
 bsz:X.base.objs.size<=X.s₀.heap.objs.size
 noex:∀b o,X.base.get? b=some o->b∉X.ex
 exfs:∀b∈X.ex,b∉X.fs
 funs:X.s₀.heap.FunFrames X.base X.outer
 frf:∀b∈X.fs,X.H₀ b=none
structure Inv (X:Cx) (pins:List (Addr×Obj)) (σ:List (Option V)) (H:Hp) (s:Shared):Prop where
 ok:X.Ok
 os:s.os=X.s₀.os
 bare:AllBare s.gens
 base:Un X.fs X.ex X.H₀ H X.s₀.heap s.heap
 loc:∃m,s.heap.Ns X.env.locals m/\∀(i:Nat) (x:Str) (v:V),X.N[i]? = some x->σ[i]? = some (some v)->yL X.env.scope x->∃u,RelV v u/\Look X.env s.heap m x u
 cell:∀x c,X.env.cells.lookup x=some c->∃v,s.heap.IsCell c v
 free:H X.env.locals=none
 freeC:∀x c,X.env.cells.lookup x=some c->H c=none
 pin:∀p∈X.pn ++ pins,s.heap.get? p.1=some p.2/\H p.1=none/\p.1≠X.env.locals/\p.1∉X.fs/\∀v,p.2.data≠.cell v
 hok:HOk X.prog X.w H s.heap
 len:σ.length=X.N.length
section
variable {X:Cx} {pins:List (Addr×Obj)} {σ:List (Option V)} {H H':Hp} {s:Shared} {h':Heap}
theorem Cx.Ok.nofr (ok:X.Ok) {b:Addr} {o:Obj} (e:X.base.get? b=some o):b∉X.fs:=fun hb=>by
 have:=(ok.funs.mem hb).1;rw [e] at this; cases this
theorem Inv.bs (I:Inv X pins σ H s):∀b o,X.base.get? b=some o->s.heap.get? b=some o/\H b=none:=fun b o e =>
 ⟨I.base.keep b o (I.ok.bs b o e).1 (I.ok.bs b o e).2 (I.ok.nofr e) (I.ok.noex b o e),I.base.free b o (I.ok.bs b o e).1 (I.ok.bs b o e).2 (I.ok.noex b o e)⟩
theorem Inv.bk (I:Inv X pins σ H s):∀b o,X.base.get? b=some o->s.heap.get? b=some o:=fun b o e=>(I.bs b o e).1
theorem Inv.mod (I:Inv X pins σ H s):Mod X.K X.mg X.base:=I.ok.mod
theorem Inv.kIn (I:Inv X pins σ H s):X.K.In s.heap:=I.ok.mod.kin.keeps I.bk
theorem Inv.nolimit (I:Inv X pins σ H s):s.heap.NoLimit:=I.ok.mod.nolimit.keeps I.bk
theorem Inv.fr (I:Inv X pins σ H s):∃m,Fr X.base X.env.locals s.heap m :=
 let ⟨m,hn,_⟩:=I.loc
 ⟨m,hn,I.bk,Nat.le_trans I.ok.bsz I.ok.above⟩
theorem Inv.lt (I:Inv X pins σ H s):X.env.locals < s.heap.objs.size:=let ⟨_,hn,_⟩:=I.loc; hn.lt
theorem Inv.sz (I:Inv X pins σ H s):X.s₀.heap.objs.size<=s.heap.objs.size:=Nat.le_trans I.ok.above (Nat.le_of_lt I.lt)
theorem Inv.nofs (I:Inv X pins σ H s) {a:Addr} (h:s.heap.objs.size<=a):a∉X.fs:=fun hb=>by
 obtain ⟨_,o,ho,_⟩:=I.ok.funs.mem hb;exact absurd (Nat.lt_of_lt_of_le (Heap.lt_size ho) (Nat.le_trans I.sz h)) (Nat.lt_irrefl _)
theorem Inv.cne (I:Inv X pins σ H s):∀x c,X.env.cells.lookup x=some c->c≠X.env.locals:=fun x c e z=>by
 obtain ⟨v,o,ho,hd⟩:=I.cell x c e;obtain ⟨m,⟨o',es,ep,ho',hd',_⟩,_⟩:=I.loc;rw [z,ho'] at ho; cases ho; rw [hd'] at hd; cases hd
theorem Inv.funs (I:Inv X pins σ H s):s.heap.FunFrames X.base X.outer:=by
 have all:∀(l:List Env),(∀b∈frs l,b∈X.fs)->X.s₀.heap.FunFrames X.base l->s.heap.FunFrames X.base l:=by
  intro l
  induction l with
  | nil=>intro _ _; trivial
  | cons env r ih =>
   intro hs hl;obtain ⟨hk,⟨L,o,hf,hn,ho,hd⟩,hr⟩:=hl;have hL:L∈X.fs:=hs L (by unfold frs; rw [filterMap_cons,hf]; exact mem_cons_self);obtain ⟨sl,e⟩:=I.base.slot L o ho (I.ok.frf L hL) hL fun z=>I.ok.exfs L z hL;exact ⟨hk,⟨L,_,hf,hn,e,hd⟩,ih (fun b hb=>hs b (by unfold frs; rw [filterMap_cons,hf]; exact mem_cons_of_mem _ hb)) hr⟩
 exact all X.outer (fun _ hb=>hb) I.ok.funs
theorem Inv.stack (I:Inv X pins σ H s):s.heap.FunFrames X.base X.stack:=by
 rcases I.ok.stk with e | ⟨e,hf⟩
 ·rw [e]; exact I.funs
 ·rw [e];obtain ⟨m,hn,_⟩:=I.loc;refine .cons (by rw [I.ok.kind]; decide) hf hn ?_ I.funs;exact Heap.get?_none_of_le (Nat.le_trans I.ok.bsz I.ok.above)
theorem Inv.stkSub (I:Inv X pins σ H s):∀b∈frs X.stack,b∈X.env.locals :: X.fs:=fun b hb=>by
 rcases I.ok.stk with e | ⟨e,hf⟩
 ·rw [e] at hb; exact mem_cons_of_mem _ hb
 ·rw [e] at hb;unfold frs at hb;rw [filterMap_cons,hf] at hb;exact hb
theorem Inv.stkFree (I:Inv X pins σ H s):∀b∈frs X.stack,H b=none:=fun b hb=>by
 rcases mem_cons.mp (I.stkSub b hb) with e | hb
 ·rw [e]; exact I.free
 ·obtain ⟨_,o,ho,_⟩:=I.ok.funs.mem hb;exact I.base.free b o ho (I.ok.frf b hb) fun z=>I.ok.exfs b z hb
theorem Inv.step {g':Array GenState} {t':Nat} {d':Drawn} {ch:List Addr} (I:Inv X pins σ H s)
  (hch:∀b∈ch,(b∈X.ex\/X.s₀.heap.objs.size<=b)/\b≠X.env.locals/\(∀x c,X.env.cells.lookup x=some c->c≠b)/\∀p∈X.pn ++ pins,p.1≠b)
  (keep:∀b o,b≠X.env.locals->b∉X.fs->b∉ch->s.heap.get? b=some o->H b=none->h'.get? b=some o)
  (slot:∀b o,b≠X.env.locals->b∈X.fs->b∉ch->s.heap.get? b=some o->H b=none->∃sl,h'.get? b=some { o with slots:=sl }) (free:∀b o,b∉ch->s.heap.get? b=some o->H b=none->H' b=none)
  (there:∀b o,b∉ch->s.heap.get? b=some o->∃o',h'.get? b=some o')
  (tups:∀b xs,H b=some (.tup xs)->H' b=some (.tup xs)) (frzs:∀b o u,H b=some (.frz o u)->H' b=some (.frz o u)) (tbls:∀b ps,H b=some (.tbl ps)->∃more,H' b=some (.tbl (ps ++ more)))
  (ns:∀m,s.heap.Ns X.env.locals m->h'.Ns X.env.locals m) (hok:HOk X.prog X.w H' h') (hg:AllBare g') :
  Inv X pins σ H' { s with heap:=h',gens:=g',drawn:=d',toks:=t' }:=by
 have neL:∀b o,X.s₀.heap.get? b=some o->b≠X.env.locals:=fun b o e=>Nat.ne_of_lt (Nat.lt_of_lt_of_le (Heap.lt_size e) I.ok.above);have neC:∀b o,X.s₀.heap.get? b=some o->b∉X.ex->b∉ch:=fun b o e hx hb=>by
  rcases (hch b hb).1 with z | z
  ·exact hx z
  ·exact absurd (Nat.lt_of_lt_of_le (Heap.lt_size e) z) (Nat.lt_irrefl _)
 have cellK:∀x c,X.env.cells.lookup x=some c->∀v,s.heap.IsCell c v->h'.IsCell c v:=fun x c e v ⟨o,ho,hd⟩=>by
  have nch:c∉ch:=fun z=>(hch c z).2.2.1 x c e rfl
  by_cases hc:c∈X.fs
  ·obtain ⟨sl,q⟩:=slot c o (I.cne x c e) hc nch ho (I.freeC x c e);exact ⟨_,q,hd⟩
  ·exact ⟨o,keep c o (I.cne x c e) hc nch ho (I.freeC x c e),hd⟩
 refine ⟨I.ok,I.os,hg,⟨fun b o e n hb hx=>?_,fun b o e n hb hx=>?_,fun b o e n hx=>?_,fun b o e hx=>?_,fun b xs e=>tups b xs (I.base.tups b xs e),fun b o xs e=>frzs b o xs (I.base.frzs b o xs e),fun b ps e=>?_⟩,?_,fun x c e=>?_,?_,fun x c e=>?_,fun p hp=>?_,hok,I.len⟩
 ·exact keep b o (neL b o e) hb (neC b o e hx) (I.base.keep b o e n hb hx) (I.base.free b o e n hx)
 ·obtain ⟨sl,e1⟩:=I.base.slot b o e n hb hx;obtain ⟨sl',e2⟩:=slot b _ (neL b o e) hb (neC b o e hx) e1 (I.base.free b o e n hx);exact ⟨sl',e2⟩
 ·obtain ⟨o',e1⟩:=I.base.there b o e hx;exact free b o' (neC b o e hx) e1 (I.base.free b o e n hx)
 ·obtain ⟨o',e1⟩:=I.base.there b o e hx;exact there b o' (neC b o e hx) e1
 ·obtain ⟨m1,e1⟩:=I.base.tbls b ps e;obtain ⟨m2,e2⟩:=tbls b _ e1;exact ⟨m1 ++ m2,by rw [e2,Array.append_assoc]⟩
 ·obtain ⟨m,hn,hl⟩:=I.loc;refine ⟨m,ns m hn,fun i x v e1 e2 e3=>?_⟩;obtain ⟨u,r,l⟩:=hl i x v e1 e2 e3;refine ⟨u,r,?_⟩;rcases l with l | ⟨k,c,e,z⟩
  ·exact .inl l
  ·exact .inr ⟨k,c,e,cellK x c e _ z⟩
 ·obtain ⟨v,z⟩:=I.cell x c e;exact ⟨v,cellK x c e v z⟩
 ·obtain ⟨m,⟨o,_,_,ho,_⟩,_⟩:=I.loc;exact free _ o (fun z=>(hch _ z).2.1 rfl) ho I.free
 ·obtain ⟨v,o,ho,hd⟩:=I.cell x c e;exact free c o (fun z=>(hch c z).2.2.1 x c e rfl) ho (I.freeC x c e)
 ·obtain ⟨e,n,ne,nf,d⟩:=I.pin p hp;have nch:p.1∉ch:=fun z=>(hch p.1 z).2.2.2 p hp rfl;exact ⟨keep p.1 p.2 ne nf nch e n,free p.1 p.2 nch e n,ne,nf,d⟩
theorem Inv.un {t':Nat} (I:Inv X pins σ H s) (u:Un X.fs [] H H' s.heap h') (hok:HOk X.prog X.w H' h'):Inv X pins σ H' { s with heap:=h',toks:=t' }:=by
 obtain ⟨m,⟨o,es,ep,ho,r⟩,_⟩:=id I.loc;obtain ⟨sl,hL⟩:=u.any ho I.free (by simp);exact I.step (g':=s.gens) (d':=s.drawn) (ch:=[]) (fun _ z=>nomatch z) (fun b o _ hb _ e n=>u.keep b o e n hb (by simp)) (fun b o _ hb _ e n=>u.slot b o e n hb (by simp)) (fun b o _ e n=>u.free b o e n (by simp)) (fun b o _ e=>u.there b o e (by simp)) u.tups u.frzs u.tbls (fun m' hm=>by
  obtain ⟨o',es',ep',ho',r'⟩:=hm;rw [ho] at ho'; cases ho';exact ⟨_,es',ep',hL,r'⟩) hok I.bare
theorem Inv.call {g':Array GenState} {t':Nat} {d':Drawn} {ch:List Addr} (I:Inv X pins σ H s) (u:Un (frs X.stack) ch H H' s.heap h') (hok:HOk X.prog X.w H' h') (hg:AllBare g')
  (hch:∀b∈ch,(b∈X.ex\/X.s₀.heap.objs.size<=b)/\b≠X.env.locals/\(∀x c,X.env.cells.lookup x=some c->c≠b)/\∀p∈X.pn ++ pins,p.1≠b) :
  Inv X pins σ H' { s with heap:=h',gens:=g',drawn:=d',toks:=t' }:=by
 obtain ⟨m,⟨o,es,ep,ho,r⟩,_⟩:=id I.loc;obtain ⟨sl,hL⟩:=u.any ho I.free fun z=>(hch _ z).2.1 rfl;exact I.step (ch:=ch) hch (fun b o hL hb hc e n=>u.keep b o e n (fun z=>(mem_cons.mp (I.stkSub b z)).elim hL hb) hc) (fun b o _ _ hc e n=>u.any e n hc) (fun b o hc e n=>u.free b o e n hc) (fun b o hc e=>u.there b o e hc) u.tups u.frzs u.tbls (fun m' hm=>by
  obtain ⟨o',es',ep',ho',r'⟩:=hm;rw [ho] at ho'; cases ho';exact ⟨_,es',ep',hL,r'⟩) hok hg
theorem Inv.turned {t':Nat} {it:Addr} (I:Inv X pins σ H s) (k:∀b o,b≠it->s.heap.get? b=some o->h'.get? b=some o) (hn:H it=none) (hL:it≠X.env.locals)
  (h1:it∈X.ex\/X.s₀.heap.objs.size<=it) (h2:∀x c,X.env.cells.lookup x=some c->c≠it) (h3:∀p∈X.pn ++ pins,p.1≠it):Inv X pins σ H { s with heap:=h',toks:=t' }:=by
 have nit:∀b u,H b=some u->b≠it:=fun b u e z=>by rw [z,hn] at e; cases e
 refine I.step (g':=s.gens) (d':=s.drawn) (ch:=[it]) (fun b hb=>?_) (fun b o _ _ hc e _=>k b o (fun z=>hc (by simp [z])) e) (fun b o _ _ hc e _=>⟨o.slots,k b o (fun z=>hc (by simp [z])) e⟩) (fun _ _ _ _ n=>n)
  (fun b o hc e=>⟨o,k b o (fun z=>hc (by simp [z])) e⟩) (fun _ _ e=>e) (fun _ _ _ e=>e) (fun b ps e=>⟨#[],by rw [e]; simp⟩) (fun m hm=>?_) (fun b u e=>?_) I.bare
 ·have e:b=it:=by simpa using hb
  subst e;exact ⟨h1,hL,h2,h3⟩
 ·obtain ⟨o,es,ep,ho,r⟩:=hm;exact ⟨o,es,ep,k _ o (Ne.symm hL) ho,r⟩
 ·refine (I.hok b u e).stay (fun c v hc q=>k c v ?_ q) (fun _ q=>q) fun _ _ q=>q;rcases hc with z | z
  ·rw [z]; exact nit b u e
  ·exact nit c _ z
theorem Inv.tok (I:Inv X pins σ H s) (t:Nat):Inv X pins σ H { s with toks:=t }:=I.un (h':=s.heap) (t':=t) Un.refl I.hok
theorem Inv.kept {t':Nat} (I:Inv X pins σ H s) (k:∀b u,s.heap.get? b=some u->h'.get? b=some u):Inv X pins σ H { s with heap:=h',toks:=t' }:=I.un (Un.kept k) (I.hok.kept k)
theorem Inv.laid {a:Addr} {o:HO} {t':Nat} (I:Inv X pins σ H s) (k:∀b u,s.heap.get? b=some u->h'.get? b=some u) (hp:s.heap.objs.size<=a) (new:ObjOk X.prog X.w (upd H a o) h' a o) :
  Inv X pins σ (upd H a o) { s with heap:=h',toks:=t' }:=I.un (Un.laid k hp (I.hok.fresh hp)) (I.hok.laid k hp new)
theorem Inv.write {x e:Addr} {o:HO} {t':Nat} (I:Inv X pins σ H s) (mu:Df (H x)) (he:e=x\/H e=some (.own x)) (k:∀b u,b≠e->s.heap.get? b=some u->h'.get? b=some u) (heo:∃u,h'.get? e=some u)
  (new:ObjOk X.prog X.w (upd H x o) h' x o):Inv X pins σ (upd H x o) { s with heap:=h',toks:=t' }:=I.un (Un.write mu he k heo) (I.hok.write mu he k heo new)
theorem Inv.weak {σ':List (Option V)} (I:Inv X pins σ H s) (hl:σ'.length=σ.length) (w:∀(i:Nat) v,σ'[i]? = some (some v)->σ[i]? = some (some v)):Inv X pins σ' H s :=
 ⟨I.ok,I.os,I.bare,I.base,let ⟨m,hn,hl'⟩:=I.loc; ⟨m,hn,fun i x v e1 e2 e3=>hl' i x v e1 (w i v e2) e3⟩,I.cell,I.free,I.freeC,I.pin,I.hok,hl.trans I.len⟩
theorem Inv.pins_of {pins':List (Addr×Obj)} (I:Inv X pins σ H s) (h:∀p∈pins',s.heap.get? p.1=some p.2/\H p.1=none/\p.1≠X.env.locals/\p.1∉X.fs/\∀v,p.2.data≠.cell v):Inv X pins' σ H s :=
 ⟨I.ok,I.os,I.bare,I.base,I.loc,I.cell,I.free,I.freeC,fun p hp=>(mem_append.mp hp).elim (fun z=>I.pin p (mem_append_left _ z)) (h p),I.hok,I.len⟩
theorem Ig {N:List Str} (hN:N.Nodup) {i j:Nat} {x:Str} (a:N[i]? = some x) (b:N[j]? = some x):i=j:=by
 obtain ⟨h1,e1⟩:=List.getElem?_eq_some_iff.mp a;obtain ⟨h2,e2⟩:=List.getElem?_eq_some_iff.mp b;exact (getElem_inj hN).mp (e1.trans e2.symm)
theorem Dg {M:Model} {A:Around} {E:Value->Shared->Prop} {i:Nat} {x:Str} {v:V} {u:Value} {Q:Unit->Shared->Prop} (I:Inv X pins σ H s) (hN:X.N.Nodup) (hi:X.N[i]? = some x) (hx:Loc X.env.scope x) (r:RelV v u)
  (h:∀s',Inv X pins (σ.set i (some v)) H s'->(∃a,Heap.SameBut a s.heap s'.heap/\(a=X.env.locals\/X.env.cells.lookup x=some a))->Q () s') (hf:X.fn x=true\/X.env.scope.names.lookup x=some .local:=by first | exact .inl rfl | exact .inr rfl | assumption):wpAny M A (storeName X.env x u) Q E s:=by
 obtain ⟨m,hn,hl⟩:=id I.loc;have hcls:(X.env.scope.kind == .class || (X.env.scope.kind == .module && X.env.locals != X.env.globals))=false:=by rw [I.ok.kind]; rfl
 have hiσ:i < σ.length:=by rw [I.len]; exact (List.getElem?_eq_some_iff.mp hi).1
 have cne:=I.cne;have tracked:∀{a:Addr} {h':Heap},(∃o,s.heap.get? a=some o/\H a=none)->Heap.SameBut a s.heap h'->HOk X.prog X.w H h':=fun {a h'} ha hs b ob e=>by
  obtain ⟨_,_,hfree⟩:=ha;refine (I.hok b ob e).stay (fun c w' hc q=>(hs.2 c ?_).trans q) (fun _ q=>q) fun _ _ q=>q
  rintro rfl
  rcases hc with rfl | hc
  ·rw [hfree] at e; cases e
  ·rw [hfree] at hc; cases hc
 rcases hx with hk | hk
 ·refine wpAny_storeName_local hk hn (fun h' hn' hs=>?_) hcls;obtain ⟨oL,_,_,hoL,_⟩:=id hn;refine h _ ⟨I.ok,I.os,I.bare,⟨fun b o e n hb hx=>?_,fun b o e n hb hx=>?_,I.base.free,fun b o e hx=>?_,I.base.tups,I.base.frzs,I.base.tbls⟩,⟨_,hn',fun j y v' e1 e2 e3=>?_⟩,fun y c e=>?_,I.free,I.freeC,fun p hp=>?_,tracked ⟨oL,hoL,I.free⟩ hs,by simpa using I.len⟩ ⟨_,hs,.inl rfl⟩
  ·exact (hs.2 b (Nat.ne_of_lt (Nat.lt_of_lt_of_le (Heap.lt_size e) I.ok.above))).trans (I.base.keep b o e n hb hx)
  ·obtain ⟨sl,e1⟩:=I.base.slot b o e n hb hx;exact ⟨sl,(hs.2 b (Nat.ne_of_lt (Nat.lt_of_lt_of_le (Heap.lt_size e) I.ok.above))).trans e1⟩
  ·obtain ⟨o',e1⟩:=I.base.there b o e hx;exact ⟨o',(hs.2 b (Nat.ne_of_lt (Nat.lt_of_lt_of_le (Heap.lt_size e) I.ok.above))).trans e1⟩
  ·by_cases hj:j=i
   ·subst hj;rw [hi] at e1; cases e1;rw [List.getElem?_set_self hiσ] at e2
    cases e2
    exact ⟨u,r,.inl ⟨hk,by simp⟩⟩
   ·rw [List.getElem?_set_ne (Ne.symm hj)] at e2;obtain ⟨u',r',q⟩:=hl j y v' e1 e2 e3;refine ⟨u',r',?_⟩;rcases q with ⟨k,e⟩ | ⟨k,c,e,z⟩
    ·refine .inl ⟨k,?_⟩;have:y≠x:=fun e=>hj (Ig hN e1 (e ▸ hi));simp [this,e]
    ·exact .inr ⟨k,c,e,z.sameBut hs (cne y c e)⟩
  ·obtain ⟨w',z⟩:=I.cell y c e;exact ⟨w',z.sameBut hs (cne y c e)⟩
  ·obtain ⟨e,n,ne,nf,d⟩:=I.pin p hp;exact ⟨(hs.2 p.1 ne).trans e,n,ne,nf,d⟩
 ·have hfn:X.fn x=true:=by
   rcases hf with z | z
   ·exact z
   ·rw [z] at hk; cases hk
  obtain ⟨c,hc⟩:=I.ok.has x (.inl hk);obtain ⟨w',z⟩:=I.cell x c hc;refine wpAny_storeName_cell I.ok.kind hk hc z (fun h' hc' hs=>?_);obtain ⟨oc,hoc,hocd⟩:=id z;refine h { s with heap:=h' } ⟨I.ok,I.os,I.bare,⟨fun b o e n hb hx=>?_,fun b o e n hb hx=>?_,I.base.free,fun b o e hx=>?_,I.base.tups,I.base.frzs,I.base.tbls⟩,⟨m,hn.sameBut hs (Ne.symm (cne x c hc)),fun j y v' e1 e2 e3=>?_⟩,fun y c' e=>?_,I.free,I.freeC,fun p hp=>?_,tracked ⟨oc,hoc,I.freeC x c hc⟩ hs,by simpa using I.len⟩ ⟨c,hs,.inr hc⟩
  ·exact (hs.2 b (Nat.ne_of_lt (Nat.lt_of_lt_of_le (Heap.lt_size e) (I.ok.cab x c hfn hc)))).trans (I.base.keep b o e n hb hx)
  ·obtain ⟨sl,e1⟩:=I.base.slot b o e n hb hx;exact ⟨sl,(hs.2 b (Nat.ne_of_lt (Nat.lt_of_lt_of_le (Heap.lt_size e) (I.ok.cab x c hfn hc)))).trans e1⟩
  ·obtain ⟨o',e1⟩:=I.base.there b o e hx;exact ⟨o',(hs.2 b (Nat.ne_of_lt (Nat.lt_of_lt_of_le (Heap.lt_size e) (I.ok.cab x c hfn hc)))).trans e1⟩
  ·by_cases hj:j=i
   ·subst hj;rw [hi] at e1; cases e1;rw [List.getElem?_set_self hiσ] at e2
    cases e2
    exact ⟨u,r,.inr ⟨.inl hk,c,hc,hc'⟩⟩
   ·rw [List.getElem?_set_ne (Ne.symm hj)] at e2;obtain ⟨u',r',q⟩:=hl j y v' e1 e2 e3;refine ⟨u',r',?_⟩;rcases q with q | ⟨k,c',e,z'⟩
    ·exact .inl q
    ·refine .inr ⟨k,c',e,z'.sameBut hs ?_⟩
     rintro rfl
     exact hj (Ig hN e1 (I.ok.inj _ _ _ e hc ▸ hi))
  ·by_cases hcc:c'=c
   ·subst hcc; exact ⟨_,hc'⟩
   ·obtain ⟨w2,z2⟩:=I.cell y c' e;exact ⟨w2,z2.sameBut hs hcc⟩
  ·obtain ⟨e,n,ne,nf,d⟩:=I.pin p hp;refine ⟨(hs.2 p.1 ?_).trans e,n,ne,nf,d⟩;intro q;rw [q,hoc] at e;have q':oc=p.2:=Option.some.inj e;exact d w' (by rw [<- q']; exact hocd)
theorem Ih {M:Model} {A:Around} {E:Value->Shared->Prop} {i:Nat} {x:Str} {v:V} {u:Value} {Q:Unit->Shared->Prop} (I:Inv X pins σ H s) (hN:X.N.Nodup) (hi:X.N[i]? = some x) (hx:Loc X.env.scope x) (r:RelV v u)
  (h:∀s',Inv X pins (σ.set i (some v)) H s'->Q () s') (hf:X.fn x=true\/X.env.scope.names.lookup x=some .local:=by first | exact .inl rfl | exact .inr rfl | assumption):wpAny M A (storeName X.env x u) Q E s :=
 Dg I hN hi hx r (fun s' I' _=>h s' I') hf
theorem Inv.call' {s':Shared} {ch:List Addr} (I:Inv X pins σ H s) (ho:s'.os=s.os) (u:Un (frs X.stack) ch H H' s.heap s'.heap) (hok:HOk X.prog X.w H' s'.heap) (hg:AllBare s'.gens)
  (hch:∀b∈ch,(b∈X.ex\/X.s₀.heap.objs.size<=b)/\b≠X.env.locals/\(∀x c,X.env.cells.lookup x=some c->c≠b)/\∀p∈X.pn ++ pins,p.1≠b):Inv X pins σ H' s':=by
 obtain ⟨h',g',d',t',o'⟩:=s';have e:o'=s.os:=ho;subst e;exact I.call (g':=g') (t':=t') (d':=d') u hok hg hch
end
abbrev XK:=Value->Option Addr->Hp->Prop
abbrev St:=List (Option V)
abbrev VK:=V->Hp->Prop
abbrev TE:=St->Hp->VK->Prop
abbrev TT:=St->Hp->(Bool->Hp->Prop)->Prop
abbrev TA:=St->Hp->(List V->Hp->Prop)->Prop
structure Ends where
 nx:St->Hp->Prop
 rt:VK
 bk:St->Hp->Prop:=fun _ _=>False
 ct:St->Hp->Prop:=fun _ _=>False
abbrev TS:=Ends->St->Hp->Prop
noncomputable def EP (X:Cx) (pins:List (Addr×Obj)) (σ:St) (Q:VK) (u:Value) (s':Shared):Prop:=∃v H',Inv X pins σ H' s'/\RelV v u/\Q v H'
noncomputable def TP (X:Cx) (pins:List (Addr×Obj)) (σ:St) (Q:Bool->Hp->Prop) (b:Bool) (s':Shared):Prop:=∃H',Inv X pins σ H' s'/\Q b H'
noncomputable def AP (X:Cx) (pins:List (Addr×Obj)) (σ:St) (Q:List V->Hp->Prop) (us:List Value) (s':Shared):Prop:=∃vs H',Inv X pins σ H' s'/\Vals vs us/\Q vs H'
noncomputable def SP (X:Cx) (pins:List (Addr×Obj)) (D:Ends) (f:Flow) (s':Shared):Prop :=
 match f with
 | .next=>∃σ' H',Inv X pins σ' H' s'/\D.nx σ' H'
 | .brk=>∃σ' H',Inv X pins σ' H' s'/\D.bk σ' H'
 | .cont=>∃σ' H',Inv X pins σ' H' s'/\D.ct σ' H'
 | .ret u=>∃v σ' H',Inv X pins σ' H' s'/\RelV v u/\D.rt v H'
noncomputable def PE (X:Cx) (e:Expr) (t:TE):Prop :=
 ∀(pins:List (Addr×Obj)) (s:Shared) (σ:St) (H:Hp) (Q:VK),Inv X pins σ H s->t σ H Q->wpAny (model X.prog X.w) X.A (eval e X.env) (EP X pins σ Q) X.xe s
noncomputable def PT (X:Cx) (e:Expr) (t:TT):Prop :=
 ∀(pins:List (Addr×Obj)) (s:Shared) (σ:St) (H:Hp) (Q:Bool->Hp->Prop),Inv X pins σ H s->t σ H Q->wpAny (model X.prog X.w) X.A (isTrue e X.env (eval e X.env)) (TP X pins σ Q) X.xe s
noncomputable def PW (X:Cx) (e:Expr) (t:TT):Prop :=
 ∀(whole:Sem Value) (pins:List (Addr×Obj)) (s:Shared) (σ:St) (H:Hp) (Q:Bool->Hp->Prop),Inv X pins σ H s->t σ H Q->wpAny (model X.prog X.w) X.A (isTrue e X.env whole) (TP X pins σ Q) X.xe s
theorem PW.pt {X:Cx} {e:Expr} {t:TT} (h:PW X e t):PT X e t:=h _
noncomputable def PA (X:Cx) (es:List Expr) (t:TA):Prop :=
 ∀(pos:Pos) (pins:List (Addr×Obj)) (s:Shared) (σ:St) (H:Hp) (Q:List V->Hp->Prop),Inv X pins σ H s->t σ H Q->wpAny (model X.prog X.w) X.A (spliced (backTo pos (starEach es X.env))) (AP X pins σ Q) X.xe s
noncomputable def PS (X:Cx) (st:Stmt) (t:TS):Prop :=
 ∀(pins:List (Addr×Obj)) (s:Shared) (σ:St) (H:Hp) (D:Ends),Inv X pins σ H s->t D σ H->wpAny (model X.prog X.w) X.A (exec st X.env) (SP X pins D) X.xe s
noncomputable def PSs (X:Cx) (st:List Stmt) (t:TS):Prop :=
 ∀(pins:List (Addr×Obj)) (s:Shared) (σ:St) (H:Hp) (D:Ends),Inv X pins σ H s->t D σ H->wpAny (model X.prog X.w) X.A (execs st X.env) (SP X pins D) X.xe s
theorem gP {α:Type} {t:Sem α} {Q Q':α->Shared->Prop} {M:Model} {A:Around} {E:Value->Shared->Prop} {s:Shared} (h:wpAny M A t Q E s) (hQ:∀a s,Q a s->Q' a s):wpAny M A t Q' E s:=wpAny_mono h hQ fun _ _ x=>x
section
variable {X:Cx}
noncomputable def Et (i:Nat):TE:=fun σ H Q=>∃v,σ[i]? = some (some v)/\Q v H
noncomputable def tC (v:V):TE:=fun _ H Q=>Q v H
theorem kz' {i:Nat} {x:Str} {pos:Pos} (hN:X.N[i]? = some x) (hv:yL X.env.scope x) (hd:(x == ("__debug__" : Str))=false:=by decide) (hcd:(x == ("__classdict__" : Str))=false:=by decide):PE X (.Name x pos) (Et i):=by
 intro pins s σ H Q I h;obtain ⟨v,e,h⟩:=h;obtain ⟨m,hn,hl⟩:=I.loc;obtain ⟨u,r,l⟩:=hl i x v hN e hv;have fin:EP X pins σ Q u s:=⟨v,H,I,r,h⟩;rcases l with ⟨hk,hm⟩ | ⟨hk,c,hc,hcell⟩
 ·exact wpAny_Name (wpAny_loadName_local I.ok.kind hk hn hm fin) hd
 ·rcases hk with hk | hk
  ·exact wpAny_Name (wpAny_loadName_cell I.ok.kind hk hc hcell fin) hd
  ·exact wpAny_Name (wpAny_loadName_free I.ok.kind hk hc hcell fin hcd) hd
theorem M9 {i j pos}:PE X (.Constant (.int i) j pos) (tC (.int i)):=fun _ _ _ H _ I h=>wpAny_Constant_int ⟨.int i,H,I.tok _,⟨_,rfl⟩,h⟩
theorem M_ {b j pos}:PE X (.Constant (.bool b) j pos) (tC (.bl b)):=fun _ _ _ H _ I h=>Constant_bool ⟨.bl b,H,I,rfl,h⟩
theorem Nb {j pos}:PE X (.Constant .none j pos) (tC .non):=fun _ _ _ H _ I h=>Constant_none ⟨.non,H,I,rfl,h⟩
theorem Ng {x j pos}:PE X (.Constant (.str x) j pos) (tC (.str x)):=fun _ _ _ H _ I h=>Calls.Constant_str ⟨.str x,H,I.tok _,⟨_,rfl⟩,h⟩
noncomputable def Gl (X:Cx) (x:Str):Prop:=X.env.kindOf x=some .globalImplicit
theorem Ii {E:Value->Shared->Prop} {pins:List (Addr×Obj)} {s:Shared} {σ:St} {H:Hp} {x:Str} {u:Value} {pos:Pos} {Q:Value->Shared->Prop} (I:Inv X pins σ H s) (hg:Gl X x) (hm:X.mg x=some u) (h:Q u s)
  (hd:(x == ("__debug__" : Str))=false:=by decide):wpAny (model X.prog X.w) X.A (eval (.Name x pos) X.env) Q E s :=
 Calls.Name_function_global I.ok.kind hg (Calls.loadGlobal_global (by rw [I.ok.glob]; exact I.mod.glob.keeps I.bk) hm h) hd
theorem vQ {E:Value->Shared->Prop} {pins:List (Addr×Obj)} {s:Shared} {σ:St} {H:Hp} {x:Str} {u:Value} {pos:Pos} {Q:Value->Shared->Prop} (I:Inv X pins σ H s) (hg:Gl X x) (hm:X.mg x=none) (hv:bootBuiltins x=some u) (h:Q u s)
  (hn:x≠"__name__":=by decide) (hd:(x == ("__debug__" : Str))=false:=by decide):wpAny (model X.prog X.w) X.A (eval (.Name x pos) X.env) Q E s:=by
 obtain ⟨mb,h1,h2⟩:=I.mod.blt;exact Calls.Name_function_global I.ok.kind hg (Calls.loadGlobal_builtin (by rw [I.ok.glob]; exact I.mod.glob.keeps I.bk) hm (by rw [I.ok.blt]; exact h1.keeps I.bk) ((h2 x hn).trans hv) h) hd
noncomputable def Nh (ta tb:TE) (k:Int->Int->Hp->Prop):St->Hp->Prop:=fun σ H=>ta σ H fun x H1=>tb σ H1 fun y H2=>∃i j,x=.int i/\y=.int j/\k i j H2
variable {a b:Expr} {ta tb:TE} {pos:Pos}
noncomputable def pJ (p:Int->Int->Bool) (ta tb:TE):TE:=fun σ H Q=>Nh ta tb (fun i j H2=>Q (.bl (p i j)) H2) σ H
abbrev Vb:TE->TE->TE:=pJ fun i j=>decide (i < j)
abbrev Vc:TE->TE->TE:=pJ fun i j=>decide (i<=j)
abbrev Vd:TE->TE->TE:=pJ fun i j=>decide (j < i)
abbrev Ve:TE->TE->TE:=pJ fun i j=>decide (j<=i)
abbrev Ni:TE->TE->TE:=pJ fun i j=>decide (i=j)
abbrev Nj:TE->TE->TE:=pJ fun i j=>!decide (i=j)
noncomputable def tB (t:TE):TT:=fun σ H Q=>t σ H fun x H1=>∃c,x=.bl c/\Q c H1
variable {tA tB':TT} {rest:List Expr}
end
noncomputable def SqL (K:Frag) (H:Hp) (a:Addr) (xs:List V):Prop :=
 Rd H a (.lst xs) \/
  ∃(o:Obj) (its:Array Value) (n:Nat),K.lookup a=some o/\o.cls=.type "list"/\o.dict=none/\o.data=.seq its n/\its.size<=sizeLine/\Vals xs its.toList
noncomputable def SqT (K:Frag) (H:Hp) (a:Addr) (xs:List V):Prop :=
 Rd H a (.tup xs) \/
  ∃(o:Obj) (its:Array Value) (n:Nat),K.lookup a=some o/\o.cls=.type "tuple"/\o.data=.seq its n/\its.size<=sizeLine/\Vals xs its.toList
noncomputable def Eu:Value->Option V
 | .none=>some .non
 | .bool b=>some (.bl b)
 | .int i _=>some (.int i)
 | .str x _=>some (.str x)
 | .bytes b _=>some (.byt b)
 | .float b _=>some (.flt b)
 | .ref a=>some (.ref a)
 | .type n=>some (.ty n)
 | _=>none
theorem RelV.abs {x:V} {u:Value} (r:RelV x u):Eu u=some x:=by
 cases x with
 | non=>cases r; rfl
 | bl _=>cases r; rfl
 | int _=>obtain ⟨t,rfl⟩:=r; rfl
 | str _=>obtain ⟨t,rfl⟩:=r; rfl
 | byt _=>obtain ⟨t,rfl⟩:=r; rfl
 | flt _=>obtain ⟨t,rfl⟩:=r; rfl
 | ref _=>cases r; rfl
 | ty _=>cases r; rfl
theorem RelV.inj {x y:V} {u:Value} (r:RelV x u) (q:RelV y u):x=y:=Option.some.inj (r.abs.symm.trans q.abs)
theorem Vals.inj:∀{xs ys:List V} {us:List Value},Vals xs us->Vals ys us->xs=ys
 | _,_,_,.nil,.nil=>rfl
 | _,_,_,.cons r t,.cons r' t'=>by rw [r.inj r',Vals.inj t t']
section
variable {X:Cx} {pins:List (Addr×Obj)} {σ:St} {H:Hp} {s:Shared} {a:Addr} {xs ys:List V}
theorem SqL.of {K:Frag} (h:H a=some (.lst xs)):SqL K H a xs:=.inl (.inl h)
theorem SqT.of {K:Frag} (h:H a=some (.tup xs)):SqT K H a xs:=.inl (.inl h)
theorem Inv.list (I:Inv X pins σ H s) (h:SqL X.K H a xs):∃its:List Value,Vals xs its/\PlainL s.heap a its.toArray/\xs.length<=sizeLine:=by
 rcases h with h | ⟨o,its,n,hk,hc,hd,hs,hz,r⟩
 ·obtain ⟨z,its,n,r,e⟩:=h.ok I.hok;exact ⟨its,r,⟨_,n,e,rfl,rfl,rfl⟩,z⟩
 ·refine ⟨its.toList,r,⟨o,n,I.kIn a o hk,hc,hd,by simpa using hs⟩,?_⟩;have e:=r.length;simp only [Array.length_toList] at e;omega
theorem Inv.tuple (I:Inv X pins σ H s) (h:SqT X.K H a xs):∃its:List Value,Vals xs its/\IsTup s.heap a its.toArray/\xs.length<=sizeLine:=by
 rcases h with h | ⟨o,its,n,hk,hc,hs,hz,r⟩
 ·obtain ⟨z,its,r,p⟩:=h.ok I.hok;exact ⟨its,r,p,z⟩
 ·refine ⟨its.toList,r,⟨o,I.kIn a o hk,hc,n,by simpa using hs⟩,?_⟩;have e:=r.length;simp only [Array.length_toList] at e;omega
theorem Inv.list_inj (I:Inv X pins σ H s) (h:SqL X.K H a xs) (h':SqL X.K H a ys):xs=ys:=by
 obtain ⟨its,r,⟨o,n,e,_,_,d⟩,_⟩:=I.list h;obtain ⟨its',r',⟨o',n',e',_,_,d'⟩,_⟩:=I.list h';rw [e] at e'; cases e';rw [d] at d';injection d' with d1 _
 have:its=its':=by simpa using congrArg Array.toList d1
 subst this;exact r.inj r'
theorem Inv.tuple_inj (I:Inv X pins σ H s) (h:SqT X.K H a xs) (h':SqT X.K H a ys):xs=ys:=by
 obtain ⟨its,r,⟨o,e,_,n,d⟩,_⟩:=I.tuple h;obtain ⟨its',r',⟨o',e',_,n',d'⟩,_⟩:=I.tuple h';rw [e] at e'; cases e';rw [d] at d';injection d' with d1 _
 have:its=its':=by simpa using congrArg Array.toList d1
 subst this;exact r.inj r'
end
abbrev Cx.wish (X:Cx) (E:Value->Shared->Prop):Cx:={ X with xe:=E }
abbrev Cx.nox (X:Cx):Cx:=X.wish fun _ _=>False
theorem Cx.Ok.wish {X:Cx} (ok:X.Ok) (E:Value->Shared->Prop):(X.wish E).Ok :=
 ⟨ok.mod,ok.kind,ok.glob,ok.blt,ok.above,ok.inj,ok.has,ok.cab,ok.hd,ok.frames,ok.stk,ok.exf,ok.bs,ok.bsz,ok.noex,ok.exfs,ok.funs,ok.frf⟩
theorem Cx.Ok.unwish {X:Cx} {E:Value->Shared->Prop} (ok:(X.wish E).Ok):X.Ok :=
 ⟨ok.mod,ok.kind,ok.glob,ok.blt,ok.above,ok.inj,ok.has,ok.cab,ok.hd,ok.frames,ok.stk,ok.exf,ok.bs,ok.bsz,ok.noex,ok.exfs,ok.funs,ok.frf⟩
section
variable {X:Cx} {pins:List (Addr×Obj)} {σ:St} {H:Hp} {s:Shared} {E:Value->Shared->Prop}
theorem Inv.wish (I:Inv X pins σ H s) (E:Value->Shared->Prop):Inv (X.wish E) pins σ H s:=⟨I.ok.wish E,I.os,I.bare,I.base,I.loc,I.cell,I.free,I.freeC,I.pin,I.hok,I.len⟩
theorem Inv.unwish (I:Inv (X.wish E) pins σ H s):Inv X pins σ H s:=⟨I.ok.unwish,I.os,I.bare,I.base,I.loc,I.cell,I.free,I.freeC,I.pin,I.hok,I.len⟩
theorem SP.unwish {D:Ends} {f:Flow} {s':Shared} (h:SP (X.wish E) pins D f s'):SP X pins D f s':=by
 cases f with
 | next=>obtain ⟨σ',H',I,q⟩:=h; exact ⟨σ',H',I.unwish,q⟩
 | brk=>obtain ⟨σ',H',I,q⟩:=h; exact ⟨σ',H',I.unwish,q⟩
 | cont=>obtain ⟨σ',H',I,q⟩:=h; exact ⟨σ',H',I.unwish,q⟩
 | ret u=>obtain ⟨v,σ',H',I,r,q⟩:=h; exact ⟨v,σ',H',I.unwish,r,q⟩
theorem PE.nox {e:Expr} {t:TE} (h:PE X.nox e t):PE X e t:=fun pins s σ H Q I hw =>
 wpAny_mono (h pins s σ H Q (I.wish _) hw) (fun _ _ ⟨v,H',I',r,q⟩=>⟨v,H',I'.unwish,r,q⟩) fun _ _ z=>False.elim z
theorem PT.nox {e:Expr} {t:TT} (h:PT X.nox e t):PT X e t:=fun pins s σ H Q I hw =>
 wpAny_mono (h pins s σ H Q (I.wish _) hw) (fun _ _ ⟨H',I',q⟩=>⟨H',I'.unwish,q⟩) fun _ _ z=>False.elim z
theorem PSs.nox {st:List Stmt} {t:TS} (h:PSs X.nox st t):PSs X st t:=fun pins s σ H D I hw =>
 wpAny_mono (h pins s σ H D (I.wish _) hw) (fun _ _ q=>q.unwish) fun _ _ z=>False.elim z
end
section
variable {X:Cx} {st:Stmt} {rest:List Stmt} {t u:TS} {e:Expr} {te:TE} {pos:Pos}
end
abbrev TG:=V->St->Hp->(St->Hp->Prop)->Prop
abbrev vR:=List V->St->Hp->(St->Hp->Prop)->Prop
noncomputable def PG (X:Cx) (target:Expr) (t:TG):Prop :=
 ∀(pins:List (Addr×Obj)) (s:Shared) (σ:St) (H:Hp) (v:V) (u:Value) (Q:St->Hp->Prop),Inv X pins σ H s->RelV v u->t v σ H Q ->
  wpAny (model X.prog X.w) X.A (assign target X.env u) (fun _ s'=>∃σ' H',Inv X pins σ' H' s'/\Q σ' H') X.xe s
noncomputable def vU (X:Cx) (ts:List Expr) (t:vR):Prop :=
 ∀(pins:List (Addr×Obj)) (s:Shared) (σ:St) (H:Hp) (vs:List V) (us:List Value) (Q:St->Hp->Prop),Inv X pins σ H s->Vals vs us->t vs σ H Q ->
  wpAny (model X.prog X.w) X.A (assignInOrder ((assignEach ts X.env).map (·.2)) us) (fun _ s'=>∃σ' H',Inv X pins σ' H' s'/\Q σ' H') X.xe s
abbrev Ew:=V->V->V->Hp->(Hp->Prop)->Prop
noncomputable def Ex (X:Cx) (t:Ew):Prop :=
 ∀(pins:List (Addr×Obj)) (s:Shared) (σ:St) (H:Hp) (o i v:V) (ov iv u:Value) (Q:Hp->Prop),Inv X pins σ H s->RelV o ov->RelV i iv->RelV v u->t o i v H Q ->
  wpAny (model X.prog X.w) X.A (setItem ov iv u) (fun _ s'=>∃H',Inv X pins σ H' s'/\Q H') X.xe s
abbrev Vf:=V->V->Hp->VK->Prop
section
variable {X:Cx} {pos:Pos}
noncomputable def yM (i:Nat):TG:=fun v σ H Q=>Q (σ.set i (some v)) H
theorem hQ' {i:Nat} {x:Str} (hN:X.N.Nodup) (hi:X.N[i]? = some x) (hx:Loc X.env.scope x) (hf:X.fn x=true\/X.env.scope.names.lookup x=some .local:=by first | exact .inl rfl | exact .inr rfl | assumption):PG X (.Name x pos) (yM i):=by
 intro pins s σ H v u Q I r h;exact wpAny_assign_Name (Ih I hN hi hx r (fun s' I'=>⟨_,H,I',h⟩) hf)
noncomputable def Ey:vR:=fun vs σ H Q=>vs=[]/\Q σ H
noncomputable def yN (t:TG) (u:vR):vR:=fun vs σ H Q=>∃v r,vs=v :: r/\t v σ H fun σ' H'=>u r σ' H' Q
theorem Nk:vU X [] Ey:=by
 intro pins s σ H vs us Q I r h;obtain ⟨e,h⟩:=h;subst e
 cases r
 exact assignInOrder_nil ⟨σ,H,I,h⟩
theorem Np {e:Expr} {es:List Expr} {t:TG} {u:vR} (h1:PG X e t) (h2:vU X es u)
  (hs:(assignEach (e :: es) X.env).map (·.2)=assign e X.env :: (assignEach es X.env).map (·.2):=by rfl):vU X (e :: es) (yN t u):=by
 intro pins s σ H vs us Q I r h;obtain ⟨v,vr,e1,h⟩:=h;subst e1
 cases r with
 | cons r rr =>
  rw [hs];refine assignInOrder_cons (gP (h1 pins s σ H _ _ _ I r h) fun _ s1 ⟨σ1,H1,I1,q1⟩=>?_);exact h2 pins s1 σ1 H1 _ _ Q I1 rr q1
noncomputable def Ez (K:Frag) (n:Nat) (t:vR):TG:=fun v σ H Q=>∃a xs,v=.ref a/\SqT K H a xs/\xs.length=n/\t xs σ H Q
theorem Nq {es:List Expr} {k:Nat} {t:vR} {n:Nat} (hc:X.calm=true) (h:vU X es t)
  (hn:(assignEach es X.env).length=n:=by rfl) (hst:(assignEach es X.env).findIdx? (·.1)=none:=by rfl):PG X (.Tuple es k pos) (Ez X.K n t):=by
 intro pins s σ H v u Q I r hw;obtain ⟨a,xs,e1,hq,hl,hw⟩:=hw;subst e1
 cases r
 obtain ⟨its,rv,ht,hz⟩:=I.tuple hq;refine assign_Tuple_tuple (I.ok.hd hc) ht (by simp [hn,<- hl,rv.length]) hst fun h' hx=>?_;have I1:Inv X pins σ H { s with heap:=h' }:=I.kept (t':=s.toks) fun b o e=>hx b o (Nat.ne_of_lt (Heap.lt_size e)) e
 exact h pins _ σ H xs _ Q I1 (by simpa using rv) hw
end
section
variable {X:Cx} {pos:Pos}
noncomputable def wJ (c:TT) (tb:TS):TS:=fun D σ H=>∃W:Nat->St->Hp->Prop,(∃m,W m σ H)/\∀m σ H,W m σ H ->
 c σ H fun b H1=>if b=true then ∃N:St->Hp->Prop,(∀σ' H',N σ' H'->∃m',m' < m/\W m' σ' H')/\tb { D with nx:=N,ct:=N,bk:=D.nx } σ H1 else D.nx σ H1
theorem Nr {c:Expr} {body:List Stmt} {tc:TT} {tb:TS} (hp:PassesOwn (model X.prog X.w) X.A X.env X.xe) (hc:PT X c tc) (hb:PSs X body tb):PS X (.While c body [] pos) (wJ tc tb):=by
 intro pins s σ H D I h;obtain ⟨W,⟨m0,w0⟩,turn⟩:=h;refine wpAny_While (codeAny_whileLoop (fun n s'=>∃σ' H',Inv X pins σ' H' s'/\W n σ' H') ?_ m0 ⟨σ,H,I,w0⟩)
 rintro n s1 ⟨σ1,H1,I1,w1⟩
 refine wpAny_passesOwn hp (gP (hc pins s1 σ1 H1 _ I1 (turn n σ1 H1 w1)) fun b s2 ⟨H2,I2,q2⟩=>?_)
 cases b with
 | true =>
  obtain ⟨N,hN,q2⟩:=q2;rw [if_pos rfl];refine wpAny_passesOwn hp (gP (hb pins s2 σ1 H2 _ I2 q2) fun f s3 q3=>?_)
  cases f with
  | next =>
   obtain ⟨σ3,H3,I3,n3⟩:=q3;obtain ⟨m',hm,w3⟩:=hN σ3 H3 n3;exact ⟨m',hm,σ3,H3,I3,w3⟩
  | cont =>
   obtain ⟨σ3,H3,I3,n3⟩:=q3;obtain ⟨m',hm,w3⟩:=hN σ3 H3 n3;exact ⟨m',hm,σ3,H3,I3,w3⟩
  | brk=>exact q3
  | ret v=>exact q3
 | false =>
  rw [if_neg Bool.false_ne_true];exact wpAny_execs_nil ⟨σ1,H2,I2,q2⟩
end
structure It where
 go:Nat->Hp->Prop
 yld:Nat->Hp->V->Hp->Prop
 stop:Nat->Hp->Prop
noncomputable def gQ (X:Cx) (pins:List (Addr×Obj)) (H:Hp) (b:Addr):Prop :=
 H b=none/\b≠X.env.locals/\b∉X.fs/\(b∈X.ex\/X.s₀.heap.objs.size<=b)/\(∀x c,X.env.cells.lookup x=some c->c≠b)/\∀p∈X.pn ++ pins,p.1≠b
theorem Inv.fpOk {X:Cx} {pins:List (Addr×Obj)} {σ:St} {H H':Hp} {s:Shared} {b:Addr} (I:Inv X pins σ H s) (hb:s.heap.objs.size<=b) (hn:H' b=none):gQ X pins H' b:=by
 refine ⟨hn,Nat.ne_of_gt (Nat.lt_of_lt_of_le I.lt hb),I.nofs hb,.inr (Nat.le_trans I.sz hb),fun x c e z=>?_,fun p hp z=>?_⟩
 ·obtain ⟨v,q⟩:=I.cell x c e;exact absurd (Nat.lt_of_lt_of_le q.lt (by rw [z]; exact hb)) (Nat.lt_irrefl _)
 ·exact absurd (Nat.lt_of_lt_of_le (Heap.lt_size (I.pin p hp).1) (by rw [z]; exact hb)) (Nat.lt_irrefl _)
structure Turn (P:Program) (w:World) (K:Frag) (tg:Expr) (J:It) (fp:List Addr) (it:Addr) (tn:Nat->Heap->Prop):Prop where
 mem:it∈fp
 obj:∀i h,tn i h->∀b∈fp,∃o,h.get? b=some o/\∀v,o.data≠.cell v
 keep:∀i h h',tn i h->(∀b∈fp,∀o,h.get? b=some o->h'.get? b=some o)->tn i h'
 item:∀(X:Cx),X.prog=P->X.w=w->X.K=K->X.calm=true->∀(i:Nat) (pins:List (Addr×Obj)) (s:Shared) (σ:St) (H:Hp) (E:Value->Shared->Prop),Inv X pins σ H s->(∀b∈fp,gQ X pins H b)->tn i s.heap->J.go i H ->
  wpAny (model P w) X.A (pyNext (.ref it)) (fun r s1=>∃u,r=some u /\
   wpAny (model P w) X.A (letOwnedTupleGo tg (.ref it) u) (fun _ s2=>∃x H',Inv X pins σ H' s2/\RelV x u/\J.yld i H x H'/\tn (i + 1) s2.heap/\∀b∈fp,H' b=none) E s1) E s
 done:∀(X:Cx),X.prog=P->X.w=w->X.K=K->X.calm=true->∀(i:Nat) (pins:List (Addr×Obj)) (s:Shared) (σ:St) (H:Hp) (E:Value->Shared->Prop),Inv X pins σ H s->(∀b∈fp,gQ X pins H b)->tn i s.heap->J.stop i H ->
  wpAny (model P w) X.A (pyNext (.ref it)) (fun r s1=>r=none/\Inv X pins σ H s1) E s
 self:∀(A:Around) (i:Nat) (s:Shared) (Q:Value->Shared->Prop) (E:Value->Shared->Prop),tn i s.heap->Q (.ref it) s->wpAny (model P w) A (pyIter (.ref it)) Q E s
abbrev TI:=St->Hp->(It->Hp->Prop)->Prop
noncomputable def PIE (X:Cx) (pins:List (Addr×Obj)) (σ:St) (tg:Expr) (R:It->Hp->Prop) (itv:Value) (s2:Shared):Prop :=
 ∃(it:Addr) (fp:List Addr) (tn:Nat->Heap->Prop) (J:It) (H':Hp),itv=.ref it/\Inv X pins σ H' s2/\Turn X.prog X.w X.K tg J fp it tn/\tn 0 s2.heap/\(∀b∈fp,gQ X pins H' b)/\R J H'
noncomputable def PI (X:Cx) (tg iter:Expr) (wi:TI):Prop :=
 ∀(pins:List (Addr×Obj)) (s:Shared) (σ:St) (H:Hp) (R:It->Hp->Prop),Inv X pins σ H s->wi σ H R ->
  wpAny (model X.prog X.w) X.A (eval iter X.env) (fun v s1=>wpAny (model X.prog X.w) X.A (pyIter v) (PIE X pins σ tg R) X.xe s1) X.xe s
theorem Dh {M:Model} {A:Around} {E:Value->Shared->Prop} {s:Shared} {tg:Expr} {it:Addr} {u:Value} {o:Obj} {n:String} {vs:Array Value} {Q:Unit->Shared->Prop} (ho:s.heap.get? it=some o) (hc:o.cls=.type n) (hd:o.data=.fields vs)
    (hn:["enumerate", "zip", "dict_itemiterator", "dict_reverseitemiterator", "odict_iterator", "itertools.zip_longest", "itertools.pairwise"].contains n=false) (hQ:Q () s):wpAny M A (letOwnedTupleGo tg (.ref it) u) Q E s:=by
  unfold letOwnedTupleGo
  cases tg <;> first
    | exact wpAny_pure hQ
    | (cases u <;> first
        | exact wpAny_pure hQ
        | (refine wpAny_bind (wpAny_load ho ?_)
           rw [hc,hd];show wpAny M A (if (["enumerate", "zip", "dict_itemiterator", "dict_reverseitemiterator", "odict_iterator", "itertools.zip_longest", "itertools.pairwise"].contains n && vs[0]? == some (rawInt _))=true then _ else _) Q E s
           rw [if_neg (by intro h; rw [hn,Bool.false_and] at h; cases h)];exact wpAny_pure hQ))
noncomputable def Ij (K:Frag) (a:Addr):It :=
 ⟨fun i H=>∃xs x,SqL K H a xs/\xs[i]? = some x,fun i H x H'=>H'=H/\∀xs,SqL K H a xs->xs[i]? = some x,fun i H=>∃xs,SqL K H a xs/\xs.length<=i⟩
noncomputable def Il (K:Frag) (a:Addr):It :=
 ⟨fun i H=>∃xs x,SqT K H a xs/\xs[i]? = some x,fun i H x H'=>H'=H/\∀xs,SqT K H a xs->xs[i]? = some x,fun i H=>∃xs,SqT K H a xs/\xs.length<=i⟩
noncomputable def yj (lo:Int) (n:Nat):It:=⟨fun i _=>i < n,fun i H x H'=>H'=H/\x=.int (lo + i),fun i _=>n<=i⟩
theorem hR' {P:Program} {w:World} {K:Frag} {tg:Expr} (a it:Addr):Turn P w K tg (Ij K a) [it] it (fun i h=>h.IsListIter it a i) where
 mem:=by simp
 obj:=fun i h st b hb=>by
  have e:b=it:=by simpa using hb
  subst e;obtain ⟨o,e,c,d⟩:=st;exact ⟨o,e,fun v z=>by rw [d] at z; cases z⟩
 keep:=fun i h h' st k=>st.at fun o e=>k it (by simp) o e
 item:=by
  intro X hP hw hK hc i pins s σ H E I hf st hg;subst hP hw hK;obtain ⟨xs,x,hq,hx⟩:=hg;obtain ⟨its,rv,p,hz⟩:=I.list hq;obtain ⟨u,hu,ru⟩:=rv.get hx;obtain ⟨f0,f1,f2,f3,f4,f5⟩:=hf it (by simp);refine wpAny_pyNext_list_item st p.isList (x:=u) (by simpa using hu) fun h' st' sb=>?_;have I1:Inv X pins σ H { s with heap:=h' }:=I.turned (t':=s.toks) (fun b o hb e=>(sb.2 b hb).trans e) f0 f1 f3 f4 f5
  obtain ⟨o,e,c,d⟩:=id st';exact ⟨u,rfl,Dh (s:={ s with heap:=h' }) e c d (by decide) ⟨x,H,I1,ru,⟨rfl,fun ys hy=>by rw [I.list_inj hy hq]; exact hx⟩,st',fun b hb=>(hf b hb).1⟩⟩
 done:=by
  intro X hP hw hK hc i pins s σ H E I hf st hg;subst hP hw hK;obtain ⟨xs,hq,hx⟩:=hg;obtain ⟨its,rv,p,hz⟩:=I.list hq;obtain ⟨f0,f1,f2,f3,f4,f5⟩:=hf it (by simp);have hl:=rv.length;exact wpAny_pyNext_list_end (I.ok.hd hc) st p.isList (by simp; omega) fun h' eb=>⟨rfl,I.turned (t':=s.toks) (fun b o hb e=>eb b o hb e) f0 f1 f3 f4 f5⟩
 self:=fun _ _ _ _ _ st h=>wpAny_pyIter_listiter st h
theorem Nt {P:Program} {w:World} {K:Frag} {tg:Expr} (a it:Addr):Turn P w K tg (Il K a) [it] it (fun i h=>h.IsTupleIter it a i) where
 mem:=by simp
 obj:=fun i h st b hb=>by
  have e:b=it:=by simpa using hb
  subst e;obtain ⟨o,e,c,d⟩:=st;exact ⟨o,e,fun v z=>by rw [d] at z; cases z⟩
 keep:=fun i h h' st k=>st.at fun o e=>k it (by simp) o e
 item:=by
  intro X hP hw hK hc i pins s σ H E I hf st hg;subst hP hw hK;obtain ⟨xs,x,hq,hx⟩:=hg;obtain ⟨its,rv,p,hz⟩:=I.tuple hq;obtain ⟨u,hu,ru⟩:=rv.get hx;obtain ⟨f0,f1,f2,f3,f4,f5⟩:=hf it (by simp);refine wpAny_pyNext_tuple_item st (show s.heap.IsTuple a its.toArray from p) (x:=u) (by simpa using hu) fun h' st' sb=>?_
  have I1:Inv X pins σ H { s with heap:=h' }:=I.turned (t':=s.toks) (fun b o hb e=>(sb.2 b hb).trans e) f0 f1 f3 f4 f5
  obtain ⟨o,e,c,d⟩:=id st';exact ⟨u,rfl,Dh (s:={ s with heap:=h' }) e c d (by decide) ⟨x,H,I1,ru,⟨rfl,fun ys hy=>by rw [I.tuple_inj hy hq]; exact hx⟩,st',fun b hb=>(hf b hb).1⟩⟩
 done:=by
  intro X hP hw hK hc i pins s σ H E I hf st hg;subst hP hw hK;obtain ⟨xs,hq,hx⟩:=hg;obtain ⟨its,rv,p,hz⟩:=I.tuple hq;obtain ⟨f0,f1,f2,f3,f4,f5⟩:=hf it (by simp);have hl:=rv.length;exact wpAny_pyNext_tuple_end (I.ok.hd hc) st (show s.heap.IsTuple a its.toArray from p) (by simp; omega) fun h' eb=>⟨rfl,I.turned (t':=s.toks) (fun b o hb e=>eb b o hb e) f0 f1 f3 f4 f5⟩
 self:=fun _ _ _ _ _ st h=>wpAny_pyIter_tupleiter st h
theorem Nu {P:Program} {w:World} {K:Frag} {tg:Expr} (it:Addr) (lo:Int) (n:Nat):Turn P w K tg (yj lo n) [it] it (fun i h=>IsRangeIter h it (lo + (i:Nat) * 1) ((n:Int) - (i:Nat)) 1) where
 mem:=by simp
 obj:=fun i h st b hb=>by
  have e:b=it:=by simpa using hb
  subst e;exact ⟨_,st,fun v z=>by
   have z':Data.fields _=Data.cell v:=z
   cases z'⟩
 keep:=fun i h h' st k=>k it (by simp) _ st
 item:=by
  intro X hP hw hK hc i pins s σ H E I hf st hg;subst hP hw hK;obtain ⟨f0,f1,f2,f3,f4,f5⟩:=hf it (by simp);have W:=Walks.range (prog:=X.prog) (w:=X.w) (I.ok.hd hc) it lo 1 n;refine W.item i s _ _ hg st fun v h' tk hv st' kk=>?_;obtain ⟨t,rfl⟩:=hv;have I1:Inv X pins σ H { s with heap:=h',toks:=tk }:=I.turned (fun b o hb e=>kk b o (by simpa using hb) e) f0 f1 f3 f4 f5
  refine ⟨_,rfl,Dh (s:={ s with heap:=h',toks:=tk }) (n:="range_iterator") st' rfl rfl (by decide) ⟨.int (lo + i),H,I1,⟨t,?_⟩,⟨rfl,rfl⟩,st',fun b hb=>(hf b hb).1⟩⟩
  rw [Int.mul_one]
 done:=by
  intro X hP hw hK hc i pins s σ H E I hf st hg;subst hP hw hK;obtain ⟨f0,f1,f2,f3,f4,f5⟩:=hf it (by simp);exact wpAny_pyNext_range_end (I.ok.hd hc) st (by have:n<=i:=hg; omega) fun h' eb=>⟨rfl,I.turned (t':=s.toks) (fun b o hb e=>eb b o hb e) f0 f1 f3 f4 f5⟩
 self:=fun _ _ _ _ _ st h=>wpAny_pyIter_rangeiter st h
section
variable {X:Cx} {tg:Expr}
theorem Im {pins:List (Addr×Obj)} {σ:St} {H:Hp} {s:Shared} {R:It->Hp->Prop} {E:Value->Shared->Prop} {lo hi:Int} {t u v:Tok} {tk:Nat} (I:Inv X pins σ H s) (h1:-(2 ^ 62)<=lo) (h2:lo < 2 ^ 62) (h3:-(2 ^ 62)<=hi) (h4:hi < 2 ^ 62)
  (q:R (yj lo (hi - lo).toNat) H):wpAny (model X.prog X.w) X.A (pyIter (.ref s.heap.objs.size)) (PIE X pins σ tg R) E { s with heap:=s.heap.push { cls:=.type "range",data:=.fields #[.int lo t,.int hi u,.int 1 v] },toks:=tk }:=by
 refine wpAny_pyIter_range (IsRange.new ..) (small_one h1 h2 h3 h4) ?_;have I1:Inv X pins σ H { s with heap:=s.heap.push { cls:=.type "range",data:=.fields #[.int lo t,.int hi u,.int 1 v] },toks:=tk }:=I.kept fun b o e=>Heap.get?_push_of_some _ e
 refine ⟨(s.heap.push { cls:=.type "range",data:=.fields #[.int lo t,.int hi u,.int 1 v] }).objs.size,[(s.heap.push { cls:=.type "range",data:=.fields #[.int lo t,.int hi u,.int 1 v] }).objs.size],_,_,H,rfl,
  I1.kept (t':=tk) fun b o e=>Heap.get?_push_of_some _ e,Nu _ lo (hi - lo).toNat,?_,fun b hb=>?_,q⟩
 ·have e1:lo + ((0:Nat):Int) * 1=lo:=by simp
  have e2:(((hi - lo).toNat:Nat):Int) - ((0:Nat):Int)=Builtin.Range.rangeSize lo hi 1:=by rw [rangeSize_one]; split <;> omega
  show IsRangeIter _ _ (lo + ((0:Nat):Int) * 1) ((((hi - lo).toNat:Nat):Int) - ((0:Nat):Int)) 1;rw [e1,e2];exact Heap.get?_push_size _ rfl
 ·have e:b=(s.heap.push { cls:=.type "range",data:=.fields #[.int lo t,.int hi u,.int 1 v] }).objs.size:=by simpa using hb
  subst e;exact I1.fpOk (Nat.le_refl _) (I1.hok.fresh (Nat.le_refl _))
noncomputable def EY (wi:TI) (g:TG) (tb:TS):TS:=fun D σ H=>wi σ H fun J H1=>∃W:Nat->Nat->St->Hp->Prop,(∃m,W 0 m σ H1)/\∀i m σ H,W i m σ H ->
 (J.stop i H/\D.nx σ H)\/(J.go i H/\∃N:St->Hp->Prop,(∀σ' H',N σ' H'->∃m',m' < m/\W (i + 1) m' σ' H')/\∀x H',J.yld i H x H'->g x σ H' fun σ2 H2=>tb { D with nx:=N,ct:=N,bk:=D.nx } σ2 H2)
noncomputable def j_ (fp:List Addr) (h:Heap):List (Addr×Obj):=fp.filterMap fun b=>(h.get? b).map fun o=>(b,o)
theorem cn' {fp:List Addr} {h:Heap} {b:Addr} {o:Obj} (hb:b∈fp) (e:h.get? b=some o):(b,o)∈j_ fp h:=mem_filterMap.mpr ⟨b,hb,by rw [e]; rfl⟩
theorem hS' {fp:List Addr} {h:Heap} {p:Addr×Obj} (hp:p∈j_ fp h):p.1∈fp/\h.get? p.1=some p.2:=by
 obtain ⟨b,hb,e⟩:=mem_filterMap.mp hp
 cases q:h.get? b with
 | none=>rw [q] at e; cases e
 | some o =>
  rw [q] at e;have e':(b,o)=p:=Option.some.inj e;subst e';exact ⟨hb,q⟩
theorem Inv.pinned {pins:List (Addr×Obj)} {σ:St} {H:Hp} {s:Shared} {fp:List Addr} (I:Inv X pins σ H s) (hf:∀b∈fp,gQ X pins H b) (ho:∀b∈fp,∃o,s.heap.get? b=some o/\∀v,o.data≠.cell v):Inv X (pins ++ j_ fp s.heap) σ H s :=
 I.pins_of fun p hp=>(mem_append.mp hp).elim (fun z=>I.pin p (mem_append_right _ z)) fun z=>by
  obtain ⟨hb,e⟩:=hS' z;obtain ⟨f0,f1,f2,_⟩:=hf p.1 hb;obtain ⟨o,e',d⟩:=ho p.1 hb;rw [e] at e'; cases e';exact ⟨e,f0,f1,f2,d⟩
theorem Inv.unpinned {pins pl:List (Addr×Obj)} {σ:St} {H:Hp} {s:Shared} (I:Inv X (pins ++ pl) σ H s):Inv X pins σ H s:=I.pins_of fun p hp=>I.pin p (mem_append_right _ (mem_append_left _ hp))
theorem Nv {iter:Expr} {body:List Stmt} {wi:TI} {g:TG} {tb:TS} {pos:Pos} (hp:PassesOwn (model X.prog X.w) X.A X.env X.xe) (hc:X.calm=true) (hi:PI X tg iter wi) (hg:PG X tg g) (hb:PSs X body tb)
  (hs:∀x,foldedSetIterable iter X.env x=pure x:=by intro _; rfl):PS X (.For tg iter body [] pos) (EY wi g tb):=by
 intro pins s σ H D I h;refine wpAny_For (gP (hi pins s σ H _ I h) fun v s1 h1=>gP h1 fun itv s2 h2=>?_) hs;obtain ⟨it,fp,tn,J,H2,e,I2,T,st2,f2,W,⟨m0,w0⟩,turn⟩:=h2;subst e;have stat:∀{H':Hp},(∀b∈fp,H' b=none)->∀b∈fp,gQ X pins H' b:=fun hn b hb=>⟨hn b hb,(f2 b hb).2⟩;refine codeAny_forLoop_any (fun n s'=>∃i σ' H',Inv X pins σ' H' s'/\tn i s'.heap/\(∀b∈fp,H' b=none)/\W i n σ' H') ?_ m0 ⟨0,σ,H2,I2,st2,fun b hb=>(f2 b hb).1,w0⟩
 rintro n s3 ⟨i,σ3,H3,I3,st3,fr3,w3⟩
 rcases turn i n σ3 H3 w3 with ⟨stop,qn⟩ | ⟨go,N,hN,step⟩
 ·refine wpAny_passesOwn hp (gP (T.done X rfl rfl rfl hc i pins s3 σ3 H3 X.xe I3 (stat fr3) st3 stop) fun r s4 ⟨hr,I4⟩=>?_)
  subst hr;exact wpAny_execs_nil ⟨σ3,H3,I4,qn⟩
 ·refine wpAny_passesOwn hp (gP (T.item X rfl rfl rfl hc i pins s3 σ3 H3 X.xe I3 (stat fr3) st3 go) fun r s4 ⟨u,hr,h4⟩=>?_);subst hr;refine wpAny_passesOwn hp (gP h4 fun _ s5 ⟨x,H5,I5,r5,y5,st5,fr5⟩=>?_);have I5':=I5.pinned (stat fr5) (T.obj _ _ st5);refine wpAny_passesOwn hp (gP (hg _ s5 σ3 H5 x u _ I5' r5 (step x H5 y5)) fun _ s6 ⟨σ6,H6,I6,q6⟩=>?_);refine wpAny_passesOwn hp (gP (hb _ s6 σ6 H6 _ I6 q6) fun f s7 q7=>?_);have again:∀{σ7:St} {H7:Hp},Inv X (pins ++ j_ fp s5.heap) σ7 H7 s7->N σ7 H7->∃m,m < n/\∃i σ' H',Inv X pins σ' H' s7/\tn i s7.heap/\(∀b∈fp,H' b=none)/\W i m σ' H':=fun {σ7 H7} I7 n7=>by
   obtain ⟨m',hm,w7⟩:=hN σ7 H7 n7;refine ⟨m',hm,i + 1,σ7,H7,I7.unpinned,T.keep _ _ _ st5 fun b hb o e=>(I7.pin (b,o) (mem_append_right _ (mem_append_right _ (cn' hb e)))).1,fun b hb=>?_,w7⟩;obtain ⟨o,e,d⟩:=T.obj _ _ st5 b hb;exact (I7.pin (b,o) (mem_append_right _ (mem_append_right _ (cn' hb e)))).2.1
  cases f with
  | next=>obtain ⟨σ7,H7,I7,n7⟩:=q7; exact again I7 n7
  | cont=>obtain ⟨σ7,H7,I7,n7⟩:=q7; exact again I7 n7
  | brk=>obtain ⟨σ7,H7,I7,q7⟩:=q7; exact ⟨σ7,H7,I7.unpinned,q7⟩
  | ret v=>obtain ⟨x7,σ7,H7,I7,r7,q7⟩:=q7; exact ⟨x7,σ7,H7,I7.unpinned,r7,q7⟩
end
abbrev R2:=V->V->Hp->VK->Prop
noncomputable def OpR (X:Cx) (f:Value->Value->Sem Value) (r:R2):Prop :=
 ∀(pins:List (Addr×Obj)) (s:Shared) (σ:St) (H:Hp) (x y:V) (v u:Value) (Q:VK),Inv X pins σ H s->RelV x v->RelV y u->r x y H Q ->
  wpAny (model X.prog X.w) X.A (f v u) (EP X pins σ Q) X.xe s
noncomputable def Io (X:Cx) (f:Value->Sem Value) (r:V->Hp->VK->Prop):Prop :=
 ∀(pins:List (Addr×Obj)) (s:Shared) (σ:St) (H:Hp) (x:V) (v:Value) (Q:VK),Inv X pins σ H s->RelV x v->r x H Q ->
  wpAny (model X.prog X.w) X.A (f v) (EP X pins σ Q) X.xe s
noncomputable def CallR (X:Cx) (f:Value) (r:List V->Hp->VK->Prop):Prop :=
 ∀(pins:List (Addr×Obj)) (s:Shared) (σ:St) (H:Hp) (xs:List V) (us:List Value) (Q:VK),Inv X pins σ H s->Vals xs us->r xs H Q ->
  wpAny (model X.prog X.w) X.A (call f us) (EP X pins σ Q) X.xe s
noncomputable def E_ (X:Cx) (r:V->Hp->(Bool->Hp->Prop)->Prop):Prop :=
 ∀(pins:List (Addr×Obj)) (s:Shared) (σ:St) (H:Hp) (x:V) (v:Value) (Q:Bool->Hp->Prop),Inv X pins σ H s->RelV x v->r x H Q ->
  wpAny (model X.prog X.w) X.A (truthy v) (TP X pins σ Q) X.xe s
noncomputable def rI (C:Int->Int->Prop) (g:Int->Int->V):R2:=fun x y H Q=>∃i j,x=.int i/\y=.int j/\C i j/\Q (g i j) H
noncomputable def vV (g:Int->Int->V):R2:=fun x y H Q=>∃i j,x=.int i/\y=.int j/\Q (g i j) H
noncomputable def rU (g:Int->V):V->Hp->VK->Prop:=fun x H Q=>∃i,x=.int i/\Q (g i) H
section
variable {X:Cx} {a b c:Expr} {ta tb tc:TE} {pos:Pos}
theorem yO {f:Value->Value->Sem Value} {C:Int->Int->Prop} {g:Int->Int->Int}
  (rule:∀(i j:Int) (t u:Tok) (s:Shared) (Q:Value->Shared->Prop) (E:Value->Shared->Prop),C i j->Q (.int (g i j) s.toks) { s with toks:=s.toks + 1 }->wpAny (model X.prog X.w) X.A (f (.int i t) (.int j u)) Q E s) :
  OpR X f (rI C fun i j=>.int (g i j)):=by
 intro pins s σ H x y v u Q I rx ry h;obtain ⟨i,j,rfl,rfl,hc,q⟩:=h;obtain ⟨t,rfl⟩:=rx;obtain ⟨t',rfl⟩:=ry;exact rule i j t t' s _ _ hc ⟨.int (g i j),H,I.tok _,⟨_,rfl⟩,q⟩
theorem yP {f:Value->Value->Sem Value} {g:Int->Int->Int}
  (rule:∀(i j:Int) (t u:Tok) (s:Shared) (Q:Value->Shared->Prop) (E:Value->Shared->Prop),Q (.int (g i j) s.toks) { s with toks:=s.toks + 1 }->wpAny (model X.prog X.w) X.A (f (.int i t) (.int j u)) Q E s) :
  OpR X f (vV fun i j=>.int (g i j)):=by
 intro pins s σ H x y v u Q I rx ry h;obtain ⟨i,j,rfl,rfl,q⟩:=h;obtain ⟨t,rfl⟩:=rx;obtain ⟨t',rfl⟩:=ry;exact rule i j t t' s _ _ ⟨.int (g i j),H,I.tok _,⟨_,rfl⟩,q⟩
theorem yQ {f:Value->Value->Sem Value} {g:Int->Int->Bool}
  (rule:∀(i j:Int) (t u:Tok) (s:Shared) (Q:Value->Shared->Prop) (E:Value->Shared->Prop),Q (.bool (g i j)) s->wpAny (model X.prog X.w) X.A (f (.int i t) (.int j u)) Q E s) :
  OpR X f (vV fun i j=>.bl (g i j)):=by
 intro pins s σ H x y v u Q I rx ry h;obtain ⟨i,j,rfl,rfl,q⟩:=h;obtain ⟨t,rfl⟩:=rx;obtain ⟨t',rfl⟩:=ry;exact rule i j t t' s _ _ ⟨.bl (g i j),H,I,rfl,q⟩
noncomputable def yR (i j:Int):Prop:=0<=j/\j<=1000000/\i.natAbs < 2 ^ 64
noncomputable def CMul (i j:Int):Prop:=(-(2 ^ 64) < i/\i < 2 ^ 64)\/(-(2 ^ 64) < j/\j < 2 ^ 64)
theorem CMul.ok {i j:Int} (h:CMul i j):IntMulOk i j:=by
 rcases h with ⟨h1,h2⟩ | ⟨h1,h2⟩
 ·exact .of_left (intBits_le_64 h1 h2)
 ·exact .of_right (intBits_le_64 h1 h2)
theorem op_add:OpR X (binaryOp .Add) (vV fun i j=>.int (i + j)):=yP fun _ _ _ _ _ _ _ q=>add_int q
theorem Nx:OpR X (binaryOp .Sub) (vV fun i j=>.int (i - j)):=yP fun _ _ _ _ _ _ _ q=>sub_int q
theorem Ny:OpR X (binaryOp .Mod) (rI (fun _ j=>j≠0) fun i j=>.int (i.fmod j)):=yO fun _ _ _ _ _ _ _ hc q=>mod_int' hc q
theorem Nz:OpR X (binaryOp .Pow) (rI yR fun i j=>.int (i ^ j.toNat)):=yO fun _ _ _ _ _ _ _ hc q=>pow_int_small hc.1 hc.2.1 hc.2.2 q
theorem NB:OpR X (binaryOp .LShift) (rI yR fun i j=>.int (i * 2 ^ j.toNat)):=yO fun _ _ _ _ _ _ _ hc q=>lshift_int_small hc.1 hc.2.1 hc.2.2 q
theorem unI {f:Value->Sem Value} {g:Int->Int}
  (rule:∀(i:Int) (t:Tok) (s:Shared) (Q:Value->Shared->Prop) (E:Value->Shared->Prop),Q (.int (g i) s.toks) { s with toks:=s.toks + 1 }->wpAny (model X.prog X.w) X.A (f (.int i t)) Q E s) :
  Io X f (rU fun i=>.int (g i)):=by
 intro pins s σ H x v Q I rx h;obtain ⟨i,rfl,q⟩:=h;obtain ⟨t,rfl⟩:=rx;exact rule i t s _ _ ⟨.int (g i),H,I.tok _,⟨_,rfl⟩,q⟩
theorem ne':Io X (unaryOp .USub) (rU fun i=>.int (-i)):=unI fun _ _ _ _ _ q=>neg_int q
end
section
variable {X:Cx} {a b c:Expr} {ta tb tc:TE} {pos:Pos}
theorem Ip {pins:List (Addr×Obj)} {σ:St} {H:Hp} {s:Shared} {Q:VK} {k k':Bool} (I:Inv X pins σ H s) (q:Q (.bl k) H) (e:k=k'):EP X pins σ Q (.bool k') s:=by
 subst e;exact ⟨.bl k,H,I,rfl,q⟩
theorem NK:OpR X (compareOp .Lt) (vV fun i j=>.bl (decide (i < j))):=yQ fun _ _ _ _ _ _ _ q=>lt_int q
theorem NP:OpR X (compareOp .Gt) (vV fun i j=>.bl (decide (j < i))):=yQ fun _ _ _ _ _ _ _ q=>gt_int q
theorem NQ:OpR X (compareOp .Is) (fun x y H Q=>y=.non/\Q (.bl (decide (x=.non))) H):=by
 intro pins s σ H x y v u Q I rx ry h;obtain ⟨rfl,q⟩:=h
 cases ry
 refine is_none_gen (Ip I q ?_)
 cases x <;> first
  | (cases rx; rfl)
  | (obtain ⟨t,rfl⟩:=rx; rfl)
theorem NT:OpR X (compareOp .IsNot) (fun x y H Q=>y=.non/\Q (.bl (!decide (x=.non))) H):=by
 intro pins s σ H x y v u Q I rx ry h;obtain ⟨rfl,q⟩:=h
 cases ry
 refine isnot_none_gen (Ip I q ?_)
 cases x <;> first
  | (cases rx; rfl)
  | (obtain ⟨t,rfl⟩:=rx; rfl)
theorem OpR.or {f:Value->Value->Sem Value} {r r':R2} (h:OpR X f r) (h':OpR X f r'):OpR X f (fun x y H Q=>r x y H Q\/r' x y H Q):=by
 intro pins s σ H x y v u Q I rx ry q;rcases q with q | q
 ·exact h pins s σ H x y v u Q I rx ry q
 ·exact h' pins s σ H x y v u Q I rx ry q
theorem bM (b:Expr) {op:CmpOp} (h:op≠.In:=by decide) (h2:op≠.NotIn:=by decide):behindInMarks op b=false:=by
 have e1:(op == CmpOp.In)=false:=by cases op <;> first | rfl | exact absurd rfl h
 have e2:(op == CmpOp.NotIn)=false:=by cases op <;> first | rfl | exact absurd rfl h2
 cases b <;> simp [behindInMarks,e1,e2]
noncomputable def Fb (K:Frag) (x:V) (H:Hp) (k:Bool):Prop :=
 match x with
 | .non=>k=false
 | .bl b=>k=b
 | .int i=>k=(i != 0)
 | .str y=>y.length<=sizeLine/\k=((y.length:Int) != 0)
 | .byt y=>y.size<=sizeLine/\k=((y.size:Int) != 0)
 | .ref p=>(∃xs,SqL K H p xs/\k = !xs.isEmpty)\/(∃xs,SqT K H p xs/\k = !xs.isEmpty)\/∃kvs,H p=some (.dK kvs)/\k = !kvs.isEmpty
 | _=>False
theorem NZ {κ:Type} {kvs:List (κ×V)} {vs:List (κ×Value)} (r:KV kvs vs):(!vs.isEmpty) = !kvs.isEmpty:=by
 cases r <;> rfl
theorem Ir {xs:List V} {its:List Value} (r:Vals xs its):(!its.toArray.isEmpty) = !xs.isEmpty:=by
 cases r <;> simp
theorem ym:(sizeLine:Nat) < 2 ^ 63:=by rw [sizeLine_eq]; decide
theorem N5:E_ X (fun x H Q=>∃k,Fb X.K x H k/\Q k H):=by
 intro pins s σ H x v Q I rx h;obtain ⟨k,e,q⟩:=h;have hl:=ym;have hs:sizeLine=16777216:=sizeLine_eq
 cases x with
 | non =>
  cases rx
  have e':k=false:=e;subst e';exact truthy_none ⟨H,I,q⟩
 | bl b =>
  cases rx
  have e':k=b:=e;subst e';exact wpAny_truthy_bool ⟨H,I,q⟩
 | int i =>
  obtain ⟨t,rfl⟩:=rx;have e':k=(i != 0):=e;subst e';exact PySem.P.truthy_int ⟨H,I,q⟩
 | str y =>
  obtain ⟨t,rfl⟩:=rx;obtain ⟨hy,e'⟩:y.length<=sizeLine/\k=((y.length:Int) != 0):=e;subst e';exact PySem.P.truthy_str (by omega) ⟨H,I.tok _,q⟩
 | byt y =>
  obtain ⟨t,rfl⟩:=rx;obtain ⟨hy,e'⟩:y.size<=sizeLine/\k=((y.size:Int) != 0):=e;subst e';exact truthy_bytes (by omega) ⟨H,I.tok _,q⟩
 | ref p =>
  cases rx
  have e':(∃xs,SqL X.K H p xs/\k = !xs.isEmpty)\/(∃xs,SqT X.K H p xs/\k = !xs.isEmpty)\/∃kvs,H p=some (.dK kvs)/\k = !kvs.isEmpty:=e;rcases e' with ⟨xs,hx,e'⟩ | ⟨xs,hx,e'⟩ | ⟨kvs,hx,e'⟩
  ·subst e';obtain ⟨its,r,pl,hz⟩:=I.list hx;have hlen:=r.length;exact wpAny_truthy_list pl.isList (by simp only [size_toArray]; omega) ⟨H,I.tok _,by rw [Ir r]; exact q⟩
  ·subst e';obtain ⟨its,r,pl,hz⟩:=I.tuple hx;have hlen:=r.length;exact truthy_tuple pl (by simp only [size_toArray]; omega) ⟨H,I.tok _,by rw [Ir r]; exact q⟩
  ·subst e';obtain ⟨hz,hS,vs,r,m⟩:kvs.length<=sizeLine/\(p == sysModules)=false/\∃vs,KV kvs vs/\s.heap.DictOf (j8 X.prog X.w) p vs:=I.hok p _ hx;have hlen:kvs.length=vs.length:=Paired.length r;exact wpAny_truthy_dict hS m (by omega) ⟨H,I.tok _,by rw [NZ r]; exact q⟩
 | _=>exact (show False from e).elim
theorem op_add_str:OpR X (binaryOp .Add) (fun x y H Q=>∃i j,x=.str i/\y=.str j/\i.length + j.length<=sizeLine/\Q (.str (i ++ j)) H):=by
 intro pins s σ H x y v u Q I rx ry h;obtain ⟨i,j,rfl,rfl,hz,q⟩:=h;obtain ⟨t,rfl⟩:=rx;obtain ⟨t',rfl⟩:=ry;exact add_str (fun t' tk=>⟨.str (i ++ j),H,I.tok _,⟨_,rfl⟩,q⟩) hz
theorem vals1 {x:V} {us:List Value} (r:Vals [x] us):∃u,us=[u]/\RelV x u:=by
 cases r with
 | cons r1 r2=>cases r2; exact ⟨_,rfl,r1⟩
theorem vals2 {x y:V} {us:List Value} (r:Vals [x,y] us):∃u w',us=[u,w']/\RelV x u/\RelV y w':=by
 cases r with
 | cons r1 r2 =>
  cases r2 with
  | cons r3 r4=>cases r4; exact ⟨_,_,rfl,r1,r3⟩
theorem N6:CallR X (.builtin "abs") (fun xs H Q=>∃i,xs=[.int i]/\Q (.int (if i < 0 then -i else i)) H):=by
 intro pins s σ H xs us Q I r h;obtain ⟨i,rfl,q⟩:=h;obtain ⟨u,rfl,t,rfl⟩:=vals1 r;exact call_abs_int fun u tk=>⟨.int (if i < 0 then -i else i),H,I.tok _,⟨_,rfl⟩,q⟩
theorem hT' (hc:X.calm=true):CallR X (.builtin "max") (fun xs H Q=>∃i j,xs=[.int i,.int j]/\Q (.int (if j > i then j else i)) H):=by
 intro pins s σ H xs us Q I r h;obtain ⟨i,j,rfl,q⟩:=h;obtain ⟨u,w',rfl,⟨t,rfl⟩,⟨t',rfl⟩⟩:=vals2 r;refine max_two_ints (I.ok.hd hc) fun h' tk k=>⟨_,H,I.kept k,?_,q⟩
 by_cases hj:j > i
 ·rw [if_pos hj,if_pos hj]; exact ⟨_,rfl⟩
 ·rw [if_neg hj,if_neg hj]; exact ⟨_,rfl⟩
theorem hU' (hc:X.calm=true):CallR X (.builtin "min") (fun xs H Q=>∃i j,xs=[.int i,.int j]/\Q (.int (if j < i then j else i)) H):=by
 intro pins s σ H xs us Q I r h;obtain ⟨i,j,rfl,q⟩:=h;obtain ⟨u,w',rfl,⟨t,rfl⟩,⟨t',rfl⟩⟩:=vals2 r;refine min_two_ints (I.ok.hd hc) fun h' tk k=>⟨_,H,I.kept k,?_,q⟩
 by_cases hj:j < i
 ·rw [if_pos hj,if_pos hj]; exact ⟨_,rfl⟩
 ·rw [if_neg hj,if_neg hj]; exact ⟨_,rfl⟩
noncomputable def yS (K:Frag) (x:V) (H:Hp) (n:Nat):Prop :=
 match x with
 | .str y=>y.length<=sizeLine/\n=y.length
 | .byt y=>y.size<=sizeLine/\n=y.size
 | .ref p=>(∃xs,SqL K H p xs/\n=xs.length)\/∃xs,SqT K H p xs/\n=xs.length
 | _=>False
theorem N7:CallR X (.builtin "len") (fun xs H Q=>∃x n,xs=[x]/\yS X.K x H n/\Q (.int n) H):=by
 intro pins s σ H xs us Q I r h;obtain ⟨x,n,rfl,e,q⟩:=h;obtain ⟨u,rfl,rx⟩:=vals1 r;have hl:=ym;have hs:sizeLine=16777216:=sizeLine_eq
 cases x with
 | str y =>
  obtain ⟨t,rfl⟩:=rx;obtain ⟨hy,e'⟩:y.length<=sizeLine/\n=y.length:=e;subst e';exact len_str (by omega) ⟨.int _,H,I.tok _,⟨_,rfl⟩,q⟩
 | byt y =>
  obtain ⟨t,rfl⟩:=rx;obtain ⟨hy,e'⟩:y.size<=sizeLine/\n=y.size:=e;subst e';exact len_bytes (by omega) ⟨.int _,H,I.tok _,⟨_,rfl⟩,q⟩
 | ref p =>
  cases rx
  have e':(∃xs,SqL X.K H p xs/\n=xs.length)\/∃xs,SqT X.K H p xs/\n=xs.length:=e;rcases e' with ⟨xs,hx,e'⟩ | ⟨xs,hx,e'⟩
  ·subst e';obtain ⟨its,r',pl,hz⟩:=I.list hx;have hlen:=r'.length;exact Calls.call_len_list pl.isList (by simp only [size_toArray]; omega) ⟨.int xs.length,H,I.tok _,⟨_,by simp only [size_toArray]; rw [hlen]⟩,q⟩
  ·subst e';obtain ⟨its,r',pl,hz⟩:=I.tuple hx;have hlen:=r'.length;exact len_tuple pl (by simp only [size_toArray]; omega) ⟨.int xs.length,H,I.tok _,⟨_,by simp only [size_toArray]; rw [hlen]⟩,q⟩
 | _=>exact (show False from e).elim
end
structure ObjM (h:Heap) (x dx C:Addr) (mA:Str->Option Value):Prop where
 obj:h.get? x=some (instObj C dx)
 ns:h.Ns1 dx mA
 ne:dx≠x
theorem N8 {h:Heap} {dx:Addr} {mA:Str->Option Value} (n:h.Ns1 dx mA):∃od,h.get? dx=some od/\∀name,lookIn name od=some (mA name):=by
 obtain ⟨o,es,ep,ho,hd,hk,_,hm⟩:=n;refine ⟨o,ho,fun name=>?_⟩;have e:=hm name;unfold nsFind findBy at e;rw [<- Array.find?_toList] at e;unfold lookIn;rw [hd];dsimp only
 split
 ·rename_i y q;rw [q] at e;exact congrArg some e
 ·rename_i q;rw [q] at e;have a:es.toList.any (·.refKey)=false:=by
   rw [any_eq_false];intro y hy;obtain ⟨z,t,hkey⟩:=hk y (Array.mem_toList_iff.mp hy);simp [DictEntry.refKey,hkey]
  have a':¬es.toList.any (·.refKey)=true:=by rw [a]; exact Bool.false_ne_true
  rw [if_neg a'];exact congrArg some e
theorem ObjM.look {h:Heap} {x dx C:Addr} {mA:Str->Option Value} (I:ObjM h x dx C mA):∃od,InstAt h x (instObj C dx) C (some od)/\∀name,lookIn name od=some (mA name) :=
 let ⟨od,ho,hl⟩:=N8 I.ns
 ⟨od,⟨I.obj,rfl,rfl,ho⟩,hl⟩
section
variable {prog:Program} {w:World} {A:Around} {E:Value->Shared->Prop} {s:Shared} {K:Frag} {x dx C f:Addr} {mA:Str->Option Value} {name:Str} {v:Value}
end
section
variable {P:Program} {w:World} {H H':Hp} {h h':Heap} {a C dx:Addr} {fs fs':List (Str×V)}
theorem N_ (hok:HOk P w H h) (e:H a=some (.ins C dx fs)):∃mA,ObjM h a dx C mA/\(∀f,wI (fs.lookup f) (mA f))/\PySem.Within mA (fs.map (·.1))/\fs.length<=1000/\H dx=some (.own a):=by
 obtain ⟨d,z,ne,ob,mA,n,r,q⟩:=(show ObjOk P w H h a (.ins C dx fs) from hok a _ e)
 exact ⟨mA,⟨ob,n,ne⟩,r,q,z,d⟩
end
structure Cls (K:Frag) (C:Addr):Prop where
 pg:plainGet K C Str.empty=true
 hd:hasDictIn K C=true
 po:plainOver K C=true
 sa:findIn K (.ref C) "__setattr__" = some (some (.builtin "object.__setattr__"))
theorem Cls.get {K:Frag} {C:Addr} (c:Cls K C) (f:Str):plainGet K C f=true:=c.pg
structure Con (K:Frag) (C:Addr) (f:Str) (v:V) (u:Value):Prop where
 at_:findIn K (.ref C) f=some (some u)
 rel:RelV v u
 get:specialIn K u "__get__" = some none
 cp:copiedNames.contains f=false
structure Meth (K:Frag) (C:Addr) (m:Str) (f:Addr):Prop where
 at_:findIn K (.ref C) m=some (some (.ref f))
 fn:isFn K (.ref f)=true
 kp:keepIn K (.ref f)=true
section
variable {X:Cx} {pins:List (Addr×Obj)} {σ:St} {H:Hp} {s:Shared} {a C dx:Addr} {fs:List (Str×V)} {f:Str} {v:V} {A:Around} {E:Value->Shared->Prop}
theorem Inv.made (I:Inv X pins σ H s):Inv X pins σ (upd (upd H s.heap.objs.size (.own (s.heap.objs.size + 1))) (s.heap.objs.size + 1) (.ins C s.heap.objs.size []))
    { s with heap:=(s.heap.push emptyDict).push (instObj C s.heap.objs.size) }:=by
  have e1:(s.heap.push emptyDict).get? s.heap.objs.size=some emptyDict:=Heap.get?_push_size s.heap rfl;have e2:((s.heap.push emptyDict).push (instObj C s.heap.objs.size)).get? (s.heap.objs.size + 1)=some (instObj C s.heap.objs.size):=by
    have:=Heap.get?_push_size (s.heap.push emptyDict) (o:=instObj C s.heap.objs.size) rfl
    rwa [Heap.size_push] at this
  have e3:(s.heap.push emptyDict).Ns s.heap.objs.size (fun _=>none):=⟨emptyDict,#[],_,e1,rfl,(fun e he=>absurd he (by simp)),fun _=>rfl⟩;have I1:=I.laid (a:=s.heap.objs.size) (o:=.own (s.heap.objs.size + 1)) (h':=s.heap.push emptyDict) (t':=s.toks) (fun b u q=>Heap.get?_push_of_some _ q) (Nat.le_refl _) ⟨_,e1⟩;refine I1.laid (a:=s.heap.objs.size + 1) (o:=.ins C s.heap.objs.size []) (t':=s.toks) (fun b u q=>Heap.get?_push_of_some _ q) (Nat.le_of_eq (Heap.size_push _ _)) ?_;have ne:s.heap.objs.size≠s.heap.objs.size + 1:=Nat.ne_of_lt (Nat.lt_succ_self _);refine ⟨by rw [dU ne,jB],Nat.zero_le _,ne,e2,fun _=>none,(Heap.Ns1.of_empty e3).at fun o q=>Heap.get?_push_of_some _ q,fun _=>True.intro,fun y hy=>absurd rfl hy⟩
end
section
variable {X:Cx} {o e value:Expr} {f:Str} {pos pos' tpos:Pos} {ta tv:TE}
end
section
variable {X:Cx} {pins:List (Addr×Obj)} {σ:St} {H:Hp} {s:Shared} {A:Around} {E:Value->Shared->Prop} {Q:Value->Shared->Prop} {c:Value} {b:Bool}
inductive TyOf (K:Frag) (H:Hp):V->Value->Prop where
 | non:TyOf K H .non (.type "NoneType")
 | bl (x:Bool):TyOf K H (.bl x) (.type "bool")
 | int (i:Int):TyOf K H (.int i) (.type "int")
 | str (x:Str):TyOf K H (.str x) (.type "str")
 | flt (x:UInt64):TyOf K H (.flt x) (.type "float")
 | lst {a:Addr} {xs:List V} (e:H a=some (.lst xs)):TyOf K H (.ref a) (.type "list")
 | frz {a:Addr} {o:Obj} {xs:List V} (e:H a=some (.frz o (.lst xs))):TyOf K H (.ref a) (.type "list")
 | tup {a:Addr} {xs:List V} (e:H a=some (.tup xs)):TyOf K H (.ref a) (.type "tuple")
 | dK {a:Addr} {kvs:List (Key×V)} (e:H a=some (.dK kvs)):TyOf K H (.ref a) (.type "dict")
 | dT {a:Addr} {kvs:List (List Key×V)} (e:H a=some (.dT kvs)):TyOf K H (.ref a) (.type "dict")
 | ins {a C dx:Addr} {fs:List (Str×V)} (e:H a=some (.ins C dx fs)) (cl:Cls K C) (ha:findIn K (.ref C) "__class__" = some (some (.builtin "object.__class__")))
   (hn:specialIn K (.builtin "object.__class__") "__get__" = some (some (.builtin "getset_descriptor.__get__"))) (htk:takesIn K (.builtin "object.__class__")=some true)
   (hm:mroIn K C (.type "object")=some true):TyOf K H (.ref a) (.ref C)
theorem Di {x:V} {u t:Value} (I:Inv X pins σ H s) (rx:RelV x u) (ty:TyOf X.K H x t) (e:kitOne X.K t c=some b) (h:∀tk,Q (.bool b) { s with toks:=tk }) :
  wpAny (model X.prog X.w) A (call (.builtin "isinstance") [u,c]) Q E s:=by
 cases ty with
 | non=>cases (show u=Value.none from rx); exact kia_one kitx_none I.kIn True.intro e (fun z=>nomatch z) h
 | bl y=>cases (show u=Value.bool y from rx); exact kia_one kitx_bool I.kIn True.intro e (fun z=>nomatch z) h
 | int i=>obtain ⟨t,q⟩:=(show ∃t,u=Value.int i t from rx); cases q; exact kia_one kitx_int I.kIn True.intro e (fun z=>nomatch z) h
 | str y=>obtain ⟨t,q⟩:=(show ∃t,u=Value.str y t from rx); cases q; exact kia_one kitx_str I.kIn True.intro e (fun z=>nomatch z) h
 | flt y=>obtain ⟨t,q⟩:=(show ∃t,u=Value.float y t from rx); cases q; exact kia_one kitx_float I.kIn True.intro e (fun z=>nomatch z) h
 | @lst a xs ea =>
  cases (show u=Value.ref a from rx)
  obtain ⟨_,_,n,_,h1⟩:=(show ObjOk X.prog X.w H s.heap a (.lst xs) from I.hok a _ ea)
  exact kia_one kitx_list I.kIn ⟨_,h1,rfl⟩ e (fun z=>nomatch z) h
 | @frz a ob xs ea =>
  cases (show u=Value.ref a from rx)
  obtain ⟨_,_,_,n,_,h1⟩:=(show ObjOk X.prog X.w H s.heap a (.frz ob (.lst xs)) from I.hok a _ ea)
  exact kia_one kitx_list I.kIn ⟨_,h1,rfl⟩ e (fun z=>nomatch z) h
 | @tup a xs ea =>
  cases (show u=Value.ref a from rx)
  obtain ⟨_,_,_,p⟩:=(show ObjOk X.prog X.w H s.heap a (.tup xs) from I.hok a _ ea)
  obtain ⟨o,h1,h2,_⟩:=p;exact kia_one kitx_tuple I.kIn ⟨o,h1,h2⟩ e (fun z=>nomatch z) h
 | @dK a kvs ea =>
  cases (show u=Value.ref a from rx)
  obtain ⟨_,_,vs,_,p⟩:=(show ObjOk X.prog X.w H s.heap a (.dK kvs) from I.hok a _ ea)
  obtain ⟨o,es,ep,h1,h2,_⟩:=p;exact kia_one kitx_dict I.kIn ⟨o,h1,h2.1⟩ e (fun z=>nomatch z) h
 | @dT a kvs ea =>
  cases (show u=Value.ref a from rx)
  obtain ⟨_,_,xs,_,o,es,ep,h1,h2,_⟩:=(show ObjOk X.prog X.w H s.heap a (.dT kvs) from I.hok a _ ea)
  exact kia_one kitx_dict I.kIn ⟨o,h1,h2.1⟩ e (fun z=>nomatch z) h
 | @ins a C dx fs ea cl ha hn htk hm =>
  cases (show u=Value.ref a from rx)
  obtain ⟨mA,O,_⟩:=N_ I.hok ea;obtain ⟨od,J,_⟩:=O.look;exact kia_one (kitx_own (cl.get _) cl.hd ha hn htk hm) I.kIn J e (fun z=>nomatch z) h
end
structure Room (k:Nat) (A:Around):Prop where
 hd:A.handled=none
 dp:A.depth + 3 * k + 5 < recursionLimit
 un:A.units + 16 * k + 200 < cLine
theorem Room.mono {j k:Nat} {A:Around} (r:Room k A) (h:j<=k):Room j A:=⟨r.hd,by have:=r.dp; omega,by have:=r.un; omega⟩
theorem Room.deeper {k:Nat} {A:Around} (r:Room (k + 1) A) (env:Env):Room k (A.deeper env) :=
 ⟨r.hd,by have:=r.dp; show A.depth + 1 + 3 * k + 5 < _; omega,by have:=r.un; show A.units + 3 + 16 * k + 200 < _; omega⟩
theorem Room.in1 {k:Nat} {A:Around} (r:Room (k + 1) A):Room k A.in1 :=
 ⟨r.hd,by have:=r.dp; show A.depth + 3 * k + 5 < _; omega,by have:=r.un; show A.units + 1 + 16 * k + 200 < _; omega⟩
theorem Room.depth {k:Nat} {A:Around} (r:Room k A):A.depth < recursionLimit:=by have:=r.dp; omega
theorem Room.units {k:Nat} {A:Around} (r:Room k A):A.units + 64 < cLine:=by have:=r.un; omega
section
variable {X:Cx} {e:Expr} {es:List Expr} {te:TE} {t:TA} {pos:Pos}
end
abbrev Sp:=List V->Hp->VK->XK->Prop
abbrev pK:=List Env->Hp->Shared->XK->Value->Shared->Prop
structure Env0 (P:Program) (w:World) (K:Frag) (mg:Str->Option Value) (base:Heap) (A:Around) (outer:List Env) (s:Shared) (H:Hp):Prop where
 frames:A.frames=some outer
 mod:Mod K mg base
 bs:∀b o,base.get? b=some o->s.heap.get? b=some o/\H b=none
 bsz:base.objs.size<=s.heap.objs.size
 funs:s.heap.FunFrames base outer
 frf:∀b∈frs outer,H b=none
 hok:HOk P w H s.heap
 bare:AllBare s.gens
noncomputable def CE (outer:List Env) (P:Program) (w:World) (H:Hp) (s:Shared) (Q:VK) (u:Value) (s':Shared):Prop :=
 ∃v H',s'.os=s.os/\AllBare s'.gens/\Un (frs outer) [] H H' s.heap s'.heap/\HOk P w H' s'.heap/\RelV v u/\Q v H'
noncomputable def CR (CX:pK) (outer:List Env) (P:Program) (w:World) (H:Hp) (s:Shared) (Q:VK) (E:XK) (r:Result) (s':Shared):Prop :=
 match r with
 | .ok (.ret u)=>CE outer P w H s Q u s'
 | .ok _=>False
 | .error e=>CX outer H s E e s'
structure FnOk (P:Program) (w:World) (K:Frag) (mg:Str->Option Value) (base:Heap) (CX:pK) (k:Nat) (f:Addr) (fd:FuncData) (ps:List Str) (sp:Sp):Prop where
 len:∀vs H Q E,sp vs H Q E->vs.length=ps.length
 run:∀(A:Around) (outer:List Env) (s:Shared) (H:Hp) (args:Args) (us:List Value) (vs:List V) (Q:VK) (E:XK),Room k A->Env0 P w K mg base A outer s H->BindsTo s fd args (ps.zip us)->Vals vs us->sp vs H Q E ->
  codeAny (model P w) A (.call (.ref f) args) (CR CX outer P w H s Q E) s
theorem FnOk.mono {P:Program} {w:World} {K:Frag} {mg:Str->Option Value} {base:Heap} {CX:pK} {j k:Nat} {f:Addr} {fd:FuncData} {ps:List Str} {sp:Sp} (F:FnOk P w K mg base CX j f fd ps sp) (h:j<=k) :
  FnOk P w K mg base CX k f fd ps sp:=⟨F.len,fun A outer s H args us vs Q E hr=>F.run A outer s H args us vs Q E (hr.mono h)⟩
theorem Env0.in1 {P:Program} {w:World} {K:Frag} {mg:Str->Option Value} {base:Heap} {A:Around} {outer:List Env} {s:Shared} {H:Hp} (e:Env0 P w K mg base A outer s H) :
  Env0 P w K mg base A.in1 outer s H:=⟨e.frames,e.mod,e.bs,e.bsz,e.funs,e.frf,e.hok,e.bare⟩
section
variable {X:Cx} {pins:List (Addr×Obj)} {σ:St} {H:Hp} {s s':Shared}
theorem Inv.env0 (I:Inv X pins σ H s):Env0 X.prog X.w X.K X.mg X.base X.A X.stack s H :=
 ⟨I.ok.frames,I.ok.mod,I.bs,Nat.le_trans I.ok.bsz I.sz,I.stack,I.stkFree,I.hok,I.bare⟩
theorem Inv.after {Q:VK} {u:Value} (I:Inv X pins σ H s) (h:CE X.stack X.prog X.w H s Q u s'):EP X pins σ Q u s':=by
 obtain ⟨v,H',os,bare,un,hok,r,q⟩:=h;obtain ⟨hh,g,d,t,os'⟩:=s';obtain rfl:os'=s.os:=os;exact ⟨v,H',I.call (h':=hh) (g':=g) (d':=d) (t':=t) (ch:=[]) un hok bare (fun b z=>absurd z (by simp)),r,q⟩
end
noncomputable def Binds (K:Frag) (fd:FuncData) (ps:List Str) (ds:List Value):Prop :=
 ∀(s:Shared) (us:List Value),K.In s.heap->(us ++ ds).length=ps.length->BindsTo s fd ⟨us,[]⟩ (ps.zip (us ++ ds))
theorem Binds.all {K:Frag} {fd:FuncData} {ps:List Str} (h:∀us:List Value,us.length=ps.length->bindArgs fd ⟨us,[]⟩=pure (ps.zip us)):Binds K fd ps []:=fun s us _ hl=>by
 rw [append_nil] at hl ⊢;exact .of_eq (h us hl)
noncomputable def wK (CX:pK) (X:Cx) (E:XK):Prop:=∀(pins:List (Addr×Obj)) (σ:St) (H:Hp) (s:Shared) (e:Value) (s':Shared),Inv X pins σ H s->CX X.stack H s E e s'->X.xe e s'
section
variable {X:Cx} {CX:pK} {k:Nat} {f C:Addr} {fd:FuncData} {ps:List Str} {sp:Sp} {dvs:List V} {ds:List Value} {E:XK} {x m:Str} {p pos apos:Pos} {e o:Expr} {es:List Expr} {ta:TE} {t:TA}
theorem kB' {pins:List (Addr×Obj)} {σ:St} {H:Hp} {s:Shared} {Q:VK} {us:List Value} {vs:List V} (F:FnOk X.prog X.w X.K X.mg X.base CX k f fd ps sp) (hr:Room k X.A) (hb:Binds X.K fd ps ds) (hd:Vals dvs ds) (hx:wK CX X E)
  (I:Inv X pins σ H s) (r:Vals vs us) (h:sp (vs ++ dvs) H Q E):wpAny (model X.prog X.w) X.A (call (.ref f) us) (EP X pins σ Q) X.xe s:=by
 have r2:Vals (vs ++ dvs) (us ++ ds):=r.append hd;have hl:(us ++ ds).length=ps.length:=by rw [<- r2.length]; exact F.len _ _ _ _ h
 refine wpAny_call (codeAny_mono (F.run X.A X.stack s H ⟨us,[]⟩ (us ++ ds) (vs ++ dvs) Q E hr I.env0 (hb s us I.kIn hl) r2 h) fun r s' hq=>?_)
 cases r with
 | error e=>exact hx pins σ H s e s' I hq
 | ok fl =>
  cases fl with
  | ret u=>exact I.after hq
  | next=>exact False.elim hq
  | brk=>exact False.elim hq
  | cont=>exact False.elim hq
structure Mk (K:Frag) (C f:Addr):Prop where
 makes:makesIn K C=true
 init:findIn K (.ref C) "__init__" = some (some (.ref f))
 fn:isFn K (.ref f)=true
 kp:keepIn K (.ref C)=true
end
section
variable {X:Cx} {CX:pK} {k:Nat} {f C:Addr} {fd:FuncData} {ps ks:List Str} {sp:Sp} {E:XK} {x m:Str} {p pos apos kpos:Pos} {e o:Expr} {es:List Expr} {kws:List Keyword} {te ta:TE} {t tk:TA} {nm:Option Str}
structure KBinds (K:Frag) (fd:FuncData) (ps ks:List Str) (g:List Value->List Value->List Value) (gV:List V->List V->List V):Prop where
 to:∀(s:Shared) (us ws:List Value),K.In s.heap->(g us ws).length=ps.length->BindsTo s fd ⟨us,ks.zip ws⟩ (ps.zip (g us ws))
 rel:∀{vs:List V} {us:List Value} {zs:List V} {ws:List Value},Vals vs us->Vals zs ws->Vals (gV vs zs) (g us ws)
variable {g:List Value->List Value->List Value} {gV:List V->List V->List V}
end
structure FnScope (N P:List Str) (sc:Scope):Prop where
 kind:sc.kind=.function
 co:sc.isCoroutine=false
 gen:sc.isGenerator=false
 nd:N.Nodup
 pre:N.take P.length=P
 par:∀x∈P,sc.names.lookup x=some .local\/sc.names.lookup x=some .cell
 nofree:∀y∈sc.names,y.2≠.free
theorem Iu {kindOf:Str->Option NameKind} {x:Str}:∀{binds:List (Str×Value)} {m:Str->Option Value},(∀v,(x,v)∉binds)->bindL kindOf binds m x=m x
 | [],_,_=>rfl
 | (n,v) :: r,m,h=>by
  unfold bindL;rw [Iu fun w hw=>h w (mem_cons_of_mem _ hw)]
  split
  ·have:x≠n:=by rintro rfl; exact h v mem_cons_self
   simp [this]
  ·rfl
theorem Iv {kindOf:Str->Option NameKind} {x:Str}:∀{binds:List (Str×Value)} {m:Str->Option Value},(∀v,(x,v)∉binds)->bindC kindOf binds m x=m x
 | [],_,_=>rfl
 | (n,v) :: r,m,h=>by
  unfold bindC;rw [Iv fun w hw=>h w (mem_cons_of_mem _ hw)]
  split
  ·rfl
  ·have:x≠n:=by rintro rfl; exact h v mem_cons_self
   simp [this]
theorem Iw {kindOf:Str->Option NameKind} {x:Str} {v:Value}:∀{P:List Str} {vs:List Value} {i:Nat} {m:Str->Option Value},P.Nodup->P[i]? = some x->vs[i]? = some v->kindOf x=some .local ->
  bindL kindOf (P.zip vs) m x=some v
 | [],_,_,_,_,h,_,_=>by simp at h
 | _ :: _,[],_,_,_,_,h,_=>by simp at h
 | p :: P,w :: vs,0,m,nd,h1,h2,hk=>by
  simp at h1 h2; subst h1; subst h2;show bindL kindOf ((p,w) :: P.zip vs) m p=_;unfold bindL;rw [Iu fun v hv=>(nodup_cons.mp nd).1 (of_mem_zip hv).1,if_pos hk];simp
 | p :: P,w :: vs,i + 1,m,nd,h1,h2,hk=>by
  show bindL kindOf ((p,w) :: P.zip vs) m x=_;unfold bindL;exact Iw (i:=i) (nodup_cons.mp nd).2 (by simpa using h1) (by simpa using h2) hk
theorem Iz {kindOf:Str->Option NameKind} {x:Str} {v:Value}:∀{P:List Str} {vs:List Value} {i:Nat} {m:Str->Option Value},P.Nodup->P[i]? = some x->vs[i]? = some v->kindOf x≠some .local ->
  bindC kindOf (P.zip vs) m x=some v
 | [],_,_,_,_,h,_,_=>by simp at h
 | _ :: _,[],_,_,_,_,h,_=>by simp at h
 | p :: P,w :: vs,0,m,nd,h1,h2,hk=>by
  simp at h1 h2; subst h1; subst h2;show bindC kindOf ((p,w) :: P.zip vs) m p=_;unfold bindC;rw [Iv fun v hv=>(nodup_cons.mp nd).1 (of_mem_zip hv).1,if_neg hk];simp
 | p :: P,w :: vs,i + 1,m,nd,h1,h2,hk=>by
  show bindC kindOf ((p,w) :: P.zip vs) m x=_;unfold bindC;exact Iz (i:=i) (nodup_cons.mp nd).2 (by simpa using h1) (by simpa using h2) hk
noncomputable def start (N:List Str) (vs:List V):St:=vs.map some ++ List.replicate (N.length - vs.length) none
noncomputable def jf (CX:pK) (P:Program) (w:World) (K:Frag) (mg:Str->Option Value) (base:Heap) (N:List Str) (qual:Str) (scope:Scope) (f:Addr) (cd:Value) (A:Around) (outer:List Env) (s:Shared) (H:Hp) (E:XK):Cx where
 prog:=P
 w:=w
 K:=K
 mg:=mg
 base:=base
 A:=A.deeper (envOfC qual scope s.heap.objs.size f cd)
 N:=N
 s₀:=s
 H₀:=H
 env:=envOfC qual scope s.heap.objs.size f cd
 outer:=outer
 stack:=envOfC qual scope s.heap.objs.size f cd :: outer
 ex:=[]
 calm:=true
 fn:=fun _=>true
 pn:=[]
 xe:=fun e s'=>wpAny (model P w) (A.deeper (envOfC qual scope s.heap.objs.size f cd)) (leaving (envOfC qual scope s.heap.objs.size f cd) e) (fun _ s''=>CX outer H s E e s'') (fun e' s''=>CX outer H s E e' s'') s'
theorem ed' {sc:Scope} {n:Nat} {x:Str} (h:sc.names.lookup x=some .cell):∃c,(cellsFrom n sc.names []).lookup x=some c:=by
 have q:=cellsFrom_some sc.names n [] (.inl h);exact Option.isSome_iff_exists.mp q
theorem hW' {CX:pK} {P:Program} {w:World} {K:Frag} {mg:Str->Option Value} {base:Heap} {N ps:List Str} {qual:Str} {scope:Scope} {f:Addr} {cd:Value} {A:Around} {outer:List Env} {s s1:Shared} {H:Hp} {E:XK} {us:List Value} {vs:List V}
  (S:FnScope N ps scope) (hd:A.handled=none) (e0:Env0 P w K mg base A outer s H) (hl:vs.length=ps.length) (r:Vals vs us)
  (x:InCallC s s.heap.objs.size (bindL (envOfC qual scope s.heap.objs.size f cd).kindOf (ps.zip us) fun _=>none) (cellsFrom (s.heap.objs.size + 1) scope.names []) (bindC (envOfC qual scope s.heap.objs.size f cd).kindOf (ps.zip us) fun _=>none) s1) :
  Inv (jf CX P w K mg base N qual scope f cd A outer s H E) [] (start N vs) H s1:=by
 have hpl:ps.length<=N.length:=by have:=congrArg List.length S.pre; rw [length_take] at this; omega
 obtain ⟨h1,tk,rfl,hk⟩:=x.done
 have noA:∀b:Addr,b∉(jf CX P w K mg base N qual scope f cd A outer s H E).ex:=fun b z=>absurd (show b∈([]:List Addr) from z) (by simp)
 refine ⟨⟨e0.mod,S.kind,rfl,rfl,Nat.le_refl _,fun y z c h1 h2=>?_,fun y hy=>?_,fun y c _ h=>?_,fun _=>hd,Around.frames_deeper e0.frames,.inr ⟨rfl,rfl⟩,fun b z=>absurd z (noA b),e0.bs,e0.bsz,fun b _ _=>noA b,fun b z=>absurd z (noA b),e0.funs,e0.frf⟩,
  rfl,e0.bare,Un.kept hk,⟨_,x.toInCall.ns,fun i y v h1 h2 h3=>?_⟩,fun y c h=>⟨_,x.cell y c h⟩,e0.hok.fresh (Nat.le_refl _),fun y c h=>?_,fun p hp=>absurd (show p∈([]:List (Addr×Obj)) from hp) (by simp),e0.hok.kept hk,?_⟩
 ·exact name_of_addr x.apart (PySem.mem_of_lookup h1) (PySem.mem_of_lookup h2)
 ·have hy:scope.names.lookup y=some .cell\/scope.names.lookup y=some .free:=hy;rcases hy with hy | hy
  ·exact ed' hy
  ·exact absurd rfl (S.nofree _ (PySem.mem_of_lookup hy))
 ·exact Nat.le_of_lt (x.above y c (PySem.mem_of_lookup h))
 ·have hi:i < vs.length:=by
   unfold start at h2
   by_cases hi:i < vs.length
   ·exact hi
   ·rw [List.getElem?_append_right (by simpa using hi)] at h2;rw [List.getElem?_replicate] at h2
    split at h2 <;> cases h2
  have ha:vs[i]? = some v:=by
   unfold start at h2;rw [List.getElem?_append_left (by simpa using hi),List.getElem?_map] at h2
   cases e:vs[i]? with
   | none=>rw [e] at h2; cases h2
   | some a=>rw [e] at h2; cases h2; rfl
  obtain ⟨u,hu,rv⟩:=r.get ha;have hp:ps[i]? = some y:=by
   rw [<- S.pre,List.getElem?_take_of_lt (by omega)]; exact h1
  have ndP:ps.Nodup:=by rw [<- S.pre]; exact S.nd.sublist (take_sublist _ _)
  refine ⟨u,rv,?_⟩;rcases S.par y (mem_of_getElem? hp) with k | k
  ·exact .inl ⟨k,Iw ndP hp hu k⟩
  ·obtain ⟨c,e⟩:=ed' (n:=s.heap.objs.size + 1) k;refine .inr ⟨.inl k,c,e,?_⟩;have q:=x.cell y c e;rw [Iz ndP hp hu (by show scope.names.lookup y≠_; rw [k]; decide)] at q;exact q
 ·exact e0.hok.fresh (Nat.le_of_lt (x.above y c (PySem.mem_of_lookup h)))
 ·unfold start;show _=N.length;rw [length_append,length_map,length_replicate];omega
theorem IK {CX:pK} {P:Program} {w:World} {K:Frag} {mg:Str->Option Value} {base:Heap} {k:Nat} {f:Addr} {name qual:Str} {params:Arguments} {body:List Stmt} {scope:Scope} {dV kV doc pm cdv ct oc:Value} {an od:Option Addr}
  {osl:Array (Option Value)} {N ps:List Str} {sp:Sp} (lk:K.lookup f=some ⟨oc,od,.func (fnOf name qual params body scope dV kV doc pm an cdv ct),osl⟩) (hcd:codeIn K cdv qual=true) (S:FnScope N ps scope)
  (len:∀vs H Q E,sp vs H Q E->vs.length=ps.length)
  (hbody:∀(A:Around) (outer:List Env) (s:Shared) (H:Hp) (vs:List V) (Q:VK) (E:XK),Room k (A.deeper (envOfC qual scope s.heap.objs.size f cdv))->sp vs H Q E ->
   ∃t,PSs (jf CX P w K mg base N qual scope f cdv A outer s H E) body t/\t { nx:=fun _ H'=>Q .non H',rt:=Q } (start N vs) H) :
  FnOk P w K mg base CX (k + 1) f (fnOf name qual params body scope dV kV doc pm an cdv ct) ps sp:=by
 refine ⟨len,fun A outer s H args us vs Q E hr e0 hb r hsp=>?_⟩;have hl:=len _ _ _ _ hsp;have KX:K.In s.heap:=e0.mod.kin.keeps fun b o e=>(e0.bs b o e).1;have lim:s.heap.NoLimit:=e0.mod.nolimit.keeps fun b o e=>(e0.bs b o e).1;have hkind:∀y∈ps.zip us,scope.names.lookup y.1=some .local\/(scope.names.lookup y.1=some .cell/\((cellsFrom (s.heap.objs.size + 1) scope.names []).lookup y.1).isSome=true):=fun ⟨n,v⟩ hy=>by
  rcases S.par n (of_mem_zip hy).1 with q | q
  ·exact .inl q
  ·exact .inr ⟨q,cellsFrom_some _ _ _ (.inl q)⟩
 refine codeAny_call_function hr.depth (KX _ _ lk) rfl S.co S.gen rfl (codeRec_of KX hcd) (hb _ _ _ _ ?_);refine wpAny_newFunctionEnv_cells S.kind hkind fun env he s1 x=>?_;subst he;refine ⟨lim.keeps x.toInCall.keep,codeAny_func ?_⟩;obtain ⟨t,ht,hq⟩:=hbody A outer s H vs Q E (hr.deeper _) hsp;have I:Inv (jf CX P w K mg base N qual scope f cdv A outer s H E) [] (start N vs) H s1:=hW' S hr.hd e0 hl r x;refine wpAny_mono (ht [] s1 (start N vs) H _ I hq) (fun fl s' hs=>?_) fun e s' hs=>hs;have fin:∀{σ':St} {H':Hp} {v:V} {u:Value},Inv (jf CX P w K mg base N qual scope f cdv A outer s H E) [] σ' H' s'->RelV v u->Q v H'->CE outer P w H s Q u s' :=
  fun {σ' H' v u} J rv q=>⟨v,H',J.os,J.bare,J.base,J.hok,rv,q⟩
 cases fl with
 | ret u =>
  obtain ⟨v,σ',H',J,rv,q⟩:=hs;exact fin J rv q
 | next =>
  obtain ⟨σ',H',J,q⟩:=hs;exact fin (v:=V.non) (u:=Value.none) J rfl q
 | brk =>
  obtain ⟨_,_,_,q⟩:=hs;exact False.elim q
 | cont =>
  obtain ⟨_,_,_,q⟩:=hs;exact False.elim q
section
variable {X:Cx} {x:Str} {p pos:Pos} {e:Expr} {es:List Expr} {t:TA} {id T:String} {r:List V->Hp->VK->Prop}
end
end L2
namespace HT
open PySem PyProof.Rows
section
open PySem.SeqAt
open PySem.AutoSeq1 (wpAny_loadPart')
open PySem.MeetsSeq PySem.MeetsSeq2 PySem.MeetsSeq3
end
section
variable {prog:Program} {w:World} {A:Around} {E:Value->Shared->Prop} {s:Shared}
theorem cat_tup {t b:Addr} {vs ws:List Value} {Q:Value->Shared->Prop} (ht:IsTup s.heap t vs.toArray) (hb:IsTup s.heap b ws.toArray) (hv:vs≠[])
  (h1:ws=[]->Q (.ref t) s) (h2:ws≠[]->Q (.ref s.heap.objs.size) { s with heap:=s.heap.push { cls:=.type "tuple",data:=.seq (vs ++ ws).toArray } })
  (hsz:vs.length + ws.length<=sizeLine):wpAny (model prog w) A (binaryOp .Add (.ref t) (.ref b)) Q E s:=by
 obtain ⟨⟨cls,dd,data,sl⟩,ho,hc,n,hd⟩:=id ht;obtain ⟨⟨cls2,dd2,data2,sl2⟩,ho2,hc2,n2,hd2⟩:=id hb;simp only at hc hd hc2 hd2;subst hc hd hc2 hd2;have e:vs.toArray ++ ws.toArray=(vs ++ ws).toArray:=by simp
 by_cases hw:ws=[]
 ·exact concat_meets ⟨_,ho,rfl⟩ ⟨_,ho2,rfl⟩ noFill_tuple_add seq_tuple_add PySem.F.slot_tuple_add PySem.F.entry_tuple_add (PySem.F.args_tuple_add_2 _ _)
   (tuple_addW1 t b vs.toArray ws.toArray n n2 dd dd2 sl sl2 (by simpa using hv) (by simp [hw])) ⟨ho,ho2,h1 hw⟩
 ·refine concat_meets ⟨_,ho,rfl⟩ ⟨_,ho2,rfl⟩ noFill_tuple_add seq_tuple_add PySem.F.slot_tuple_add PySem.F.entry_tuple_add (PySem.F.args_tuple_add_2 _ _)
   (tuple_addW2 t b vs.toArray ws.toArray n n2 dd dd2 sl sl2 (by simpa using hv) (by simpa using hw) (by rw [size_toArray,size_toArray]; exact hsz)) ⟨ho,ho2,?_⟩
  rw [e];exact h2 hw
noncomputable def sIx (n d:Nat):Option Int->Nat
 | none=>d
 | some v=>if v < 0 then (v + (n:Int)).toNat else min v.toNat n
theorem sIx_none (n d:Nat):sIx n d none=d:=rfl
theorem sIx_nat (n d k:Nat):sIx n d (some (k:Int))=min k n:=by
 show (if (k:Int) < 0 then ((k:Int) + (n:Int)).toNat else min (k:Int).toNat n)=min k n
 rw [if_neg (by omega),Int.toNat_natCast]
theorem Oa (n d:Nat) (hd:d<=n) (o:Option Int):sIx n d o<=n:=by
 cases o with
 | none=>exact hd
 | some v =>
  show (if v < 0 then (v + (n:Int)).toNat else min v.toNat n)<=n
  by_cases hv:v < 0
  ·rw [if_pos hv]; omega
  ·rw [if_neg hv]; exact Nat.min_le_right _ _
theorem hX' (v:Int) (n d:Nat):(if v < 0 then max (v + (n:Int)) 0 else min v (n:Int))=((sIx n d (some v):Nat):Int):=by
 show (if v < 0 then max (v + (n:Int)) 0 else min v (n:Int))=(((if v < 0 then (v + (n:Int)).toNat else min v.toNat n):Nat):Int)
 by_cases hv:v < 0
 ·simp only [if_pos hv]; omega
 ·simp only [if_neg hv]; omega
theorem Ob (lo hi:Option Int) (n:Nat):Builtin.Slice.sliceAdjust lo hi 1 (n:Int)=(((sIx n 0 lo:Nat):Int),((sIx n n hi:Nat):Int)):=by
 have h1:¬((1:Int) < 0):=by omega
 unfold Builtin.Slice.sliceAdjust;simp only [h1,if_false];refine Prod.ext ?_ ?_
 ·cases lo with
  | none=>rfl
  | some v=>exact hX' v n 0
 ·cases hi with
  | none=>rfl
  | some v=>exact hX' v n n
theorem Oc (i j:Nat):Builtin.Slice.slicePlaces (i:Int) (j:Int) 1=j - i:=by
 unfold Builtin.Slice.slicePlaces;have h1:(1:Int) > 0:=by omega
 simp only [h1,if_true,Int.ediv_one]
 split <;> omega
theorem IV {v:Value} {o:Option Int} {Q:Option Int->Shared->Prop} (p:IsPart v o) (h:Q o s):wpAny (model prog w) A (Builtin.Slice.slicePartIndex v) Q E s:=by
 cases p with
 | none=>exact slicePart_none h
 | int i t=>exact slicePart_int h
theorem IW {sl:Addr} {vl vu:Value} {lo hi:Option Int} {n:Nat} {Q:Int×Int×Nat->Shared->Prop} (hs:s.heap.IsSliceOf sl vl vu .none) (pl:IsPart vl lo) (pu:IsPart vu hi)
  (h:Q (((sIx n 0 lo:Nat):Int),1,sIx n n hi - sIx n 0 lo) s):wpAny (model prog w) A (Builtin.Slice.sliceApplied (.ref sl) (pure (n:Int))) Q E s:=by
 obtain ⟨os,hos,hcs,hds⟩:=id hs;unfold Builtin.Slice.sliceApplied Builtin.Slice.sliceFields;refine wpAny_bind (wpAny_bind (wpAny_field hos hds (x:=vl) rfl (wpAny_bind (wpAny_field hos hds (x:=vu) rfl (wpAny_bind (wpAny_field hos hds (x:=.none) rfl (wpAny_pure ?_)))))));refine wpAny_bind (slicePart_none ?_);show wpAny _ _ (if ((1:Int) == 0)=true then _ else _) _ _ s
 rw [if_neg (by decide)];refine wpAny_bind (IV pl (wpAny_bind (IV pu (wpAny_bind (wpAny_pure ?_)))));show wpAny _ _ (match Builtin.Slice.sliceAdjust lo hi 1 (n:Int) with | (lo,hi)=>pure (lo,(1:Int),Builtin.Slice.slicePlaces lo hi 1)) _ _ s
 rw [Ob lo hi n];show wpAny _ _ (pure (((sIx n 0 lo:Nat):Int),(1:Int),Builtin.Slice.slicePlaces ((sIx n 0 lo:Nat):Int) ((sIx n n hi:Nat):Int) 1)) _ _ s;rw [Oc];exact wpAny_pure h
theorem Od (xs:Array Value) (i k:Nat):((List.range k).filterMap fun (m:Nat)=>xs[((i:Int) + (m:Int) * 1).toNat]?).toArray=((xs.toList.drop i).take k).toArray:=by
 have e:(fun (m:Nat)=>xs[((i:Int) + (m:Int) * 1).toNat]?)=fun m=>xs[i + m]?:=by
  funext m
  have:((i:Int) + (m:Int) * 1).toNat=i + m:=by omega
  rw [this]
 rw [e];have:=pick_run xs i k;rw [filterMap_map] at this;have e2:((fun x=>xs[x]?) ∘ fun x=>i + x)=fun m=>xs[i + m]?:=rfl;rw [e2] at this;rw [this]
theorem getItem_tuple_cut {t sl:Addr} {items:Array Value} {vl vu:Value} {lo hi:Option Int} {Q:Value->Shared->Prop} (ht:IsTup s.heap t items) (hs:s.heap.IsSliceOf sl vl vu .none) (pl:IsPart vl lo) (pu:IsPart vu hi)
  (hw:¬(sIx items.size 0 lo=0/\sIx items.size items.size hi=items.size))
  (h:Q (.ref s.heap.objs.size) { s with heap:=s.heap.push { cls:=.type "tuple",data:=.seq ((items.toList.drop (sIx items.size 0 lo)).take (sIx items.size items.size hi - sIx items.size 0 lo)).toArray } })
  (hsz:items.size<=sizeLine):wpAny (model prog w) A (getItem (.ref t) (.ref sl)) Q E s:=by
 have htake:sizeOk (.seq ((items.toList.drop (sIx items.size 0 lo)).take (sIx items.size items.size hi - sIx items.size 0 lo)).toArray):=by
  show ((items.toList.drop (sIx items.size 0 lo)).take (sIx items.size items.size hi - sIx items.size 0 lo)).toArray.size<=sizeLine;rw [size_toArray,length_take,length_drop,Array.length_toList];omega
 have hj:sIx items.size items.size hi<=items.size:=Oa _ _ (Nat.le_refl _) hi;obtain ⟨os,hos,hcs,hds⟩:=id hs;have hTs:s.TypeIs (.ref sl) "slice":=⟨os,hos,hcs⟩;unfold getItem
 try with_reducible refine wpAny_holding ?_
 first | refine wpAny_bind (wpAny_pure ?_) | skip
 refine wpAny_bind (wpAny_sequenceKey ht.typeIs (by decide) ?_);refine wpAny_bind (wpAny_callSpecial?_slot (name:=Str.ofString "__getitem__") ht.typeIs PyProof.Rows.slot_tuple_getitem
  (wpAny_call_entry PyProof.Rows.slot_tuple_getitem ht.typeIs entry_tuple_getitem ?_ (args_tuple_getitem _ _)))
 show wpAny _ _ (Builtin.Tuple.tupleItemsOf (.ref t) >>= _) _ _ s;refine wpAny_bind (tupleItemsOf_ ht ?_);refine wpAny_bind (wpAny_typeOf hTs ?_);rw [if_pos (by decide)];refine wpAny_bind (IW hs pl pu ?_);have hno:¬((((sIx items.size 0 lo:Nat):Int) == 0 && (1:Int) == 1 && (sIx items.size items.size hi - sIx items.size 0 lo) == items.size)=true):=by
  intro q;rw [Bool.and_eq_true,Bool.and_eq_true] at q;have q1:((sIx items.size 0 lo:Nat):Int)=0:=eq_of_beq q.1.1;have q2:sIx items.size items.size hi - sIx items.size 0 lo=items.size:=eq_of_beq q.2;exact hw ⟨by omega,by omega⟩
 show wpAny _ _ (if (((sIx items.size 0 lo:Nat):Int) == 0 && (1:Int) == 1 && (sIx items.size items.size hi - sIx items.size 0 lo) == items.size)=true then _ else _) _ _ s
 rw [if_neg hno,Od]
 first
  | exact wpAny_bind (m:=Builtin.Tuple.tupleExact _) (wpAny_newObj_type (wpAny_pure ⟨_,rfl,wpAny_pure h⟩) htake)
  | exact wpAny_bind (m:=Builtin.Tuple.tupleExact _) (wpAny_newObj_type (wpAny_bind (wpAny_pure (wpAny_pure ⟨_,rfl,wpAny_pure h⟩))) htake)
  | exact wpAny_bind (wpAny_bind (m:=Builtin.Tuple.tupleExact _) (wpAny_newObj_type (wpAny_pure (wpAny_pure ⟨_,rfl,wpAny_pure h⟩)) htake))
  | exact wpAny_bind (wpAny_bind (m:=Builtin.Tuple.tupleExact _) (wpAny_newObj_type (wpAny_pure ⟨_,rfl,wpAny_pure h⟩) htake))
end
end HT
namespace L2
open PySem PySem.Spec PyProof.Rows
abbrev TO:=St->Hp->(Option Int->Hp->Prop)->Prop
section
variable {X:Cx} {e:Expr} {te:TE} {lo hi:Option Expr} {tl th:TO} {pos p2:Pos}
noncomputable def SlR (X:Cx) (r:V->Option Int->Option Int->Hp->VK->Prop):Prop :=
 ∀(pins:List (Addr×Obj)) (s:Shared) (σ:St) (H:Hp) (x:V) (v vl vu:Value) (lo hi:Option Int) (sl:Addr) (Q:VK),Inv X pins σ H s->RelV x v->s.heap.IsSliceOf sl vl vu .none->IsPart vl lo->IsPart vu hi->r x lo hi H Q ->
  ∃T id,typeLookup (.type T) "__getitem__" = pure (some (.builtin id))/\s.TypeIs v T/\wpAny (model X.prog X.w) X.A (getItem v (.ref sl)) (EP X pins σ Q) X.xe s
theorem SlR.or {r r':V->Option Int->Option Int->Hp->VK->Prop} (h:SlR X r) (h':SlR X r'):SlR X (fun x lo hi H Q=>r x lo hi H Q\/r' x lo hi H Q):=by
 intro pins s σ H x v vl vu lo hi sl Q I rx hs pl pu q;rcases q with q | q
 ·exact h pins s σ H x v vl vu lo hi sl Q I rx hs pl pu q
 ·exact h' pins s σ H x v vl vu lo hi sl Q I rx hs pl pu q
noncomputable def lQ (xs:List V) (lo hi:Option Int):List V:=(xs.drop (HT.sIx xs.length 0 lo)).take (HT.sIx xs.length xs.length hi - HT.sIx xs.length 0 lo)
theorem I_ (xs:List V) (lo hi:Option Int):(lQ xs lo hi).length<=xs.length:=by
 unfold lQ;rw [length_take,length_drop];omega
noncomputable def yU (K:Frag):V->Option Int->Option Int->Hp->VK->Prop:=fun x lo hi H Q=>∃a xs,x=.ref a/\SqT K H a xs /\
 ¬(HT.sIx xs.length 0 lo=0/\HT.sIx xs.length xs.length hi=xs.length)/\∀p,H p=none->Q (.ref p) (upd H p (.tup (lQ xs lo hi)))
theorem sl_tup:SlR X (yU X.K):=by
 intro pins s σ H x v vl vu lo hi sl Q I rx hs pl pu h;obtain ⟨a,xs,rfl,hx,hw,q⟩:=h
 cases rx
 obtain ⟨its,r,ht,hz⟩:=I.tuple hx;have hlen:its.toArray.size=xs.length:=by rw [size_toArray]; exact r.length.symm
 refine ⟨"tuple",_,PyProof.Rows.slot_tuple_getitem.lookup,ht.typeIs,?_⟩;refine HT.getItem_tuple_cut ht hs pl pu (by rw [hlen]; exact hw) ?_ (by rw [hlen]; exact hz);rw [hlen];refine ⟨.ref s.heap.objs.size,_,I.laid (t':=s.toks) (o:=.tup (lQ xs lo hi)) (fun b ob q=>Heap.get?_push_of_some _ q) (Nat.le_refl _) ?_,rfl,q _ (I.hok.fresh (Nat.le_refl _))⟩;exact ⟨Nat.le_trans (I_ xs lo hi) hz,_,(r.drop (HT.sIx xs.length 0 lo)).take (HT.sIx xs.length xs.length hi - HT.sIx xs.length 0 lo),IsTup.new _ _⟩
noncomputable def vW (K:Frag):R2:=fun x y H Q=>∃a b xs ys,x=.ref a/\y=.ref b/\SqT K H a xs/\SqT K H b ys/\xs≠[]/\xs.length + ys.length<=sizeLine /\
 (ys=[]->Q (.ref a) H)/\(ys≠[]->∀p,H p=none->Q (.ref p) (upd H p (.tup (xs ++ ys))))
theorem Vals.nil_iff {xs:List V} {us:List Value} (r:Vals xs us):us=[]↔xs=[]:=by
 cases r with
 | nil=>simp
 | cons _ _=>simp
theorem ln':OpR X (binaryOp .Add) (vW X.K):=by
 intro pins s σ H x y v u Q I rx ry h;obtain ⟨a,b,xs,ys,rfl,rfl,ha,hb,hx,hz,q1,q2⟩:=h
 cases rx
 cases ry
 obtain ⟨its,r1,p1,_⟩:=I.tuple ha;obtain ⟨its2,r2,p2,_⟩:=I.tuple hb;refine HT.cat_tup p1 p2 (fun z=>hx (r1.nil_iff.mp z)) (fun z=>⟨.ref a,H,I,rfl,q1 (r2.nil_iff.mp z)⟩) (fun z=>?_) (by rw [<- r1.length,<- r2.length]; exact hz);refine ⟨.ref s.heap.objs.size,_,I.laid (t':=s.toks) (o:=.tup (xs ++ ys)) (fun b ob q=>Heap.get?_push_of_some _ q) (Nat.le_refl _) ?_,rfl,q2 (fun w=>z (r2.nil_iff.mpr w)) _ (I.hok.fresh (Nat.le_refl _))⟩;exact ⟨by rw [length_append]; exact hz,_,r1.append r2,IsTup.new _ _⟩
end
noncomputable def jO (n:Nat) (i:Int):Option Nat:=if 0<=i then (if i < n then some i.toNat else none) else if -(n:Int)<=i then some (i + n).toNat else none
noncomputable def jg {α:Type} (xs:List α) (i:Int):Option α:=(jO xs.length i).bind fun j=>xs[j]?
theorem hY' {n:Nat} {i:Int} {j:Nat} (h:jO n i=some j):seqIndex? i n=some j/\j < n/\-(n:Int)<=i/\i < n:=by
 unfold jO at h
 by_cases h0:0<=i
 ·rw [if_pos h0] at h
  by_cases h1:i < n
  ·rw [if_pos h1] at h;have e:i.toNat=j:=Option.some.inj h;exact ⟨by rw [seqIndex_of h0 h1,e],by omega,by omega,h1⟩
  ·rw [if_neg h1] at h; cases h
 ·rw [if_neg h0] at h
  by_cases h1:-(n:Int)<=i
  ·rw [if_pos h1] at h;have e:(i + n).toNat=j:=Option.some.inj h;exact ⟨by rw [seqIndex_neg (by omega) h1,e],by omega,h1,by omega⟩
  ·rw [if_neg h1] at h; cases h
theorem Fd {α:Type} {xs:List α} {i:Int} {v:α} (h:jg xs i=some v):∃j,seqIndex? i xs.length=some j/\xs[j]? = some v/\j < xs.length/\-(xs.length:Int)<=i/\i < xs.length:=by
 unfold jg at h
 cases e:jO xs.length i with
 | none=>rw [e] at h; cases h
 | some j =>
  rw [e] at h;obtain ⟨h1,h2,h3,h4⟩:=hY' e;exact ⟨j,h1,h,h2,h3,h4⟩
theorem lo' {α:Type} {xs:List α} {j:Nat} {v:α} (h:xs[j]? = some v):jg xs (j:Int)=some v:=by
 have hj:j < xs.length:=(List.getElem?_eq_some_iff.mp h).1;have e:jO xs.length (j:Int)=some j:=by
  unfold jO;rw [if_pos (by omega),if_pos (by omega)]; simp
 unfold jg; rw [e]; exact h
noncomputable def u6 (b:Expr):Prop:=∀o i,subscripted b false o i=operate [o,i] (getItem o i)
noncomputable def IxR (X:Cx) (r:R2):Prop :=
 ∀(value slice:Expr) (pins:List (Addr×Obj)) (s:Shared) (σ:St) (H:Hp) (x y:V) (v u:Value) (Q:VK),Inv X pins σ H s->RelV x v->RelV y u->r x y H Q ->
  subscripted slice false v u=operate [v,u] (getItem v u)->wpAny (model X.prog X.w) X.A (subscriptTail value slice v u) (EP X pins σ Q) X.xe s
noncomputable def MtR (X:Cx) (id:String) (r:V->List V->Hp->VK->Prop):Prop :=
 ∀(pins:List (Addr×Obj)) (s:Shared) (σ:St) (H:Hp) (x:V) (xs:List V) (v:Value) (us:List Value) (Q:VK),Inv X pins σ H s->RelV x v->Vals xs us->r x xs H Q ->
  wpAny (model X.prog X.w) X.A (call (.builtin id) (v :: us)) (EP X pins σ Q) X.xe s
section
variable {X:Cx} {a b:Expr} {ta tb:TE} {pos:Pos}
theorem IxR.or {r r':R2} (h:IxR X r) (h':IxR X r'):IxR X (fun x y H Q=>r x y H Q\/r' x y H Q):=by
 intro value slice pins s σ H x y v u Q I rx ry q hs;rcases q with q | q
 ·exact h value slice pins s σ H x y v u Q I rx ry q hs
 ·exact h' value slice pins s σ H x y v u Q I rx ry q hs
theorem MtR.or {id:String} {r r':V->List V->Hp->VK->Prop} (h:MtR X id r) (h':MtR X id r'):MtR X id (fun x xs H Q=>r x xs H Q\/r' x xs H Q):=by
 intro pins s σ H x xs v us Q I rx rs q;rcases q with q | q
 ·exact h pins s σ H x xs v us Q I rx rs q
 ·exact h' pins s σ H x xs v us Q I rx rs q
noncomputable def yV (K:Frag):R2:=fun x y H Q=>∃p xs i v,x=.ref p/\y=.int i/\SqL K H p xs/\jg xs i=some v/\Q v H
noncomputable def yW (K:Frag):R2:=fun x y H Q=>∃p xs i v,x=.ref p/\y=.int i/\SqT K H p xs/\jg xs i=some v/\Q v H
noncomputable def yX:R2:=fun x y H Q=>∃z i c,x=.str z/\y=.int i/\z.length<=sizeLine/\jg z.cps.toList i=some c/\Q (.str ⟨#[c]⟩) H
theorem ix_list:IxR X (yV X.K):=by
 intro value slice pins s σ H x y v u Q I rx ry h hs;obtain ⟨p,xs,i,z,rfl,rfl,hq,he,q⟩:=h
 cases rx
 obtain ⟨t,rfl⟩:=ry;obtain ⟨its,r,pl,hz⟩:=I.list hq;obtain ⟨j,h1,h2,h3,h4,h5⟩:=Fd he;obtain ⟨w,ew,rw'⟩:=r.get h2;have hl:=r.length;have hn:=ym;have fin:EP X pins σ Q w s:=⟨z,H,I,rw',q⟩
 by_cases h0:0<=i
 ·have hj:i.toNat=j:=by
   rw [seqIndex_of h0 h5] at h1;exact Option.some.inj h1
  exact item_listR pl.isList h0 (by omega) (by rw [hj]; simpa using ew) fin hs
 ·have hj:(i + (its.toArray.size:Int)).toNat=j:=by
   rw [seqIndex_neg (by omega) h4] at h1;rw [size_toArray,<- hl];exact Option.some.inj h1
  exact subscriptTail_builtinR (x:=w) pl.isList.typeIs slot_list_getitem.lookup
   (wpAny_getItem_list_neg (Q:=fun r s'=>r=w/\EP X pins σ Q r s') pl.isList (by omega) (by rw [size_toArray] <;> omega) (by omega) (by rw [hj]; simpa using ew) ⟨rfl,fin⟩) hs
theorem ix_tup:IxR X (yW X.K):=by
 intro value slice pins s σ H x y v u Q I rx ry h hs;obtain ⟨p,xs,i,z,rfl,rfl,hq,he,q⟩:=h
 cases rx
 obtain ⟨t,rfl⟩:=ry;obtain ⟨its,r,pl,hz⟩:=I.tuple hq;obtain ⟨j,h1,h2,h3,h4,h5⟩:=Fd he;obtain ⟨w,ew,rw'⟩:=r.get h2;have hl:=r.length;have hn:=ym;have fin:EP X pins σ Q w s:=⟨z,H,I,rw',q⟩;exact subscriptTail_builtinR (x:=w) pl.typeIs slot_tuple_getitem.lookup
  (getItem_tuple (j:=j) (Q:=fun r s'=>r=w/\EP X pins σ Q r s') pl (by omega) (by omega) (by rw [size_toArray,<- hl]; exact h1) (by simpa using ew) ⟨rfl,fin⟩) hs
theorem Oe:IxR X yX:=by
 intro value slice pins s σ H x y v u Q I rx ry h hs;obtain ⟨z,i,c,rfl,rfl,hz,he,q⟩:=h;obtain ⟨t,rfl⟩:=rx;obtain ⟨t',rfl⟩:=ry;obtain ⟨j,h1,h2,h3,h4,h5⟩:=Fd he;have hl:z.cps.toList.length=z.length:=by simp [Str.length]
 rw [hl] at h1 h4 h5;have hn:=ym;exact tail_any (typeIs_str s z t) slot_str_getitem.lookup (getItem_str (c:=c) (by
  have e1:decide (i < -(2 ^ 63:Int))=false:=decide_eq_false (by omega);have e2:decide (i>=2 ^ 63)=false:=decide_eq_false (by omega);rw [e1,e2,Bool.or_false]) (by rw [h1]; simpa using h2) ⟨.str ⟨#[c]⟩,H,I.tok _,⟨_,rfl⟩,q⟩) hs
noncomputable def Og (K:Frag):R2:=fun x y H Q=>yV K x y H Q\/yW K x y H Q\/yX x y H Q
theorem Oh:IxR X (Og X.K):=ix_list.or (ix_tup.or Oe)
theorem Oi (its:List Value) (n j:Nat) (u:Value):Obj.mapSeq (·.setIfInBounds j u) { cls:=.type "list",data:=.seq its.toArray n }={ cls:=.type "list",data:=.seq (its.set j u).toArray n }:=by
 simp [Obj.mapSeq]
theorem Inv.lst {pins:List (Addr×Obj)} {σ:St} {H:Hp} {s:Shared} {p:Addr} {xs:List V} (I:Inv X pins σ H s) (h:H p=some (.lst xs)) :
  ∃(its:List Value) (n:Nat),Vals xs its/\s.heap.get? p=some { cls:=.type "list",data:=.seq its.toArray n }/\xs.length<=sizeLine:=by
 obtain ⟨z,its,n,r,e⟩:=I.hok p _ h;exact ⟨its,n,r,e,z⟩
theorem Inv.lstUpd {pins:List (Addr×Obj)} {σ:St} {H:Hp} {s:Shared} {p:Addr} {xs ys:List V} {its its':List Value} {n n':Nat} {f:Obj->Obj} (I:Inv X pins σ H s) (h:H p=some (.lst xs))
  (ho:s.heap.get? p=some { cls:=.type "list",data:=.seq its.toArray n }) (hf:f { cls:=.type "list",data:=.seq its.toArray n }={ cls:=.type "list",data:=.seq its'.toArray n' }) (r:Vals ys its') (hz:ys.length<=sizeLine) (t:Nat) :
  Inv X pins σ (upd H p (.lst ys)) { s with heap:=s.heap.update p f,toks:=t }:=by
 have e:(s.heap.update p f).get? p=some { cls:=.type "list",data:=.seq its'.toArray n' }:=by
  rw [Heap.get?_update_self f ho (by rw [hf] <;> rfl),hf]
 refine I.write (x:=p) (e:=p) (by rw [h]; trivial) (.inl rfl) (fun b u hb q=>(Heap.get?_update_other _ _ (Ne.symm hb)).trans q) ⟨_,e⟩ ?_;exact ⟨hz,its',n',r,e⟩
noncomputable def yZ:V->V->V->Hp->(Hp->Prop)->Prop:=fun o i v H Q=>∃p xs k j,o=.ref p/\i=.int k/\H p=some (.lst xs)/\jO xs.length k=some j/\Q (upd H p (.lst (xs.set j v)))
theorem set_list:Ex X yZ:=by
 intro pins s σ H o i v ov iv u Q I ro ri rv h;obtain ⟨p,xs,k,j,rfl,rfl,hp,hj,q⟩:=h
 cases ro
 obtain ⟨t,rfl⟩:=ri;obtain ⟨its,n,r,ho,hz⟩:=I.lst hp;obtain ⟨h1,h2,h3,h4⟩:=hY' hj;have hl:=r.length;have hn:=ym;have I':Inv X pins σ (upd H p (.lst (xs.set j v))) { s with heap:=s.heap.update p (Obj.mapSeq (·.setIfInBounds j u)) } :=
  I.lstUpd hp ho (Oi its n j u) (r.set rv j) (by rw [length_set]; exact hz) s.toks
 by_cases h0:0<=k
 ·have hk:k.toNat=j:=by
   rw [seqIndex_of h0 h4] at h1;exact Option.some.inj h1
  exact ki_setAt ho h0 (by omega) (by rw [size_toArray,<- hl]; exact h4) (by rw [hk]; exact ⟨_,I',q⟩)
 ·have hk:(k + (its.toArray.size:Int)).toNat=j:=by
   rw [seqIndex_neg (by omega) h3] at h1;rw [size_toArray,<- hl];exact Option.some.inj h1
  exact ki_setBack ho (by omega) (by rw [size_toArray,<- hl]; exact h3) (by omega) (by rw [hk]; exact ⟨_,I',q⟩)
theorem Oj (lo hi:Option Int) (n:Nat):(sliceBounds lo hi none n).1=((HT.sIx n 0 lo:Nat):Int)/\(sliceBounds lo hi none n).2.1=((HT.sIx n n hi:Nat):Int)/\(sliceBounds lo hi none n).2.2=1:=by
 refine ⟨?_,?_,rfl⟩
 ·cases lo with
  | none=>simp [sliceBounds,HT.sIx]
  | some i =>
   simp only [sliceBounds,HT.sIx,Option.getD_none,show (1:Int) > 0 by decide,if_true]
   by_cases h:i < 0
   ·simp only [h,if_true] <;> omega
   ·simp only [h,if_false] <;> omega
 ·cases hi with
  | none=>simp [sliceBounds,HT.sIx]
  | some i =>
   simp only [sliceBounds,HT.sIx,Option.getD_none,show (1:Int) > 0 by decide,if_true]
   by_cases h:i < 0
   ·simp only [h,if_true] <;> omega
   ·simp only [h,if_false] <;> omega
theorem ef' (its:List Value) (lo hi:Option Int):slicePick its.toArray lo hi none=((its.drop (HT.sIx its.length 0 lo)).take (HT.sIx its.length its.length hi - HT.sIx its.length 0 lo)).toArray:=by
 obtain ⟨h1,h2,h3⟩:=Oj lo hi its.toArray.size;unfold slicePick;rw [h1,h2,h3];simp only [sliceRange_one,pick_run,size_toArray] <;> rfl
noncomputable def y_ (K:Frag):V->Option Int->Option Int->Hp->VK->Prop:=fun x lo hi H Q=>∃a xs,x=.ref a/\SqL K H a xs/\∀p,H p=none->Q (.ref p) (upd H p (.lst (lQ xs lo hi)))
theorem sl_list:SlR X (y_ X.K):=by
 intro pins s σ H x v vl vu lo hi sl Q I rx hs pl pu h;obtain ⟨a,xs,rfl,hx,q⟩:=h
 cases rx
 obtain ⟨its,r,ht,hz⟩:=I.list hx;have hlen:=r.length;refine ⟨"list",_,slot_list_getitem.lookup,ht.isList.typeIs,?_⟩;refine wpAny_getItem_list_slice ht.isList hs pl pu .none (by simp) ?_ (by rw [size_toArray] <;> omega)
 rw [ef',<- hlen];refine ⟨.ref s.heap.objs.size,_,I.laid (t':=s.toks) (o:=.lst (lQ xs lo hi)) (fun b ob q=>Heap.get?_push_of_some _ q) (Nat.le_refl _) ?_,rfl,q _ (I.hok.fresh (Nat.le_refl _))⟩;exact ⟨Nat.le_trans (I_ xs lo hi) hz,_,0,(r.drop (HT.sIx xs.length 0 lo)).take (HT.sIx xs.length xs.length hi - HT.sIx xs.length 0 lo),Heap.get?_push_size _ rfl⟩
theorem CallR.or {f:Value} {r r':List V->Hp->VK->Prop} (h:CallR X f r) (h':CallR X f r'):CallR X f (fun xs H Q=>r xs H Q\/r' xs H Q):=by
 intro pins s σ H xs us Q I rs q;rcases q with q | q
 ·exact h pins s σ H xs us Q I rs q
 ·exact h' pins s σ H xs us Q I rs q
theorem Ol:CallR X (.type "list") (fun xs H Q=>∃p ys,xs=[.ref p]/\(SqL X.K H p ys\/SqT X.K H p ys)/\∀l,H l=none->Q (.ref l) (upd H l (.lst ys))):=by
 intro pins s σ H xs us Q I r h;obtain ⟨p,ys,rfl,hq,q⟩:=h;obtain ⟨u,rfl,rx⟩:=vals1 r
 cases rx
 have fin:∀(its:List Value),Vals ys its->ys.length<=sizeLine->∀(h':Heap) (c':Nat),(∀b o',s.heap.get? b=some o'->h'.get? b=some o') ->
   h'.get? s.heap.objs.size=some { cls:=.type "list",dict:=none,data:=.seq its.toArray c',slots:=#[] }->EP X pins σ Q (.ref s.heap.objs.size) { s with heap:=h' }:=fun its r' hz h' c' kp e =>
  ⟨.ref s.heap.objs.size,_,I.laid (t':=s.toks) kp (Nat.le_refl _) (show ObjOk X.prog X.w _ h' _ (.lst ys) from ⟨hz,its,c',r',e⟩),rfl,q _ (I.hok.fresh (Nat.le_refl _))⟩
 rcases hq with hq | hq
 ·obtain ⟨its,r',pl,hz⟩:=I.list hq;have hlen:=r'.length;obtain ⟨o,ho,hc,n,hd⟩:=pl.isList;exact call_list_seq p (.inl rfl) ho hc hd (fun h' c' kp e=>fin its r' hz h' c' kp e) (by simp only [size_toArray] <;> omega)
 ·obtain ⟨its,r',pl,hz⟩:=I.tuple hq;have hlen:=r'.length;obtain ⟨o,ho,hc,n,hd⟩:=pl;exact call_list_seq p (.inr rfl) ho hc hd (fun h' c' kp e=>fin its r' hz h' c' kp e) (by simp only [size_toArray] <;> omega)
theorem Om:CallR X (.type "tuple") (fun xs H Q=>∃p ys,xs=[.ref p]/\((SqL X.K H p ys/\∀l,H l=none->Q (.ref l) (upd H l (.tup ys)))\/(SqT X.K H p ys/\Q (.ref p) H))):=by
 intro pins s σ H xs us Q I r h;obtain ⟨p,ys,rfl,h⟩:=h;obtain ⟨u,rfl,rx⟩:=vals1 r
 cases rx
 rcases h with ⟨hq,q⟩ | ⟨hq,q⟩
 ·obtain ⟨its,r',pl,hz⟩:=I.list hq;have hlen:=r'.length;refine call_tuple_list pl.isList (fun h' kp=>?_) (by simp only [size_toArray] <;> omega)
  have I1:Inv X pins σ H { s with heap:=h' }:=I.kept (t':=s.toks) kp
  have I2:Inv X pins σ (upd H h'.objs.size (.tup ys)) { s with heap:=h'.push { cls:=.type "tuple",data:=.seq its.toArray } } :=
   I1.laid (t':=s.toks) (fun b o e=>Heap.get?_push_of_some _ e) (Nat.le_refl _) (show ObjOk X.prog X.w _ _ _ (.tup ys) from ⟨hz,its,r',IsTup.new _ _⟩)
  exact ⟨.ref h'.objs.size,_,I2,rfl,q _ (I1.hok.fresh (Nat.le_refl _))⟩
 ·obtain ⟨its,r',pl,hz⟩:=I.tuple hq;exact call_tuple_same pl ⟨.ref p,H,I,rfl,q⟩
noncomputable def Ja (K:Frag) (T:String) (x:V) (H:Hp):Prop:=match x with
 | .str _=>T = "str"
 | .int _=>T = "int"
 | .ref p=>(T = "list"/\∃xs,SqL K H p xs)\/(T = "tuple"/\∃o,K.lookup p=some o/\o.cls=.type "tuple"/\o.dict=none) \/
   (T = "dict"/\((∃kvs,H p=some (.dK kvs))\/∃kvs,H p=some (.dT kvs)))\/(T = "set"/\∃S n,H p=some (.set S n))
 | _=>False
theorem Jb {pins:List (Addr×Obj)} {σ:St} {H:Hp} {s:Shared} {T:String} {x:V} {v:Value} (I:Inv X pins σ H s) (r:RelV x v) (ty:Ja X.K T x H) :
  s.TypeIs v T/\∀a,v=.ref a->∃ob,s.heap.get? a=some ob/\ob.dict=none:=by
 cases x with
 | str z =>
  obtain ⟨t,rfl⟩:=r
  cases (show T = "str" from ty)
  exact ⟨typeIs_str s z t,fun _ e=>nomatch e⟩
 | int i =>
  obtain ⟨t,rfl⟩:=r
  cases (show T = "int" from ty)
  exact ⟨typeIs_int s i t,fun _ e=>nomatch e⟩
 | ref p =>
  cases r
  rcases ty with ⟨rfl,xs,hq⟩ | ⟨rfl,o,hk,hc,hd⟩ | ⟨rfl,hk⟩ | ⟨rfl,S,n,hk⟩
  ·obtain ⟨its,_,pl,_⟩:=I.list hq;refine ⟨pl.isList.typeIs,fun a e=>?_⟩
   cases e
   obtain ⟨o,n,e,c,hd,_⟩:=pl;exact ⟨o,e,hd⟩
  ·refine ⟨⟨o,I.kIn p o hk,hc⟩,fun a e=>?_⟩
   cases e
   exact ⟨o,I.kIn _ o hk,hd⟩
  ·have z:∃o,s.heap.get? p=some o/\o.ExactDict:=by
    rcases hk with ⟨kvs,hk⟩ | ⟨kvs,hk⟩
    ·obtain ⟨_,_,_,_,o,_,_,e,ex,_⟩:=I.hok p _ hk;exact ⟨o,e,ex⟩
    ·obtain ⟨_,_,_,_,o,_,_,e,ex,_⟩:=I.hok p _ hk;exact ⟨o,e,ex⟩
   obtain ⟨o,e,ex⟩:=z;refine ⟨⟨o,e,ex.1⟩,fun a e2=>?_⟩
   cases e2
   exact ⟨o,e,ex.2.1⟩
  ·obtain ⟨o,_,_,_,e,ex,_⟩:=I.hok p _ hk;refine ⟨⟨o,e,ex.1⟩,fun a e2=>?_⟩
   cases e2
   exact ⟨o,e,ex.2.1⟩
 | _=>exact False.elim ty
variable {o e:Expr} {es:List Expr} {to:TE} {t:TA} {name:Str} {apos cpos:Pos} {T id:String} {r:V->List V->Hp->VK->Prop}
end
theorem Vals.one:∀{x:V} {us:List Value},Vals [x] us->∃u,us=[u]/\RelV x u
 | _,_,.cons r .nil=>⟨_,rfl,r⟩
theorem Vals.two:∀{x y:V} {us:List Value},Vals [x,y] us->∃u v,us=[u,v]/\RelV x u/\RelV y v
 | _,_,_,.cons r (.cons q .nil)=>⟨_,_,rfl,r,q⟩
theorem Vals.zero:∀{us:List Value},Vals [] us->us=[]
 | _,.nil=>rfl
theorem Vals.reverse {xs:List V} {us:List Value} (h:Vals xs us):Vals xs.reverse us.reverse:=by
 induction h with
 | nil=>exact .nil
 | cons r t ih=>rw [reverse_cons,reverse_cons]; exact Vals.append ih (.cons r .nil)
theorem Vals.rep {xs:List V} {us:List Value} (h:Vals xs us):∀k:Nat,Vals (List.replicate k xs).flatten (List.replicate k us).flatten
 | 0=>.nil
 | k + 1=>by
  rw [replicate_succ,replicate_succ,flatten_cons,flatten_cons];exact Vals.append h (Vals.rep h k)
theorem foldl_rep (its:List Value):∀(k:Nat) (acc:List Value),
  List.foldl (fun x1 x2=>x1 ++ x2) acc.toArray (List.replicate k its.toArray)=(acc ++ (List.replicate k its).flatten).toArray
 | 0,acc=>by simp
 | k + 1,acc=>by
  have e:acc.toArray ++ its.toArray=(acc ++ its).toArray:=by simp
  have e2:(acc ++ its) ++ (List.replicate k its).flatten=acc ++ (List.replicate (k + 1) its).flatten:=by
   rw [replicate_succ,flatten_cons,append_assoc]
  rw [<- e2,<- foldl_rep its k (acc ++ its),<- e,replicate_succ,foldl_cons]
section
variable {X:Cx} {pins:List (Addr×Obj)} {σ:St} {H:Hp} {s:Shared} {l b:Addr} {xs ys zs:List V}
theorem Inv.lset {its its':List Value} {n:Nat} {f:Array Value->Array Value} {t':Nat} (I:Inv X pins σ H s) (hH:H l=some (.lst xs))
  (e:s.heap.get? l=some { cls:=.type "list",data:=.seq its.toArray n }) (hf:f its.toArray=its'.toArray) (hv:Vals ys its') (hz:ys.length<=sizeLine) :
  Inv X pins σ (upd H l (.lst ys)) { s with heap:=s.heap.update l (Obj.mapSeq f),toks:=t' }:=by
 have q:=PySem.IsL.update e f;rw [hf] at q;refine I.write (x:=l) (e:=l) (by rw [hH]; exact trivial) (.inl rfl) (fun b' u hb hu=>(Heap.get?_update_other s.heap (Obj.mapSeq f) (Ne.symm hb)).trans hu) ⟨_,q⟩ ?_;exact ⟨hz,its',_,hv,q⟩
theorem Inv.lnew {its:List Value} {t':Nat} (I:Inv X pins σ H s) (hv:Vals ys its) (hz:ys.length<=sizeLine) :
  Inv X pins σ (upd H s.heap.objs.size (.lst ys)) { s with heap:=s.heap.push { cls:=.type "list",data:=.seq its.toArray },toks:=t' } :=
 I.laid (fun _ _ q=>Heap.get?_push_of_some _ q) (Nat.le_refl _) ⟨hz,its,0,hv,Heap.get?_push_size _ rfl⟩
theorem Inv.fresh (I:Inv X pins σ H s):H s.heap.objs.size=none:=I.hok.fresh (Nat.le_refl _)
theorem Inv.lstM (I:Inv X pins σ H s) (hH:H l=some (.lst xs)):xs.length<=sizeLine/\∃(its:List Value) (n:Nat),Vals xs its/\xs.length=its.length/\s.heap.get? l=some { cls:=.type "list",data:=.seq its.toArray n }:=by
 obtain ⟨z,its,n,r,e⟩:=I.hok l _ hH;exact ⟨z,its,n,r,r.length,e⟩
theorem Oo {n:Nat} (h:n<=sizeLine):Builtin.List.listTooLong n=false:=by
 unfold Builtin.List.listTooLong;exact decide_eq_false (by omega)
end
section
variable {X:Cx}
noncomputable def Fe:R2:=fun x y H Q=>∃l k xs,x=.ref l/\y=.int k/\H l=some (.lst xs)/\-(2 ^ 63)<=k/\k < 2 ^ 63/\xs.length * k.toNat<=sizeLine /\
 ∀p,H p=none->Q (.ref p) (upd H p (.lst (List.replicate k.toNat xs).flatten))
theorem len_rep {α:Type} (xs:List α) (k:Nat):(List.replicate k xs).flatten.length=k * xs.length:=by
 induction k with
 | zero=>simp
 | succ k ih=>rw [replicate_succ,flatten_cons,length_append,ih,Nat.succ_mul,Nat.add_comm]
theorem Oq:OpR X (binaryOp .Mult) Fe:=by
 intro pins s σ H x y v u Q I rx ry h;obtain ⟨l,k,xs,rfl,rfl,hH,h1,h2,hz,q⟩:=h
 cases rx
 obtain ⟨t,rfl⟩:=ry;obtain ⟨z,its,n,r,hl,e⟩:=I.lstM hH;have hlen:its.toArray.size * k.toNat<=sizeLine:=by rw [size_toArray,<- hl]; exact hz
 have hcap:¬its.toArray.size * k.toNat > (2 ^ 63 - 1) / 8:=by
  have:(sizeLine:Nat)<=(2 ^ 63 - 1) / 8:=by decide
  omega
 have hfit:¬(!Builtin.List.listFitsIndex k)=true:=by
  rw [fitsIndex_both h1 h2];exact Bool.false_ne_true
 have hlong:¬Builtin.List.listTooLong (its.toArray.size * k.toNat)=true:=by
  rw [Oo hlen];exact Bool.false_ne_true
 have hnew:List.foldl (fun x1 x2=>x1 ++ x2) #[] (List.replicate (if its.toArray.isEmpty=true then 0 else k.toNat) its.toArray)=(List.replicate k.toNat its).flatten.toArray:=by
  have f0:∀m:Nat,List.foldl (fun x1 x2=>x1 ++ x2) #[] (List.replicate m its.toArray)=(List.replicate m its).flatten.toArray:=fun m=>by
   have:=foldl_rep its m [];rw [nil_append] at this;exact this
  rw [f0]
  cases its with
  | nil=>simp
  | cons a r'=>rw [if_neg (by simp)]
 refine wpAny_binaryOp_repeat_ref (T:="list") (U:="int") (by decide) ⟨_,e,rfl⟩ (fun s'=>typeIs_int s' k t) noFill_list_mul F.fills_int_mul F.slot_int_rmul repeat_list F.slot_int_index.lookup
  (call_meets F.slot_int_rmul (typeIs_int s k t) F.entry_int_rmul (F.args_int_rmul_2 _ _) (int___rmul___int_list k t l its.toArray n)
   ⟨e,rfl,⟨_,e,rfl⟩,call_meets F.slot_list_mul ⟨_,e,rfl⟩ F.entry_list_mul (F.args_list_mul_2 _ _) (AutoListH.list___mul___list_int_3 l its.toArray n k t hfit hcap hlong) ⟨e,?_⟩⟩)
 rw [hnew];exact ⟨.ref _,_,I.lnew (t':=s.toks) (r.rep k.toNat) (by rw [len_rep,Nat.mul_comm]; exact hz),rfl,q _ I.fresh⟩
end
section
variable {prog:Program} {w:World} {A:Around} {E:Value->Shared->Prop} {s:Shared}
end
section
variable {X:Cx}
end
end L2
namespace Att
open PySem PySem.W PySem.Calls PyProof.Rows
theorem dA' {P:Params} {h:Heap}:∀(ns:List Int) (vs:List Value),WellAll P h vs (ns.map WData.int)->IntsAre vs ns:=by
 intro ns
 induction ns with
 | nil =>
  intro vs w;rw [map_nil] at w
  cases w
  exact .nil
 | cons n ns ih =>
  intro vs w;rw [map_cons] at w
  cases w with
  | cons a b =>
   cases a
   exact .cons _ _ (ih _ b)
theorem Ot {l:OpenLaw} {n:Nat} (hn:l.most=some n) {P:Params} {h:Heap} {args:List WData} {vals:List Value}
  (hpre:l.row.toRowW.claim.pre args=true) (hwl:WellAll P h vals args) :
  ∃a vs ns,vals=[Value.ref a]/\args=[WData.list (ns.map WData.int)]/\h.get? a=some { cls:=.type "list",data:=.seq vs.toArray }/\IntsAre vs ns/\ns.length<=n:=by
 have hsh:WShape.hasAll [] args [.list .int]=true:=(pre_splitW hpre).1;have hc:l.pre.holds [] { args:=args }=true:=(pre_splitW hpre).2;obtain ⟨d,r,rfl,h1,h2⟩:=hasAllW_cons hsh;obtain rfl:=hasAllW_nil h2;obtain ⟨xs,rfl,h3⟩:=hasW_list h1;obtain ⟨ns,rfl⟩:=items_int h3;have hlen:ns.length<=n:=by
  unfold OpenLaw.pre at hc;have h4:(WTm.not (.lt (.lit (.int (n:Int))) (.len (.arg 0)))).holds [] { args:=[.list (ns.map .int)] }=true:=by
   have h4:=(holds_andW hc).1;rw [hn] at h4;exact h4
  have h5:=condW_of h4 (w_not (w_lt w_lit (w_len_list (w_arg rfl))));rw [length_map] at h5;refine Nat.le_of_not_lt fun q=>?_;have q':(n:Int) < ((ns.length:Nat):Int):=by omega
  first
   | (rw [decide_eq_true q'] at h5; exact absurd h5 (by decide))
   | (simp at h5; omega)
 cases hwl with
 | cons w1 w2 =>
  cases w2
  cases w1 with
  | list ho hall=>exact ⟨_,_,ns,rfl,rfl,ho,dA' ns _ hall,hlen⟩
theorem Ou (l:OpenLaw) (args:List WData):l.row.toRowW.claim.post args (.bool true) args=true :=
 postW_of (r:=l.row.toRowW) (X:=(true == true))
  (show WShape.has [] (.bool true) .bool=true by first | rfl | decide | simp [WShape.has,WShape.arms,WShape.armsAll])
  (show (WTm.eq .res (.lit (.bool true))).value [] { args:=args,res:=some (.bool true),after:=args }=some (.bool (true == true)) from w_eq_bool (w_res rfl) w_lit) rfl
theorem attach_call {l:OpenLaw} {n:Nat} {q:Program} {loose:List Str} {XP:(Str->Option Value)->Heap->Prop} {YP:World->Heap->Prop} {d:DefRec}
  (hn:l.most=some n) (hdf:d.params.defaults=[])
  (call:∀(w:World) (s₀ s₁:Shared) (mg mb:Str->Option Value) (fa:Addr) (o:Obj) (pm cd doc:Value) (a:Addr) (vs:List Value) (ns:List Int),
   Ground q loose [] XP w s₀ mg mb s₁.heap->YP w s₁.heap ->
   s₁.heap.get? fa=some o->o.data=.func (docDef d.name d.params d.body d.scope pm cd doc)->s₁.heap.CodeRec cd d.name->mg d.name=some (.ref fa) ->
   s₁.heap.get? a=some { cls:=.type "list",data:=.seq vs.toArray }->IntsAre vs ns->ns.length<=n->s₁.gens = #[] ->
   codeAny (model l.prog w) callerA (.call (.ref fa) ⟨[.ref a],[]⟩) (fun r s'=>r=.ok (.ret (.bool true))/\OldK s₁.heap s'.heap/\s'.os=s₁.os/\AllBare s'.gens) s₁) :
  WalkO q loose XP YP l.row.toRowW d [] (fun f vs=>PySem.call f vs):=by
 intro w s₀ s₁ mg mb G Y fa o pm cd doc dV kV ho hd hcd hD hmg hg args vals as hpre hlay hrd hwl hlo;obtain rfl:dV=.none:=Dflts.none hD hdf;obtain rfl:kV=.none:=Dflts.noKw hD;obtain ⟨a,vs,ns,rfl,rfl,hobj,hints,hlen⟩:=Ot hn hpre hwl;refine enter_call (codeAny_mono (call w s₀ s₁ mg mb fa o pm cd doc a vs ns G Y ho (fd_plain hd) hcd hmg hobj hints hlen hg) fun r s' hq=>?_);obtain ⟨rfl,h2,h3,h4⟩:=hq;exact ⟨.inl ⟨.bool true,.bool true,[],rfl,fun _=>rfl,.bool true,Ou l _,fun _=>⟨List.Pairwise.nil,fun _ hm=>(nomatch hm)⟩⟩,h2,h3,h4⟩
section
variable {prog:Program} {w:World} {A:Around} {E:Value->Shared->Prop} {s:Shared} {K:Frag}
end
end Att
namespace L2
open PySem PySem.Spec PyProof.Rows
theorem Jc:∀{vs:List Value} {ns:List Int},IntsAre vs ns->Vals (ns.map V.int) vs
 | _,_,.nil=>.nil
 | _,_,.cons n t h=>.cons ⟨t,rfl⟩ (Jc h)
noncomputable def Only (H:Hp):Prop:=∀b,H b=none\/∃o xs,H b=some (.frz o (.lst xs))
theorem Ov {P:Program} {w:World} {K:Frag} {mg mb:Str->Option Value} {CX:pK} {k:Nat} {fa a:Addr} {fd:FuncData} {x:Str} {sp:Sp} {s₁:Shared} {vs:List Value} {ns:List Int}
  (KX:K.In s₁.heap) (hns:s₁.heap.Ns mainGlobals mg) (hb:s₁.heap.Ns builtinsNs mb) (hbb:∀x:Str,x≠"__name__"->mb x=bootBuiltins x) (hlim:s₁.heap.NoLimit) (hg:s₁.gens = #[])
  (ha:s₁.heap.get? a=some { cls:=.type "list",data:=.seq vs.toArray }) (hi:IntsAre vs ns) (hl:ns.length<=sizeLine) (hr:Room k callerA)
  (F:∀base:Heap,K.In base->base.Ns mainGlobals mg->FnOk P w K mg base CX k fa fd [x] sp) (hbind:∀(s:Shared) (u:Value),BindsTo s fd ⟨[u],[]⟩ [(x,u)])
  (hsp:∀H:Hp,Only H->SqL K H a (ns.map V.int)->sp [.ref a] H (fun v _=>v=.bl true) fun _ _ _=>False)
  (hCX:∀H e s',CX [] H s₁ (fun _ _ _=>False) e s'->False) :
  codeAny (model P w) callerA (.call (.ref fa) ⟨[.ref a],[]⟩) (fun r s'=>r=.ok (.ret (.bool true))/\OldK s₁.heap s'.heap/\s'.os=s₁.os/\AllBare s'.gens) s₁:=by
 have rv:=Jc hi;have lenV:=hi.length;have core:∀H:Hp,Only H->SqL K H a (ns.map V.int)->HOk P w H s₁.heap->(∀b,H b≠none->b=a)->(H a≠none->K.lookup a=none) ->
   codeAny (model P w) callerA (.call (.ref fa) ⟨[.ref a],[]⟩) (fun r s'=>r=.ok (.ret (.bool true))/\OldK s₁.heap s'.heap/\s'.os=s₁.os/\AllBare s'.gens) s₁:=by
  intro H hO hS hok hA hK;have base_of:∀{b:Addr} {o:Obj},s₁.heap.get? b=some o->H b=none->(j9 s₁.heap H).get? b=some o:=fun e n=>M7 e n;have noA:∀{b:Addr} {o:Obj} {es:Array DictEntry} {ep:Nat},s₁.heap.get? b=some o->o.data=.dict es ep->H b=none:=fun {b o es ep} e d=>by
   cases q:H b with
   | none=>rfl
   | some u =>
    have e':b=a:=hA b (by rw [q]; simp);subst e';rw [ha] at e; cases e;have d':Data.seq vs.toArray _=Data.dict es ep:=d
    cases d'
  have nsK:∀{b:Addr} {m:Str->Option Value},s₁.heap.Ns b m->(j9 s₁.heap H).Ns b m:=fun {b m} ⟨o,es,ep,e,d,r⟩=>⟨o,es,ep,base_of e (noA e d),d,r⟩;have hKb:K.In (j9 s₁.heap H):=fun b o e=>base_of (KX b o e) (by
   cases q:H b with
   | none=>rfl
   | some u =>
    have e':b=a:=hA b (by rw [q]; simp);subst e';rw [hK (by rw [q]; simp)] at e; cases e)
  have hM:Mod K mg (j9 s₁.heap H):=⟨hKb,nsK hns,⟨mb,nsK hb,hbb⟩,let ⟨mc,h1,h2⟩:=hlim; ⟨mc,nsK h1,h2⟩⟩;have e0:Env0 P w K mg (j9 s₁.heap H) callerA [] s₁ H:=⟨rfl,hM,fun b o e=>M8 e,Nat.le_of_eq (hN' _ _),trivial,fun b hb=>absurd (show b∈([]:List Addr) from hb) (by simp),hok,.of_eq hg⟩
  refine codeAny_mono ((F _ hKb (nsK hns)).run callerA [] s₁ H ⟨[.ref a],[]⟩ [.ref a] [.ref a] _ _ hr e0 (hbind s₁ (.ref a)) (.cons rfl .nil) (hsp H hO hS)) fun r s' h=>?_
  cases r with
  | error e=>exact (hCX H e s' h).elim
  | ok fl =>
   cases fl with
   | next=>exact False.elim h
   | brk=>exact False.elim h
   | cont=>exact False.elim h
   | ret u =>
    obtain ⟨v,H',os,bare,un,hok',r',q⟩:=h;have q':v=.bl true:=q;subst q';obtain rfl:u=Value.bool true:=r';refine ⟨rfl,OldK.of_keep fun b o e=>?_,os,bare⟩
    cases q:H b with
    | none=>exact un.keep b o e q (by intro z; exact absurd (show b∈([]:List Addr) from z) (by simp)) (by simp)
    | some u =>
     rcases hO b with z | ⟨ob,xs,z⟩
     ·rw [q] at z; cases z
     ·have z2:=un.frzs b ob _ z;obtain ⟨e1,_⟩:=hok b _ z;obtain ⟨e2,_⟩:=hok' b _ z2;rw [e] at e1; cases e1;exact e2
 cases hk:K.lookup a with
 | some o =>
  have e:=KX a o hk;rw [ha] at e
  cases e
  refine core (fun _=>none) (fun _=>.inl rfl) (.inr ⟨_,vs.toArray,_,hk,rfl,rfl,rfl,by rw [size_toArray,lenV]; exact hl,by simpa using rv⟩) (fun b u z=>by have z':(none:Option HO)=some u:=z; cases z') (fun b z=>absurd rfl z) fun z=>absurd rfl z
 | none =>
  refine core (fun b=>if b=a then some (.frz { cls:=.type "list",data:=.seq vs.toArray } (.lst (ns.map V.int))) else none) (fun b=>?_) (.inl (.inr ⟨{ cls:=.type "list",data:=.seq vs.toArray },if_pos rfl⟩)) (fun b u z=>?_) (fun b z=>?_) fun _=>hk
  ·by_cases hb:b=a
   ·exact .inr ⟨_,_,if_pos hb⟩
   ·exact .inl (if_neg hb)
  ·by_cases hb:b=a
   ·have z':=(if_pos hb).symm.trans z
    cases z'
    subst hb;exact ⟨ha,by rw [length_map]; exact hl,vs,_,rv,ha⟩
   ·have z':=(if_neg hb).symm.trans z
    cases z'
  ·by_cases hb:b=a
   ·exact hb
   ·exact absurd (if_neg hb) z
abbrev KOf {K:Frag} {h:Heap} (_:K.In h):Frag:=K
theorem walk_of {l:OpenLaw} {n k:Nat} {q:Program} {loose:List Str} {XP:(Str->Option Value)->Heap->Prop} {YP:World->Heap->Prop} {d:DefRec} {K:Params->Frag} {CX:World->pK} {sp:World->Sp} {x:Str}
  (hn:l.most=some n) (hn2:n<=sizeLine) (hdf:d.params.defaults=[]) (hr:Room k callerA)
  (hY:∀(w:World) (h:Heap),YP w h->(K w.params).In h)
  (F:∀(w:World) (mg:Str->Option Value) (fa:Addr) (h:Heap),(K w.params).In h->h.Ns mainGlobals mg->mg d.name=some (.ref fa) ->
   ∃fd:FuncData,(∀(s:Shared) (u:Value),BindsTo s fd ⟨[u],[]⟩ [(x,u)]) /\
    ∀base:Heap,(K w.params).In base->base.Ns mainGlobals mg->FnOk l.prog w (K w.params) mg base (CX w) k fa fd [x] (sp w))
  (hsp:∀(w:World) (H:Hp) (a:Addr) (ns:List Int),ns.length<=n->Only H->SqL (K w.params) H a (ns.map V.int)->sp w [.ref a] H (fun v _=>v=.bl true) fun _ _ _=>False)
  (hCX:∀(w:World) (H:Hp) (s:Shared) (e:Value) (s':Shared),CX w [] H s (fun _ _ _=>False) e s'->False) :
  WalkO q loose XP YP l.row.toRowW d [] (fun f vs=>PySem.call f vs):=by
 refine Att.attach_call hn hdf fun w s₀ s₁ mg mb fa o pm cd doc a vs ns G Y ho hd hcd hmg hobj hints hlen hg=>?_;have KX:=hY w _ Y;obtain ⟨fd,hb,hF⟩:=F w mg fa _ KX G.T.g hmg;exact Ov KX G.T.g G.T.b G.T.builtins G.T.nolimit hg hobj hints (Nat.le_trans hlen hn2) hr hF hb (fun H hO hS=>hsp w H a ns hlen hO hS) fun H e s'=>hCX w H s₁ e s'
noncomputable def cG (s:Stmt):Arguments:=match s with
 | .FunctionDef _ a _ _ _ _ _ _ _ _=>a
 | _=>{ posonlyargs:=[],args:=[],vararg:=none,kwonlyargs:=[],kw_defaults:=[],kwarg:=none,defaults:=[] }
noncomputable def bV (s:Stmt):List Stmt:=match s with
 | .FunctionDef _ _ b _ _ _ _ _ _ _=>b
 | _=>[]
noncomputable def az (s:Stmt):Scope:=match s with
 | .FunctionDef _ _ _ _ _ _ sc _ _ _=>sc
 | _=>{ kind:=.function,names:=[],isGenerator:=false,isCoroutine:=false }
abbrev Jd:pK:=fun _ _ _ _ _ _=>False
abbrev E0:XK:=fun _ _ _=>False
structure Fun (K:Frag) (x qual:Str) (st:Stmt) (f:Addr) (fd:FuncData):Prop where
 ex:∃(oc:Value) (od:Option Addr) (kV doc pm:Value) (an:Option Addr) (cdv ct:Value) (osl:Array (Option Value)),
  fd=fnOf x qual (cG st) (bV st) (az st) .none kV doc pm an cdv ct/\K.lookup f=some ⟨oc,od,.func fd,osl⟩/\codeIn K cdv qual=true
 kp:keepIn K (.ref f)=true
section
variable {P:Program} {w:World} {K:Frag} {mg:Str->Option Value} {base:Heap}
theorem Fun.ok {x qual:Str} {st:Stmt} {f:Addr} {fd:FuncData} {N ps:List Str} {k:Nat} {sp:Sp} (F:Fun K x qual st f fd) (S:FnScope N ps (az st)) (len:∀vs H Q E,sp vs H Q E->vs.length=ps.length)
  (hbody:∀(cdv:Value) (A:Around) (outer:List Env) (s:Shared) (H:Hp) (vs:List V) (Q:VK) (E:XK),Room k (A.deeper (envOfC qual (az st) s.heap.objs.size f cdv))->sp vs H Q E ->
   ∃t,PSs (jf Jd P w K mg base N qual (az st) f cdv A outer s H E).nox (bV st) t/\t { nx:=fun _ H'=>Q .non H',rt:=Q } (start N vs) H):FnOk P w K mg base Jd (k + 1) f fd ps sp:=by
 obtain ⟨oc,od,kV,doc,pm,an,cdv,ct,osl,rfl,lk,hcd⟩:=F.ex;refine IK lk hcd S len fun A outer s H vs Q E hr hsp=>?_;obtain ⟨t,h,q⟩:=hbody cdv A outer s H vs Q E hr hsp;exact ⟨t,h.nox,q⟩
theorem Fun.binds {x qual:Str} {st:Stmt} {f:Addr} {fd:FuncData} {ps:List Str} (F:Fun K x qual st f fd)
  (h:∀(kV doc pm:Value) (an:Option Addr) (cdv ct:Value) (us:List Value),us.length=ps.length->bindArgs (fnOf x qual (cG st) (bV st) (az st) .none kV doc pm an cdv ct) ⟨us,[]⟩=pure (ps.zip us)):Binds K fd ps []:=by
 obtain ⟨oc,od,kV,doc,pm,an,cdv,ct,osl,rfl,lk,hcd⟩:=F.ex;exact .all (h kV doc pm an cdv ct)
theorem Je {x qual:Str} {st:Stmt} {f:Addr} {oc:Value} {od an:Option Addr} {osl:Array (Option Value)} {kV doc pm cdv ct:Value} (l:K.lookup f=some ⟨oc,od,.func (fnOf x qual (cG st) (bV st) (az st) .none kV doc pm an cdv ct),osl⟩)
  (c:codeIn K cdv qual=true) (k:keepIn K (.ref f)=true):Fun K x qual st f (fnOf x qual (cG st) (bV st) (az st) .none kV doc pm an cdv ct):=⟨⟨oc,od,kV,doc,pm,an,cdv,ct,osl,rfl,l,c⟩,k⟩
end
section
variable {X:Cx}
end
noncomputable def Same (H H':Hp):Prop:=∀b o,H b=some o->H' b=some o
theorem Same.refl (H:Hp):Same H H:=fun _ _ h=>h
theorem Same.trans {H H1 H2:Hp} (a:Same H H1) (b:Same H1 H2):Same H H2:=fun c o h=>b c o (a c o h)
theorem Same.free {H H':Hp} (e:Same H H') {l:Addr} (h:H' l=Option.none):H l=Option.none:=by
 cases q:H l with
 | none=>rfl
 | some o =>
  rw [e l o q] at h
  cases h
theorem Same.seq {K:Frag} {H H':Hp} {a:Addr} {xs:List V} (e:Same H H') (h:SqL K H a xs):SqL K H' a xs:=by
 rcases h with (h | ⟨o,h⟩) | h
 ·exact .inl (.inl (e _ _ h))
 ·exact .inl (.inr ⟨o,e _ _ h⟩)
 ·exact .inr h
end L2
namespace DL
open PySem PySem.Spec PyProof.Rows L2
abbrev St:=L2.St
inductive D where
 | non
 | bl (b:Bool)
 | int (i:Int)
 | str (x:Str)
 | tup (ds:List D)
 | lst (ds:List D)
 | exc (c:Str)
 | excf (c f:Str) (d:D)
 | dct
structure Exn where
 cls:Str
 pay:Option (Str×D):=none
inductive Res (α:Type) where
 | stuck
 | ok (a:α)
 | err (x:Exn)
noncomputable def Res.bind {α β:Type} (r:Res α) (f:α->Res β):Res β:=match r with
 | .stuck=>.stuck
 | .ok a=>f a
 | .err x=>.err x
@[simp] theorem Res.bind_ok {α β:Type} (a:α) (f:α->Res β):(Res.ok a).bind f=f a:=rfl
@[simp] theorem Res.bind_stuck {α β:Type} (f:α->Res β):(Res.stuck).bind f=.stuck:=rfl
@[simp] theorem Res.bind_err {α β:Type} (x:Exn) (f:α->Res β):(Res.err x).bind f=.err x:=rfl
noncomputable def excAt (a C:Addr) (dd:Option Addr) (h:Heap):Prop:=∃o vs,h.get? a=some o/\o.cls=.ref C/\o.dict=dd/\o.data=.fields vs
section
variable (K:Frag)
mutual
noncomputable def Rep (H:Hp):D->V->Prop
 | .non,v=>v=.non
 | .bl b,v=>v=.bl b
 | .int i,v=>v=.int i
 | .str x,v=>v=.str x
 | .tup ds,v=>∃a xs,v=.ref a/\SqT K H a xs/\Reps H ds xs
 | .lst ds,v=>∃a xs,v=.ref a/\SqL K H a xs/\Reps H ds xs
 | .exc c,v=>∃a C,v=.ref a/\nsIn K mainGlobals c=some (some (.ref C))/\H a=some (.ext (excAt a C none))
 | .excf c f d,v=>∃a C dx u,v=.ref a/\nsIn K mainGlobals c=some (some (.ref C))/\H a=some (.ext (excAt a C (some dx)))/\H dx=some (.xd [(f,u)])/\Rep H d u
 | .dct,v=>∃a,v=.ref a/\H a=some (.ext (KitAt a "dict"))
noncomputable def Reps (H:Hp):List D->List V->Prop
 | [],xs=>xs=[]
 | d :: ds,xs=>∃v vs,xs=v :: vs/\Rep H d v/\Reps H ds vs
end
end
theorem Dj {K:Frag} {H H':Hp} {a:Addr} {xs:List V} (e:Same H H') (h:SqT K H a xs):SqT K H' a xs:=by
 rcases h with (h | ⟨o,h⟩) | h
 ·exact .inl (.inl (e _ _ h))
 ·exact .inl (.inr ⟨o,e _ _ h⟩)
 ·exact .inr h
mutual
theorem Rep.mono {K:Frag} {H H':Hp} (e:Same H H'):∀{d:D} {v:V},Rep K H d v->Rep K H' d v
 | .non,_,h=>by rw [Rep] at h ⊢; exact h
 | .bl _,_,h=>by rw [Rep] at h ⊢; exact h
 | .int _,_,h=>by rw [Rep] at h ⊢; exact h
 | .str _,_,h=>by rw [Rep] at h ⊢; exact h
 | .tup ds,_,h=>by
  rw [Rep] at h ⊢;obtain ⟨a,xs,e1,e2,e3⟩:=h;exact ⟨a,xs,e1,Dj e e2,Reps.mono e e3⟩
 | .lst ds,_,h=>by
  rw [Rep] at h ⊢;obtain ⟨a,xs,e1,e2,e3⟩:=h;exact ⟨a,xs,e1,e.seq e2,Reps.mono e e3⟩
 | .exc _,_,h=>by
  rw [Rep] at h ⊢;obtain ⟨a,C,e1,e2,e3⟩:=h;exact ⟨a,C,e1,e2,e _ _ e3⟩
 | .excf _ _ d,_,h=>by
  rw [Rep] at h ⊢;obtain ⟨a,C,dx,u,e1,e2,e3,e4,e5⟩:=h;exact ⟨a,C,dx,u,e1,e2,e _ _ e3,e _ _ e4,Rep.mono e e5⟩
 | .dct,_,h=>by
  rw [Rep] at h ⊢;obtain ⟨a,e1,e2⟩:=h;exact ⟨a,e1,e _ _ e2⟩
theorem Reps.mono {K:Frag} {H H':Hp} (e:Same H H'):∀{ds:List D} {vs:List V},Reps K H ds vs->Reps K H' ds vs
 | [],_,h=>by rw [Reps] at h ⊢; exact h
 | d :: ds,_,h=>by
  rw [Reps] at h ⊢;obtain ⟨v,vs,e1,e2,e3⟩:=h;exact ⟨v,vs,e1,Rep.mono e e2,Reps.mono e e3⟩
end
theorem Reps.nil {K:Frag} {H:Hp}:Reps K H [] []:=by rw [Reps]
theorem Reps.cons {K:Frag} {H:Hp} {d:D} {v:V} {ds:List D} {vs:List V} (h:Rep K H d v) (t:Reps K H ds vs):Reps K H (d :: ds) (v :: vs):=by
 rw [Reps]; exact ⟨v,vs,rfl,h,t⟩
theorem Reps.nil_of {K:Frag} {H:Hp} {xs:List V} (h:Reps K H [] xs):xs=[]:=by rw [Reps] at h; exact h
theorem Reps.cons_of {K:Frag} {H:Hp} {d:D} {ds:List D} {xs:List V} (h:Reps K H (d :: ds) xs):∃v vs,xs=v :: vs/\Rep K H d v/\Reps K H ds vs:=by rw [Reps] at h; exact h
theorem Reps.length {K:Frag} {H:Hp}:∀{ds:List D} {vs:List V},Reps K H ds vs->vs.length=ds.length
 | [],_,h=>by rw [h.nil_of]; rfl
 | d :: ds,_,h=>by
  obtain ⟨v,vs,rfl,_,t⟩:=h.cons_of;simp [Reps.length t]
theorem Reps.isEmpty {K:Frag} {H:Hp} {ds:List D} {vs:List V} (h:Reps K H ds vs):vs.isEmpty=ds.isEmpty:=by
 cases ds with
 | nil=>rw [h.nil_of]; rfl
 | cons d ds=>obtain ⟨v,vs,rfl,_,_⟩:=h.cons_of; rfl
theorem Reps.get {K:Frag} {H:Hp}:∀{ds:List D} {vs:List V} {i:Nat} {d:D},Reps K H ds vs->ds[i]? = some d->∃v,vs[i]? = some v/\Rep K H d v
 | [],_,i,d,h,e=>by simp at e
 | d' :: ds,_,0,d,h,e=>by
  obtain ⟨v,vs,rfl,r,t⟩:=h.cons_of;simp at e; subst e;exact ⟨v,by simp,r⟩
 | d' :: ds,_,i + 1,d,h,e=>by
  obtain ⟨v,vs,rfl,r,t⟩:=h.cons_of;simp at e;obtain ⟨u,e1,e2⟩:=Reps.get t e;exact ⟨u,by simpa using e1,e2⟩
theorem Reps.get' {K:Frag} {H:Hp}:∀{ds:List D} {vs:List V} {i:Nat} {v:V},Reps K H ds vs->vs[i]? = some v->∃d,ds[i]? = some d/\Rep K H d v
 | [],_,i,v,h,e=>by rw [h.nil_of] at e; simp at e
 | d' :: ds,_,0,v,h,e=>by
  obtain ⟨v',vs,rfl,r,t⟩:=h.cons_of;simp at e; subst e;exact ⟨d',by simp,r⟩
 | d' :: ds,_,i + 1,v,h,e=>by
  obtain ⟨v',vs,rfl,r,t⟩:=h.cons_of;simp at e;obtain ⟨u,e1,e2⟩:=Reps.get' t e;exact ⟨u,by simpa using e1,e2⟩
theorem Reps.append {K:Frag} {H:Hp}:∀{ds es:List D} {vs ws:List V},Reps K H ds vs->Reps K H es ws->Reps K H (ds ++ es) (vs ++ ws)
 | [],_,_,_,h,t=>by rw [h.nil_of]; exact t
 | d :: ds,_,_,_,h,t=>by
  obtain ⟨v,vs,rfl,r,q⟩:=h.cons_of;exact Reps.cons r (Reps.append q t)
theorem Reps.take {K:Frag} {H:Hp}:∀(n:Nat) {ds:List D} {vs:List V},Reps K H ds vs->Reps K H (ds.take n) (vs.take n)
 | 0,_,_,_=>by simpa using Reps.nil
 | n + 1,[],_,h=>by rw [h.nil_of]; simpa using Reps.nil
 | n + 1,d :: ds,_,h=>by
  obtain ⟨v,vs,rfl,r,q⟩:=h.cons_of;simpa using Reps.cons r (Reps.take n q)
theorem Reps.drop {K:Frag} {H:Hp}:∀(n:Nat) {ds:List D} {vs:List V},Reps K H ds vs->Reps K H (ds.drop n) (vs.drop n)
 | 0,_,_,h=>by simpa using h
 | n + 1,[],_,h=>by rw [h.nil_of]; simpa using Reps.nil
 | n + 1,d :: ds,_,h=>by
  obtain ⟨v,vs,rfl,r,q⟩:=h.cons_of;simpa using Reps.drop n q
inductive SV where
 | val (d:D)
 | arg (d:D)
 | own (ds:List D)
abbrev DS:=List (Option SV)
noncomputable def SV.view:SV->D
 | .val d=>d
 | .arg d=>d
 | .own ds=>.lst ds
noncomputable def zc (K:Frag) (G H:Hp):SV->V->Prop
 | .val d,v=>Rep K H d v
 | .arg d,v=>Rep K G d v
 | .own ds,v=>∃a xs,v=.ref a/\H a=some (.lst xs)/\Reps K H ds xs/\G a=none
structure RepSt (K:Frag) (G H:Hp) (σ:St) (δ:DS):Prop where
 same:Same G H
 len:σ.length=δ.length
 at_:∀(i:Nat) (sv:SV),δ[i]? = some (some sv)->∃v,σ[i]? = some (some v)/\zc K G H sv v
 sep:∀(i j:Nat) (ds es:List D) (v:V),i≠j->δ[i]? = some (some (.own ds))->δ[j]? = some (some (.own es))->σ[i]? = some (some v)->σ[j]?≠some (some v)
structure TK (H H':Hp):Prop where
 tup:∀b xs,H b=some (.tup xs)->H' b=some (.tup xs)
 frz:∀b o u,H b=some (.frz o u)->H' b=some (.frz o u)
 trk:∀b,H' b=none->H b=none
theorem _root_.L2.Same.tk {H H':Hp} (e:Same H H'):TK H H':=⟨fun b xs h=>e b _ h,fun b o u h=>e b _ h,fun b h=>e.free h⟩
theorem TK.refl (H:Hp):TK H H:=⟨fun _ _ h=>h,fun _ _ _ h=>h,fun _ h=>h⟩
theorem TK.trans {H H1 H2:Hp} (a:TK H H1) (b:TK H1 H2):TK H H2:=⟨fun c xs h=>b.tup c xs (a.tup c xs h),fun c o u h=>b.frz c o u (a.frz c o u h),fun c h=>a.trk c (b.trk c h)⟩
theorem RepSt.mono {K:Frag} {G H H':Hp} {σ:St} {δ:DS} (R:RepSt K G H σ δ) (e:Same H H'):RepSt K G H' σ δ where
 same:=R.same.trans e
 len:=R.len
 at_:=fun i sv h=>by
  obtain ⟨v,e1,e2⟩:=R.at_ i sv h;refine ⟨v,e1,?_⟩
  cases sv with
  | val d=>exact Rep.mono e e2
  | arg d=>exact e2
  | own ds =>
   obtain ⟨a,xs,q1,q2,q3,q4⟩:=e2;exact ⟨a,xs,q1,e _ _ q2,q3.mono e,q4⟩
 sep:=R.sep
theorem RepSt.view {K:Frag} {G H:Hp} {σ:St} {δ:DS} (R:RepSt K G H σ δ) {i:Nat} {sv:SV} (h:δ[i]? = some (some sv)):∃v,σ[i]? = some (some v)/\Rep K H sv.view v:=by
 obtain ⟨v,e1,e2⟩:=R.at_ i sv h;refine ⟨v,e1,?_⟩
 cases sv with
 | val d=>exact e2
 | arg d=>exact Rep.mono R.same e2
 | own ds =>
  obtain ⟨a,xs,rfl,q2,q3,q4⟩:=e2;show Rep K H (.lst ds) _;rw [Rep];exact ⟨a,xs,rfl,SqL.of q2,q3⟩
theorem RepSt.set {K:Frag} {G H:Hp} {σ:St} {δ:DS} (R:RepSt K G H σ δ) (i:Nat) {d:D} {v:V} (h:Rep K H d v):RepSt K G H (σ.set i (some v)) (δ.set i (some (.val d))) where
 same:=R.same
 len:=by simpa using R.len
 at_:=fun j sv e=>by
  by_cases hj:i=j
  ·subst hj;have hl:i < δ.length:=by
    rw [List.getElem?_set] at e
    by_cases q:i < δ.length
    ·exact q
    ·simp [q] at e
   rw [List.getElem?_set_self hl] at e
   cases e
   exact ⟨v,by rw [List.getElem?_set_self (by rw [R.len]; exact hl)],h⟩
  ·rw [List.getElem?_set_ne hj] at e;obtain ⟨u,e1,e2⟩:=R.at_ j sv e;exact ⟨u,by rw [List.getElem?_set_ne hj]; exact e1,e2⟩
 sep:=fun j k ds es u hjk e1 e2 e3=>by
  have n1:i≠j:=by
   rintro rfl
   rw [List.getElem?_set] at e1
   split at e1
   ·split at e1 <;> cases e1
   ·omega
  have n2:i≠k:=by
   rintro rfl
   rw [List.getElem?_set] at e2
   split at e2
   ·split at e2 <;> cases e2
   ·omega
  rw [List.getElem?_set_ne n1] at e1 e3;rw [List.getElem?_set_ne n2] at e2;rw [List.getElem?_set_ne n2];exact R.sep j k ds es u hjk e1 e2 e3
theorem RepSt.setOwn {K:Frag} {G H H':Hp} {σ:St} {δ:DS} (R:RepSt K G H σ δ) (e:Same H H') (i:Nat) {ds:List D} {a:Addr} {xs:List V} (hn:H a=none) (h:H' a=some (.lst xs)) (r:Reps K H' ds xs) :
  RepSt K G H' (σ.set i (some (.ref a))) (δ.set i (some (.own ds))) where
 same:=R.same.trans e
 len:=by simpa using R.len
 at_:=fun j sv q=>by
  have R':=R.mono e
  by_cases hj:i=j
  ·subst hj;have hl:i < δ.length:=by
    rw [List.getElem?_set] at q
    by_cases z:i < δ.length
    ·exact z
    ·simp [z] at q
   rw [List.getElem?_set_self hl] at q
   cases q
   exact ⟨.ref a,by rw [List.getElem?_set_self (by rw [R.len]; exact hl)],a,xs,rfl,h,r,R.same.free hn⟩
  ·rw [List.getElem?_set_ne hj] at q;obtain ⟨u,e1,e2⟩:=R'.at_ j sv q;exact ⟨u,by rw [List.getElem?_set_ne hj]; exact e1,e2⟩
 sep:=fun j k ds' es u hjk e1 e2 e3=>by
  have old:∀(m:Nat) (fs:List D) (z:V),δ[m]? = some (some (.own fs))->σ[m]? = some (some z)->z≠.ref a:=fun m fs z q1 q2 q3=>by
   obtain ⟨v,w1,b,ys,w2,w3,_⟩:=R.at_ m _ q1;rw [q2] at w1
   cases w1
   rw [q3] at w2
   cases w2
   rw [hn] at w3
   cases w3
  by_cases hj:i=j
  ·subst hj;have nk:i≠k:=hjk;rw [List.getElem?_set_ne nk] at e2;rw [List.getElem?_set_ne nk];intro q;have ev:u=.ref a:=by
    rw [List.getElem?_set] at e3
    split at e3
    ·split at e3
     ·cases e3; rfl
     ·cases e3
    ·omega
   exact old k es u e2 q ev
  ·rw [List.getElem?_set_ne hj] at e1 e3
   by_cases hk:i=k
   ·subst hk;intro q;have ev:u=.ref a:=by
     rw [List.getElem?_set] at q
     split at q
     ·split at q
      ·cases q; rfl
      ·cases q
     ·omega
    exact old j ds' u e1 e3 ev
   ·rw [List.getElem?_set_ne hk] at e2;rw [List.getElem?_set_ne hk];exact R.sep j k ds' es u hjk e1 e2 e3
theorem obj_some {P:Program} {w:World} {H:Hp} {h:Heap} {a:Addr} {o:HO} (x:ObjOk P w H h a o):∃ob,h.get? a=some ob:=by
 cases o with
 | lst xs=>obtain ⟨_,_,_,_,e⟩:=x; exact ⟨_,e⟩
 | tup xs=>obtain ⟨_,_,_,o,e,_⟩:=x; exact ⟨o,e⟩
 | dK kvs=>obtain ⟨_,_,_,_,o,_,_,e,_⟩:=x; exact ⟨o,e⟩
 | dT kvs=>obtain ⟨_,_,_,_,o,_,_,e,_⟩:=x; exact ⟨o,e⟩
 | set S n=>obtain ⟨o,_,_,_,e,_⟩:=x; exact ⟨o,e⟩
 | ins C dx fs=>obtain ⟨_,_,_,e,_⟩:=x; exact ⟨_,e⟩
 | own y=>obtain ⟨o,e⟩:=x; exact ⟨o,e⟩
 | xd fs=>obtain ⟨_,⟨o,_,_,e,_⟩,_⟩:=x; exact ⟨o,e⟩
 | rng lo hi=>obtain ⟨_,_,_,e⟩:=x; exact ⟨_,e⟩
 | frz ob u=>obtain ⟨e,_⟩:=x; exact ⟨_,e⟩
 | tbl ps=>exact ⟨_,show h.get? a=some _ from x⟩
 | met f y=>exact ⟨_,show h.get? a=some _ from x⟩
 | ext φ=>obtain ⟨_,⟨o,e⟩,_⟩:=x; exact ⟨o,e⟩
noncomputable def gm (h:Heap) (e:Addr):Prop:=∀o vs,h.get? e=some o->o.data≠.fields vs
noncomputable def Back (H:Hp) (h h1:Heap):Prop:=∀e,H e=none->gm h1 e->gm h e
theorem Back.refl (H:Hp) (h:Heap):Back H h h:=fun _ _ q=>q
theorem Back.trans {H H1:Hp} {h h1 h2:Heap} (a:Back H h h1) (b:Back H1 h1 h2) (k:∀e,H e=none->gm h2 e->H1 e=none):Back H h h2:=fun e n q=>a e n (b e (k e n q) q)
noncomputable def Fly (h0:Heap) (H:Hp) (h:Heap) (e:Addr) (cls:Value×Option Addr):Prop :=
 gm h0 e/\H e=none/\∃oe vs a0,h.get? e=some oe/\(oe.cls=cls.1/\oe.dict=cls.2)/\oe.data=.fields vs/\vs[0]? = some a0 /\
  (vs[1]? = some .none\/∃T oT ts,vs[1]? = some (.ref T)/\gm h0 T/\H T=none/\T≠e/\h.get? T=some oT/\oT.data=.fields ts/\ts[3]? = some .none)
theorem Fly.back {h0 h1 h:Heap} {H0 H1 H:Hp} {e:Addr} {cls:Value×Option Addr} (f:Fly h1 H h e cls) (e1:TK H0 H1) (e2:TK H1 H) (b:Back H0 h0 h1):Fly h0 H h e cls:=by
 obtain ⟨n,he,oe,vs,a0,q1,q2,q3,q4,q5⟩:=f;refine ⟨b e (e1.trk e (e2.trk e he)) n,he,oe,vs,a0,q1,q2,q3,q4,?_⟩;rcases q5 with q5 | ⟨T,oT,ts,w1,w2,w3,w4⟩
 ·exact .inl q5
 ·exact .inr ⟨T,oT,ts,w1,b T (e1.trk T (e2.trk T w3)) w2,w3,w4⟩
noncomputable def Ff (K:Frag) (H:Hp) (x:Exn) (dd:Option Addr):Prop:=match x.pay with
 | none=>dd=none
 | some (f,d)=>∃dx u,dd=some dx/\H dx=some (.xd [(f,u)])/\Rep K H d u
noncomputable def FlyX (K:Frag) (x:Exn) (h0:Heap) (H:Hp) (h:Heap) (e C:Addr):Prop:=∃dd,Ff K H x dd/\Fly h0 H h e (.ref C,dd)
theorem FlyX.back {K:Frag} {x:Exn} {h0 h1 h:Heap} {H0 H1 H:Hp} {e C:Addr} (f:FlyX K x h1 H h e C) (e1:TK H0 H1) (e2:TK H1 H) (b:Back H0 h0 h1):FlyX K x h0 H h e C:=by
 obtain ⟨dd,p,f⟩:=f;exact ⟨dd,p,f.back e1 e2 b⟩
noncomputable def EPost (X:Cx) (pins:List (Addr×Obj)) (σ:St) (H:Hp) (r:Res D) (u:Value) (s1:Shared):Prop:=∃d v H1,r=.ok d/\Inv X pins σ H1 s1/\RelV v u/\Same H H1/\Rep X.K H1 d v
noncomputable def XPost {α:Type} (X:Cx) (pins:List (Addr×Obj)) (σ:St) (H:Hp) (h0:Heap) (r:Res α) (e:Value) (s1:Shared):Prop :=
 ∃x a C H1,r=.err x/\e=.ref a/\Inv X pins σ H1 s1/\Same H H1/\nsIn X.K mainGlobals x.cls=some (some (.ref C))/\FlyX X.K x h0 H1 s1.heap a C
theorem XPost.back {α β:Type} {X:Cx} {pins:List (Addr×Obj)} {σ:St} {H H1:Hp} {h h1:Heap} {r:Res α} {r':Res β} {e:Value} {s1:Shared} (p:XPost X pins σ H1 h1 r e s1) (e1:Same H H1) (b:Back H h h1) (hr:∀x,r=.err x->r'=.err x):XPost X pins σ H h r' e s1:=by
 obtain ⟨x,a,C,H2,q1,q2,q3,q4,q5,q6⟩:=p;exact ⟨x,a,C,H2,hr x q1,q2,q3,e1.trans q4,q5,q6.back e1.tk q4.tk b⟩
theorem XPost.same {α β:Type} {X:Cx} {pins:List (Addr×Obj)} {σ:St} {H:Hp} {h:Heap} {r:Res α} {r':Res β} {e:Value} {s1:Shared} (p:XPost X pins σ H h r e s1) (hr:∀x,r=.err x->r'=.err x):XPost X pins σ H h r' e s1:=p.back (Same.refl H) (Back.refl H h) hr
theorem XPost.none {α:Type} {X:Cx} {pins:List (Addr×Obj)} {σ:St} {H:Hp} {h0:Heap} {a:α} {e:Value} {s1:Shared} (p:XPost X pins σ H h0 (.ok a) e s1):False:=by
 obtain ⟨x,_,_,_,q,_⟩:=p; cases q
noncomputable def PD (X:Cx) (e:Expr) (f:DS->Res D):Prop :=
 ∀(pins:List (Addr×Obj)) (s:Shared) (σ:St) (G H:Hp) (δ:DS),Inv X pins σ H s->RepSt X.K G H σ δ->f δ≠.stuck ->
  wpAny (model X.prog X.w) X.A (eval e X.env) (EPost X pins σ H (f δ)) (XPost X pins σ H s.heap (f δ)) s
open Classical in
noncomputable def jE (X:Cx) (H:Hp) (h:Heap):List (Addr×Obj) :=
 (List.range h.objs.size).filterMap fun a=>(h.get? a).bind fun o=>if H a=none/\a≠X.env.locals/\a∉X.fs/\(∀v,o.data≠.cell v) then some (a,o) else none
theorem Ow {X:Cx} {H:Hp} {h:Heap} {p:Addr×Obj} (hp:p∈jE X H h):h.get? p.1=some p.2/\H p.1=none/\p.1≠X.env.locals/\p.1∉X.fs/\∀v,p.2.data≠.cell v:=by
 obtain ⟨a,_,e⟩:=mem_filterMap.mp hp
 cases q:h.get? a with
 | none=>rw [q] at e; cases e
 | some o =>
  rw [q] at e;simp only [Option.bind_some] at e
  split at e
  ·rename_i c
   cases e
   exact ⟨q,c⟩
  ·cases e
theorem Ox {X:Cx} {H:Hp} {h:Heap} {a:Addr} {o:Obj} (e:h.get? a=some o) (c:H a=none/\a≠X.env.locals/\a∉X.fs/\∀v,o.data≠.cell v):(a,o)∈jE X H h:=by
 refine mem_filterMap.mpr ⟨a,mem_range.mpr (Heap.lt_size e),?_⟩;rw [e];simp only [Option.bind_some];rw [if_pos c]
section
variable {X:Cx} {pins:List (Addr×Obj)} {s:Shared} {σ:St} {G H:Hp} {δ:DS}
theorem _root_.L2.Inv.all (I:Inv X pins σ H s):Inv X (pins ++ jE X H s.heap) σ H s :=
 I.pins_of fun p hp=>(mem_append.mp hp).elim (fun z=>I.pin p (mem_append_right _ z)) Ow
theorem _root_.L2.Inv.locals_dict (I:Inv X pins σ H s) {o:Obj} {vs:Array Value} (e:s.heap.get? X.env.locals=some o):o.data≠.fields vs:=by
 obtain ⟨m,⟨o',es,ep,ho,hd,_⟩,_⟩:=I.loc;rw [e] at ho; cases ho;rw [hd]; intro z; cases z
theorem _root_.L2.Inv.fs_rec (I:Inv X pins σ H s) {b:Addr} (hb:b∈X.fs) {o:Obj} {vs:Array Value} (e:s.heap.get? b=some o):o.data≠.fields vs:=by
 obtain ⟨_,o',ho,hd⟩:=I.funs.mem hb;rw [e] at ho; cases ho;exact hd vs
theorem _root_.L2.Inv.backTo {σ1:St} {H1:Hp} {s1:Shared} (I:Inv X pins σ H s) (J:Inv X (pins ++ jE X H s.heap) σ1 H1 s1):Back H s.heap s1.heap:=by
 intro e n q o vs ho hd;have hm:(e,o)∈jE X H s.heap:=Ox ho ⟨n,fun z=>by subst z; exact I.locals_dict ho hd,fun z=>I.fs_rec z ho hd,fun v z=>by rw [hd] at z; cases z⟩;exact q o vs (J.pin (e,o) (mem_append_right _ (mem_append_right _ hm))).1 hd
theorem PD.use {e:Expr} {f:DS->Res D} (h:PD X e f) (I:Inv X pins σ H s) (R:RepSt X.K G H σ δ) (hs:f δ≠.stuck) {P E:Value->Shared->Prop}
  (k:∀d u s1 v H1,f δ=.ok d->Inv X pins σ H1 s1->RelV v u->Same H H1->Back H s.heap s1.heap->Rep X.K H1 d v->P u s1)
  (kx:∀e s1,XPost X pins σ H s.heap (f δ) e s1->E e s1):wpAny (model X.prog X.w) X.A (eval e X.env) P E s:=by
 refine wpAny_mono (h (pins ++ jE X H s.heap) s σ G H δ I.all R hs) (fun u s1 ⟨d,v,H1,q1,q2,q3,q4,q5⟩=>k d u s1 v H1 q1 q2.unpinned q3 q4 (I.backTo q2) q5) fun e s1 ⟨x,a,C,H1,q1,q2,q3,q4,q5,q6⟩=>kx e s1 ⟨x,a,C,H1,q1,q2,q3.unpinned,q4,q5,q6⟩
end
section
variable {X:Cx} {e:Expr} {pos:Pos}
theorem Dk {d:D} {v:V} (h:∀E,PE (X.wish E) e (tC v)) (hr:∀H,Rep X.K H d v):PD X e (fun _=>.ok d):=by
 intro pins s σ G H δ I R _;refine wpAny_mono (h (fun _ _=>False) pins s σ H (fun v' H'=>v'=v/\H'=H) (I.wish _) ⟨rfl,rfl⟩) (fun u s1 q=>?_) fun _ _ z=>z.elim;obtain ⟨v',H',I',r',e1,e2⟩:=q;subst e1 e2;exact ⟨d,v',H',rfl,I'.unwish,r',Same.refl _,hr _⟩
theorem aA {i:Int} {j}:PD X (.Constant (.int i) j pos) (fun _=>.ok (.int i)):=Dk (fun _=>M9) (fun _=>by rw [Rep])
theorem kh {k:Bool} {j}:PD X (.Constant (.bool k) j pos) (fun _=>.ok (.bl k)):=Dk (fun _=>M_) (fun _=>by rw [Rep])
theorem kj {j}:PD X (.Constant .none j pos) (fun _=>.ok .non):=Dk (fun _=>Nb) (fun _=>by rw [Rep])
theorem fC {x:Str} {j}:PD X (.Constant (.str x) j pos) (fun _=>.ok (.str x)):=Dk (fun _=>Ng) (fun _=>by rw [Rep])
noncomputable def ak (i:Nat):DS->Res D:=fun δ=>match δ[i]? with | some (some sv)=>.ok sv.view | _=>.stuck
theorem aq (i:Nat) {x:Str} (hN:X.N[i]? = some x:=by rfl) (hv:yL X.env.scope x:=by first | exact Or.inl rfl | exact Or.inr (Or.inl rfl) | exact Or.inr (Or.inr rfl)) (hd:(x == ("__debug__" : Str))=false:=by decide)
  (hcd:(x == ("__classdict__" : Str))=false:=by decide):PD X (.Name x pos) (ak i):=by
 intro pins s σ G H δ I R hs
 try dsimp only at hs ⊢
 unfold ak at hs ⊢
 split at hs
 ·rename_i sv e;obtain ⟨v,e1,e2⟩:=R.view e;refine wpAny_mono (kz' (X:=X.wish fun _ _=>False) hN hv hd hcd pins s σ H (fun v' H'=>v'=v/\H'=H) (I.wish _) ⟨v,e1,rfl,rfl⟩) (fun u s1 q=>?_) fun _ _ z=>z.elim;obtain ⟨v',H',I',r',e3,e4⟩:=q;subst e3 e4;exact ⟨_,v',H',rfl,I'.unwish,r',Same.refl _,e2⟩
 ·exact (hs rfl).elim
end
noncomputable def OpD (X:Cx) (f:Value->Value->Sem Value) (g:D->D->Res D):Prop :=
 ∀(E:Value->Shared->Prop) (pins:List (Addr×Obj)) (s:Shared) (σ:St) (H:Hp) (x y:V) (v u:Value) (a b d:D),Inv X pins σ H s->RelV x v->RelV y u->Rep X.K H a x->Rep X.K H b y->g a b=.ok d ->
  wpAny (model X.prog X.w) X.A (f v u) (EPost X pins σ H (.ok d)) E s
noncomputable def aO {α:Type} (r:Res α):Prop:=∀x,r≠.err x
noncomputable def two (fa fb:DS->Res D) (g:D->D->Res D):DS->Res D:=fun δ=>(fa δ).bind fun x=>(fb δ).bind fun y=>g x y
theorem Oz {fa fb:DS->Res D} {g:D->D->Res D} {δ:DS} (h:two fa fb g δ≠.stuck):fa δ≠.stuck:=fun q=>h (by unfold two; rw [q]; rfl)
theorem OD {fa fb:DS->Res D} {g:D->D->Res D} {δ:DS} {x:D} (h:two fa fb g δ≠.stuck) (q1:fa δ=.ok x):fb δ≠.stuck:=fun q=>h (by unfold two; rw [q1,Res.bind_ok,q]; rfl)
theorem OJ {fa fb:DS->Res D} {g:D->D->Res D} {δ:DS} {x y:D} (q1:fa δ=.ok x) (q2:fb δ=.ok y):two fa fb g δ=g x y:=by unfold two; rw [q1,Res.bind_ok,q2,Res.bind_ok]
theorem O1 {fa fb:DS->Res D} {g:D->D->Res D} {δ:DS} {x:Exn} (q1:fa δ=.err x):two fa fb g δ=.err x:=by unfold two; rw [q1]; rfl
theorem O2 {fa fb:DS->Res D} {g:D->D->Res D} {δ:DS} {x:D} {y:Exn} (q1:fa δ=.ok x) (q2:fb δ=.err y):two fa fb g δ=.err y:=by unfold two; rw [q1,Res.bind_ok,q2]; rfl
section
variable {X:Cx} {a b:Expr} {fa fb:DS->Res D} {pos:Pos}
theorem Fg {g:D->D->Res D} {pins:List (Addr×Obj)} {s:Shared} {σ:St} {G H:Hp} {δ:DS} (ha:PD X a fa) (hb:PD X b fb) (I:Inv X pins σ H s) (R:RepSt X.K G H σ δ) (hs:two fa fb g δ≠.stuck) {P:Value->Value->Shared->Prop} {E:Value->Shared->Prop}
  (k:∀x y v u s2 vx vy H2,two fa fb g δ=g x y->Inv X pins σ H2 s2->RelV vx v->RelV vy u->Same H H2->Rep X.K H2 x vx->Rep X.K H2 y vy->P v u s2)
  (kx:∀e s1,XPost X pins σ H s.heap (two fa fb g δ) e s1->E e s1) :
  wpAny (model X.prog X.w) X.A (eval a X.env) (fun v s1=>wpAny (model X.prog X.w) X.A (eval b X.env) (fun u s2=>P v u s2) E s1) E s:=by
 refine ha.use I R (Oz hs) (fun x u s1 v H1 qa I1 r1 e1 b1 p1=>?_) fun e s1 q=>kx e s1 (q.same fun x z=>O1 z);refine hb.use I1 (R.mono e1) (OD hs qa) (fun y u2 s2 v2 H2 qb I2 r2 e2 b2 p2=>?_) fun e s2 q=>kx e s2 (q.back e1 b1 fun x z=>O2 qa z);exact k x y u u2 s2 v v2 H2 (OJ qa qb) I2 r1 r2 (e1.trans e2) (p1.mono e2) p2
theorem EPost.from {X:Cx} {pins:List (Addr×Obj)} {σ:St} {H H1:Hp} {r r':Res D} {u:Value} {s1:Shared} (p:EPost X pins σ H1 r u s1) (e:Same H H1) (q:r=r'):EPost X pins σ H r' u s1:=by
 obtain ⟨d,v,H2,q1,q2,q3,q4,q5⟩:=p;exact ⟨d,v,H2,q ▸ q1,q2,q3,e.trans q4,q5⟩
theorem Fi {g:D->D->Res D} {pins:List (Addr×Obj)} {s:Shared} {σ:St} {G H:Hp} {δ:DS} {f:Value->Value->Sem Value} (ho:OpD X f g) (hg:∀x y,aO (g x y)) (ha:PD X a fa) (hb:PD X b fb) (I:Inv X pins σ H s) (R:RepSt X.K G H σ δ) (hs:two fa fb g δ≠.stuck) {E:Value->Shared->Prop}
  (kx:∀e s1,XPost X pins σ H s.heap (two fa fb g δ) e s1->E e s1) :
  wpAny (model X.prog X.w) X.A (eval a X.env) (fun v s1=>wpAny (model X.prog X.w) X.A (eval b X.env) (fun u s2=>wpAny (model X.prog X.w) X.A (f v u) (EPost X pins σ H (two fa fb g δ)) E s2) E s1) E s:=by
 refine Fg ha hb I R hs (fun x y v u s2 vx vy H2 q I2 r1 r2 e2 p1 p2=>?_) kx
 cases qg:g x y with
 | stuck=>exact (hs (q.trans qg)).elim
 | err z=>exact (hg x y z qg).elim
 | ok d=>exact gP (ho E pins s2 σ H2 vx vy v u x y d I2 r1 r2 p1 p2 qg) fun w s3 p=>p.from e2 (qg.symm.trans q.symm)
theorem aU {op:Operator} {g:D->D->Res D} (ho:OpD X (binaryOp op) g) (hg:∀x y,aO (g x y)) (ha:PD X a fa) (hb:PD X b fb):PD X (.BinOp a op b pos) (two fa fb g) :=
 fun pins s σ G H δ I R hs=>wpAny_BinOp (Fi ho hg ha hb I R hs fun _ _ q=>q)
theorem nu {op:CmpOp} {g:D->D->Res D} (ho:OpD X (compareOp op) g) (hg:∀x y,aO (g x y)) (ha:PD X a fa) (hb:PD X b fb) (hm:behindInMarks op b=false):PD X (.Compare a [op] [b] pos) (two fa fb g) :=
 fun pins s σ G H δ I R hs=>wpAny_Compare1 (Fi ho hg ha hb I R hs fun _ _ q=>q) hm
theorem OpD.of {f:Value->Value->Sem Value} {r:R2} {g:D->D->Res D} (ho:∀E,OpR (X.wish E) f r)
  (h:∀(H:Hp) (x y:V) (a b d:D) (Q:VK),Rep X.K H a x->Rep X.K H b y->g a b=.ok d->(∀z H',Same H H'->Rep X.K H' d z->Q z H')->r x y H Q):OpD X f g :=
 fun E pins s σ H x y v u a b d I r1 r2 p1 p2 e=>gP (ho E pins s σ H x y v u (fun z H'=>Same H H'/\Rep X.K H' d z) (I.wish _) r1 r2 (h H x y a b d _ p1 p2 e fun z H' a b=>⟨a,b⟩)) fun w s1 ⟨z,H1,I1,r3,e1,p3⟩=>⟨d,z,H1,rfl,I1.unwish,r3,e1,p3⟩
end
noncomputable def oW (X:Cx) (pins:List (Addr×Obj)) (σ:St) (H:Hp) (r:Res Bool) (u:Bool) (s1:Shared):Prop:=∃H1,r=.ok u/\Inv X pins σ H1 s1/\Same H H1
noncomputable def PTD (X:Cx) (e:Expr) (f:DS->Res Bool):Prop :=
 ∀(pins:List (Addr×Obj)) (s:Shared) (σ:St) (G H:Hp) (δ:DS),Inv X pins σ H s->RepSt X.K G H σ δ->f δ≠.stuck ->
  wpAny (model X.prog X.w) X.A (isTrue e X.env (eval e X.env)) (oW X pins σ H (f δ)) (XPost X pins σ H s.heap (f δ)) s
noncomputable def PWD (X:Cx) (e:Expr) (f:DS->Res Bool):Prop :=
 ∀(wh:Sem Value) (pins:List (Addr×Obj)) (s:Shared) (σ:St) (G H:Hp) (δ:DS),Inv X pins σ H s->RepSt X.K G H σ δ->f δ≠.stuck ->
  wpAny (model X.prog X.w) X.A (isTrue e X.env wh) (oW X pins σ H (f δ)) (XPost X pins σ H s.heap (f δ)) s
theorem PWD.pt {X:Cx} {e:Expr} {f:DS->Res Bool} (h:PWD X e f):PTD X e f:=h _
section
variable {X:Cx} {pins:List (Addr×Obj)} {s:Shared} {σ:St} {G H:Hp} {δ:DS}
theorem Fj {t:Sem Bool} {f:DS->Res Bool} (h:∀pins,Inv X pins σ H s->wpAny (model X.prog X.w) X.A t (oW X pins σ H (f δ)) (XPost X pins σ H s.heap (f δ)) s) (I:Inv X pins σ H s) {P:Bool->Shared->Prop} {E:Value->Shared->Prop}
  (k:∀d s1 H1,f δ=.ok d->Inv X pins σ H1 s1->Same H H1->Back H s.heap s1.heap->P d s1) (kx:∀e s1,XPost X pins σ H s.heap (f δ) e s1->E e s1):wpAny (model X.prog X.w) X.A t P E s:=by
 refine wpAny_mono (h (pins ++ jE X H s.heap) I.all) (fun d s1 ⟨H1,q1,q2,q3⟩=>k d s1 H1 q1 q2.unpinned q3 (I.backTo q2)) fun e s1 ⟨x,a,C,H1,q1,q2,q3,q4,q5,q6⟩=>kx e s1 ⟨x,a,C,H1,q1,q2,q3.unpinned,q4,q5,q6⟩
theorem PTD.use {e:Expr} {f:DS->Res Bool} (h:PTD X e f) (I:Inv X pins σ H s) (R:RepSt X.K G H σ δ) (hs:f δ≠.stuck) {P:Bool->Shared->Prop} {E:Value->Shared->Prop}
  (k:∀d s1 H1,f δ=.ok d->Inv X pins σ H1 s1->Same H H1->Back H s.heap s1.heap->P d s1) (kx:∀e s1,XPost X pins σ H s.heap (f δ) e s1->E e s1):wpAny (model X.prog X.w) X.A (isTrue e X.env (eval e X.env)) P E s :=
 Fj (f:=f) (δ:=δ) (fun pins I=>h pins s σ G H δ I R hs) I k kx
theorem PWD.use {e:Expr} {f:DS->Res Bool} (h:PWD X e f) (wh:Sem Value) (I:Inv X pins σ H s) (R:RepSt X.K G H σ δ) (hs:f δ≠.stuck) {P:Bool->Shared->Prop} {E:Value->Shared->Prop}
  (k:∀d s1 H1,f δ=.ok d->Inv X pins σ H1 s1->Same H H1->Back H s.heap s1.heap->P d s1) (kx:∀e s1,XPost X pins σ H s.heap (f δ) e s1->E e s1):wpAny (model X.prog X.w) X.A (isTrue e X.env wh) P E s :=
 Fj (f:=f) (δ:=δ) (fun pins I=>h wh pins s σ G H δ I R hs) I k kx
end
noncomputable def aV:D->Res Bool
 | .non=>.ok false
 | .bl b=>.ok b
 | .int i=>.ok (i != 0)
 | .str x=>if x.length<=sizeLine then .ok ((x.length:Int) != 0) else .stuck
 | .tup ds=>.ok (!ds.isEmpty)
 | .lst ds=>.ok (!ds.isEmpty)
 | _=>.stuck
noncomputable def aG:D->Res Bool
 | .bl b=>.ok b
 | _=>.stuck
theorem Dl {d:D} (h:aG d≠.stuck):∃b,d=.bl b:=by
 cases d with
 | bl b=>exact ⟨b,rfl⟩
 | _=>exact (h rfl).elim
theorem gb {α β:Type} {r:Res α} {f:α->Res β} (h:r.bind f≠.stuck):r≠.stuck:=fun q=>h (by rw [q]; rfl)
theorem ie {α β:Type} {r:Res α} {f:α->Res β} {a:α} (h:r.bind f≠.stuck) (e:r=.ok a):f a≠.stuck:=fun q=>h (by rw [e,Res.bind_ok,q])
theorem gR {α β:Type} {r:Res α} {f:α->Res β} {x:Exn} (e:r=.err x):r.bind f=.err x:=by rw [e]; rfl
section
variable {X:Cx} {a b:Expr} {rest:List Expr} {fa:DS->Res D} {ta tb:DS->Res Bool} {pos:Pos}
theorem bZ {op:CmpOp} {fb:DS->Res D} {g:D->D->Res D} (ho:OpD X (compareOp op) g) (hg:∀x y,aO (g x y)) (ha:PD X a fa) (hb:PD X b fb) (hm:behindInMarks op b=false):PTD X (.Compare a [op] [b] pos) (fun δ=>(two fa fb g δ).bind aG):=by
 intro pins s σ G H δ I R hs
 try dsimp only at hs ⊢
 refine wpAny_isTrue_Compare1 (gP (Fi ho hg ha hb I R (gb hs) (fun _ _ q=>q.same fun x z=>gR z)) fun v s1 h1=>gP h1 fun u s2 h2=>gP h2 fun c s3 ⟨d,x,H1,q1,I1,r1,e1,p1⟩=>?_) hm;obtain ⟨k,rfl⟩:=Dl (ie hs q1);rw [Rep] at p1;subst p1
 cases r1
 exact wpAny_truthy_bool ⟨H1,by rw [q1]; rfl,I1,e1⟩
theorem iJ (ha:PD X a fa) (he:∀whole,isTrue a X.env whole=(do let v <- whole; standAt a.pos; holding [v] (truthy v)):=by intro _; rfl):PTD X a (fun δ=>(fa δ).bind aV):=by
 intro pins s σ G H δ I R hs
 try dsimp only at hs ⊢
 refine isTrue_plain (ha.use I R (gb hs) (fun d u s1 v H1 q I1 r1 e1 b1 p1=>?_) fun e s1 q=>q.same fun x z=>gR z) (he _);have hd:=ie hs q;refine wpAny_mono (N5 (X:=X.wish fun _ _=>False) pins s1 σ H1 v u (fun k H2=>aV d=.ok k/\H2=H1) (I1.wish _) r1 ?_) (fun k s2 ⟨H2,I2,q2,e2⟩=>⟨H2,by rw [q,Res.bind_ok]; exact q2,I2.unwish,by rw [e2]; exact e1⟩) fun _ _ z=>z.elim
 cases d with
 | non=>rw [Rep] at p1; subst p1; exact ⟨false,rfl,rfl,rfl⟩
 | bl b=>rw [Rep] at p1; subst p1; exact ⟨b,rfl,rfl,rfl⟩
 | int i=>rw [Rep] at p1; subst p1; exact ⟨_,rfl,rfl,rfl⟩
 | str x =>
  rw [Rep] at p1; subst p1
  by_cases hz:x.length<=sizeLine
  ·exact ⟨_,⟨hz,rfl⟩,by simp only [aV,if_pos hz],rfl⟩
  ·simp only [aV,if_neg hz] at hd; exact (hd rfl).elim
 | tup ds =>
  rw [Rep] at p1;obtain ⟨b,xs,rfl,w1,w2⟩:=p1;exact ⟨!ds.isEmpty,.inr (.inl ⟨xs,w1,by rw [w2.isEmpty]⟩),rfl,rfl⟩
 | lst ds =>
  rw [Rep] at p1;obtain ⟨b,xs,rfl,w1,w2⟩:=p1;exact ⟨!ds.isEmpty,.inl ⟨xs,w1,by rw [w2.isEmpty]⟩,rfl,rfl⟩
 | exc c=>exact (hd rfl).elim
 | excf c f d=>exact (hd rfl).elim
 | dct=>exact (hd rfl).elim
theorem jP (ha:PTD X a ta):PTD X (.UnaryOp .Not a pos) (fun δ=>(ta δ).bind fun c=>.ok (!c)):=by
 intro pins s σ G H δ I R hs
 try dsimp only at hs ⊢
 exact isTrue_not (ha.use I R (gb hs) (fun d s1 H1 q I1 e1 b1=>⟨H1,by rw [q]; rfl,I1,e1⟩) fun e s1 q=>q.same fun x z=>gR z)
noncomputable def jh (ta tb:DS->Res Bool):DS->Res Bool:=fun δ=>(ta δ).bind fun c=>if c=true then tb δ else .ok false
noncomputable def gU (ta tb:DS->Res Bool):DS->Res Bool:=fun δ=>(ta δ).bind fun c=>if c=true then .ok true else tb δ
theorem yo (ha:PTD X a ta):PWD X (.BoolOp .And [a] pos) ta:=by
 intro wh pins s σ G H δ I R hs
 try dsimp only at hs ⊢
 refine isTrue_and (ha.use I R hs (fun c s1 H1 q I1 e1 b1=>?_) fun e s1 q=>q)
 cases c with
 | true=>exact isTrue_and_nil ⟨H1,q,I1,e1⟩
 | false=>exact ⟨H1,q,I1,e1⟩
theorem oY (ha:PTD X a ta):PWD X (.BoolOp .Or [a] pos) ta:=by
 intro wh pins s σ G H δ I R hs
 try dsimp only at hs ⊢
 refine isTrue_or (ha.use I R hs (fun c s1 H1 q I1 e1 b1=>?_) fun e s1 q=>q)
 cases c with
 | false=>exact isTrue_or_nil ⟨H1,q,I1,e1⟩
 | true=>exact ⟨H1,q,I1,e1⟩
theorem yq (ha:PTD X a ta) (hb:PWD X (.BoolOp .And (b :: rest) pos) tb):PWD X (.BoolOp .And (a :: b :: rest) pos) (jh ta tb):=by
 intro wh pins s σ G H δ I R hs
 try dsimp only at hs ⊢
 have hs':(ta δ).bind (fun c=>if c=true then tb δ else .ok false)≠.stuck:=hs
 refine isTrue_and (ha.use I R (gb hs') (fun c s1 H1 q I1 e1 b1=>?_) fun e s1 q=>q.same fun x z=>gR z);have hc:=ie hs' q;have ev:jh ta tb δ=if c=true then tb δ else .ok false:=by unfold jh; rw [q]; rfl
 cases c with
 | false=>exact ⟨H1,ev,I1,e1⟩
 | true =>
  rw [if_pos rfl] at ev hc;exact hb.use wh I1 (R.mono e1) hc (fun d s2 H2 q2 I2 e2 b2=>⟨H2,ev.trans q2,I2,e1.trans e2⟩) fun e s2 q2=>q2.back e1 b1 fun x z=>ev.trans z
theorem jb (ha:PTD X a ta) (hb:PWD X (.BoolOp .Or (b :: rest) pos) tb):PWD X (.BoolOp .Or (a :: b :: rest) pos) (gU ta tb):=by
 intro wh pins s σ G H δ I R hs
 try dsimp only at hs ⊢
 have hs':(ta δ).bind (fun c=>if c=true then .ok true else tb δ)≠.stuck:=hs
 refine isTrue_or (ha.use I R (gb hs') (fun c s1 H1 q I1 e1 b1=>?_) fun e s1 q=>q.same fun x z=>gR z);have hc:=ie hs' q;have ev:gU ta tb δ=if c=true then .ok true else tb δ:=by unfold gU; rw [q]; rfl
 cases c with
 | true=>exact ⟨H1,ev,I1,e1⟩
 | false =>
  rw [if_neg Bool.false_ne_true] at ev hc;exact hb.use wh I1 (R.mono e1) hc (fun d s2 H2 q2 I2 e2 b2=>⟨H2,ev.trans q2,I2,e1.trans e2⟩) fun e s2 q2=>q2.back e1 b1 fun x z=>ev.trans z
noncomputable def gw (fa fb:DS->Res D):DS->Res D:=fun δ=>(fa δ).bind fun x=>(aG x).bind fun c=>if c=true then fb δ else .ok (.bl false)
noncomputable def u9 (fa:DS->Res D):DS->Res D:=fun δ=>(fa δ).bind fun x=>(aG x).bind fun c=>.ok (.bl (!c))
theorem uO {op} (h:PD X a fa):PD X (.BoolOp op [a] pos) fa:=fun pins s σ G H δ I R hs=>BoolOp_one (h pins s σ G H δ I R hs)
theorem qt {fb:DS->Res D} (ha:PD X a fa) (hb:PD X (.BoolOp .And (b :: rest) pos) fb):PD X (.BoolOp .And (a :: b :: rest) pos) (gw fa fb):=by
 intro pins s σ G H δ I R hs
 try dsimp only at hs ⊢
 have hs':(fa δ).bind (fun x=>(aG x).bind fun c=>if c=true then fb δ else .ok (.bl false))≠.stuck:=hs
 refine BoolOp_and (ha.use I R (gb hs') (fun d u s1 v H1 q I1 r1 e1 b1 p1=>?_) fun e s1 q=>q.same fun x z=>gR z);have h2:=ie hs' q;obtain ⟨k,rfl⟩:=Dl (gb h2);rw [Rep] at p1;subst p1
 cases r1
 have ev:gw fa fb δ=if k=true then fb δ else .ok (.bl false):=by unfold gw; rw [q]; rfl
 refine wpAny_truthy_bool ?_
 cases k with
 | false=>exact ⟨_,.bl false,H1,ev,I1,rfl,e1,by rw [Rep]⟩
 | true =>
  rw [if_pos rfl] at ev;exact hb.use I1 (R.mono e1) (fun z=>hs (ev.trans z)) (fun d2 u2 s2 v2 H2 q2 I2 r2 e2 b2 p2=>⟨d2,v2,H2,ev.trans q2,I2,r2,e1.trans e2,p2⟩) fun e s2 q2=>q2.back e1 b1 fun x z=>ev.trans z
theorem kE' (ha:PD X a fa):PD X (.UnaryOp .Not a pos) (u9 fa):=by
 intro pins s σ G H δ I R hs
 try dsimp only at hs ⊢
 have hs':(fa δ).bind (fun x=>(aG x).bind fun c=>Res.ok (D.bl (!c)))≠.stuck:=hs;refine UnaryOp_ (ha.use I R (gb hs') (fun d u s1 v H1 q I1 r1 e1 b1 p1=>?_) fun e s1 q=>q.same fun x z=>gR z);have h2:=ie hs' q;obtain ⟨k,rfl⟩:=Dl (gb h2);rw [Rep] at p1;subst p1
 cases r1
 exact not_of (wpAny_truthy_bool ⟨_,.bl (!k),H1,by unfold u9; rw [q]; rfl,I1,rfl,e1,by rw [Rep]⟩)
noncomputable def yr (tc:DS->Res Bool) (fa fb:DS->Res D):DS->Res D:=fun δ=>(tc δ).bind fun c=>if c=true then fa δ else fb δ
theorem Jf {c:Expr} {tc:DS->Res Bool} {fb:DS->Res D} (hc:PTD X c tc) (ha:PD X a fa) (hb:PD X b fb):PD X (.IfExp c a b pos) (yr tc fa fb):=by
 intro pins s σ G H δ I R hs
 try dsimp only at hs ⊢
 have hs':(tc δ).bind (fun c=>if c=true then fa δ else fb δ)≠.stuck:=hs
 refine wpAny_IfExp (hc.use I R (gb hs') (fun k s1 H1 q I1 e1 b1=>?_) fun e s1 q=>q.same fun x z=>gR z);have ev:yr tc fa fb δ=if k=true then fa δ else fb δ:=by unfold yr; rw [q]; rfl
 cases k with
 | true =>
  rw [if_pos rfl] at ev;exact ha.use I1 (R.mono e1) (fun z=>hs (ev.trans z)) (fun d2 u2 s2 v2 H2 q2 I2 r2 e2 b2 p2=>⟨d2,v2,H2,ev.trans q2,I2,r2,e1.trans e2,p2⟩) fun e s2 q2=>q2.back e1 b1 fun x z=>ev.trans z
 | false =>
  rw [if_neg Bool.false_ne_true] at ev;exact hb.use I1 (R.mono e1) (fun z=>hs (ev.trans z)) (fun d2 u2 s2 v2 H2 q2 I2 r2 e2 b2 p2=>⟨d2,v2,H2,ev.trans q2,I2,r2,e1.trans e2,p2⟩) fun e s2 q2=>q2.back e1 b1 fun x z=>ev.trans z
theorem O3 {op:UnaryOp} {g:D->Res D} (ho:∀(E:Value->Shared->Prop) (pins:List (Addr×Obj)) (s:Shared) (σ:St) (H:Hp) (x:V) (v:Value) (d r:D),Inv X pins σ H s->RelV x v->Rep X.K H d x->g d=.ok r->wpAny (model X.prog X.w) X.A (unaryOp op v) (EPost X pins σ H (.ok r)) E s)
  (hg:∀x,aO (g x)) (ha:PD X a fa):PD X (.UnaryOp op a pos) (fun δ=>(fa δ).bind g):=by
 intro pins s σ G H δ I R hs
 try dsimp only at hs ⊢
 refine UnaryOp_ (ha.use I R (gb hs) (fun d u s1 v H1 q I1 r1 e1 b1 p1=>?_) fun e s1 q=>q.same fun x z=>gR z);have h2:=ie hs q
 cases qg:g d with
 | stuck=>exact (h2 qg).elim
 | err z=>exact (hg d z qg).elim
 | ok r=>exact gP (ho _ pins s1 σ H1 v u d r I1 r1 p1 qg) fun w s2 p=>p.from e1 (by rw [q,Res.bind_ok,qg])
end
end DL
namespace DL
open PySem PySem.Spec PyProof.Rows L2
noncomputable def aJ (i:Int):Nat:=Builtin.Int.intBits i
noncomputable def aN:D->D->Res D
 | .int i,.int j=>.ok (.int (i + j))
 | .str x,.str y=>if x.length + y.length<=sizeLine then .ok (.str (x ++ y)) else .stuck
 | .tup xs,.tup ys=>if xs.length + ys.length<=sizeLine then .ok (.tup (xs ++ ys)) else .stuck
 | .lst xs,.lst ys=>if xs.length + ys.length<=sizeLine then .ok (.lst (xs ++ ys)) else .stuck
 | _,_=>.stuck
noncomputable def iu:D->D->Res D
 | .int i,.int j=>.ok (.int (i - j))
 | _,_=>.stuck
noncomputable def dj:D->D->Res D
 | .int i,.int j=>if (aJ i<=2 ^ 20/\aJ j<=2 ^ 20)\/aJ i<=64\/aJ j<=64 then .ok (.int (i * j)) else .stuck
 | _,_=>.stuck
noncomputable def aL:D->D->Res D
 | .int i,.int j=>if j≠0/\Builtin.divisionGoesByPylong i j=false then .ok (.int (Int.fdiv i j)) else .stuck
 | _,_=>.stuck
noncomputable def aY:D->D->Res D
 | .int i,.int j=>if j≠0 then .ok (.int (Int.fmod i j)) else .stuck
 | _,_=>.stuck
noncomputable def km:D->D->Res D
 | .int i,.int j=>if 0<=j/\j<=1000000/\i.natAbs < 2 ^ 64 then .ok (.int (i ^ j.toNat)) else .stuck
 | _,_=>.stuck
noncomputable def iZ:D->D->Res D
 | .int i,.int j=>if 0<=j/\j<=1000000/\i.natAbs < 2 ^ 64 then .ok (.int (i * 2 ^ j.toNat)) else .stuck
 | _,_=>.stuck
noncomputable def gW (p:Int->Int->Bool):D->D->Res D
 | .int i,.int j=>.ok (.bl (p i j))
 | _,_=>.stuck
theorem kE {α:Type} {c:Prop} [Decidable c] {r r':Res α} (h:aO r) (h':aO r'):aO (if c then r else r'):=by
 intro x; by_cases hc:c
 ·rw [if_pos hc]; exact h x
 ·rw [if_neg hc]; exact h' x
theorem dZ {α:Type} {a:α}:aO (Res.ok a):=fun _ h=>nomatch h
theorem dh {α:Type}:aO (Res.stuck:Res α):=fun _ h=>nomatch h
theorem dG (x y:D):aO (aN x y):=by cases x <;> cases y <;> first | exact dh | exact dZ | exact kE dZ dh
theorem zf (x y:D):aO (iu x y):=by cases x <;> cases y <;> first | exact dh | exact dZ | exact kE dZ dh
theorem nm' (x y:D):aO (dj x y):=by cases x <;> cases y <;> first | exact dh | exact dZ | exact kE dZ dh
theorem iK (x y:D):aO (aL x y):=by cases x <;> cases y <;> first | exact dh | exact dZ | exact kE dZ dh
theorem iw (x y:D):aO (aY x y):=by cases x <;> cases y <;> first | exact dh | exact dZ | exact kE dZ dh
theorem ic' (x y:D):aO (km x y):=by cases x <;> cases y <;> first | exact dh | exact dZ | exact kE dZ dh
theorem id' (x y:D):aO (iZ x y):=by cases x <;> cases y <;> first | exact dh | exact dZ | exact kE dZ dh
theorem jC (p:Int->Int->Bool) (x y:D):aO (gW p x y):=by cases x <;> cases y <;> first | exact dh | exact dZ | exact kE dZ dh
section
variable {X:Cx} {a b:Expr} {fa fb:DS->Res D} {pos:Pos}
theorem cT {K:Frag} {H:Hp} {i:Int} {v:V} (h:Rep K H (.int i) v):v=.int i:=by rw [Rep] at h; exact h
theorem lR {K:Frag} {H:Hp} {i:Str} {v:V} (h:Rep K H (.str i) v):v=.str i:=by rw [Rep] at h; exact h
theorem Fl {K:Frag} {H:Hp} {i:Bool} {v:V} (h:Rep K H (.bl i) v):v=.bl i:=by rw [Rep] at h; exact h
theorem eE {K:Frag} {H:Hp} {ds:List D} {v:V} (h:Rep K H (.tup ds) v):∃a xs,v=.ref a/\SqT K H a xs/\Reps K H ds xs:=by rw [Rep] at h; exact h
theorem fP {K:Frag} {H:Hp} {ds:List D} {v:V} (h:Rep K H (.lst ds) v):∃a xs,v=.ref a/\SqL K H a xs/\Reps K H ds xs:=by rw [Rep] at h; exact h
theorem jc {K:Frag} {H:Hp} {i:Int}:Rep K H (.int i) (.int i):=by rw [Rep]
theorem Jg {K:Frag} {H:Hp} {i:Str}:Rep K H (.str i) (.str i):=by rw [Rep]
theorem vX {K:Frag} {H:Hp} {i:Bool}:Rep K H (.bl i) (.bl i):=by rw [Rep]
theorem O4 {K:Frag} {H:Hp}:Rep K H .non .non:=by rw [Rep]
theorem oZ {K:Frag} {H:Hp} {a:Addr} {xs:List V} {ds:List D} (h:SqT K H a xs) (r:Reps K H ds xs):Rep K H (.tup ds) (.ref a):=by rw [Rep]; exact ⟨a,xs,rfl,h,r⟩
theorem qu {K:Frag} {H:Hp} {a:Addr} {xs:List V} {ds:List D} (h:SqL K H a xs) (r:Reps K H ds xs):Rep K H (.lst ds) (.ref a):=by rw [Rep]; exact ⟨a,xs,rfl,h,r⟩
theorem i_ {H:Hp} {p:Addr} (h:H p=none) (o:HO):Same H (upd H p o):=fun b u q=>by rw [dU (qp q h)]; exact q
theorem Fo {f:Value->Value->Sem Value} {C:Int->Int->Prop} [∀i j,Decidable (C i j)] {h:Int->Int->D} {k:Int->Int->V} {g:D->D->Res D} (ho:∀E,OpR (X.wish E) f (rI C k)) (hk:∀H i j,Rep X.K H (h i j) (k i j))
  (hg:∀x y d,g x y=.ok d->∃i j,x=.int i/\y=.int j/\C i j/\d=h i j):OpD X f g :=
 .of ho fun H x y a b d Q p1 p2 e q=>by
  obtain ⟨i,j,rfl,rfl,c,rfl⟩:=hg a b d e;exact ⟨i,j,cT p1,cT p2,c,q _ H (Same.refl H) (hk H i j)⟩
theorem kF' {f:Value->Value->Sem Value} {h:Int->Int->D} {k:Int->Int->V} {g:D->D->Res D} (ho:∀E,OpR (X.wish E) f (vV k)) (hk:∀H i j,Rep X.K H (h i j) (k i j))
  (hg:∀x y d,g x y=.ok d->∃i j,x=.int i/\y=.int j/\d=h i j):OpD X f g :=
 .of ho fun H x y a b d Q p1 p2 e q=>by
  obtain ⟨i,j,rfl,rfl,rfl⟩:=hg a b d e;exact ⟨i,j,cT p1,cT p2,q _ H (Same.refl H) (hk H i j)⟩
theorem zg:OpD X (binaryOp .Sub) iu:=kF' (fun _=>Nx) (fun _ _ _=>jc) fun x y d e=>by
 cases x <;> cases y <;> first | (simp [iu] at e; done) | (simp only [iu,Res.ok.injEq] at e; exact ⟨_,_,rfl,rfl,e.symm⟩)
theorem kG' {p:Int->Int->Bool} {op:CmpOp} (ho:∀E,OpR (X.wish E) (compareOp op) (vV fun i j=>.bl (p i j))):OpD X (compareOp op) (gW p):=kF' ho (fun _ _ _=>vX) fun x y d e=>by
 cases x <;> cases y <;> first | (simp [gW] at e; done) | (simp only [gW,Res.ok.injEq] at e; exact ⟨_,_,rfl,rfl,e.symm⟩)
theorem lU:OpD X (compareOp .Lt) (gW fun i j=>decide (i < j)):=kG' fun _=>NK
theorem zj:OpD X (compareOp .Gt) (gW fun i j=>decide (j < i)):=kG' fun _=>NP
theorem ls':OpR X (binaryOp .Mult) (rI (fun i j=>(aJ i<=2 ^ 20/\aJ j<=2 ^ 20)\/aJ i<=64\/aJ j<=64) fun i j=>.int (i * j)):=yO fun _ _ _ _ _ _ _ hc q=>mul_int q (by
 rcases hc with hc | hc | hc
 ·exact PySem.IntMulOk.of_bits hc.1 hc.2
 ·exact PySem.IntMulOk.of_left hc
 ·exact PySem.IntMulOk.of_right hc)
theorem nn':OpD X (binaryOp .Mult) dj:=Fo (h:=fun i j=>.int (i * j)) (fun _=>ls') (fun _ _ _=>jc) fun x y d e=>by
 cases x <;> cases y <;> first | (simp [dj] at e; done) | skip
 rename_i i j;simp only [dj] at e
 split at e
 ·rename_i c; cases e; exact ⟨_,_,rfl,rfl,c,rfl⟩
 ·cases e
theorem O5:OpR X (binaryOp .FloorDiv) (rI (fun i j=>j≠0/\Builtin.divisionGoesByPylong i j=false) fun i j=>.int (i.fdiv j)):=yO fun _ _ _ _ _ _ _ hc q=>floordiv_int hc.1 q (.inl hc.2)
theorem iM:OpD X (binaryOp .FloorDiv) aL:=Fo (h:=fun i j=>.int (i.fdiv j)) (fun _=>O5) (fun _ _ _=>jc) fun x y d e=>by
 cases x <;> cases y <;> first | (simp [aL] at e; done) | skip
 rename_i i j;simp only [aL] at e
 split at e
 ·rename_i c; cases e; exact ⟨_,_,rfl,rfl,c,rfl⟩
 ·cases e
theorem iy:OpD X (binaryOp .Mod) aY:=Fo (h:=fun i j=>.int (i.fmod j)) (fun _=>Ny) (fun _ _ _=>jc) fun x y d e=>by
 cases x <;> cases y <;> first | (simp [aY] at e; done) | skip
 rename_i i j;simp only [aY] at e
 split at e
 ·rename_i c; cases e; exact ⟨_,_,rfl,rfl,c,rfl⟩
 ·cases e
theorem Fp:OpD X (binaryOp .Pow) km:=.of (fun _=>Nz) fun H x y a b d Q p1 p2 e q=>by
 cases a <;> cases b <;> first | (simp [km] at e; done) | skip
 rename_i i j;simp only [km] at e
 split at e
 ·rename_i c; cases e; exact ⟨i,j,cT p1,cT p2,c,q _ H (Same.refl H) jc⟩
 ·cases e
theorem Fq:OpD X (binaryOp .LShift) iZ:=.of (fun _=>NB) fun H x y a b d Q p1 p2 e q=>by
 cases a <;> cases b <;> first | (simp [iZ] at e; done) | skip
 rename_i i j;simp only [iZ] at e
 split at e
 ·rename_i c; cases e; exact ⟨i,j,cT p1,cT p2,c,q _ H (Same.refl H) jc⟩
 ·cases e
theorem O6 (E:Value->Shared->Prop):OpR (X.wish E) (binaryOp .Add) (vW X.K):=ln'
noncomputable def vY (K:Frag):R2:=fun x y H Q=>∃a b ys,x=.ref a/\y=.ref b/\SqT K H a []/\SqT K H b ys/\Q (.ref b) H
theorem lt':OpR X (binaryOp .Add) (vY X.K):=by
 intro pins s σ H x y v u Q I rx ry h;obtain ⟨a,b,ys,rfl,rfl,h1,h2,q⟩:=h
 cases rx
 cases ry
 obtain ⟨its,r,ht,_⟩:=I.tuple h1;obtain ⟨its2,r2,ht2,_⟩:=I.tuple h2
 cases r
 obtain ⟨⟨cls,dd,data,sl⟩,ho,hc,n,hd⟩:=id ht;obtain ⟨⟨cls2,dd2,data2,sl2⟩,ho2,hc2,n2,hd2⟩:=id ht2;simp only at hc hd hc2 hd2;subst hc hd hc2 hd2;exact concat_meets ⟨_,ho,rfl⟩ ⟨_,ho2,rfl⟩ noFill_tuple_add seq_tuple_add PySem.F.slot_tuple_add PySem.F.entry_tuple_add (PySem.F.args_tuple_add_2 _ _) (tuple_addW0 a b _ its2.toArray n n2 dd dd2 sl sl2 rfl) ⟨ho,ho2,.ref b,H,I,rfl,q⟩
theorem O7 (E:Value->Shared->Prop):OpR (X.wish E) (binaryOp .Add) (vY X.K):=lt'
noncomputable def vZ (K:Frag):R2:=fun x y H Q=>∃a b xs ys,x=.ref a/\y=.ref b/\SqL K H a xs/\SqL K H b ys/\xs.length + ys.length<=sizeLine/\∀p,H p=none->Q (.ref p) (upd H p (.lst (xs ++ ys)))
theorem O8:OpR X (binaryOp .Add) (vZ X.K):=by
 intro pins s σ H x y v u Q I rx ry h;obtain ⟨a,b,xs,ys,rfl,rfl,h1,h2,hz,q⟩:=h
 cases rx
 cases ry
 obtain ⟨its,r,⟨⟨cls,dd,data,sl⟩,n,ho,hc,hdd,hd⟩,_⟩:=I.list h1;obtain ⟨its2,r2,⟨⟨cls2,dd2,data2,sl2⟩,n2,ho2,hc2,hdd2,hd2⟩,_⟩:=I.list h2;simp only at hc hd hc2 hd2;subst hc hd hc2 hd2;have l1:=r.length;have l2:=r2.length;refine concat_meets ⟨_,ho,rfl⟩ ⟨_,ho2,rfl⟩ noFill_list_add seq_list_add PySem.F.slot_list_add PySem.F.entry_list_add (PySem.F.args_list_add_2 _ _) (list_addW a b its.toArray its2.toArray n n2 dd dd2 sl sl2 (by simp only [size_toArray]; omega)) ⟨ho,ho2,?_⟩;have ea:its.toArray ++ its2.toArray=(its ++ its2).toArray:=by simp
 rw [ea];refine ⟨.ref s.heap.objs.size,_,I.laid (t':=s.toks) (o:=.lst (xs ++ ys)) (fun b ob q=>Heap.get?_push_of_some _ q) (Nat.le_refl _) ?_,rfl,q _ (I.hok.fresh (Nat.le_refl _))⟩;exact ⟨by rw [length_append]; omega,its ++ its2,0,r.append r2,Heap.get?_push_size _ rfl⟩
theorem O9 (E:Value->Shared->Prop):OpR (X.wish E) (binaryOp .Add) (vZ X.K):=O8
theorem dH:OpD X (binaryOp .Add) aN:=.of (fun E=>op_add.or (op_add_str.or ((O6 E).or ((O9 E).or (O7 E))))) fun H x y a b d Q p1 p2 e q=>by
 cases a <;> cases b <;> first | (simp [aN] at e; done) | skip
 ·rename_i i j;simp only [aN,Res.ok.injEq] at e;subst e;exact .inl ⟨i,j,cT p1,cT p2,q _ H (Same.refl H) jc⟩
 ·rename_i i j;simp only [aN] at e
  split at e
  ·rename_i c; cases e; exact .inr (.inl ⟨i,j,lR p1,lR p2,c,q _ H (Same.refl H) Jg⟩)
  ·cases e
 ·rename_i xs ys;simp only [aN] at e
  split at e
  ·rename_i c
   cases e
   obtain ⟨p,us,rfl,s1,t1⟩:=eE p1;obtain ⟨p',ws,rfl,s2,t2⟩:=eE p2
   by_cases hn:us=[]
   ·subst hn;have hx:xs=[]:=by
     have:=t1.length; exact eq_nil_of_length_eq_zero this.symm
    subst hx;exact .inr (.inr (.inr (.inr ⟨p,p',ws,rfl,rfl,s1,s2,q _ H (Same.refl H) (oZ s2 t2)⟩)))
   refine .inr (.inr (.inl ⟨p,p',us,ws,rfl,rfl,s1,s2,hn,?_,fun z=>?_,fun _ z hz=>?_⟩))
   ·rw [t1.length,t2.length]; exact c
   ·have hy:ys=[]:=by
     have:=t2.length; rw [z] at this; exact eq_nil_of_length_eq_zero this.symm
    subst hy;exact q _ H (Same.refl H) (oZ s1 (by simpa using t1))
   ·exact q _ _ (i_ hz _) (oZ (SqT.of jB) ((t1.append t2).mono (i_ hz _)))
  ·cases e
 ·rename_i xs ys;simp only [aN] at e
  split at e
  ·rename_i c
   cases e
   obtain ⟨p,us,rfl,s1,t1⟩:=fP p1;obtain ⟨p',ws,rfl,s2,t2⟩:=fP p2;exact .inr (.inr (.inr (.inl ⟨p,p',us,ws,rfl,rfl,s1,s2,by rw [t1.length,t2.length]; exact c,fun z hz=>q _ _ (i_ hz _) (qu (SqL.of jB) ((t1.append t2).mono (i_ hz _)))⟩)))
  ·cases e
end
noncomputable def zm (X:Cx) (pins:List (Addr×Obj)) (σ:St) (H:Hp) (r:Res (List D)) (us:List Value) (s1:Shared):Prop:=∃ds vs H1,r=.ok ds/\Inv X pins σ H1 s1/\Vals vs us/\Same H H1/\Reps X.K H1 ds vs
noncomputable def PAD (X:Cx) (es:List Expr) (f:DS->Res (List D)):Prop :=
 ∀(pos:Pos) (pins:List (Addr×Obj)) (s:Shared) (σ:St) (G H:Hp) (δ:DS),Inv X pins σ H s->RepSt X.K G H σ δ->f δ≠.stuck ->
  wpAny (model X.prog X.w) X.A (spliced (backTo pos (starEach es X.env))) (zm X pins σ H (f δ)) (XPost X pins σ H s.heap (f δ)) s
noncomputable def aj (f:DS->Res D) (fs:DS->Res (List D)):DS->Res (List D):=fun δ=>(f δ).bind fun d=>(fs δ).bind fun ds=>.ok (d :: ds)
section
variable {X:Cx} {e:Expr} {es:List Expr} {f:DS->Res D} {fs:DS->Res (List D)} {pos:Pos}
theorem PAD.use {pins:List (Addr×Obj)} {s:Shared} {σ:St} {G H:Hp} {δ:DS} (h:PAD X es fs) (I:Inv X pins σ H s) (R:RepSt X.K G H σ δ) (hs:fs δ≠.stuck) {P:List Value->Shared->Prop} {E:Value->Shared->Prop}
  (k:∀ds us s1 vs H1,fs δ=.ok ds->Inv X pins σ H1 s1->Vals vs us->Same H H1->Back H s.heap s1.heap->Reps X.K H1 ds vs->P us s1) (kx:∀e s1,XPost X pins σ H s.heap (fs δ) e s1->E e s1) :
  wpAny (model X.prog X.w) X.A (spliced (backTo pos (starEach es X.env))) P E s:=by
 refine wpAny_mono (h pos (pins ++ jE X H s.heap) s σ G H δ I.all R hs) (fun us s1 ⟨ds,vs,H1,q1,q2,q3,q4,q5⟩=>k ds us s1 vs H1 q1 q2.unpinned q3 q4 (I.backTo q2) q5) fun e s1 ⟨x,a,C,H1,q1,q2,q3,q4,q5,q6⟩=>kx e s1 ⟨x,a,C,H1,q1,q2,q3.unpinned,q4,q5,q6⟩
theorem aC:PAD X [] (fun _=>.ok []):=fun pos pins s σ G H δ I R _=>Calls.spliced_nil ⟨[],[],H,rfl,I,.nil,Same.refl H,Reps.nil⟩
theorem au (ha:PD X e f) (hr:PAD X es fs) (hs:starEach (e :: es) X.env=(false,eval e X.env) :: starEach es X.env:=by rfl):PAD X (e :: es) (aj f fs):=by
 intro pos pins s σ G H δ I R hn;have hn':(f δ).bind (fun d=>(fs δ).bind fun ds=>.ok (d :: ds))≠.stuck:=hn;rw [hs];show wpAny _ _ (spliced ((false,eval e X.env) :: backTo pos (starEach es X.env))) _ _ s;refine Calls.spliced_cons (ha.use I R (gb hn') (fun d u s1 v H1 q I1 r1 e1 b1 p1=>?_) fun e s1 q=>q.same fun x z=>gR z);have hn2:=ie hn' q;refine hr.use I1 (R.mono e1) (gb hn2) (fun ds us s2 vs H2 q2 I2 r2 e2 b2 p2=>⟨d :: ds,v :: vs,H2,by unfold aj; rw [q,Res.bind_ok,q2]; rfl,I2,.cons r1 r2,e1.trans e2,Reps.cons (p1.mono e2) p2⟩) fun e s2 q2=>q2.back e1 b1 fun x z=>by unfold aj; rw [q,Res.bind_ok,z]; rfl
noncomputable def jF (r:Res (List D)):Res D:=r.bind fun ds=>if ds.length<=sizeLine then .ok (.tup ds) else .stuck
noncomputable def fD (r:Res (List D)):Res D:=r.bind fun ds=>if ds.length<=sizeLine then .ok (.lst ds) else .stuck
theorem cJ {x1} (h:PAD X es fs):PD X (.Tuple es x1 pos) (fun δ=>jF (fs δ)):=by
 intro pins s σ G H δ I R hs
 try dsimp only at hs ⊢
 have hs':(fs δ).bind (fun ds=>if ds.length<=sizeLine then Res.ok (D.tup ds) else .stuck)≠.stuck:=hs
 refine wpAny_Tuple_spliced (h.use I R (gb hs') (fun ds us s1 vs H1 q I1 r1 e1 b1 p1=>?_) fun e s1 q=>q.same fun x z=>gR z);have h2:=ie hs' q;have hz:ds.length<=sizeLine:=by
  by_cases c:ds.length<=sizeLine
  ·exact c
  ·rw [if_neg c] at h2; exact (h2 rfl).elim
 refine ⟨by rw [<- r1.length,p1.length]; exact hz,?_⟩;have hf:H1 s1.heap.objs.size=none:=I1.hok.fresh (Nat.le_refl _);refine ⟨.tup ds,.ref s1.heap.objs.size,upd H1 s1.heap.objs.size (.tup vs),by unfold jF; rw [q,Res.bind_ok,if_pos hz],I1.laid (t':=s1.toks) (fun b u e=>Heap.get?_push_of_some _ e) (Nat.le_refl _) ?_,rfl,e1.trans (i_ hf _),oZ (SqT.of jB) (p1.mono (i_ hf _))⟩;exact ⟨by rw [p1.length]; exact hz,us,r1,⟨_,Heap.get?_push_size _ rfl,rfl,_,rfl⟩⟩
theorem qi (h:PAD X es fs):PD X (.List es pos) (fun δ=>fD (fs δ)):=by
 intro pins s σ G H δ I R hs
 try dsimp only at hs ⊢
 have hs':(fs δ).bind (fun ds=>if ds.length<=sizeLine then Res.ok (D.lst ds) else .stuck)≠.stuck:=hs
 refine wpAny_List_spliced (h.use I R (gb hs') (fun ds us s1 vs H1 q I1 r1 e1 b1 p1=>?_) fun e s1 q=>q.same fun x z=>gR z);have h2:=ie hs' q;have hz:ds.length<=sizeLine:=by
  by_cases c:ds.length<=sizeLine
  ·exact c
  ·rw [if_neg c] at h2; exact (h2 rfl).elim
 refine ⟨by rw [<- r1.length,p1.length]; exact hz,?_⟩;have hf:H1 s1.heap.objs.size=none:=I1.hok.fresh (Nat.le_refl _);refine ⟨.lst ds,.ref s1.heap.objs.size,upd H1 s1.heap.objs.size (.lst vs),by unfold fD; rw [q,Res.bind_ok,if_pos hz],I1.laid (t':=s1.toks) (fun b u e=>Heap.get?_push_of_some _ e) (Nat.le_refl _) ?_,rfl,e1.trans (i_ hf _),qu (SqL.of jB) (p1.mono (i_ hf _))⟩;exact ⟨by rw [p1.length]; exact hz,us,0,r1,Heap.get?_push_size _ rfl⟩
noncomputable def aR:D->D->Res D
 | .tup ds,.int i=>match jg ds i with | some d=>.ok d | none=>.stuck
 | .lst ds,.int i=>match jg ds i with | some d=>.ok d | none=>.stuck
 | .str z,.int i=>if z.length<=sizeLine then (match jg z.cps.toList i with | some c=>.ok (.str ⟨#[c]⟩) | none=>.stuck) else .stuck
 | _,_=>.stuck
theorem O_ (x y:D):aO (aR x y):=by
 cases x <;> cases y <;> first | exact dh | skip
 ·simp only [aR]; split <;> first | (split <;> first | exact dZ | exact dh) | exact dh
 ·simp only [aR]; split <;> first | exact dZ | exact dh
 ·simp only [aR]; split <;> first | exact dZ | exact dh
theorem ih' {K:Frag} {H:Hp} {ds:List D} {vs:List V} {i:Int} {d:D} (r:Reps K H ds vs) (e:jg ds i=some d):∃v,jg vs i=some v/\Rep K H d v:=by
 unfold jg at e ⊢;rw [r.length]
 cases q:jO ds.length i with
 | none=>rw [q] at e; cases e
 | some j =>
  rw [q] at e;exact r.get e
theorem aK {o i:Expr} {fo fi:DS->Res D} (ho:PD X o fo) (hi:PD X i fi) (hp:u6 i:=by intro _ _; rfl):PD X (.Subscript o i pos) (two fo fi aR):=by
 intro pins s σ G H δ I R hs
 try dsimp only at hs ⊢
 refine Subscript_ (Fg ho hi I R hs (fun x y v u s2 vx vy H2 q I2 r1 r2 e2 p1 p2=>?_) fun _ _ q=>q);have hd:aR x y≠.stuck:=fun z=>hs (q.trans z)
 cases qg:aR x y with
 | stuck=>exact (hd qg).elim
 | err z=>exact (O_ x y z qg).elim
 | ok d =>
  refine wpAny_mono (Oh (X:=X.wish fun _ _=>False) o i pins s2 σ H2 vx vy v u (fun z H'=>H'=H2/\Rep X.K H2 d z) (I2.wish _) r1 r2 ?_ (hp _ _)) (fun w s3 q3=>?_) fun _ _ z=>z.elim
  rotate_left
  ·obtain ⟨z,H3,I3,r3,e3,p3⟩:=q3;subst e3;exact ⟨d,z,H3,q.trans qg,I3.unwish,r3,e2,p3⟩
  cases x with
  | tup ds =>
   cases y with
   | int k =>
    simp only [aR] at qg
    split at qg
    ·rename_i d' e
     cases qg
     obtain ⟨b,xs,rfl,w1,w2⟩:=eE p1;obtain ⟨z,z1,z2⟩:=ih' w2 e;exact .inr (.inl ⟨b,xs,k,z,rfl,cT p2,w1,z1,rfl,z2⟩)
    ·cases qg
   | _=>cases qg
  | lst ds =>
   cases y with
   | int k =>
    simp only [aR] at qg
    split at qg
    ·rename_i d' e
     cases qg
     obtain ⟨b,xs,rfl,w1,w2⟩:=fP p1;obtain ⟨z,z1,z2⟩:=ih' w2 e;exact .inl ⟨b,xs,k,z,rfl,cT p2,w1,z1,rfl,z2⟩
    ·cases qg
   | _=>cases qg
  | str z =>
   cases y with
   | int k =>
    simp only [aR] at qg
    split at qg
    ·rename_i hz
     split at qg
     ·rename_i c e
      cases qg
      exact .inr (.inr ⟨z,k,c,lR p1,cT p2,hz,e,rfl,Jg⟩)
     ·cases qg
    ·cases qg
   | _=>cases qg
  | _=>cases qg
end
noncomputable def CallD (X:Cx) (f:Value) (g:List D->Res D):Prop :=
 ∀(E:Value->Shared->Prop) (pins:List (Addr×Obj)) (s:Shared) (σ:St) (H:Hp) (xs:List V) (us:List Value) (ds:List D) (d:D),Inv X pins σ H s->Vals xs us->Reps X.K H ds xs->g ds=.ok d ->
  wpAny (model X.prog X.w) X.A (call f us) (EPost X pins σ H (.ok d)) E s
theorem CallD.of {X:Cx} {f:Value} {r:List V->Hp->VK->Prop} {g:List D->Res D} (hc:∀E,CallR (X.wish E) f r) (h:∀(H:Hp) (xs:List V) (ds:List D) (d:D) (Q:VK),Reps X.K H ds xs->g ds=.ok d->(∀z H',Same H H'->Rep X.K H' d z->Q z H')->r xs H Q):CallD X f g :=
 fun E pins s σ H xs us ds d I r1 p e=>gP (hc E pins s σ H xs us (fun z H'=>Same H H'/\Rep X.K H' d z) (I.wish _) r1 (h H xs ds d _ p e fun z H' a b=>⟨a,b⟩)) fun w s1 ⟨z,H1,I1,r3,e1,p3⟩=>⟨d,z,H1,rfl,I1.unwish,r3,e1,p3⟩
section
variable {X:Cx} {e:Expr} {es:List Expr} {fs:DS->Res (List D)} {x:Str} {p pos:Pos} {id T:String} {g:List D->Res D}
theorem Jh {pins:List (Addr×Obj)} {s:Shared} {σ:St} {G H:Hp} {δ:DS} {f:Value} (hc:CallD X f g) (hg:∀ds,aO (g ds)) (ha:PAD X es fs) (I:Inv X pins σ H s) (R:RepSt X.K G H σ δ) (hs:(fs δ).bind g≠.stuck) :
  wpAny (model X.prog X.w) X.A (spliced (backTo pos (starEach es X.env))) (fun us s1=>wpAny (model X.prog X.w) X.A (call f us) (EPost X pins σ H ((fs δ).bind g)) (XPost X pins σ H s.heap ((fs δ).bind g)) s1) (XPost X pins σ H s.heap ((fs δ).bind g)) s:=by
 refine ha.use I R (gb hs) (fun ds us s1 vs H1 q I1 r1 e1 b1 p1=>?_) fun e s1 q=>q.same fun x z=>gR z;have h2:=ie hs q
 cases qg:g ds with
 | stuck=>exact (h2 qg).elim
 | err z=>exact (hg ds z qg).elim
 | ok d=>exact gP (hc _ pins s1 σ H1 vs us ds d I1 r1 p1 qg) fun w s2 p=>p.from e1 (by rw [q,Res.bind_ok,qg])
theorem dM (hc:CallD X (.builtin id) g) (hne:∀ds,aO (g ds)) (hg:Gl X x) (hm:X.mg x=none) (hv:bootBuiltins x=some (.builtin id)) (ha:PAD X (e :: es) fs) (hn:x≠"__name__":=by decide) (hdb:(x == ("__debug__" : Str))=false:=by decide)
  (he:starEach (e :: es) X.env=(false,eval e X.env) :: starEach es X.env:=by rfl) (hpl:(backTo pos (starEach es X.env)).any (·.1)=false:=by rfl):PD X (.Call (.Name x p) (e :: es) [] pos) (fun δ=>(fs δ).bind g):=by
 intro pins s σ G H δ I R hs
 try dsimp only at hs ⊢
 refine wpAny_Call_Name_kw (vQ I hg hm hv ?_ hn hdb)
 exact PyProof.Rows.callWith_builtin1 (Jh hc hne ha I R hs) he hpl
theorem pL (hc:CallD X (.type T) g) (hne:∀ds,aO (g ds)) (hg:Gl X x) (hm:X.mg x=none) (hv:bootBuiltins x=some (.type T)) (ha:PAD X (e :: es) fs) (hn:x≠"__name__":=by decide) (hdb:(x == ("__debug__" : Str))=false:=by decide)
  (he:starEach (e :: es) X.env=(false,eval e X.env) :: starEach es X.env:=by rfl) (hpl:(backTo pos (starEach es X.env)).any (·.1)=false:=by rfl):PD X (.Call (.Name x p) (e :: es) [] pos) (fun δ=>(fs δ).bind g):=by
 intro pins s σ G H δ I R hs
 try dsimp only at hs ⊢
 refine wpAny_Call_Name_kw (vQ I hg hm hv ?_ hn hdb)
 exact PyProof.Rows.callWith_type1 (Jh hc hne ha I R hs) he hpl
end
noncomputable def lV:List D->Res D
 | [.int i]=>.ok (.int (if i < 0 then -i else i))
 | _=>.stuck
theorem Ft {X:Cx}:CallD X (.builtin "abs") lV:=.of (fun _=>N6) fun H xs ds d Q r e q=>by
 unfold lV at e
 split at e
 ·rename_i i
  cases e
  obtain ⟨v,vs,rfl,p1,t⟩:=r.cons_of
  cases t.nil_of
  exact ⟨i,by rw [cT p1],q _ H (Same.refl H) jc⟩
 ·cases e
theorem Fv (ds:List D):aO (lV ds):=by
 unfold lV
 split
 ·exact dZ
 ·exact dh
noncomputable def a_:List D->Res D
 | [.tup ds]=>.ok (.int ds.length)
 | [.lst ds]=>.ok (.int ds.length)
 | [.str z]=>if z.length<=sizeLine then .ok (.int z.length) else .stuck
 | _=>.stuck
theorem eH (ds:List D):aO (a_ ds):=by
 unfold a_
 split <;> first | exact dZ | exact dh | exact kE dZ dh
theorem Pa {X:Cx} (E:Value->Shared->Prop):CallR (X.wish E) (.builtin "len") (fun xs H Q=>∃x n,xs=[x]/\yS X.K x H n/\Q (.int n) H):=N7
theorem eO {X:Cx}:CallD X (.builtin "len") a_:=.of Pa fun H xs ds d Q r e q=>by
 unfold a_ at e
 split at e
 ·rename_i es
  cases e
  obtain ⟨v,vs,rfl,p1,t⟩:=r.cons_of
  cases t.nil_of
  obtain ⟨a,ys,rfl,w1,w2⟩:=eE p1;exact ⟨_,es.length,rfl,.inr ⟨ys,w1,w2.length.symm⟩,q _ H (Same.refl H) jc⟩
 ·rename_i es
  cases e
  obtain ⟨v,vs,rfl,p1,t⟩:=r.cons_of
  cases t.nil_of
  obtain ⟨a,ys,rfl,w1,w2⟩:=fP p1;exact ⟨_,es.length,rfl,.inl ⟨ys,w1,w2.length.symm⟩,q _ H (Same.refl H) jc⟩
 ·rename_i z
  split at e
  ·rename_i hz
   cases e
   obtain ⟨v,vs,rfl,p1,t⟩:=r.cons_of
   cases t.nil_of
   cases lR p1
   exact ⟨_,z.length,rfl,⟨hz,rfl⟩,q _ H (Same.refl H) jc⟩
  ·cases e
 ·cases e
inductive Out where
 | stuck
 | nxt (δ:DS)
 | ret (d:D)
 | brk (δ:DS)
 | cnt (δ:DS)
 | err (x:Exn) (δ:DS)
noncomputable def Out.seq (o:Out) (g:DS->Out):Out:=match o with
 | .nxt δ=>g δ
 | o=>o
noncomputable def SPost (X:Cx) (pins:List (Addr×Obj)) (G H:Hp) (o:Out) (fl:Flow) (s1:Shared):Prop:=match fl with
 | .next=>∃δ' σ' H',o=.nxt δ'/\Inv X pins σ' H' s1/\TK H H'/\RepSt X.K G H' σ' δ'
 | .brk=>∃δ' σ' H',o=.brk δ'/\Inv X pins σ' H' s1/\TK H H'/\RepSt X.K G H' σ' δ'
 | .cont=>∃δ' σ' H',o=.cnt δ'/\Inv X pins σ' H' s1/\TK H H'/\RepSt X.K G H' σ' δ'
 | .ret u=>∃d v σ' H',o=.ret d/\Inv X pins σ' H' s1/\TK H H'/\Same G H'/\RelV v u/\Rep X.K H' d v
noncomputable def SX (X:Cx) (pins:List (Addr×Obj)) (G H:Hp) (h0:Heap) (o:Out) (e:Value) (s1:Shared):Prop :=
 ∃x δ' a C σ' H',o=.err x δ'/\e=.ref a/\Inv X pins σ' H' s1/\TK H H'/\RepSt X.K G H' σ' δ'/\nsIn X.K mainGlobals x.cls=some (some (.ref C))/\FlyX X.K x h0 H' s1.heap a C
noncomputable def PSD (X:Cx) (st:Stmt) (f:DS->Out):Prop :=
 ∀(pins:List (Addr×Obj)) (s:Shared) (σ:St) (G H:Hp) (δ:DS),Inv X pins σ H s->RepSt X.K G H σ δ->f δ≠.stuck ->
  wpAny (model X.prog X.w) X.A (exec st X.env) (SPost X pins G H (f δ)) (SX X pins G H s.heap (f δ)) s
noncomputable def PSDs (X:Cx) (st:List Stmt) (f:DS->Out):Prop :=
 ∀(pins:List (Addr×Obj)) (s:Shared) (σ:St) (G H:Hp) (δ:DS),Inv X pins σ H s->RepSt X.K G H σ δ->f δ≠.stuck ->
  wpAny (model X.prog X.w) X.A (execs st X.env) (SPost X pins G H (f δ)) (SX X pins G H s.heap (f δ)) s
noncomputable def kI (r:Res D) (δ:DS) (k:D->Out):Out:=match r with
 | .stuck=>.stuck
 | .ok d=>k d
 | .err x=>.err x δ
noncomputable def wL (r:Res Bool) (δ:DS) (k:Bool->Out):Out:=match r with
 | .stuck=>.stuck
 | .ok d=>k d
 | .err x=>.err x δ
theorem yt {r:Res D} {δ:DS} {k:D->Out} (h:kI r δ k≠.stuck):r≠.stuck:=fun q=>h (by rw [q]; rfl)
theorem Pb {r:Res Bool} {δ:DS} {k:Bool->Out} (h:wL r δ k≠.stuck):r≠.stuck:=fun q=>h (by rw [q]; rfl)
section
variable {X:Cx} {pins:List (Addr×Obj)} {G H H1:Hp} {h0 h1:Heap} {s1:Shared} {fl:Flow} {o o':Out} {e:Value}
theorem SPost.from (p:SPost X pins G H1 o fl s1) (t:TK H H1) (q:o=o'):SPost X pins G H o' fl s1:=by
 subst q
 cases fl with
 | next=>obtain ⟨δ',σ',H',q1,q2,q3,q4⟩:=p; exact ⟨δ',σ',H',q1,q2,t.trans q3,q4⟩
 | brk=>obtain ⟨δ',σ',H',q1,q2,q3,q4⟩:=p; exact ⟨δ',σ',H',q1,q2,t.trans q3,q4⟩
 | cont=>obtain ⟨δ',σ',H',q1,q2,q3,q4⟩:=p; exact ⟨δ',σ',H',q1,q2,t.trans q3,q4⟩
 | ret u=>obtain ⟨d,v,σ',H',q1,q2,q3,q4,q5,q6⟩:=p; exact ⟨d,v,σ',H',q1,q2,t.trans q3,q4,q5,q6⟩
theorem SX.from (p:SX X pins G H1 h1 o e s1) (t:TK H H1) (b:Back H h0 h1) (q:o=o'):SX X pins G H h0 o' e s1:=by
 subst q;obtain ⟨x,δ',a,C,σ',H',q1,q2,q3,q4,q5,q6,q7⟩:=p;exact ⟨x,δ',a,C,σ',H',q1,q2,q3,t.trans q4,q5,q6,q7.back t q4 b⟩
theorem XPost.sx {α:Type} {σ:St} {δ:DS} {r:Res α} (p:XPost X pins σ H h0 r e s1) (R:RepSt X.K G H σ δ) (q:∀x,r=.err x->o=.err x δ):SX X pins G H h0 o e s1:=by
 obtain ⟨x,a,C,H1,q1,q2,q3,q4,q5,q6⟩:=p;exact ⟨x,δ,a,C,σ,H1,q x q1,q2,q3,q4.tk,R.mono q4,q5,q6⟩
theorem Pg {t:Sem Flow} {s:Shared} {σ:St} (h:∀pins,Inv X pins σ H s->wpAny (model X.prog X.w) X.A t (SPost X pins G H o) (SX X pins G H s.heap o) s) (I:Inv X pins σ H s) {P:Flow->Shared->Prop} {E:Value->Shared->Prop}
  (k:∀fl s1,SPost X pins G H o fl s1->Back H s.heap s1.heap->P fl s1) (kx:∀e s1,SX X pins G H s.heap o e s1->E e s1):wpAny (model X.prog X.w) X.A t P E s:=by
 refine wpAny_mono (h (pins ++ jE X H s.heap) I.all) (fun fl s1 p=>?_) fun e s1 ⟨x,δ',a,C,σ',H',q1,q2,q3,q4,q5,q6,q7⟩=>kx e s1 ⟨x,δ',a,C,σ',H',q1,q2,q3.unpinned,q4,q5,q6,q7⟩
 cases fl with
 | next=>obtain ⟨δ',σ',H',q1,q2,q3,q4⟩:=p; exact k .next s1 ⟨δ',σ',H',q1,q2.unpinned,q3,q4⟩ (I.backTo q2)
 | brk=>obtain ⟨δ',σ',H',q1,q2,q3,q4⟩:=p; exact k .brk s1 ⟨δ',σ',H',q1,q2.unpinned,q3,q4⟩ (I.backTo q2)
 | cont=>obtain ⟨δ',σ',H',q1,q2,q3,q4⟩:=p; exact k .cont s1 ⟨δ',σ',H',q1,q2.unpinned,q3,q4⟩ (I.backTo q2)
 | ret u=>obtain ⟨d,v,σ',H',q1,q2,q3,q4,q5,q6⟩:=p; exact k (.ret u) s1 ⟨d,v,σ',H',q1,q2.unpinned,q3,q4,q5,q6⟩ (I.backTo q2)
end
section
variable {X:Cx} {st:Stmt} {rest:List Stmt} {f g:DS->Out} {e:Expr} {fe:DS->Res D} {pos:Pos}
theorem cN:PSDs X [] Out.nxt:=fun pins s σ G H δ I R _=>wpAny_execs_nil ⟨δ,σ,H,rfl,I,TK.refl H,R⟩
noncomputable def aB (f g:DS->Out):DS->Out:=fun δ=>(f δ).seq g
theorem aP (h1:PSD X st f) (h2:PSDs X rest g):PSDs X (st :: rest) (aB f g):=by
 intro pins s σ G H δ I R hs
 try dsimp only at hs ⊢
 have hf:f δ≠.stuck:=fun q=>hs (by unfold aB; rw [q]; rfl);refine wpAny_execs_cons (Pg (fun pins I=>h1 pins s σ G H δ I R hf) I (fun fl s1 p b=>?_) fun e s1 p=>?_)
 ·cases fl with
  | next =>
   obtain ⟨δ',σ',H',q1,q2,q3,q4⟩:=p;have ev:aB f g δ=g δ':=by unfold aB; rw [q1]; rfl
   exact wpAny_mono (h2 pins s1 σ' G H' δ' q2 q4 fun z=>hs (ev.trans z)) (fun fl s2 p2=>p2.from q3 ev.symm) fun e s2 p2=>p2.from q3 b ev.symm
  | brk=>obtain ⟨δ',σ',H',q1,q2,q3,q4⟩:=p; exact ⟨δ',σ',H',by unfold aB; rw [q1]; rfl,q2,q3,q4⟩
  | cont=>obtain ⟨δ',σ',H',q1,q2,q3,q4⟩:=p; exact ⟨δ',σ',H',by unfold aB; rw [q1]; rfl,q2,q3,q4⟩
  | ret u=>obtain ⟨d,v,σ',H',q1,q2⟩:=p; exact ⟨d,v,σ',H',by unfold aB; rw [q1]; rfl,q2⟩
 ·obtain ⟨x,δ',a,C,σ',H',q1,q2⟩:=p;exact ⟨x,δ',a,C,σ',H',by unfold aB; rw [q1]; rfl,q2⟩
theorem aX (h1:PSD X st f):PSDs X [st] f:=by
 intro pins s σ G H δ I R hs
 try dsimp only at hs ⊢
 refine wpAny_execs_cons (wpAny_mono (h1 pins s σ G H δ I R hs) (fun fl s1 p=>?_) fun e s1 p=>p)
 cases fl with
 | next=>exact wpAny_execs_nil p
 | brk=>exact p
 | cont=>exact p
 | ret u=>exact p
noncomputable def NOut (X:Cx) (G H:Hp) (o:Out) (E:Ends):Prop:=match o with
 | .stuck=>False
 | .nxt δ=>∀σ' H',TK H H'->RepSt X.K G H' σ' δ->E.nx σ' H'
 | .ret d=>∀v H',TK H H'->Same G H'->Rep X.K H' d v->E.rt v H'
 | .brk δ=>∀σ' H',TK H H'->RepSt X.K G H' σ' δ->E.bk σ' H'
 | .cnt δ=>∀σ' H',TK H H'->RepSt X.K G H' σ' δ->E.ct σ' H'
 | .err _ _=>False
noncomputable def sD (X:Cx) (f:DS->Out):TS:=fun E σ H=>∃G δ,RepSt X.K G H σ δ/\NOut X G H (f δ) E
theorem NOut.tk {X:Cx} {G H H1:Hp} {o:Out} {E:Ends} (h:NOut X G H o E) (t:TK H H1):NOut X G H1 o E:=by
 cases o with
 | stuck=>exact h
 | nxt δ=>exact fun σ' H' t' r=>h σ' H' (t.trans t') r
 | ret d=>exact fun v H' t' r=>h v H' (t.trans t') r
 | brk δ=>exact fun σ' H' t' r=>h σ' H' (t.trans t') r
 | cnt δ=>exact fun σ' H' t' r=>h σ' H' (t.trans t') r
 | err x δ=>exact h
theorem Ji {pins:List (Addr×Obj)} {G H:Hp} {o:Out} {E:Ends} {fl:Flow} {s1:Shared} {W:Value->Shared->Prop} (h:NOut X G H o E) (p:SPost X pins G H o fl s1):SP (X.wish W) pins E fl s1:=by
 cases fl with
 | next=>obtain ⟨δ',σ',H',q1,q2,q3,q4⟩:=p; subst q1; exact ⟨σ',H',q2.wish _,h σ' H' q3 q4⟩
 | brk=>obtain ⟨δ',σ',H',q1,q2,q3,q4⟩:=p; subst q1; exact ⟨σ',H',q2.wish _,h σ' H' q3 q4⟩
 | cont=>obtain ⟨δ',σ',H',q1,q2,q3,q4⟩:=p; subst q1; exact ⟨σ',H',q2.wish _,h σ' H' q3 q4⟩
 | ret u=>obtain ⟨d,v,σ',H',q1,q2,q3,q4,q5,q6⟩:=p; subst q1; exact ⟨v,σ',H',q2.wish _,q5,h v H' q3 q4 q6⟩
theorem NOut.ns {G H:Hp} {o:Out} {E:Ends} (h:NOut X G H o E):o≠.stuck:=fun q=>by subst q; exact h
theorem NOut.sx {pins:List (Addr×Obj)} {G H:Hp} {h0:Heap} {o:Out} {E:Ends} {e:Value} {s1:Shared} (h:NOut X G H o E) (p:SX X pins G H h0 o e s1):False:=by
 obtain ⟨x,δ',_,_,_,_,q,_⟩:=p; subst q; exact h
theorem PSDs.ps (h:PSDs X rest f):PSs X.nox rest (sD X f):=by
 intro pins s σ H E I ⟨G,δ,R,n⟩;exact wpAny_mono (h pins s σ G H δ I.unwish R n.ns) (fun fl s1 p=>Ji n p) fun e s1 p=>n.sx p
theorem PSD.ps (h:PSD X st f):PS X.nox st (sD X f):=by
 intro pins s σ H E I ⟨G,δ,R,n⟩;exact wpAny_mono (h pins s σ G H δ I.unwish R n.ns) (fun fl s1 p=>Ji n p) fun e s1 p=>n.sx p
theorem PTD.pt {c:Expr} {tc:DS->Res Bool} (h:PTD X c tc):PT X.nox c (fun σ H Q=>∃G δ d,RepSt X.K G H σ δ/\tc δ=.ok d/\∀H',Same H H'->Q d H'):=by
 intro pins s σ H Q I ⟨G,δ,d,R,q,n⟩;refine wpAny_mono (h pins s σ G H δ I.unwish R (by rw [q]; intro z; cases z)) (fun b s1 ⟨H1,q1,I1,e1⟩=>?_) fun e s1 p=>?_
 ·rw [q] at q1; cases q1;exact ⟨H1,I1.wish _,n H1 e1⟩
 ·rw [q] at p; exact p.none
theorem PAD.pa {es:List Expr} {fs:DS->Res (List D)} (h:PAD X es fs):PA X.nox es (fun σ H Q=>∃G δ ds,RepSt X.K G H σ δ/\fs δ=.ok ds/\∀vs H',Same H H'->Reps X.K H' ds vs->Q vs H'):=by
 intro pos pins s σ H Q I ⟨G,δ,d,R,q,n⟩;refine wpAny_mono (h pos pins s σ G H δ I.unwish R (by rw [q]; intro z; cases z)) (fun b s1 ⟨d',v,H1,q1,I1,r1,e1,p1⟩=>?_) fun e s1 p=>?_
 ·rw [q] at q1; cases q1;exact ⟨v,H1,I1.wish _,r1,n v H1 e1 p1⟩
 ·rw [q] at p; exact p.none
theorem Jj (hne:∀δ x δ',f δ≠.err x δ') (h:PS X.nox st (sD X f)):PSD X st f:=by
 intro pins s σ G H δ I R hs
 try dsimp only at hs ⊢
 let E:Ends:={ nx:=fun σ' H'=>∃δ',f δ=.nxt δ'/\TK H H'/\RepSt X.K G H' σ' δ',rt:=fun v H'=>∃d,f δ=.ret d/\TK H H'/\Same G H'/\Rep X.K H' d v,bk:=fun σ' H'=>∃δ',f δ=.brk δ'/\TK H H'/\RepSt X.K G H' σ' δ',ct:=fun σ' H'=>∃δ',f δ=.cnt δ'/\TK H H'/\RepSt X.K G H' σ' δ' }
 have n:NOut X G H (f δ) E:=by
  cases q:f δ with
  | stuck=>exact (hs q).elim
  | nxt δ'=>exact fun σ' H' t r=>⟨δ',q,t,r⟩
  | brk δ'=>exact fun σ' H' t r=>⟨δ',q,t,r⟩
  | cnt δ'=>exact fun σ' H' t r=>⟨δ',q,t,r⟩
  | ret d=>exact fun v H' t g r=>⟨d,q,t,g,r⟩
  | err x δ'=>exact (hne δ x δ' q).elim
 refine wpAny_mono (h pins s σ H E (I.wish _) ⟨G,δ,R,n⟩) (fun fl s1 p=>?_) fun e s1 p=>p.elim
 cases fl with
 | next=>obtain ⟨σ',H',q2,δ',q1,q3,q4⟩:=p; exact ⟨δ',σ',H',q1,q2.unwish,q3,q4⟩
 | brk=>obtain ⟨σ',H',q2,δ',q1,q3,q4⟩:=p; exact ⟨δ',σ',H',q1,q2.unwish,q3,q4⟩
 | cont=>obtain ⟨σ',H',q2,δ',q1,q3,q4⟩:=p; exact ⟨δ',σ',H',q1,q2.unwish,q3,q4⟩
 | ret u=>obtain ⟨v,σ',H',q2,q5,d,q1,q3,q4,q6⟩:=p; exact ⟨d,v,σ',H',q1,q2.unwish,q3,q4,q5,q6⟩
theorem bB (he:PD X e fe):PSD X (.Return (some e) pos) (fun δ=>kI (fe δ) δ Out.ret):=by
 intro pins s σ G H δ I R hs
 try dsimp only at hs ⊢
 refine wpAny_Return_some (he.use I R (yt hs) (fun d u s1 v H1 q I1 r1 e1 b1 p1=>⟨d,v,σ,H1,by rw [q]; rfl,I1,e1.tk,R.same.trans e1,r1,p1⟩) fun e s1 q=>q.sx R fun x z=>by rw [z]; rfl)
theorem cM {c:Expr} {a b:List Stmt} {tc:DS->Res Bool} {fa fb:DS->Out} (hc:PTD X c tc) (ha:PSDs X a fa) (hb:PSDs X b fb):PSD X (.If c a b pos) (fun δ=>wL (tc δ) δ fun k=>if k=true then fa δ else fb δ):=by
 intro pins s σ G H δ I R hs
 try dsimp only at hs ⊢
 refine wpAny_If (hc.use I R (Pb hs) (fun k s1 H1 q I1 e1 b1=>?_) fun e s1 q=>q.sx R fun x z=>by rw [z]; rfl)
 cases k with
 | true =>
  have ev:wL (tc δ) δ (fun k=>if k=true then fa δ else fb δ)=fa δ:=by rw [q]; rfl
  exact wpAny_mono (ha pins s1 σ G H1 δ I1 (R.mono e1) fun z=>hs (ev.trans z)) (fun fl s2 p=>p.from e1.tk ev.symm) fun e s2 p=>p.from e1.tk b1 ev.symm
 | false =>
  have ev:wL (tc δ) δ (fun k=>if k=true then fa δ else fb δ)=fb δ:=by rw [q]; rfl
  exact wpAny_mono (hb pins s1 σ G H1 δ I1 (R.mono e1) fun z=>hs (ev.trans z)) (fun fl s2 p=>p.from e1.tk ev.symm) fun e s2 p=>p.from e1.tk b1 ev.symm
noncomputable def aD (i:Nat) (fe:DS->Res D):DS->Out:=fun δ=>kI (fe δ) δ fun d=>.nxt (δ.set i (some (.val d)))
theorem bF (i:Nat) {x:Str} {pos':Pos} (he:PD X e fe) (hN:X.N.Nodup) (hi:X.N[i]? = some x:=by rfl) (hx:Loc X.env.scope x:=by first | exact Or.inl rfl | exact Or.inr rfl) (hw:swapsWith e (some (.Name x pos')) pos.line X.env=pure false:=by rfl)
  (hf:X.fn x=true\/X.env.scope.names.lookup x=some .local:=by first | exact .inl rfl | exact .inr rfl | assumption):PSD X (.Assign [.Name x pos'] e pos) (aD i fe):=by
 intro pins s σ G H δ I R hs
 try dsimp only at hs ⊢
 refine wpAny_Assign_Name (he.use I R (yt hs) (fun d u s1 v H1 q I1 r1 e1 b1 p1=>?_) fun e s1 q=>q.sx R fun x z=>by unfold aD; rw [z]; rfl) hw;exact Ih I1 hN hi hx r1 (fun s2 I2=>⟨_,_,H1,by unfold aD; rw [q]; rfl,I2,e1.tk,(R.mono e1).set i p1⟩) hf
abbrev gM:=D->DS->Option DS
noncomputable def PGD (X:Cx) (tg:Expr) (t:gM):Prop :=
 ∀(E:Value->Shared->Prop) (pins:List (Addr×Obj)) (s:Shared) (σ:St) (G H:Hp) (δ δ':DS) (d:D) (v:V) (u:Value),Inv X pins σ H s->RelV v u->RepSt X.K G H σ δ->Rep X.K H d v->t d δ=some δ' ->
  wpAny (model X.prog X.w) X.A (assign tg X.env u) (fun _ s1=>∃σ',Inv X pins σ' H s1/\RepSt X.K G H σ' δ') E s
theorem bm' (i:Nat) {x:Str} (hN:X.N.Nodup) (hi:X.N[i]? = some x:=by rfl) (hx:Loc X.env.scope x:=by first | exact Or.inl rfl | exact Or.inr rfl) (hf:X.fn x=true\/X.env.scope.names.lookup x=some .local:=by first | exact .inl rfl | exact .inr rfl | assumption) :
  PGD X (.Name x pos) (fun d δ=>some (δ.set i (some (.val d)))):=by
 intro E pins s σ G H δ δ' d v u I r R p e
 cases e
 exact gP (hQ' (X:=X.wish E) hN hi hx hf pins s σ H v u (fun σ' H'=>σ'=σ.set i (some v)/\H'=H) (I.wish _) r ⟨rfl,rfl⟩) fun _ s1 ⟨σ',H',I',e1,e2⟩=>by
  subst e1 e2;exact ⟨_,I'.unwish,R.set i p⟩
noncomputable def dO:List Nat->List D->DS->Option DS
 | [],[],δ=>some δ
 | i :: is,d :: ds,δ=>dO is ds (δ.set i (some (.val d)))
 | _,_,_=>none
theorem Jk:∀{is:List Nat} {ds:List D} {δ δ':DS},dO is ds δ=some δ'->ds.length=is.length
 | [],[],_,_,_=>rfl
 | [],_ :: _,_,_,h=>by simp [dO] at h
 | _ :: _,[],_,_,h=>by simp [dO] at h
 | i :: is,d :: ds,δ,δ',h=>by
  have:=Jk (is:=is) (ds:=ds) (by simpa [dO] using h);simp [this]
noncomputable def Dm (X:Cx) (is:List Nat):vR:=fun vs σ H Q=>∃G δ ds δ',RepSt X.K G H σ δ/\Reps X.K H ds vs/\dO is ds δ=some δ'/\∀σ',RepSt X.K G H σ' δ'->Q σ' H
theorem bs':vU X [] (Dm X []):=by
 intro pins s σ H vs us Q I r h;obtain ⟨G,δ,ds,δ',R,p,e,q⟩:=h
 cases ds with
 | nil =>
  cases e
  exact Nk pins s σ H vs us Q I r ⟨p.nil_of,q σ R⟩
 | cons d ds=>cases e
theorem qj (i:Nat) {is:List Nat} {x:Str} {es:List Expr} (hN:X.N.Nodup) (h2:vU X es (Dm X is)) (hi:X.N[i]? = some x:=by rfl) (hx:Loc X.env.scope x:=by first | exact Or.inl rfl | exact Or.inr rfl)
  (hf:X.fn x=true\/X.env.scope.names.lookup x=some .local:=by first | exact .inl rfl | exact .inr rfl | assumption) (hs:(assignEach (.Name x pos :: es) X.env).map (·.2)=assign (.Name x pos) X.env :: (assignEach es X.env).map (·.2):=by rfl) :
  vU X (.Name x pos :: es) (Dm X (i :: is)):=by
 intro pins s σ H vs us Q I r h;obtain ⟨G,δ,ds,δ',R,p,e,q⟩:=h
 cases ds with
 | nil=>cases e
 | cons d ds =>
  obtain ⟨v,ws,rfl,p1,p2⟩:=p.cons_of;exact Np (hQ' hN hi hx hf) h2 hs pins s σ H _ us Q I r ⟨v,ws,rfl,G,_,ds,δ',R.set i p1,p2,e,q⟩
noncomputable def bW (is:List Nat):gM:=fun d δ=>match d with
 | .tup ds=>dO is ds δ
 | _=>none
theorem yu {es:List Expr} {k:Nat} {is:List Nat} (hc:X.calm=true) (h:∀E,vU (X.wish E) es (Dm X is)) (hn:(assignEach es X.env).length=is.length:=by rfl) (hst:(assignEach es X.env).findIdx? (·.1)=none:=by rfl):PGD X (.Tuple es k pos) (bW is):=by
 intro E pins s σ G H δ δ' d v u I r R p e
 cases d with
 | tup ds =>
  obtain ⟨a,xs,rfl,w1,w2⟩:=eE p;exact gP (Nq (X:=X.wish E) hc (h E) hn hst pins s σ H _ u (fun σ' H'=>H'=H/\RepSt X.K G H σ' δ') (I.wish _) r ⟨a,xs,rfl,w1,by rw [w2.length]; exact Jk e,G,δ,ds,δ',R,w2,e,fun σ' R'=>⟨rfl,R'⟩⟩) fun _ s1 ⟨σ',H',I',e1,e2⟩=>by
   subst e1;exact ⟨σ',I'.unwish,e2⟩
 | _=>cases e
end
noncomputable def bK (c:DS->Res Bool) (b:DS->Out):Nat->DS->Out
 | 0,_=>.stuck
 | n + 1,δ=>match c δ with
  | .ok true=>(match b δ with
   | .nxt δ'=>bK c b n δ'
   | .cnt δ'=>bK c b n δ'
   | .brk δ'=>.nxt δ'
   | .ret d=>.ret d
   | _=>.stuck)
  | .ok false=>.nxt δ
  | _=>.stuck
theorem eS' (c:DS->Res Bool) (b:DS->Out):∀(n:Nat) (δ:DS) (x:Exn) (δ':DS),bK c b n δ≠.err x δ'
 | 0,_,_,_,h=>by simp [bK] at h
 | n + 1,δ,x,δ',h=>by
  rw [bK] at h
  split at h
  ·split at h <;> first | exact eS' c b n _ x δ' h | cases h
  ·cases h
  ·cases h
theorem Fw {X:Cx} {c:Expr} {body:List Stmt} {tc:DS->Res Bool} {fb:DS->Out} {pos:Pos} (fuel:DS->Nat) (hc:PTD X c tc) (hb:PSDs X body fb) :
  PSD X (.While c body [] pos) (fun δ=>bK tc fb (fuel δ) δ):=by
 refine Jj (fun δ=>eS' tc fb (fuel δ) δ) fun pins s σ H E I h=>?_;obtain ⟨G,δ,R,h⟩:=h;refine Nr PassesOwn.never hc.pt hb.ps pins s σ H E I ⟨fun m σ' H'=>∃δ',RepSt X.K G H' σ' δ'/\NOut X G H' (bK tc fb m δ') E,⟨fuel δ,δ,R,h⟩,?_⟩
 rintro m σ1 H1 ⟨δ1,R1,h1⟩
 cases m with
 | zero=>exact h1.elim
 | succ m =>
  rw [bK] at h1
  cases q:tc δ1 with
  | stuck=>simp only [q] at h1; exact h1.elim
  | err x=>simp only [q] at h1; exact h1.elim
  | ok k =>
   refine ⟨G,δ1,k,R1,q,fun H2 e2=>?_⟩
   cases k with
   | false =>
    simp only [q] at h1;rw [if_neg Bool.false_ne_true];exact h1 σ1 H2 e2.tk (R1.mono e2)
   | true =>
    simp only [q] at h1;rw [if_pos rfl];refine ⟨fun σ' H'=>∃δ',RepSt X.K G H' σ' δ'/\NOut X G H' (bK tc fb m δ') E,fun σ' H' z=>⟨m,Nat.lt_succ_self m,z⟩,G,δ1,R1.mono e2,?_⟩
    cases z:fb δ1 with
    | stuck=>rw [z] at h1; exact h1
    | err x δ'=>rw [z] at h1; exact h1
    | nxt δ'=>rw [z] at h1; exact fun σ' H' t r=>⟨δ',r,h1.tk (e2.tk.trans t)⟩
    | cnt δ'=>rw [z] at h1; exact fun σ' H' t r=>⟨δ',r,h1.tk (e2.tk.trans t)⟩
    | brk δ'=>rw [z] at h1; exact fun σ' H' t r=>h1 σ' H' (e2.tk.trans t) r
    | ret d=>rw [z] at h1; exact fun v H' t g r=>h1 v H' (e2.tk.trans t) g r
noncomputable def dg (t:gM) (b:DS->Out):List D->DS->Out
 | [],δ=>.nxt δ
 | d :: ds,δ=>match t d δ with
  | none=>.stuck
  | some δ1=>match b δ1 with
   | .nxt δ'=>dg t b ds δ'
   | .cnt δ'=>dg t b ds δ'
   | .brk δ'=>.nxt δ'
   | .ret d=>.ret d
   | _=>.stuck
theorem Jl (t:gM) (b:DS->Out):∀(ds:List D) (δ:DS) (x:Exn) (δ':DS),dg t b ds δ≠.err x δ'
 | [],_,_,_,h=>by simp [dg] at h
 | d :: ds,δ,x,δ',h=>by
  rw [dg] at h
  split at h
  ·cases h
  ·split at h <;> first | exact Jl t b ds _ x δ' h | cases h
noncomputable def cL (lo:Int):Nat->List D
 | 0=>[]
 | n + 1=>.int lo :: cL (lo + 1) n
theorem Ph (lo:Int) (n i:Nat) (h:i < n):(cL lo n).drop i=.int (lo + i) :: (cL lo n).drop (i + 1):=by
 induction i generalizing lo n with
 | zero =>
  cases n with
  | zero=>omega
  | succ n=>simp [cL]
 | succ i ih =>
  cases n with
  | zero=>omega
  | succ n =>
   have q:=ih (lo + 1) n (by omega);simp only [cL,drop_succ_cons];rw [q];have:lo + 1 + (i:Int)=lo + ((i + 1:Nat):Int):=by omega
   rw [this]
theorem Jm (lo:Int) (n:Nat):(cL lo n).length=n:=by
 induction n generalizing lo with
 | zero=>rfl
 | succ n ih=>simp [cL,ih]
noncomputable def gD (X:Cx) (t:gM):TG:=fun v σ H Q=>∃G δ d δ',RepSt X.K G H σ δ/\Rep X.K H d v/\t d δ=some δ'/\∀σ',RepSt X.K G H σ' δ'->Q σ' H
noncomputable def Dn (r:Res (List D)) (k:List D->Out):Out:=match r with
 | .ok d=>k d
 | _=>.stuck
theorem Pj {r:Res (List D)} {k:List D->Out} (h:∀ds x δ',k ds≠.err x δ') (x:Exn) (δ':DS):Dn r k≠.err x δ':=by
 cases r with
 | ok d=>exact h d x δ'
 | stuck=>intro z; cases z
 | err _=>intro z; cases z
section
variable {X:Cx} {tg iter:Expr} {body:List Stmt} {t:gM} {fb:DS->Out} {pos:Pos} {G H:Hp} {E:Ends}
theorem PGD.pg (h:PGD X tg t):PG X.nox tg (gD X t):=by
 intro pins s σ H v u Q I r hq;obtain ⟨G,δ,d,δ',R,p,e,q⟩:=hq;exact gP (h _ pins s σ G H δ δ' d v u I.unwish r R p e) fun _ s1 ⟨σ',I',R'⟩=>⟨σ',H,I'.wish _,q σ' R'⟩
theorem Pk {ds:List D} {d:D} {δ:DS} {v:V} {σ:St} {N:St->Hp->Prop} (R:RepSt X.K G H σ δ) (p:Rep X.K H d v) (h:NOut X G H (dg t fb (d :: ds) δ) E)
  (hN:∀δ' σ' H',TK H H'->RepSt X.K G H' σ' δ'->NOut X G H' (dg t fb ds δ') E->N σ' H'):gD X t v σ H fun σ2 H2=>sD X fb { E with nx:=N,ct:=N,bk:=E.nx } σ2 H2:=by
 rw [dg] at h
 cases z:t d δ with
 | none=>rw [z] at h; exact h.elim
 | some δ1 =>
  rw [z] at h;refine ⟨G,δ,d,δ1,R,p,z,fun σ' R'=>⟨G,δ1,R',?_⟩⟩;simp only at h
  cases q:fb δ1 with
  | stuck=>rw [q] at h; exact h
  | err x δ'=>rw [q] at h; exact h
  | nxt δ'=>rw [q] at h; exact fun σ2 H2 t2 r2=>hN δ' σ2 H2 t2 r2 (h.tk t2)
  | cnt δ'=>rw [q] at h; exact fun σ2 H2 t2 r2=>hN δ' σ2 H2 t2 r2 (h.tk t2)
  | brk δ'=>rw [q] at h; exact fun σ2 H2 t2 r2=>h σ2 H2 t2 r2
  | ret d=>rw [q] at h; exact fun v H2 t2 g r2=>h v H2 t2 g r2
noncomputable def lW:List D->Res (List D)
 | [.int j]=>if -(2 ^ 62)<=j/\j < 2 ^ 62 then .ok (cL 0 j.toNat) else .stuck
 | _=>.stuck
noncomputable def qw:List D->Res (List D)
 | [.int i,.int j]=>if -(2 ^ 62)<=i/\i < 2 ^ 62/\-(2 ^ 62)<=j/\j < 2 ^ 62 then .ok (cL i (j - i).toNat) else .stuck
 | _=>.stuck
end
theorem Pn (o:Obj) (f):(o.mapFields f).dict=o.dict:=by
 obtain ⟨c,d,dt,sl⟩:=o; cases dt <;> rfl
noncomputable def FlyT (h0:Heap) (H:Hp) (h:Heap) (e:Addr) (cls:Value×Option Addr) (fl:Value):Prop :=
 gm h0 e/\H e=none/\∃oe vs a0 T oT ts,h.get? e=some oe/\(oe.cls=cls.1/\oe.dict=cls.2)/\oe.data=.fields vs/\vs[0]? = some a0/\vs[1]? = some (.ref T)/\gm h0 T/\H T=none/\T≠e/\h.get? T=some oT/\oT.data=.fields ts/\ts[3]? = some fl
theorem FlyT.fly {h0:Heap} {H:Hp} {h:Heap} {e:Addr} {cls:Value×Option Addr} (f:FlyT h0 H h e cls .none):Fly h0 H h e cls:=by
 obtain ⟨n,he,oe,vs,a0,T,oT,ts,q1,q2,q3,q4,q5,q6⟩:=f;exact ⟨n,he,oe,vs,a0,q1,q2,q3,q4,.inr ⟨T,oT,ts,q5,q6⟩⟩
noncomputable def gA (h:Heap) (e b:Addr):Prop:=b=e\/∃oe vs,h.get? e=some oe/\oe.data=.fields vs/\vs[1]? = some (.ref b)
structure KF (e:Addr) (fs:List Addr) (h h':Heap):Prop where
 keep:∀b o,h.get? b=some o->b∉fs->¬gA h e b->h'.get? b=some o
 slot:∀b o,h.get? b=some o->b∈fs->¬gA h e b->∃sl,h'.get? b=some { o with slots:=sl }
 there:∀b o,h.get? b=some o->∃o',h'.get? b=some o'
theorem Fly.ex {h0 h:Heap} {H:Hp} {e b:Addr} {cls:Value×Option Addr} (f:Fly h0 H h e cls) (x:gA h e b):gm h0 b/\H b=none/\∃o vs,h.get? b=some o/\o.data=.fields vs:=by
 obtain ⟨n,he,oe,vs,a0,q1,q2,q3,q4,q5⟩:=f;rcases x with rfl | ⟨oe',vs',w1,w2,w3⟩
 ·exact ⟨n,he,oe,vs,q1,q3⟩
 ·rw [q1] at w1; cases w1;rw [q3] at w2; cases w2;rcases q5 with q5 | ⟨T,oT,ts,z1,z2,z3,z4,z5,z6,z7⟩
  ·rw [q5] at w3; cases w3
  ·rw [z1] at w3; cases w3;exact ⟨z2,z3,oT,ts,z5,z6⟩
theorem FlyT.ex {h0 h:Heap} {H:Hp} {e b:Addr} {cls:Value×Option Addr} {fl:Value} (f:FlyT h0 H h e cls fl) (x:gA h e b):gm h0 b/\H b=none/\∃o vs,h.get? b=some o/\o.data=.fields vs:=by
 obtain ⟨n,he,oe,vs,a0,T,oT,ts,q1,q2,q3,q4,z1,z2,z3,z4,z5,z6,z7⟩:=f;rcases x with rfl | ⟨oe',vs',w1,w2,w3⟩
 ·exact ⟨n,he,oe,vs,q1,q3⟩
 ·rw [q1] at w1; cases w1;rw [q3] at w2; cases w2;rw [z1] at w3; cases w3;exact ⟨z2,z3,oT,ts,z5,z6⟩
section
variable {M:Model} {A:Around} {E:Value->Shared->Prop} {s:Shared} {base h0:Heap} {H:Hp} {env:Env} {outer:List Env} {L e:Addr} {Q:Unit->Shared->Prop}
theorem Jo {oe:Obj} {vs:Array Value} {head a0:Value} {hadNext:Bool}
  (hfr:A.frames=some (env :: outer)) (hl:s.heap.FunFrames base (env :: outer)) (hf:env.frame=some L) (hz:h0.objs.size<=s.heap.objs.size) (hn:∀b,s.heap.objs.size<=b->H b=none)
  (nr:gm h0 e) (hH:H e=none) (he:s.heap.get? e=some oe) (hd:oe.data=.fields vs) (hsz:1 < vs.size) (h0':vs[0]? = some a0)
  (h:∀h',(∀b o,b≠e->s.heap.get? b=some o->b∉(env :: outer).filterMap (·.frame)->h'.get? b=some o)->(∀b o,b≠e->s.heap.get? b=some o->∃sl,h'.get? b=some { o with slots:=sl })->FlyT h0 H h' e (oe.cls,oe.dict) (rawInt L)->(∀b,gA h' e b->b=e\/s.heap.objs.size<=b)->Q () { s with heap:=h' }) :
  wpAny M A (do let a <- frameOf env; let pl <- entryPlaceOf L hadNext; let b <- EntryCells.newEntry head a .none (rawInt L) .none pl; setField (.ref e) 1 b) Q E s:=by
 have hene:e∉(env :: outer).filterMap (·.frame):=fun hm=>by
  obtain ⟨_,o,ho,hnf⟩:=hl.mem hm;rw [he] at ho; injection ho with ho; subst ho; exact hnf vs hd
 refine wpAny_bind (wpAny_frameOf_fun hfr hl hf fun h₁ hs₁=>?_);refine wpAny_bind (wpAny_entryPlaceOf fun pl hpl=>?_);unfold EntryCells.newEntry newFields;refine wpAny_bind (wpAny_newObj_type ?_ (hpl.sizeOk5 _ _ _ _ _));have he₁:h₁.get? e=some oe:=(hs₁.2.1 e hene).trans he;generalize hob:({ cls:=.type "traceback",dict:=none,data:=.fields ([head,.ref L,.none,rawInt L,.none] ++ (if pl.isEmpty then List.replicate 6 Value.none else pl)).toArray }:Obj)=ob
 have hobd:ob.data=.fields ([head,.ref L,.none,rawInt L,.none] ++ (if pl.isEmpty then List.replicate 6 Value.none else pl)).toArray:=by rw [<- hob]
 have hobf:ob.isFreed=false:=Obj.isFreed_of_fields hobd;have he₂:=Heap.get?_push_of_some (h:=h₁) ob he₁;refine wpAny_setField he₂ hd hsz ?_;have hTe:h₁.objs.size≠e:=Nat.ne_of_gt (Heap.lt_size he₁);have hd₃:=Obj.data_mapFields hd (·.setIfInBounds 1 (Value.ref h₁.objs.size));have he₃:=Heap.get?_update_self (Obj.mapFields (·.setIfInBounds 1 (Value.ref h₁.objs.size))) he₂ (Obj.isFreed_of_fields hd₃);have hT₃:=(Heap.get?_update_other (h₁.push ob) (Obj.mapFields (·.setIfInBounds 1 (Value.ref h₁.objs.size))) (Ne.symm hTe)).trans (Heap.get?_push_size h₁ hobf);have keep:∀b o,b≠e->h₁.get? b=some o->((h₁.push ob).update e (Obj.mapFields (·.setIfInBounds 1 (Value.ref h₁.objs.size)))).get? b=some o:=fun b o hbe hb=>by
  rw [Heap.get?_update_other _ _ (Ne.symm hbe)];exact Heap.get?_push_of_some _ hb
 refine h _ (fun b o hbe hb hbf=>keep b o hbe ((hs₁.2.1 b hbf).trans hb)) (fun b o hbe hb=>?_) ⟨nr,hH,_,_,a0,h₁.objs.size,_,_,he₃,⟨Obj.cls_mapFields _ _,Pn _ _⟩,hd₃,?_,?_,?_,?_,hTe,hT₃,hobd,?_⟩ fun b hx=>?_
 ·obtain ⟨sl,hs⟩:=hs₁.2.2 b o hb;exact ⟨sl,keep b _ hbe hs⟩
 ·rw [Array.getElem?_setIfInBounds_ne (by decide)]; exact h0'
 ·simp [hsz]
 ·intro o vs' ho;have:=Heap.lt_size ho;rw [hs₁.1] at this;exact absurd this (Nat.not_lt.mpr hz)
 ·exact hn _ (by rw [hs₁.1]; exact Nat.le_refl _)
 ·simp
 ·rcases hx with z | ⟨oe',vs',w1,w2,w3⟩
  ·exact .inl z
  ·rw [he₃] at w1; cases w1;rw [hd₃] at w2; cases w2;have w4:(vs.setIfInBounds 1 (Value.ref h₁.objs.size))[1]? = some (.ref h₁.objs.size):=by simp [hsz]
   rw [w4] at w3; cases w3;exact .inr (by rw [hs₁.1]; exact Nat.le_refl _)
theorem Pq {cls:Value×Option Addr} {fl:Value} (f:FlyT h0 H s.heap e cls fl) (h:∀h',(∀b o,s.heap.get? b=some o->¬gA s.heap e b->h'.get? b=some o)->(∀b o,s.heap.get? b=some o->∃o',h'.get? b=some o')->FlyT h0 H h' e cls .none->(∀b,gA h' e b->gA s.heap e b)->Q () { s with heap:=h' }):wpAny M A (setFlight (.ref e) none) Q E s:=by
 obtain ⟨nr,hH,oe,vs,a0,T,oT,ts,he,hc,hd,h0',h1,nT,hT,hTe,gT,dT,h3⟩:=f;have hsz:=(Array.getElem?_eq_some_iff.mp h3).1;refine wpAny_setFlight_none he hd h1 gT dT hsz ?_;have other:∀b,b≠T->(s.heap.update T (Obj.mapFields (·.setIfInBounds 3 Value.none))).get? b=s.heap.get? b:=fun b hb=>Heap.get?_update_other _ _ (Ne.symm hb);have hd₃:=Obj.data_mapFields dT (·.setIfInBounds 3 Value.none);have hT₃:=Heap.get?_update_self (Obj.mapFields (·.setIfInBounds 3 Value.none)) gT (Obj.isFreed_of_fields hd₃);refine h _ (fun b o hb hk=>(other b ?_).trans hb) (fun b o hb=>?_) ⟨nr,hH,oe,vs,a0,T,_,_,(other e (Ne.symm hTe)).trans he,hc,hd,h0',h1,nT,hT,hTe,hT₃,hd₃,by simp [hsz]⟩ fun b hx=>?_
 ·rintro rfl
  exact hk (.inr ⟨oe,vs,he,hd,h1⟩)
 ·by_cases hbT:b=T
  ·subst hbT; exact ⟨_,hT₃⟩
  ·exact ⟨o,(other b hbT).trans hb⟩
 ·rcases hx with z | ⟨oe',vs',w1,w2,w3⟩
  ·exact .inl z
  ·exact .inr ⟨oe',vs',(other e (Ne.symm hTe)).symm.trans w1,w2,w3⟩
theorem Pr {cls:Value×Option Addr} (hfr:A.frames=some (env :: outer)) (hl:s.heap.FunFrames base (env :: outer)) (hf:env.frame=some L) (hz:h0.objs.size<=s.heap.objs.size) (hn:∀b,s.heap.objs.size<=b->H b=none)
  (fl:Fly h0 H s.heap e cls) (h:∀h',KF e ((env :: outer).filterMap (·.frame)) s.heap h'->FlyT h0 H h' e cls .none->(∀b,gA h' e b->b=e\/s.heap.objs.size<=b)->Q () { s with heap:=h' }):wpAny M A (noteFrame (.ref e) env) (fun _ s'=>wpAny M A (setFlight (.ref e) none) Q E s') E s:=by
 have hex:=fun {b}=>fl.ex (b:=b);obtain ⟨nr,hH,oe,vs,a0,he,⟨hc,hdd⟩,hd,h0',q⟩:=fl;obtain ⟨c1,c2⟩:=cls;dsimp only at hc hdd;subst hc hdd;unfold noteFrame;simp only [hf];have fin:∀(hm:Heap),(∀b o,s.heap.get? b=some o->¬gA s.heap e b->hm.get? b=some o)->(∀b o,b≠e->s.heap.get? b=some o->∃o',hm.get? b=some o') ->
   ∀h1,(∀b o,b≠e->hm.get? b=some o->b∉(env :: outer).filterMap (·.frame)->h1.get? b=some o)->(∀b o,b≠e->hm.get? b=some o->∃sl,h1.get? b=some { o with slots:=sl })->FlyT h0 H h1 e (oe.cls,oe.dict) (rawInt L)->(∀b,gA h1 e b->b=e\/s.heap.objs.size<=b) ->
   wpAny M A (setFlight (.ref e) none) Q E { s with heap:=h1 }:=by
  intro hm k1 k2 h1 k4 k5 f1 k6;have nx:∀b o,s.heap.get? b=some o->b≠e->¬gA h1 e b:=fun b o hb hbe hx=>by
   rcases k6 b hx with z | z
   ·exact hbe z
   ·exact absurd (Heap.lt_size hb) (Nat.not_lt.mpr z)
  refine Pq (s:={ s with heap:=h1 }) f1 fun h2 k7 k8 f2 k9=>h h2 ⟨fun b o hb hbf hx=>?_,fun b o hb hbf hx=>?_,fun b o hb=>?_⟩ f2 fun b hx=>k6 b (k9 b hx)
  ·have hbe:b≠e:=fun z=>hx (.inl z);exact k7 b o (k4 b o hbe (k1 b o hb hx) hbf) (nx b o hb hbe)
  ·have hbe:b≠e:=fun z=>hx (.inl z);obtain ⟨sl,q1⟩:=k5 b o hbe (k1 b o hb hx);exact ⟨sl,k7 b _ q1 (nx b o hb hbe)⟩
  ·by_cases hbe:b=e
   ·subst hbe;obtain ⟨_,_,oe',_,_,_,_,_,q1,_⟩:=f1;exact k8 b oe' q1
   ·obtain ⟨o',q1⟩:=k2 b o hbe hb;obtain ⟨sl,q2⟩:=k5 b o' hbe q1;exact k8 b _ q2
 rcases q with h1 | ⟨T,oT,ts,h1,nT,hT,hTe,gT,dT,h3⟩
 ·refine wpAny_bind (wpAny_field he hd h1 ?_);rw [if_neg (by decide)];exact Jo hfr hl hf hz hn nr hH he hd (Array.getElem?_eq_some_iff.mp h1).1 h0' fun h1 k4 k5 f1 k6=>fin s.heap (fun b o hb _=>hb) (fun b o _ hb=>⟨o,hb⟩) h1 k4 k5 f1 k6
 ·refine wpAny_bind (wpAny_field he hd h1 ?_);rw [if_pos (show (Value.ref T != Value.none)=true from by simp)]
  refine wpAny_bind (wpAny_field gT dT h3 ?_);rw [if_neg (show ¬((Value.none == rawInt L)=true) from by simp [rawInt])]
  refine wpAny_bind (wpAny_setField gT dT (Array.getElem?_eq_some_iff.mp h3).1 ?_);have other:∀b,b≠T->(s.heap.update T (Obj.mapFields (·.setIfInBounds 3 Value.none))).get? b=s.heap.get? b:=fun b hb=>Heap.get?_update_other _ _ (Ne.symm hb);have noRecord:∀b o,s.heap.get? b=some o->(∀vs,o.data≠.fields vs)->b≠T:=fun b o hb hnf q=>by
   rw [q,gT] at hb; injection hb with hb; subst hb; exact hnf ts dT
  have hsize:(s.heap.update T (Obj.mapFields (·.setIfInBounds 3 Value.none))).objs.size=s.heap.objs.size:=by simp [Heap.update]
  have hl':(s.heap.update T (Obj.mapFields (·.setIfInBounds 3 Value.none))).FunFrames base (env :: outer):=hl.of_keeps fun b o hb hnf=>⟨o,(other b (noRecord b o hb hnf)).trans hb,rfl⟩;refine Jo (s:={ s with heap:=s.heap.update T (Obj.mapFields (·.setIfInBounds 3 Value.none)) }) hfr hl' hf (by rw [hsize]; exact hz) (fun b hb=>hn b (by rw [hsize] at hb; exact hb)) nr hH ((other e (Ne.symm hTe)).trans he) hd (Array.getElem?_eq_some_iff.mp h1).1 h0' fun h1' k4 k5 f1 k6=>fin _ (fun b o hb hx=>(other b fun z=>?_).trans hb) (fun b o hbe hb=>?_) h1' k4 k5 f1 (by rw [hsize] at k6; exact k6)
  ·subst z; exact hx (.inr ⟨oe,vs,he,hd,h1⟩)
  ·by_cases hbT:b=T
   ·subst hbT; exact ⟨_,Heap.get?_update_self _ gT (Obj.isFreed_of_fields (Obj.data_mapFields dT (·.setIfInBounds 3 Value.none)))⟩
   ·exact ⟨o,(other b hbT).trans hb⟩
end
theorem KF.plain {e:Addr} {fs:List Addr} {h h':Heap} (k:KF e fs h h') {b:Addr} {o:Obj} (q:h.get? b=some o) (n:¬gA h e b):∃sl,h'.get? b=some { o with slots:=sl }:=by
 by_cases hb:b∈fs
 ·exact k.slot b o q hb n
 ·exact ⟨o.slots,k.keep b o q hb n⟩
theorem _root_.L2.Inv.kf {X:Cx} {pins:List (Addr×Obj)} {σ:St} {H:Hp} {s:Shared} {h':Heap} {t':Nat} {a:Addr} (I:Inv X pins σ H s) (k:KF a (frs X.stack) s.heap h')
  (hr:∀b,gA s.heap a b->(∀o vs,X.s₀.heap.get? b=some o->X.H₀ b=none->b∉X.fs->b∉X.ex->o.data≠.fields vs)/\H b=none/\(∃o vs,s.heap.get? b=some o/\o.data=.fields vs)/\∀p∈X.pn ++ pins,p.1≠b):Inv X pins σ H { s with heap:=h',toks:=t' }:=by
 have old:∀b,b < X.s₀.heap.objs.size->b∉X.fs->b∉frs X.stack:=fun b hb hf hs=>by
  rcases mem_cons.mp (I.stkSub b hs) with z | z
  ·subst z; exact absurd hb (Nat.not_lt.mpr I.ok.above)
  ·exact hf z
 have insub:∀b,b∈X.fs->b∈frs X.stack:=fun b hb=>by
  rcases I.ok.stk with z | ⟨z,hf⟩
  ·rw [z]; exact hb
  ·rw [z]; unfold frs; rw [filterMap_cons,hf]; exact mem_cons_of_mem _ hb
 have norec:∀b o,s.heap.get? b=some o->(∀vs,o.data≠.fields vs)->¬gA s.heap a b:=fun b o hb hd hx=>by
  obtain ⟨_,_,⟨o',vs,e1,e2⟩,_⟩:=hr b hx;rw [hb] at e1; cases e1;exact hd vs e2
 have cellk:∀{c:Addr} {v:Option Value},s.heap.IsCell c v->h'.IsCell c v:=fun {c v} ⟨o,e,d⟩=>by
  obtain ⟨sl,e1⟩:=k.plain e (norec c o e fun vs z=>by rw [d] at z; cases z);exact ⟨_,e1,d⟩
 refine ⟨I.ok,I.os,I.bare,⟨fun b o e n hb hx=>?_,fun b o e n hb hx=>?_,I.base.free,fun b o e hx=>?_,I.base.tups,I.base.frzs,I.base.tbls⟩,?_,fun x c e=>?_,I.free,I.freeC,fun p hpp=>?_,fun b u q=>?_,I.len⟩
 ·have q:=I.base.keep b o e n hb hx;refine k.keep b o q (old b (Heap.lt_size e) hb) fun z=>?_;obtain ⟨n1,_,⟨o',vs,e1,e2⟩,_⟩:=hr b z;rw [q] at e1; cases e1;exact n1 o vs e n hb hx e2
 ·obtain ⟨sl,q⟩:=I.base.slot b o e n hb hx;obtain ⟨_,o',ho,hd⟩:=I.funs.mem hb;rw [q] at ho; cases ho;obtain ⟨sl2,q2⟩:=k.slot b _ q (insub b hb) (norec b _ q hd);exact ⟨sl2,q2⟩
 ·obtain ⟨o',q⟩:=I.base.there b o e hx;exact k.there b o' q
 ·obtain ⟨m,⟨o,es,ep,ho,hd,r⟩,hl⟩:=I.loc;obtain ⟨sl,e1⟩:=k.plain ho (norec _ o ho fun vs z=>by rw [hd] at z; cases z);refine ⟨m,⟨_,es,ep,e1,hd,r⟩,fun i x v h1 h2 h3=>?_⟩;obtain ⟨u,r1,l⟩:=hl i x v h1 h2 h3;refine ⟨u,r1,?_⟩;rcases l with l | ⟨l1,c,l2,l3⟩
  ·exact .inl l
  ·exact .inr ⟨l1,c,l2,cellk l3⟩
 ·obtain ⟨v,q⟩:=I.cell x c e;exact ⟨v,cellk q⟩
 ·obtain ⟨e,n,ne,nf,d⟩:=I.pin p hpp;refine ⟨k.keep p.1 p.2 e (fun z=>?_) (fun z=>(hr p.1 z).2.2.2 p hpp rfl),n,ne,nf,d⟩;rcases mem_cons.mp (I.stkSub _ z) with w | w
  ·exact ne w
  ·exact nf w
 ·refine (I.hok b u q).stay (fun c v hc e=>?_) (fun _ z=>z) fun _ _ z=>z;have hH:H c≠none:=by
   rcases hc with rfl | hc
   ·rw [q]; intro z; cases z
   ·rw [hc]; intro z; cases z
  exact k.keep c v e (fun z=>hH (I.stkFree c z)) fun z=>hH (hr c z).2.1
noncomputable def pM (P:Program) (w:World):pK:=fun outer H s E e s'=>∃a Cv H',e=.ref a/\s'.os=s.os/\AllBare s'.gens/\Un (frs outer) [] H H' s.heap s'.heap/\HOk P w H' s'.heap/\∃dd,Fly s.heap H' s'.heap a (Cv,dd)/\E Cv dd H'
noncomputable def u_ (K:Frag) (F:List D->Res D):Sp:=fun vs H Q E=>∃ds,Reps K H ds vs/\match F ds with
 | .stuck=>False
 | .ok d=>∀v H',Same H H'->Rep K H' d v->Q v H'
 | .err x=>∀C H' dd,nsIn K mainGlobals x.cls=some (some (.ref C))->Same H H'->Ff K H' x dd->E (.ref C) dd H'
section
variable {X:Cx} {k:Nat} {f:Addr} {fd:FuncData} {ps:List Str} {F:List D->Res D} {x:Str} {p pos:Pos} {e:Expr} {es:List Expr} {fs:DS->Res (List D)}
theorem lv' (Fn:FnOk X.prog X.w X.K X.mg X.base (pM X.prog X.w) k f fd ps (u_ X.K F)) (hr:Room k X.A) (hg:Gl X x) (hm:X.mg x=some (.ref f)) (hk:keepIn X.K (.ref f)=true) (hb:Binds X.K fd ps []) (ha:PAD X (e :: es) fs)
  (hdb:(x == ("__debug__" : Str))=false:=by decide) (he:starEach (e :: es) X.env=(false,eval e X.env) :: starEach es X.env:=by rfl) (hpl:(backTo pos (starEach es X.env)).any (·.1)=false:=by rfl) :
  PD X (.Call (.Name x p) (e :: es) [] pos) (fun δ=>(fs δ).bind F):=by
 intro pins s σ G H δ I R hs
 try dsimp only at hs ⊢
 refine wpAny_Call_Name_kw (Ii I hg hm ?_ hdb);refine callWith_K (h₀:=X.base) I.ok.mod.kin hk (ha.use I R (gb hs) (fun ds us s1 vs H1 q I1 r1 e1 b1 p1=>⟨I1.kIn,?_⟩) fun e s1 q=>q.same fun x z=>gR z) he hpl;have h2:=ie hs q;have ev:(fs δ).bind F=F ds:=by rw [q]; rfl
 cases qg:F ds with
 | stuck=>exact (h2 qg).elim
 | ok d =>
  have hsp:u_ X.K F vs H1 (fun v H'=>Same H1 H'/\Rep X.K H' d v) (fun _ _ _=>False):=⟨ds,p1,by rw [qg]; exact fun v H' a b=>⟨a,b⟩⟩;have hl:us.length=ps.length:=by rw [<- r1.length]; exact Fn.len _ _ _ _ hsp
  refine wpAny_call (codeAny_mono (Fn.run X.A X.stack s1 H1 ⟨us,[]⟩ us vs _ _ hr I1.env0 (by simpa using hb s1 us I1.kIn (by simpa using hl)) r1 hsp) fun r s' hq=>?_)
  cases r with
  | error e=>obtain ⟨_,_,_,_,_,_,_,_,_,_,z⟩:=hq; exact z.elim
  | ok fl =>
   cases fl with
   | ret u =>
    obtain ⟨v,H',I',r',e',p'⟩:=I1.after hq;exact ⟨d,v,H',ev.trans qg,I',r',e1.trans e',p'⟩
   | next=>exact False.elim hq
   | brk=>exact False.elim hq
   | cont=>exact False.elim hq
 | err z =>
  have hsp:u_ X.K F vs H1 (fun v H'=>False) (fun Cv dd H'=>∃C,Cv=.ref C/\nsIn X.K mainGlobals z.cls=some (some (.ref C))/\Same H1 H'/\Ff X.K H' z dd):=⟨ds,p1,by rw [qg]; exact fun C H' dd a b c=>⟨C,rfl,a,b,c⟩⟩;have hl:us.length=ps.length:=by rw [<- r1.length]; exact Fn.len _ _ _ _ hsp
  refine wpAny_call (codeAny_mono (Fn.run X.A X.stack s1 H1 ⟨us,[]⟩ us vs _ _ hr I1.env0 (by simpa using hb s1 us I1.kIn (by simpa using hl)) r1 hsp) fun r s' hq=>?_)
  cases r with
  | error e =>
   obtain ⟨a,Cv,H',rfl,os,bare,un,hok,dd,fly,C,rfl,hC,sm,pay⟩:=hq;exact ⟨z,a,C,H',ev.trans qg,rfl,I1.call' (ch:=[]) os un hok bare (fun b z=>absurd z (by simp)),e1.trans sm,hC,dd,pay,fly.back e1.tk sm.tk b1⟩
  | ok fl =>
   cases fl with
   | ret u =>
    obtain ⟨v,H',_,_,_,_,_,z⟩:=hq;exact z.elim
   | next=>exact False.elim hq
   | brk=>exact False.elim hq
   | cont=>exact False.elim hq
end
noncomputable def gC (n N:Nat) (ds:List D):DS:=ds.map (fun d=>some (.arg d)) ++ List.replicate (N - n) none
noncomputable def outD:Out->Res D
 | .ret d=>.ok d
 | .nxt _=>.ok .non
 | .err x _=>.err x
 | _=>.stuck
noncomputable def aW (n N:Nat) (body:DS->Out):List D->Res D:=fun ds=>if ds.length=n then outD (body (gC n N ds)) else .stuck
theorem Pu {K:Frag} {H:Hp} {ds:List D} {vs:List V} (N:List Str) (r:Reps K H ds vs):RepSt K H H (start N vs) (gC ds.length N.length ds):=by
 have hl:=r.length;refine ⟨Same.refl H,?_,fun i sv e=>?_,fun i j as es v hij e1 e2=>?_⟩
 ·unfold L2.start gC;simp [hl]
 ·unfold gC at e
  by_cases hi:i < ds.length
  ·rw [List.getElem?_append_left (by simpa using hi),List.getElem?_map] at e
   cases q:ds[i]? with
   | none=>rw [q] at e; cases e
   | some d =>
    rw [q] at e;simp only [Option.map_some,Option.some.injEq] at e;subst e;obtain ⟨v,e1,e2⟩:=r.get q;refine ⟨v,?_,e2⟩;unfold L2.start;rw [List.getElem?_append_left (by simpa [hl] using hi),List.getElem?_map,e1];rfl
  ·rw [List.getElem?_append_right (by simpa using hi),List.getElem?_replicate] at e
   split at e <;> cases e
 ·exfalso;unfold gC at e1
  by_cases hi:i < ds.length
  ·rw [List.getElem?_append_left (by simpa using hi),List.getElem?_map] at e1
   cases q:ds[i]? with
   | none=>rw [q] at e1; cases e1
   | some d=>rw [q] at e1; cases e1
  ·rw [List.getElem?_append_right (by simpa using hi),List.getElem?_replicate] at e1
   split at e1 <;> cases e1
section
variable {P:Program} {w:World} {K:Frag} {mg:Str->Option Value} {base:Heap}
theorem Px {N:List Str} {qual:Str} {scope:Scope} {f:Addr} {cdv:Value} {A:Around} {outer:List Env} {s:Shared} {H:Hp} {E:XK} {pins:List (Addr×Obj)} {σ':St} {H':Hp} {s':Shared} {a:Addr} {Cv:Value}
  (I:Inv (jf (pM P w) P w K mg base N qual scope f cdv A outer s H E) pins σ' H' s') {dd:Option Addr} (fl:Fly s.heap H' s'.heap a (Cv,dd)) (hE:E Cv dd H') :
  (jf (pM P w) P w K mg base N qual scope f cdv A outer s H E).xe (.ref a) s':=by
 show wpAny (model P w) (A.deeper (envOfC qual scope s.heap.objs.size f cdv)) (leaving (envOfC qual scope s.heap.objs.size f cdv) (.ref a)) (fun _ s''=>pM P w outer H s E (.ref a) s'') _ s';have hz:s.heap.objs.size<=s'.heap.objs.size:=I.sz;have hn:∀b,s'.heap.objs.size<=b->H' b=none:=fun b hb=>I.hok.fresh hb;unfold leaving;refine wpAny_bind (Pr (base:=base) I.ok.frames I.stack rfl hz hn fl fun h2 k2 f2 _=>?_);have I0:Inv (jf (pM P w) P w K mg base N qual scope f cdv A outer s H E) [] σ' H' s':=I.pins_of fun p hp=>absurd hp (by simp);have J:=I0.kf (h':=h2) (t':=s'.toks) k2 fun b hx=>by
  obtain ⟨n1,n2,n3⟩:=fl.ex hx;exact ⟨fun o vs e _ _ _=>n1 o vs e,n2,n3,fun p hp=>absurd (show p∈([]:List (Addr×Obj)) ++ [] from hp) (by simp)⟩
 exact ⟨a,Cv,H',rfl,I.os,I.bare,J.base,J.hok,dd,f2.fly,hE⟩
noncomputable def tB (X:Cx) (f:DS->Out):TS:=fun D σ H=>∃G δ,RepSt X.K G H σ δ/\f δ≠.stuck/\(∀pins fl s1,SPost X pins G H (f δ) fl s1->SP X pins D fl s1)/\∀pins s2 e s1,Inv X pins σ H s2->SX X pins G H s2.heap (f δ) e s1->X.xe e s1
theorem PSDs.tb {X:Cx} {st:List Stmt} {f:DS->Out} (h:PSDs X st f):PSs X st (tB X f):=by
 intro pins s σ H D I ⟨G,δ,R,n,k1,k2⟩;exact wpAny_mono (h pins s σ G H δ I R n) (fun fl s1 p=>k1 pins fl s1 p) fun e s1 p=>k2 pins s e s1 I p
theorem Jp {x qual:Str} {st:Stmt} {f:Addr} {fd:FuncData} {N ps:List Str} {k:Nat} {body:DS->Out} (F:Fun K x qual st f fd) (S:FnScope N ps (az st))
  (hb:∀(cdv:Value) (A:Around) (outer:List Env) (s:Shared) (H:Hp) (E:XK),Room k (A.deeper (envOfC qual (az st) s.heap.objs.size f cdv))->PSDs (jf (pM P w) P w K mg base N qual (az st) f cdv A outer s H E) (bV st) body) :
  FnOk P w K mg base (pM P w) (k + 1) f fd ps (u_ K (aW ps.length N.length body)):=by
 obtain ⟨oc,od,kV,doc,pm,an,cdv,ct,osl,rfl,lk,hcd⟩:=F.ex;refine IK lk hcd S (fun vs H Q E ⟨ds,r,h⟩=>?_) fun A outer s H vs Q E hr hsp=>?_
 ·rw [r.length];unfold aW at h
  by_cases c:ds.length=ps.length
  ·exact c
  ·rw [if_neg c] at h; exact h.elim
 ·obtain ⟨ds,r,h⟩:=hsp;have c:ds.length=ps.length:=by
   unfold aW at h
   by_cases c:ds.length=ps.length
   ·exact c
   ·rw [if_neg c] at h; exact h.elim
  have ev:aW ps.length N.length body ds=outD (body (gC ds.length N.length ds)):=by unfold aW; rw [if_pos c,c]
  rw [ev] at h;refine ⟨_,(hb cdv A outer s H E hr).tb,H,gC ds.length N.length ds,Pu N r,fun z=>?_,fun pins fl s1 p=>?_,fun pins s2 e s1 I p=>?_⟩
  ·rw [z] at h; exact h
  ·cases fl with
   | next =>
    obtain ⟨δ',σ',H',q1,q2,q3,q4⟩:=p;rw [q1] at h;exact ⟨σ',H',q2,h .non H' q4.same O4⟩
   | brk=>obtain ⟨δ',σ',H',q1,_⟩:=p; rw [q1] at h; exact h.elim
   | cont=>obtain ⟨δ',σ',H',q1,_⟩:=p; rw [q1] at h; exact h.elim
   | ret u =>
    obtain ⟨d,v,σ',H',q1,q2,q3,q4,q5,q6⟩:=p;rw [q1] at h;exact ⟨v,σ',H',q2,q5,h v H' q4 q6⟩
  ·obtain ⟨x,δ',a,C,σ',H',q1,rfl,q3,q4,q5,q6,dd,pay,q7⟩:=p;rw [q1] at h;refine Px q3 ?_ (h C H' dd q6 q5.same pay);refine q7.back (h0:=s.heap) (H0:=H) (H1:=H) (TK.refl H) q4 fun e n z o vs ho hd=>?_
   by_cases hf:e∈frs outer
   ·obtain ⟨_,o',ho',hd'⟩:=I.ok.funs.mem hf;have ho2:s.heap.get? e=some o':=ho';rw [ho] at ho2
    cases ho2
    exact hd' vs hd
   ·exact z o vs (I.base.keep e o ho n hf (by intro z; exact absurd z (by show e∉([]:List Addr); simp))) hd
end
theorem Py {K:Frag} {h₀:Heap} {mg:Str->Option Value} {x:Str} {C:Addr} {bmB:List Value} {newId:String} (X:K.In h₀) (hm:mg x=some (.ref C)) (q:excIn K C bmB newId=true):OwnCls x C bmB newId mg h₀:=by
 refine ⟨hm,?_⟩;unfold excIn at q
 split at q
 ·rename_i dd cd sl ho
  split at q
  ·rename_i C' bm k0 k1 k2 k3 n k5 hm hs;simp only [Bool.and_eq_true,beq_iff_eq,Bool.not_eq_true'] at q;obtain ⟨⟨⟨⟨⟨rfl,rfl⟩,hdel⟩,ht⟩,hok⟩,hni⟩:=q;obtain ⟨nm,bs,mro,ns,qn,hd,sn,sub,ab,col,del⟩:=cd;dsimp only at hm hdel hok hni;subst hm hdel;have hsl:sl = #[k0,k1,k2,k3,some (.builtin n),k5]:=by
    obtain ⟨l⟩:=sl;simp only at hs;rw [hs]
   subst hsl;exact ⟨bm,ns,nm,qn,bs,hd,sn,sub,ab,col,dd,k0,k1,k2,k3,k5,_,X _ _ ho,.of_isNs (isNs_of_in X hok),nsMap_none_of_in X hok hni,tail_of_in X ht⟩
  ·cases q
 ·cases q
noncomputable def gF (x:Str) (fs:DS->Res (List D)):DS->Out:=fun δ=>match fs δ with
 | .ok _=>.err ⟨x,none⟩ δ
 | .err y=>.err y δ
 | .stuck=>.stuck
section
variable {X:Cx} {e:Expr} {es:List Expr} {fs:DS->Res (List D)} {np cpos pos:Pos} {x:Str} {C:Addr} {B newId initId:String} {bmB:List Value}
theorem Fx (hc:X.calm=true) (FB:ExcBaseFacts B newId initId bmB) (hx:nsIn X.K mainGlobals x=some (some (.ref C))) (q:excIn X.K C bmB newId=true) (hg:Gl X x) (hm:X.mg x=some (.ref C)) (ha:PAD X (e :: es) fs) (hsz:(e :: es).length<=100)
  (hdb:(x == ("__debug__" : Str))=false:=by decide) (he:starEach (e :: es) X.env=(false,eval e X.env) :: starEach es X.env:=by rfl) (hplain:(backTo cpos (starEach es X.env)).any (·.1)=false:=by rfl) (hlen:∀δ ds,fs δ=.ok ds->ds.length<=sizeLine) :
  PSD X (.Raise (some (.Call (.Name x np) (e :: es) [] cpos)) none pos) (gF x fs):=by
 intro pins s σ G H δ I R hs
 try dsimp only at hs ⊢
 have hs':fs δ≠.stuck:=fun z=>hs (by unfold gF; rw [z]);obtain ⟨tl,N,nm,qn,bs,hdct,sn,sub,ab,col,dd,k0,k1,k2,k3,k5,mN,hC,hN,hni,T⟩:=(Py I.ok.mod.kin hm q).obj;refine wpAny_Raise_call_subT (C:=C) (nm:=nm) (q:=qn) (N:=N) (bs:=bs) (bm:=tl) (hdct:=hdct) (sn:=sn) (sub:=sub) (ab:=ab) (col:=col) (dd:=dd) (k0:=k0) (k1:=k1) (k2:=k2) (k3:=k3) (k5:=k5)
  FB (mN:=mN) (T.hasType FB.hasBase) (I.ok.hd hc) (by rw [he]; show (false || (backTo cpos (starEach es X.env)).any (·.1))=false; rw [hplain]; rfl) hni (Ii I hg hm ⟨rfl,?_⟩ hdb)
 have ha':=fun {P:List Value->Shared->Prop} {E:Value->Shared->Prop} k kx=>PAD.use (pos:=cpos) (P:=P) (E:=E) ha I R hs' k kx;rw [he] at ha' ⊢;refine Calls.evalArgs_plain (ha' (fun ds us s1 vs H1 q1 I1 r1 e1 b1 p1=>⟨rfl,?_,I1.bk _ _ hC,hN.keeps I1.bk,T.keeps I1.bk,fun h' a hme=>?_⟩) fun e s1 p=>?_)
 ·rw [<- r1.length,p1.length]; exact hlen δ ds q1
 ·obtain ⟨t,ht,ht2,ht3⟩:=hme.there;have hn:H1 a=none:=by
   cases z:H1 a with
   | none=>rfl
   | some u =>
    obtain ⟨ob,q⟩:=obj_some (I1.hok a u z);rw [hme.new] at q; cases q
  refine ⟨⟨x,none⟩,δ,a,C,σ,H1,by unfold gF; rw [q1],rfl,I1.kept (t':=s1.toks) hme.keeps,e1.tk,R.mono e1,hx,?_⟩;refine ⟨none,rfl,b1 a (e1.free hn) (fun o vs ho=>by rw [hme.new] at ho; cases ho),hn,_,_,_,ht,⟨rfl,rfl⟩,rfl,rfl,.inl rfl⟩
 ·exact p.sx R fun x z=>by unfold gF; rw [z]
end
theorem RepSt.clear {K:Frag} {G H:Hp} {σ:St} {δ:DS} (R:RepSt K G H σ δ) (i:Nat):RepSt K G H (σ.set i none) (δ.set i none) where
 same:=R.same
 len:=by simpa using R.len
 at_:=fun j sv e=>by
  by_cases hj:i=j
  ·subst hj;rw [List.getElem?_set] at e
   split at e
   ·split at e <;> cases e
   ·rename_i z; exact absurd rfl z
  ·rw [List.getElem?_set_ne hj] at e;obtain ⟨u,e1,e2⟩:=R.at_ j sv e;exact ⟨u,by rw [List.getElem?_set_ne hj]; exact e1,e2⟩
 sep:=fun j k ds es u hjk e1 e2 e3=>by
  have n1:i≠j:=by
   rintro rfl
   rw [List.getElem?_set] at e1
   split at e1
   ·split at e1 <;> cases e1
   ·omega
  have n2:i≠k:=by
   rintro rfl
   rw [List.getElem?_set] at e2
   split at e2
   ·split at e2 <;> cases e2
   ·omega
  rw [List.getElem?_set_ne n1] at e1 e3;rw [List.getElem?_set_ne n2] at e2;rw [List.getElem?_set_ne n2];exact R.sep j k ds es u hjk e1 e2 e3
abbrev _root_.L2.Cx.marked (X:Cx) (a:Addr):Cx:={ X with A:=X.A.mark (some (.ref a)),calm:=false }
theorem _root_.L2.Inv.marked {X:Cx} {pins:List (Addr×Obj)} {σ:St} {H:Hp} {s:Shared} (I:Inv X pins σ H s) (a:Addr):Inv (X.marked a) pins σ H s :=
 ⟨⟨I.ok.mod,I.ok.kind,I.ok.glob,I.ok.blt,I.ok.above,I.ok.inj,I.ok.has,I.ok.cab,fun z=>(by cases z),I.ok.frames,I.ok.stk,I.ok.exf,I.ok.bs,I.ok.bsz,I.ok.noex,I.ok.exfs,I.ok.funs,I.ok.frf⟩,I.os,I.bare,I.base,I.loc,I.cell,I.free,I.freeC,I.pin,I.hok,I.len⟩
theorem _root_.L2.Inv.track {X:Cx} {pins:List (Addr×Obj)} {σ:St} {H:Hp} {s:Shared} {a:Addr} {o:HO} (I:Inv X pins σ H s) (hn:H a=none) (h0:∀ob,X.s₀.heap.get? a=some ob->X.H₀ a=none->a∈X.ex) (hl:a≠X.env.locals) (hc:∀x c,X.env.cells.lookup x=some c->c≠a) (hp:∀p∈X.pn ++ pins,p.1≠a)
  (new:ObjOk X.prog X.w (upd H a o) s.heap a o):Inv X pins σ (upd H a o) s:=by
 refine ⟨I.ok,I.os,I.bare,⟨I.base.keep,I.base.slot,fun b ob e n hx=>?_,I.base.there,fun b xs e=>?_,fun b ob u e=>?_,fun b ps e=>?_⟩,I.loc,I.cell,?_,fun x c e=>?_,fun p hpp=>?_,fun b u q=>?_,I.len⟩
 ·rw [dU (fun z=>?_)]
  ·exact I.base.free b ob e n hx
  ·subst z;exact hx (h0 ob e n)
 ·rw [dU (qp (I.base.tups b xs e) hn)]; exact I.base.tups b xs e
 ·rw [dU (qp (I.base.frzs b ob u e) hn)]; exact I.base.frzs b ob u e
 ·obtain ⟨more,q⟩:=I.base.tbls b ps e;exact ⟨more,by rw [dU (qp q hn)]; exact q⟩
 ·rw [dU (Ne.symm hl)]; exact I.free
 ·rw [dU (hc x c e)]; exact I.freeC x c e
 ·obtain ⟨e,n,ne,nf,d⟩:=I.pin p hpp;exact ⟨e,by rw [dU (hp p hpp)]; exact n,ne,nf,d⟩
 ·by_cases hb:b=a
  ·subst hb; rw [jB] at q; cases q; exact new
  ·rw [dU hb] at q;refine (I.hok b u q).stay (fun c v _ e=>e) (fun c z=>?_) fun c xs z=>?_
   ·rw [dU (qp z hn)]; exact z
   ·rw [dU (qp z hn)]; exact z
section
variable {X:Cx} {body suite:List Stmt} {b₀:Stmt} {fb fsu:DS->Out} {sub:Str->Option Bool} {n c:Str} {C':Addr} {cp hpos pos:Pos}
end
noncomputable def cA (X:Cx) (N':List Str) (scope:Scope) (cl:List (Str×Addr)) (C:Addr) (s:Shared) (H:Hp) (fp:List Addr):Cx where
 prog:=X.prog
 w:=X.w
 K:=X.K
 mg:=X.mg
 base:=X.base
 A:=X.A
 N:=N'
 s₀:=s
 H₀:=H
 env:=compEnvC scope cl C X.env
 outer:=X.stack
 stack:=X.stack
 ex:=fp
 fn:=fun _=>false
 calm:=X.calm
 pn:=[]
 xe:=fun _ _=>False
section
variable {X:Cx} {N':List Str} {scope:Scope} {cl:List (Str×Addr)} {C:Addr} {s:Shared} {H:Hp} {fp:List Addr} {pins:List (Addr×Obj)} {σ:St}
theorem Pz (I:Inv X pins σ H s) (hk:scope.kind=.function) (hC:s.heap.objs.size<=C) (hc:∀x c,cl.lookup x=some c->X.env.cells.lookup x=some c)
  (has:∀x,((relabel scope X.env).names.lookup x=some .cell\/(relabel scope X.env).names.lookup x=some .free)->∃c,cl.lookup x=some c) (hf:∀b∈fp,gQ X pins H b/\b < s.heap.objs.size):(cA X N' scope cl C s H fp).Ok where
 mod:=I.ok.mod
 kind:=hk
 glob:=I.ok.glob
 blt:=I.ok.blt
 above:=hC
 inj:=fun x y c h1 h2=>I.ok.inj x y c (hc x c h1) (hc y c h2)
 has:=has
 cab:=fun x c h=>by cases h
 hd:=I.ok.hd
 frames:=I.ok.frames
 stk:=.inl rfl
 exf:=fun b hb=>⟨Nat.ne_of_lt (Nat.lt_of_lt_of_le (hf b hb).2 hC),fun x c h=>(hf b hb).1.2.2.2.2.1 x c (hc x c h)⟩
 bs:=I.bs
 bsz:=Nat.le_trans I.ok.bsz I.sz
 noex:=fun b o e hb=>by
  obtain ⟨_,h1,h2,h3,_⟩:=(hf b hb).1;rcases h3 with z | z
  ·exact I.ok.noex b o e z
  ·exact absurd (Nat.lt_of_lt_of_le (Heap.lt_size e) (Nat.le_trans I.ok.bsz z)) (Nat.lt_irrefl _)
 exfs:=fun b hb z=>by
  obtain ⟨_,h1,h2,_⟩:=(hf b hb).1;rcases mem_cons.mp (I.stkSub b z) with w | w
  ·exact h1 w
  ·exact h2 w
 funs:=I.stack
 frf:=I.stkFree
end
noncomputable def du (K:Frag) (J:It) (H:Hp) (ds:List D):Prop :=
 ∀H',Same H H'->(∀i d,ds[i]? = some d->J.go i H'/\∀x H'',J.yld i H' x H''->Same H' H''/\Rep K H'' d x)/\J.stop ds.length H'
noncomputable def v5 (X:Cx) (pins:List (Addr×Obj)) (σ:St) (H:Hp) (tg:Expr) (r:Res (List D)) (itv:Value) (s2:Shared):Prop :=
 ∃(ds:List D) (it:Addr) (fp:List Addr) (tn:Nat->Heap->Prop) (J:It) (H':Hp),r=.ok ds/\itv=.ref it/\Inv X pins σ H' s2/\Turn X.prog X.w X.K tg J fp it tn/\tn 0 s2.heap/\(∀b∈fp,gQ X pins H' b)/\Same H H'/\du X.K J H' ds
noncomputable def PID (X:Cx) (tg iter:Expr) (f:DS->Res (List D)):Prop :=
 ∀(pins:List (Addr×Obj)) (s:Shared) (σ:St) (G H:Hp) (δ:DS),Inv X pins σ H s->RepSt X.K G H σ δ->f δ≠.stuck ->
  wpAny (model X.prog X.w) X.A (eval iter X.env) (fun v s1=>wpAny (model X.prog X.w) X.A (pyIter v) (v5 X pins σ H tg (f δ)) (XPost X pins σ H s.heap (f δ)) s1) (XPost X pins σ H s.heap (f δ)) s
noncomputable def iB (x:Str):List D:=x.cps.toList.map fun c=>.str ⟨#[c]⟩
noncomputable def Fy (x:Str):It :=
 ⟨fun i _=>i < x.cps.size,fun i H v H'=>H'=H/\∃c,x.cps[i]? = some c/\v=.str ⟨#[c]⟩,fun i _=>x.cps.size<=i⟩
theorem PB {P:Program} {w:World} {K:Frag} {tg:Expr} (x:Str) (t:Tok) (it:Addr):Turn P w K tg (Fy x) [it] it (fun i h=>h.IsStrIter it "str_ascii_iterator" x t i) where
 mem:=by simp
 obj:=fun i h st b hb=>by
  have e:b=it:=by simpa using hb
  subst e;obtain ⟨o,e,c,d⟩:=st;exact ⟨o,e,fun v z=>by rw [d] at z; cases z⟩
 keep:=fun i h h' st k=>by
  obtain ⟨o,e,c,d⟩:=st;exact ⟨o,k it (by simp) o e,c,d⟩
 item:=by
  intro X hP hw hK hc i pins s σ H E I hf st hg;subst hP hw hK;have hx:x.cps[i]? = some x.cps[i]:=Array.getElem?_eq_getElem hg;obtain ⟨f0,f1,f2,f3,f4,f5⟩:=hf it (by simp);refine wpAny_pyNext_ascii_item st hx fun h' st' sb=>?_;have I1:Inv X pins σ H { s with heap:=h',toks:=s.toks + 1 }:=I.turned (t':=s.toks + 1) (fun b o hb e=>(sb.2 b hb).trans e) f0 f1 f3 f4 f5
  obtain ⟨o,e,c,d⟩:=id st';exact ⟨_,rfl,Dh (s:={ s with heap:=h',toks:=s.toks + 1 }) e c d (by decide) ⟨.str ⟨#[x.cps[i]]⟩,H,I1,⟨_,rfl⟩,⟨rfl,_,hx,rfl⟩,st',fun b hb=>(hf b hb).1⟩⟩
 done:=by
  intro X hP hw hK hc i pins s σ H E I hf st hg;subst hP hw hK;obtain ⟨f0,f1,f2,f3,f4,f5⟩:=hf it (by simp);exact wpAny_pyNext_ascii_end (I.ok.hd hc) st (Array.getElem?_eq_none hg) fun h' eb=>⟨rfl,I.turned (t':=s.toks) (fun b o hb e=>eb b o hb e) f0 f1 f3 f4 f5⟩
 self:=fun _ _ _ _ _ st h=>wpAny_pyIter_striter_ascii st h
theorem PJ {K:Frag} {H:Hp} {x:Str}:du K (Fy x) H (iB x):=by
 intro H' e;refine ⟨fun i d hd=>?_,by unfold iB; simp [Fy]⟩;unfold iB at hd;rw [List.getElem?_map] at hd
 cases z:x.cps.toList[i]? with
 | none=>rw [z] at hd; cases hd
 | some c =>
  rw [z] at hd
  cases hd
  have hl:i < x.cps.size:=by
   have:=List.getElem?_eq_some_iff.mp z;obtain ⟨q,_⟩:=this;simpa using q
  have hc:x.cps[i]? = some c:=by simpa using z
  refine ⟨hl,fun v H'' y=>?_⟩;obtain ⟨rfl,c',h1,rfl⟩:=y;rw [hc] at h1
  cases h1
  exact ⟨Same.refl _,by rw [Rep]⟩
noncomputable def aZ:D->Res (List D)
 | .tup ds=>.ok ds
 | .lst ds=>.ok ds
 | .str x=>if x.cps.all (· < 128)=true then .ok (iB x) else .stuck
 | _=>.stuck
theorem PK {K:Frag} {H:Hp} {a:Addr} {xs:List V} {ds:List D} {X:Cx} {pins:List (Addr×Obj)} {σ:St} {s:Shared} (hq:SqL K H a xs) (r:Reps K H ds xs):du K (Ij K a) H ds:=by
 intro H' e;have hq':=e.seq hq;have r':=r.mono e;refine ⟨fun i d hd=>?_,xs,hq',by rw [r.length]; exact Nat.le_refl _⟩;obtain ⟨v,e1,e2⟩:=r'.get hd;refine ⟨⟨xs,v,hq',e1⟩,fun x H'' y=>?_⟩;obtain ⟨rfl,y⟩:=y;have:=y xs hq';rw [e1] at this
 cases this
 exact ⟨Same.refl _,e2⟩
theorem PL {K:Frag} {H:Hp} {a:Addr} {xs:List V} {ds:List D} (hq:SqT K H a xs) (r:Reps K H ds xs):du K (Il K a) H ds:=by
 intro H' e;have hq':=Dj e hq;have r':=r.mono e;refine ⟨fun i d hd=>?_,xs,hq',by rw [r.length]; exact Nat.le_refl _⟩;obtain ⟨v,e1,e2⟩:=r'.get hd;refine ⟨⟨xs,v,hq',e1⟩,fun x H'' y=>?_⟩;obtain ⟨rfl,y⟩:=y;have:=y xs hq';rw [e1] at this
 cases this
 exact ⟨Same.refl _,e2⟩
theorem qx {X:Cx} {tg iter:Expr} {f:DS->Res D} (h:PD X iter f):PID X tg iter (fun δ=>(f δ).bind aZ):=by
 intro pins s σ G H δ I R hs
 try dsimp only at hs ⊢
 refine h.use I R (gb hs) (fun d u s1 v H1 q I1 r1 e1 b1 p1=>?_) fun e s1 q=>q.same fun x z=>gR z;have h2:=ie hs q
 cases d with
 | lst ds =>
  obtain ⟨a,xs,rfl,hq,r⟩:=fP p1
  cases r1
  obtain ⟨its,rv,p,hz⟩:=I1.list hq;refine wpAny_pyIter_list p.isList ?_;refine ⟨ds,s1.heap.objs.size,[s1.heap.objs.size],_,_,H1,by rw [q]; rfl,rfl,I1.kept (t':=s1.toks) fun b o e=>Heap.get?_push_of_some _ e,hR' a _,⟨_,Heap.get?_push_size _ rfl,rfl,rfl⟩,fun b hb=>?_,e1,PK (X:=X) (pins:=pins) (σ:=σ) (s:=s1) hq r⟩;have e:b=s1.heap.objs.size:=by simpa using hb
  subst e;exact I1.fpOk (Nat.le_refl _) (I1.hok.fresh (Nat.le_refl _))
 | tup ds =>
  obtain ⟨a,xs,rfl,hq,r⟩:=eE p1
  cases r1
  obtain ⟨its,rv,p,hz⟩:=I1.tuple hq;refine wpAny_pyIter_tuple p ?_;refine ⟨ds,s1.heap.objs.size,[s1.heap.objs.size],_,_,H1,by rw [q]; rfl,rfl,I1.kept (t':=s1.toks) fun b o e=>Heap.get?_push_of_some _ e,Nt a _,⟨_,Heap.get?_push_size _ rfl,rfl,rfl⟩,fun b hb=>?_,e1,PL hq r⟩;have e:b=s1.heap.objs.size:=by simpa using hb
  subst e;exact I1.fpOk (Nat.le_refl _) (I1.hok.fresh (Nat.le_refl _))
 | str x =>
  rw [lR p1] at r1;obtain ⟨t,rfl⟩:=r1;have ha:x.cps.all (· < 128)=true:=by
   cases z:x.cps.all (· < 128) with
   | true=>rfl
   | false =>
    have h3:(if (x.cps.all fun c=>decide (c < 128))=true then Res.ok (iB x) else Res.stuck)≠.stuck:=h2
    rw [z] at h3; exact (h3 rfl).elim
  refine wpAny_pyIter_ascii ha ?_;refine ⟨iB x,s1.heap.objs.size,[s1.heap.objs.size],_,_,H1,by rw [q]; unfold aZ; rw [Res.bind_ok]; simp only [ha,if_true],rfl,I1.kept (t':=s1.toks) fun b o e=>Heap.get?_push_of_some _ e,PB x t _,⟨_,Heap.get?_push_size _ rfl,rfl,rfl⟩,fun b hb=>?_,e1,PJ⟩;have e:b=s1.heap.objs.size:=by simpa using hb
  subst e;exact I1.fpOk (Nat.le_refl _) (I1.hok.fresh (Nat.le_refl _))
 | _=>exact (h2 rfl).elim
noncomputable def wM:Option SV->Option SV
 | some sv=>some (.arg sv.view)
 | none=>none
noncomputable def cQ (m:Nat) (fr:List Nat) (δ:DS):DS:=List.replicate m none ++ fr.map fun i=>(δ[i]?).elim none wM
noncomputable def mapR (g:D->Res D):List D->Res (List D)
 | []=>.ok []
 | d :: ds=>(g d).bind fun x=>(mapR g ds).bind fun xs=>.ok (x :: xs)
noncomputable def fG (t:gM) (fe:DS->Res D) (δ':DS) (d:D):Res D:=match t d δ' with
 | some δ1=>(match fe δ1 with | .ok x=>.ok x | _=>.stuck)
 | none=>.stuck
noncomputable def bD (m:Nat) (fr:List Nat) (t:gM) (fe:DS->Res D) (fi:DS->Res (List D)):DS->Res D:=fun δ=>(fi δ).bind fun ds=>fD (mapR (fG t fe (cQ m fr δ)) ds)
noncomputable def eQ (m:Nat) (t:gM):Prop:=∀d δ δ1,t d δ=some δ1->δ1.length=δ.length/\∀i,m<=i->δ1[i]? = δ[i]?
theorem RepSt.weak {K:Frag} {G H:Hp} {σ:St} {δ δ1:DS} {m:Nat} (R:RepSt K G H σ δ1) (hl:δ1.length=δ.length) (hm:∀i,m<=i->δ1[i]? = δ[i]?) (hn:∀i,i < m->∀sv,δ[i]?≠some (some sv)):RepSt K G H σ δ where
 same:=R.same
 len:=R.len.trans hl
 at_:=fun i sv e=>by
  by_cases h:i < m
  ·exact (hn i h sv e).elim
  ·exact R.at_ i sv (by rw [hm i (by omega)]; exact e)
 sep:=fun i j ds es v hij e1 e2 e3=>by
  by_cases h1:i < m
  ·exact (hn i h1 _ e1).elim
  ·by_cases h2:j < m
   ·exact (hn j h2 _ e2).elim
   ·exact R.sep i j ds es v hij (by rw [hm i (by omega)]; exact e1) (by rw [hm j (by omega)]; exact e2) e3
theorem Fz {m:Nat} {fr:List Nat} {δ:DS} (i:Nat) (h:i < m) (sv:SV):(cQ m fr δ)[i]?≠some (some sv):=by
 unfold cQ;rw [List.getElem?_append_left (by simpa using h),List.getElem?_replicate,if_pos h];intro z; cases z
noncomputable def jQ (m:Nat) (fr:List Nat) (σ:St):St:=List.replicate m none ++ fr.map fun i=>(σ[i]?).elim none id
theorem PN {K:Frag} {G H:Hp} {σ:St} {δ:DS} (m:Nat) (fr:List Nat) (R:RepSt K G H σ δ):RepSt K H H (jQ m fr σ) (cQ m fr δ) where
 same:=Same.refl H
 len:=by simp [jQ,cQ]
 at_:=fun i sv e=>by
  by_cases h:i < m
  ·exact (Fz i h sv e).elim
  ·unfold cQ at e;unfold jQ;rw [List.getElem?_append_right (by simpa using h),List.getElem?_map] at e;rw [List.getElem?_append_right (by simpa using h),List.getElem?_map];simp only [length_replicate] at e ⊢
   cases q:fr[i - m]? with
   | none=>rw [q] at e; cases e
   | some k =>
    rw [q] at e;simp only [Option.map_some,Option.some.injEq] at e
    cases q2:δ[k]? with
    | none=>rw [q2] at e; cases e
    | some o =>
     rw [q2] at e
     cases o with
     | none=>cases e
     | some sv' =>
      simp only [Option.elim_some,wM,Option.some.injEq] at e;subst e;obtain ⟨v,e1,e2⟩:=R.view q2;exact ⟨v,by simp [e1],e2⟩
 sep:=fun i j ds es v hij e1 e2 e3=>by
  exfalso
  by_cases h:i < m
  ·exact (Fz i h _ e1).elim
  ·unfold cQ at e1;rw [List.getElem?_append_right (by simpa using h),List.getElem?_map] at e1;simp only [length_replicate] at e1
   cases q:fr[i - m]? with
   | none=>rw [q] at e1; cases e1
   | some k =>
    rw [q] at e1;simp only [Option.map_some,Option.some.injEq] at e1
    cases q2:δ[k]? with
    | none=>rw [q2] at e1; cases e1
    | some o =>
     rw [q2] at e1
     cases o with
     | none=>cases e1
     | some sv'=>simp [wM] at e1
theorem FJ {g:D->Res D}:∀{ds rs:List D},mapR g ds=.ok rs->rs.length=ds.length
 | [],rs,h=>by simp only [mapR,Res.ok.injEq] at h; subst h; rfl
 | d :: ds,rs,h=>by
  simp only [mapR] at h
  cases q:g d with
  | stuck=>rw [q] at h; cases h
  | err x=>rw [q] at h; cases h
  | ok x =>
   rw [q,Res.bind_ok] at h
   cases q2:mapR g ds with
   | stuck=>rw [q2] at h; cases h
   | err x=>rw [q2] at h; cases h
   | ok xs =>
    rw [q2,Res.bind_ok] at h
    cases h
    simp [FJ q2]
theorem Jq {g:D->Res D}:∀{ds rs:List D} {i:Nat} {d:D},mapR g ds=.ok rs->ds[i]? = some d->∃r,g d=.ok r/\rs[i]? = some r
 | [],rs,i,d,h,e=>by simp at e
 | d' :: ds,rs,i,d,h,e=>by
  simp only [mapR] at h
  cases q:g d' with
  | stuck=>rw [q] at h; cases h
  | err x=>rw [q] at h; cases h
  | ok x =>
   rw [q,Res.bind_ok] at h
   cases q2:mapR g ds with
   | stuck=>rw [q2] at h; cases h
   | err x=>rw [q2] at h; cases h
   | ok xs =>
    rw [q2,Res.bind_ok] at h
    cases h
    cases i with
    | zero=>simp at e; subst e; exact ⟨x,q,by simp⟩
    | succ i =>
     simp at e;obtain ⟨r,e1,e2⟩:=Jq q2 e;exact ⟨r,e1,by simpa using e2⟩
theorem FN {g:D->Res D} (hg:∀d,aO (g d)):∀ds,aO (mapR g ds)
 | []=>dZ
 | d :: ds=>by
  intro x h;simp only [mapR] at h
  cases q:g d with
  | stuck=>rw [q] at h; cases h
  | err y=>exact hg d y q
  | ok y =>
   rw [q,Res.bind_ok] at h
   cases q2:mapR g ds with
   | stuck=>rw [q2] at h; cases h
   | err z=>exact FN hg ds z q2
   | ok xs=>rw [q2,Res.bind_ok] at h; cases h
theorem PQ {t:gM} {fe:DS->Res D} {δ':DS} (d:D):aO (fG t fe δ' d):=by
 intro x h;unfold fG at h
 split at h
 ·split at h <;> cases h
 ·cases h
noncomputable def v7 (cs:List Expr) (env:Env):Sem Bool:=match cs with
 | c :: _=>isTrue c env (eval c env)
 | []=>pure true
theorem PX (elt target iter:Expr) (cs:List Expr) (scope:Scope) (pos:Pos) (it acc:Value) (env:Env) (hcs:cs.length<=1) :
  compTurn (.ListComp elt [⟨target,iter,cs,0⟩] scope pos) 0 it acc env=(standAt iter.pos >>= fun _=>pyNext it >>= fun r=>match r with
   | none=>pure (.done .next)
   | some v=>letOwnedTupleGo target it v >>= fun _=>assign target env v >>= fun _ =>
    v7 cs env >>= fun ok=>(if ok=true then (eval elt env >>= fun x=>call (.builtin "list.append") [acc,x] >>= fun _=>pure ()) else pure ()) >>= fun _ =>
     again (.compLoop (.ListComp elt [⟨target,iter,cs,0⟩] scope pos) 0 it acc env)):=by
 match cs,hcs with
 | [],_=>rfl
 | [c],_ =>
  rw [compTurn_list];simp only [forIn_cons,forIn_nil,if_true,bind_assoc,pure_bind]
  congr 1
  funext _
  congr 1
  funext r
  cases r with
  | none=>rfl
  | some v =>
   dsimp only
   congr 1
   funext _
   congr 1
   funext _
   congr 1
   funext ok
   cases ok with
   | false=>rfl
   | true=>simp only [if_true,bind_assoc,pure_bind]
noncomputable def eU (t:gM) (fc:DS->Res Bool) (fe:DS->Res D) (δ':DS) (d:D):Res D:=match t d δ' with
 | some δ1=>(match fc δ1 with
  | .ok true=>(match fe δ1 with | .ok x=>.ok (.tup [x]) | _=>.stuck)
  | .ok false=>.ok (.tup [])
  | _=>.stuck)
 | none=>.stuck
noncomputable def unI:D->List D
 | .tup xs=>xs
 | _=>[]
noncomputable def gY (t:gM) (fc:DS->Res Bool) (fe:DS->Res D) (δ':DS) (ds:List D):Res D:=if ds.length<=sizeLine then (mapR (eU t fc fe δ') ds).bind (fun rs=>Res.ok (D.lst (rs.flatMap unI))) else .stuck
noncomputable def cR (m:Nat) (fr:List Nat) (t:gM) (fc:DS->Res Bool) (fe:DS->Res D) (fi:DS->Res (List D)):DS->Res D:=fun δ=>(fi δ).bind (gY t fc fe (cQ m fr δ))
theorem iq' {t:gM} {fc:DS->Res Bool} {fe:DS->Res D} {δ':DS} {d r:D} (h:eU t fc fe δ' d=.ok r):∃δ1,t d δ'=some δ1/\((∃x,fc δ1=.ok true/\fe δ1=.ok x/\r=.tup [x])\/(fc δ1=.ok false/\r=.tup [])):=by
 unfold eU at h
 split at h
 ·rename_i δ1 e
  split at h
  ·rename_i q
   split at h
   ·rename_i x q2
    cases h
    exact ⟨δ1,e,.inl ⟨x,q,q2,rfl⟩⟩
   ·cases h
  ·rename_i q
   cases h
   exact ⟨δ1,e,.inr ⟨q,rfl⟩⟩
  ·cases h
 ·cases h
theorem P0 {t:gM} {fc:DS->Res Bool} {fe:DS->Res D} {δ':DS} (d:D):aO (eU t fc fe δ' d):=by
 intro x h;unfold eU at h
 split at h
 ·split at h
  ·split at h <;> cases h
  ·cases h
  ·cases h
 ·cases h
theorem Jr {t:gM} {fc:DS->Res Bool} {fe:DS->Res D} {δ':DS}:∀{ds rs:List D},mapR (eU t fc fe δ') ds=.ok rs->(rs.flatMap unI).length<=ds.length
 | [],rs,h=>by simp only [mapR,Res.ok.injEq] at h; subst h; exact Nat.le_refl _
 | d :: ds,rs,h=>by
  simp only [mapR] at h
  cases q:eU t fc fe δ' d with
  | stuck=>rw [q] at h; cases h
  | err x=>rw [q] at h; cases h
  | ok x =>
   rw [q,Res.bind_ok] at h
   cases q2:mapR (eU t fc fe δ') ds with
   | stuck=>rw [q2] at h; cases h
   | err x=>rw [q2] at h; cases h
   | ok xs =>
    rw [q2,Res.bind_ok] at h
    cases h
    have ih:=Jr q2;obtain ⟨δ1,_,w⟩:=iq' q;have hx:(unI x).length<=1:=by rcases w with ⟨y,_,_,rfl⟩ | ⟨_,rfl⟩ <;> simp [unI]
    rw [flatMap_cons,length_append,length_cons];omega
noncomputable def Js (X:Cx) (cs:List Expr) (f:DS->Res Bool):Prop :=
 ∀(pins:List (Addr×Obj)) (s:Shared) (σ:St) (G H:Hp) (δ:DS),Inv X pins σ H s->RepSt X.K G H σ δ->f δ≠.stuck ->
  wpAny (model X.prog X.w) X.A (v7 cs X.env) (oW X pins σ H (f δ)) (XPost X pins σ H s.heap (f δ)) s
section
variable {X:Cx} {m:Nat} {fr:List Nat} {N':List Str} {scope:Scope} {cl:List (Str×Addr)} {tg iter elt:Expr} {cs:List Expr} {pos:Pos} {t:gM} {fc:DS->Res Bool} {fe:DS->Res D} {fi:DS->Res (List D)}
theorem P_ {C:Addr} {s3:Shared} {H2:Hp} {fp:List Addr} {it:Addr} {tn:Nat->Heap->Prop} {J:It} {ds rs:List D} {δ':DS} {acc:Addr} {RR:Result->Shared->Prop} (hcalm:X.calm=true)
  (T:Turn X.prog X.w X.K tg J fp it tn) (Y:du X.K J H2 ds) (hR:mapR (eU t fc fe δ') ds=.ok rs) (hz:ds.length<=sizeLine) (hkt:eQ m t) (hlow:∀i,i < m->∀sv,δ'[i]?≠some (some sv))
  (ht:PGD (cA X N' scope cl C s3 H2 (acc :: fp)) tg t) (hcs:cs.length<=1) (hc:Js (cA X N' scope cl C s3 H2 (acc :: fp)) cs fc) (he:PD (cA X N' scope cl C s3 H2 (acc :: fp)) elt fe)
  (hacc:acc∉fp) (hfp:∀b∈acc :: fp,b≠C/\b∉frs X.stack/\∀x c,cl.lookup x=some c->c≠b)
  (fin:∀s' σ' H' ys its,Inv (cA X N' scope cl C s3 H2 (acc :: fp)) [] σ' H' s'->Same H2 H'->H' acc=none->(∀b∈fp,H' b=none)->s'.heap.PlainList acc its->Vals ys its.toList->Reps X.K H' (rs.flatMap unI) ys->RR (.ok .next) s')
  {s4:Shared} {σ0:St} {its0:Array Value} (I4:Inv (cA X N' scope cl C s3 H2 (acc :: fp)) [] σ0 H2 s4) (R4:RepSt X.K H2 H2 σ0 δ') (st4:tn 0 s4.heap) (f4:∀b∈acc :: fp,H2 b=none) (p4:s4.heap.PlainList acc #[]) :
  codeAny (model X.prog X.w) X.A (.compLoop (.ListComp elt [⟨tg,iter,cs,0⟩] scope pos) 0 (.ref it) (.ref acc) (compEnvC scope cl C X.env)) RR s4:=by
 let X':=cA X N' scope cl C s3 H2 (acc :: fp)
 have fpok:∀{H':Hp} {pn:List (Addr×Obj)},(∀b∈fp,H' b=none)->(∀b∈fp,∀p∈pn,p.1≠b)->∀b∈fp,gQ X' pn H' b:=fun hn hp b hb =>
  ⟨hn b hb,(hfp b (mem_cons_of_mem _ hb)).1,(hfp b (mem_cons_of_mem _ hb)).2.1,.inl (mem_cons_of_mem _ hb),(hfp b (mem_cons_of_mem _ hb)).2.2,fun p hpp=>hp b hb p (by simpa [X',cA] using hpp)⟩
 refine codeAny_loop rfl (fun n s=>∃i σ' H' ys its,n=ds.length - i/\i<=ds.length/\Inv X' [] σ' H' s/\Same H2 H'/\RepSt X.K H2 H' σ' δ'/\tn i s.heap/\H' acc=none/\(∀b∈fp,H' b=none)/\s.heap.PlainList acc its/\Vals ys its.toList/\Reps X.K H' ((rs.take i).flatMap unI) ys/\ys.length<=i) (fun n s hI=>?_) ds.length
  ⟨0,σ0,H2,[],#[],by simp,Nat.zero_le _,I4,Same.refl _,R4,st4,f4 acc (by simp),fun b hb=>f4 b (mem_cons_of_mem _ hb),p4,.nil,by simpa using Reps.nil,Nat.le_refl _⟩
 obtain ⟨i,σ1,H1,ys,its,rfl,hi,I1,e1,R1,st1,ha1,fr1,p1,v1,r1,hyl⟩:=hI;show wpAny _ _ ((compTurn (.ListComp elt [⟨tg,iter,cs,0⟩] scope pos) 0 (.ref it) (.ref acc) (compEnvC scope cl C X.env)).onRaise (fun x=>do noteFrame x (compEnvC scope cl C X.env); theTreesLotGoes x)) _ _ s
 refine wpAny_noted ?_;rw [PX _ _ _ _ _ _ _ _ _ hcs];refine wpAny_bind (wpAny_standAt (wpAny_bind ?_));have pk:∀{b:Addr} {o:Obj},True:=trivial
 by_cases hlt:i < ds.length
 ·obtain ⟨d,hd⟩:∃d,ds[i]? = some d:=⟨ds[i],by simp [hlt]⟩;obtain ⟨go,yl⟩:=(Y H1 e1).1 i d hd;obtain ⟨r,hg,hr⟩:=Jq hR hd;obtain ⟨δ1,ht1,hf1⟩:=iq' hg;obtain ⟨na,oa⟩:=p1;have pin1:Inv X' [(acc,({ cls:=.type "list",data:=.seq its na }:Obj))] σ1 H1 s:=I1.pins_of fun p hp=>by
   have:p=(acc,({ cls:=.type "list",data:=.seq its na }:Obj)):=by simpa using hp
   subst this;exact ⟨oa,ha1,(hfp acc (by simp)).1,(hfp acc (by simp)).2.1,fun v z=>(by cases z)⟩
  refine wpAny_mono (T.item X' rfl rfl rfl hcalm i _ s σ1 H1 _ pin1 (fpok fr1 fun b hb p hp z=>by
   have:p=(acc,({ cls:=.type "list",data:=.seq its na }:Obj)):=by simpa using hp
   subst this; exact hacc (by rw [show acc=b from z]; exact hb)) st1 go) (fun rv s5 ⟨u,hrv,h5⟩=>?_) fun _ _ z=>z
  subst hrv;refine wpAny_bind (wpAny_mono h5 (fun _ s6 ⟨x,H6,I6,rx,y6,st6,fr6⟩=>?_) fun _ _ z=>z);obtain ⟨e6,px⟩:=yl x H6 y6;have I6':=I6.pinned (fpok fr6 fun b hb p hp z=>by
   have:p=(acc,({ cls:=.type "list",data:=.seq its na }:Obj)):=by simpa using hp
   subst this; exact hacc (by rw [show acc=b from z]; exact hb)) (T.obj _ _ st6)
  have R6:=R1.mono e6;refine wpAny_bind (wpAny_mono (ht _ _ s6 σ1 H2 H6 δ' δ1 d x u I6' rx R6 px ht1) (fun _ s7 ⟨σ7,I7,R7⟩=>?_) fun _ _ z=>z);obtain ⟨hl1,hm1⟩:=hkt d δ' δ1 ht1;have R7':RepSt X.K H2 H6 σ7 δ':=R7.weak hl1 hm1 hlow;have e9:(rs.take (i + 1)).flatMap unI=(rs.take i).flatMap unI ++ unI r:=by rw [take_succ,hr]; simp
  have hfc:fc δ1≠.stuck:=by rcases hf1 with ⟨x,q,_⟩ | ⟨q,_⟩ <;> (rw [q]; intro z; cases z)
  have hfe:∀y,fc δ1≠.err y:=by rcases hf1 with ⟨x,q,_⟩ | ⟨q,_⟩ <;> (intro y; rw [q]; intro z; cases z)
  refine wpAny_bind (Fj (f:=fc) (δ:=δ1) (fun pins I=>hc pins _ _ _ _ _ I R7 hfc) I7 (fun k sk Hk qk Ik ek bk=>?_) fun e s8 q=>by obtain ⟨y,_,_,_,z,_⟩:=q; exact (hfe y z).elim);have oak:=(Ik.pin (acc,({ cls:=.type "list",data:=.seq its na }:Obj)) (by simp)).1;have hak:=(Ik.pin (acc,({ cls:=.type "list",data:=.seq its na }:Obj)) (by simp)).2.1;have fpk:∀b∈fp,∀o,s6.heap.get? b=some o->sk.heap.get? b=some o/\Hk b=none:=fun b hb o e=>by
   have q:=Ik.pin (b,o) (mem_append_right _ (mem_append_right _ (cn' hb e)));exact ⟨q.1,q.2.1⟩
  cases k with
  | false =>
   have hu:unI r=[]:=by
    rcases hf1 with ⟨x,q,_⟩ | ⟨q,rfl⟩
    ·rw [q] at qk; cases qk
    ·rfl
   have Ik':Inv X' [] σ7 Hk sk:=Ik.pins_of fun p hp=>absurd hp (by simp);refine wpAny_bind (wpAny_pure (wpAny_pure ⟨rfl,ds.length - (i + 1),by omega,i + 1,σ7,Hk,ys,its,rfl,hlt,Ik',e1.trans (e6.trans ek),R7'.mono ek,?_,hak,fun b hb=>?_,⟨na,oak⟩,v1,?_,by omega⟩))
   ·refine T.keep _ _ _ st6 fun b hb o e=>(fpk b hb o e).1
   ·obtain ⟨o,e,_⟩:=T.obj _ _ st6 b hb;exact (fpk b hb o e).2
   ·rw [e9,hu,append_nil]; exact r1.mono (e6.trans ek)
  | true =>
   obtain ⟨xk,hfx,hrx⟩:∃x,fe δ1=.ok x/\r=.tup [x]:=by
    rcases hf1 with ⟨x,_,q2,q3⟩ | ⟨q,_⟩
    ·exact ⟨x,q2,q3⟩
    ·rw [q] at qk; cases qk
   subst hrx;refine wpAny_bind (wpAny_bind (he.use Ik (R7.mono ek) (by rw [hfx]; intro z; cases z) (fun d8 u8 s8 v8 H8 q8 I8 r8 e8 b8 p8=>?_) fun e s8 q=>by rw [hfx] at q; exact q.none.elim));rw [hfx] at q8; cases q8;have oa8:=(I8.pin (acc,({ cls:=.type "list",data:=.seq its na }:Obj)) (by simp)).1;have ha8:=(I8.pin (acc,({ cls:=.type "list",data:=.seq its na }:Obj)) (by simp)).2.1;have hsz:its.size<=i:=by have:=v1.length; simp only [Array.length_toList] at this; omega
   refine wpAny_bind (wpAny_list_append_plain (show s8.heap.PlainList acc its from ⟨na,oa8⟩) (fun h9 p9 sb9=>?_) (by omega))
   have I8':Inv X' [] σ7 H8 s8:=I8.pins_of fun p hp=>absurd hp (by simp);have fp8:∀b∈fp,∀o,s6.heap.get? b=some o->s8.heap.get? b=some o/\H8 b=none:=fun b hb o e=>by
    have q:=I8.pin (b,o) (mem_append_right _ (mem_append_right _ (cn' hb e)));exact ⟨q.1,q.2.1⟩
   have nacc:∀b,H8 b≠none->b≠acc:=fun b hb z=>hb (by rw [z]; exact ha8);have I9:Inv X' [] σ7 H8 { s8 with heap:=h9 }:=I8'.call' (ch:=[acc]) rfl
    ⟨fun b o e n hb hx=>(sb9.2 b (by simpa using hx)).trans e,fun b o e n hb hx=>⟨o.slots,(sb9.2 b (by simpa using hx)).trans e⟩,fun b o e n _=>n,fun b o e hx=>⟨o,(sb9.2 b (by simpa using hx)).trans e⟩,fun b xs e=>e,fun b o u e=>e,fun b ps e=>⟨#[],by simpa using e⟩⟩
    (fun b u q=>(I8'.hok b u q).stay (fun c v hc e=>(sb9.2 c (by
     rcases hc with rfl | hc
     ·exact nacc c (by rw [q]; intro z; cases z)
     ·exact nacc c (by rw [hc]; intro z; cases z))).trans e) (fun _ z=>z) fun _ _ z=>z) I8'.bare
    fun b hb=>by
     have e:b=acc:=by simpa using hb
     subst e;exact ⟨.inl (by show b∈b :: fp; simp),(hfp b (by simp)).1,fun x c e=>(hfp b (by simp)).2.2 x c e,fun p hp=>absurd hp (by show p∉([]:List (Addr×Obj)) ++ []; simp)⟩
   refine wpAny_pure (wpAny_pure ⟨rfl,ds.length - (i + 1),by omega,i + 1,σ7,H8,ys ++ [v8],its.push u8,rfl,hlt,I9,e1.trans (e6.trans (ek.trans e8)),R7'.mono (ek.trans e8),?_,ha8,fun b hb=>?_,p9,?_,?_,by rw [length_append]; show _ + 1<=_; omega⟩)
   ·refine T.keep _ _ _ st6 fun b hb o e=>(sb9.2 b (fun z=>hacc (by rw [<- z]; exact hb))).trans (fp8 b hb o e).1
   ·obtain ⟨o,e,_⟩:=T.obj _ _ st6 b hb;exact (fp8 b hb o e).2
   ·rw [Array.toList_push]; exact v1.append (.cons r8 .nil)
   ·rw [e9];exact (r1.mono (e6.trans (ek.trans e8))).append (Reps.cons p8 Reps.nil)
 ·have e:i=ds.length:=by omega
  subst e;obtain ⟨na,oa⟩:=p1;have pin1:Inv X' [(acc,({ cls:=.type "list",data:=.seq its na }:Obj))] σ1 H1 s:=I1.pins_of fun p hp=>by
   have:p=(acc,({ cls:=.type "list",data:=.seq its na }:Obj)):=by simpa using hp
   subst this;exact ⟨oa,ha1,(hfp acc (by simp)).1,(hfp acc (by simp)).2.1,fun v z=>(by cases z)⟩
  refine wpAny_mono (T.done X' rfl rfl rfl hcalm ds.length _ s σ1 H1 _ pin1 (fpok fr1 fun b hb p hp z=>by
   have:p=(acc,({ cls:=.type "list",data:=.seq its na }:Obj)):=by simpa using hp
   subst this; exact hacc (by rw [show acc=b from z]; exact hb)) st1 (Y H1 e1).2) (fun rv s5 ⟨hrv,I5⟩=>?_) fun _ _ z=>z
  subst hrv;refine wpAny_pure ?_;have h:=FJ hR;rw [<- h,take_length] at r1;have oa5:=(I5.pin (acc,({ cls:=.type "list",data:=.seq its na }:Obj)) (by simp)).1;exact fin s5 σ1 H1 ys its (I5.pins_of fun p hp=>absurd hp (by simp)) e1 ha1 fr1 ⟨na,oa5⟩ v1 r1
end
theorem _root_.L2.Inv.but {X:Cx} {pins:List (Addr×Obj)} {σ:St} {H:Hp} {s:Shared} {C:Addr} {h':Heap} {t':Nat} (J:Inv X pins σ H s) (hC:H C=none) (hC0:X.s₀.heap.objs.size<=C) (hCl:C≠X.env.locals) (hCc:∀x c,X.env.cells.lookup x=some c->c≠C)
  (hCp:∀p∈X.pn ++ pins,p.1≠C) (hs:Heap.SameBut C s.heap h'):Inv X pins σ H { s with heap:=h',toks:=t' }:=by
 have nC:∀b,H b≠none->b≠C:=fun b hb z=>hb (by rw [z]; exact hC);refine J.call' (ch:=[C]) (s':={ s with heap:=h',toks:=t' }) rfl
   ⟨fun b o e n hb hx=>(hs.2 b (by simpa using hx)).trans e,fun b o e n hb hx=>⟨o.slots,(hs.2 b (by simpa using hx)).trans e⟩,fun b o e n _=>n,fun b o e hx=>⟨o,(hs.2 b (by simpa using hx)).trans e⟩,fun b xs e=>e,fun b o u e=>e,fun b ps e=>⟨#[],by simpa using e⟩⟩
   (fun b u q=>(J.hok b u q).stay (fun c v hc e=>(hs.2 c (by
    rcases hc with rfl | hc
    ·exact nC c (by rw [q]; intro z; cases z)
    ·exact nC c (by rw [hc]; intro z; cases z))).trans e) (fun _ z=>z) fun _ _ z=>z) J.bare
   fun b hb=>by
    have e:b=C:=by simpa using hb
    subst e;exact ⟨.inr hC0,hCl,hCc,hCp⟩
section
variable {X:Cx} {m:Nat} {fr:List Nat} {N':List Str} {scope:Scope} {cl:List (Str×Addr)} {tg iter elt:Expr} {cs:List Expr} {fc:DS->Res Bool} {pos:Pos} {t:gM} {fe:DS->Res D} {fi:DS->Res (List D)}
structure Around' (X:Cx) (m:Nat) (fr:List Nat) (N':List Str) (scope:Scope) (cl:List (Str×Addr)):Prop where
 clos:closureFor scope X.env=pure cl
 nocell:∀y∈scope.names,y.2≠.cell
 kind:scope.kind=.function
 names:∀x∈scope.names,x.2=.local->scope.names.lookup x.1=some .local
 sub:∀x c,cl.lookup x=some c->X.env.cells.lookup x=some c
 has:∀x,((relabel scope X.env).names.lookup x=some .cell\/(relabel scope X.env).names.lookup x=some .free)->∃c,cl.lookup x=some c
 len:N'.length=m + fr.length
 free:∀j i,fr[j]? = some i->∃x c,N'[m + j]? = some x/\X.N[i]? = some x/\yL X.env.scope x/\(X.env.kindOf x=some .cell\/X.env.kindOf x=some .free)/\cl.lookup x=some c/\((compEnvC scope cl 0 X.env).kindOf x=some .cell\/(compEnvC scope cl 0 X.env).kindOf x=some .free)
theorem Jt (W:Around' X m fr N' scope cl) (hcalm:X.calm=true) (hkt:eQ m t) (hi:PID X tg iter fi) (ht:∀C s H fp,PGD (cA X N' scope cl C s H fp) tg t) (hcs:cs.length<=1) (hc:∀C s H fp,Js (cA X N' scope cl C s H fp) cs fc) (he:∀C s H fp,PD (cA X N' scope cl C s H fp) elt fe)
  {pins:List (Addr×Obj)} {s:Shared} {σ:St} {G H:Hp} {δ:DS} (I:Inv X pins σ H s) (R:RepSt X.K G H σ δ) (hs:cR m fr t fc fe fi δ≠.stuck) {E:Value->Shared->Prop} (hE:∀e s1,XPost X pins σ H s.heap (cR m fr t fc fe fi δ) e s1->E e s1)
  {RR:Value->Addr->Result->Shared->Prop}
  (fin:∀a C s' H' ds xs mC,cR m fr t fc fe fi δ=.ok (.lst ds)->Inv X pins σ H' s'->Same H H'->H a=none->H' a=some (.lst xs)->Reps X.K H' ds xs->s'.heap.Ns C mC->H' C=none->C≠a->X.s₀.heap.objs.size<=C->C∉X.fs->C≠X.env.locals->(∀x c,X.env.cells.lookup x=some c->c≠C)->(∀p∈X.pn ++ pins,p.1≠C)->RR (.ref a) C (.ok .next) s') :
  wpAny (model X.prog X.w) X.A (eval iter X.env) (fun x s₁=>wpAny (model X.prog X.w) X.A (pyIter x) (fun itv s₂=>wpAny (model X.prog X.w) X.A (newList []) (fun acc s₃ =>
   wpAny (model X.prog X.w) X.A (newFunctionEnv scope X.env.globals cl [] X.env.qual none .none (some X.env)) (fun cenv s₄ =>
    codeAny (model X.prog X.w) X.A (.compStart (.ListComp elt [⟨tg,iter,cs,0⟩] scope pos) 0 itv acc { cenv with scope:=relabel scope X.env }) (RR acc cenv.locals) s₄) E s₃) E s₂) E s₁) E s:=by
 have hs':(fi δ).bind (gY t fc fe (cQ m fr δ))≠.stuck:=hs;refine wpAny_mono (hi pins s σ G H δ I R (gb hs')) (fun v s1 h1=>wpAny_mono h1 (fun itv s2 h2=>?_) fun e s2 q=>hE e s2 (q.same fun x z=>gR z)) fun e s2 q=>hE e s2 (q.same fun x z=>gR z);obtain ⟨ds,it,fp,tn,J,H2,q,rfl,I2,T,st2,f2,e2,Y⟩:=h2;have h3:gY t fc fe (cQ m fr δ) ds≠.stuck:=ie hs' q;have hz':ds.length<=sizeLine:=by
  by_cases z:ds.length<=sizeLine
  ·exact z
  ·exact (h3 (by unfold gY; rw [if_neg z])).elim
 have h4:(mapR (eU t fc fe (cQ m fr δ)) ds).bind (fun rs=>Res.ok (D.lst (rs.flatMap unI)))≠.stuck:=by unfold gY at h3; rw [if_pos hz'] at h3; exact h3
 have hm:mapR (eU t fc fe (cQ m fr δ)) ds≠.stuck:=gb h4
 cases hR:mapR (eU t fc fe (cQ m fr δ)) ds with
 | stuck=>exact (hm hR).elim
 | err x=>exact (FN (fun d=>P0 d) ds x hR).elim
 | ok rs =>
 have hz:(rs.flatMap unI).length<=sizeLine:=Nat.le_trans (Jr hR) hz';have ev:cR m fr t fc fe fi δ=.ok (.lst (rs.flatMap unI)):=by unfold cR; rw [q,Res.bind_ok]; unfold gY; rw [if_pos hz',hR]; rfl
 have R2:=R.mono e2;refine wpAny_newObj_type (wpAny_newFunctionEnv W.nocell (by intro y hy; simp at hy) (fun h₁ hns₁ hsb₁=>?_) W.kind);dsimp only at hns₁ hsb₁ ⊢;generalize hA:s2.heap.objs.size=acc at *;generalize hH3:s2.heap.push { cls:=.type "list",dict:=none,data:=.seq ([]:List Value).toArray }=h3' at hns₁ hsb₁ ⊢;have hC:h3'.objs.size=acc + 1:=by rw [<- hH3,Heap.size_push,hA]
 generalize hCC:h3'.objs.size=C at *;have k3:∀b o,s2.heap.get? b=some o->h3'.get? b=some o:=fun b o e=>by rw [<- hH3]; exact Heap.get?_push_of_some _ e
 have a3:h3'.get? acc=some { cls:=.type "list",dict:=none,data:=.seq ([]:List Value).toArray }:=by rw [<- hH3,<- hA]; exact Heap.get?_push_size _ rfl
 have k4:∀b o,h3'.get? b=some o->h₁.get? b=some o:=fun b o e=>hsb₁.extBut b o (fun z=>by have:=Heap.lt_size e; rw [hCC,z] at this; exact Nat.lt_irrefl _ this) (Heap.get?_push_of_some _ e);have hacc2:H2 acc=none:=I2.hok.fresh (by rw [hA]; exact Nat.le_refl _);have I3:Inv X pins σ H2 { s2 with heap:=h3',toks:=s2.toks }:=I2.kept k3
 have fp2:∀b∈fp,b < acc:=fun b hb=>by
  obtain ⟨o,e,_⟩:=T.obj _ _ st2 b hb;have:=Heap.lt_size e;rw [hA] at this; exact this
 have f3:∀b∈acc :: fp,gQ X pins H2 b/\b < ({ s2 with heap:=h3',toks:=s2.toks }:Shared).heap.objs.size:=fun b hb=>by
  rcases mem_cons.mp hb with z | z
  ·subst z;exact ⟨I2.fpOk (by rw [hA]; exact Nat.le_refl _) hacc2,by show _ < h3'.objs.size; rw [hCC,hC]; exact Nat.lt_succ_self _⟩
  ·exact ⟨f2 b z,by show _ < h3'.objs.size; rw [hCC,hC]; exact Nat.lt_succ_of_lt (fp2 b z)⟩
 have hacc:acc∉fp:=fun z=>Nat.lt_irrefl _ (fp2 acc z);have okX:(cA X N' scope cl C { s2 with heap:=h3',toks:=s2.toks } H2 (acc :: fp)).Ok:=Pz I3 W.kind (by show h3'.objs.size<=C; rw [hCC]; exact Nat.le_refl _) W.sub W.has f3
 have hC2:H2 C=none:=I2.hok.fresh (by rw [hA,hC]; exact Nat.le_succ _);have hcells:∀x c,cl.lookup x=some c->∃v,h₁.IsCell c v:=fun x c e=>by
  obtain ⟨v,o,g,d⟩:=I2.cell x c (W.sub x c e);exact ⟨v,o,k4 _ _ (k3 _ _ g),d⟩
 have hos:s2.os=({ s2 with heap:=h3',toks:=s2.toks }:Shared).os:=rfl
 have I4:∀tk,Inv (cA X N' scope cl C { s2 with heap:=h3',toks:=s2.toks } H2 (acc :: fp)) [] (jQ m fr σ) H2 { s2 with heap:=h₁,toks:=tk }:=fun tk=>by
  refine ⟨okX,rfl,I2.bare,Un.kept k4,⟨_,hns₁,fun i x v e1 e2 e3=>?_⟩,hcells,hC2,fun x c e=>I2.freeC x c (W.sub x c e),fun p hp=>absurd hp (by show p∉([]:List (Addr×Obj)) ++ []; simp),I3.hok.kept k4,by show _=N'.length; rw [W.len]; simp [jQ]⟩;unfold jQ at e2
  by_cases hm':i < m
  ·rw [List.getElem?_append_left (by simpa using hm'),List.getElem?_replicate,if_pos hm'] at e2
   cases e2
  ·rw [List.getElem?_append_right (by simpa using hm'),List.getElem?_map] at e2;simp only [length_replicate] at e2
   cases qf:fr[i - m]? with
   | none=>rw [qf] at e2; cases e2
   | some k =>
    rw [qf] at e2;simp only [Option.map_some,Option.some.injEq] at e2;have e2':σ[k]? = some (some v):=by
     cases qk:σ[k]? with
     | none=>rw [qk] at e2; cases e2
     | some w=>rw [qk] at e2; simp only [Option.elim_some,id] at e2; rw [e2]
    obtain ⟨x',c,w1,w2,w3,w4,w5,w6⟩:=W.free (i - m) k qf;have hx:x'=x:=by
     have:m + (i - m)=i:=by omega
     rw [this] at w1;have e1':N'[i]? = some x:=e1;rw [e1'] at w1; cases w1; rfl
    subst hx;obtain ⟨m0,hn0,hl0⟩:=I2.loc;obtain ⟨u,r,l⟩:=hl0 k x' v w2 e2' w3;refine ⟨u,r,?_⟩;rcases l with ⟨l1,_⟩ | ⟨l1,c',l2,o,g,d⟩
    ·rcases w4 with z | z <;> (rw [z] at l1; cases l1)
    ·have hcc:c'=c:=by
      have:=W.sub x' c w5;rw [l2] at this; cases this; rfl
     subst hcc;exact .inr ⟨w6,c',w5,o,k4 _ _ (k3 _ _ g),d⟩
 have R4:=PN m fr R2;have st4:tn 0 h₁:=T.keep 0 _ _ st2 fun b hb o e=>k4 _ _ (k3 _ _ e);have hfp:∀b∈acc :: fp,b≠C/\b∉frs X.stack/\∀x c,cl.lookup x=some c->c≠b:=fun b hb=>by
  obtain ⟨⟨g1,g2,g3,g4,g5,g6⟩,g7⟩:=f3 b hb;refine ⟨Nat.ne_of_lt (by rw [<- hCC]; exact g7),fun z=>?_,fun x c e=>g5 x c (W.sub x c e)⟩;rcases mem_cons.mp (I2.stkSub b z) with w | w
  ·exact g2 w
  ·exact g3 w
 have hCs:s2.heap.objs.size<=C:=by rw [hA,hC]; exact Nat.le_succ _
 have loop:∀tk,codeAny (model X.prog X.w) X.A (.compLoop (.ListComp elt [⟨tg,iter,cs,0⟩] scope pos) 0 (.ref it) (.ref acc) (compEnvC scope cl C X.env)) (RR (.ref acc) C) { s2 with heap:=h₁,toks:=tk }:=fun tk=>by
  refine P_ (m:=m) (its0:=#[]) hcalm T Y hR hz' hkt (fun i h sv=>Fz i h sv) (ht C _ H2 (acc :: fp)) hcs (hc C _ H2 (acc :: fp)) (he C _ H2 (acc :: fp)) hacc hfp ?_ (I4 tk) R4 st4 (fun b hb=>(f3 b hb).1.1) ⟨0,k4 _ _ a3⟩;intro s' σ' H' ys its J e' ha' hf' p' v' r';have K1:Inv X pins σ H' s':=I3.call' (ch:=acc :: fp) J.os J.base J.hok J.bare fun b hb=>by
   obtain ⟨⟨g1,g2,g3,g4,g5,g6⟩,g7⟩:=f3 b hb;exact ⟨g4,g2,g5,g6⟩
  obtain ⟨⟨g1,g2,g3,g4,g5,g6⟩,g7⟩:=f3 acc (by simp);obtain ⟨n',o'⟩:=p';have K2:=K1.track (o:=.lst ys) ha' (fun ob e _=>absurd (Nat.lt_of_lt_of_le (Heap.lt_size e) (by rw [<- hA]; exact I2.sz)) (Nat.lt_irrefl _)) g2 g5 g6
   ⟨by rw [r'.length]; exact hz,its.toList,n',v',by simpa using o'⟩
  obtain ⟨mC,hmC,_⟩:=J.loc;have sm:=i_ ha' (.lst ys);have hCa:C≠acc:=by omega
  refine fin acc C s' (upd H' acc (.lst ys)) (rs.flatMap unI) ys mC ev K2 (e2.trans (e'.trans sm)) (e2.free hacc2) jB (r'.mono sm) hmC (by rw [dU hCa]; exact J.free) hCa (Nat.le_trans I2.sz hCs) (I2.nofs hCs) (Nat.ne_of_gt (Nat.lt_of_lt_of_le I2.lt hCs)) (fun x c e z=>?_) fun p hp z=>?_
  ·obtain ⟨v,q⟩:=I2.cell x c e;exact absurd (Nat.lt_of_lt_of_le q.lt (by rw [z]; exact hCs)) (Nat.lt_irrefl _)
  ·exact absurd (Nat.lt_of_lt_of_le (Heap.lt_size (I2.pin p hp).1) (by rw [z]; exact hCs)) (Nat.lt_irrefl _)
 exact codeAny_compStart_list (loop _) (T.self X.A 0 _ _ _ st4 (loop _))
theorem compI_true {δ:DS}:cR m fr t (fun _=>.ok true) fe fi δ=bD m fr t fe fi δ:=by
 have el:∀(δ':DS) (d:D),eU t (fun _=>.ok true) fe δ' d=(fG t fe δ' d).bind fun x=>.ok (.tup [x]):=fun δ' d=>by
  unfold eU fG
  cases t d δ' with
  | none=>rfl
  | some δ1=>cases h:fe δ1 <;> simp only [h] <;> rfl
 have mr:∀(δ':DS) (ds:List D),mapR (eU t (fun _=>.ok true) fe δ') ds=(mapR (fG t fe δ') ds).bind fun rs=>.ok (rs.map fun x=>.tup [x]):=fun δ' ds=>by
  induction ds with
  | nil=>rfl
  | cons d ds ih =>
   simp only [mapR,el,ih]
   cases fG t fe δ' d with
   | stuck=>rfl
   | err x=>rfl
   | ok x=>cases mapR (fG t fe δ') ds <;> rfl
 have un:∀rs:List D,(rs.map fun x=>D.tup [x]).flatMap unI=rs:=fun rs=>by
  induction rs with
  | nil=>rfl
  | cons r rs ih=>rw [map_cons,flatMap_cons,ih]; rfl
 unfold cR bD
 cases fi δ with
 | stuck=>rfl
 | err x=>rfl
 | ok ds =>
  show gY t (fun _=>.ok true) fe (cQ m fr δ) ds=fD (mapR (fG t fe (cQ m fr δ)) ds);unfold gY fD;rw [mr]
  cases hR:mapR (fG t fe (cQ m fr δ)) ds with
  | stuck=>split <;> rfl
  | err x=>exact (FN (fun d=>PQ d) ds x hR).elim
  | ok rs =>
   have h:=FJ hR;show (if ds.length<=sizeLine then Res.ok (D.lst ((rs.map fun x=>D.tup [x]).flatMap unI)) else .stuck)=if rs.length<=sizeLine then Res.ok (D.lst rs) else .stuck
   rw [un,h]
theorem ek' (W:Around' X m fr N' scope cl) (hcalm:X.calm=true) (hkt:eQ m t) (hi:PID X tg iter fi) (ht:∀C s H fp,PGD (cA X N' scope cl C s H fp) tg t) (he:∀C s H fp,PD (cA X N' scope cl C s H fp) elt fe)
  {pins:List (Addr×Obj)} {s:Shared} {σ:St} {G H:Hp} {δ:DS} (I:Inv X pins σ H s) (R:RepSt X.K G H σ δ) (hs:bD m fr t fe fi δ≠.stuck) {E:Value->Shared->Prop} (hE:∀e s1,XPost X pins σ H s.heap (bD m fr t fe fi δ) e s1->E e s1)
  {RR:Value->Addr->Result->Shared->Prop}
  (fin:∀a C s' H' ds xs mC,bD m fr t fe fi δ=.ok (.lst ds)->Inv X pins σ H' s'->Same H H'->H a=none->H' a=some (.lst xs)->Reps X.K H' ds xs->s'.heap.Ns C mC->H' C=none->C≠a->X.s₀.heap.objs.size<=C->C∉X.fs->C≠X.env.locals->(∀x c,X.env.cells.lookup x=some c->c≠C)->(∀p∈X.pn ++ pins,p.1≠C)->RR (.ref a) C (.ok .next) s') :
  wpAny (model X.prog X.w) X.A (eval iter X.env) (fun x s₁=>wpAny (model X.prog X.w) X.A (pyIter x) (fun itv s₂=>wpAny (model X.prog X.w) X.A (newList []) (fun acc s₃ =>
   wpAny (model X.prog X.w) X.A (newFunctionEnv scope X.env.globals cl [] X.env.qual none .none (some X.env)) (fun cenv s₄ =>
    codeAny (model X.prog X.w) X.A (.compStart (.ListComp elt [⟨tg,iter,[],0⟩] scope pos) 0 itv acc { cenv with scope:=relabel scope X.env }) (RR acc cenv.locals) s₄) E s₃) E s₂) E s₁) E s:=by
 have e:bD m fr t fe fi δ=cR m fr t (fun _=>.ok true) fe fi δ:=compI_true.symm;rw [e] at hs hE;exact Jt (cs:=[]) W hcalm hkt hi ht (Nat.zero_le 1) (fun C s H fp pins s' σ G H' δ I R _=>wpAny_pure ⟨H',rfl,I,Same.refl _⟩) he I R hs hE fun a C s' H' ds xs mC ev=>fin a C s' H' ds xs mC (e.trans ev)
theorem v9 (W:Around' X m fr N' scope cl) (hcalm:X.calm=true) (hkt:eQ m t) (hi:PID X tg iter fi) (ht:∀C s H fp,PGD (cA X N' scope cl C s H fp) tg t) (he:∀C s H fp,PD (cA X N' scope cl C s H fp) elt fe)
  (hf:∀x,foldedSetIterable iter X.env x=pure x:=by intro _; rfl):PD X (.ListComp elt [⟨tg,iter,[],0⟩] scope pos) (bD m fr t fe fi):=by
 intro pins s σ G H δ I R hs;rw [eval_ListComp];refine wpAny_comprehension_free (use:=none) rfl hf W.clos W.kind W.names (ek' W hcalm hkt hi ht he I R hs (fun _ _ q=>q) (RR:=fun acc C=>compPost _ _ _ none _ acc C) ?_);intro a C s' H' ds xs mC ev J e' ha hx hr hns hC hCa hC0 hCf hCl hCc hCp;refine ⟨mC,hns,fun h' hs'=>?_⟩;exact ⟨.lst ds,.ref a,H',ev,J.but (t':=s'.toks) hC hC0 hCl hCc hCp hs',rfl,e',qu (SqL.of hx) hr⟩
theorem Qa (i:Nat) {y:Str} {py spos:Pos} (W:Around' X m fr N' scope cl) (hcalm:X.calm=true) (hkt:eQ m t) (hi:PID X tg iter fi) (ht:∀C s H fp,PGD (cA X N' scope cl C s H fp) tg t) (he:∀C s H fp,PD (cA X N' scope cl C s H fp) elt fe)
  (hN:X.N.Nodup) (hsw:swapsWith (.ListComp elt [⟨tg,iter,[],0⟩] scope pos) (some (.Name y py)) spos.line X.env=pure true:=by rfl) (hy:X.N[i]? = some y:=by rfl) (hx:Loc X.env.scope y:=by first | exact Or.inl rfl | exact Or.inr rfl)
  (hfn:X.fn y=true\/X.env.scope.names.lookup y=some .local:=by first | exact .inl rfl | exact .inr rfl | assumption) (hf:∀x,foldedSetIterable iter X.env x=pure x:=by intro _; rfl) :
  PSD X (.Assign [.Name y py] (.ListComp elt [⟨tg,iter,[],0⟩] scope pos) spos) (aD i (bD m fr t fe fi)):=by
 intro pins s σ G H δ I R hs;have hs':bD m fr t fe fi δ≠.stuck:=yt hs;rw [exec_Assign_Name_used _ _ _ _ hsw];refine wpAny_bind (wpAny_standAt (wpAny_bind ?_));show wpAny _ X.A (do let _ <- comprehension (.ListComp elt [⟨tg,iter,[],0⟩] scope pos) scope X.env _ (newList []) false (eval iter X.env) (some (assign (.Name y py) X.env))) _ _ s
 refine wpAny_bind (wpAny_mono (wpAny_comprehension_free (use:=some (assign (.Name y py) X.env)) (Q:=fun _ s'=>SPost X pins G H (aD i (bD m fr t fe fi) δ) .next s') rfl hf W.clos W.kind W.names
  (ek' W hcalm hkt hi ht he I R hs' (fun e s1 q=>q.sx R fun x z=>by unfold aD; rw [z]; rfl) (RR:=fun acc C=>compPost _ _ _ (some (assign (.Name y py) X.env)) _ acc C) ?_)) (fun _ s' hq=>wpAny_pure (wpAny_pure hq)) fun _ _ e=>e)
 intro a C s' H' ds xs mC ev J e' ha hx' hr hns hC hCa hC0 hCf hCl hCc hCp;show wpAny _ X.A (assign (.Name y py) X.env (.ref a)) _ _ _;refine wpAny_assign_Name (Dg J hN hy hx (v:=.ref a) (u:=.ref a) rfl (fun s2 I2 ⟨b,sb,hb⟩=>?_) hfn);have hbC:C≠b:=by
  rcases hb with z | z
  ·rw [z]; exact hCl
  ·exact fun w=>hCc _ _ z w.symm
 refine ⟨mC,hns.sameBut sb hbC,fun h' hs'=>?_⟩;refine ⟨_,_,H',by unfold aD; rw [ev]; rfl,I2.but (t':=s2.toks) hC hC0 hCl hCc hCp hs',e'.tk,(R.mono e').set i (qu (SqL.of hx') hr)⟩
end
mutual
noncomputable def gO:D->PyData
 | .non=>.none
 | .bl b=>.bool b
 | .int i=>.int i
 | .str x=>.str x
 | .tup ds=>.tuple (iC ds)
 | .lst ds=>.list (iC ds)
 | _=>.none
noncomputable def iC:List D->List PyData
 | []=>[]
 | d :: ds=>gO d :: iC ds
end
noncomputable def ig:Nat->D->Bool
 | _,.non=>true
 | _,.bl _=>true
 | _,.int _=>true
 | _,.str x=>PyData.strOk x
 | n + 1,.tup ds=>ds.all (ig n)
 | n + 1,.lst ds=>ds.all (ig n)
 | _,_=>false
theorem Qc:∀(n:Nat) (d:D),ig n d=true->(gO d).canLay0=true/\(gO d).depth<=n:=by
 intro n;have all:∀n,(∀d,ig n d=true->(gO d).canLay0=true/\(gO d).depth<=n)->∀ds:List D,(∀d∈ds,ig n d=true)->PyData.canLayAll0 (iC ds)=true/\PyData.depthAll (iC ds)<=n:=by
  intro n ih ds
  induction ds with
  | nil=>intro _; simp [iC,PyData.canLayAll0,PyData.depthAll]
  | cons d ds hi =>
   intro h;have q1:=ih d (h d (.head _));have q2:=hi fun x hx=>h x (.tail _ hx);simp only [iC,PyData.canLayAll0,PyData.depthAll,Bool.and_eq_true];exact ⟨⟨q1.1,q2.1⟩,by omega⟩
 induction n with
 | zero =>
  intro d h
  cases d <;> simp_all [ig,gO,PyData.canLay0,PyData.depth]
 | succ n ih =>
  intro d h
  cases d with
  | tup ds =>
   have:=all n ih ds (by simpa [ig] using h);simp only [gO,PyData.canLay0,PyData.depth];exact ⟨this.1,by omega⟩
  | lst ds =>
   have:=all n ih ds (by simpa [ig] using h);simp only [gO,PyData.canLay0,PyData.depth];exact ⟨this.1,by omega⟩
  | _=>simp_all [ig,gO,PyData.canLay0,PyData.depth]
section
variable {X:Cx} {pins:List (Addr×Obj)} {σ:St} {H:Hp} {s:Shared}
mutual
theorem zp (I:Inv X pins σ H s):∀(n:Nat) {d:D} {v:V} {u:Value},ig n d=true->Rep X.K H d v->RelV v u->∃as,Reads s.heap u (gO d) as
 | n,.non,v,u,_,p,r=>by rw [Rep] at p; subst p; cases r; rw [gO]; exact ⟨_,Reads.none⟩
 | n,.bl b,v,u,_,p,r=>by rw [Rep] at p; subst p; cases r; rw [gO]; exact ⟨_,Reads.bool b⟩
 | n,.int i,v,u,_,p,r=>by rw [Rep] at p; subst p; obtain ⟨t,rfl⟩:=r; rw [gO]; exact ⟨_,Reads.int i t⟩
 | n,.str x,v,u,_,p,r=>by rw [Rep] at p; subst p; obtain ⟨t,rfl⟩:=r; rw [gO]; exact ⟨_,Reads.str x t⟩
 | n + 1,.tup ds,v,u,h,p,r=>by
  obtain ⟨a,xs,rfl,hq,rs⟩:=eE p
  cases r
  obtain ⟨its,rv,⟨o,g,c,k,d⟩,hz⟩:=I.tuple hq;obtain ⟨as,q⟩:=FP I n (by simpa [ig] using h) rs rv;rw [gO];exact ⟨as,reads_tuple_at g c d (by simpa using q)⟩
 | n + 1,.lst ds,v,u,h,p,r=>by
  obtain ⟨a,xs,rfl,hq,rs⟩:=fP p
  cases r
  obtain ⟨its,rv,⟨o,k,g,c,_,d⟩,hz⟩:=I.list hq;obtain ⟨as,q⟩:=FP I n (by simpa [ig] using h) rs rv;rw [gO];exact ⟨_,reads_list_at g c d (by simpa using q)⟩
 | 0,.tup ds,v,u,h,p,r=>by simp [ig] at h
 | 0,.lst ds,v,u,h,p,r=>by simp [ig] at h
 | n,.exc c,v,u,h,p,r=>by cases n <;> simp [ig] at h
 | n,.excf c f d,v,u,h,p,r=>by cases n <;> simp [ig] at h
 | n,.dct,v,u,h,p,r=>by cases n <;> simp [ig] at h
theorem FP (I:Inv X pins σ H s):∀(n:Nat) {ds:List D} {vs:List V} {us:List Value},(∀d∈ds,ig n d=true)->Reps X.K H ds vs->Vals vs us->∃as,ReadsAll s.heap us (iC ds) as
 | n,[],vs,us,_,p,r=>by
  cases p.nil_of
  cases r
  rw [iC];exact ⟨_,ReadsAll.nil⟩
 | n,d :: ds,vs,us,h,p,r=>by
  obtain ⟨v,ws,rfl,p1,p2⟩:=p.cons_of
  cases r with
  | cons r1 r2 =>
   obtain ⟨as,q⟩:=zp I n (h d (.head _)) p1 r1;obtain ⟨bs,q2⟩:=FP I n (fun x hx=>h x (.tail _ hx)) p2 r2;rw [iC];exact ⟨_,ReadsAll.cons q q2⟩
end
end
noncomputable def cH (a b:D):Res D:=if ig 8 a=true/\ig 8 b=true then .ok (.bl (PyData.eqv (gO a) (gO b))) else .stuck
noncomputable def fQ (a b:D):Res D:=if ig 8 a=true/\ig 8 b=true then .ok (.bl (!PyData.eqv (gO a) (gO b))) else .stuck
theorem dW (x y:D):aO (cH x y):=kE dZ dh
theorem lL (x y:D):aO (fQ x y):=kE dZ dh
theorem Dq {d:D} (h:ig 8 d=true):SeqAt.shaped (gO d)=true:=by
 have:=Qc 8 d h;unfold SeqAt.shaped;rw [this.1,Bool.true_and];exact decide_eq_true (Nat.le_trans this.2 (by decide))
theorem dX {X:Cx} (hu:X.A.units + 64 < cLine):OpD X (compareOp .Eq) cH:=by
 intro E pins s σ H x y v u a b d I r1 r2 p1 p2 e;unfold cH at e
 split at e
 ·rename_i c
  cases e
  obtain ⟨as,ra⟩:=zp I 8 c.1 p1 r1;obtain ⟨bs,rb⟩:=zp I 8 c.2 p2 r2;exact SeqAt.compareEq_shaped ra rb (Dq c.1) (Dq c.2) hu ⟨_,.bl _,H,rfl,I,rfl,Same.refl H,vX⟩
 ·cases e
theorem lM {X:Cx} (hu:X.A.units + 64 < cLine):OpD X (compareOp .NotEq) fQ:=by
 intro E pins s σ H x y v u a b d I r1 r2 p1 p2 e;unfold fQ at e
 split at e
 ·rename_i c
  cases e
  obtain ⟨as,ra⟩:=zp I 8 c.1 p1 r1;obtain ⟨bs,rb⟩:=zp I 8 c.2 p2 r2;exact SeqAt.compareNe_shaped ra rb (Dq c.1) (Dq c.2) hu ⟨_,.bl _,H,rfl,I,rfl,Same.refl H,vX⟩
 ·cases e
noncomputable def wN:D->String
 | .non=>"NoneType"
 | .bl _=>"bool"
 | .int _=>"int"
 | .str _=>"str"
 | .tup _=>"tuple"
 | .lst _=>"list"
 | .dct=>"dict"
 | _=>""
theorem Qd {K:Frag} {prog:Program} {w:World} {A:Around} {s:Shared} {x D:Addr} {ox:Obj} {tk:Tok} {R:Result->Shared->Prop}
  (hdct:hasDictIn K D=true) (ha:findIn K (.ref D) "__class__" = some (some (.builtin "object.__class__")))
  (hn:specialIn K (.builtin "object.__class__") "__get__" = some (some (.builtin "getset_descriptor.__get__"))) (htk:takesIn K (.builtin "object.__class__")=some true) (hm:mroIn K D (.type "object")=some true) (hB:mroIn K D (.type "BaseException")=some true)
  {od:Option Obj} (X:K.In s.heap) (I:InstAt s.heap x ox D od) (h:R (.ok (.ret (.ref D))) s) :
  codeAny (model prog w) A (.call (.builtin "BaseException.__getattribute__") ⟨[.ref x,.str "__class__" tk],[]⟩) R s:=by
 have hf:findObj K D od "__class__" = some (.bind (.builtin "getset_descriptor.__get__") (.builtin "object.__class__")):=by
  obtain ⟨cd,hc,_⟩:=any_some hdct;unfold findObj;rw [hc,Option.bind_some,ha,Option.bind_some];simp [hn,htk]
 have hk:builtinKind "BaseException.__getattribute__" = some .slot:=by decide +kernel
 have hsplit:splitId "BaseException.__getattribute__" = some ("BaseException", "__getattribute__"):=by decide +kernel
 have L0:=I.type (M:=model prog w);have L1:=looks_find (M:=model prog w) X I hf;have L2:=looks_mroIn (M:=model prog w) X hB;have har:=F.args_bexc_ga (.ref x) (.str "__class__" tk);refine codeAny_call_builtin (by decide +kernel) F.entry_bexc_ga ?_;simp only [checkBuiltinCall,hk,hsplit];refine wpAny_bind ?_;unfold isInstance;refine wpAny_bind (L0.at (L2.at ?_));simp only [Bool.not_true,Bool.false_eq_true,if_false]
 repeat (first | with_reducible refine wpAny_pure ?_ | with_reducible refine wpAny_bind ?_ | wp_step)
 obtain ⟨hh,g,dr,t,os⟩:=s;refine wpAny_loadPart I.at_ (wpAny_pure ?_);rw [I.cls];refine wpAny_bind (L1.at ?_);show wpAny _ _ (Builtin.ObjectAttr.bindTo _ _ _ _) _ _ _;unfold Builtin.ObjectAttr.bindTo;refine wpAny_bind (wpAny_holding (wpAny_call (class_get (s:=⟨hh,g,dr,t,os⟩) (ox:=ox) (od:=od) X I hm ?_)));exact wpAny_pure h
theorem Ju {K:Frag} {prog:Program} {w:World} {A:Around} {E:Value->Shared->Prop} {s:Shared} {x D:Addr} {ox:Obj} {Q:Option Value->Shared->Prop}
  (hga:findIn K (.ref D) "__getattribute__" = some (some (.builtin "BaseException.__getattribute__"))) (hgk:findIn K (.ref D) "__getattr__" = some none)
  (hdct:hasDictIn K D=true) (ha:findIn K (.ref D) "__class__" = some (some (.builtin "object.__class__")))
  (hn:specialIn K (.builtin "object.__class__") "__get__" = some (some (.builtin "getset_descriptor.__get__"))) (htk:takesIn K (.builtin "object.__class__")=some true) (hm:mroIn K D (.type "object")=some true) (hB:mroIn K D (.type "BaseException")=some true)
  {od:Option Obj} (X:K.In s.heap) (I:InstAt s.heap x ox D od) (h:Q (some (.ref D)) { s with toks:=s.toks + 1 }):wpAny (model prog w) A (getAttr? (.ref x) "__class__") Q E s:=by
 obtain ⟨hh,g,d,t,os⟩:=s;have L0:=I.type (M:=model prog w);have L1:=looks_findIn (M:=model prog w) X hga;have Lk:=looks_findIn (M:=model prog w) X hgk;unfold getAttr? getAttrBy? getAttrBy;refine wpAny_bind (wpAny_mkText (wpAny_bind (wpAny_attempt (wpAny_holding (wpAny_bind (L0.at (wpAny_bind (L1.at ?_))))))));show wpAny _ _ (getAttrByItsOwn _ _ _ _ _ _) _ _ _;unfold getAttrByItsOwn hookBefore;refine wpAny_bind (Lk.at ?_);refine wpAny_bind (wpAny_attempt (wpAny_holding ?_));show wpAny _ _ (boundAndCalled _ _ _) _ _ _;unfold boundAndCalled;rw [PySem.F.attrBase_ValueError.ga.bind];refine wpAny_bind (wpAny_pure (wpAny_call (Qd (s:=⟨hh,g,d,t + 1,os⟩) hdct ha hn htk hm hB X I ?_)));exact handed_on rfl (wpAny_pure h)
structure ExcCls (K:Frag) (C:Addr):Prop where
 hga:findIn K (.ref C) "__getattribute__" = some (some (.builtin "BaseException.__getattribute__"))
 hgk:findIn K (.ref C) "__getattr__" = some none
 hdct:hasDictIn K C=true
 ha:findIn K (.ref C) "__class__" = some (some (.builtin "object.__class__"))
 hn:specialIn K (.builtin "object.__class__") "__get__" = some (some (.builtin "getset_descriptor.__get__"))
 htk:takesIn K (.builtin "object.__class__")=some true
 hm:mroIn K C (.type "object")=some true
 hB:mroIn K C (.type "BaseException")=some true
theorem gd' {K:Frag} {a C:Addr} {dd:Option Addr} (W:ExcCls K C):KitX K (.ref a) (.ref C) (fun h=>excAt a C dd h/\match dd with | none=>True | some dx=>∃o,h.get? dx=some o) where
 ty:=fun M h _ ⟨⟨o,vs,g,c,_⟩,_⟩=>by rw [<- c]; exact (Looks.ld g).andThen .now
 it:=fun _ _ X _=>by
  obtain ⟨cdD,hcD,_⟩:=any_some W.hdct;unfold clsIn at hcD
  split at hcD
  ·rename_i c' d' cd' sl' ho;intro A' Q' E' s' k q;unfold isType loadHead;exact wpAny_bind (wpAny_loadPart (k _ _ (X _ _ ho)) (wpAny_pure q))
  ·cases hcD
 ne:=fun h tp dd its n sl X htp=>by
  obtain ⟨cdD,hcD,_⟩:=any_some W.hdct;refine Bool.eq_false_iff.mpr fun q=>?_;have e:C=tp:=Value.ref.inj (beq_iff_eq.mp q);subst e;unfold clsIn at hcD
  split at hcD
  ·rename_i c' d' cd' sl' ho;have z:=(X _ _ ho).symm.trans htp
   cases z
  ·cases hcD
 ca:=fun X ⟨⟨o,vs,g,c,d,hd⟩,w⟩ k=>by
  cases dd with
  | none=>exact Ju (od:=none) W.hga W.hgk W.hdct W.ha W.hn W.htk W.hm W.hB X ⟨g,c,by unfold notCls; rw [hd],by rw [d]; trivial⟩ k
  | some dx =>
   obtain ⟨od,ho⟩:=w;exact Ju (od:=some od) W.hga W.hgk W.hdct W.ha W.hn W.htk W.hm W.hB X ⟨g,c,by unfold notCls; rw [hd],by rw [d]; exact ho⟩ k
noncomputable def pN (K:Frag) (cv:Value) (b:Bool):D->Prop
 | .exc n=>∀C,nsIn K mainGlobals n=some (some (.ref C))->ExcCls K C/\kitOne K (.ref C) cv=some b
 | .excf n _ _=>∀C,nsIn K mainGlobals n=some (some (.ref C))->ExcCls K C/\kitOne K (.ref C) cv=some b
 | d=>kitOne K (.type (wN d)) cv=some b
theorem Qe {X:Cx} {pins:List (Addr×Obj)} {σ:St} {H:Hp} {s:Shared} {A:Around} {E:Value->Shared->Prop} {Q:Value->Shared->Prop} {cv u:Value} {v:V} {d:D} {b:Bool} (I:Inv X pins σ H s) (p:Rep X.K H d v) (r:RelV v u) (ok:pN X.K cv b d)
  (h:∀tk,Q (.bool b) { s with toks:=tk }):wpAny (model X.prog X.w) A (call (.builtin "isinstance") [u,cv]) Q E s:=by
 cases d with
 | non=>rw [Rep] at p; subst p; exact Di I r .non ok h
 | bl k=>rw [Rep] at p; subst p; exact Di I r (.bl k) ok h
 | int k=>rw [Rep] at p; subst p; exact Di I r (.int k) ok h
 | str k=>rw [Rep] at p; subst p; exact Di I r (.str k) ok h
 | tup ds =>
  obtain ⟨a,xs,rfl,hq,_⟩:=eE p
  cases r
  obtain ⟨its,_,⟨o,g,c,_⟩,_⟩:=I.tuple hq;exact kia_one kitx_tuple I.kIn ⟨o,g,c⟩ ok (fun z=>nomatch z) h
 | lst ds =>
  obtain ⟨a,xs,rfl,hq,_⟩:=fP p
  cases r
  obtain ⟨its,_,⟨o,_,g,c,_⟩,_⟩:=I.list hq;exact kia_one kitx_list I.kIn ⟨o,g,c⟩ ok (fun z=>nomatch z) h
 | exc n =>
  rw [Rep] at p;obtain ⟨a,C,rfl,hC,hH⟩:=p
  cases r
  obtain ⟨W,ok⟩:=ok C hC;exact kia_one (gd' (dd:=none) W) I.kIn ⟨(I.hok a _ hH).1,trivial⟩ ok (fun z=>nomatch z) h
 | excf n f d =>
  rw [Rep] at p;obtain ⟨a,C,dx,w,rfl,hC,hH,hx,_⟩:=p
  cases r
  obtain ⟨W,ok⟩:=ok C hC;obtain ⟨mA,⟨o,_,_,g,_⟩,_⟩:=I.hok dx _ hx;exact kia_one (gd' (dd:=some dx) W) I.kIn ⟨(I.hok a _ hH).1,o,g⟩ ok (fun z=>nomatch z) h
 | dct =>
  rw [Rep] at p;obtain ⟨a,rfl,hH⟩:=p
  cases r
  exact kia_one kitx_dict I.kIn (I.hok a _ hH).1 ok (fun z=>nomatch z) h
theorem Qf:bootBuiltins "isinstance" = some (.builtin "isinstance"):=by decide +kernel
noncomputable def bU (isF:D->Option Bool) (d:D):Res D:=match isF d with | some b=>.ok (.bl b) | none=>.stuck
section
variable {X:Cx} {e:Expr} {f:DS->Res D} {c:Str} {p cp pos:Pos} {cv:Value} {isF:D->Option Bool}
theorem nA (hI:∀d b,isF d=some b->pN X.K cv b d) (ha:PD X e f) (hc:∀(pins:List (Addr×Obj)) (σ:St) (H:Hp) (s:Shared) (E:Value->Shared->Prop) (Q:Value->Shared->Prop),Inv X pins σ H s->Q cv s->wpAny (model X.prog X.w) X.A (eval (.Name c cp) X.env) Q E s)
  (hg:Gl X "isinstance") (hm:X.mg "isinstance" = none) (he:starEach [e,.Name c cp] X.env=(false,eval e X.env) :: starEach [.Name c cp] X.env:=by rfl) (he2:starEach [.Name c cp] X.env=[(false,eval (.Name c cp) X.env)]:=by rfl) :
  PD X (.Call (.Name "isinstance" p) [e,.Name c cp] [] pos) (fun δ=>(f δ).bind (bU isF)):=by
 intro pins s σ G H δ I R hs
 try dsimp only at hs ⊢
 refine wpAny_Call_Name_kw (vQ I hg hm (u:=.builtin "isinstance") Qf ?_ (by decide) (by decide))
 refine PyProof.Rows.callWith_builtin1 ?_ he (by rw [he2]; rfl);rw [he];show wpAny _ _ (spliced ((false,eval e X.env) :: backTo pos (starEach [.Name c cp] X.env))) _ _ s;refine Calls.spliced_cons (ha.use I R (gb hs) (fun d u s1 v H1 q I1 r1 e1 b1 p1=>?_) fun e s1 q=>q.same fun x z=>gR z);rw [he2];show wpAny _ _ (spliced ((false,eval (.Name c cp) X.env) :: backTo pos [])) _ _ s1;refine Calls.spliced_cons (hc pins σ H1 s1 _ _ I1 (Calls.spliced_nil ?_));have h2:=ie hs q
 cases z:isF d with
 | none=>exact (h2 (by unfold bU; rw [z])).elim
 | some b=>exact Qe I1 p1 r1 (hI d b z) fun tk=>⟨.bl b,.bl b,H1,by rw [q,Res.bind_ok]; unfold bU; rw [z],I1.tok tk,rfl,e1,vX⟩
theorem nD {T:String} (hg:Gl X c) (hm:X.mg c=none) (hv:bootBuiltins c=some (.type T)) (hn:c≠"__name__":=by decide) (hd:(c == ("__debug__" : Str))=false:=by decide) (pins:List (Addr×Obj)) (σ:St) (H:Hp) (s:Shared) (E:Value->Shared->Prop) (Q:Value->Shared->Prop) (I:Inv X pins σ H s) (h:Q (.type T) s) :
  wpAny (model X.prog X.w) X.A (eval (.Name c cp) X.env) Q E s:=vQ I hg hm hv h hn hd
end
end DL
namespace DL
open PySem PySem.Spec PyProof.Rows L2
noncomputable def bools:List D->Option (List Bool)
 | []=>some []
 | .bl b :: ds=>(bools ds).map (b :: ·)
 | _=>none
theorem Jv:∀{ds:List D} {bs:List Bool} {i:Nat} {d:D},bools ds=some bs->ds[i]? = some d->∃b,d=.bl b/\bs[i]? = some b
 | [],_,_,_,_,e=>by simp at e
 | .bl b :: ds,bs,i,d,h,e=>by
  simp only [bools] at h
  cases q:bools ds with
  | none=>rw [q] at h; cases h
  | some cs =>
   rw [q] at h;simp only [Option.map_some,Option.some.injEq] at h;subst h
   cases i with
   | zero=>simp at e; subst e; exact ⟨b,rfl,by simp⟩
   | succ i =>
    simp at e;obtain ⟨b',e1,e2⟩:=Jv q e;exact ⟨b',e1,by simpa using e2⟩
 | .non :: ds,bs,i,d,h,e=>by simp [bools] at h
 | .int _ :: ds,bs,i,d,h,e=>by simp [bools] at h
 | .str _ :: ds,bs,i,d,h,e=>by simp [bools] at h
 | .tup _ :: ds,bs,i,d,h,e=>by simp [bools] at h
 | .lst _ :: ds,bs,i,d,h,e=>by simp [bools] at h
 | .exc _ :: ds,bs,i,d,h,e=>by simp [bools] at h
 | .excf _ _ _ :: ds,bs,i,d,h,e=>by simp [bools] at h
 | .dct :: ds,bs,i,d,h,e=>by simp [bools] at h
theorem FQ:∀{ds:List D} {bs:List Bool},bools ds=some bs->bs.length=ds.length
 | [],bs,h=>by simp [bools] at h; subst h; rfl
 | .bl b :: ds,bs,h=>by
  simp only [bools] at h
  cases q:bools ds with
  | none=>rw [q] at h; cases h
  | some cs =>
   rw [q] at h;simp only [Option.map_some,Option.some.injEq] at h;subst h;simp [FQ q]
 | .non :: ds,bs,h=>by simp [bools] at h
 | .int _ :: ds,bs,h=>by simp [bools] at h
 | .str _ :: ds,bs,h=>by simp [bools] at h
 | .tup _ :: ds,bs,h=>by simp [bools] at h
 | .lst _ :: ds,bs,h=>by simp [bools] at h
 | .exc _ :: ds,bs,h=>by simp [bools] at h
 | .excf _ _ _ :: ds,bs,h=>by simp [bools] at h
 | .dct :: ds,bs,h=>by simp [bools] at h
theorem range_all (bs:List Bool):(List.range bs.length).all (fun i=>bs.getD i true)=bs.all id:=by
 rw [Bool.eq_iff_iff];simp only [all_eq_true,mem_range,id]
 constructor
 ·intro h b hb;obtain ⟨i,hi,rfl⟩:=mem_iff_getElem.mp hb;have:=h i hi;simpa [List.getD,hi] using this
 ·intro h i hi;have:=h bs[i] (getElem_mem hi);simpa [List.getD,hi] using this
theorem range_any (bs:List Bool):(List.range bs.length).any (fun i=>bs.getD i true)=bs.any id:=by
 rw [Bool.eq_iff_iff];simp only [any_eq_true,mem_range,id]
 constructor
 ·rintro ⟨i,hi,h⟩
  refine ⟨bs[i],getElem_mem hi,?_⟩;simpa [List.getD,hi] using h
 ·rintro ⟨b,hb,h⟩
  obtain ⟨i,hi,rfl⟩:=mem_iff_getElem.mp hb;exact ⟨i,hi,by simpa [List.getD,hi] using h⟩
noncomputable def lY:List D->Res D
 | [.lst ds]=>match bools ds with | some bs=>.ok (.bl (bs.all id)) | none=>.stuck
 | _=>.stuck
noncomputable def qy:List D->Res D
 | [.lst ds]=>match bools ds with | some bs=>.ok (.bl (bs.any id)) | none=>.stuck
 | _=>.stuck
theorem Jw (ds:List D):aO (lY ds):=by
 unfold lY
 split
 ·split
  ·exact dZ
  ·exact dh
 ·exact dh
theorem Qg (ds:List D):aO (qy ds):=by
 unfold qy
 split
 ·split
  ·exact dZ
  ·exact dh
 ·exact dh
theorem Jx {X:Cx} {pins:List (Addr×Obj)} {s:Shared} {σ:St} {H:Hp} {a:Addr} {xs:List V} {ds:List D} {bs:List Bool} {its:List Value} (rv:Vals xs its) (r:Reps X.K H ds xs) (hb:bools ds=some bs) {A:Around} :
  TruthOf X.prog X.w A (fun i v=>its.toArray[i]? = some v) (fun i=>bs.getD i true):=by
 intro i v s Q E hP hQ;have hP':its[i]? = some v:=by simpa using hP
 have hl:i < xs.length:=by rw [rv.length]; exact (List.getElem?_eq_some_iff.mp hP').1
 obtain ⟨d,e1,e2⟩:=r.get' (i:=i) (v:=xs[i]) (by simp [hl]);obtain ⟨b,rfl,e3⟩:=Jv hb e1;obtain ⟨u,e4,e5⟩:=rv.get (i:=i) (x:=xs[i]) (by simp [hl]);rw [hP'] at e4; cases e4;rw [Fl e2] at e5
 cases e5
 refine wpAny_truthy_bool ?_;simpa [List.getD,e3] using hQ
theorem Jy {X:Cx} (hcalm:X.calm=true):CallD X (.builtin "all") lY:=by
 intro E pins s σ H xs us ds d I r p e;unfold lY at e
 split at e
 ·rename_i es
  split at e
  ·rename_i bs hb
   cases e
   obtain ⟨v,vs,rfl,p1,t⟩:=p.cons_of
   cases t.nil_of
   obtain ⟨u,rfl,rx⟩:=vals1 r;obtain ⟨a,ys,rfl,hq,rs⟩:=fP p1
   cases rx
   obtain ⟨its,rv,pl,hz⟩:=I.list hq;refine call_all_walk (wpAny_pyIter_list pl.isList ?_);have hax:a≠s.heap.objs.size:=by
    obtain ⟨o,_,g,_⟩:=pl;exact Nat.ne_of_lt (Heap.lt_size g)
   have hn:its.toArray.size=bs.length:=by rw [size_toArray,<- rv.length,rs.length,FQ hb]
   refine ⟨_,_,_,_,_,_,fun i=>bs.getD i true,rfl,Walks.list (A:=X.A.in1) (show X.A.in1.handled=none from I.ok.hd hcalm) s.heap.objs.size a hax its.toArray,⟨⟨_,Heap.get?_push_size _ rfl,rfl,rfl⟩,(let ⟨o,g,r⟩:=pl.isList; ⟨o,Heap.get?_push_of_some _ g,r⟩)⟩,Jx (X:=X) (pins:=pins) (s:=s) (σ:=σ) (H:=H) (a:=a) rv rs hb,fun h' tk hk=>?_⟩
   rw [hn,range_all];have k:∀b o,s.heap.get? b=some o->h'.get? b=some o:=fun b o e=>hk b o (by
    intro z;have:b=s.heap.objs.size:=by simpa using z
    exact absurd (Heap.lt_size e) (by rw [this]; exact Nat.lt_irrefl _)) (Heap.get?_push_of_some _ e)
   exact ⟨_,.bl _,H,rfl,I.kept (t':=tk) k,rfl,Same.refl H,vX⟩
  ·cases e
 ·cases e
theorem Qh {X:Cx} (hcalm:X.calm=true):CallD X (.builtin "any") qy:=by
 intro E pins s σ H xs us ds d I r p e;unfold qy at e
 split at e
 ·rename_i es
  split at e
  ·rename_i bs hb
   cases e
   obtain ⟨v,vs,rfl,p1,t⟩:=p.cons_of
   cases t.nil_of
   obtain ⟨u,rfl,rx⟩:=vals1 r;obtain ⟨a,ys,rfl,hq,rs⟩:=fP p1
   cases rx
   obtain ⟨its,rv,pl,hz⟩:=I.list hq;refine call_any_walk (wpAny_pyIter_list pl.isList ?_);have hax:a≠s.heap.objs.size:=by
    obtain ⟨o,_,g,_⟩:=pl;exact Nat.ne_of_lt (Heap.lt_size g)
   have hn:its.toArray.size=bs.length:=by rw [size_toArray,<- rv.length,rs.length,FQ hb]
   refine ⟨_,_,_,_,_,_,fun i=>bs.getD i true,rfl,Walks.list (A:=X.A.in1) (show X.A.in1.handled=none from I.ok.hd hcalm) s.heap.objs.size a hax its.toArray,⟨⟨_,Heap.get?_push_size _ rfl,rfl,rfl⟩,(let ⟨o,g,r⟩:=pl.isList; ⟨o,Heap.get?_push_of_some _ g,r⟩)⟩,Jx (X:=X) (pins:=pins) (s:=s) (σ:=σ) (H:=H) (a:=a) rv rs hb,fun h' tk hk=>?_⟩
   rw [hn,range_any];have k:∀b o,s.heap.get? b=some o->h'.get? b=some o:=fun b o e=>hk b o (by
    intro z;have:b=s.heap.objs.size:=by simpa using z
    exact absurd (Heap.lt_size e) (by rw [this]; exact Nat.lt_irrefl _)) (Heap.get?_push_of_some _ e)
   exact ⟨_,.bl _,H,rfl,I.kept (t':=tk) k,rfl,Same.refl H,vX⟩
  ·cases e
 ·cases e
noncomputable def zr (X:Cx) (id:String) (g:D->List D->Res D):Prop :=
 ∀(E:Value->Shared->Prop) (pins:List (Addr×Obj)) (s:Shared) (σ:St) (H:Hp) (x:V) (xs:List V) (v:Value) (us:List Value) (a:D) (ds:List D) (d:D),Inv X pins σ H s->RelV x v->Vals xs us->Rep X.K H a x->Reps X.K H ds xs->g a ds=.ok d ->
  wpAny (model X.prog X.w) X.A (call (.builtin id) (v :: us)) (EPost X pins σ H (.ok d)) E s
noncomputable def Dr (T:String):D->Prop
 | .str _=>T = "str"
 | .int _=>T = "int"
 | .lst _=>T = "list"
 | _=>False
noncomputable def tyB (T:String):D->Bool
 | .str _=>T == "str"
 | .int _=>T == "int"
 | .lst _=>T == "list"
 | _=>false
theorem ns' {T:String} {d:D} (h:tyB T d=true):Dr T d:=by
 cases d <;> first | exact beq_iff_eq.mp h | cases h
noncomputable def o9 (T:String) (g:D->List D->Res D) (fo:DS->Res D) (fs:DS->Res (List D)):DS->Res D:=fun δ=>(fo δ).bind fun d=>if tyB T d=true then (fs δ).bind fun ds=>g d ds else .stuck
section
variable {X:Cx} {o e:Expr} {es:List Expr} {fo:DS->Res D} {fs:DS->Res (List D)} {name:Str} {apos cpos:Pos} {T id:String} {g:D->List D->Res D}
theorem Jz {H:Hp} {d:D} {v:V} (ty:Dr T d) (p:Rep X.K H d v):Ja X.K T v H:=by
 cases d with
 | str z=>rw [Rep] at p; subst p; exact ty
 | int z=>rw [Rep] at p; subst p; exact ty
 | lst ds=>obtain ⟨a,xs,rfl,hq,_⟩:=fP p; exact .inl ⟨ty,xs,hq⟩
 | _=>exact ty.elim
theorem JB (pa:PlainAttrs T) (slot:Slot T name id) (hty:typeOf (.builtin id)=pure (.type "method_descriptor")) (hm:zr X id g) (hne:∀d ds,aO (g d ds)) (hT:∀d ds r,g d ds=.ok r->Dr T d) (ho:PD X o fo)
  (hbase:attributeBase o name X.env (eval o X.env)=eval o X.env:=by rfl) (hline:(apos.endLine == cpos.line)=true:=by rfl):PD X (.Call (.Attribute o name apos) [] [] cpos) (fun δ=>(fo δ).bind fun d=>g d []):=by
 intro pins s σ G H δ I R hs
 try dsimp only at hs ⊢
 refine wpAny_Call_method0_late hbase hline (ho.use I R (gb hs) (fun d u s1 v H1 q I1 r1 e1 b1 p1=>?_) fun e s1 q=>q.same fun x z=>gR z);have h2:=ie hs q
 cases qg:g d [] with
 | stuck=>exact (h2 qg).elim
 | err z=>exact (hne d [] z qg).elim
 | ok r =>
  obtain ⟨h1,h3⟩:=Jb I1 r1 (Jz (hT d [] r qg) p1);exact ⟨T,id,pa,slot,hty,h1,h3,Calls.callWith_builtin rfl (PySem.evalArgs_none (gP (hm _ pins s1 σ H1 v [] u [] d [] r I1 r1 .nil p1 Reps.nil qg) fun w s2 p=>p.from e1 (by rw [q,Res.bind_ok,qg])))⟩
theorem Qi (pa:PlainAttrs T) (slot:Slot T name id) (hty:typeOf (.builtin id)=pure (.type "method_descriptor")) (hm:zr X id g) (hne:∀d ds,aO (g d ds)) (ho:PD X o fo) (ha:PAD X (e :: es) fs)
  (hbase:attributeBase o name X.env (eval o X.env)=eval o X.env:=by rfl)
  (hfew:((backTo cpos (starEach (e :: es) X.env)).all (fun x=>!x.1) && (backToKw cpos (keywordEach [] X.env)).all (fun x=>x.1.isSome)
   && decide ((e :: es).length + ([]:List Keyword).length + (if ([]:List Keyword).isEmpty then 0 else 1) < 30))=true:=by rfl)
  (hline:(apos.endLine == cpos.line)=true:=by rfl) (hse:starEach (e :: es) X.env=(false,eval e X.env) :: starEach es X.env:=by rfl) (hplain:(backTo cpos (starEach es X.env)).any (·.1)=false:=by rfl) :
  PD X (.Call (.Attribute o name apos) (e :: es) [] cpos) (o9 T g fo fs):=by
 intro pins s σ G H δ I R hs;unfold o9 at hs ⊢;refine wpAny_Call_method_late hbase hfew hline rfl (ho.use I R (gb hs) (fun d u s1 v H1 q I1 r1 e1 b1 p1=>?_) fun e s1 q=>q.same fun x z=>gR z);have h2:=ie hs q;have hB:tyB T d=true:=by
  cases z:tyB T d with
  | true=>rfl
  | false=>rw [if_neg (by rw [z]; exact Bool.false_ne_true)] at h2; exact (h2 rfl).elim
 rw [if_pos hB] at h2;have ev:((fo δ).bind fun d=>if tyB T d=true then (fs δ).bind fun ds=>g d ds else .stuck)=(fs δ).bind fun ds=>g d ds:=by rw [q,Res.bind_ok,if_pos hB]
 rw [ev];have h3:Dr T d:=ns' hB;obtain ⟨h1,h4⟩:=Jb I1 r1 (Jz h3 p1);refine ⟨T,id,pa,slot,hty,h1,h4,?_⟩;have hA:=fun {P:List Value->Shared->Prop} {E:Value->Shared->Prop} k kx=>PAD.use (pos:=cpos) (P:=P) (E:=E) ha I1 (R.mono e1) (gb h2) k kx;rw [hse] at hA ⊢;refine Calls.callWith_builtin (by show (false || (backTo cpos (starEach es X.env)).any (·.1))=false; rw [hplain] <;> rfl) (Calls.evalArgs_plain ?_)
 refine hA (fun ds us s2 vs H2 q2 I2 r2 e2 b2 p2=>?_) fun e s2 q2=>q2.back e1 b1 fun x z=>by rw [z]; rfl
 have h5:=ie h2 q2
 cases qg:g d ds with
 | stuck=>exact (h5 qg).elim
 | err z=>exact (hne d ds z qg).elim
 | ok r=>exact gP (hm _ pins s2 σ H2 v vs u us d ds r I2 r1 r2 (p1.mono e2) p2 qg) fun w s3 p=>p.from (e1.trans e2) (by rw [q2,Res.bind_ok,qg])
end
noncomputable def ji:D->List D->Res D
 | .int i,[]=>.ok (.int (aJ i))
 | _,_=>.stuck
theorem Qj {X:Cx}:zr X "int.bit_length" ji:=by
 intro E pins s σ H x xs v us a ds d I r1 r2 p1 p2 e;unfold ji at e
 split at e
 ·rename_i i
  cases e
  cases p2.nil_of
  cases r2
  rw [cT p1] at r1;obtain ⟨t,rfl⟩:=r1;exact PyProof.Rows.call_int_bit_length ⟨_,.int _,H,rfl,I.tok _,⟨_,rfl⟩,Same.refl H,jc⟩
 ·cases e
theorem Qk {X:Cx} {o:Expr} {fo:DS->Res D} {apos cpos:Pos} (ho:PD X o fo) (hbase:attributeBase o "bit_length" X.env (eval o X.env)=eval o X.env:=by rfl) (hline:(apos.endLine == cpos.line)=true:=by rfl) :
  PD X (.Call (.Attribute o "bit_length" apos) [] [] cpos) (fun δ=>(fo δ).bind fun d=>ji d []) :=
 JB PySem.F.plainAttrs_int PySem.F.slot_int_bit_length PySem.F.type_int_bit_length Qj (fun d ds x=>by unfold ji; split <;> (intro z; cases z)) (fun d ds r h=>by
  unfold ji at h
  split at h
  ·rfl
  ·cases h) ho hbase hline
noncomputable def ao {α:Type} (f:DS->Res α) (g:α->Res D):DS->Res D:=fun δ=>(f δ).bind g
noncomputable def bindL (f:DS->Res D) (g:D->Res (List D)):DS->Res (List D):=fun δ=>(f δ).bind g
noncomputable def aF (f:DS->Res D) (g:D->Res Bool):DS->Res Bool:=fun δ=>(f δ).bind g
noncomputable def dI (t:DS->Res Bool):DS->Res Bool:=fun δ=>(t δ).bind fun c=>.ok (!c)
noncomputable def aQ (f:DS->Res (List D)):DS->Res D:=fun δ=>jF (f δ)
noncomputable def fU (f:DS->Res (List D)):DS->Res D:=fun δ=>fD (f δ)
noncomputable def pO:D->Res D
 | .int i=>.ok (.int (-i))
 | _=>.stuck
noncomputable def fH (f:DS->Res D):DS->Res D:=fun δ=>(f δ).bind pO
noncomputable def aH (f:DS->Res D):DS->Out:=fun δ=>kI (f δ) δ Out.ret
noncomputable def bG (t:DS->Res Bool) (a b:DS->Out):DS->Out:=fun δ=>wL (t δ) δ fun k=>if k=true then a δ else b δ
noncomputable def jj (fuel:DS->Nat) (c:DS->Res Bool) (b:DS->Out):DS->Out:=fun δ=>bK c b (fuel δ) δ
noncomputable def bO (i:Nat):gM:=fun d δ=>some (δ.set i (some (.val d)))
theorem fK {X:Cx} {a:Expr} {fa:DS->Res D} {pos:Pos} (ha:PD X a fa):PD X (.UnaryOp .USub a pos) (fH fa) :=
 O3 (g:=pO) (fun E pins s σ H x v d r I r1 p1 e=>by
  cases d with
  | int i =>
   simp only [pO,Res.ok.injEq] at e;subst e;exact wpAny_mono (ne' (X:=X.wish fun _ _=>False) pins s σ H x v (fun z H'=>z=.int (-i)/\H'=H) (I.wish _) r1 ⟨i,cT p1,rfl,rfl⟩) (fun u s1 ⟨z,H1,I1,r2,e1,e2⟩=>by
    subst e1 e2;exact ⟨_,_,_,rfl,I1.unwish,r2,Same.refl _,jc⟩) fun _ _ z=>z.elim
  | _=>simp [pO] at e) (fun x=>by cases x <;> first | exact dh | exact dZ) ha
theorem v_ {m i:Nat} (h:i < m):eQ m (bO i):=by
 intro d δ δ1 e;simp only [bO,Option.some.injEq] at e;subst e;exact ⟨by simp,fun j hj=>by rw [List.getElem?_set_ne (by omega)]⟩
theorem FT {f:DS->Res D} {δ:DS} {ds:List D} (h:aj f (fun _=>.ok []) δ=.ok ds):ds.length<=sizeLine:=by
 unfold aj at h
 cases q:f δ with
 | stuck=>rw [q] at h; cases h
 | err x=>rw [q] at h; cases h
 | ok d=>rw [q] at h; cases h; show 1<=sizeLine; decide
theorem hb' {scope:Scope} {env:Env} (hf:∀y∈scope.names,y.2≠.free):relabel scope env=scope:=by
 unfold relabel;have:(scope.names.map fun x=>match x with | (n,k)=>if (k == .free && env.scope.kind == .function && env.kindOf n == some .cell)=true then (n,NameKind.cell) else (n,k))=scope.names:=by
  refine map_eq_self fun x hx=>?_;obtain ⟨n,k⟩:=x;have:(k == NameKind.free)=false:=by simpa using hf _ hx
  simp [this]
 show { scope with names:=_ }=scope
 rw [this]
theorem zu {X:Cx} {m:Nat} {N':List Str} {scope:Scope} (hf:∀y∈scope.names,y.2≠.free:=by decide +kernel) (hc:∀y∈scope.names,y.2≠.cell:=by decide +kernel) (hk:scope.kind=.function:=by rfl)
  (hn:∀x∈scope.names,x.2=.local->scope.names.lookup x.1=some .local:=by decide +kernel) (hl:N'.length=m:=by rfl):Around' X m [] N' scope [] where
 clos:=closureFor_none hf
 nocell:=hc
 kind:=hk
 names:=hn
 sub:=fun x c h=>by simp at h
 has:=fun x h=>by
  exfalso;rw [hb' hf] at h;rcases h with h | h
  ·exact hc _ (PySem.mem_of_lookup h) rfl
  ·exact hf _ (PySem.mem_of_lookup h) rfl
 len:=by simpa using hl
 free:=fun j i h=>by simp at h
theorem zx {K:Frag} {H:Hp} {i:Str}:Rep K H (.str i) (.str i):=by rw [Rep]
theorem zy {K:Frag} {H:Hp} {i:Bool}:Rep K H (.bl i) (.bl i):=by rw [Rep]
noncomputable def bQ:D->D->Res D
 | .exc _,.non=>.ok (.bl false)
 | .non,.non=>.ok (.bl true)
 | .int _,.non=>.ok (.bl false)
 | .bl _,.non=>.ok (.bl false)
 | .str _,.non=>.ok (.bl false)
 | .tup _,.non=>.ok (.bl false)
 | .lst _,.non=>.ok (.bl false)
 | _,_=>.stuck
noncomputable def cO (x y:D):Res D:=(bQ x y).bind fun d=>match d with | .bl b=>.ok (.bl (!b)) | _=>.stuck
theorem wO (x y:D):aO (bQ x y):=by cases x <;> cases y <;> first | exact dh | exact dZ
theorem dc' (x y:D):aO (cO x y):=by cases x <;> cases y <;> first | exact dh | exact dZ
noncomputable def nF:List D->Res D
 | [.int i]=>.ok (.int i)
 | [.bl k]=>.ok (.int (if k then 1 else 0))
 | [.str x]=>if x.length<=640 then (match PySem.intText? x with | some n=>.ok (.int n) | none=>.stuck) else .stuck
 | _=>.stuck
theorem ne_int (ds:List D):aO (nF ds):=by
 unfold nF
 split <;> first | exact dZ | exact dh | skip
 refine kE ?_ dh
 split <;> first | exact dZ | exact dh
section
variable {X:Cx}
theorem JC {K:Frag} {H:Hp} {a b d:D} {x y:V} (p1:Rep K H a x) (p2:Rep K H b y) (e:bQ a b=.ok d):y=.non/\d=.bl (decide (x=.non)):=by
 cases b <;> (try (cases a <;> cases e))
 all_goals (rw [Rep] at p2; subst p2)
 all_goals (refine ⟨rfl,?_⟩)
 ·rw [Rep] at p1; subst p1; rfl
 ·rw [Rep] at p1; subst p1; rfl
 ·rw [Rep] at p1; subst p1; rfl
 ·rw [Rep] at p1; subst p1; rfl
 ·obtain ⟨_,_,rfl,_⟩:=eE p1; rfl
 ·obtain ⟨_,_,rfl,_⟩:=fP p1; rfl
 ·rw [Rep] at p1; obtain ⟨_,_,rfl,_⟩:=p1; rfl
theorem yw:OpD X (compareOp .Is) bQ:=.of (fun _=>NQ) fun H x y a b d Q p1 p2 e q=>by
 obtain ⟨h1,rfl⟩:=JC p1 p2 e;exact ⟨h1,q _ H (Same.refl H) zy⟩
theorem FW:OpD X (compareOp .IsNot) cO:=.of (fun _=>NT) fun H x y a b d Q p1 p2 e q=>by
 unfold cO at e
 cases z:bQ a b with
 | ok r =>
  rw [z,Res.bind_ok] at e;obtain ⟨h1,rfl⟩:=JC p1 p2 z
  cases e
  exact ⟨h1,q _ H (Same.refl H) zy⟩
 | err _=>exact (wO a b _ z).elim
 | stuck=>rw [z] at e; cases e
theorem JD:CallD X (.type "int") nF:=by
 intro E pins s σ H xs us ds d I r p e;unfold nF at e
 split at e
 ·rename_i i
  cases e
  obtain ⟨v,vs,rfl,p1,t⟩:=p.cons_of
  cases t.nil_of
  rw [cT p1] at r;obtain ⟨u,rfl,t,rfl⟩:=vals1 r;exact call_int_int ⟨_,.int i,H,rfl,I,⟨_,rfl⟩,Same.refl H,jc⟩
 ·rename_i k
  cases e
  obtain ⟨v,vs,rfl,p1,t⟩:=p.cons_of
  cases t.nil_of
  rw [Rep] at p1;subst p1;obtain ⟨u,rfl,r1⟩:=vals1 r
  cases r1
  exact call_int_bool ⟨_,.int (if k then 1 else 0),H,rfl,I.tok _,⟨_,rfl⟩,Same.refl H,jc⟩
 ·rename_i x
  split at e
  ·rename_i hl
   split at e
   ·rename_i n hn
    cases e
    obtain ⟨v,vs,rfl,p1,t⟩:=p.cons_of
    cases t.nil_of
    rw [lR p1] at r;obtain ⟨u,rfl,t,rfl⟩:=vals1 r;exact KIN.call_text hn hl ⟨_,.int n,H,rfl,I.tok _,⟨_,rfl⟩,Same.refl H,jc⟩
   ·cases e
  ·cases e
 ·cases e
end
noncomputable def zB:SV->SV
 | .val d=>.val d
 | .arg d=>.val d
 | .own ds=>.val (.lst ds)
noncomputable def thaw2:SV->SV
 | .val d=>.val d
 | .arg d=>.val d
 | .own ds=>.own ds
noncomputable def thaw (δ:DS):DS:=δ.map (Option.map zB)
noncomputable def e_:Out->Out
 | .nxt δ=>.nxt (δ.map (Option.map thaw2))
 | .brk δ=>.brk (δ.map (Option.map thaw2))
 | .cnt δ=>.cnt (δ.map (Option.map thaw2))
 | .ret d=>.ret d
 | .err x δ=>.err x δ
 | .stuck=>.stuck
theorem RepSt.thaw {K:Frag} {G H:Hp} {σ:St} {δ:DS} (R:RepSt K G H σ δ):RepSt K H H σ (thaw δ) where
 same:=Same.refl H
 len:=by unfold DL.thaw; rw [length_map]; exact R.len
 at_:=fun i sv h=>by
  unfold DL.thaw at h;rw [List.getElem?_map] at h
  cases z:δ[i]? with
  | none=>rw [z] at h; cases h
  | some o =>
   cases o with
   | none=>rw [z] at h; cases h
   | some sv0 =>
    rw [z] at h
    cases h
    obtain ⟨v,e1,e2⟩:=R.view z;refine ⟨v,e1,?_⟩
    cases sv0 <;> exact e2
 sep:=fun i j ds es v _ h=>by
  unfold DL.thaw at h;rw [List.getElem?_map] at h
  cases z:δ[i]? with
  | none=>rw [z] at h; cases h
  | some o =>
   cases o with
   | none=>rw [z] at h; cases h
   | some sv0=>rw [z] at h; cases sv0 <;> cases h
theorem RepSt.thaw2 {K:Frag} {G G' H:Hp} {σ:St} {δ:DS} (R:RepSt K G' H σ δ) (e:Same G G'):RepSt K G H σ (δ.map (Option.map thaw2)) where
 same:=e.trans R.same
 len:=by rw [length_map]; exact R.len
 at_:=fun i sv h=>by
  rw [List.getElem?_map] at h
  cases z:δ[i]? with
  | none=>rw [z] at h; cases h
  | some o =>
   cases o with
   | none=>rw [z] at h; cases h
   | some sv0 =>
    rw [z] at h
    cases h
    cases sv0 with
    | val d=>exact R.at_ i _ z
    | arg d =>
     obtain ⟨v,e1,e2⟩:=R.at_ i _ z;exact ⟨v,e1,Rep.mono R.same e2⟩
    | own ds =>
     obtain ⟨v,e1,a,xs,q1,q2,q3,q4⟩:=R.at_ i _ z;exact ⟨v,e1,a,xs,q1,q2,q3,e.free q4⟩
 sep:=fun i j ds es v hij h1 h2 h3=>by
  have get:∀(k:Nat) (fs:List D),(δ.map (Option.map DL.thaw2))[k]? = some (some (.own fs))->δ[k]? = some (some (.own fs)):=fun k fs h=>by
   rw [List.getElem?_map] at h
   cases z:δ[k]? with
   | none=>rw [z] at h; cases h
   | some o =>
    cases o with
    | none=>rw [z] at h; cases h
    | some sv0 =>
     rw [z] at h
     cases sv0 <;> cases h
     rfl
  exact R.sep i j ds es v hij (get i ds h1) (get j es h2) h3
theorem NOut.thaw {X:Cx} {G H:Hp} {o:Out} {E:Ends} (e:Same G H) (h:NOut X G H (e_ o) E):NOut X H H o E:=by
 cases o with
 | stuck=>exact h
 | nxt δ=>exact fun σ' H' t r=>h σ' H' t (r.thaw2 e)
 | brk δ=>exact fun σ' H' t r=>h σ' H' t (r.thaw2 e)
 | cnt δ=>exact fun σ' H' t r=>h σ' H' t (r.thaw2 e)
 | ret d=>exact fun v H' t g r=>h v H' t (e.trans g) r
 | err x δ=>exact h
theorem PID.pi {X:Cx} {tg iter:Expr} {f:DS->Res (List D)} (h:PID X tg iter f):PI X.nox tg iter (fun σ H R=>∃G δ ds,RepSt X.K G H σ δ/\f δ=.ok ds/\∀J H',Same H H'->du X.K J H' ds->R J H'):=by
 intro pins s σ H R I ⟨G,δ,ds,RR,q,n⟩;refine wpAny_mono (h pins s σ G H δ I.unwish RR (by rw [q]; intro z; cases z)) (fun v s1 p=>?_) fun e s1 p=>?_
 ·refine wpAny_mono p (fun itv s2 ⟨ds',it,fp,tn,J,H',q1,q2,I2,T,t0,hf,e2,y⟩=>?_) fun e s2 p=>?_
  ·rw [q] at q1; cases q1;exact ⟨it,fp,tn,J,H',q2,I2.wish _,T,t0,hf,n J H' e2 y⟩
  ·rw [q] at p; exact p.none
 ·rw [q] at p; exact p.none
noncomputable def kJ (t:gM) (fi:DS->Res (List D)) (b:DS->Out):DS->Out:=fun δ=>Dn (fi δ) fun ds=>e_ (dg t b ds (thaw δ))
section
variable {X:Cx} {tg iter:Expr} {body:List Stmt} {t:gM} {fb:DS->Out} {pos:Pos}
theorem hh' {J:It} {ds:List D} {H0:Hp} {E:Ends} (y:du X.K J H0 ds) {δ:DS} {σ:St} (R:RepSt X.K H0 H0 σ δ) (h:NOut X H0 H0 (dg t fb ds δ) E) :
  ∃W:Nat->Nat->St->Hp->Prop,(∃m,W 0 m σ H0)/\∀i m σ H,W i m σ H ->
   (J.stop i H/\E.nx σ H)\/(J.go i H/\∃N:St->Hp->Prop,(∀σ' H',N σ' H'->∃m',m' < m/\W (i + 1) m' σ' H')/\∀x H',J.yld i H x H'->gD X t x σ H' fun σ2 H2=>sD X fb { E with nx:=N,ct:=N,bk:=E.nx } σ2 H2):=by
 refine ⟨fun i m σ H=>i + m=ds.length/\∃δ',RepSt X.K H0 H σ δ'/\NOut X H0 H (dg t fb (ds.drop i) δ') E,⟨ds.length,by omega,δ,R,by simpa using h⟩,?_⟩
 rintro i m σ1 H1 ⟨hm,δ1,R1,h1⟩
 obtain ⟨y1,y2⟩:=y H1 R1.same
 by_cases hi:i < ds.length
 ·right
  have hd:ds[i]? = some ds[i]:=List.getElem?_eq_getElem hi;obtain ⟨go,yl⟩:=y1 i ds[i] hd;refine ⟨go,fun σ' H'=>(i + 1) + (m - 1)=ds.length/\∃δ',RepSt X.K H0 H' σ' δ'/\NOut X H0 H' (dg t fb (ds.drop (i + 1)) δ') E,fun σ' H' n=>⟨m - 1,by omega,n⟩,fun x H' yx=>?_⟩;obtain ⟨e,p⟩:=yl x H' yx;rw [drop_eq_getElem_cons hi] at h1;exact Pk (R1.mono e) p (h1.tk e.tk) fun δ' σ' H'' _ r z=>⟨by omega,δ',r,z⟩
 ·left
  have e:i=ds.length:=by omega
  subst e;rw [drop_eq_nil_of_le (Nat.le_refl _)] at h1;exact ⟨y2,h1 σ1 H1 (TK.refl H1) R1⟩
theorem Ql {o:Out} (h:∀x δ',o≠.err x δ') (x:Exn) (δ':DS):e_ o≠.err x δ':=by
 cases o with
 | err y δ=>exact (h y δ rfl).elim
 | _=>intro z; cases z
theorem yz {fi:DS->Res (List D)} (hc:X.calm=true) (hi:PID X tg iter fi) (hg:PGD X tg t) (hb:PSDs X body fb) (hf:∀x,foldedSetIterable iter X.env x=pure x:=by intro _; rfl) :
  PSD X (.For tg iter body [] pos) (kJ t fi fb):=by
 refine Jj (fun δ=>Pj fun ds=>Ql (Jl t fb ds (thaw δ))) fun pins s σ H E I h=>?_;obtain ⟨G,δ,R,h⟩:=h;refine Nv (X:=X.nox) PassesOwn.never hc hi.pi hg.pg hb.ps hf pins s σ H E I ?_;unfold kJ at h
 cases q:fi δ with
 | stuck=>simp only [q] at h; exact h.elim
 | err x=>simp only [q] at h; exact h.elim
 | ok ds =>
  simp only [q] at h;refine ⟨G,δ,ds,R,q,fun J H1 e1 y=>?_⟩;have R1:=(R.mono e1);exact hh' y R1.thaw (NOut.thaw R1.same (h.tk e1.tk))
end
section
open HT
variable {prog:Program} {w:World} {A:Around} {E:Value->Shared->Prop} {s:Shared}
theorem Qm {t sl:Addr} {items:Array Value} {vl vu:Value} {lo hi:Option Int} {Q:Value->Shared->Prop} (ht:IsTup s.heap t items) (hs:s.heap.IsSliceOf sl vl vu .none) (pl:IsPart vl lo) (pu:IsPart vu hi)
  (hw:sIx items.size 0 lo=0/\sIx items.size items.size hi=items.size) (h:Q (.ref t) s):wpAny (model prog w) A (getItem (.ref t) (.ref sl)) Q E s:=by
 obtain ⟨os,hos,hcs,hds⟩:=id hs;unfold getItem;refine wpAny_holding (wpAny_bind (wpAny_sequenceKey ht.typeIs (by decide) ?_));refine wpAny_bind (wpAny_callSpecial?_slot (name:=Str.ofString "__getitem__") ht.typeIs PyProof.Rows.slot_tuple_getitem (wpAny_call_entry PyProof.Rows.slot_tuple_getitem ht.typeIs entry_tuple_getitem ?_ (args_tuple_getitem _ _)));show wpAny _ _ (Builtin.Tuple.tupleItemsOf (.ref t) >>= _) _ _ s;refine wpAny_bind (tupleItemsOf_ ht (wpAny_bind (wpAny_typeOf ⟨os,hos,hcs⟩ ?_)));rw [if_pos (by decide)];refine wpAny_bind (IW hs pl pu ?_);obtain ⟨w1,w2⟩:=hw;have hc:(((sIx items.size 0 lo:Nat):Int) == 0 && (1:Int) == 1 && (sIx items.size items.size hi - sIx items.size 0 lo) == items.size)=true:=by
  rw [w1,w2]; simp
 show wpAny _ _ (if (((sIx items.size 0 lo:Nat):Int) == 0 && (1:Int) == 1 && (sIx items.size items.size hi - sIx items.size 0 lo) == items.size)=true then _ else _) _ _ s
 rw [if_pos hc];refine wpAny_bind (m:=Builtin.Tuple.tupleIsExact _) (wpAny_bind (wpAny_typeOf ht.typeIs (wpAny_pure ?_)));rw [if_pos (by decide)];exact wpAny_bind (wpAny_rule (wpAny_pure ⟨_,rfl,wpAny_pure h⟩))
end
noncomputable def zE (K:Frag):V->Option Int->Option Int->Hp->VK->Prop:=fun x lo hi H Q=>∃a xs,x=.ref a/\SqT K H a xs/\(HT.sIx xs.length 0 lo=0/\HT.sIx xs.length xs.length hi=xs.length)/\Q (.ref a) H
theorem Qn {X:Cx}:SlR X (zE X.K):=by
 intro pins s σ H x v vl vu lo hi sl Q I rx hs pl pu h;obtain ⟨a,xs,rfl,hx,hw,q⟩:=h
 cases rx
 obtain ⟨its,r,ht,hz⟩:=I.tuple hx;have hlen:its.toArray.size=xs.length:=by rw [size_toArray]; exact r.length.symm
 exact ⟨"tuple",_,PyProof.Rows.slot_tuple_getitem.lookup,ht.typeIs,Qm ht hs pl pu (by rw [hlen]; exact hw) ⟨.ref a,H,I,rfl,q⟩⟩
noncomputable def zF (X:Cx) (pins:List (Addr×Obj)) (σ:St) (H:Hp) (r:Res (Option Int)) (u:Value) (s1:Shared):Prop:=∃o H1,r=.ok o/\Inv X pins σ H1 s1/\IsPart u o/\Same H H1
noncomputable def POD (X:Cx) (e:Option Expr) (f:DS->Res (Option Int)):Prop :=
 ∀(pins:List (Addr×Obj)) (s:Shared) (σ:St) (G H:Hp) (δ:DS),Inv X pins σ H s->RepSt X.K G H σ δ->f δ≠.stuck ->
  wpAny (model X.prog X.w) X.A (evalPart e X.env) (zF X pins σ H (f δ)) (XPost X pins σ H s.heap (f δ)) s
noncomputable def qC:D->Res (Option Int)
 | .int i=>.ok (some i)
 | _=>.stuck
noncomputable def bC:DS->Res (Option Int):=fun _=>.ok none
noncomputable def bJ (f:DS->Res D):DS->Res (Option Int):=fun δ=>(f δ).bind qC
noncomputable def gh (ds:List D) (lo hi:Option Int):List D:=(ds.drop (HT.sIx ds.length 0 lo)).take (HT.sIx ds.length ds.length hi - HT.sIx ds.length 0 lo)
noncomputable def cutD (d:D) (lo hi:Option Int):Res D:=match d with
 | .str z=>if z.length<=sizeLine then .ok (.str (Txt.slice z lo hi)) else .stuck
 | .lst ds=>.ok (.lst (gh ds lo hi))
 | .tup ds=>.ok (.tup (gh ds lo hi))
 | _=>.stuck
noncomputable def bz (fe:DS->Res D) (fl fu:DS->Res (Option Int)):DS->Res D:=fun δ=>(fe δ).bind fun d=>(fl δ).bind fun l=>(fu δ).bind fun u=>cutD d l u
theorem Qo (d:D) (lo hi:Option Int):aO (cutD d lo hi):=by
 unfold cutD; split <;> first | exact dZ | exact dh | exact kE dZ dh
theorem Reps.take' {K:Frag} {H:Hp}:∀(n:Nat) {ds:List D} {vs:List V},Reps K H ds vs->Reps K H (ds.take n) (vs.take n)
 | 0,_,_,_=>by simp only [take_zero]; exact Reps.nil
 | n + 1,[],_,h=>by cases h.nil_of; exact Reps.nil
 | n + 1,d :: ds,_,h=>by
  obtain ⟨v,vs,rfl,r,q⟩:=h.cons_of;exact Reps.cons r (Reps.take' n q)
theorem Reps.cut {K:Frag} {H:Hp} {ds:List D} {vs:List V} (h:Reps K H ds vs) (lo hi:Option Int):Reps K H (gh ds lo hi) (lQ vs lo hi):=by
 unfold gh lQ;rw [h.length];exact Reps.take' _ (Reps.drop _ h)
section
variable {X:Cx} {e:Expr} {fe:DS->Res D} {lo hi:Option Expr} {fl fu:DS->Res (Option Int)} {pos p2:Pos}
theorem at':POD X none bC:=by
 intro pins s σ G H δ I R _;rw [evalPart_none];exact wpAny_pure ⟨none,H,rfl,I,.none,Same.refl H⟩
theorem dY (h:PD X e fe):POD X (some e) (bJ fe):=by
 intro pins s σ G H δ I R hs;unfold bJ at hs ⊢;rw [evalPart_some];refine h.use I R (gb hs) (fun d u s1 v H1 q I1 r1 e1 b1 p1=>?_) fun e s1 q=>q.same fun x z=>gR z;have h2:=ie hs q
 cases d with
 | int i =>
  rw [cT p1] at r1;obtain ⟨t,rfl⟩:=r1;exact ⟨some i,H1,by rw [q]; rfl,I1,.int i t,e1⟩
 | _=>exact (h2 rfl).elim
theorem POD.use {pins:List (Addr×Obj)} {s:Shared} {σ:St} {G H:Hp} {δ:DS} (h:POD X lo fl) (I:Inv X pins σ H s) (R:RepSt X.K G H σ δ) (hs:fl δ≠.stuck) {P E:Value->Shared->Prop}
  (k:∀o u s1 H1,fl δ=.ok o->Inv X pins σ H1 s1->IsPart u o->Same H H1->Back H s.heap s1.heap->P u s1)
  (kx:∀e s1,XPost X pins σ H s.heap (fl δ) e s1->E e s1):wpAny (model X.prog X.w) X.A (evalPart lo X.env) P E s:=by
 refine wpAny_mono (h (pins ++ jE X H s.heap) s σ G H δ I.all R hs) (fun u s1 ⟨o,H1,q1,q2,q3,q4⟩=>k o u s1 H1 q1 q2.unpinned q3 q4 (I.backTo q2)) fun e s1 ⟨x,a,C,H1,q1,q2,q3,q4,q5,q6⟩=>kx e s1 ⟨x,a,C,H1,q1,q2,q3.unpinned,q4,q5,q6⟩
noncomputable def zG:V->Option Int->Option Int->Hp->VK->Prop:=fun x lo hi H Q=>∃z,x=.str z/\z.length<=sizeLine/\Q (.str (Txt.slice z lo hi)) H
theorem sl_str:SlR X zG:=by
 intro pins s σ H x v vl vu lo hi sl Q I rx hs pl pu h;obtain ⟨z,rfl,hz,q⟩:=h;obtain ⟨t,rfl⟩:=rx;refine ⟨"str",_,PySem.F.slot_str_getitem.lookup,typeIs_str _ _ _,?_⟩;have hl:∃l:Option (Int×Tok),vl=partValue l/\l.map (·.1)=lo:=by
  cases pl with
  | none=>exact ⟨none,rfl,rfl⟩
  | int i t=>exact ⟨some (i,t),rfl,rfl⟩
 have hu:∃u:Option (Int×Tok),vu=partValue u/\u.map (·.1)=hi:=by
  cases pu with
  | none=>exact ⟨none,rfl,rfl⟩
  | int i t=>exact ⟨some (i,t),rfl,rfl⟩
 obtain ⟨l,rfl,rfl⟩:=hl;obtain ⟨u,rfl,rfl⟩:=hu;refine wpAny_getItem_str_slice (l:=l) (u:=u) (st:=none) hs rfl ?_;exact post_val_or_str ⟨Nat.le_trans (Txt.slice_le z _ _) hz,fun t' k=>⟨.str _,H,I.tok _,⟨_,rfl⟩,q⟩⟩
theorem Qp {H:Hp} {d r:D} {v:V} {lo hi:Option Int} (p:Rep X.K H d v) (e:cutD d lo hi=.ok r):(fun x lo hi H Q=>zG x lo hi H Q\/y_ X.K x lo hi H Q\/yU X.K x lo hi H Q\/zE X.K x lo hi H Q) v lo hi H (fun z H'=>Same H H'/\Rep X.K H' r z):=by
 unfold cutD at e
 split at e
 ·rename_i z
  split at e
  ·rename_i hz
   cases e
   exact .inl ⟨z,lR p,hz,Same.refl H,zx⟩
  ·cases e
 ·rename_i ds
  cases e
  obtain ⟨a,xs,rfl,hq,rr⟩:=fP p;exact .inr (.inl ⟨a,xs,rfl,hq,fun p hp=>⟨i_ hp _,qu (SqL.of jB) ((rr.cut _ _).mono (i_ hp _))⟩⟩)
 ·rename_i ds
  cases e
  obtain ⟨a,xs,rfl,hq,rr⟩:=eE p
  by_cases hw:HT.sIx ds.length 0 lo=0/\HT.sIx ds.length ds.length hi=ds.length
  ·have ec:gh ds lo hi=ds:=by unfold gh; rw [hw.1,hw.2]; simp
   exact .inr (.inr (.inr ⟨a,xs,rfl,hq,by rw [rr.length]; exact hw,Same.refl H,by rw [ec]; exact oZ hq rr⟩))
  ·exact .inr (.inr (.inl ⟨a,xs,rfl,hq,by rw [rr.length]; exact hw,fun p hp=>⟨i_ hp _,oZ (SqT.of jB) ((rr.cut _ _).mono (i_ hp _))⟩⟩))
 ·cases e
theorem as' (he:PD X e fe) (hl:POD X lo fl) (hu:POD X hi fu):PD X (.Subscript e (.Slice lo hi none p2) pos) (bz fe fl fu):=by
 intro pins s σ G H δ I R hs;unfold bz at hs ⊢;refine Subscript_ (he.use I R (gb hs) (fun d v s1 x H1 q I1 r1 e1 b1 p1=>?_) fun e s1 q=>q.same fun x z=>gR z);have h2:=ie hs q;rw [q,Res.bind_ok];refine wpAny_Slice (hl.use I1 (R.mono e1) (gb h2) (fun l vl s2 H2 q2 I2 pl e2 b2=>?_) fun e s2 p=>p.back e1 b1 fun x z=>gR z);have h3:=ie h2 q2;rw [q2,Res.bind_ok];refine hu.use I2 ((R.mono e1).mono e2) (gb h3) (fun u vu s3 H3 q3 I3 pu e3 b3=>?_) fun e s3 p=>(p.back e2 b2 (r':=(fu δ).bind fun u=>cutD d l u) fun x z=>gR z).back e1 b1 fun x z=>z;have h4:=ie h3 q3;rw [q3,Res.bind_ok,evalPart_none];refine wpAny_pure ?_;have I4:Inv X pins σ H3 { s3 with heap:=s3.heap.push { cls:=.type "slice",data:=.fields #[vl,vu,.none] } }:=I3.kept (t':=s3.toks) fun b ob q=>Heap.get?_push_of_some _ q
 cases qg:cutD d l u with
 | stuck=>exact (h4 qg).elim
 | err z=>exact (Qo d l u z qg).elim
 | ok r =>
  obtain ⟨T,id,hT,ht,hg⟩:=(sl_str.or (sl_list.or (sl_tup.or Qn)):SlR X.nox _) pins { s3 with heap:=s3.heap.push { cls:=.type "slice",data:=.fields #[vl,vu,.none] } } σ H3 x v vl vu l u s3.heap.objs.size _ (I4.wish _) r1 (Heap.IsSliceOf.new ..) pl pu (Qp (X:=X) ((p1.mono e2).mono e3) qg)
  show wpAny (model X.prog X.w) X.A (subscriptTail e (.Slice lo hi none p2) v (.ref s3.heap.objs.size)) _ _ { s3 with heap:=s3.heap.push { cls:=.type "slice",data:=.fields #[vl,vu,.none] } }
  refine wpAny_mono (tail_any (ops:=[.ref s3.heap.objs.size,v]) ht hT hg (by with_unfolding_all rfl)) (fun w s4 q4=>?_) fun _ _ z=>z.elim;obtain ⟨z,H4,I5,r5,e5,p5⟩:=q4;exact ⟨r,z,H4,rfl,I5.unwish,r5,((e1.trans e2).trans e3).trans e5,p5⟩
end
mutual
noncomputable def dC:D->Bool
 | .tup ds=>b_ ds
 | .lst _=>false
 | .excf _ _ _=>false
 | _=>true
noncomputable def b_:List D->Bool
 | []=>true
 | d :: ds=>dC d && b_ ds
end
mutual
theorem Rep.lset {K:Frag} {H:Hp} {a:Addr} {xs ys:List V} (hH:H a=some (.lst xs)):∀{d:D} {v:V},dC d=true->Rep K H d v->Rep K (upd H a (.lst ys)) d v
 | .non,v,_,h=>by rw [Rep] at h ⊢; exact h
 | .bl _,v,_,h=>by rw [Rep] at h ⊢; exact h
 | .int _,v,_,h=>by rw [Rep] at h ⊢; exact h
 | .str _,v,_,h=>by rw [Rep] at h ⊢; exact h
 | .lst _,v,hf,_=>by rw [dC] at hf; cases hf
 | .tup ds,v,hf,h=>by
  obtain ⟨b,zs,rfl,hq,r⟩:=eE h;rw [dC] at hf;refine oZ ?_ (Reps.lset hH hf r);rcases hq with (hq | ⟨o,hq⟩) | hq
  ·exact .inl (.inl (by rw [dU (fun z=>by subst z; rw [hH] at hq; cases hq)]; exact hq))
  ·exact .inl (.inr ⟨o,by rw [dU (fun z=>by subst z; rw [hH] at hq; cases hq)]; exact hq⟩)
  ·exact .inr hq
 | .exc n,v,_,h=>by
  rw [Rep] at h ⊢;obtain ⟨b,C,rfl,hC,hb⟩:=h;exact ⟨b,C,rfl,hC,by rw [dU (fun z=>by subst z; rw [hH] at hb; cases hb)]; exact hb⟩
 | .excf n f d,v,hf,h=>by rw [dC] at hf; cases hf
 | .dct,v,_,h=>by
  rw [Rep] at h ⊢;obtain ⟨b,rfl,hb⟩:=h;exact ⟨b,rfl,by rw [dU (fun z=>by subst z; rw [hH] at hb; cases hb)]; exact hb⟩
theorem Reps.lset {K:Frag} {H:Hp} {a:Addr} {xs ys:List V} (hH:H a=some (.lst xs)):∀{ds:List D} {vs:List V},b_ ds=true->Reps K H ds vs->Reps K (upd H a (.lst ys)) ds vs
 | [],_,_,h=>by cases h.nil_of; exact Reps.nil
 | d :: ds,_,hf,h=>by
  rw [b_,Bool.and_eq_true] at hf;obtain ⟨v,vs,rfl,r,q⟩:=h.cons_of;exact Reps.cons (Rep.lset hH hf.1 r) (Reps.lset hH hf.2 q)
end
noncomputable def dw:SV->Option SV
 | .val d=>if dC d=true then some (.val d) else none
 | .arg d=>some (.arg d)
 | .own ds=>if b_ ds=true then some (.own ds) else none
noncomputable def qD (i:Nat) (ds:List D) (d:D) (δ:DS):DS:=(δ.map fun o=>o.bind dw).set i (some (.own (ds ++ [d])))
theorem Ds {δ:DS} {j:Nat} {sv:SV} (h:(δ.map fun o=>o.bind dw)[j]? = some (some sv)):∃sv0,δ[j]? = some (some sv0)/\dw sv0=some sv:=by
 rw [List.getElem?_map] at h
 cases z:δ[j]? with
 | none=>rw [z] at h; cases h
 | some o =>
  cases o with
  | none=>rw [z] at h; cases h
  | some sv0=>rw [z] at h; exact ⟨sv0,rfl,by simpa using h⟩
theorem JF {sv:SV} {ds:List D} (h:dw sv=some (.own ds)):sv=.own ds/\b_ ds=true:=by
 cases sv with
 | val d=>simp only [dw] at h; split at h <;> cases h
 | arg d=>cases h
 | own es =>
  simp only [dw] at h
  split at h
  ·rename_i c; cases h; exact ⟨rfl,c⟩
  ·cases h
theorem RepSt.app {K:Frag} {G H:Hp} {σ:St} {δ:DS} {i:Nat} {ds:List D} {d:D} {a:Addr} {xs:List V} {v:V} (R:RepSt K G H σ δ) (hδ:δ[i]? = some (some (.own ds))) (hσ:σ[i]? = some (some (.ref a))) (hH:H a=some (.lst xs)) (r:Reps K H ds xs) (hG:G a=none) (hf:b_ ds=true) (hd:dC d=true) (p:Rep K H d v) :
  RepSt K G (upd H a (.lst (xs ++ [v]))) σ (qD i ds d δ) where
 same:=fun b o e=>by
  have hb:b≠a:=fun z=>by subst z; rw [hG] at e; cases e
  rw [dU hb]; exact R.same b o e
 len:=by unfold qD; rw [length_set,length_map]; exact R.len
 at_:=fun j sv h=>by
  unfold qD at h;have hl:i < δ.length:=(List.getElem?_eq_some_iff.mp hδ).1
  by_cases hj:i=j
  ·subst hj;rw [List.getElem?_set_self (by rw [length_map]; exact hl)] at h
   cases h
   exact ⟨.ref a,hσ,a,xs ++ [v],rfl,jB,(Reps.lset hH hf r).append (Reps.cons (Rep.lset hH hd p) Reps.nil),hG⟩
  ·rw [List.getElem?_set_ne hj] at h;obtain ⟨sv0,q1,q2⟩:=Ds h;obtain ⟨u,e1,e2⟩:=R.at_ j sv0 q1;refine ⟨u,e1,?_⟩
   cases sv0 with
   | val d' =>
    simp only [dw] at q2
    split at q2
    ·rename_i c; cases q2; exact Rep.lset hH c e2
    ·cases q2
   | arg d'=>cases q2; exact e2
   | own es =>
    simp only [dw] at q2
    split at q2
    ·rename_i c
     cases q2
     obtain ⟨b,ys,rfl,w2,w3,w4⟩:=e2;have hb:b≠a:=fun z=>by subst z; exact R.sep i j ds es (.ref b) hj hδ q1 hσ e1
     exact ⟨b,ys,rfl,by rw [dU hb]; exact w2,Reps.lset hH c w3,w4⟩
    ·cases q2
 sep:=fun j k es fs u hjk h1 h2 h3=>by
  have get:∀(m:Nat) (gs:List D),(qD i ds d δ)[m]? = some (some (.own gs))->∃gs',δ[m]? = some (some (.own gs')):=fun m gs h=>by
   unfold qD at h
   by_cases hm:i=m
   ·subst hm; exact ⟨ds,hδ⟩
   ·rw [List.getElem?_set_ne hm] at h;obtain ⟨sv0,q1,q2⟩:=Ds h;obtain ⟨rfl,_⟩:=JF q2;exact ⟨gs,q1⟩
  obtain ⟨es',g1⟩:=get j es h1;obtain ⟨fs',g2⟩:=get k fs h2;exact R.sep j k es' fs' u hjk g1 g2 h3
section
variable {X:Cx} {e:Expr} {es:List Expr} {fe:DS->Res D} {fs:DS->Res (List D)} {x:Str} {pos pos' lp np apos cpos:Pos}
end
end DL
namespace DL
open PySem PySem.Spec PyProof.Rows L2
section
variable {prog:Program} {w:World} {A:Around} {E:Value->Shared->Prop} {s:Shared} {I:Addr} {fp wr:List Addr} {G:Array GenState->Array GenState->Prop} {n:Nat} {P:Nat->Value->Prop} {St:Nat->Shared->Prop}
end
section
variable {prog:Program} {w:World} {A:Around} {E:Value->Shared->Prop} {s:Shared} {x:Str} {t:Tok} {Q:Value->Shared->Prop}
end
section
variable {X:Cx} {e:Expr} {fe:DS->Res D} {sep:Str} {p0 apos np rp cpos:Pos}
end
noncomputable def fj (cells:List (Str×Addr)):List (Str×NameKind)->List (Str×Addr)->List (Str×Addr)
 | [],acc=>acc
 | y :: r,acc=>if (y.2 == NameKind.free)=true then fj cells r ((y.1,(cells.lookup y.1).getD 0) :: acc) else fj cells r acc
theorem hv' {scope:Scope} {env:Env} (h:∀y∈scope.names,y.2=.free->∃c,env.cells.lookup y.1=some c):closureFor scope env=pure (fj env.cells scope.names []):=by
 unfold closureFor;generalize scope.names=ns at h;show (forIn ns ([]:List (Str×Addr)) _ >>= fun r=>pure r)=_;have key:∀(ns:List (Str×NameKind)) (acc:List (Str×Addr)),(∀y∈ns,y.2=.free->∃c,env.cells.lookup y.1=some c) ->
   (forIn ns acc (fun (x:Str×NameKind) (cs:List (Str×Addr))=>(match x with
    | (name,kind)=>if (kind == NameKind.free)=true then do
      let c <- cellOf env name
      pure (ForInStep.yield ((name,c) :: cs))
     else pure (ForInStep.yield cs):Sem _)))=pure (fj env.cells ns acc):=by
  intro ns
  induction ns with
  | nil=>intro acc _; rfl
  | cons y r ih =>
   intro acc hy;obtain ⟨n,k⟩:=y;rw [forIn_cons]
   by_cases c:(k == NameKind.free)=true
   ·obtain ⟨a,ha⟩:=hy (n,k) (by simp) (by simpa using c);have ha':env.cells.lookup n=some a:=ha;simp only [c,if_true,fj,ha',Option.getD_some];have:cellOf env n=pure a:=by unfold cellOf; rw [ha']
    rw [this];exact ih _ fun z hz=>hy z (mem_cons_of_mem _ hz)
   ·simp only [c,if_false,fj];exact ih _ fun z hz=>hy z (mem_cons_of_mem _ hz)
 exact congrArg (fun z=>z >>= fun r=>pure r) (key ns [] h)
theorem FZ {cells:List (Str×Addr)}:∀(ns:List (Str×NameKind)) (acc:List (Str×Addr)),(∀y∈ns,y.2=.free->∃c,cells.lookup y.1=some c)->(∀x c,acc.lookup x=some c->cells.lookup x=some c) ->
  ∀x c,(fj cells ns acc).lookup x=some c->cells.lookup x=some c
 | [],acc,_,ha,x,c,h=>ha x c h
 | y :: r,acc,hn,ha,x,c,h=>by
  unfold fj at h
  split at h
  ·rename_i q;refine FZ r _ (fun z hz=>hn z (mem_cons_of_mem _ hz)) (fun x' c' h'=>?_) x c h;obtain ⟨a,e⟩:=hn y (by simp) (by simpa using q);rw [lookup_cons] at h'
   split at h'
   ·rename_i q2;have:x'=y.1:=by simpa using q2
    subst this;rw [e] at h' ⊢;simpa using h'
   ·exact ha x' c' h'
  ·exact FZ r _ (fun z hz=>hn z (mem_cons_of_mem _ hz)) ha x c h
theorem cN' {cells:List (Str×Addr)} {x:Str}:∀(ns:List (Str×NameKind)) (acc:List (Str×Addr)),((x,NameKind.free)∈ns\/∃c,acc.lookup x=some c)->∃c,(fj cells ns acc).lookup x=some c
 | [],acc,h=>by
  rcases h with h | h
  ·cases h
  ·exact h
 | y :: r,acc,h=>by
  unfold fj
  split
  ·rename_i q;refine cN' r _ ?_;rcases h with h | ⟨c,h⟩
   ·rcases mem_cons.mp h with z | z
    ·subst z;exact .inr ⟨(cells.lookup x).getD 0,by rw [lookup_cons]; simp⟩
    ·exact .inl z
   ·refine .inr ?_;rw [lookup_cons]
    split
    ·exact ⟨_,rfl⟩
    ·exact ⟨c,h⟩
  ·rename_i q;refine cN' r _ ?_;rcases h with h | h
   ·rcases mem_cons.mp h with z | z
    ·subst z; exact (q rfl).elim
    ·exact .inl z
   ·exact .inr h
theorem lookup_map2 {f:Str×NameKind->Str×NameKind} (hf:∀y,(f y).1=y.1) (x:Str):∀(ns:List (Str×NameKind)),(ns.map f).lookup x=(ns.lookup x).map fun k=>(f (x,k)).2
 | []=>rfl
 | y :: r=>by
  obtain ⟨n,k⟩:=y;rw [map_cons,show f (n,k)=(n,(f (n,k)).2) from Prod.ext (hf _) rfl,lookup_cons,lookup_cons,lookup_map2 hf x r]
  by_cases c:x=n
  ·subst c; simp
  ·have:(x == n)=false:=by simpa using c
   simp [this]
theorem JG {scope:Scope} {env:Env} (x:Str):(relabel scope env).names.lookup x=(scope.names.lookup x).map fun k=>if (k == .free && env.scope.kind == .function && env.kindOf x == some .cell)=true then NameKind.cell else k:=by
 show List.lookup x (List.map _ scope.names)=_;rw [lookup_map2 (fun y=>by obtain ⟨n,k⟩:=y; dsimp only; split <;> rfl)]
 cases scope.names.lookup x with
 | none=>rfl
 | some k =>
  simp only [Option.map_some]
  split <;> rfl
theorem lF' {X:Cx} {m:Nat} {fr:List Nat} {N':List Str} {scope:Scope} {n:Nat} (sc:Scope) (N:List Str) (hsc:X.env.scope=sc) (hcl:X.env.cells=cellsFrom n sc.names []) (hN:X.N=N)
  (hf:∀y∈scope.names,y.2=.free->sc.names.lookup y.1=some .cell) (hc:∀y∈scope.names,y.2≠.cell) (hk:scope.kind=.function) (hks:sc.kind=.function)
  (hn:∀x∈scope.names,x.2=.local->scope.names.lookup x.1=some .local) (hl:N'.length=m + fr.length)
  (hfr:∀j,j < fr.length->∃x,N'[m + j]? = some x/\N[fr.getD j 0]? = some x/\scope.names.lookup x=some .free/\sc.names.lookup x=some .cell):Around' X m fr N' scope (fj X.env.cells scope.names []):=by
 have hs:∀y∈scope.names,y.2=.free->∃c,X.env.cells.lookup y.1=some c:=fun y hy e=>by
  rw [hcl]; exact ed' (hf y hy e)
 have hfree:∀x k,scope.names.lookup x=some k->k≠.cell:=fun x k h=>hc _ (PySem.mem_of_lookup h);refine { clos:=hv' hs,nocell:=hc,kind:=hk,names:=hn,sub:=FZ _ _ hs (fun x c h=>by simp at h),has:=fun x h=>?_,len:=hl,free:=fun j i h=>?_ }
 ·rw [JG] at h
  cases q:scope.names.lookup x with
  | none=>rw [q] at h; rcases h with h | h <;> cases h
  | some k =>
   rw [q] at h;have:k=.free:=by
    have h2:=hfree x k q
    cases k <;> first | rfl | exact (h2 rfl).elim | (rcases h with h | h <;> simp at h)
   subst this;exact cN' _ _ (.inl (PySem.mem_of_lookup q))
 ·have hj:j < fr.length:=by
   rcases Nat.lt_or_ge j fr.length with z | z
   ·exact z
   ·rw [List.getElem?_eq_none z] at h; cases h
  obtain ⟨x,e1,e2,e3,e4⟩:=hfr j hj;have hi:fr.getD j 0=i:=by rw [getD_eq_getElem?_getD,h]; rfl
  rw [hi] at e2;obtain ⟨c,e5⟩:=cN' (cells:=X.env.cells) scope.names [] (.inl (PySem.mem_of_lookup e3));refine ⟨x,c,e1,by rw [hN]; exact e2,by rw [hsc]; exact .inr (.inl e4),.inl (by unfold Env.kindOf; rw [hsc]; exact e4),e5,.inl ?_⟩;show (relabel scope X.env).names.lookup x=_;rw [JG,e3];have:X.env.kindOf x=some .cell:=by unfold Env.kindOf; rw [hsc]; exact e4
  simp [this,hsc,hks]
noncomputable def zH (sc scope:Scope) (N N':List Str) (m:Nat) (fr:List Nat):Bool :=
 scope.names.all (fun y=>decide (y.2≠.cell) && (!(decide (y.2=.free)) || decide (sc.names.lookup y.1=some .cell)) && (!(decide (y.2=.local)) || decide (scope.names.lookup y.1=some .local))) &&
 decide (N'.length=m + fr.length) && (List.range fr.length).all fun j=>match N'[m + j]? with
  | some x=>decide (N[fr.getD j 0]? = some x) && decide (scope.names.lookup x=some .free) && decide (sc.names.lookup x=some .cell)
  | none=>false
theorem wg {X:Cx} {m:Nat} {fr:List Nat} {N':List Str} {scope:Scope} {n:Nat} (sc:Scope) (N:List Str) (hsc:X.env.scope=sc) (hcl:X.env.cells=cellsFrom n sc.names []) (hN:X.N=N) (hk:scope.kind=.function) (hks:sc.kind=.function)
  (h:zH sc scope N N' m fr=true):Around' X m fr N' scope (fj X.env.cells scope.names []):=by
 unfold zH at h;simp only [Bool.and_eq_true,all_eq_true,decide_eq_true_eq] at h;obtain ⟨⟨h1,h2⟩,h3⟩:=h;refine lF' sc N hsc hcl hN (fun y hy e=>?_) (fun y hy=>(h1 y hy).1.1) hk hks (fun y hy e=>?_) h2 fun j hj=>?_
 ·have:=(h1 y hy).1.2;simpa [e] using this
 ·have:=(h1 y hy).2;simpa [e] using this
 ·have:=h3 j (by simpa using hj)
  split at this
  ·rename_i x q;simp only [Bool.and_eq_true,decide_eq_true_eq] at this;exact ⟨x,q,this.1.1,this.1.2,this.2⟩
  ·cases this
theorem Qs {K:Frag} {H:Hp} {lo:Int} {n:Nat}:du K (yj lo n) H (cL lo n):=by
 intro H' e;refine ⟨fun i d hd=>?_,by rw [Jm]; exact Nat.le_refl _⟩;have hi:i < n:=by
  rcases Nat.lt_or_ge i (cL lo n).length with z | z
  ·rwa [Jm] at z
  ·rw [List.getElem?_eq_none z] at hd; cases hd
 refine ⟨hi,fun x H'' y=>?_⟩;obtain ⟨rfl,rfl⟩:=y;have e1:(cL lo n)[i]? = some (.int (lo + i)):=by
  have:=Ph lo n i hi;have h2:((cL lo n).drop i)[0]? = some (.int (lo + i)):=by rw [this]; rfl
  simpa using h2
 rw [e1] at hd
 cases hd
 exact ⟨Same.refl _,jc⟩
theorem JH {X:Cx} {tg:Expr} {pins:List (Addr×Obj)} {σ:St} {H H1:Hp} {lo:Int} {n:Nat} {r:Res (List D)} (e:Same H H1) (hr:r=.ok (cL lo n)) {itv:Value} {s2:Shared} (p:PIE X pins σ tg (fun J H'=>J=yj lo n/\H'=H1) itv s2):v5 X pins σ H tg r itv s2:=by
 obtain ⟨it,fp,tn,J,H',q1,q2,q3,q4,q5,rfl,rfl⟩:=p;exact ⟨_,it,fp,tn,_,_,hr,q1,q2,q3,q4,q5,e,Qs⟩
theorem hy' {X:Cx} {tg a:Expr} {fa:DS->Res (List D)} {p pos:Pos} (hg:Gl X "range") (hm:X.mg "range" = none) (ha:PAD X [a] fa) (hs:starEach [a] X.env=[(false,eval a X.env)]:=by rfl) :
  PID X tg (.Call (.Name "range" p) [a] [] pos) (fun δ=>(fa δ).bind lW):=by
 intro pins s σ G H δ I R hn
 try dsimp only at hn ⊢
 refine Call_ (vQ I hg hm boot_range (PyProof.Rows.callWith_type1 (ha.use I R (gb hn) (fun ds us s1 vs H1 q I1 r1 e1 b1 p1=>?_) fun e s1 q=>q.same fun x z=>gR z) hs rfl))
 have h2:=ie hn q;unfold lW at h2
 split at h2
 ·rename_i j;obtain ⟨v,ws,rfl,w1,w2⟩:=p1.cons_of
  cases w2.nil_of
  cases cT w1
  split at h2
  ·rename_i hj
   cases r1 with
   | cons r rr =>
    cases rr
    obtain ⟨t,rfl⟩:=r;refine call_range_1 ?_;refine wpAny_mono (Im (R:=fun J H'=>J=yj 0 j.toNat/\H'=H1) I1 (by omega) (by omega) hj.1 hj.2 ⟨by simp,rfl⟩) (fun itv s2 z=>JH e1 (by rw [q,Res.bind_ok]; unfold lW; simp only [hj,and_self,if_true]) z) fun _ _ z=>z
  ·exact (h2 rfl).elim
 ·exact (h2 rfl).elim
theorem hA' {X:Cx} {tg a b:Expr} {fa:DS->Res (List D)} {p pos:Pos} (hg:Gl X "range") (hm:X.mg "range" = none) (ha:PAD X [a,b] fa) (hs:starEach [a,b] X.env=[(false,eval a X.env),(false,eval b X.env)]:=by rfl) (hs2:starEach [b] X.env=[(false,eval b X.env)]:=by rfl) :
  PID X tg (.Call (.Name "range" p) [a,b] [] pos) (fun δ=>(fa δ).bind qw):=by
 intro pins s σ G H δ I R hn
 try dsimp only at hn ⊢
 refine Call_ (vQ I hg hm boot_range (PyProof.Rows.callWith_type1 (ha.use I R (gb hn) (fun ds us s1 vs H1 q I1 r1 e1 b1 p1=>?_) fun e s1 q=>q.same fun x z=>gR z) (by rw [hs,hs2]) (by rw [hs2]; rfl)))
 have h2:=ie hn q;unfold qw at h2
 split at h2
 ·rename_i i j;obtain ⟨v,ws,rfl,w1,w2⟩:=p1.cons_of;obtain ⟨v',ws,rfl,w3,w4⟩:=w2.cons_of
  cases w4.nil_of
  cases cT w1
  cases cT w3
  split at h2
  ·rename_i hj
   cases r1 with
   | cons r rr =>
    cases rr with
    | cons r' rr =>
     cases rr
     obtain ⟨t,rfl⟩:=r;obtain ⟨t',rfl⟩:=r';refine call_range_2 ?_;refine wpAny_mono (Im (R:=fun J H'=>J=yj i (j - i).toNat/\H'=H1) I1 hj.1 hj.2.1 hj.2.2.1 hj.2.2.2 ⟨rfl,rfl⟩) (fun itv s2 z=>JH e1 (by rw [q,Res.bind_ok]; unfold qw; simp only [hj,and_self,if_true]) z) fun _ _ z=>z
  ·exact (h2 rfl).elim
 ·exact (h2 rfl).elim
noncomputable def cC (f:DS->Res (List D)) (g:List D->Res (List D)):DS->Res (List D):=fun δ=>(f δ).bind g
noncomputable def cW:List D->Res D
 | [.lst ds]=>.ok (.tup ds)
 | [.tup ds]=>.ok (.tup ds)
 | _=>.stuck
theorem vd (ds:List D):aO (cW ds):=by
 unfold cW
 split <;> first | exact dZ | exact dh
theorem Qt {X:Cx} (E:Value->Shared->Prop):CallR (X.wish E) (.type "tuple") (fun xs H Q=>∃p ys,xs=[.ref p]/\((SqL X.K H p ys/\∀l,H l=none->Q (.ref l) (upd H l (.tup ys)))\/(SqT X.K H p ys/\Q (.ref p) H))):=Om
theorem vf {X:Cx}:CallD X (.type "tuple") cW:=.of Qt fun H xs ds d Q r e q=>by
 unfold cW at e
 split at e
 ·rename_i es
  cases e
  obtain ⟨v,vs,rfl,p1,t⟩:=r.cons_of
  cases t.nil_of
  obtain ⟨a,ys,rfl,w1,w2⟩:=fP p1;exact ⟨a,ys,rfl,.inl ⟨w1,fun l hl=>q _ _ (i_ hl _) (oZ (SqT.of jB) (w2.mono (i_ hl _)))⟩⟩
 ·rename_i es
  cases e
  obtain ⟨v,vs,rfl,p1,t⟩:=r.cons_of
  cases t.nil_of
  obtain ⟨a,ys,rfl,w1,w2⟩:=eE p1;exact ⟨a,ys,rfl,.inr ⟨w1,q _ _ (Same.refl H) (oZ w1 w2)⟩⟩
 ·cases e
section
variable {prog:Program} {w:World} {A:Around} {E:Value->Shared->Prop} {s:Shared}
theorem F_ {it t:Addr} {i:Nat} {items:Array Value} {x:Value} {Q:Value->Shared->Prop} (hi:s.heap.IsTupleIter it t i) (ht:s.heap.IsTuple t items) (hx:items[i]? = some x)
  (h:∀h':Heap,h'.IsTupleIter it t (i + 1)->Heap.SameBut it s.heap h'->Q x { s with heap:=h' }):wpAny (model prog w) A (Builtin.SmallTypes.nextOf (.ref it)) Q E s:=by
 unfold Builtin.SmallTypes.nextOf;refine wpAny_bind (wpAny_callSpecial?_slot hi.typeIs slot_tupleiter_next ?_);refine wpAny_call (codeAny_call_builtin slot_tupleiter_next.plain entry_tupleiter_next (slot_tupleiter_next.check _ _ _ _ _ _ _ _ hi.typeIs (args_tupleiter_next _) ?_));obtain ⟨o,g,hc,hd⟩:=id hi;obtain ⟨ot,gt,htc,n,htd⟩:=id ht;refine wpAny_bind (m:=slotArgs _ _ _) (wpAny_pure ?_);refine wpAny_bind (m:=field _ _) (wpAny_field g hd rfl ?_);refine wpAny_bind (m:=field _ _) (wpAny_field g hd rfl ?_);refine wpAny_bind (m:=seqItems? _) (wpAny_seqItems gt htd ?_);simp only [Int.toNat_natCast,hx];refine wpAny_bind (wpAny_setField g hd (show 1 < 2 by decide) (wpAny_pure ?_));have d2:=Obj.data_mapFields hd (fun v=>v.setIfInBounds 1 (rawInt ((i:Int) + 1)));have g2:=Heap.get?_update_self (Obj.mapFields fun v=>v.setIfInBounds 1 (rawInt ((i:Int) + 1))) g (Obj.isFreed_of_fields d2);exact wpAny_pure (h _ ⟨_,g2,(by unfold Obj.mapFields; split <;> exact hc),d2⟩ (Heap.SameBut.update _ _ _))
theorem hB' {α:Type} {Q:α->Shared->Prop} (hh:A.handled=none) (h:∀(h':Heap) (e:Addr),(∀b o,s.heap.get? b=some o->h'.get? b=some o)->(∃o,h'.get? e=some o/\o.cls=.type "StopIteration")->E (.ref e) { s with heap:=h' }) :
  wpAny (model prog w) A (Builtin.SmallTypes.stopIteration:Sem α) Q E s:=by
 unfold Builtin.SmallTypes.stopIteration;refine wpAny_bind (m:=newExc _ _) ?_;rw [newExc.eq_1];refine wpAny_bind (wpAny_newTuple ?_ (by decide));rw [firstArgMember.eq_1];refine wpAny_bind (wpAny_bind (wpAny_pure (wpAny_pure ?_)));refine wpAny_newObj_type ?_;refine wpAny_raiseNew_none hh (h _ _ (fun b o e=>Heap.get?_push_of_some _ (Heap.get?_push_of_some _ e)) ⟨_,Heap.get?_push_size _ rfl,rfl⟩)
theorem JK {it t:Addr} {i:Nat} {items:Array Value} {Q:Value->Shared->Prop} (hh:A.handled=none) (hi:s.heap.IsTupleIter it t i) (ht:s.heap.IsTuple t items) (hx:items[i]? = none)
  (h:∀(h':Heap) (e:Addr),Heap.ExtBut it s.heap h'->(∃o,h'.get? e=some o/\o.cls=.type "StopIteration")->E (.ref e) { s with heap:=h' }):wpAny (model prog w) A (Builtin.SmallTypes.nextOf (.ref it)) Q E s:=by
 unfold Builtin.SmallTypes.nextOf;refine wpAny_bind (wpAny_callSpecial?_slot hi.typeIs slot_tupleiter_next ?_);refine wpAny_call (codeAny_call_builtin slot_tupleiter_next.plain entry_tupleiter_next (slot_tupleiter_next.check _ _ _ _ _ _ _ _ hi.typeIs (args_tupleiter_next _) ?_));obtain ⟨o,g,hc,hd⟩:=id hi;obtain ⟨ot,gt,htc,n,htd⟩:=id ht;refine wpAny_bind (m:=slotArgs _ _ _) (wpAny_pure ?_);refine wpAny_bind (m:=field _ _) (wpAny_field g hd rfl ?_);refine wpAny_bind (m:=field _ _) (wpAny_field g hd rfl ?_);refine wpAny_bind (m:=seqItems? _) (wpAny_seqItems gt htd ?_);simp only [Int.toNat_natCast,hx];refine wpAny_bind (wpAny_rule (wpAny_bind (wpAny_setField g hd (show 0 < 2 by decide) ?_)));refine hB' hh fun h' e kp ex=>h h' e (fun b o' hb e'=>kp b o' ?_) ex;rw [Heap.get?_update_other _ _ (Ne.symm hb)]; exact e'
structure ZipT (h:Heap) (z TI TO i1 i2 t1 t2:Addr) (f0:Value) (i:Nat):Prop where
 zip:IsZip h z TI TO f0
 ti:IsPair h TI (.ref i1) (.ref i2)
 to:∃a b,IsPair h TO a b
 j1:h.IsTupleIter i1 t1 i
 j2:h.IsTupleIter i2 t2 i
theorem Qu {z TI TO i1 i2 t1 t2:Addr} {i:Nat} {xs ys:Array Value} {x y:Value} {Q:Option Value->Shared->Prop} (ap:List.Nodup [z,TI,TO,i1,i2]) (n1:t1∉[z,TI,TO,i1,i2]) (n2:t2∉[z,TI,TO,i1,i2])
  (Z:ZipT s.heap z TI TO i1 i2 t1 t2 .none i) (h1:s.heap.IsTuple t1 xs) (h2:s.heap.IsTuple t2 ys) (hx:xs[i]? = some x) (hy:ys[i]? = some y)
  (hQ:∀h':Heap,ZipT h' z TI TO i1 i2 t1 t2 (rawInt (s.heap.objs.size:Nat)) (i + 1)->IsPair h' s.heap.objs.size x y->(∀b o,b∉[z,TI,TO,i1,i2]->s.heap.get? b=some o->h'.get? b=some o)->Q (some (.ref s.heap.objs.size)) { s with heap:=h' }) :
  wpAny (model prog w) A (pyNext (.ref z)) Q E s:=by
 obtain ⟨gz,gti,⟨a,b,gto⟩,j1,j2⟩:=Z;have tz:s.TypeIs (.ref z) "zip":=⟨_,gz,rfl⟩;unfold pyNext;refine wpAny_bind (wpAny_attempt ?_);refine wpAny_callSpecial?_slot tz F.slot_zip_next ?_;refine wpAny_call (codeAny_call_builtin F.slot_zip_next.plain F.entry_zip_next (F.slot_zip_next.check _ _ _ _ _ _ _ _ tz (F.args_zip_next_1 _) ?_));unfold Builtin.«zip.__next__»;refine wpAny_bind (m:=slotArgs _ _ _) (wpAny_pure ?_);refine wpAny_bind (m:=field _ _) (wpAny_field gz rfl rfl ?_);refine wpAny_bind (m:=field _ _) (wpAny_field gz rfl rfl ?_);refine wpAny_bind (m:=seqItems? _) (wpAny_seqItems gti rfl ?_);dsimp only;refine wpAny_bind (m:=Builtin.SmallTypes.ownedTupleIsFree _) ?_;unfold Builtin.SmallTypes.ownedTupleIsFree;refine wpAny_bind (m:=field _ _) (wpAny_field gz rfl rfl ?_);refine wpAny_pure ?_;rw [if_pos rfl];refine wpAny_bind (wpAny_rule (wpAny_bind (m:=field _ _) (wpAny_field gz rfl rfl ?_)))
 try dsimp only
 refine wpAny_bind (wpAny_setField gz rfl (show 0 < 5 by decide) ?_);have hst:(#[Value.none,Value.bool false,Value.bool false,Value.ref TI,Value.ref TO][2] == Value.bool true)=false:=rfl;have dz0:=Obj.data_mapFields (o:={ cls:=Value.type "zip",data:=Data.fields #[Value.none,Value.bool false,Value.bool false,Value.ref TI,Value.ref TO] }) rfl (fun v=>v.setIfInBounds 0 Value.ellipsis);have gz0:=Heap.get?_update_self (Obj.mapFields fun v=>v.setIfInBounds 0 Value.ellipsis) gz (Obj.isFreed_of_fields dz0);have sb0:=Heap.SameBut.update s.heap z (Obj.mapFields fun v=>v.setIfInBounds 0 Value.ellipsis);generalize s.heap.update z (Obj.mapFields fun v=>v.setIfInBounds 0 Value.ellipsis)=h0 at gz0 sb0 ⊢;simp only [nodup_cons,mem_cons,not_mem_nil,or_false,not_or,nodup_nil,and_true,not_false_eq_true] at ap n1 n2;obtain ⟨⟨az1,az2,az3,az4⟩,⟨ai1,ai2,ai3⟩,⟨ao1,ao2⟩,a12⟩:=ap;obtain ⟨m1,m2,m3,m4,m5⟩:=n1;obtain ⟨q1,q2,q3,q4,q5⟩:=n2;have k0:∀b,b≠z->h0.get? b=s.heap.get? b:=sb0.2;have mvT:∀{h h':Heap} {c t:Addr} {xs:Array Value},(∀b,b≠c->h'.get? b=h.get? b)->t≠c->h.IsTuple t xs->h'.IsTuple t xs:=fun k n ⟨o,g,r⟩=>⟨o,(k _ n).trans g,r⟩;have mvI:∀{h h':Heap} {c t j:Addr} {n:Nat},(∀b,b≠c->h'.get? b=h.get? b)->j≠c->h.IsTupleIter j t n->h'.IsTupleIter j t n:=fun k n ⟨o,g,r⟩=>⟨o,(k _ n).trans g,r⟩;simp only [show [Value.ref i1,Value.ref i2].zipIdx=[(Value.ref i1,0),(Value.ref i2,1)] from rfl,forIn_cons,hst]
 refine wpAny_bind (wpAny_bind ?_);refine wpAny_bind (wpAny_onRaise ?_);refine wpAny_bind (m:=Builtin.SmallTypes.nextOf (.ref i1)) (F_ (mvI k0 (Ne.symm az3) j1) (mvT k0 m1 h1) hx fun h1' ji1 sb1=>?_);have k1:∀b,b≠i1->h1'.get? b=h0.get? b:=sb1.2;refine wpAny_pure ?_;have gto1:h1'.get? TO=some { cls:=Value.type "tuple",data:=Data.seq #[a,b] }:=(k1 _ ao1).trans ((k0 _ (Ne.symm az2)).trans gto);refine wpAny_bind (wpAny_seqItems gto1 rfl ?_);refine wpAny_bind (wpAny_updateSeq gto1 rfl ?_ (show 2<=sizeLine by decide) (show 2<=sizeLine + 1 by decide));have gto2:(h1'.update TO (Obj.mapSeq fun v=>v.setIfInBounds 0 x)).get? TO=some { cls:=Value.type "tuple",data:=Data.seq #[x,b] }:=(Heap.get?_update_self _ gto1 rfl).trans rfl;have k2:∀b,b≠TO->(h1'.update TO (Obj.mapSeq fun v=>v.setIfInBounds 0 x)).get? b=h1'.get? b:=(Heap.SameBut.update _ _ _).2;have z2:(h1'.update TO (Obj.mapSeq fun v=>v.setIfInBounds 0 x)).objs.size=h1'.objs.size:=(Heap.SameBut.update _ _ _).1;dsimp only;generalize h1'.update TO (Obj.mapSeq fun v=>v.setIfInBounds 0 x)=h2' at gto2 k2 z2 ⊢;refine wpAny_bind (wpAny_letGo (wpAny_pure ?_));refine wpAny_bind (wpAny_bind (wpAny_onRaise ?_));refine wpAny_bind (m:=Builtin.SmallTypes.nextOf (.ref i2)) (F_ (mvI k2 (Ne.symm ao2) (mvI k1 (Ne.symm a12) (mvI k0 (Ne.symm az4) j2))) (mvT k2 q3 (mvT k1 q4 (mvT k0 q1 h2))) hy fun h3' ji2 sb3=>?_);have k3:∀b,b≠i2->h3'.get? b=h2'.get? b:=sb3.2;refine wpAny_pure ?_;have gto3:h3'.get? TO=some { cls:=Value.type "tuple",data:=Data.seq #[x,b] }:=(k3 _ ao2).trans gto2;refine wpAny_bind (wpAny_seqItems gto3 rfl ?_);refine wpAny_bind (wpAny_updateSeq gto3 rfl ?_ (show 2<=sizeLine by decide) (show 2<=sizeLine + 1 by decide));have gto4:(h3'.update TO (Obj.mapSeq fun v=>v.setIfInBounds 1 y)).get? TO=some { cls:=Value.type "tuple",data:=Data.seq #[x,y] }:=(Heap.get?_update_self _ gto3 rfl).trans rfl;have k4:∀b,b≠TO->(h3'.update TO (Obj.mapSeq fun v=>v.setIfInBounds 1 y)).get? b=h3'.get? b:=(Heap.SameBut.update _ _ _).2;have z4:(h3'.update TO (Obj.mapSeq fun v=>v.setIfInBounds 1 y)).objs.size=h3'.objs.size:=(Heap.SameBut.update _ _ _).1;dsimp only;generalize h3'.update TO (Obj.mapSeq fun v=>v.setIfInBounds 1 y)=h4' at gto4 k4 z4 ⊢;refine wpAny_bind (wpAny_letGo (wpAny_pure ?_));refine wpAny_pure ?_;refine wpAny_bind (wpAny_seqItems gto4 rfl ?_);have hT:h4'.objs.size=s.heap.objs.size:=by rw [z4,sb3.1,z2,sb1.1,sb0.1]
 refine wpAny_bind (wpAny_newTuple ?_ (show 2<=sizeLine by decide));dsimp only;rw [hT];have zi:z≠s.heap.objs.size:=fun e=>by have:=Heap.lt_size gz; rw [e] at this; exact Nat.lt_irrefl _ this
 have gT:(h4'.push { cls:=Value.type "tuple",data:=Data.seq #[x,y] }).get? s.heap.objs.size=some { cls:=Value.type "tuple",data:=Data.seq #[x,y] }:=by rw [<- hT]; exact Heap.get?_push_size _ rfl
 have k5:∀b o,h4'.get? b=some o->(h4'.push { cls:=Value.type "tuple",data:=Data.seq #[x,y] }).get? b=some o:=fun b o e=>Heap.get?_push_of_some _ e;show wpAny _ _ (do Builtin.SmallTypes.ownedTupleHandOut (Value.ref z) (Value.ref s.heap.objs.size); ret _) _ _ { s with heap:=h4'.push { cls:=Value.type "tuple",data:=Data.seq #[x,y] } }
 generalize h4'.push { cls:=Value.type "tuple",data:=Data.seq #[x,y] }=h5' at gT k5 ⊢;have gz4:h4'.get? z=some { cls:=Value.type "zip",data:=Data.fields #[Value.ellipsis,Value.bool false,Value.bool false,Value.ref TI,Value.ref TO] } :=
  (k4 _ az2).trans ((k3 _ az4).trans ((k2 _ az2).trans ((k1 _ az3).trans (gz0.trans rfl))))
 have gz5:=k5 _ _ gz4;have gti4:h4'.get? TI=some { cls:=Value.type "tuple",data:=Data.seq #[.ref i1,.ref i2] }:=(k4 _ ai1).trans ((k3 _ ai3).trans ((k2 _ ai1).trans ((k1 _ ai2).trans ((k0 _ (Ne.symm az1)).trans gti))));obtain ⟨oj1,gj1,rj1⟩:=ji1;obtain ⟨oj2,gj2,rj2⟩:=ji2;have gj1':h4'.get? i1=some oj1:=(k4 _ (Ne.symm ao1)).trans ((k3 _ a12).trans ((k2 _ (Ne.symm ao1)).trans gj1));have gj2':h4'.get? i2=some oj2:=(k4 _ (Ne.symm ao2)).trans gj2;refine wpAny_bind (m:=Builtin.SmallTypes.ownedTupleHandOut _ _) ?_;unfold Builtin.SmallTypes.ownedTupleHandOut;refine wpAny_bind (wpAny_setField gz5 rfl (show 0 < 5 by decide) ?_);have gz6:(h5'.update z (Obj.mapFields fun v=>v.setIfInBounds 0 (rawInt (s.heap.objs.size:Nat)))).get? z=some { cls:=Value.type "zip",data:=Data.fields #[rawInt (s.heap.objs.size:Nat),Value.bool false,Value.bool false,Value.ref TI,Value.ref TO] }:=(Heap.get?_update_self _ gz5 rfl).trans rfl;have k6:∀b,b≠z->(h5'.update z (Obj.mapFields fun v=>v.setIfInBounds 0 (rawInt (s.heap.objs.size:Nat)))).get? b=h5'.get? b:=(Heap.SameBut.update _ _ _).2;dsimp only;generalize h5'.update z (Obj.mapFields fun v=>v.setIfInBounds 0 (rawInt (s.heap.objs.size:Nat)))=h6' at gz6 k6 ⊢;refine wpAny_setField gz6 rfl (show 1 < 5 by decide) ?_;have gz7:(h6'.update z (Obj.mapFields fun v=>v.setIfInBounds 1 (Value.bool false))).get? z=some { cls:=Value.type "zip",data:=Data.fields #[rawInt (s.heap.objs.size:Nat),Value.bool false,Value.bool false,Value.ref TI,Value.ref TO] }:=(Heap.get?_update_self _ gz6 rfl).trans rfl;have k7:∀b,b≠z->(h6'.update z (Obj.mapFields fun v=>v.setIfInBounds 1 (Value.bool false))).get? b=h6'.get? b:=(Heap.SameBut.update _ _ _).2;dsimp only;generalize h6'.update z (Obj.mapFields fun v=>v.setIfInBounds 1 (Value.bool false))=h7' at gz7 k7 ⊢;refine wpAny_pure (wpAny_pure ?_);have kk:∀b o,b≠z->h4'.get? b=some o->h7'.get? b=some o:=fun b o n e=>(k7 _ n).trans ((k6 _ n).trans (k5 _ _ e));refine hQ h7' ⟨gz7,kk _ _ (Ne.symm az1) gti4,⟨_,_,kk _ _ (Ne.symm az2) gto4⟩,⟨_,kk _ _ (Ne.symm az3) gj1',rj1⟩,⟨_,kk _ _ (Ne.symm az4) gj2',rj2⟩⟩ ((k7 _ (Ne.symm zi)).trans ((k6 _ (Ne.symm zi)).trans gT)) fun b o n e=>?_;simp only [mem_cons,not_mem_nil,or_false,not_or] at n;obtain ⟨p1,p2,p3,p4,p5⟩:=n;exact kk b o p1 ((k4 _ p3).trans ((k3 _ p5).trans ((k2 _ p3).trans ((k1 _ p4).trans ((k0 _ p1).trans e)))))
end
theorem Qv:isSubtype (.type "StopIteration") (.type "StopIteration")=pure true:=by rw [isSubtype_type]; kernel_rfl
section
variable {prog:Program} {w:World} {A:Around} {E:Value->Shared->Prop} {s:Shared}
theorem JL {z:Addr} {vs:Array Value} {h':Heap} {e:Addr} {Q:Option Value->Shared->Prop} (hz:h'.get? z=some { cls:=Value.type "zip",data:=Data.fields vs }) (hv:0 < vs.size) (he:∃o,h'.get? e=some o/\o.cls=.type "StopIteration")
  (hQ:Q none { s with heap:=h'.update z (Obj.mapFields fun v=>v.setIfInBounds 0 Value.none) }) :
  wpAny (model prog w) A.in1 (setField (Value.ref z) 0 Value.none) (fun _ s''=>wpAny (model prog w) A (do
   let b <- isInstance (.ref e) (Value.type "StopIteration")
   if b=true then pure none else throw (.ref e)) Q E s'') (fun e s''=>wpAny (model prog w) A (do
   let b <- isInstance e (Value.type "StopIteration")
   if b=true then pure none else throw e) Q E s'') { s with heap:=h' }:=by
 refine wpAny_setField hz rfl hv ?_;obtain ⟨o,g,c⟩:=he;have n:e≠z:=fun q=>by
  rw [q,hz] at g;have g':=Option.some.inj g;rw [<- g'] at c;injection c with c'
  exact absurd c' (by decide)
 refine wpAny_bind (wpAny_isInstance (b:=true) (T:="StopIteration") ⟨o,(by show (h'.update z _).get? e=_; rw [Heap.get?_update_other _ _ (Ne.symm n)]; exact g),c⟩ Qv (wpAny_pure hQ))
theorem Qw {z TI TO i1 i2 t1 t2:Addr} {i:Nat} {xs ys:Array Value} {Q:Option Value->Shared->Prop} (hh:A.handled=none) (ap:List.Nodup [z,TI,TO,i1,i2]) (n1:t1∉[z,TI,TO,i1,i2]) (n2:t2∉[z,TI,TO,i1,i2])
  (Z:ZipT s.heap z TI TO i1 i2 t1 t2 .none i) (h1:s.heap.IsTuple t1 xs) (h2:s.heap.IsTuple t2 ys) (hx:xs[i]? = none\/ys[i]? = none)
  (hQ:∀h':Heap,(∀b o,b∉[z,TI,TO,i1,i2]->s.heap.get? b=some o->h'.get? b=some o)->Q none { s with heap:=h' }) :
  wpAny (model prog w) A (pyNext (.ref z)) Q E s:=by
 obtain ⟨gz,gti,⟨a,b,gto⟩,j1,j2⟩:=Z;have tz:s.TypeIs (.ref z) "zip":=⟨_,gz,rfl⟩;unfold pyNext;refine wpAny_bind (wpAny_attempt ?_);refine wpAny_callSpecial?_slot tz F.slot_zip_next ?_;refine wpAny_call (codeAny_call_builtin F.slot_zip_next.plain F.entry_zip_next (F.slot_zip_next.check _ _ _ _ _ _ _ _ tz (F.args_zip_next_1 _) ?_));unfold Builtin.«zip.__next__»;refine wpAny_bind (m:=slotArgs _ _ _) (wpAny_pure ?_);refine wpAny_bind (m:=field _ _) (wpAny_field gz rfl rfl ?_);refine wpAny_bind (m:=field _ _) (wpAny_field gz rfl rfl ?_);refine wpAny_bind (m:=seqItems? _) (wpAny_seqItems gti rfl ?_);dsimp only;refine wpAny_bind (m:=Builtin.SmallTypes.ownedTupleIsFree _) ?_;unfold Builtin.SmallTypes.ownedTupleIsFree;refine wpAny_bind (m:=field _ _) (wpAny_field gz rfl rfl ?_);refine wpAny_pure ?_;rw [if_pos rfl];refine wpAny_bind (wpAny_rule (wpAny_bind (m:=field _ _) (wpAny_field gz rfl rfl ?_)))
 try dsimp only
 refine wpAny_bind (wpAny_setField gz rfl (show 0 < 5 by decide) ?_);have hst:(#[Value.none,Value.bool false,Value.bool false,Value.ref TI,Value.ref TO][2] == Value.bool true)=false:=rfl;have dz0:=Obj.data_mapFields (o:={ cls:=Value.type "zip",data:=Data.fields #[Value.none,Value.bool false,Value.bool false,Value.ref TI,Value.ref TO] }) rfl (fun v=>v.setIfInBounds 0 Value.ellipsis);have gz0:=Heap.get?_update_self (Obj.mapFields fun v=>v.setIfInBounds 0 Value.ellipsis) gz (Obj.isFreed_of_fields dz0);have sb0:=Heap.SameBut.update s.heap z (Obj.mapFields fun v=>v.setIfInBounds 0 Value.ellipsis);generalize s.heap.update z (Obj.mapFields fun v=>v.setIfInBounds 0 Value.ellipsis)=h0 at gz0 sb0 ⊢;simp only [nodup_cons,mem_cons,not_mem_nil,or_false,not_or,nodup_nil,and_true,not_false_eq_true] at ap n1 n2;obtain ⟨⟨az1,az2,az3,az4⟩,⟨ai1,ai2,ai3⟩,⟨ao1,ao2⟩,a12⟩:=ap;obtain ⟨m1,m2,m3,m4,m5⟩:=n1;obtain ⟨q1,q2,q3,q4,q5⟩:=n2;have k0:∀b,b≠z->h0.get? b=s.heap.get? b:=sb0.2;have mvT:∀{h h':Heap} {c t:Addr} {xs:Array Value},(∀b,b≠c->h'.get? b=h.get? b)->t≠c->h.IsTuple t xs->h'.IsTuple t xs:=fun k n ⟨o,g,r⟩=>⟨o,(k _ n).trans g,r⟩;have mvI:∀{h h':Heap} {c t j:Addr} {n:Nat},(∀b,b≠c->h'.get? b=h.get? b)->j≠c->h.IsTupleIter j t n->h'.IsTupleIter j t n:=fun k n ⟨o,g,r⟩=>⟨o,(k _ n).trans g,r⟩;simp only [show [Value.ref i1,Value.ref i2].zipIdx=[(Value.ref i1,0),(Value.ref i2,1)] from rfl,forIn_cons,hst]
 have gz0':h0.get? z=some { cls:=Value.type "zip",data:=Data.fields #[Value.ellipsis,Value.bool false,Value.bool false,Value.ref TI,Value.ref TO] }:=gz0.trans rfl;refine wpAny_bind (wpAny_bind ?_);refine wpAny_bind (wpAny_onRaise ?_)
 cases hx1:xs[i]? with
 | none =>
  refine wpAny_bind (m:=Builtin.SmallTypes.nextOf (.ref i1)) (JK hh (mvI k0 (Ne.symm az3) j1) (mvT k0 m1 h1) hx1 fun h1' e xb he=>?_);have gz1:h1'.get? z=_:=xb z _ az3 gz0';refine JL gz1 (show 0 < 5 by decide) he (hQ _ fun b o n ee=>?_);simp only [mem_cons,not_mem_nil,or_false,not_or] at n;obtain ⟨p1,p2,p3,p4,p5⟩:=n;rw [Heap.get?_update_other _ _ (Ne.symm p1)];exact xb b o p4 ((k0 _ p1).trans ee)
 | some x =>
 have hy:ys[i]? = none:=by
  rcases hx with q | q
  ·rw [hx1] at q; cases q
  ·exact q
 refine wpAny_bind (m:=Builtin.SmallTypes.nextOf (.ref i1)) (F_ (mvI k0 (Ne.symm az3) j1) (mvT k0 m1 h1) hx1 fun h1' ji1 sb1=>?_);have k1:∀b,b≠i1->h1'.get? b=h0.get? b:=sb1.2;refine wpAny_pure ?_;have gto1:h1'.get? TO=some { cls:=Value.type "tuple",data:=Data.seq #[a,b] }:=(k1 _ ao1).trans ((k0 _ (Ne.symm az2)).trans gto);refine wpAny_bind (wpAny_seqItems gto1 rfl ?_);refine wpAny_bind (wpAny_updateSeq gto1 rfl ?_ (show 2<=sizeLine by decide) (show 2<=sizeLine + 1 by decide));have gto2:(h1'.update TO (Obj.mapSeq fun v=>v.setIfInBounds 0 x)).get? TO=some { cls:=Value.type "tuple",data:=Data.seq #[x,b] }:=(Heap.get?_update_self _ gto1 rfl).trans rfl;have k2:∀b,b≠TO->(h1'.update TO (Obj.mapSeq fun v=>v.setIfInBounds 0 x)).get? b=h1'.get? b:=(Heap.SameBut.update _ _ _).2;have z2:(h1'.update TO (Obj.mapSeq fun v=>v.setIfInBounds 0 x)).objs.size=h1'.objs.size:=(Heap.SameBut.update _ _ _).1;dsimp only;generalize h1'.update TO (Obj.mapSeq fun v=>v.setIfInBounds 0 x)=h2' at gto2 k2 z2 ⊢;refine wpAny_bind (wpAny_letGo (wpAny_pure ?_));refine wpAny_bind (wpAny_bind (wpAny_onRaise ?_));refine wpAny_bind (m:=Builtin.SmallTypes.nextOf (.ref i2)) (JK hh (mvI k2 (Ne.symm ao2) (mvI k1 (Ne.symm a12) (mvI k0 (Ne.symm az4) j2))) (mvT k2 q3 (mvT k1 q4 (mvT k0 q1 h2))) hy fun h3' e xb he=>?_);have gz3:h3'.get? z=_:=xb z _ az4 ((k2 _ az2).trans ((k1 _ az3).trans gz0'));refine JL gz3 (show 0 < 5 by decide) he (hQ _ fun b o n ee=>?_);simp only [mem_cons,not_mem_nil,or_false,not_or] at n;obtain ⟨p1,p2,p3,p4,p5⟩:=n;rw [Heap.get?_update_other _ _ (Ne.symm p1)];exact xb b o p5 ((k2 _ p3).trans ((k1 _ p4).trans ((k0 _ p1).trans ee)))
end
theorem hC' (t1 t2:Addr) (xs ys:Array Value):Meets (Builtin.«zip.__new__» ⟨[.type "zip",.ref t1,.ref t2],[]⟩) (fun _ R s=>s.heap.IsTuple t1 xs/\s.heap.IsTuple t2 ys /\
  ∀h':Heap,ZipT h' (s.heap.objs.size + 4) (s.heap.objs.size + 2) (s.heap.objs.size + 3) s.heap.objs.size (s.heap.objs.size + 1) t1 t2 .none 0->(∀b o,s.heap.get? b=some o->h'.get? b=some o)->h'.objs.size=s.heap.objs.size + 5->R (.ok (.ret (.ref (s.heap.objs.size + 4)))) { s with heap:=h' }):=by
 intro prog w A R s ⟨h1,h2,hR⟩;unfold Builtin.«zip.__new__»;refine wpAny_bind (m:=Builtin.SmallTypes.newClass _ _) ?_;unfold Builtin.SmallTypes.newClass;refine wpAny_bind (m:=isType _) (wpAny_pure ?_);show wpAny _ _ (do let b <- isSubtype (Value.type "zip") (Value.type "zip"); _) _ _ _
 rw [sub_zip];refine wpAny_pure ?_;show wpAny _ _ (do let its <- Builtin.SmallTypes.iterAll [.ref t1,.ref t2]; _) _ _ _
 refine wpAny_bind ?_;unfold Builtin.SmallTypes.iterAll;simp only [forIn_cons];refine wpAny_bind (wpAny_bind (wpAny_bind (wpAny_holding (wpAny_pyIter_tuple h1 (wpAny_pure ?_)))));have h2':(s.heap.push { cls:=Value.type "tuple_iterator",data:=Data.fields #[Value.ref t1,Value.int 0 0] }).IsTuple t2 ys:=by
  obtain ⟨o,g,r⟩:=h2;exact ⟨o,Heap.get?_push_of_some _ g,r⟩
 refine wpAny_bind (wpAny_bind (wpAny_holding (wpAny_pyIter_tuple h2' (wpAny_pure ?_))));refine wpAny_pure (wpAny_pure ?_);refine wpAny_bind (wpAny_newTuple ?_ (show 2<=sizeLine by decide));refine wpAny_bind (wpAny_newTuple ?_ (show 2<=sizeLine by decide));refine wpAny_bind (m:=Builtin.SmallTypes.newRecord _ _) ?_;unfold Builtin.SmallTypes.newRecord;refine wpAny_newObj_type (wpAny_pure ?_) (show 5<=sizeLine + 2 by decide);dsimp only
 let S:=s.heap.objs.size
 let A1:=s.heap.push { cls:=Value.type "tuple_iterator",data:=Data.fields #[Value.ref t1,Value.int 0 0] }
 let A2:=A1.push { cls:=Value.type "tuple_iterator",data:=Data.fields #[Value.ref t2,Value.int 0 0] }
 let A3:=A2.push { cls:=Value.type "tuple",data:=Data.seq #[Value.ref S,Value.ref A1.objs.size] }
 let A4:=A3.push { cls:=Value.type "tuple",data:=Data.seq #[Value.none,Value.none] }
 let A5:=A4.push { cls:=Value.type "zip",data:=Data.fields #[Value.none,Value.bool false,Value.bool false,Value.ref A2.objs.size,Value.ref A3.objs.size] }
 have e1:A1.objs.size=S + 1:=Heap.size_push _ _;have e2:A2.objs.size=S + 2:=(Heap.size_push _ _).trans (by rw [e1]);have e3:A3.objs.size=S + 3:=(Heap.size_push _ _).trans (by rw [e2]);have e4:A4.objs.size=S + 4:=(Heap.size_push _ _).trans (by rw [e3]);have e5:A5.objs.size=S + 5:=(Heap.size_push _ _).trans (by rw [e4]);have p1:A1.get? S=some { cls:=Value.type "tuple_iterator",data:=Data.fields #[Value.ref t1,Value.int 0 0] }:=Heap.get?_push_size _ rfl;have p2:A2.get? (S + 1)=some { cls:=Value.type "tuple_iterator",data:=Data.fields #[Value.ref t2,Value.int 0 0] }:=by rw [<- e1]; exact Heap.get?_push_size _ rfl
 have p3:A3.get? (S + 2)=some { cls:=Value.type "tuple",data:=Data.seq #[Value.ref S,Value.ref A1.objs.size] }:=by rw [<- e2]; exact Heap.get?_push_size _ rfl
 have p4:A4.get? (S + 3)=some { cls:=Value.type "tuple",data:=Data.seq #[Value.none,Value.none] }:=by rw [<- e3]; exact Heap.get?_push_size _ rfl
 have p5:A5.get? (S + 4)=some { cls:=Value.type "zip",data:=Data.fields #[Value.none,Value.bool false,Value.bool false,Value.ref A2.objs.size,Value.ref A3.objs.size] }:=by rw [<- e4]; exact Heap.get?_push_size _ rfl
 have u2:∀b o,A1.get? b=some o->A2.get? b=some o:=fun b o e=>Heap.get?_push_of_some _ e;have u3:∀b o,A2.get? b=some o->A3.get? b=some o:=fun b o e=>Heap.get?_push_of_some _ e;have u4:∀b o,A3.get? b=some o->A4.get? b=some o:=fun b o e=>Heap.get?_push_of_some _ e;have u5:∀b o,A4.get? b=some o->A5.get? b=some o:=fun b o e=>Heap.get?_push_of_some _ e;have fin:=hR A5 ⟨by rw [e2,e3] at p5; exact p5,by rw [e1] at p3; exact u5 _ _ (u4 _ _ p3),⟨_,_,u5 _ _ p4⟩,⟨_,u5 _ _ (u4 _ _ (u3 _ _ (u2 _ _ p1))),rfl,rfl⟩,⟨_,u5 _ _ (u4 _ _ (u3 _ _ p2)),rfl,rfl⟩⟩
  (fun b o e=>u5 _ _ (u4 _ _ (u3 _ _ (u2 _ _ (Heap.get?_push_of_some _ e))))) e5
 have e4':s.heap.objs.size + 4=A4.objs.size:=e4.symm;rw [e4'] at fin;exact fin
theorem Qx {prog:Program} {w:World} {A:Around} {E:Value->Shared->Prop} {s:Shared} {t1 t2:Addr} {xs ys:Array Value} {Q:Value->Shared->Prop} (h1:s.heap.IsTuple t1 xs) (h2:s.heap.IsTuple t2 ys)
  (hQ:∀h':Heap,ZipT h' (s.heap.objs.size + 4) (s.heap.objs.size + 2) (s.heap.objs.size + 3) s.heap.objs.size (s.heap.objs.size + 1) t1 t2 .none 0->(∀b o,s.heap.get? b=some o->h'.get? b=some o)->h'.objs.size=s.heap.objs.size + 5->Q (.ref (s.heap.objs.size + 4)) { s with heap:=h' }) :
  wpAny (model prog w) A (call (.type "zip") [.ref t1,.ref t2]) Q E s :=
 callType_new F.called_zip (by decide) (F.typeCall_zip_2 _ _) (F.newCall_zip_2 _ _) (fun obj=>F.args_object_init_3 _ _ _) F.entry_zip_new (hC' t1 t2 xs ys) ⟨h1,h2,fun h' Z k e=>⟨⟨_,Z.zip,rfl⟩,hQ h' Z k e⟩⟩
theorem _root_.L2.Inv.butL {X:Cx} {pins:List (Addr×Obj)} {σ:St} {H:Hp} {s:Shared} {fp:List Addr} {h':Heap} {t':Nat} (J:Inv X pins σ H s) (hf:∀b∈fp,gQ X pins H b) (hk:∀b o,b∉fp->s.heap.get? b=some o->h'.get? b=some o) :
  Inv X pins σ H { s with heap:=h',toks:=t' }:=by
 have nC:∀b,H b≠none->b∉fp:=fun b hb z=>hb (hf b z).1;refine J.call' (ch:=fp) (s':={ s with heap:=h',toks:=t' }) rfl
   ⟨fun b o e n hb hx=>hk b o hx e,fun b o e n hb hx=>⟨o.slots,hk b o hx e⟩,fun b o e n _=>n,fun b o e hx=>⟨o,hk b o hx e⟩,fun b xs e=>e,fun b o u e=>e,fun b ps e=>⟨#[],by simpa using e⟩⟩
   (fun b u q=>(J.hok b u q).stay (fun c v hc e=>hk c v (by
    rcases hc with rfl | hc
    ·exact nC c (by rw [q]; intro z; cases z)
    ·exact nC c (by rw [hc]; intro z; cases z)) e) (fun _ z=>z) fun _ _ z=>z) J.bare
   fun b hb=>by
    obtain ⟨f0,f1,f2,f3,f4,f5⟩:=hf b hb;exact ⟨f3,f1,f4,f5⟩
noncomputable def JM (K:Frag) (t1 t2:Addr):It :=
  ⟨fun i H=>∃xs ys v u,SqT K H t1 xs/\SqT K H t2 ys/\xs[i]? = some v/\ys[i]? = some u,
   fun i H x H'=>∃T,H T=none/\x=.ref T/\∃v u,(∀xs,SqT K H t1 xs->xs[i]? = some v)/\(∀ys,SqT K H t2 ys->ys[i]? = some u)/\H'=upd H T (.tup [v,u]),
   fun i H=>∃xs ys,SqT K H t1 xs/\SqT K H t2 ys/\(xs.length<=i\/ys.length<=i)⟩
theorem Qy {P:Program} {w:World} {K:Frag} {elts:List Expr} {x1:Nat} {pos:Pos} {z TI TO i1 i2 t1 t2:Addr} (ap:List.Nodup [z,TI,TO,i1,i2]) (n1:t1∉[z,TI,TO,i1,i2]) (n2:t2∉[z,TI,TO,i1,i2]) :
  Turn P w K (.Tuple elts x1 pos) (JM K t1 t2) [z,TI,TO,i1,i2] z (fun i h=>ZipT h z TI TO i1 i2 t1 t2 .none i) where
 mem:=by simp
 obj:=fun i h st b hb=>by
  obtain ⟨gz,gti,⟨a,c,gto⟩,⟨o1,g1,_,d1⟩,⟨o2,g2,_,d2⟩⟩:=st;simp only [mem_cons,not_mem_nil,or_false] at hb;rcases hb with rfl | rfl | rfl | rfl | rfl
  ·exact ⟨_,gz,fun v q=>by cases q⟩
  ·exact ⟨_,gti,fun v q=>by cases q⟩
  ·exact ⟨_,gto,fun v q=>by cases q⟩
  ·exact ⟨_,g1,fun v q=>by rw [d1] at q; cases q⟩
  ·exact ⟨_,g2,fun v q=>by rw [d2] at q; cases q⟩
 keep:=fun i h h' st k=>by
  obtain ⟨gz,gti,⟨a,c,gto⟩,⟨o1,g1,r1⟩,⟨o2,g2,r2⟩⟩:=st;exact ⟨k z (by simp) _ gz,k TI (by simp) _ gti,⟨a,c,k TO (by simp) _ gto⟩,⟨o1,k i1 (by simp) _ g1,r1⟩,⟨o2,k i2 (by simp) _ g2,r2⟩⟩
 item:=by
  intro X hP hw hK hc i pins s σ H E I hf st hg;subst hP hw hK;obtain ⟨xs,ys,v,u,hq1,hq2,hx,hy⟩:=hg;obtain ⟨its1,rv1,p1,hz1⟩:=I.tuple hq1;obtain ⟨its2,rv2,p2,hz2⟩:=I.tuple hq2;obtain ⟨u1,hu1,ru1⟩:=rv1.get hx;obtain ⟨u2,hu2,ru2⟩:=rv2.get hy;refine Qu ap n1 n2 st (show s.heap.IsTuple t1 its1.toArray from p1) (show s.heap.IsTuple t2 its2.toArray from p2) (x:=u1) (y:=u2) (by simpa using hu1) (by simpa using hu2) fun h' Z gT kk=>?_
  refine ⟨_,rfl,wpAny_letOwnedTupleGo_zip (T:=s.heap.objs.size) Z.zip fun h'' gz'' sb=>?_⟩;have fT:gQ X pins H s.heap.objs.size:=I.fpOk (Nat.le_refl _) (I.hok.fresh (Nat.le_refl _));have zs:s.heap.objs.size≠z:=fun e=>by
   have:=Heap.lt_size st.zip; rw [<- e] at this; exact Nat.lt_irrefl _ this
  have kk2:∀b o,b∉[z,TI,TO,i1,i2]->s.heap.get? b=some o->h''.get? b=some o:=fun b o n e=>(sb.2 b (fun q=>n (by rw [q]; simp))).trans (kk b o n e);have I1:Inv X pins σ H { s with heap:=h'' }:=I.butL (t':=s.toks) hf kk2
  have gT2:h''.get? s.heap.objs.size=some { cls:=Value.type "tuple",data:=Data.seq #[u1,u2] }:=(sb.2 _ zs).trans gT;obtain ⟨f0,f1,f2,f3,f4,f5⟩:=fT;have I2:Inv X pins σ (upd H s.heap.objs.size (.tup [v,u])) { s with heap:=h'' }:=I1.track f0 (fun ob e _=>absurd (Nat.lt_of_lt_of_le (Heap.lt_size e) I.sz) (Nat.lt_irrefl _)) f1 f4 f5
   ⟨show 2<=sizeLine by decide,[u1,u2],.cons ru1 (.cons ru2 .nil),⟨_,gT2,rfl,_,rfl⟩⟩
  have nz:∀b,b≠z->h''.get? b=h'.get? b:=sb.2;refine ⟨.ref s.heap.objs.size,_,I2,rfl,⟨_,f0,rfl,v,u,fun xs' h=>?_,fun ys' h=>?_,rfl⟩,?_,fun b hb=>?_⟩
  ·rw [I.tuple_inj h hq1]; exact hx
  ·rw [I.tuple_inj h hq2]; exact hy
  ·have ap':=ap;simp only [nodup_cons,mem_cons,not_mem_nil,or_false,not_or,nodup_nil,and_true,not_false_eq_true] at ap';obtain ⟨⟨az1,az2,az3,az4⟩,_⟩:=ap';obtain ⟨_,gti,⟨a,c,gto⟩,⟨o1,g1,r1⟩,⟨o2,g2,r2⟩⟩:=Z;exact ⟨gz'',(nz _ (Ne.symm az1)).trans gti,⟨a,c,(nz _ (Ne.symm az2)).trans gto⟩,⟨o1,(nz _ (Ne.symm az3)).trans g1,r1⟩,⟨o2,(nz _ (Ne.symm az4)).trans g2,r2⟩⟩
  ·have hb2:b≠s.heap.objs.size:=fun e=>by
    obtain ⟨o,g,_⟩:=(show ∃o,s.heap.get? b=some o/\True from by
     obtain ⟨gz,gti,⟨a,c,gto⟩,⟨o1,g1,_⟩,⟨o2,g2,_⟩⟩:=st;simp only [mem_cons,not_mem_nil,or_false] at hb;rcases hb with rfl | rfl | rfl | rfl | rfl
     ·exact ⟨_,gz,trivial⟩
     ·exact ⟨_,gti,trivial⟩
     ·exact ⟨_,gto,trivial⟩
     ·exact ⟨_,g1,trivial⟩
     ·exact ⟨_,g2,trivial⟩)
    have:=Heap.lt_size g;rw [e] at this; exact Nat.lt_irrefl _ this
   rw [dU hb2]; exact (hf b hb).1
 done:=by
  intro X hP hw hK hc i pins s σ H E I hf st hg;subst hP hw hK;obtain ⟨xs,ys,hq1,hq2,hx⟩:=hg;obtain ⟨its1,rv1,p1,hz1⟩:=I.tuple hq1;obtain ⟨its2,rv2,p2,hz2⟩:=I.tuple hq2;have l1:=rv1.length;have l2:=rv2.length;refine Qw (I.ok.hd hc) ap n1 n2 st (show s.heap.IsTuple t1 its1.toArray from p1) (show s.heap.IsTuple t2 its2.toArray from p2) ?_ fun h' kk=>⟨rfl,I.butL (t':=s.toks) hf kk⟩
  rcases hx with q | q
  ·exact .inl (by simp; omega)
  ·exact .inr (by simp; omega)
 self:=fun _ _ _ _ _ st h=>wpAny_pyIter_zip st.zip h
noncomputable def nG (xs ys:List D):List D:=List.zipWith (fun x y=>D.tup [x,y]) xs ys
noncomputable def nH:List D->Res (List D)
 | [.tup xs,.tup ys]=>.ok (nG xs ys)
 | _=>.stuck
theorem hD' {K:Frag} {H:Hp} {t1 t2:Addr} {xs ys:List V} {ds es:List D} (h1:SqT K H t1 xs) (h2:SqT K H t2 ys) (r1:Reps K H ds xs) (r2:Reps K H es ys):du K (JM K t1 t2) H (nG ds es):=by
 intro H' e;have q1:=Dj e h1;have q2:=Dj e h2;have p1:=r1.mono e;have p2:=r2.mono e;refine ⟨fun i d hd=>?_,xs,ys,q1,q2,?_⟩
 ·unfold nG at hd;rw [List.getElem?_zipWith] at hd
  cases z1:ds[i]? with
  | none=>rw [z1] at hd; simp at hd
  | some x =>
   cases z2:es[i]? with
   | none=>rw [z1,z2] at hd; simp at hd
   | some y =>
    rw [z1,z2] at hd;simp only [Option.some.injEq] at hd;subst hd;obtain ⟨v,e1,s1⟩:=p1.get z1;obtain ⟨u,e2,s2⟩:=p2.get z2;refine ⟨⟨xs,ys,v,u,q1,q2,e1,e2⟩,fun a H'' yl=>?_⟩;obtain ⟨T,hT,rfl,v',u',k1,k2,rfl⟩:=yl;have w1:=k1 xs q1;have w2:=k2 ys q2;rw [e1] at w1; rw [e2] at w2
    cases w1; cases w2
    have sm:=i_ hT (.tup [v,u]);exact ⟨sm,oZ (SqT.of jB) (.cons (s1.mono sm) (.cons (s2.mono sm) .nil))⟩
 ·unfold nG;rw [length_zipWith,r1.length,r2.length];omega
theorem Qz (S:Nat):List.Nodup [S + 4,S + 2,S + 3,S,S + 1]:=by
 simp only [nodup_cons,mem_cons,not_mem_nil,or_false,not_or,nodup_nil,and_true,not_false_eq_true];omega
theorem JN {S t:Nat} (h:t < S):t∉[S + 4,S + 2,S + 3,S,S + 1]:=by
 simp only [mem_cons,not_mem_nil,or_false,not_or];omega
theorem JP {S b:Nat} (h:b∈[S + 4,S + 2,S + 3,S,S + 1]):S<=b:=by
 simp only [mem_cons,not_mem_nil,or_false] at h;omega
theorem Ga {X:Cx} {a b:Expr} {fa:DS->Res (List D)} {p pos tp:Pos} {elts:List Expr} {x1:Nat} (hg:Gl X "zip") (hm:X.mg "zip" = none) (ha:PAD X [a,b] fa) (hs:starEach [a,b] X.env=[(false,eval a X.env),(false,eval b X.env)]:=by rfl) (hs2:starEach [b] X.env=[(false,eval b X.env)]:=by rfl) :
  PID X (.Tuple elts x1 tp) (.Call (.Name "zip" p) [a,b] [] pos) (fun δ=>(fa δ).bind nH):=by
 intro pins s σ G H δ I R hn
 try dsimp only at hn ⊢
 refine Call_ (vQ I hg hm boot_zip (PyProof.Rows.callWith_type1 (ha.use I R (gb hn) (fun ds us s1 vs H1 q I1 r1 e1 b1 p1=>?_) fun e s1 q=>q.same fun x z=>gR z) (by rw [hs,hs2]) (by rw [hs2]; rfl)))
 have h2:=ie hn q;unfold nH at h2
 split at h2
 ·rename_i ds1 ds2;obtain ⟨v,ws,rfl,w1,w2⟩:=p1.cons_of;obtain ⟨v',ws,rfl,w3,w4⟩:=w2.cons_of
  cases w4.nil_of
  obtain ⟨t1,xs,rfl,s1',t1'⟩:=eE w1;obtain ⟨t2,ys,rfl,s2',t2'⟩:=eE w3
  cases r1 with
  | cons ra rr =>
   cases rr with
   | cons rb rr =>
    cases rr
    cases ra
    cases rb
    obtain ⟨its1,rv1,pp1,hz1⟩:=I1.tuple s1';obtain ⟨its2,rv2,pp2,hz2⟩:=I1.tuple s2';refine Qx (show s1.heap.IsTuple t1 its1.toArray from pp1) (show s1.heap.IsTuple t2 its2.toArray from pp2) fun h' Z kk sz=>?_
    have I2:Inv X pins σ H1 { s1 with heap:=h' }:=I1.kept (t':=s1.toks) kk
    obtain ⟨o1,g1,_⟩:=id pp1;obtain ⟨o2,g2,_⟩:=id pp2;have l1:=Heap.lt_size g1;have l2:=Heap.lt_size g2;refine wpAny_pyIter_zip Z.zip ?_;refine ⟨_,s1.heap.objs.size + 4,[s1.heap.objs.size + 4,s1.heap.objs.size + 2,s1.heap.objs.size + 3,s1.heap.objs.size,s1.heap.objs.size + 1],_,_,H1,by rw [q]; rfl,rfl,I2,Qy ?_ ?_ ?_,Z,fun b hb=>?_,e1,hD' s1' s2' t1' t2'⟩
    ·exact Qz _
    ·exact JN l1
    ·exact JN l2
    ·exact I1.fpOk (JP hb) (I1.hok.fresh (JP hb))
 ·exact (h2 rfl).elim
theorem zJ {m i j:Nat} (h:i < m) (h':j < m):eQ m (bW [i,j]):=by
 intro d δ δ1 e
 cases d with
 | tup ds =>
  match ds,e with
  | [x,y],e =>
   simp only [bW,dO,Option.some.injEq] at e;subst e;exact ⟨by simp,fun k hk=>by rw [List.getElem?_set_ne (by omega),List.getElem?_set_ne (by omega)]⟩
  | [],e=>simp [bW,dO] at e
  | [x],e=>simp [bW,dO] at e
  | _ :: _ :: _ :: _,e=>simp [bW,dO] at e
 | _=>simp [bW] at e
section
variable {X:Cx} {e:Expr} {fe:DS->Res D} {pos:Pos} {op:Operator} {g:D->D->Res D}
end
theorem QB:fillsNumberSlot (.type "tuple") "mul" = pure false:=by first | exact noFill_tuple_mul | (unfold fillsNumberSlot; kernel_rfl)
theorem QC:seqRepeat? (.type "tuple")=pure (some (.builtin "tuple.__mul__")):=by first | exact repeat_tuple | (unfold seqRepeat?; kernel_rfl)
section
variable {prog:Program} {w:World} {A:Around} {E:Value->Shared->Prop} {s:Shared}
theorem QD {t:Addr} {items:Array Value} {k:Int} {tok:Tok} {Q:Value->Shared->Prop} (ht:IsTup s.heap t items) (h:Q .notImplemented s):wpAny (model prog w) A (call (.builtin "int.__rmul__") [.int k tok,.ref t]) Q E s:=by
 obtain ⟨o,g,hc,n,hd⟩:=id ht;refine wpAny_call (codeAny_call_builtin F.slot_int_rmul.plain F.entry_int_rmul (F.slot_int_rmul.check _ _ _ _ _ _ _ _ (typeIs_int s k tok) (F.args_int_rmul_2 _ _) ?_));refine wpAny_bind (m:=slotArgs _ _ _) (wpAny_pure ?_);refine wpAny_bind (m:=Builtin.Int.intOfSelf _) (wpAny_bind (m:=asInt? _) (wpAny_pure (wpAny_pure ?_)));refine wpAny_bind (m:=asInt? _) (wpAny_bind (m:=load _) (wpAny_load g ?_));simp only [hd];refine wpAny_pure ?_;exact wpAny_bind (wpAny_rule (wpAny_pure h))
theorem QF {t:Addr} {items:Array Value} {k:Nat} {tok:Tok} {Q:Value->Shared->Prop} (ht:IsTup s.heap t items) (hne:items.isEmpty=false) (hk:items.size * k<=1000) (h1:k=1->Q (.ref t) s)
  (h2:k≠1->Q (.ref s.heap.objs.size) { s with heap:=s.heap.push { cls:=.type "tuple",data:=.seq (List.replicate k items.toList).flatten.toArray } }):wpAny (model prog w) A (call (.builtin "tuple.__mul__") [.ref t,.int k tok]) Q E s:=by
 refine wpAny_call (codeAny_call_builtin F.slot_tuple_mul.plain F.entry_tuple_mul (F.slot_tuple_mul.check _ _ _ _ _ _ _ _ ht.typeIs (F.args_tuple_mul_2 _ _) ?_));refine wpAny_bind (m:=asIndex _) (wpAny_bind (m:=asInt? _) (wpAny_pure (wpAny_pure ?_)));have p1:1<=items.size:=by
  rcases Nat.eq_zero_or_pos items.size with z | z
  ·rw [Array.isEmpty_eq_false_iff,<- Array.size_pos_iff] at hne; omega
  ·exact z
 have kk:k<=1000:=Nat.le_trans (Nat.le_mul_of_pos_left k p1) hk;have hfit:(decide ((k:Int) < -2 ^ 63) || decide ((k:Int)>=2 ^ 63))=false:=by
  rw [Bool.or_eq_false_iff];exact ⟨decide_eq_false (by omega),decide_eq_false (by omega)⟩
 dsimp only;rw [hfit,if_neg Bool.false_ne_true];refine wpAny_bind (tupleItemsOf_ ht ?_)
 by_cases c:k=1
 ·have hc:(items.isEmpty || ((k:Nat):Int) == 1)=true:=by rw [c]; simp
  rw [if_pos hc];refine wpAny_bind (m:=Builtin.Tuple.tupleIsExact _) (wpAny_bind (wpAny_typeOf ht.typeIs (wpAny_pure ?_)));rw [if_pos (by decide)];exact wpAny_bind (wpAny_rule (wpAny_pure (h1 c)))
 ·have hc:¬((items.isEmpty || ((k:Nat):Int) == 1)=true):=by
   rw [hne]; simp; omega
  rw [if_neg hc];have q:=h2 c
  by_cases z:k=0
  ·have hz:(decide (((k:Nat):Int)<=0) || items.isEmpty)=true:=by rw [z]; simp
   rw [if_pos hz];rw [z] at q;exact wpAny_bind (m:=Builtin.Tuple.tupleExact _) (wpAny_newObj_type (wpAny_pure q) (show 0<=sizeLine from Nat.zero_le _))
  ·have hz:¬((decide (((k:Nat):Int)<=0) || items.isEmpty)=true):=by
    rw [hne]; simp; omega
   rw [if_neg hz];have e0:((items.size:Int) * (k:Int))=((items.size * k:Nat):Int):=by simp
   have hs:(1000:Nat)<=sizeLine:=by decide
   have hm:¬((items.size:Int) * (k:Int) > (2 ^ 63 - 1) / 8):=by
    rw [e0];have:((2:Int) ^ 63 - 1) / 8=1152921504606846975:=by decide
    omega
   rw [if_neg hm];have ht2:¬(Builtin.Tuple.tupleTooMany ((items.size:Int) * (k:Int))=true):=by
    unfold Builtin.Tuple.tupleTooMany;rw [e0]; simp only [decide_eq_true_eq]; omega
   rw [if_neg ht2];have hf:List.foldl (fun x1 x2=>x1 ++ x2) #[] (List.replicate ((k:Nat):Int).toNat items)=(List.replicate k items.toList).flatten.toArray:=by
    have:=foldl_rep items.toList k [];rw [nil_append] at this;rw [Int.toNat_natCast];simpa using this
   rw [hf];exact wpAny_bind (m:=Builtin.Tuple.tupleExact _) (wpAny_newObj_type (wpAny_pure q) (by show _<=sizeLine; rw [size_toArray,len_rep,Array.length_toList,Nat.mul_comm]; omega))
end
noncomputable def wj (K:Frag):R2:=fun x y H Q=>∃a k xs,x=.ref a/\y=.int ((k:Nat):Int)/\SqT K H a xs/\xs≠[]/\xs.length * k<=1000/\(k=1->Q (.ref a) H)/\(k≠1->∀p,H p=none->Q (.ref p) (upd H p (.tup (List.replicate k xs).flatten)))
theorem QG {X:Cx}:OpR X (binaryOp .Mult) (wj X.K):=by
 intro pins s σ H x y v u Q I rx ry h;obtain ⟨a,k,xs,rfl,rfl,hq,hne,hz,q1,q2⟩:=h
 cases rx
 obtain ⟨t,rfl⟩:=ry;obtain ⟨its,r,ht,hzz⟩:=I.tuple hq;have hl:=r.length;refine wpAny_binaryOp_repeat_ref (T:="tuple") (U:="int") (by decide) ht.typeIs (fun s'=>typeIs_int s' k t) QB F.fills_int_mul F.slot_int_rmul QC F.slot_int_index.lookup
  (QD ht ⟨rfl,ht.typeIs,?_⟩)
 refine QF ht ?_ (by rw [size_toArray,<- hl]; exact hz) (fun e=>⟨.ref a,H,I,rfl,q1 e⟩) fun e=>?_
 ·cases its with
  | nil=>exact (hne (eq_nil_of_length_eq_zero hl)).elim
  | cons b l=>simp
 ·have hb:(List.replicate k xs).flatten.length<=sizeLine:=by
   rw [len_rep,Nat.mul_comm]; exact Nat.le_trans hz (by decide)
  exact ⟨.ref s.heap.objs.size,_,I.laid (t':=s.toks) (o:=.tup (List.replicate k xs).flatten) (fun b ob q=>Heap.get?_push_of_some _ q) (Nat.le_refl _) ⟨hb,_,r.rep k,IsTup.new _ _⟩,rfl,q2 e _ (I.hok.fresh (Nat.le_refl _))⟩
theorem Reps.rep {K:Frag} {H:Hp} {ds:List D} {vs:List V} (h:Reps K H ds vs):∀k:Nat,Reps K H (List.replicate k ds).flatten (List.replicate k vs).flatten
 | 0=>Reps.nil
 | k + 1=>by
  rw [replicate_succ,replicate_succ,flatten_cons,flatten_cons];exact h.append (Reps.rep h k)
noncomputable def qF (ds:List D) (k:Int):Res D:=if ds.isEmpty=false/\0<=k/\ds.length * k.toNat<=1000 then .ok (.tup (List.replicate k.toNat ds).flatten) else .stuck
noncomputable def bR:D->D->Res D
 | .tup ds,.int k=>qF ds k
 | a,b=>dj a b
theorem fL (x y:D):aO (bR x y):=by
 unfold bR
 split
 ·unfold qF; exact kE dZ dh
 ·exact nm' _ _
theorem QH {X:Cx} (E:Value->Shared->Prop):OpR (X.wish E) (binaryOp .Mult) (wj X.K):=QG
theorem fM {X:Cx}:OpD X (binaryOp .Mult) bR:=by
 intro E pins s σ H x y v u a b d I r1 r2 p1 p2 e;unfold bR at e
 split at e
 ·rename_i ds k;unfold qF at e
  split at e
  ·rename_i c
   cases e
   obtain ⟨p,us,rfl,s1,t1⟩:=eE p1;have hy:=cT p2;subst hy;have hk:((k.toNat:Nat):Int)=k:=by omega
   refine gP (QH E pins s σ H (.ref p) (.int k) v u (fun z H'=>Same H H'/\Rep X.K H' (.tup (List.replicate k.toNat ds).flatten) z) (I.wish _) r1 r2 ⟨p,k.toNat,us,rfl,by rw [hk],s1,?_,by rw [t1.length]; exact c.2.2,fun e1=>⟨Same.refl H,?_⟩,fun _ z hz=>⟨i_ hz _,oZ (SqT.of jB) ((t1.rep _).mono (i_ hz _))⟩⟩) fun w s2 ⟨z,H1,I1,r3,e1,p3⟩=>⟨_,z,H1,rfl,I1.unwish,r3,e1,p3⟩
   ·intro z; rw [z] at t1; have:=t1.isEmpty; rw [c.1] at this; cases this
   ·rw [e1,replicate_one,flatten_cons,flatten_nil,append_nil]; exact oZ s1 t1
  ·cases e
 ·exact nn' E pins s σ H x y v u a b d I r1 r2 p1 p2 e
noncomputable def intsOf:List D->Option (List Int)
 | []=>some []
 | .int i :: ds=>(intsOf ds).map (i :: ·)
 | _=>none
theorem Dt:∀(ns:List Int),intsOf (ns.map .int)=some ns
 | []=>rfl
 | n :: ns=>by rw [map_cons,intsOf,Dt ns]; rfl
theorem zK:∀{ds:List D} {ns:List Int},intsOf ds=some ns->ds=ns.map .int
 | [],ns,h=>by cases h; rfl
 | d :: ds,ns,h=>by
  cases d <;> first | (simp [intsOf] at h; done) | skip
  rename_i i;simp only [intsOf] at h
  cases q:intsOf ds with
  | none=>rw [q] at h; cases h
  | some ms=>rw [q] at h; cases h; rw [zK q]; rfl
theorem hE' {f:Int->Bool} (ns:List Int):(List.range ns.length).any (fun i=>f (ns.getD i 0))=ns.any f:=by
 rw [Bool.eq_iff_iff];simp only [any_eq_true,mem_range]
 constructor
 ·rintro ⟨i,hi,h⟩
  refine ⟨ns[i],getElem_mem hi,?_⟩;simpa [List.getD,hi] using h
 ·rintro ⟨b,hb,h⟩
  obtain ⟨i,hi,rfl⟩:=mem_iff_getElem.mp hb;exact ⟨i,hi,by simpa [List.getD,hi] using h⟩
noncomputable def nJ:List D->Res D
 | [.tup ds]=>match intsOf ds with | some ns=>.ok (.bl (ns.any (· != 0))) | none=>.stuck
 | x=>qy x
theorem QJ (ds:List D):aO (nJ ds):=by
 unfold nJ
 split
 ·split
  ·exact dZ
  ·exact dh
 ·exact Qg _
theorem yC {K:Frag} {H:Hp} {ns:List Int} {xs:List V} {its:List Value} (r:Reps K H (ns.map .int) xs) (rv:Vals xs its) {i:Nat} {v:Value} (h:its[i]? = some v):∃t,v=.int (ns.getD i 0) t:=by
 have hl:i < xs.length:=by rw [rv.length]; exact (List.getElem?_eq_some_iff.mp h).1
 obtain ⟨d,e1,e2⟩:=r.get' (i:=i) (v:=xs[i]) (by simp [hl]);obtain ⟨u,e4,e5⟩:=rv.get (i:=i) (x:=xs[i]) (by simp [hl]);rw [h] at e4; cases e4;rw [List.getElem?_map] at e1
 cases q:ns[i]? with
 | none=>rw [q] at e1; cases e1
 | some n =>
  rw [q] at e1
  cases e1
  rw [cT e2] at e5;obtain ⟨t,rfl⟩:=e5;exact ⟨t,by rw [getD_eq_getElem?_getD,q]; rfl⟩
theorem QK {X:Cx} (hcalm:X.calm=true):CallD X (.builtin "any") nJ:=by
 intro E pins s σ H xs us ds d I r p e;unfold nJ at e
 split at e
 ·rename_i es
  split at e
  ·rename_i ns hb
   cases e
   obtain ⟨v,vs,rfl,p1,t⟩:=p.cons_of
   cases t.nil_of
   obtain ⟨u,rfl,rx⟩:=vals1 r;obtain ⟨a,ys,rfl,hq,rs⟩:=eE p1
   cases rx
   obtain ⟨its,rv,pl,hz⟩:=I.tuple hq;rw [zK hb] at rs;refine call_any_walk (wpAny_pyIter_tuple (show s.heap.IsTuple a its.toArray from pl) ?_)
   obtain ⟨o,g,oc⟩:=id pl;have hax:a≠s.heap.objs.size:=Nat.ne_of_lt (Heap.lt_size g);have hn:its.toArray.size=ns.length:=by rw [size_toArray,<- rv.length,rs.length,length_map]
   refine ⟨_,_,_,_,_,_,fun i=>(ns.getD i 0) != 0,rfl,Walks.tuple (A:=X.A.in1) (show X.A.in1.handled=none from I.ok.hd hcalm) s.heap.objs.size a hax its.toArray,⟨⟨_,Heap.get?_push_size _ rfl,rfl,rfl⟩,⟨o,Heap.get?_push_of_some _ g,oc⟩⟩,fun i v s' Q E' hP hQ=>?_,fun h' tk hk=>?_⟩
   ·obtain ⟨t,rfl⟩:=yC rs rv (i:=i) (v:=v) (by simpa using hP);exact truthy_int hQ
   ·rw [hn,hE' (f:=fun x=>x != 0)];have k:∀b o,s.heap.get? b=some o->h'.get? b=some o:=fun b o e=>hk b o (by
     intro z;have:b=s.heap.objs.size:=by simpa using z
     exact absurd (Heap.lt_size e) (by rw [this]; exact Nat.lt_irrefl _)) (Heap.get?_push_of_some _ e)
    exact ⟨_,.bl _,H,rfl,I.kept (t':=tk) k,rfl,Same.refl H,vX⟩
  ·cases e
 ·exact Qh hcalm E pins s σ H xs us ds d I r p e
noncomputable def pP:D->List D->Res D
 | .lst ds,[.int x]=>match intsOf ds with
  | some ns=>(match ns.findIdx? (· == x) with | some j=>if j < 1000 then .ok (.int j) else .stuck | none=>.stuck)
  | none=>.stuck
 | _,_=>.stuck
theorem QL (d:D) (ds:List D):aO (pP d ds):=by
 unfold pP
 split
 ·split
  ·split
   ·exact kE dZ dh
   ·exact dh
  ·exact dh
 ·exact dh
theorem nx' {X:Cx}:zr X "list.index" pP:=by
 intro E pins s σ H x xs v us a ds d I r rv pa pd e;unfold pP at e
 split at e
 ·rename_i es x0
  split at e
  ·rename_i ns hb
   split at e
   ·rename_i j hj
    split at e
    ·rename_i hj2
     cases e
     obtain ⟨p,ys,rfl,hq,rs⟩:=fP pa
     cases r
     obtain ⟨v1,vs,rfl,p1,t⟩:=pd.cons_of
     cases t.nil_of
     obtain ⟨u,rfl,rx⟩:=vals1 rv;rw [cT p1] at rx;obtain ⟨tk,rfl⟩:=rx;rw [zK hb] at rs;obtain ⟨its,r',⟨⟨cls,dd,data,sl⟩,n,ho,hc,hdd,hd⟩,hz⟩:=I.list hq;simp only at hc hd;subst hc hd;obtain ⟨hl,hp,hmin⟩:=List.findIdx?_eq_some_iff_getElem.mp hj;have hn:its.length=ns.length:=by rw [<- r'.length,rs.length,length_map]
     have at_:∀(m:Nat) (hm:m < its.toArray.size),∃t,its.toArray[m]=.int (ns.getD m 0) t:=fun m hm=>by
      have hm':m < its.length:=by simpa using hm
      exact yC rs r' (i:=m) (by simp [hm'])
     refine call_meets F.slot_list_index ⟨_,ho,rfl⟩ F.entry_list_index (F.args_list_index_2 _ _) (SeqAt.list_indexAt p its.toArray n dd sl (.int x0 tk) (fun y=>match y with | .int b _=>b == x0 | _=>false) j (by simp; omega) (by omega) ?_ ?_) ⟨ho,?_,?_⟩
     ·obtain ⟨t,e⟩:=at_ j (by simp; omega);rw [e];simpa [List.getD,hl] using hp
     ·intro m hm hmj;obtain ⟨t,e⟩:=at_ m hm;rw [e];have hm':m < ns.length:=by omega
      have:=hmin m hmj;simpa [List.getD,hm'] using this
     ·intro y hy;obtain ⟨m,hm,rfl⟩:=Array.mem_iff_getElem.mp hy;obtain ⟨t,e⟩:=at_ m hm;rw [e];exact SeqAt.EqAt.int_int _ _ _ _
     ·exact ⟨_,.int j,H,rfl,I.tok _,⟨_,rfl⟩,Same.refl H,jc⟩
    ·cases e
   ·cases e
  ·cases e
 ·cases e
noncomputable def qG:List D->Res D
 | [.int i,.int j]=>.ok (.int (if j > i then j else i))
 | _=>.stuck
noncomputable def qH:List D->Res D
 | [.int i,.int j]=>.ok (.int (if j < i then j else i))
 | _=>.stuck
theorem QM (ds:List D):aO (qG ds):=by
 unfold qG; split
 ·exact dZ
 ·exact dh
theorem QQ (ds:List D):aO (qH ds):=by
 unfold qH; split
 ·exact dZ
 ·exact dh
section
variable {X:Cx}
theorem QR (hc:X.calm=true):CallD X (.builtin "max") qG:=.of (fun E=>hT' (X:=X.wish E) hc) fun H xs ds d Q r e q=>by
 unfold qG at e
 split at e
 ·cases e
  obtain ⟨v,vs,rfl,p1,t⟩:=r.cons_of;obtain ⟨v2,vs2,rfl,p2,t2⟩:=t.cons_of
  cases t2.nil_of
  exact ⟨_,_,by rw [cT p1,cT p2],q _ H (Same.refl H) jc⟩
 ·cases e
theorem QS (hc:X.calm=true):CallD X (.builtin "min") qH:=.of (fun E=>hU' (X:=X.wish E) hc) fun H xs ds d Q r e q=>by
 unfold qH at e
 split at e
 ·cases e
  obtain ⟨v,vs,rfl,p1,t⟩:=r.cons_of;obtain ⟨v2,vs2,rfl,p2,t2⟩:=t.cons_of
  cases t2.nil_of
  exact ⟨_,_,by rw [cT p1,cT p2],q _ H (Same.refl H) jc⟩
 ·cases e
end
structure FunV (K:Frag) (x qual:Str) (st:Stmt) (f:Addr) (fd:FuncData):Prop where
 ex:∃(oc:Value) (od:Option Addr) (dV kV doc pm:Value) (an:Option Addr) (cdv ct:Value) (osl:Array (Option Value)),
  fd=fnOf x qual (cG st) (bV st) (az st) dV kV doc pm an cdv ct/\K.lookup f=some ⟨oc,od,.func fd,osl⟩/\codeIn K cdv qual=true
 kp:keepIn K (.ref f)=true
section
variable {P:Program} {w:World} {K:Frag} {mg:Str->Option Value} {base:Heap}
theorem FunV.binds {x qual:Str} {st:Stmt} {f:Addr} {fd:FuncData} {ps:List Str} (F:FunV K x qual st f fd)
  (h:∀(dV kV doc pm:Value) (an:Option Addr) (cdv ct:Value) (us:List Value),us.length=ps.length->bindArgs (fnOf x qual (cG st) (bV st) (az st) dV kV doc pm an cdv ct) ⟨us,[]⟩=pure (ps.zip us)):Binds K fd ps []:=by
 obtain ⟨oc,od,dV,kV,doc,pm,an,cdv,ct,osl,rfl,lk,hcd⟩:=F.ex;exact .all (h dV kV doc pm an cdv ct)
end
noncomputable def JQ (K:Frag) (l:Addr):It :=
  ⟨fun i H=>∃xs v,SqL K H l xs/\xs[i]? = some v,
   fun i H x H'=>∃T,H T=none/\x=.ref T/\∃v,(∀xs,SqL K H l xs->xs[i]? = some v)/\H'=upd H T (.tup [.int (i:Int),v]),
   fun i H=>∃xs,SqL K H l xs/\xs.length<=i⟩
theorem QT {P:Program} {w:World} {K:Frag} {elts:List Expr} {x1:Nat} {pos:Pos} {e it l:Addr} (hei:e≠it) :
  Turn P w K (.Tuple elts x1 pos) (JQ K l) [e,it] e (fun i h=>(∃old,IsEnum h e it ((i:Nat):Int) old)/\h.IsListIter it l i) where
 mem:=by simp
 obj:=fun i h st b hb=>by
  obtain ⟨⟨old,g1⟩,⟨o,g2,_,d2⟩⟩:=st;simp only [mem_cons,not_mem_nil,or_false] at hb;rcases hb with rfl | rfl
  ·exact ⟨_,g1,fun v q=>by cases q⟩
  ·exact ⟨_,g2,fun v q=>by rw [d2] at q; cases q⟩
 keep:=fun i h h' st k=>by
  obtain ⟨⟨old,g1⟩,⟨o,g2,r2⟩⟩:=st;exact ⟨⟨old,k e (by simp) _ g1⟩,⟨o,k it (by simp) _ g2,r2⟩⟩
 item:=by
  intro X hP hw hK hc i pins s σ H E I hf st hg;subst hP hw hK;obtain ⟨xs,v,hq,hx⟩:=hg;obtain ⟨its,rv,p,hz⟩:=I.list hq;obtain ⟨u,hu,ru⟩:=rv.get hx;obtain ⟨⟨old,g1⟩,g2⟩:=st;refine wpAny_pyNext_enum_item g1 g2 p.isList (x:=u) (by simpa using hu) hei fun h' eo it' gT sz kk=>?_;refine ⟨_,rfl,wpAny_letOwnedTupleGo_enum eo fun h'' ge'' sb=>?_⟩;have fT:gQ X pins H s.heap.objs.size:=I.fpOk (Nat.le_refl _) (I.hok.fresh (Nat.le_refl _));have el:e < s.heap.objs.size:=Heap.lt_size g1;obtain ⟨oi,gi,ri⟩:=id g2;have il:it < s.heap.objs.size:=Heap.lt_size gi;have ze:s.heap.objs.size≠e:=Nat.ne_of_gt el;have kk2:∀b o,b∉[e,it]->s.heap.get? b=some o->h''.get? b=some o:=fun b o n q=>by
   simp only [mem_cons,not_mem_nil,or_false,not_or] at n;exact (sb.2 b n.1).trans (kk b o n.1 n.2 q)
  have I1:Inv X pins σ H { s with heap:=h'',toks:=s.toks + 1 }:=I.butL (t':=s.toks + 1) hf kk2
  have gT2:h''.get? s.heap.objs.size=some { cls:=Value.type "tuple",data:=Data.seq #[.int i s.toks,u] }:=(sb.2 _ ze).trans gT;obtain ⟨f0,f1,f2,f3,f4,f5⟩:=fT;have I2:Inv X pins σ (upd H s.heap.objs.size (.tup [.int (i:Int),v])) { s with heap:=h'',toks:=s.toks + 1 }:=I1.track f0 (fun ob q _=>absurd (Nat.lt_of_lt_of_le (Heap.lt_size q) I.sz) (Nat.lt_irrefl _)) f1 f4 f5
   ⟨show 2<=sizeLine by decide,[.int i s.toks,u],.cons ⟨_,rfl⟩ (.cons ru .nil),⟨_,gT2,rfl,_,rfl⟩⟩
  refine ⟨.ref s.heap.objs.size,_,I2,rfl,⟨_,f0,rfl,v,fun xs' h=>by rw [I.list_inj h hq]; exact hx,rfl⟩,⟨⟨u,?_⟩,?_⟩,fun b hb=>?_⟩
  ·have:(((i + 1:Nat)):Int)=(i:Int) + 1:=by omega
   rw [this]; exact ge''
  ·obtain ⟨o',g',r'⟩:=it';exact ⟨o',(sb.2 _ (Ne.symm hei)).trans g',r'⟩
  ·have hb2:b≠s.heap.objs.size:=fun q=>by
    simp only [mem_cons,not_mem_nil,or_false] at hb;rcases hb with rfl | rfl
    ·rw [q] at el; exact Nat.lt_irrefl _ el
    ·rw [q] at il; exact Nat.lt_irrefl _ il
   rw [dU hb2]; exact (hf b hb).1
 done:=by
  intro X hP hw hK hc i pins s σ H E I hf st hg;subst hP hw hK;obtain ⟨xs,hq,hx⟩:=hg;obtain ⟨its,rv,p,hz⟩:=I.list hq;have l1:=rv.length;obtain ⟨⟨old,g1⟩,g2⟩:=st;refine wpAny_pyNext_enum_end (I.ok.hd hc) g1 g2 p.isList (by simp; omega) fun h' kk=>⟨rfl,I.butL (t':=s.toks) hf fun b o n q=>kk b o (fun z=>n (by simp [z])) q⟩
 self:=fun _ _ _ _ _ st h=>by
  obtain ⟨⟨old,g1⟩,_⟩:=st;exact wpAny_pyIter_enum g1 h
noncomputable def gq (xs:List D):List D:=xs.zipIdx.map fun p=>D.tup [.int ((p.2:Nat):Int),p.1]
theorem JR (xs:List D) (i:Nat):(gq xs)[i]? = xs[i]?.map fun x=>D.tup [.int ((i:Nat):Int),x]:=by
 unfold gq;rw [List.getElem?_map,List.getElem?_zipIdx]
 cases xs[i]? <;> simp
noncomputable def iQ:List D->Res (List D)
 | [.lst xs]=>.ok (gq xs)
 | _=>.stuck
theorem QV {K:Frag} {H:Hp} {l:Addr} {xs:List V} {ds:List D} (h1:SqL K H l xs) (r1:Reps K H ds xs):du K (JQ K l) H (gq ds):=by
 intro H' e;have q1:=e.seq h1;have p1:=r1.mono e;refine ⟨fun i d hd=>?_,xs,q1,?_⟩
 ·rw [JR] at hd
  cases z1:ds[i]? with
  | none=>rw [z1] at hd; simp at hd
  | some x =>
   rw [z1] at hd;simp only [Option.map_some,Option.some.injEq] at hd;subst hd;obtain ⟨v,e1,s1⟩:=p1.get z1;refine ⟨⟨xs,v,q1,e1⟩,fun a H'' yl=>?_⟩;obtain ⟨T,hT,rfl,v',k1,rfl⟩:=yl;have w1:=k1 xs q1;rw [e1] at w1
   cases w1
   have sm:=i_ hT (.tup [.int (i:Int),v]);exact ⟨sm,oZ (SqT.of jB) (.cons jc (.cons (s1.mono sm) .nil))⟩
 ·unfold gq;rw [length_map,length_zipIdx,r1.length];exact Nat.le_refl _
theorem Gb {X:Cx} {a:Expr} {fa:DS->Res (List D)} {p pos tp:Pos} {elts:List Expr} {x1:Nat} (hg:Gl X "enumerate") (hm:X.mg "enumerate" = none) (ha:PAD X [a] fa) (hs:starEach [a] X.env=[(false,eval a X.env)]:=by rfl) :
  PID X (.Tuple elts x1 tp) (.Call (.Name "enumerate" p) [a] [] pos) (fun δ=>(fa δ).bind iQ):=by
 intro pins s σ G H δ I R hn
 try dsimp only at hn ⊢
 refine Call_ (vQ I hg hm boot_enumerate (PyProof.Rows.callWith_type1 (ha.use I R (gb hn) (fun ds us s1 vs H1 q I1 r1 e1 b1 p1=>?_) fun e s1 q=>q.same fun x z=>gR z) (by rw [hs]; rfl) rfl))
 have h2:=ie hn q;unfold iQ at h2
 split at h2
 ·rename_i ds1;obtain ⟨v,ws,rfl,w1,w2⟩:=p1.cons_of
  cases w2.nil_of
  obtain ⟨t1,xs,rfl,s1',t1'⟩:=fP w1
  cases r1 with
  | cons ra rr =>
   cases rr
   cases ra
   obtain ⟨its1,rv1,pp1,hz1⟩:=I1.list s1';refine call_enumerate_list pp1.isList fun h' Z Zi sz kk=>?_;have I2:Inv X pins σ H1 { s1 with heap:=h' }:=I1.kept (t':=s1.toks) kk
   refine wpAny_pyIter_enum Z ?_;refine ⟨_,s1.heap.objs.size + 1,[s1.heap.objs.size + 1,s1.heap.objs.size],_,_,H1,by rw [q]; rfl,rfl,I2,QT (Nat.succ_ne_self _),⟨⟨.none,Z⟩,Zi⟩,fun b hb=>?_,e1,QV s1' t1'⟩;have ge:s1.heap.objs.size<=b:=by
    simp only [mem_cons,not_mem_nil,or_false] at hb;rcases hb with rfl | rfl
    ·exact Nat.le_succ _
    ·exact Nat.le_refl _
   exact I1.fpOk ge (I1.hok.fresh ge)
 ·exact (h2 rfl).elim
noncomputable def jG (i:Nat) (f:DS->Res D):DS->Out:=fun δ=>match f δ with
 | .ok (.lst ds)=>.nxt (δ.set i (some (.own ds)))
 | .ok _=>.stuck
 | .err x=>.err x δ
 | .stuck=>.stuck
section
variable {X:Cx} {m:Nat} {fr:List Nat} {N':List Str} {scope:Scope} {cl:List (Str×Addr)} {tg iter elt:Expr} {pos:Pos} {t:gM} {fe:DS->Res D} {fi:DS->Res (List D)}
theorem Ge (i:Nat) {y:Str} {py spos:Pos} (W:Around' X m fr N' scope cl) (hcalm:X.calm=true) (hkt:eQ m t) (hi:PID X tg iter fi) (ht:∀C s H fp,PGD (cA X N' scope cl C s H fp) tg t) (he:∀C s H fp,PD (cA X N' scope cl C s H fp) elt fe)
  (hN:X.N.Nodup) (hsw:swapsWith (.ListComp elt [⟨tg,iter,[],0⟩] scope pos) (some (.Name y py)) spos.line X.env=pure true:=by rfl) (hy:X.N[i]? = some y:=by rfl) (hx:Loc X.env.scope y:=by first | exact Or.inl rfl | exact Or.inr rfl)
  (hfn:X.fn y=true\/X.env.scope.names.lookup y=some .local:=by first | exact .inl rfl | exact .inr rfl | assumption) (hf:∀x,foldedSetIterable iter X.env x=pure x:=by intro _; rfl) :
  PSD X (.Assign [.Name y py] (.ListComp elt [⟨tg,iter,[],0⟩] scope pos) spos) (jG i (bD m fr t fe fi)):=by
 intro pins s σ G H δ I R hs;have hs':bD m fr t fe fi δ≠.stuck:=fun z=>hs (by unfold jG; rw [z]);rw [exec_Assign_Name_used _ _ _ _ hsw];refine wpAny_bind (wpAny_standAt (wpAny_bind ?_));show wpAny _ X.A (do let _ <- comprehension (.ListComp elt [⟨tg,iter,[],0⟩] scope pos) scope X.env _ (newList []) false (eval iter X.env) (some (assign (.Name y py) X.env))) _ _ s
 refine wpAny_bind (wpAny_mono (wpAny_comprehension_free (use:=some (assign (.Name y py) X.env)) (Q:=fun _ s'=>SPost X pins G H (jG i (bD m fr t fe fi) δ) .next s') rfl hf W.clos W.kind W.names
  (ek' W hcalm hkt hi ht he I R hs' (fun e s1 q=>q.sx R fun x z=>by unfold jG; rw [z]) (RR:=fun acc C=>compPost _ _ _ (some (assign (.Name y py) X.env)) _ acc C) ?_)) (fun _ s' hq=>wpAny_pure (wpAny_pure hq)) fun _ _ e=>e)
 intro a C s' H' ds xs mC ev J e' ha hx' hr hns hC hCa hC0 hCf hCl hCc hCp;show wpAny _ X.A (assign (.Name y py) X.env (.ref a)) _ _ _;refine wpAny_assign_Name (Dg J hN hy hx (v:=.ref a) (u:=.ref a) rfl (fun s2 I2 ⟨b,sb,hb⟩=>?_) hfn);have hbC:C≠b:=by
  rcases hb with z | z
  ·rw [z]; exact hCl
  ·exact fun w=>hCc _ _ z w.symm
 refine ⟨mC,hns.sameBut sb hbC,fun h' hs'=>?_⟩;refine ⟨_,_,H',by unfold jG; rw [ev],I2.but (t':=s2.toks) hC hC0 hCl hCc hCp hs',e'.tk,R.setOwn e' i ha hx' hr⟩
end
noncomputable def iD (i:Nat) (ds:List D) (j:Nat) (d:D) (δ:DS):DS:=(δ.map fun o=>o.bind dw).set i (some (.own (ds.set j d)))
theorem Reps.setAt {K:Frag} {H:Hp}:∀{ds:List D} {vs:List V} (j:Nat) {d:D} {v:V},Reps K H ds vs->Rep K H d v->Reps K H (ds.set j d) (vs.set j v)
 | [],_,_,_,_,h,_=>by cases h.nil_of; exact Reps.nil
 | a :: ds,_,0,_,_,h,p=>by
  obtain ⟨v,vs,rfl,_,q⟩:=h.cons_of;exact Reps.cons p q
 | a :: ds,_,j + 1,_,_,h,p=>by
  obtain ⟨v,vs,rfl,r,q⟩:=h.cons_of;exact Reps.cons r (Reps.setAt j q p)
theorem RepSt.put {K:Frag} {G H:Hp} {σ:St} {δ:DS} {i:Nat} {ds:List D} {j:Nat} {d:D} {a:Addr} {xs:List V} {v:V} (R:RepSt K G H σ δ) (hδ:δ[i]? = some (some (.own ds))) (hσ:σ[i]? = some (some (.ref a))) (hH:H a=some (.lst xs)) (r:Reps K H ds xs) (hG:G a=none) (hf:b_ ds=true) (hd:dC d=true) (p:Rep K H d v) :
  RepSt K G (upd H a (.lst (xs.set j v))) σ (iD i ds j d δ) where
 same:=fun b o e=>by
  have hb:b≠a:=fun z=>by subst z; rw [hG] at e; cases e
  rw [dU hb]; exact R.same b o e
 len:=by unfold iD; rw [length_set,length_map]; exact R.len
 at_:=fun k sv h=>by
  unfold iD at h;have hl:i < δ.length:=(List.getElem?_eq_some_iff.mp hδ).1
  by_cases hj:i=k
  ·subst hj;rw [List.getElem?_set_self (by rw [length_map]; exact hl)] at h
   cases h
   exact ⟨.ref a,hσ,a,xs.set j v,rfl,jB,(Reps.lset hH hf r).setAt j (Rep.lset hH hd p),hG⟩
  ·rw [List.getElem?_set_ne hj] at h;obtain ⟨sv0,q1,q2⟩:=Ds h;obtain ⟨u,e1,e2⟩:=R.at_ k sv0 q1;refine ⟨u,e1,?_⟩
   cases sv0 with
   | val d' =>
    simp only [dw] at q2
    split at q2
    ·rename_i c; cases q2; exact Rep.lset hH c e2
    ·cases q2
   | arg d'=>cases q2; exact e2
   | own es =>
    simp only [dw] at q2
    split at q2
    ·rename_i c
     cases q2
     obtain ⟨b,ys,rfl,w2,w3,w4⟩:=e2;have hb:b≠a:=fun z=>by subst z; exact R.sep i k ds es (.ref b) hj hδ q1 hσ e1
     exact ⟨b,ys,rfl,by rw [dU hb]; exact w2,Reps.lset hH c w3,w4⟩
    ·cases q2
 sep:=fun k l es fs u hjk h1 h2 h3=>by
  have get:∀(m:Nat) (gs:List D),(iD i ds j d δ)[m]? = some (some (.own gs))->∃gs',δ[m]? = some (some (.own gs')):=fun m gs h=>by
   unfold iD at h
   by_cases hm:i=m
   ·subst hm; exact ⟨ds,hδ⟩
   ·rw [List.getElem?_set_ne hm] at h;obtain ⟨sv0,q1,q2⟩:=Ds h;obtain ⟨rfl,_⟩:=JF q2;exact ⟨gs,q1⟩
  obtain ⟨es',g1⟩:=get k es h1;obtain ⟨fs',g2⟩:=get l fs h2;exact R.sep k l es' fs' u hjk g1 g2 h3
noncomputable def putD (i:Nat) (fi fe:DS->Res D):DS->Out:=fun δ=>match δ[i]? with
 | some (some (.own ds))=>kI (fe δ) δ fun d=>kI (fi δ) δ fun k=>match k with
  | .int z=>(match jO ds.length z with
   | some j=>if b_ ds=true/\dC d=true then .nxt (iD i ds j d δ) else .stuck
   | none=>.stuck)
  | _=>.stuck
 | _=>.stuck
section
variable {X:Cx} {e ix:Expr} {fe fi:DS->Res D} {x:Str} {pos np sp:Pos}
theorem QW (i:Nat) (he:PD X e fe) (hi:PD X ix fi) (hne:∀δ,aO (fi δ)) (hN:X.N[i]? = some x:=by rfl) (hv:yL X.env.scope x:=by first | exact Or.inl rfl | exact Or.inr (Or.inl rfl) | exact Or.inr (Or.inr rfl)) (hd:(x == ("__debug__" : Str))=false:=by decide)
  (hcd:(x == ("__classdict__" : Str))=false:=by decide)
  (ha:∀v,assign (.Subscript (.Name x np) ix sp) X.env v=(do
   let ov <- holding [v] (eval (.Name x np) X.env)
   let iv <- holding [v,ov] (eval ix X.env)
   standAt sp
   holding [v,ov,iv] (setItem ov iv v)
   release [v,ov,iv] []):=by intro _; rfl)
  (hw1:swapsWithSole [(.Subscript (.Name x np) ix sp)] e pos.line X.env=pure false:=by rfl) (hw:swappedStores [(.Subscript (.Name x np) ix sp)] e X.env=pure none:=by rfl) (h1:(assignEach [(.Subscript (.Name x np) ix sp)] X.env).map (·.2)=[assign (.Subscript (.Name x np) ix sp) X.env]:=by rfl) :
  PSD X (.Assign [.Subscript (.Name x np) ix sp] e pos) (putD i fi fe):=by
 intro pins s σ G H δ I R hs;unfold putD at hs ⊢
 split at hs
 ·rename_i ds hδ;obtain ⟨v0,hσ,a,xs,rfl,hH,r,hG⟩:=R.at_ i _ hδ;refine wpAny_Assign_stores (he.use I R (yt hs) (fun d u s1 w H1 q I1 r1 e1 b1 p1=>?_) fun e s1 q=>q.sx R fun x z=>by rw [z]; rfl) hw1 hw;rw [h1];rw [q] at hs ⊢;have hs2:kI (fi δ) δ (fun k=>match k with
   | .int z=>(match jO ds.length z with
    | some j=>if b_ ds=true/\dC d=true then Out.nxt (iD i ds j d δ) else .stuck
    | none=>.stuck)
   | _=>.stuck)≠.stuck:=hs
  show wpAny _ _ (assign (.Subscript (.Name x np) ix sp) X.env u) _ _ _;rw [ha];have hH1:=e1 a _ hH;refine wpAny_bind (wpAny_holding (wpAny_mono (kz' (X:=X.wish fun _ _=>False) hN hv hd hcd pins s1 σ H1 (fun v' H'=>v'=.ref a/\H'=H1) (I1.wish _) ⟨.ref a,hσ,rfl,rfl⟩) (fun ov s2 q2=>?_) fun _ _ z=>z.elim));obtain ⟨v',H',I2,r2,rfl,rfl⟩:=q2;have I2':=I2.unwish;have R1:=R.mono e1;refine wpAny_bind (wpAny_holding (hi.use I2' R1 (yt hs2) (fun k u3 s3 w3 H3 q3 I3 r3 e3 b3 p3=>?_) fun e s1 q=>?_))
  ·rw [q3] at hs2 ⊢
   cases k with
   | int z =>
    have hs3:(match jO ds.length z with
     | some j=>if b_ ds=true/\dC d=true then Out.nxt (iD i ds j d δ) else .stuck
     | none=>.stuck)≠.stuck:=hs2
    cases hj:jO ds.length z with
    | none=>rw [hj] at hs3; exact (hs3 rfl).elim
    | some j =>
     rw [hj] at hs3;have hc:b_ ds=true/\dC d=true:=by
      by_cases c:b_ ds=true/\dC d=true
      ·exact c
      ·dsimp only at hs3; rw [if_neg c] at hs3; exact (hs3 rfl).elim
     have hH3:=e3 a _ hH1;rw [cT p3] at r3;refine wpAny_bind (wpAny_standAt (wpAny_bind (wpAny_holding (wpAny_mono (set_list (X:=X.wish fun _ _=>False) pins s3 σ H3 (.ref a) (.int z) w ov u3 u (fun H4=>H4=upd H3 a (.lst (xs.set j w))) (I3.wish _) r2 r3 r1 ⟨a,xs,z,j,rfl,rfl,hH3,by rw [r.length]; exact hj,rfl⟩) (fun _ s4 q4=>?_) fun _ _ z=>z.elim))));obtain ⟨H4,I4,rfl⟩:=q4;refine wpAny_release ?_;have e13:=e1.trans e3;have ev:(kI (Res.ok d) δ fun d=>kI (Res.ok (D.int z)) δ fun k=>match k with
      | .int z=>(match jO ds.length z with
       | some j=>if b_ ds=true/\dC d=true then Out.nxt (iD i ds j d δ) else .stuck
       | none=>.stuck)
      | _=>.stuck)=Out.nxt (iD i ds j d δ):=by
      show (match jO ds.length z with
       | some j=>if b_ ds=true/\dC d=true then Out.nxt (iD i ds j d δ) else .stuck
       | none=>.stuck)=_
      rw [hj]; dsimp only; rw [if_pos hc]
     rw [ev];refine ⟨_,σ,_,rfl,I4.unwish,⟨fun b ys h=>?_,fun b o u h=>?_,fun b h=>?_⟩,(R.mono e13).put hδ hσ hH3 (r.mono e13) hG hc.1 hc.2 (p1.mono e3)⟩
     ·have hb:b≠a:=fun z=>by subst z; rw [hH] at h; cases h
      rw [dU hb]; exact e13 b _ h
     ·have hb:b≠a:=fun z=>by subst z; rw [hH] at h; cases h
      rw [dU hb]; exact e13 b _ h
     ·by_cases hb:b=a
      ·subst hb; rw [jB] at h; cases h
      ·rw [dU hb] at h; exact e13.free h
   | _=>exact (hs2 rfl).elim
  ·obtain ⟨y,_,_,_,q1,_⟩:=q;exact (hne δ y q1).elim
 ·exact (hs rfl).elim
end
noncomputable def jR (f:DS->Res D):DS->Res D:=fun δ=>match f δ with
 | .err _=>.stuck
 | r=>r
theorem Du (f:DS->Res D):∀δ,aO (jR f δ):=fun δ x h=>by
 unfold jR at h
 split at h
 ·cases h
 ·rename_i hn; exact hn x h
theorem QX {f:DS->Res D} {δ:DS} {d:D} (h:f δ=.ok d):jR f δ=.ok d:=by unfold jR; rw [h]
theorem Gf {X:Cx} {e:Expr} {f:DS->Res D} (h:PD X e f):PD X e (jR f):=by
 intro pins s σ G H δ I R hs;have h1:jR f δ=f δ:=by
  unfold jR at hs ⊢
  split
  ·rename_i x hx; rw [hx] at hs; exact (hs rfl).elim
  ·rfl
 rw [h1] at hs ⊢;exact h pins s σ G H δ I R hs
section
variable {X:Cx}
noncomputable def fV (fa fb fc:DS->Res D) (g g':D->D->Res D):DS->Res D:=fun δ=>two fa fb (fun x y=>(g x y).bind fun z=>(aG z).bind fun k=>if k=true then (jR fc δ).bind fun w=>g' y w else .ok (.bl false)) δ
theorem QZ {X:Cx} {a b c:Expr} {fa fb fc:DS->Res D} {g g':D->D->Res D} {op op':CmpOp} {pos:Pos} {pins:List (Addr×Obj)} {s:Shared} {σ:St} {G H:Hp} {δ:DS} (ho:OpD X (compareOp op) g) (hg:∀x y,aO (g x y)) (ho':OpD X (compareOp op') g') (hg':∀x y,aO (g' x y)) (ha:PD X a fa) (hb:PD X b fb) (hc:PD X c fc)
  (I:Inv X pins σ H s) (R:RepSt X.K G H σ δ) (hs:fV fa fb fc g g' δ≠.stuck) {Q:Value->Shared->Prop} {E:Value->Shared->Prop} {M:Value->Shared->Prop}
  (hQ:∀u s1,EPost X pins σ H (fV fa fb fc g g' δ) u s1->Q u s1) (kx:∀e s1,XPost X pins σ H s.heap (fV fa fb fc g g' δ) e s1->E e s1) :
  wpAny (model X.prog X.w) X.A (eval a X.env) (fun v s1=>wpAny (model X.prog X.w) X.A (eval b X.env) (fun u s2=>wpAny (model X.prog X.w) X.A (compareOp op v u) (fun z s3=>∃k,z=.bool k /\
   (if k=true then wpAny (model X.prog X.w) X.A (eval c X.env) (fun w s4=>wpAny (model X.prog X.w) X.A (compareOp op' u w) Q E s4) E s3 else Q z s3)) E s2) E s1) E s:=by
 refine Fg ha hb I R hs (fun x y v u s2 vx vy H2 q I2 r1 r2 e2 p1 p2=>?_) kx;have q':fV fa fb fc g g' δ=_:=q;rw [q'] at hs hQ
 cases qg:g x y with
 | stuck=>rw [qg] at hs; exact (hs rfl).elim
 | err z=>exact (hg x y z qg).elim
 | ok d =>
  rw [qg,Res.bind_ok] at hs hQ;refine gP (ho E pins s2 σ H2 vx vy v u x y d I2 r1 r2 p1 p2 qg) fun w s3 ⟨d',z,H3,e',I3,r3,e3,p3⟩=>?_
  cases e'
  have hb2:aG d≠.stuck:=fun z=>hs (by rw [z]; rfl);obtain ⟨k,rfl⟩:=Dl hb2;rw [Rep] at p3;subst p3
  cases r3
  refine ⟨k,rfl,?_⟩;have bo:aG (.bl k)=.ok k:=rfl;rw [bo,Res.bind_ok] at hs hQ
  cases k with
  | false=>exact hQ _ _ ⟨.bl false,.bl false,H3,rfl,I3,rfl,e2.trans e3,vX⟩
  | true =>
   rw [if_pos rfl] at hs hQ ⊢;have hn:jR fc δ≠.stuck:=fun z=>hs (by rw [z]; rfl);refine (Gf hc).use I3 (R.mono (e2.trans e3)) hn (fun d3 u4 s4 v4 H4 q4 I4 r4 e4 b4 p4=>?_) fun e s1 ⟨x,_,_,_,q,_⟩=>(Du fc δ x q).elim;rw [q4,Res.bind_ok] at hs hQ
   cases qh:g' y d3 with
   | stuck=>exact (hs qh).elim
   | err z=>exact (hg' _ _ z qh).elim
   | ok d5 =>
    rw [qh] at hQ;have e24:=(e2.trans e3).trans e4;exact gP (ho' E pins s4 σ H4 vy v4 u u4 y d3 d5 I4 r2 r4 (p2.mono (e3.trans e4)) p4 qh) fun w s5 p=>hQ w s5 (p.from e24 rfl)
theorem JS {X:Cx} {a b c:Expr} {fa fb fc:DS->Res D} {g g':D->D->Res D} {op op':CmpOp} {pos:Pos} (ho:OpD X (compareOp op) g) (hg:∀x y,aO (g x y)) (ho':OpD X (compareOp op') g') (hg':∀x y,aO (g' x y)) (ha:PD X a fa) (hb:PD X b fb) (hc:PD X c fc)
  (hm:lastMarks [op,op'] [b,c]=false:=by with_unfolding_all rfl):PD X (.Compare a [op,op'] [b,c] pos) (fV fa fb fc g g'):=by
 intro pins s σ G H δ I R hs;refine Compare_chain (gP (QZ (M:=fun _ _=>True) (pos:=pos) ho hg ho' hg' ha hb hc I R hs (fun _ _ q=>q) fun _ _ q=>q) fun v s1 h1=>chain_link (gP h1 fun u s2 h2=>gP h2 fun z s3 ⟨k,e,h3⟩=>?_)) hm;subst e;refine wpAny_truthy_bool ?_
 cases k with
 | false=>exact ite_ff h3
 | true=>exact ite_tt (chain_last h3)
end
noncomputable def fB (ds:List D):D->Res D
 | .int k=>if 0<=k/\k<=1000/\ds.length<=1000/\ds.length * k.toNat<=1000 then .ok (.lst (List.replicate k.toNat ds).flatten) else .stuck
 | _=>.stuck
noncomputable def kO (fs:DS->Res (List D)) (fb:DS->Res D):DS->Res D:=fun δ=>(fs δ).bind fun ds=>(jR fb δ).bind (fB ds)
theorem Q0 {ds:List D} {b r:D} (h:fB ds b=.ok r):∃k:Int,b=.int k/\0<=k/\k<=1000/\ds.length<=1000/\ds.length * k.toNat<=1000/\r=.lst (List.replicate k.toNat ds).flatten:=by
 cases b <;> first | (simp [fB] at h; done) | skip
 rename_i k;simp only [fB] at h
 split at h
 ·rename_i c; cases h; exact ⟨k,rfl,c.1,c.2.1,c.2.2.1,c.2.2.2,rfl⟩
 ·cases h
theorem Q3 (ds:List D) (b:D):aO (fB ds b):=by
 cases b <;> first | exact dh | exact kE dZ dh
theorem Q4 {X:Cx} {es:List Expr} {b:Expr} {fs:DS->Res (List D)} {fb:DS->Res D} {lp pos:Pos} (ha:PAD X es fs) (hb:PD X b fb):PD X (.BinOp (.List es lp) .Mult b pos) (kO fs fb):=by
 intro pins s σ G H δ I R hs;unfold kO at hs ⊢;refine wpAny_BinOp (wpAny_List_spliced (ha.use I R (gb hs) (fun ds us s1 vs H1 q I1 r1 e1 b1 p1=>?_) fun e s1 q=>q.same fun x z=>gR z));have h2:=ie hs q;have hn:jR fb δ≠.stuck:=gb h2
 cases qb:jR fb δ with
 | stuck=>exact (hn qb).elim
 | err x=>exact (Du fb δ x qb).elim
 | ok k0 =>
  have h3:fB ds k0≠.stuck:=ie h2 qb
  cases qr:fB ds k0 with
  | stuck=>exact (h3 qr).elim
  | err x=>exact (Q3 _ _ x qr).elim
  | ok r =>
   obtain ⟨k,rfl,c1,c2,c3,c4,rfl⟩:=Q0 qr;have big:(1000:Nat)<=sizeLine:=by decide
   have hz:ds.length<=sizeLine:=Nat.le_trans c3 big;refine ⟨by rw [<- r1.length,p1.length]; exact hz,?_⟩;have hf':H1 s1.heap.objs.size=none:=I1.hok.fresh (Nat.le_refl _);have sm:=i_ hf' (.lst vs);have I2:Inv X pins σ (upd H1 s1.heap.objs.size (.lst vs)) { s1 with heap:=s1.heap.push { cls:=.type "list",data:=.seq us.toArray } }:=I1.laid (t':=s1.toks) (fun b u e=>Heap.get?_push_of_some _ e) (Nat.le_refl _) ⟨by rw [p1.length]; exact hz,us,0,r1,Heap.get?_push_size _ rfl⟩
   refine (Gf hb).use I2 ((R.mono e1).mono sm) hn (fun d3 u3 s3 v3 H3 q3 I3 r3 e3 b3 p3=>?_) fun e s1 ⟨x,_,_,_,q,_⟩=>(Du fb δ x q).elim;rw [qb] at q3
   cases q3
   rw [cT p3] at r3;have hH3:=e3 _ _ (jB (H:=H1) (a:=s1.heap.objs.size) (o:=.lst vs));refine wpAny_mono (Oq (X:=X.wish fun _ _=>False) pins s3 σ H3 (.ref s1.heap.objs.size) (.int k) (.ref s1.heap.objs.size) u3 (fun z H4=>∃p,H3 p=none/\z=.ref p/\H4=upd H3 p (.lst (List.replicate k.toNat vs).flatten)) (I3.wish _) rfl r3
    ⟨_,k,vs,rfl,rfl,hH3,by omega,by omega,by rw [p1.length]; omega,fun p hp=>⟨p,hp,rfl,rfl⟩⟩) (fun w s4 q4=>?_) fun _ _ z=>z.elim
   obtain ⟨z,H4,I4,r4,p,hp,rfl,rfl⟩:=q4;have sm4:=i_ hp (.lst (List.replicate k.toNat vs).flatten);have ev:(fs δ).bind (fun ds=>(Res.ok (D.int k)).bind (fB ds))=.ok (.lst (List.replicate k.toNat ds).flatten):=by rw [q,Res.bind_ok,Res.bind_ok]; exact qr
   rw [qb] at *;exact ⟨_,.ref p,_,ev,I4.unwish,r4,((e1.trans sm).trans e3).trans sm4,qu (SqL.of jB) ((((p1.mono sm).mono e3).mono sm4).rep k.toNat)⟩
section
variable {X:Cx} {a b:Expr} {fa fb:DS->Res D} {x:Str} {pos pos' bp:Pos}
end
section
variable {X:Cx} {e:Expr} {fe:DS->Res D} {lo hi:Option Expr} {st:Expr} {fl fu fs:DS->Res (Option Int)} {pos p2:Pos}
end
section
variable {X:Cx} {tg:Expr}
end
section
variable {X:Cx} {tg:Expr} {t:gM} {body:List Stmt} {fb:DS->Out} {pos:Pos} {G H:Hp} {E:Ends}
end
noncomputable def Gg (X:Cx) (pins:List (Addr×Obj)) (σ:St) (H:Hp) (tg:Expr) (r:Res (List D)) (itv:Value) (s2:Shared):Prop :=
 ∃(ds:List D) (it:Addr) (fp:List Addr) (tn:Nat->Heap->Prop) (J:It) (H':Hp) (a:Addr) (ob:Obj) (u:HO),r=.ok ds/\itv=.ref it/\Inv X pins σ H' s2/\Turn X.prog X.w X.K tg J fp it tn/\tn 0 s2.heap/\(∀b∈fp,gQ X pins H' b)/\Same H H'/\H' a=some (.frz ob u) /\
  ∀G:Hp,G a=some (.frz ob u)->du X.K J G ds
noncomputable def PIN (X:Cx) (tg iter:Expr) (f:DS->Res (List D)):Prop :=
 ∀(pins:List (Addr×Obj)) (s:Shared) (σ:St) (G H:Hp) (δ:DS),Inv X pins σ H s->RepSt X.K G H σ δ->f δ≠.stuck ->
  wpAny (model X.prog X.w) X.A (eval iter X.env) (fun v s1=>wpAny (model X.prog X.w) X.A (pyIter v) (Gg X pins σ H tg (f δ)) (XPost X pins σ H s.heap (f δ)) s1) (XPost X pins σ H s.heap (f δ)) s
section
variable {X:Cx} {e:Expr} {fe:DS->Res D} {lo hi:Option Expr} {st:Expr} {fl fu fs:DS->Res (Option Int)} {pos p2:Pos}
end
theorem PIN.pi {X:Cx} {tg iter:Expr} {f:DS->Res (List D)} (h:PIN X tg iter f):PI X.nox tg iter (fun σ H R=>∃G δ ds,RepSt X.K G H σ δ/\f δ=.ok ds/\∀J H' a ob u,Same H H'->H' a=some (.frz ob u)->(∀G:Hp,G a=some (.frz ob u)->du X.K J G ds)->R J H'):=by
 intro pins s σ H R I ⟨G,δ,ds,RR,q,n⟩;refine wpAny_mono (h pins s σ G H δ I.unwish RR (by rw [q]; intro z; cases z)) (fun v s1 p=>?_) fun e s1 p=>?_
 ·refine wpAny_mono p (fun itv s2 ⟨ds',it,fp,tn,J,H',a,ob,u,q1,q2,I2,T,t0,hf,e2,w2,y⟩=>?_) fun e s2 p=>?_
  ·rw [q] at q1; cases q1;exact ⟨it,fp,tn,J,H',q2,I2.wish _,T,t0,hf,n J H' a ob u e2 w2 y⟩
  ·rw [q] at p; exact p.none
 ·rw [q] at p; exact p.none
section
variable {X:Cx} {tg iter:Expr} {body:List Stmt} {t:gM} {fb:DS->Out} {pos:Pos}
end
theorem Q5 {X:Cx} {x:Str} {j} {pos:Pos} {es:List Expr} {fs:DS->Res (List D)} (h:PAD X es fs):PAD X (.Constant (.str x) j pos :: es) (aj (fun _=>.ok (.str x)) fs):=au fC h
section
variable {X:Cx} {e:Expr} {es:List Expr} {fs:DS->Res (List D)} {F:List D->Res D} {k:Nat} {f:Addr} {fd:FuncData} {ps:List Str} {x:Str} {p pos:Pos}
end
noncomputable def wQ (ns:List Int):Int:=ns.getD (argBest (fun i j=>decide (ns.getD i 0 > ns.getD j 0)) (ns.length - 1)) 0
noncomputable def wR (ns:List Int):Int:=ns.getD (argBest (fun i j=>decide (ns.getD i 0 < ns.getD j 0)) (ns.length - 1)) 0
noncomputable def iG:List D->Res D
 | [.tup ds]=>match intsOf ds with | some ns=>if 0 < ns.length then .ok (.int (wQ ns)) else .stuck | none=>.stuck
 | x=>qG x
noncomputable def iH:List D->Res D
 | [.tup ds]=>match intsOf ds with | some ns=>if 0 < ns.length then .ok (.int (wR ns)) else .stuck | none=>.stuck
 | x=>qH x
theorem lN' (ds:List D):aO (iG ds):=by
 unfold iG
 split
 ·split
  ·exact kE dZ dh
  ·exact dh
 ·exact QM _
theorem Q6 (ds:List D):aO (iH ds):=by
 unfold iH
 split
 ·split
  ·exact kE dZ dh
  ·exact dh
 ·exact QQ _
theorem Q7 {X:Cx} (hcalm:X.calm=true):CallD X (.builtin "max") iG:=by
 intro E pins s σ H xs us ds d I r p e;unfold iG at e
 split at e
 ·rename_i es
  split at e
  ·rename_i ns hb
   split at e
   ·rename_i hpos
    cases e
    obtain ⟨v,vs,rfl,p1,t⟩:=p.cons_of
    cases t.nil_of
    obtain ⟨u,rfl,rx⟩:=vals1 r;obtain ⟨a,ys,rfl,hq,rs⟩:=eE p1
    cases rx
    obtain ⟨its,rv,pl,hz⟩:=I.tuple hq;rw [zK hb] at rs;refine call_max_walk (wpAny_pyIter_tuple (show s.heap.IsTuple a its.toArray from pl) ?_)
    obtain ⟨o,g,oc⟩:=id pl;have hax:a≠s.heap.objs.size:=Nat.ne_of_lt (Heap.lt_size g);have hn:its.toArray.size=ns.length:=by rw [size_toArray,<- rv.length,rs.length,length_map]
    refine ⟨_,_,_,_,_,_,_,rfl,Walks.tuple (A:=X.A.in1) (show X.A.in1.handled=none from I.ok.hd hcalm) s.heap.objs.size a hax its.toArray,⟨⟨_,Heap.get?_push_size _ rfl,rfl,rfl⟩,⟨o,Heap.get?_push_of_some _ g,oc⟩⟩,fun b hb=>?_,by rw [hn]; exact hpos,CmpOf.ints_gt (fun i=>ns.getD i 0) (fun i v hP=>yC rs rv (i:=i) (v:=v) (by simpa using hP)),fun v h' tk hP hk=>?_⟩
    ·show b < (s.heap.push _).objs.size;rw [Heap.size_push];rcases mem_cons.mp hb with z | z
     ·rw [z]; exact Nat.lt_succ_self _
     ·rw [mem_singleton.mp z]; exact Nat.lt_succ_of_lt (Heap.lt_size g)
    ·rw [hn] at hP;obtain ⟨tk',rfl⟩:=yC rs rv (v:=v) (by simpa using hP);have k:∀b o,s.heap.get? b=some o->h'.get? b=some o:=fun b o e=>hk b o (by
      intro z;have:b=s.heap.objs.size:=by simpa using z
      exact absurd (Heap.lt_size e) (by rw [this]; exact Nat.lt_irrefl _)) (Heap.get?_push_of_some _ e)
     exact ⟨_,.int _,H,rfl,I.kept (t':=tk) k,⟨_,rfl⟩,Same.refl H,jc⟩
   ·cases e
  ·cases e
 ·exact QR hcalm E pins s σ H xs us ds d I r p e
theorem Q8 {X:Cx} (hcalm:X.calm=true):CallD X (.builtin "min") iH:=by
 intro E pins s σ H xs us ds d I r p e;unfold iH at e
 split at e
 ·rename_i es
  split at e
  ·rename_i ns hb
   split at e
   ·rename_i hpos
    cases e
    obtain ⟨v,vs,rfl,p1,t⟩:=p.cons_of
    cases t.nil_of
    obtain ⟨u,rfl,rx⟩:=vals1 r;obtain ⟨a,ys,rfl,hq,rs⟩:=eE p1
    cases rx
    obtain ⟨its,rv,pl,hz⟩:=I.tuple hq;rw [zK hb] at rs;refine call_min_walk (wpAny_pyIter_tuple (show s.heap.IsTuple a its.toArray from pl) ?_)
    obtain ⟨o,g,oc⟩:=id pl;have hax:a≠s.heap.objs.size:=Nat.ne_of_lt (Heap.lt_size g);have hn:its.toArray.size=ns.length:=by rw [size_toArray,<- rv.length,rs.length,length_map]
    refine ⟨_,_,_,_,_,_,_,rfl,Walks.tuple (A:=X.A.in1) (show X.A.in1.handled=none from I.ok.hd hcalm) s.heap.objs.size a hax its.toArray,⟨⟨_,Heap.get?_push_size _ rfl,rfl,rfl⟩,⟨o,Heap.get?_push_of_some _ g,oc⟩⟩,fun b hb=>?_,by rw [hn]; exact hpos,CmpOf.ints_lt (fun i=>ns.getD i 0) (fun i v hP=>yC rs rv (i:=i) (v:=v) (by simpa using hP)),fun v h' tk hP hk=>?_⟩
    ·show b < (s.heap.push _).objs.size;rw [Heap.size_push];rcases mem_cons.mp hb with z | z
     ·rw [z]; exact Nat.lt_succ_self _
     ·rw [mem_singleton.mp z]; exact Nat.lt_succ_of_lt (Heap.lt_size g)
    ·rw [hn] at hP;obtain ⟨tk',rfl⟩:=yC rs rv (v:=v) (by simpa using hP);have k:∀b o,s.heap.get? b=some o->h'.get? b=some o:=fun b o e=>hk b o (by
      intro z;have:b=s.heap.objs.size:=by simpa using z
      exact absurd (Heap.lt_size e) (by rw [this]; exact Nat.lt_irrefl _)) (Heap.get?_push_of_some _ e)
     exact ⟨_,.int _,H,rfl,I.kept (t':=tk) k,⟨_,rfl⟩,Same.refl H,jc⟩
   ·cases e
  ·cases e
 ·exact QS hcalm E pins s σ H xs us ds d I r p e
theorem JT (f:Nat->Int):∀m i,i<=m->f i<=f (argBest (fun i j=>decide (f i > f j)) m)
 | 0,i,h=>by
  have:i=0:=by omega
  subst this; exact Int.le_refl _
 | m + 1,i,h=>by
  have ih:=JT f m;rw [argBest]
  by_cases c:f (m + 1) > f (argBest (fun i j=>decide (f i > f j)) m)
  ·rw [if_pos (decide_eq_true c)]
   by_cases z:i=m + 1
   ·rw [z]; exact Int.le_refl _
   ·have:=ih i (by omega); omega
  ·rw [if_neg (by simpa using c)]
   by_cases z:i=m + 1
   ·rw [z]; omega
   ·exact ih i (by omega)
theorem JV (f:Nat->Int):∀m i,i<=m->f (argBest (fun i j=>decide (f i < f j)) m)<=f i
 | 0,i,h=>by
  have:i=0:=by omega
  subst this; exact Int.le_refl _
 | m + 1,i,h=>by
  have ih:=JV f m;rw [argBest]
  by_cases c:f (m + 1) < f (argBest (fun i j=>decide (f i < f j)) m)
  ·rw [if_pos (decide_eq_true c)]
   by_cases z:i=m + 1
   ·rw [z]; exact Int.le_refl _
   ·have:=ih i (by omega); omega
  ·rw [if_neg (by simpa using c)]
   by_cases z:i=m + 1
   ·rw [z]; omega
   ·exact ih i (by omega)
theorem Q9 {ns:List Int} (h1:wQ ns=0) (h2:wR ns=0):∀t∈ns,t=0:=by
 intro t ht;obtain ⟨i,hi,rfl⟩:=mem_iff_getElem.mp ht;have a:=JT (fun i=>ns.getD i 0) (ns.length - 1) i (by omega);have b:=JV (fun i=>ns.getD i 0) (ns.length - 1) i (by omega);have e:ns.getD i 0=ns[i]:=by rw [getD_eq_getElem?_getD,List.getElem?_eq_getElem hi]; rfl
 unfold wQ at h1;unfold wR at h2;rw [h1,e] at a;rw [h2,e] at b;omega
theorem mx_z {n:Nat}:wQ (List.replicate n 0)=0/\wR (List.replicate n 0)=0:=by
 have e:∀i,(List.replicate n (0:Int)).getD i 0=0:=fun i=>by
  rw [getD_eq_getElem?_getD,List.getElem?_replicate]; split <;> rfl
 exact ⟨e _,e _⟩
noncomputable def aM (P:Program) (w:World) (K:Frag) (mg:Str->Option Value) (base:Heap) (k:Nat) (x:Str) (F:List D->Res D):Prop :=
 ∃(f:Addr) (fd:FuncData) (ps:List Str),FnOk P w K mg base (pM P w) k f fd ps (u_ K F)/\mg x=some (.ref f)/\keepIn K (.ref f)=true/\Binds K fd ps []
noncomputable def Ent (K:Frag) (mg:Str->Option Value) (x:Str) (st:Stmt) (ps:List Str):Prop :=
 ∃(f:Addr) (fd:FuncData),mg x=some (.ref f)/\Fun K x x st f fd/\Binds K fd ps []
noncomputable def Lk (K:Frag) (x:Str) (st:Stmt):Prop :=
 ∃(f:Addr) (fd:FuncData),nsIn K mainGlobals x=some (some (.ref f))/\Fun K x x st f fd
section
variable {K:Frag} {x:Str} {st:Stmt}
theorem lk_mk {f:Addr} {oc:Value} {od an:Option Addr} {osl:Array (Option Value)} {kV doc pm cdv ct:Value} (n:nsIn K mainGlobals x=some (some (.ref f))) (l:K.lookup f=some ⟨oc,od,.func (fnOf x x (cG st) (bV st) (az st) .none kV doc pm an cdv ct),osl⟩)
  (c:codeIn K cdv x=true) (k:keepIn K (.ref f)=true):Lk K x st:=⟨f,_,n,Je l c k⟩
variable {h:Heap} {mg:Str->Option Value}
theorem fJ (X:K.In h) (G:h.Ns mainGlobals mg) (L:Lk K x st) {p:Str} (hb:∀(kV doc pm:Value) (an:Option Addr) (cdv ct a:Value),bindArgs (fnOf x x (cG st) (bV st) (az st) .none kV doc pm an cdv ct) ⟨[a],[]⟩=pure [(p,a)]:=by intros; rfl):Ent K mg x st [p]:=by
 obtain ⟨f,fd,n,F⟩:=L;exact ⟨f,fd,mg_of X G n,F,F.binds fun _ _ _ _ _ _ us hl=>match us,hl with | [_],_=>hb _ _ _ _ _ _ _⟩
theorem cF (X:K.In h) (G:h.Ns mainGlobals mg) (L:Lk K x st) {p q:Str} (hb:∀(kV doc pm:Value) (an:Option Addr) (cdv ct a b:Value),bindArgs (fnOf x x (cG st) (bV st) (az st) .none kV doc pm an cdv ct) ⟨[a,b],[]⟩=pure [(p,a),(q,b)]:=by intros; rfl):Ent K mg x st [p,q]:=by
 obtain ⟨f,fd,n,F⟩:=L;exact ⟨f,fd,mg_of X G n,F,F.binds fun _ _ _ _ _ _ us hl=>match us,hl with | [_,_],_=>hb _ _ _ _ _ _ _ _⟩
theorem gZ (X:K.In h) (G:h.Ns mainGlobals mg) (L:Lk K x st) {p q r:Str} (hb:∀(kV doc pm:Value) (an:Option Addr) (cdv ct a b c:Value),bindArgs (fnOf x x (cG st) (bV st) (az st) .none kV doc pm an cdv ct) ⟨[a,b,c],[]⟩=pure [(p,a),(q,b),(r,c)]:=by intros; rfl):Ent K mg x st [p,q,r]:=by
 obtain ⟨f,fd,n,F⟩:=L;exact ⟨f,fd,mg_of X G n,F,F.binds fun _ _ _ _ _ _ us hl=>match us,hl with | [_,_,_],_=>hb _ _ _ _ _ _ _ _ _⟩
theorem zL (X:K.In h) (G:h.Ns mainGlobals mg) (L:Lk K x st) {p q r t:Str} (hb:∀(kV doc pm:Value) (an:Option Addr) (cdv ct a b c d:Value),bindArgs (fnOf x x (cG st) (bV st) (az st) .none kV doc pm an cdv ct) ⟨[a,b,c,d],[]⟩=pure [(p,a),(q,b),(r,c),(t,d)]:=by intros; rfl):Ent K mg x st [p,q,r,t]:=by
 obtain ⟨f,fd,n,F⟩:=L;exact ⟨f,fd,mg_of X G n,F,F.binds fun _ _ _ _ _ _ us hl=>match us,hl with | [_,_,_,_],_=>hb _ _ _ _ _ _ _ _ _ _⟩
variable (P:Program) (w:World) (base:Heap)
theorem kW {P:Program} {w:World} {base:Heap} {ps:List Str} (F:Ent K mg x st ps) (k:Nat):aM P w K mg base k x fun _=>.stuck:=by
 obtain ⟨f,fd,m,F,B⟩:=F;exact ⟨f,fd,ps,⟨fun _ _ _ _ q=>by obtain ⟨_,_,z⟩:=q; exact z.elim,fun _ _ _ _ _ _ _ _ _ _ _ _ _ q=>by obtain ⟨_,_,z⟩:=q; exact z.elim⟩,m,F.kp,B⟩
theorem cP {N ps:List Str} (k:Nat) (body:DS->Out) (F:Ent K mg x st ps) (S:FnScope N ps (az st))
  (hb:∀(f:Addr) (cdv:Value) (A:Around) (outer:List Env) (s:Shared) (H:Hp) (E:XK),Room k (A.deeper (envOfC x (az st) s.heap.objs.size f cdv))->PSDs (jf (pM P w) P w K mg base N x (az st) f cdv A outer s H E) (bV st) body) :
  aM P w K mg base (k + 1) x (aW ps.length N.length body):=by
 obtain ⟨f,fd,m,F,B⟩:=F;exact ⟨f,fd,ps,Jp F S (hb f),m,F.kp,B⟩
end
theorem cl {X:Cx} {j k:Nat} {F:List D->Res D} {x:Str} {p pos:Pos} {e:Expr} {es:List Expr} {fs:DS->Res (List D)} (Fn:aM X.prog X.w X.K X.mg X.base j x F) (hr:Room k X.A) (ha:PAD X (e :: es) fs)
  (hj:j<=k:=by first | decide | omega) (hg:Gl X x:=by exact rfl) (hdb:(x == ("__debug__" : Str))=false:=by decide) (he:starEach (e :: es) X.env=(false,eval e X.env) :: starEach es X.env:=by rfl) (hpl:(backTo pos (starEach es X.env)).any (·.1)=false:=by rfl) :
  PD X (.Call (.Name x p) (e :: es) [] pos) (fun δ=>(fs δ).bind F):=by
 obtain ⟨f,fd,ps,a,b,c,d⟩:=Fn;exact lv' (a.mono hj) hr hg b c d ha hdb he hpl
section
variable {X:Cx}
end
mutual
noncomputable def lZ (n:Nat):D->Bool
 | .tup ds=>jk n ds
 | .lst ds=>(ds.length != n) && jk n ds
 | .excf _ _ _=>false
 | _=>true
noncomputable def jk (n:Nat):List D->Bool
 | []=>true
 | d :: ds=>lZ n d && jk n ds
end
mutual
theorem Rep.lsetN {K:Frag} {H:Hp} {a:Addr} {xs ys:List V} {n:Nat} (hH:H a=some (.lst xs)) (hn:xs.length=n):∀{d:D} {v:V},lZ n d=true->Rep K H d v->Rep K (upd H a (.lst ys)) d v
 | .non,v,_,h=>by rw [Rep] at h ⊢; exact h
 | .bl _,v,_,h=>by rw [Rep] at h ⊢; exact h
 | .int _,v,_,h=>by rw [Rep] at h ⊢; exact h
 | .str _,v,_,h=>by rw [Rep] at h ⊢; exact h
 | .lst ds,v,hf,h=>by
  obtain ⟨b,zs,rfl,hq,r⟩:=fP h;rw [lZ,Bool.and_eq_true,bne_iff_ne] at hf;refine qu ?_ (Reps.lsetN hH hn hf.2 r);rcases hq with (hq | ⟨o,hq⟩) | hq
  ·refine .inl (.inl ?_);rw [dU (fun z=>by subst z; rw [hH] at hq; cases hq; exact hf.1 (r.length.symm.trans hn))]; exact hq
  ·exact .inl (.inr ⟨o,by rw [dU (fun z=>by subst z; rw [hH] at hq; cases hq)]; exact hq⟩)
  ·exact .inr hq
 | .tup ds,v,hf,h=>by
  obtain ⟨b,zs,rfl,hq,r⟩:=eE h;rw [lZ] at hf;refine oZ ?_ (Reps.lsetN hH hn hf r);rcases hq with (hq | ⟨o,hq⟩) | hq
  ·exact .inl (.inl (by rw [dU (fun z=>by subst z; rw [hH] at hq; cases hq)]; exact hq))
  ·exact .inl (.inr ⟨o,by rw [dU (fun z=>by subst z; rw [hH] at hq; cases hq)]; exact hq⟩)
  ·exact .inr hq
 | .exc n,v,_,h=>by
  rw [Rep] at h ⊢;obtain ⟨b,C,rfl,hC,hb⟩:=h;exact ⟨b,C,rfl,hC,by rw [dU (fun z=>by subst z; rw [hH] at hb; cases hb)]; exact hb⟩
 | .excf n f d,v,hf,h=>by rw [lZ] at hf; cases hf
 | .dct,v,_,h=>by
  rw [Rep] at h ⊢;obtain ⟨b,rfl,hb⟩:=h;exact ⟨b,rfl,by rw [dU (fun z=>by subst z; rw [hH] at hb; cases hb)]; exact hb⟩
theorem Reps.lsetN {K:Frag} {H:Hp} {a:Addr} {xs ys:List V} {n:Nat} (hH:H a=some (.lst xs)) (hn:xs.length=n):∀{ds:List D} {vs:List V},jk n ds=true->Reps K H ds vs->Reps K (upd H a (.lst ys)) ds vs
 | [],_,_,h=>by cases h.nil_of; exact Reps.nil
 | d :: ds,_,hf,h=>by
  rw [jk,Bool.and_eq_true] at hf;obtain ⟨v,vs,rfl,r,q⟩:=h.cons_of;exact Reps.cons (Rep.lsetN hH hn hf.1 r) (Reps.lsetN hH hn hf.2 q)
end
section
variable {X:Cx} {e:Expr} {es:List Expr} {fe:DS->Res D} {fs:DS->Res (List D)} {x:Str} {pos pos' lp np apos cpos:Pos}
end
noncomputable def iR:List D->Res D
 | [.lst ds]=>.ok (.lst ds)
 | [.tup ds]=>.ok (.lst ds)
 | _=>.stuck
theorem JW (ds:List D):aO (iR ds):=by
 unfold iR
 split <;> first | exact dZ | exact dh
theorem hF' {X:Cx} (E:Value->Shared->Prop):CallR (X.wish E) (.type "list") (fun xs H Q=>∃p ys,xs=[.ref p]/\(SqL X.K H p ys\/SqT X.K H p ys)/\∀l,H l=none->Q (.ref l) (upd H l (.lst ys))):=Ol
theorem JX {X:Cx}:CallD X (.type "list") iR:=.of hF' fun H xs ds d Q r e q=>by
 unfold iR at e
 split at e
 ·rename_i es
  cases e
  obtain ⟨v,vs,rfl,p1,t⟩:=r.cons_of
  cases t.nil_of
  obtain ⟨a,ys,rfl,w1,w2⟩:=fP p1;exact ⟨a,ys,rfl,.inl w1,fun l hl=>q _ _ (i_ hl _) (qu (SqL.of jB) (w2.mono (i_ hl _)))⟩
 ·rename_i es
  cases e
  obtain ⟨v,vs,rfl,p1,t⟩:=r.cons_of
  cases t.nil_of
  obtain ⟨a,ys,rfl,w1,w2⟩:=eE p1;exact ⟨a,ys,rfl,.inr w1,fun l hl=>q _ _ (i_ hl _) (qu (SqL.of jB) (w2.mono (i_ hl _)))⟩
 ·cases e
end DL
namespace DL
open PySem PySem.Spec PyProof.Rows L2
section
variable {K:Frag} {prog:Program} {w:World} {A:Around} {s:Shared} {x D:Addr} {ox od:Obj} {name:Str} {v:Value}
end
section
variable {X:Cx} {e:Expr} {f:DS->Res D} {name:Str} {pos:Pos} {isA:Str->Bool}
end
section
variable {X:Cx} {m:Nat} {fr:List Nat} {N':List Str} {scope:Scope} {cl:List (Str×Addr)} {tg iter elt c:Expr} {pos:Pos} {t:gM} {fc:DS->Res Bool} {fe:DS->Res D} {fi:DS->Res (List D)}
theorem Q_ (i:Nat) {y:Str} {py spos:Pos} (W:Around' X m fr N' scope cl) (hcalm:X.calm=true) (hkt:eQ m t) (hi:PID X tg iter fi) (ht:∀C s H fp,PGD (cA X N' scope cl C s H fp) tg t) (hc:∀C s H fp,PTD (cA X N' scope cl C s H fp) c fc) (he:∀C s H fp,PD (cA X N' scope cl C s H fp) elt fe)
  (hN:X.N.Nodup) (hsw:swapsWith (.ListComp elt [⟨tg,iter,[c],0⟩] scope pos) (some (.Name y py)) spos.line X.env=pure true:=by rfl) (hy:X.N[i]? = some y:=by rfl) (hx:Loc X.env.scope y:=by first | exact Or.inl rfl | exact Or.inr rfl)
  (hfn:X.fn y=true\/X.env.scope.names.lookup y=some .local:=by first | exact .inl rfl | exact .inr rfl | assumption) (hf:∀x,foldedSetIterable iter X.env x=pure x:=by intro _; rfl) :
  PSD X (.Assign [.Name y py] (.ListComp elt [⟨tg,iter,[c],0⟩] scope pos) spos) (aD i (cR m fr t fc fe fi)):=by
 intro pins s σ G H δ I R hs;have hs':cR m fr t fc fe fi δ≠.stuck:=yt hs;rw [exec_Assign_Name_used _ _ _ _ hsw];refine wpAny_bind (wpAny_standAt (wpAny_bind ?_));show wpAny _ X.A (do let _ <- comprehension (.ListComp elt [⟨tg,iter,[c],0⟩] scope pos) scope X.env _ (newList []) false (eval iter X.env) (some (assign (.Name y py) X.env))) _ _ s
 refine wpAny_bind (wpAny_mono (wpAny_comprehension_free (use:=some (assign (.Name y py) X.env)) (Q:=fun _ s'=>SPost X pins G H (aD i (cR m fr t fc fe fi) δ) .next s') rfl hf W.clos W.kind W.names
  (Jt (cs:=[c]) W hcalm hkt hi ht (Nat.le_refl 1) hc he I R hs' (fun e s1 q=>q.sx R fun x z=>by unfold aD; rw [z]; rfl) (RR:=fun acc C=>compPost _ _ _ (some (assign (.Name y py) X.env)) _ acc C) ?_)) (fun _ s' hq=>wpAny_pure (wpAny_pure hq)) fun _ _ e=>e)
 intro a C s' H' ds xs mC ev J e' ha hx' hr hns hC hCa hC0 hCf hCl hCc hCp;show wpAny _ X.A (assign (.Name y py) X.env (.ref a)) _ _ _;refine wpAny_assign_Name (Dg J hN hy hx (v:=.ref a) (u:=.ref a) rfl (fun s2 I2 ⟨b,sb,hb⟩=>?_) hfn);have hbC:C≠b:=by
  rcases hb with z | z
  ·rw [z]; exact hCl
  ·exact fun w=>hCc _ _ z w.symm
 refine ⟨mC,hns.sameBut sb hbC,fun h' hs'=>?_⟩;refine ⟨_,_,H',by unfold aD; rw [ev]; rfl,I2.but (t':=s2.toks) hC hC0 hCl hCc hCp hs',e'.tk,(R.mono e').set i (qu (SqL.of hx') hr)⟩
end
noncomputable def d9:D->List D->Res D
 | .str x,[]=>if Builtin.Str.tooLong (Txt.upper x).length=false then .ok (.str (Txt.upper x)) else .stuck
 | _,_=>.stuck
theorem Ra (d:D) (ds:List D):aO (d9 d ds):=by
 unfold d9
 split
 ·exact kE dZ dh
 ·exact dh
theorem Rb {X:Cx}:zr X "str.upper" d9:=by
 intro E pins s σ H x xs v us a ds d I r1 r2 p1 p2 e;unfold d9 at e
 split at e
 ·rename_i x
  split at e
  ·rename_i hp
   cases e
   rw [lR p1] at r1;obtain ⟨t,rfl⟩:=r1
   cases p2.nil_of
   cases r2
   exact PySem.SC.upper hp ⟨_,.str _,H,rfl,I.tok _,⟨_,rfl⟩,Same.refl H,zx⟩
  ·cases e
 ·cases e
theorem Rc {X:Cx} {o:Expr} {fo:DS->Res D} {apos cpos:Pos} (ho:PD X o fo) (hbase:attributeBase o "upper" X.env (eval o X.env)=eval o X.env:=by rfl) (hline:(apos.endLine == cpos.line)=true:=by rfl) :
  PD X (.Call (.Attribute o "upper" apos) [] [] cpos) (fun δ=>(fo δ).bind fun d=>d9 d []) :=
 JB PySem.F.plainAttrs_str PySem.F.slot_str_upper PySem.F.type_str_upper Rb Ra (fun d ds r h=>by
  unfold d9 at h
  split at h
  ·rfl
  ·cases h) ho hbase hline
end DL
namespace Mine
noncomputable def ql:Nat->Nat
 | 0=>0
 | n + 1=>if (ql n + 1) * (ql n + 1)<=n + 1 then ql n + 1 else ql n
theorem Rf (n:Nat):ql n * ql n<=n/\n < (ql n + 1) * (ql n + 1):=by
 induction n with
 | zero=>exact ⟨Nat.le_refl 0,by decide⟩
 | succ n ih =>
  obtain ⟨lo,hi⟩:=ih;rw [ql];generalize ql n=k at *
  by_cases h:(k + 1) * (k + 1)<=n + 1
  ·rw [if_pos h];refine ⟨h,?_⟩;have e:(k + 1 + 1) * (k + 1 + 1)=(k + 1) * (k + 1) + 2 * k + 3:=by
    rw [Nat.add_mul,Nat.mul_add (k + 1) (k + 1) 1]; omega
   omega
  ·rw [if_neg h];omega
noncomputable def bL (n:Int):Int:=(ql n.toNat:Nat)
theorem zM (n:Int):0<=bL n:=Int.natCast_nonneg _
theorem yD {n:Int} (h:0<=n):bL n * bL n<=n/\n < (bL n + 1) * (bL n + 1):=by
 obtain ⟨a,b⟩:=Rf n.toNat;unfold bL;generalize ql n.toNat=k at *;have e:((k:Int) * k)=((k * k:Nat):Int):=by simp
 have e2:(((k:Int) + 1) * ((k:Int) + 1))=(((k + 1) * (k + 1):Nat):Int):=by simp
 rw [e,e2];omega
theorem JZ {a b:Int} (hb:0<=b) (h:a * a < (b + 1) * (b + 1)):a<=b:=by
 by_cases c:a<=b
 ·exact c
 ·have p:b + 1<=a:=by omega
  have q:=Int.mul_le_mul p p (by omega) (by omega);omega
theorem zN (n:Int):Int.fdiv n 2=n / 2:=Int.fdiv_eq_ediv_of_nonneg n (by decide)
theorem nD' {n g:Int} (hn:0<=n) (hg:bL n<=g) (h:n < g * g) (g0:0<=g) :
  bL n<=Int.fdiv (g + Int.fdiv n g) 2/\0<=Int.fdiv (g + Int.fdiv n g) 2/\Int.fdiv (g + Int.fdiv n g) 2 < g/\0 < g:=by
 have gp:0 < g:=by
  rcases Int.lt_or_eq_of_le g0 with c | c
  ·exact c
  ·rw [<- c] at h; omega
 obtain ⟨a,_⟩:=yD hn;have r0:=zM n;rw [zN,Int.fdiv_eq_ediv_of_nonneg n g0];generalize bL n=r at *;have q1:n / g < g:=Int.ediv_lt_of_lt_mul gp h;have q0:0<=n / g:=Int.ediv_nonneg hn g0;have sq:0<=(g - r) * (g - r):=Int.mul_nonneg (by omega) (by omega);have ex:(g - r) * (g - r)=g * g - 2 * (g * r) + r * r:=by
  rw [Int.sub_mul,Int.mul_sub,Int.mul_sub,Int.mul_comm r g]; omega
 have DN:(2 * r - g) * g=2 * (g * r) - g * g:=by
  rw [Int.sub_mul,Int.mul_assoc,Int.mul_comm r g]
 have q2:2 * r - g<=n / g:=(Int.le_ediv_iff_mul_le gp).mpr (by omega);omega
theorem hG' {n g:Int} (hn:0<=n) (hg:bL n<=g) (h:¬n < g * g) (g0:0<=g):g=bL n:=by
 obtain ⟨_,b⟩:=yD hn;have:=JZ (zM n) (Int.lt_of_le_of_lt (by omega:g * g<=n) b);omega
noncomputable def cm (a b:Int):Int:=(Int.gcd a b:Nat)
theorem Rg {a b:Int} (ha:0<=a) (hb:0<=b):cm b (Int.fmod a b)=cm a b:=by
 unfold cm;rw [Int.fmod_eq_emod_of_nonneg a hb]
 congr 1
 obtain ⟨x,rfl⟩:=Int.eq_ofNat_of_zero_le ha;obtain ⟨y,rfl⟩:=Int.eq_ofNat_of_zero_le hb;rw [<- Int.natCast_emod];simp only [Int.gcd,Int.natAbs_natCast];rw [Nat.gcd_comm y (x % y),<- Nat.gcd_rec,Nat.gcd_comm]
theorem Rh {a:Int} (ha:0<=a):cm a 0=a:=by
 unfold cm; rw [Int.gcd_zero_right]; omega
theorem nE' (a b:Int):cm (a.natAbs:Int) (b.natAbs:Int)=cm a b:=by
 unfold cm; simp [Int.gcd]
end Mine
namespace DL
open PySem PySem.Spec PyProof.Rows L2
theorem ap_seq (a b:DS->Out) (δ:DS):aB a b δ=(a δ).seq b:=Eq.trans rfl rfl
theorem bnd_ok {α β:Type} (a:α) (f:α->Res β):(Res.ok a).bind f=f a:=Eq.trans rfl rfl
theorem sq_nxt (δ:DS) (g:DS->Out):(Out.nxt δ).seq g=g δ:=Eq.trans rfl rfl
theorem sq_ret (d:D) (g:DS->Out):(Out.ret d).seq g=.ret d:=Eq.trans rfl rfl
theorem sq_err (x:Exn) (δ:DS) (g:DS->Out):(Out.err x δ).seq g=.err x δ:=Eq.trans rfl rfl
theorem ap_set (i:Nat) (f:DS->Res D) (δ:DS):aD i f δ=kI (f δ) δ fun d=>.nxt (δ.set i (some (.val d))):=Eq.trans rfl rfl
theorem on_ok (d:D) (δ:DS) (k:D->Out):kI (.ok d) δ k=k d:=Eq.trans rfl rfl
theorem on_err (x:Exn) (δ:DS) (k:D->Out):kI (.err x) δ k=.err x δ:=Eq.trans rfl rfl
theorem ont_ok (c:Bool) (δ:DS) (k:Bool->Out):wL (.ok c) δ k=k c:=Eq.trans rfl rfl
theorem onl_ok (ds:List D) (k:List D->Out):Dn (.ok ds) k=k ds:=Eq.trans rfl rfl
theorem ap_if (t:DS->Res Bool) (a b:DS->Out) (δ:DS):bG t a b δ=wL (t δ) δ fun k=>if k=true then a δ else b δ:=Eq.trans rfl rfl
theorem ap_two (fa fb:DS->Res D) (g:D->D->Res D) (δ:DS):two fa fb g δ=(fa δ).bind fun x=>(fb δ).bind fun y=>g x y:=Eq.trans rfl rfl
theorem ap_bF {α:Type} (f:DS->Res α) (g:α->Res D) (δ:DS):ao f g δ=(f δ).bind g:=Eq.trans rfl rfl
theorem ap_bT (f:DS->Res D) (g:D->Res Bool) (δ:DS):aF f g δ=(f δ).bind g:=Eq.trans rfl rfl
theorem ap_bL (f:DS->Res D) (g:D->Res (List D)) (δ:DS):bindL f g δ=(f δ).bind g:=Eq.trans rfl rfl
theorem ap_bR (f:DS->Res (List D)) (g:List D->Res (List D)) (δ:DS):cC f g δ=(f δ).bind g:=Eq.trans rfl rfl
theorem ap_cons (f:DS->Res D) (fs:DS->Res (List D)) (δ:DS):aj f fs δ=(f δ).bind fun d=>(fs δ).bind fun ds=>.ok (d :: ds):=Eq.trans rfl rfl
theorem ap_tup (f:DS->Res (List D)) (δ:DS):aQ f δ=jF (f δ):=Eq.trans rfl rfl
theorem ap_lst (f:DS->Res (List D)) (δ:DS):fU f δ=fD (f δ):=Eq.trans rfl rfl
theorem ap_ret (f:DS->Res D) (δ:DS):aH f δ=kI (f δ) δ Out.ret:=Eq.trans rfl rfl
theorem ap_neg (f:DS->Res D) (δ:DS):fH f δ=(f δ).bind pO:=Eq.trans rfl rfl
theorem neg_ok (i:Int):pO (.int i)=.ok (.int (-i)):=Eq.trans rfl rfl
theorem ap_notT (f:DS->Res Bool) (δ:DS):dI f δ=(f δ).bind fun c=>.ok (!c):=Eq.trans rfl rfl
theorem ap_andT (f g:DS->Res Bool) (δ:DS):jh f g δ=(f δ).bind fun c=>if c=true then g δ else .ok false:=Eq.trans rfl rfl
theorem ap_orT (f g:DS->Res Bool) (δ:DS):gU f g δ=(f δ).bind fun c=>if c=true then .ok true else g δ:=Eq.trans rfl rfl
theorem ap_andV (f g:DS->Res D) (δ:DS):gw f g δ=(f δ).bind fun x=>(aG x).bind fun c=>if c=true then g δ else .ok (.bl false):=Eq.trans rfl rfl
theorem ap_ifD (t:DS->Res Bool) (f g:DS->Res D) (δ:DS):yr t f g δ=(t δ).bind fun c=>if c=true then f δ else g δ:=Eq.trans rfl rfl
theorem ap_for (t:gM) (fi:DS->Res (List D)) (b:DS->Out) (δ:DS):kJ t fi b δ=Dn (fi δ) fun ds=>e_ (dg t b ds (thaw δ)):=Eq.trans rfl rfl
theorem ap_slice (fe:DS->Res D) (fl fu:DS->Res (Option Int)) (δ:DS):bz fe fl fu δ=(fe δ).bind fun d=>(fl δ).bind fun l=>(fu δ).bind fun u=>cutD d l u:=Eq.trans rfl rfl
theorem ap_part (f:DS->Res D) (δ:DS):bJ f δ=(f δ).bind qC:=Eq.trans rfl rfl
theorem ap_noPart (δ:DS):bC δ=.ok none:=Eq.trans rfl rfl
theorem part_int (i:Int):qC (.int i)=.ok (some i):=Eq.trans rfl rfl
theorem out_ret (d:D):outD (.ret d)=.ok d:=Eq.trans rfl rfl
theorem out_err (x:Exn) (δ:DS):outD (.err x δ)=.err x:=Eq.trans rfl rfl
theorem cmp_ok (p:Int->Int->Bool) (i j:Int):gW p (.int i) (.int j)=.ok (.bl (p i j)):=Eq.trans rfl rfl
theorem add_ok (i j:Int):aN (.int i) (.int j)=.ok (.int (i + j)):=Eq.trans rfl rfl
theorem sub_ok (i j:Int):iu (.int i) (.int j)=.ok (.int (i - j)):=Eq.trans rfl rfl
theorem bool_ok (b:Bool):aG (.bl b)=.ok b:=Eq.trans rfl rfl
theorem truth_bl (b:Bool):aV (.bl b)=.ok b:=Eq.trans rfl rfl
theorem abs_ok (i:Int):lV [.int i]=.ok (.int (i.natAbs:Nat)):=by
 show Res.ok (D.int _)=_
 congr 2
 split <;> omega
theorem len_tup (ds:List D):a_ [.tup ds]=.ok (.int ds.length):=Eq.trans rfl rfl
theorem len_lst (ds:List D):a_ [.lst ds]=.ok (.int ds.length):=Eq.trans rfl rfl
theorem tuple_lst (ds:List D):cW [.lst ds]=.ok (.tup ds):=Eq.trans rfl rfl
theorem seq_tup (ds:List D):aZ (.tup ds)=.ok ds:=Eq.trans rfl rfl
theorem seq_lst (ds:List D):aZ (.lst ds)=.ok ds:=Eq.trans rfl rfl
theorem vw_val (d:D):SV.view (.val d)=d:=Eq.trans rfl rfl
theorem vw_arg (d:D):SV.view (.arg d)=d:=Eq.trans rfl rfl
theorem eqI (a b:Int):cH (.int a) (.int b)=.ok (.bl (decide (a=b))):=Eq.trans rfl rfl
theorem neI (a b:Int):fQ (.int a) (.int b)=.ok (.bl (!decide (a=b))):=Eq.trans rfl rfl
theorem dJ {a b:Int} (h:b≠0):aY (.int a) (.int b)=.ok (.int (Int.fmod a b)):=by unfold aY; exact if_pos h
theorem wU {a b:Int} (h:a.natAbs < 2 ^ 1000) (h2:b.natAbs < 2 ^ 1000):dj (.int a) (.int b)=.ok (.int (a * b)):=by
 unfold dj;have e:1000<=2 ^ 20:=by decide
 exact if_pos (.inl ⟨Nat.le_trans (intBits_le h) e,Nat.le_trans (intBits_le h2) e⟩)
theorem wV {a b:Int} (h:b.natAbs < 2 ^ 64):dj (.int a) (.int b)=.ok (.int (a * b)):=by
 unfold dj;exact if_pos (.inr (.inr (intBits_le h)))
theorem mulE_i (a b:Int):bR (.int a) (.int b)=dj (.int a) (.int b):=Eq.trans rfl rfl
theorem Ri (fuel:DS->Nat) (c:DS->Res Bool) (b:DS->Out) (δ:DS):jj fuel c b δ=bK c b (fuel δ) δ:=Eq.trans rfl rfl
theorem Rj {y:Int} (h:y.natAbs < 2 ^ 8000):y.natAbs.log2 < 9000:=by
 by_cases c:y.natAbs=0
 ·rw [c]; decide
 ·have:=(Nat.log2_lt c).mpr h; omega
theorem pQ {a b:Int} (h:b≠0) (h2:b.natAbs < 2 ^ 8000):aL (.int a) (.int b)=.ok (.int (Int.fdiv a b)):=by
 unfold aL; exact if_pos ⟨h,PyProof.noPylong_of_log2 (Rj h2)⟩
theorem cN0:((0:Nat):Int)=0:=Eq.trans rfl rfl
theorem cN1:((1:Nat):Int)=1:=Eq.trans rfl rfl
theorem cN2:((2:Nat):Int)=2:=Eq.trans rfl rfl
theorem cN3:((3:Nat):Int)=3:=Eq.trans rfl rfl
theorem cN4:((4:Nat):Int)=4:=Eq.trans rfl rfl
theorem sl0 (sv:SV) (r:DS):ak 0 (some sv :: r)=.ok sv.view:=Eq.trans rfl rfl
theorem st0 (y x:Option SV) (r:DS):List.set (y :: r) 0 x=x :: r:=Eq.trans rfl rfl
theorem sl1 (a0:Option SV) (sv:SV) (r:DS):ak 1 (a0 :: some sv :: r)=.ok sv.view:=Eq.trans rfl rfl
theorem st1 (a0:Option SV) (y x:Option SV) (r:DS):List.set (a0 :: y :: r) 1 x=a0 :: x :: r:=Eq.trans rfl rfl
theorem sl2 (a0 a1:Option SV) (sv:SV) (r:DS):ak 2 (a0 :: a1 :: some sv :: r)=.ok sv.view:=Eq.trans rfl rfl
theorem st2 (a0 a1:Option SV) (y x:Option SV) (r:DS):List.set (a0 :: a1 :: y :: r) 2 x=a0 :: a1 :: x :: r:=Eq.trans rfl rfl
theorem sl3 (a0 a1 a2:Option SV) (sv:SV) (r:DS):ak 3 (a0 :: a1 :: a2 :: some sv :: r)=.ok sv.view:=Eq.trans rfl rfl
theorem st3 (a0 a1 a2:Option SV) (y x:Option SV) (r:DS):List.set (a0 :: a1 :: a2 :: y :: r) 3 x=a0 :: a1 :: a2 :: x :: r:=Eq.trans rfl rfl
theorem sl4 (a0 a1 a2 a3:Option SV) (sv:SV) (r:DS):ak 4 (a0 :: a1 :: a2 :: a3 :: some sv :: r)=.ok sv.view:=Eq.trans rfl rfl
theorem st4 (a0 a1 a2 a3:Option SV) (y x:Option SV) (r:DS):List.set (a0 :: a1 :: a2 :: a3 :: y :: r) 4 x=a0 :: a1 :: a2 :: a3 :: x :: r:=Eq.trans rfl rfl
theorem sl5 (a0 a1 a2 a3 a4:Option SV) (sv:SV) (r:DS):ak 5 (a0 :: a1 :: a2 :: a3 :: a4 :: some sv :: r)=.ok sv.view:=Eq.trans rfl rfl
theorem st5 (a0 a1 a2 a3 a4:Option SV) (y x:Option SV) (r:DS):List.set (a0 :: a1 :: a2 :: a3 :: a4 :: y :: r) 5 x=a0 :: a1 :: a2 :: a3 :: a4 :: x :: r:=Eq.trans rfl rfl
theorem sl6 (a0 a1 a2 a3 a4 a5:Option SV) (sv:SV) (r:DS):ak 6 (a0 :: a1 :: a2 :: a3 :: a4 :: a5 :: some sv :: r)=.ok sv.view:=Eq.trans rfl rfl
theorem st6 (a0 a1 a2 a3 a4 a5:Option SV) (y x:Option SV) (r:DS):List.set (a0 :: a1 :: a2 :: a3 :: a4 :: a5 :: y :: r) 6 x=a0 :: a1 :: a2 :: a3 :: a4 :: a5 :: x :: r:=Eq.trans rfl rfl
theorem sl7 (a0 a1 a2 a3 a4 a5 a6:Option SV) (sv:SV) (r:DS):ak 7 (a0 :: a1 :: a2 :: a3 :: a4 :: a5 :: a6 :: some sv :: r)=.ok sv.view:=Eq.trans rfl rfl
theorem st7 (a0 a1 a2 a3 a4 a5 a6:Option SV) (y x:Option SV) (r:DS):List.set (a0 :: a1 :: a2 :: a3 :: a4 :: a5 :: a6 :: y :: r) 7 x=a0 :: a1 :: a2 :: a3 :: a4 :: a5 :: a6 :: x :: r:=Eq.trans rfl rfl
theorem sl8 (a0 a1 a2 a3 a4 a5 a6 a7:Option SV) (sv:SV) (r:DS):ak 8 (a0 :: a1 :: a2 :: a3 :: a4 :: a5 :: a6 :: a7 :: some sv :: r)=.ok sv.view:=Eq.trans rfl rfl
theorem st8 (a0 a1 a2 a3 a4 a5 a6 a7:Option SV) (y x:Option SV) (r:DS):List.set (a0 :: a1 :: a2 :: a3 :: a4 :: a5 :: a6 :: a7 :: y :: r) 8 x=a0 :: a1 :: a2 :: a3 :: a4 :: a5 :: a6 :: a7 :: x :: r:=Eq.trans rfl rfl
theorem sl9 (a0 a1 a2 a3 a4 a5 a6 a7 a8:Option SV) (sv:SV) (r:DS):ak 9 (a0 :: a1 :: a2 :: a3 :: a4 :: a5 :: a6 :: a7 :: a8 :: some sv :: r)=.ok sv.view:=Eq.trans rfl rfl
theorem st9 (a0 a1 a2 a3 a4 a5 a6 a7 a8:Option SV) (y x:Option SV) (r:DS):List.set (a0 :: a1 :: a2 :: a3 :: a4 :: a5 :: a6 :: a7 :: a8 :: y :: r) 9 x=a0 :: a1 :: a2 :: a3 :: a4 :: a5 :: a6 :: a7 :: a8 :: x :: r:=Eq.trans rfl rfl
theorem sl10 (a0 a1 a2 a3 a4 a5 a6 a7 a8 a9:Option SV) (sv:SV) (r:DS):ak 10 (a0 :: a1 :: a2 :: a3 :: a4 :: a5 :: a6 :: a7 :: a8 :: a9 :: some sv :: r)=.ok sv.view:=Eq.trans rfl rfl
theorem st10 (a0 a1 a2 a3 a4 a5 a6 a7 a8 a9:Option SV) (y x:Option SV) (r:DS):List.set (a0 :: a1 :: a2 :: a3 :: a4 :: a5 :: a6 :: a7 :: a8 :: a9 :: y :: r) 10 x=a0 :: a1 :: a2 :: a3 :: a4 :: a5 :: a6 :: a7 :: a8 :: a9 :: x :: r:=Eq.trans rfl rfl
theorem tup0:jF (.ok [])=.ok (.tup []):=Eq.trans rfl rfl
theorem tup1 (x0:D):jF (.ok [x0])=.ok (.tup [x0]):=Eq.trans rfl rfl
theorem lst1 (x0:D):fD (.ok [x0])=.ok (.lst [x0]):=Eq.trans rfl rfl
theorem tup2 (x0 x1:D):jF (.ok [x0,x1])=.ok (.tup [x0,x1]):=Eq.trans rfl rfl
theorem lst2 (x0 x1:D):fD (.ok [x0,x1])=.ok (.lst [x0,x1]):=Eq.trans rfl rfl
theorem tup3 (x0 x1 x2:D):jF (.ok [x0,x1,x2])=.ok (.tup [x0,x1,x2]):=Eq.trans rfl rfl
theorem lst3 (x0 x1 x2:D):fD (.ok [x0,x1,x2])=.ok (.lst [x0,x1,x2]):=Eq.trans rfl rfl
theorem tup4 (x0 x1 x2 x3:D):jF (.ok [x0,x1,x2,x3])=.ok (.tup [x0,x1,x2,x3]):=Eq.trans rfl rfl
theorem lst4 (x0 x1 x2 x3:D):fD (.ok [x0,x1,x2,x3])=.ok (.lst [x0,x1,x2,x3]):=Eq.trans rfl rfl
theorem lst5 (x0 x1 x2 x3 x4:D):fD (.ok [x0,x1,x2,x3,x4])=.ok (.lst [x0,x1,x2,x3,x4]):=Eq.trans rfl rfl
theorem lst6 (x0 x1 x2 x3 x4 x5:D):fD (.ok [x0,x1,x2,x3,x4,x5])=.ok (.lst [x0,x1,x2,x3,x4,x5]):=Eq.trans rfl rfl
theorem tup8 (x0 x1 x2 x3 x4 x5 x6 x7:D):jF (.ok [x0,x1,x2,x3,x4,x5,x6,x7])=.ok (.tup [x0,x1,x2,x3,x4,x5,x6,x7]):=Eq.trans rfl rfl
theorem ix_tup (ds:List D) (k:Nat) (d:D) (h:ds[k]? = some d):aR (.tup ds) (.int (k:Int))=.ok d:=by
 have hk:k < ds.length:=by
  rcases Nat.lt_or_ge k ds.length with z | z
  ·exact z
  ·rw [List.getElem?_eq_none z] at h; cases h
 have e:jg ds (k:Int)=some d:=by
  unfold jg jO;rw [if_pos (Int.natCast_nonneg k),if_pos (by omega)];simpa using h
 show (match jg ds (k:Int) with | some d=>Res.ok d | none=>.stuck)=_
 rw [e]
theorem ix_tup0 (x0:D) (r:List D):aR (.tup (x0 :: r)) (.int 0)=.ok x0:=ix_tup _ 0 _ rfl
theorem ix_tup1 (x0 x1:D) (r:List D):aR (.tup (x0 :: x1 :: r)) (.int 1)=.ok x1:=ix_tup _ 1 _ rfl
theorem ix_tup2 (x0 x1 x2:D) (r:List D):aR (.tup (x0 :: x1 :: x2 :: r)) (.int 2)=.ok x2:=ix_tup _ 2 _ rfl
theorem ix_tup3 (x0 x1 x2 x3:D) (r:List D):aR (.tup (x0 :: x1 :: x2 :: x3 :: r)) (.int 3)=.ok x3:=ix_tup _ 3 _ rfl
theorem Dv (ds:List D) (k:Nat) (d:D) (h:ds[k]? = some d):aR (.lst ds) (.int (k:Int))=.ok d:=by
 have hk:k < ds.length:=by
  rcases Nat.lt_or_ge k ds.length with z | z
  ·exact z
  ·rw [List.getElem?_eq_none z] at h; cases h
 have e:jg ds (k:Int)=some d:=by
  unfold jg jO;rw [if_pos (Int.natCast_nonneg k),if_pos (by omega)];simpa using h
 show (match jg ds (k:Int) with | some d=>Res.ok d | none=>.stuck)=_
 rw [e]
theorem ix_lst0 (x0:D) (r:List D):aR (.lst (x0 :: r)) (.int 0)=.ok x0:=Dv _ 0 _ rfl
theorem ix_lst1 (x0 x1:D) (r:List D):aR (.lst (x0 :: x1 :: r)) (.int 1)=.ok x1:=Dv _ 1 _ rfl
theorem fd' {fe:DS->Res D} {rest:DS} {g:Int->D}:∀(ts:List Int),(∀t∈ts,fe (some (.val (.int t)) :: rest)=.ok (g t))->mapR (fG (bO 0) fe (none :: rest)) (ts.map .int)=.ok (ts.map g)
 | [],_=>rfl
 | t :: ts,h=>by
  have e:fG (bO 0) fe (none :: rest) (.int t)=.ok (g t):=by
   show (match fe (some (.val (.int t)) :: rest) with | .ok x=>Res.ok x | _=>.stuck)=_
   rw [h t (by simp)]
  rw [map_cons,mapR,e,Res.bind_ok,fd' ts (fun u hu=>h u (mem_cons_of_mem _ hu)),Res.bind_ok]; rfl
theorem yE {fe:DS->Res D} {fi:DS->Res (List D)} {fr:List Nat} {δ rest:DS} {ts:List Int} {g:Int->D} (hi:fi δ=.ok (ts.map .int)) (hr:cQ 1 fr δ=none :: rest) (hl:ts.length<=sizeLine) (h:∀t∈ts,fe (some (.val (.int t)) :: rest)=.ok (g t)) :
  bD 1 fr (bO 0) fe fi δ=.ok (.lst (ts.map g)):=by
 unfold bD;rw [hi,Res.bind_ok,hr,fd' ts h];unfold fD;rw [Res.bind_ok,if_pos (by simpa using hl)]
theorem J0 (lo:Int):∀(n:Nat),cL lo n=((List.range n).map fun k=>D.int (lo + (k:Nat)))
 | 0=>rfl
 | n + 1=>by
  rw [cL,J0 (lo + 1) n,range_succ_eq_map,map_cons,map_map]
  congr 1
  ·simp
  ·refine map_congr_left fun k _=>?_;simp only [Function.comp,D.int.injEq]; omega
theorem Gh {b:DS->Out} {i:Nat} {f:Int->Int->Int} (st:Int->Option SV->DS) (h:∀acc z t,b ((st acc z).set i (some (.val (.int t))))=.nxt (st (f acc t) (some (.val (.int t))))) :
  ∀(ts:List Int) (acc:Int) (z:Option SV),∃z',dg (bO i) b (ts.map .int) (st acc z)=.nxt (st (ts.foldl f acc) z')
 | [],acc,z=>⟨z,rfl⟩
 | t :: ts,acc,z=>by
  obtain ⟨z',e⟩:=Gh st h ts (f acc t) (some (.val (.int t)));refine ⟨z',?_⟩;rw [map_cons,dg];show (match b ((st acc z).set i (some (.val (.int t)))) with | .nxt δ'=>_ | .cnt δ'=>_ | .brk δ'=>_ | .ret d=>_ | _=>_)=_
  rw [h];exact e
end DL
namespace Mine
open PySem DL
noncomputable def gN (n:Nat) (ts:List Int):Nat:=ts.foldl (fun s t=>Nat.gcd s t.natAbs) n
theorem vg (n:Nat) (t:Int) (ts:List Int):gN n (t :: ts)=gN (Nat.gcd n t.natAbs) ts:=rfl
theorem J1:∀(ts:List Int) (n:Nat),ts.foldl cm (n:Int)=(gN n ts:Nat)
 | [],_=>rfl
 | t :: ts,n=>by
  rw [foldl_cons,vg,<- J1 ts (Nat.gcd n t.natAbs)]
  congr 1
theorem Rk (ts:List Int) (b:Int) (h:ts≠[]):ts.foldl cm b=(gN b.natAbs ts:Nat):=by
 cases ts with
 | nil=>exact (h rfl).elim
 | cons t ts=>rw [foldl_cons,vg,<- J1 ts]; congr 1
theorem zO (K:Int):∀(ts:List Int) (n:Nat),gN (K.natAbs * n) (ts.map (K * ·))=K.natAbs * gN n ts
 | [],_=>rfl
 | t :: ts,n=>by
  rw [map_cons,vg,vg,Int.natAbs_mul,Nat.gcd_mul_left,zO K ts]
theorem Gi:∀(ts:List Int) (n:Nat),gN n ts ∣ n/\∀t∈ts,gN n ts ∣ t.natAbs
 | [],n=>⟨Nat.dvd_refl n,fun t h=>by cases h⟩
 | t :: ts,n=>by
  obtain ⟨a,b⟩:=Gi ts (Nat.gcd n t.natAbs);rw [vg];refine ⟨Nat.dvd_trans a (Nat.gcd_dvd_left _ _),fun u hu=>?_⟩;rcases mem_cons.mp hu with z | z
  ·subst z; exact Nat.dvd_trans a (Nat.gcd_dvd_right _ _)
  ·exact b u z
theorem Rm {n:Nat} (ts:List Int) (h:0 < n):0 < gN n ts:=Nat.pos_of_dvd_of_pos (Gi ts n).1 h
structure Nf (ts:List Int) (b:Int):Prop where
 pos:0 < b
 one:gN b.natAbs ts=1
theorem J2 (ts:List Int) {b:Int} (hb:b≠0):∃(K:Int) (ts':List Int) (b':Int),K≠0/\ts=ts'.map (K * ·)/\b=K * b'/\Nf ts' b'/\ts'.length=ts.length:=by
 have hp:0 < gN b.natAbs ts:=Rm ts (by omega);obtain ⟨d1,d2⟩:=Gi ts b.natAbs;generalize hg:gN b.natAbs ts=g at *;have hK:∃K:Int,K.natAbs=g/\0 < K * b:=by
  rcases Int.lt_or_gt_of_ne hb with c | c
  ·refine ⟨-(g:Int),by omega,?_⟩;exact Int.mul_pos_of_neg_of_neg (by omega) c
  ·exact ⟨(g:Int),by omega,Int.mul_pos (by omega) c⟩
 obtain ⟨K,k1,k2⟩:=hK;have k0:K≠0:=by omega
 have kd:∀t:Int,g ∣ t.natAbs->K * (t / K)=t:=fun t h=>Int.mul_ediv_cancel' (by rw [<- Int.natAbs_dvd_natAbs,k1]; exact h);have eb:K * (b / K)=b:=kd b d1;have et:(ts.map (· / K)).map (K * ·)=ts:=by
  rw [map_map];have:∀t∈ts,((K * ·) ∘ (· / K)) t=t:=fun t ht=>kd t (d2 t ht);rw [map_congr_left this]; simp
 refine ⟨K,ts.map (· / K),b / K,k0,et.symm,eb.symm,⟨?_,?_⟩,by simp⟩
 ·rcases Int.lt_or_le 0 (b / K) with c | c
  ·exact c
  ·exfalso;have:K * b=K * K * (b / K):=by rw [Int.mul_assoc,eb]
   have h2:0<=K * K:=by
    rcases Int.le_total 0 K with z | z
    ·exact Int.mul_nonneg z z
    ·exact Int.mul_nonneg_of_nonpos_of_nonpos z z
   have:=Int.mul_nonpos_of_nonneg_of_nonpos h2 c;omega
 ·have e:=zO K (ts.map (· / K)) (b / K).natAbs;rw [et,<- Int.natAbs_mul,eb,hg,k1] at e;have:g * gN (b / K).natAbs (ts.map (· / K))=g * 1:=by omega
  exact Nat.eq_of_mul_eq_mul_left hp this
theorem Gj (K t:Int) (h:K≠0):Int.fdiv (K * t) K=t:=Int.mul_fdiv_cancel_left t h
theorem J3 {ts:List Int} {b K:Int} (h:Nf ts b) (hK:K≠0) (hts:ts≠[]):(ts.map (K * ·)).foldl cm (K * b)=(K.natAbs:Nat):=by
 rw [Rk _ _ (by simpa using hts),Int.natAbs_mul,zO,h.one,Nat.mul_one]
theorem hH' (n:Nat):Nf (List.replicate n 0) 1:=by
 refine ⟨by decide,?_⟩;have:∀n,gN 1 (List.replicate n 0)=1:=by
  intro n
  induction n with
  | zero=>rfl
  | succ n ih=>rw [replicate_succ,vg]; exact ih
 exact this n
abbrev num (ts:List Int) (b:Int):D:=.tup [.tup (ts.map .int),.int b]
theorem J4 (ts:List Int):iC (ts.map .int)=ts.map PyData.int:=by
 induction ts with
 | nil=>rfl
 | cons t ts ih=>simp only [map_cons,iC,gO,ih]
theorem Gk (n:Nat) (ts:List Int):(ts.map D.int).all (ig n)=true:=by
 induction ts with
 | nil=>rfl
 | cons t ts ih =>
  simp only [map_cons,all_cons,ih,Bool.and_true]
  cases n <;> rfl
theorem Gm:∀(a b:List Int),PyData.eqvAll (a.map PyData.int) (b.map PyData.int)=decide (a=b)
 | [],[]=>rfl
 | [],y :: ys=>by simp [PyData.eqvAll]
 | x :: xs,[]=>by simp [PyData.eqvAll]
 | x :: xs,y :: ys=>by
  have e:PyData.eqv (.int x) (.int y)=decide (x=y):=rfl;simp only [map_cons,PyData.eqvAll,e,Gm xs ys,List.cons.injEq]
  by_cases h1:x=y <;> by_cases h2:xs=ys <;> simp [h1,h2]
theorem Rn (a b:List Int):cH (.tup (a.map .int)) (.tup (b.map .int))=.ok (.bl (decide (a=b))):=by
 unfold cH;rw [if_pos ⟨Gk 7 a,Gk 7 b⟩];simp only [gO,J4,PyData.eqv,Gm]
theorem J5 (a:List Int) (p:Int):ig 8 (num a p)=true:=by
 show ([D.tup (a.map .int),D.int p]:List D).all (ig 7)=true;simp only [all_cons,all_nil,Bool.and_true];rw [show ig 7 (D.tup (a.map .int))=(a.map D.int).all (ig 6) from rfl,Gk]; rfl
theorem Ro (a b:List Int) (p q:Int):PyData.eqv (gO (num a p)) (gO (num b q))=(decide (a=b) && decide (p=q)):=by
 simp only [gO,iC,J4,PyData.eqv,PyData.eqvAll,Gm,Bool.and_true];rfl
theorem zP (a b:List Int) (p q:Int):cH (num a p) (num b q)=.ok (.bl (decide (a=b) && decide (p=q))):=by
 unfold cH;rw [if_pos ⟨J5 a p,J5 b q⟩,Ro]
theorem hI' (x:Int) {y:Int} (h:y≠0):(Int.fmod x y).natAbs < y.natAbs:=by
 rw [Int.fmod_eq_emod];have a:=Int.emod_nonneg x h;have b:=Int.emod_lt_of_pos x (show 0 < (y.natAbs:Int) by omega);have e:x % (y.natAbs:Int)=x % y:=by
  rcases Int.natAbs_eq y with q | q
  ·rw [<- q]
  ·conv=>rhs; rw [q]
   rw [Int.emod_neg]
 rw [e] at b
 split
 ·omega
 ·rename_i c;have c1:¬(0<=y):=fun z=>c (.inl z);have c2:x % y≠0:=fun z=>c (.inr (Int.dvd_of_emod_eq_zero z));omega
theorem Rp (x y:Int):Int.gcd y (Int.fmod x y)=Int.gcd x y:=by
 have e:x=y * Int.fdiv x y + Int.fmod x y:=(Int.mul_fdiv_add_fmod x y).symm;refine Nat.dvd_antisymm ?_ ?_
 ·refine Int.dvd_gcd ?_ (Int.gcd_dvd_left y _);rw (config:={occs:=.pos [2]}) [e];exact Int.dvd_add (Int.dvd_trans (Int.gcd_dvd_left y _) (Int.dvd_mul_right ..)) (Int.gcd_dvd_right y _)
 ·refine Int.dvd_gcd (Int.gcd_dvd_right x y) ?_;have e2:Int.fmod x y=x - y * Int.fdiv x y:=by omega
  rw [e2];exact Int.dvd_sub (Int.gcd_dvd_left x y) (Int.dvd_trans (Int.gcd_dvd_right x y) (Int.dvd_mul_right ..))
theorem Rq (n:Nat) (h:n<=1000):lW [.int n]=.ok (((List.range n).map fun (k:Nat)=>(k:Int)).map .int):=by
 unfold lW;have h1:-(2 ^ 62)<=(n:Int)/\(n:Int) < 2 ^ 62:=⟨by omega,by omega⟩;simp only [h1,and_self,if_true,Int.toNat_natCast,J0,map_map,Function.comp_def,Int.zero_add]
theorem nM {f:DS->Res (List D)} {δ:DS} {ds rs:List D} {g:List D->Res (List D)} (h:f δ=.ok ds) (h2:g ds=.ok rs):cC f g δ=.ok rs:=by
 unfold cC; rw [h,Res.bind_ok,h2]
end Mine
namespace Mine
open PySem DL L2
abbrev TI (l:List Int):D:=.tup (l.map .int)
abbrev RT (rs:List (List Int)):D:=.tup (rs.reverse.map TI)
noncomputable def bT (a b:List Int):List Int:=List.zipWith (fun x y=>x + y) a b
noncomputable def bj (x:List Int):List Int:=x.take (x.length / 2)
noncomputable def bf (x:List Int):List Int:=x.drop (x.length / 2)
noncomputable def pt:List (List Int)->List Int->List Int->List Int
 | [],x,y=>[x.headD 0 * y.headD 0]
 | r :: rs,x,y=>bT (pt rs (bj x) (bj y)) (pt rs (pt rs (bf x) (bf y)) r) ++ bT (pt rs (bj x) (bf y)) (pt rs (bf x) (bj y))
noncomputable def lt:List (List Int)->List Int->List Int->List Int
 | [],x,y=>[x.headD 0 * y.headD 0]
 | r :: rs,x,y=>bT (lt rs (bj x) (bj y)) (lt rs r (lt rs (bf x) (bf y))) ++ bT (lt rs (bj x) (bf y)) (lt rs (bf x) (bj y))
noncomputable def Sc:List (List Int)->Prop
 | []=>True
 | r :: rs=>r.length=2 ^ rs.length/\Sc rs
theorem fi':∀(a b:List Int),bT a b=bT b a
 | [],[]=>rfl
 | [],_ :: _=>rfl
 | _ :: _,[]=>rfl
 | x :: a,y :: b=>by
  have:=fi' a b;unfold bT at this ⊢;rw [zipWith_cons_cons,zipWith_cons_cons,this,Int.add_comm]
theorem o_ {a b:List Int} {n:Nat} (h1:a.length=n) (h2:b.length=n):(bT a b).length=n:=by unfold bT; rw [length_zipWith]; omega
theorem jl {x:List Int} {k:Nat} (h:x.length=2 ^ (k + 1)):(bj x).length=2 ^ k:=by
 unfold bj; rw [length_take]; have:2 ^ (k + 1)=2 ^ k * 2:=Nat.pow_succ ..; omega
theorem jH {x:List Int} {k:Nat} (h:x.length=2 ^ (k + 1)):(bf x).length=2 ^ k:=by
 unfold bf; rw [length_drop]; have:2 ^ (k + 1)=2 ^ k * 2:=Nat.pow_succ ..; omega
theorem eV:∀(rs:List (List Int)) (x y:List Int),Sc rs->x.length=2 ^ rs.length->y.length=2 ^ rs.length->(pt rs x y).length=2 ^ rs.length
 | [],_,_,_,_,_=>rfl
 | r :: rs,x,y,S,hx,hy=>by
  obtain ⟨hr,S⟩:=S;have a:=jl hx;have b:=jH hx;have c:=jl hy;have d:=jH hy;rw [pt,length_append,o_ (eV rs _ _ S a c) (eV rs _ _ S (eV rs _ _ S b d) hr),o_ (eV rs _ _ S a d) (eV rs _ _ S b c)];show _=2 ^ (rs.length + 1);rw [Nat.pow_succ]; omega
theorem zQ:∀(rs:List (List Int)) (x y:List Int),pt rs x y=pt rs y x
 | [],x,y=>by rw [pt,pt,Int.mul_comm]
 | r :: rs,x,y=>by
  rw [pt,pt,zQ rs (bj x) (bj y),zQ rs (bf x) (bf y),zQ rs (bj x) (bf y),zQ rs (bf x) (bj y),fi' (pt rs (bf y) (bj x))]
theorem pR:∀(rs:List (List Int)) (x y:List Int),lt rs x y=pt rs x y
 | [],x,y=>rfl
 | r :: rs,x,y=>by
  rw [lt,pt,pR rs (bj x) (bj y),pR rs (bf x) (bf y),pR rs r,pR rs (bj x) (bf y),pR rs (bf x) (bj y),zQ rs r]
noncomputable def Bd (n:Nat) (l:List Int):Prop:=∀t∈l,t.natAbs < 2 ^ n
theorem Bd.mono {n m:Nat} {l:List Int} (h:Bd n l) (e:n<=m):Bd m l:=fun t ht=>Nat.lt_of_lt_of_le (h t ht) (Nat.pow_le_pow_right (by decide) e)
theorem Bd.fr {n:Nat} {l:List Int} (h:Bd n l):Bd n (bj l):=fun t ht=>h t (mem_of_mem_take ht)
theorem Bd.bh {n:Nat} {l:List Int} (h:Bd n l):Bd n (bf l):=fun t ht=>h t (mem_of_mem_drop ht)
theorem Bd.head {n:Nat} {l:List Int} (h:Bd n l):(l.headD 0).natAbs < 2 ^ n:=by
 cases l with
 | nil=>exact Nat.two_pow_pos n
 | cons a l=>exact h a (by simp)
theorem ik {a b:Int} {p q:Nat} (h1:a.natAbs < 2 ^ p) (h2:b.natAbs < 2 ^ q):(a * b).natAbs < 2 ^ (p + q):=by
 rw [Int.natAbs_mul,Nat.pow_add];exact Nat.mul_lt_mul'' h1 h2
theorem Bd.add {n:Nat}:∀{a b:List Int},Bd n a->Bd n b->Bd (n + 1) (bT a b)
 | [],_,_,_=>fun t ht=>by simp [bT] at ht
 | _ :: _,[],_,_=>fun t ht=>by simp [bT] at ht
 | x :: a,y :: b,h1,h2=>fun t ht=>by
  unfold bT at ht;rw [zipWith_cons_cons] at ht;rcases mem_cons.mp ht with z | z
  ·have e1:=h1 x (by simp);have e2:=h2 y (by simp);rw [z,Nat.pow_succ]; omega
  ·exact Bd.add (fun t ht=>h1 t (mem_cons_of_mem _ ht)) (fun t ht=>h2 t (mem_cons_of_mem _ ht)) t z
theorem Bd.app {n:Nat} {a b:List Int} (h1:Bd n a) (h2:Bd n b):Bd n (a ++ b):=fun t ht=>(mem_append.mp ht).elim (h1 t) (h2 t)
theorem uP (ds:List D) (k:Nat):cutD (.tup ds) none (some (k:Int))=.ok (.tup (ds.take k)):=by
 show Res.ok (D.tup (gh ds none (some (k:Int))))=_;unfold gh;rw [HT.sIx_nat,HT.sIx_none,drop_zero,Nat.sub_zero]
 congr 2
 rcases Nat.le_total k ds.length with h | h
 ·rw [Nat.min_eq_left h]
 ·rw [Nat.min_eq_right h,take_of_length_le h,take_length]
theorem wW (ds:List D) (k:Nat):cutD (.tup ds) (some (k:Int)) none=.ok (.tup (ds.drop k)):=by
 show Res.ok (D.tup (gh ds (some (k:Int)) none))=_;unfold gh;rw [HT.sIx_nat,HT.sIx_none]
 congr 2
 rcases Nat.le_total k ds.length with h | h
 ·rw [Nat.min_eq_left h,take_of_length_le (by rw [length_drop]; exact Nat.le_refl _)]
 ·rw [Nat.min_eq_right h,drop_length,drop_eq_nil_of_le h]; simp
theorem nO (r:List Int) (rs:List (List Int)):cutD (RT (r :: rs)) none (some (-1))=.ok (RT rs):=by
 show Res.ok (D.tup (gh ((r :: rs).reverse.map TI) none (some (-1))))=_;unfold gh;have e:HT.sIx ((r :: rs).reverse.map TI).length ((r :: rs).reverse.map TI).length (some (-1))=rs.length:=by
  have hl:((r :: rs).reverse.map TI).length=rs.length + 1:=by simp
  rw [hl];unfold HT.sIx;dsimp only;rw [if_pos (by decide)]; omega
 rw [e,HT.sIx_none,drop_zero,Nat.sub_zero,reverse_cons,map_append]
 congr 2
 rw [take_append_of_le_length (by simp),take_of_length_le (by simp)]
theorem wk (r:List Int) (rs:List (List Int)):aR (RT (r :: rs)) (.int (-1))=.ok (TI r):=by
 have e:jg ((r :: rs).reverse.map TI) (-1)=some (TI r):=by
  unfold jg jO;have hl:((r :: rs).reverse.map TI).length=rs.length + 1:=by simp
  rw [hl,if_neg (by decide),if_pos (by omega)];have e2:((-1:Int) + ((rs.length + 1:Nat):Int)).toNat=rs.length:=by omega
  rw [e2];simp
 show (match jg ((r :: rs).reverse.map TI) (-1) with | some d=>Res.ok d | none=>.stuck)=_
 rw [e]
theorem dv' (n:Nat):aL (.int (n:Int)) (.int 2)=.ok (.int ((n / 2:Nat):Int)):=by
 rw [pQ (by decide) (Nat.lt_of_lt_of_le (show Int.natAbs 2 < 2 ^ 2 by decide) (Nat.pow_le_pow_right (by decide) (by decide)))]
 congr 2
 rw [Int.fdiv_eq_ediv_of_nonneg _ (by decide)]; omega
theorem Gn (l:List Int) (k:Nat):cutD (TI l) none (some (k:Int))=.ok (TI (l.take k)):=by rw [uP,<- map_take]
theorem Gp (l:List Int) (k:Nat):cutD (TI l) (some (k:Int)) none=.ok (TI (l.drop k)):=by rw [wW,<- map_drop]
theorem J6 {fe:DS->Res D} {rest:DS} {g:Int->Int->D}:∀(xs ys:List Int),(∀x∈xs,∀y∈ys,fe (some (.val (.int x)) :: some (.val (.int y)) :: rest)=.ok (g x y)) ->
  mapR (fG (bW [0,1]) fe (none :: none :: rest)) (nG (xs.map .int) (ys.map .int))=.ok (List.zipWith g xs ys)
 | [],_,_=>rfl
 | _ :: _,[],_=>rfl
 | x :: xs,y :: ys,h=>by
  have e:fG (bW [0,1]) fe (none :: none :: rest) (.tup [.int x,.int y])=.ok (g x y):=by
   show (match fe (some (.val (.int x)) :: some (.val (.int y)) :: rest) with | .ok z=>Res.ok z | _=>.stuck)=_
   rw [h x (by simp) y (by simp)]
  have ih:=J6 xs ys fun u hu v hv=>h u (mem_cons_of_mem _ hu) v (mem_cons_of_mem _ hv);show mapR _ (D.tup [.int x,.int y] :: nG (xs.map .int) (ys.map .int))=_;rw [mapR,e,Res.bind_ok,ih,Res.bind_ok]; rfl
theorem Gq {fe:DS->Res D} {fi:DS->Res (List D)} {fr:List Nat} {δ rest:DS} {xs ys:List Int} {g:Int->Int->D} (hi:fi δ=.ok (nG (xs.map .int) (ys.map .int))) (hr:cQ 2 fr δ=none :: none :: rest) (hl:xs.length<=sizeLine)
  (h:∀x∈xs,∀y∈ys,fe (some (.val (.int x)) :: some (.val (.int y)) :: rest)=.ok (g x y)):bD 2 fr (bW [0,1]) fe fi δ=.ok (.lst (List.zipWith g xs ys)):=by
 unfold bD;rw [hi,Res.bind_ok,hr,J6 xs ys h];unfold fD;rw [Res.bind_ok,if_pos (by rw [length_zipWith]; omega)]
theorem zR (xs ys:List Int):(List.zipWith (fun x y=>D.int (x + y)) xs ys)=(bT xs ys).map .int:=by
 unfold bT; rw [map_zipWith]
theorem Dw {l:List Int} (h:l≠[]):aR (TI l) (.int 0)=.ok (.int (l.headD 0)):=by
 cases l with
 | nil=>exact (h rfl).elim
 | cons a l=>exact ix_tup0 _ _
theorem uQ {l:List Int} {k:Nat} (h:l.length=2 ^ k):l≠[]:=fun z=>by rw [z] at h; have:=Nat.two_pow_pos k; simp at h; omega
theorem Gr {a b:List Int} (h:a≠[]) (h2:a.length + b.length<=1000):aN (TI a) (TI b)=.ok (TI (a ++ b)):=by
 show (if (a.map D.int).length + (b.map D.int).length<=sizeLine then Res.ok (D.tup (a.map D.int ++ b.map D.int)) else Res.stuck)=_
 have e:1000<=sizeLine:=by decide
 rw [if_pos (by rw [length_map,length_map]; omega),<- map_append]
theorem J7 {a b:List Int} (h2:a.length + b.length<=1000):aN (TI a) (TI b)=.ok (TI (a ++ b)):=by
 show (if (a.map D.int).length + (b.map D.int).length<=sizeLine then Res.ok (D.tup (a.map D.int ++ b.map D.int)) else Res.stuck)=_
 have e:1000<=sizeLine:=by decide
 rw [if_pos (by rw [length_map,length_map]; omega),<- map_append]
theorem Rr (k:Int) (l:List Int):(l.map fun t=>D.int (k * t))=(l.map (k * ·)).map .int:=by rw [map_map]; rfl
noncomputable def kY (x y:List Int) (bx b_y:Int):List Int:=List.zipWith (fun a c=>a * b_y + c * bx) x y
theorem J8 (x y:List Int) (bx b_y:Int):bT (x.map (b_y * ·)) (y.map (bx * ·))=kY x y bx b_y:=by
 unfold bT kY;rw [zipWith_map]
 congr 1
 funext a c
 rw [Int.mul_comm b_y,Int.mul_comm bx]
theorem Rt {x y:List Int} {n:Nat} (h1:x.length=n) (h2:y.length=n) (bx b_y:Int):(kY x y bx b_y).length=n:=by unfold kY; rw [length_zipWith]; omega
theorem Dy {x:List Int} {n p:Nat} {k:Int} (h:Bd n x) (hk:k.natAbs < 2 ^ p):Bd (p + n) (x.map (k * ·)):=fun t ht=>by
 obtain ⟨u,hu,rfl⟩:=mem_map.mp ht;exact ik hk (h u hu)
theorem Gs:∀(ts:List Int),gN 1 ts=1
 | []=>rfl
 | t :: ts=>by rw [vg,Nat.gcd_one_left]; exact Gs ts
theorem Dz (ts:List Int):Nf ts 1:=⟨by decide,Gs ts⟩
theorem Gu:∀(ts:List Int) (n:Nat),gN n (ts.map fun t=>-t)=gN n ts
 | [],_=>rfl
 | t :: ts,n=>by rw [map_cons,vg,vg,Int.natAbs_neg,Gu ts]
theorem Ru {ts:List Int} {b:Int} (h:Nf ts b):Nf (ts.map fun t=>-t) b:=⟨h.pos,by rw [Gu]; exact h.one⟩
theorem dK' {x:List Int} {n:Nat} (h:Bd n x):Bd n (x.map fun t=>-t):=fun t ht=>by
 obtain ⟨u,hu,rfl⟩:=mem_map.mp ht;rw [Int.natAbs_neg]; exact h u hu
theorem J9 (x:List Int):x.map ((-1:Int) * ·)=x.map fun t=>-t:=map_congr_left fun t _=>by omega
theorem J_ {t:gM} {b:DS->Out} {P:DS->Prop}:∀(ds:List D),(∀d∈ds,∀δ,P δ->∃δ1 δ2,t d δ=some δ1/\b δ1=.nxt δ2/\P δ2)->∀δ,P δ->∃δ',dg t b ds δ=.nxt δ'/\P δ'
 | [],_,δ,h=>⟨δ,rfl,h⟩
 | d :: ds,hs,δ,h=>by
  obtain ⟨δ1,δ2,e1,e2,h2⟩:=hs d (by simp) δ h;obtain ⟨δ',e3,h3⟩:=J_ ds (fun u hu=>hs u (mem_cons_of_mem _ hu)) δ2 h2;refine ⟨δ',?_,h3⟩;rw [dg,e1];dsimp only;rw [e2];exact e3
theorem eu' (k:Nat):(List.replicate k [D.int 0]).flatten=(List.replicate k (0:Int)).map .int:=by
 induction k with
 | zero=>rfl
 | succ k ih=>rw [replicate_succ,flatten_cons,ih,replicate_succ,map_cons]; rfl
theorem Ka (k:Nat) (h:k<=1000):bR (.tup [.int 0]) (.int (k:Int))=.ok (TI (List.replicate k 0)):=by
 show qF [.int 0] (k:Int)=_;unfold qF;rw [if_pos ⟨rfl,Int.natCast_nonneg k,by rw [Int.toNat_natCast]; simpa using h⟩,Int.toNat_natCast,eu']
theorem Rv (m:Nat) (h:m<=1000):iZ (.int 1) (.int (m:Int))=.ok (.int ((2 ^ m:Nat):Int)):=by
 simp only [iZ];rw [if_pos ⟨by omega,by omega,by decide⟩,Int.toNat_natCast,Int.one_mul]; simp
theorem Kc:∀(bs:List Bool),bools (bs.map .bl)=some bs
 | []=>rfl
 | b :: bs=>by rw [map_cons,bools,Kc bs]; rfl
theorem Rx (bs:List Bool):lY [.lst (bs.map .bl)]=.ok (.bl (bs.all id)):=by
 show (match bools (bs.map .bl) with | some bs=>Res.ok (D.bl (bs.all id)) | none=>.stuck)=_
 rw [Kc]
theorem Ry (ns:List Int):nJ [TI ns]=.ok (.bl (ns.any (· != 0))):=by
 show (match intsOf (ns.map .int) with | some ns=>Res.ok (D.bl (ns.any (· != 0))) | none=>.stuck)=_
 rw [Dt]
noncomputable def zA (ns:List Int):Bool:=ns.all fun t=>decide (t=0)
noncomputable def sg (n:Int):Int:=if n=0 then 0 else if 0 < n then 1 else -1
theorem Kd {r m:Int} (hr:0<=r) (h1:r * r < m) (h2:m < (r + 1) * (r + 1)):∀(n:Nat) (a b:Int),0<=a->0<=b->b.toNat<=n->a * a=b * b * m->b=0
 | 0,a,b,_,hb,hn,_=>by omega
 | n + 1,a,b,ha,hb,hn,e=>by
  by_cases c:b=0
  ·exact c
  exfalso;have bp:0 < b:=by omega
  have bb:0 < b * b:=Int.mul_pos bp bp;have lo:r * b < a:=by
   rcases Int.lt_or_le (r * b) a with z | z
   ·exact z
   ·exfalso;have q:=Int.mul_le_mul z z ha (Int.mul_nonneg hr hb);have e1:r * b * (r * b)=b * b * (r * r):=by rw [Int.mul_assoc,Int.mul_left_comm b r b,<- Int.mul_assoc,Int.mul_comm]
    have:=Int.mul_lt_mul_of_pos_left h1 bb;omega
  have hi:a < (r + 1) * b:=by
   rcases Int.lt_or_le a ((r + 1) * b) with z | z
   ·exact z
   ·exfalso;have q:=Int.mul_le_mul z z (Int.mul_nonneg (by omega) hb) ha;have e1:(r + 1) * b * ((r + 1) * b)=b * b * ((r + 1) * (r + 1)):=by rw [Int.mul_assoc,Int.mul_left_comm b (r + 1) b,<- Int.mul_assoc,Int.mul_comm]
    have:=Int.mul_lt_mul_of_pos_left h2 bb;omega
  have hi':a < r * b + b:=by rw [Int.add_mul,Int.one_mul] at hi; exact hi
  have ma:r * a < m * b:=by
   rcases Int.lt_or_le (r * a) (m * b) with z | z
   ·exact z
   ·exfalso;have ap:0 < a:=by
     have:=Int.mul_nonneg hr hb; omega
    have q1:=Int.mul_le_mul_of_nonneg_right z hb;have q2:=Int.mul_lt_mul_of_pos_left lo ap;have e1:m * b * b=b * b * m:=by rw [Int.mul_assoc,Int.mul_comm]
    have e2:r * a * b=a * (r * b):=by rw [Int.mul_comm r a,Int.mul_assoc]
    omega
  have step:(m * b - r * a) * (m * b - r * a)=(a - r * b) * (a - r * b) * m:=by
   have x1:(m * b - r * a) * (m * b - r * a)=m * (b * b * m) - 2 * (m * (r * (a * b))) + r * (r * (a * a)):=by
    simp only [Int.sub_mul,Int.mul_sub];have t1:m * b * (m * b)=m * (b * b * m):=by
     rw [Int.mul_assoc,Int.mul_left_comm b m b,Int.mul_comm (b * b) m]
    have t2:m * b * (r * a)=m * (r * (a * b)):=by rw [Int.mul_assoc,Int.mul_left_comm b r a,Int.mul_comm b a]
    have t3:r * a * (m * b)=m * (r * (a * b)):=by rw [Int.mul_left_comm,Int.mul_assoc,<- Int.mul_assoc r a b,Int.mul_assoc r a b]
    have t4:r * a * (r * a)=r * (r * (a * a)):=by rw [Int.mul_assoc,Int.mul_left_comm a r a]
    rw [t1,t2,t3,t4]; omega
   have x2:(a - r * b) * (a - r * b) * m=m * (a * a) - 2 * (m * (r * (a * b))) + r * (r * (b * b * m)):=by
    have t0:(a - r * b) * (a - r * b)=a * a - 2 * (r * (a * b)) + r * (r * (b * b)):=by
     simp only [Int.sub_mul,Int.mul_sub];have u1:a * (r * b)=r * (a * b):=Int.mul_left_comm a r b;have u2:r * b * a=r * (a * b):=by rw [Int.mul_assoc,Int.mul_comm b a]
     have u3:r * b * (r * b)=r * (r * (b * b)):=by rw [Int.mul_assoc,Int.mul_left_comm b r b]
     rw [u1,u2,u3]; omega
    rw [t0,Int.add_mul,Int.sub_mul];have v1:a * a * m=m * (a * a):=Int.mul_comm _ _;have v2:2 * (r * (a * b)) * m=2 * (m * (r * (a * b))):=by rw [Int.mul_assoc,Int.mul_comm (r * (a * b)) m]
    have v3:r * (r * (b * b)) * m=r * (r * (b * b * m)):=by rw [Int.mul_assoc,Int.mul_assoc r (b * b) m]
    rw [v1,v2,v3]
   rw [x1,x2,<- e]
  have:=Kd hr h1 h2 n (m * b - r * a) (a - r * b) (by omega) (by omega) (by omega) step;omega
theorem Gv {r m:Int} (hr:0<=r) (h1:r * r < m) (h2:m < (r + 1) * (r + 1)) {a b:Int} (e:a * a=b * b * m):b=0:=by
 have ea:(a.natAbs:Int) * (a.natAbs:Int)=a * a:=by rw [<- Int.natCast_mul,Int.natAbs_mul_self]
 have eb:(b.natAbs:Int) * (b.natAbs:Int)=b * b:=by rw [<- Int.natCast_mul,Int.natAbs_mul_self]
 have:=Kd hr h1 h2 b.natAbs (a.natAbs:Int) (b.natAbs:Int) (by omega) (by omega) (by omega) (by rw [ea,eb]; exact e);omega
theorem Ke (n:Int):(n=0/\sg n=0)\/(0 < n/\sg n=1)\/(n < 0/\sg n=-1):=by
 unfold sg;rcases Int.lt_trichotomy n 0 with z | z | z
 ·exact .inr (.inr ⟨z,by rw [if_neg (by omega),if_neg (by omega)]⟩)
 ·exact .inl ⟨z,if_pos z⟩
 ·exact .inr (.inl ⟨z,by rw [if_neg (by omega),if_pos z]⟩)
end Mine
namespace Mine
open Lean.Grind
structure OF where
 C:Type
 fld:Field C
 le:LE C
 lt:LT C
 llt:Std.LawfulOrderLT C
 lin:Std.IsLinearOrder C
 ord:OrderedRing C
instance ofF (F:OF):Field F.C:=F.fld
instance ofLE (F:OF):LE F.C:=F.le
instance ofLT (F:OF):LT F.C:=F.lt
instance ofLLT (F:OF):Std.LawfulOrderLT F.C:=F.llt
instance ofLin (F:OF):Std.IsLinearOrder F.C:=F.lin
instance ofOrd (F:OF):OrderedRing F.C:=F.ord
instance ofNC (F:OF):NatCast F.C:=F.fld.toCommRing.toRing.toSemiring.natCast
instance ofIC (F:OF):IntCast F.C:=F.fld.toCommRing.toRing.intCast
section
variable {F:OF}
theorem cU {a b:F.C} (h1:0 < a) (h2:0 < b):0 < a * b:=by
 have:=OrderedRing.mul_lt_mul_of_pos_left h1 h2
 grind
theorem nP {a b:F.C} (h1:0<=a) (h2:0<=b):0<=a * b:=by
 by_cases h:a=0
 ·rw [h,Semiring.zero_mul]; exact Std.le_refl _
 ·by_cases h':b=0
  ·rw [h',Semiring.mul_zero]; exact Std.le_refl _
  ·have:=cU (a:=a) (b:=b) (by grind) (by grind)
   grind
theorem eX (a:F.C):0<=a * a:=by
 by_cases h:0<=a
 ·exact nP h h
 ·have:=nP (a:=-a) (b:=-a) (by grind) (by grind)
  grind
theorem Kf {a:F.C} (h:a≠0):0 < a * a:=by
 by_cases c:0 < a
 ·exact cU c c
 ·have:=cU (a:=-a) (b:=-a) (by grind) (by grind)
  grind
theorem wu {a b c d:F.C} (a0:0<=a) (h1:a < b) (c0:0<=c) (h2:c < d):a * c < b * d:=by
 have q1:=nP (a:=b - a) (b:=c) (by grind) c0;have q2:=cU (a:=b) (b:=d - c) (by grind) (by grind)
 grind
theorem wy {p q:F.C} (h:0 < p) (e:q * q < p * p):0 < p + q:=by
 by_cases c:0 < p + q
 ·exact c
 ·exfalso;have q1:=nP (a:=-q - p) (b:=-q + p) (by grind) (by grind)
  grind
theorem wX {a b:F.C} (h:a * b=0):a=0\/b=0:=by
 by_cases c:a=0
 ·exact .inl c
 ·right; grind
end
open Classical in
noncomputable def sgn {F:OF} (x:F.C):Int:=if x=0 then 0 else if 0 < x then 1 else -1
section
variable {F:OF}
theorem nQ (x:F.C):(x=0/\sgn x=0)\/(0 < x/\sgn x=1)\/(x < 0/\sgn x=-1):=by
 unfold sgn
 by_cases h:x=0
 ·exact .inl ⟨h,by rw [if_pos h]⟩
 ·by_cases c:0 < x
  ·exact .inr (.inl ⟨c,by rw [if_neg h,if_pos c]⟩)
  ·exact .inr (.inr ⟨by grind,by rw [if_neg h,if_neg c]⟩)
theorem sgn_0 {x:F.C}:sgn x=0↔x=0:=by rcases nQ x with ⟨h,e⟩ | ⟨h,e⟩ | ⟨h,e⟩ <;> constructor <;> grind
theorem sgn_p {x:F.C}:sgn x=1↔0 < x:=by rcases nQ x with ⟨h,e⟩ | ⟨h,e⟩ | ⟨h,e⟩ <;> constructor <;> grind
theorem sgn_n {x:F.C}:sgn x=-1↔x < 0:=by rcases nQ x with ⟨h,e⟩ | ⟨h,e⟩ | ⟨h,e⟩ <;> constructor <;> grind
theorem sgn_mul (x y:F.C):sgn (x * y)=sgn x * sgn y:=by
 rcases nQ x with ⟨h,e⟩ | ⟨h,e⟩ | ⟨h,e⟩ <;> rcases nQ y with ⟨h',e'⟩ | ⟨h',e'⟩ | ⟨h',e'⟩ <;> rw [e,e']
 ·rw [h,sgn_0.mpr (by grind)]; rfl
 ·rw [h,sgn_0.mpr (by grind)]; rfl
 ·rw [h,sgn_0.mpr (by grind)]; rfl
 ·rw [h',sgn_0.mpr (by grind)]; rfl
 ·rw [sgn_p.mpr (cU h h')]; rfl
 ·have:=cU (a:=x) (b:=-y) h (by grind);rw [sgn_n.mpr (by grind)]; rfl
 ·rw [h',sgn_0.mpr (by grind)]; rfl
 ·have:=cU (a:=-x) (b:=y) (by grind) h';rw [sgn_n.mpr (by grind)]; rfl
 ·have:=cU (a:=-x) (b:=-y) (by grind) (by grind);rw [sgn_p.mpr (by grind)]; rfl
end
structure Ext {R:Type} (r:R) where
 a:R
 b:R
namespace Ext
section
variable {F:OF} {r:F.C}
theorem eqs {x y:Ext r} (h1:x.a=y.a) (h2:x.b=y.b):x=y:=by
 cases x; cases y; cases h1; cases h2; rfl
instance:Add (Ext r):=⟨fun x y=>⟨x.a + y.a,x.b + y.b⟩⟩
instance:Mul (Ext r):=⟨fun x y=>⟨x.a * y.a + x.b * y.b * r,x.a * y.b + x.b * y.a⟩⟩
instance:Neg (Ext r):=⟨fun x=>⟨-x.a,-x.b⟩⟩
instance:Sub (Ext r):=⟨fun x y=>⟨x.a - y.a,x.b - y.b⟩⟩
instance:NatCast (Ext r):=⟨fun n=>⟨(n:F.C),0⟩⟩
instance:IntCast (Ext r):=⟨fun n=>⟨(n:F.C),0⟩⟩
instance (n:Nat):OfNat (Ext r) n:=⟨⟨OfNat.ofNat n,0⟩⟩
instance:SMul Nat (Ext r):=⟨fun n x=>(n:Ext r) * x⟩
instance:SMul Int (Ext r):=⟨fun n x=>(n:Ext r) * x⟩
noncomputable def pw (x:Ext r):Nat->Ext r
 | 0=>1
 | n + 1=>pw x n * x
instance:HPow (Ext r) Nat (Ext r):=⟨pw⟩
theorem ca' (x y:Ext r):(x + y).a=x.a + y.a:=rfl
theorem lN (x y:Ext r):(x + y).b=x.b + y.b:=rfl
theorem nR (x y:Ext r):(x * y).a=x.a * y.a + x.b * y.b * r:=rfl
theorem cE' (x y:Ext r):(x * y).b=x.a * y.b + x.b * y.a:=rfl
theorem wY (x:Ext r):(-x).a=-x.a:=rfl
theorem wZ (x:Ext r):(-x).b=-x.b:=rfl
theorem Gw (x y:Ext r):(x - y).a=x.a - y.a:=rfl
theorem Kg (x y:Ext r):(x - y).b=x.b - y.b:=rfl
theorem Kh (n:Nat):((n:Ext r)).a=(n:F.C):=rfl
theorem wz (n:Int):((n:Ext r)).a=(n:F.C):=rfl
theorem hJ' (n:Int):((n:Ext r)).b=0:=rfl
theorem vh (n:Nat):(OfNat.ofNat n:Ext r).a=(OfNat.ofNat n:F.C):=rfl
theorem zT (n:Nat):(OfNat.ofNat n:Ext r).b=0:=rfl
theorem pU:(1:Ext r).a=1:=rfl
theorem uR:(1:Ext r).b=0:=rfl
theorem pW:(0:Ext r).a=0:=rfl
theorem uT:(0:Ext r).b=0:=rfl
instance:Semiring (Ext r) where
 add_zero x:=eqs (by rw [ca',pW] <;> grind) (by rw [lN,uT] <;> grind)
 add_comm x y:=eqs (by rw [ca',ca'] <;> grind) (by rw [lN,lN] <;> grind)
 add_assoc x y z:=eqs (by simp only [ca'] <;> grind) (by simp only [lN] <;> grind)
 mul_assoc x y z:=eqs (by simp only [nR,cE'] <;> grind) (by simp only [nR,cE'] <;> grind)
 mul_one x:=eqs (by simp only [nR,pU,uR] <;> grind) (by simp only [cE',pU,uR] <;> grind)
 one_mul x:=eqs (by simp only [nR,pU,uR] <;> grind) (by simp only [cE',pU,uR] <;> grind)
 left_distrib x y z:=eqs (by simp only [nR,ca',lN] <;> grind) (by simp only [cE',ca',lN] <;> grind)
 right_distrib x y z:=eqs (by simp only [nR,ca',lN] <;> grind) (by simp only [cE',ca',lN] <;> grind)
 zero_mul x:=eqs (by simp only [nR,pW,uT] <;> grind) (by simp only [cE',pW,uT] <;> grind)
 mul_zero x:=eqs (by simp only [nR,pW,uT] <;> grind) (by simp only [cE',pW,uT] <;> grind)
 pow_zero x:=rfl
 pow_succ x n:=rfl
 ofNat_succ n:=eqs (by rw [ca',vh,vh,pU]; exact Semiring.ofNat_succ (α:=F.C) n) (by rw [lN,zT,zT,uR] <;> grind)
 ofNat_eq_natCast n:=eqs (by rw [vh,Kh]; exact Semiring.ofNat_eq_natCast (α:=F.C) n) rfl
 nsmul_eq_natCast_mul n x:=rfl
instance:Ring (Ext r) where
 neg_add_cancel x:=eqs (by rw [ca',wY,pW] <;> grind) (by rw [lN,wZ,uT] <;> grind)
 sub_eq_add_neg x y:=eqs (by rw [ca',wY,Gw] <;> grind) (by rw [lN,wZ,Kg] <;> grind)
 neg_zsmul i x:=by
  show ((-i:Int):Ext r) * x=-((i:Ext r) * x);refine eqs ?_ ?_
  ·rw [wY,nR,nR,wz,wz,hJ',hJ',Ring.intCast_neg (α:=F.C)] <;> grind
  ·rw [wZ,cE',cE',wz,wz,hJ',hJ',Ring.intCast_neg (α:=F.C)] <;> grind
 zsmul_natCast_eq_nsmul n x:=by
  show (((n:Int)):Ext r) * x=(n:Ext r) * x;have e:(((n:Int)):Ext r)=(n:Ext r):=eqs (by rw [wz,Kh]; exact Ring.intCast_natCast (α:=F.C) n) rfl;rw [e]
 intCast_ofNat n:=eqs (by rw [wz,vh]; exact Ring.intCast_ofNat (α:=F.C) n) rfl
 intCast_neg i:=eqs (by rw [wz,wY,wz]; exact Ring.intCast_neg (α:=F.C) i) (by rw [hJ',wZ,hJ'] <;> grind)
instance:CommRing (Ext r) where
 mul_comm x y:=eqs (by rw [nR,nR] <;> grind) (by rw [cE',cE'] <;> grind)
noncomputable def nrm (x:Ext r):F.C:=x.a * x.a - x.b * x.b * r
theorem nrm_mul (x y:Ext r):nrm (x * y)=nrm x * nrm y:=by unfold nrm; rw [nR,cE']; grind
theorem nrm_0 (hn:∀z:F.C,z * z≠r) {x:Ext r} (h:nrm x=0):x=0:=by
 unfold nrm at h
 by_cases hb:x.b=0
 ·have:x.a=0:=by rcases wX (a:=x.a) (b:=x.a) (by grind) with z | z <;> exact z
  exact eqs this hb
 ·exfalso;exact hn (x.a / x.b) (by grind)
instance:Inv (Ext r):=⟨fun x=>⟨x.a / nrm x,-x.b / nrm x⟩⟩
instance:Div (Ext r):=⟨fun x y=>x * y⁻¹⟩
theorem DG (x:Ext r):(x⁻¹).a=x.a / nrm x:=rfl
theorem DK (x:Ext r):(x⁻¹).b=-x.b / nrm x:=rfl
noncomputable def Gx (x:Ext r):Int->Ext r
 | .ofNat n=>pw x n
 | .negSucc n=>(pw x (n + 1))⁻¹
instance:HPow (Ext r) Int (Ext r):=⟨Gx⟩
theorem Gy:((0:Ext r))⁻¹=0:=eqs (by rw [DG,pW]; grind) (by rw [DK,uT]; grind)
theorem Gz (hn:∀z:F.C,z * z≠r) {x:Ext r} (h:x≠0):x * x⁻¹=1:=by
 have n0:nrm x≠0:=fun z=>h (nrm_0 hn z);refine eqs ?_ ?_
 ·rw [nR,DG,DK,pU]; unfold nrm at *; grind
 ·rw [cE',DG,DK,uR]; unfold nrm at *; grind
theorem Rz (hn:∀z:F.C,z * z≠r) (x:Ext r):(x⁻¹)⁻¹=x:=by
 by_cases h:x=0
 ·rw [h,Gy,Gy]
 ·have e1:=Gz hn h;have h2:x⁻¹≠0:=fun z=>by
   rw [z] at e1;have:(0:Ext r)=1:=by rw [<- e1,Semiring.mul_zero]
   have:=congrArg Ext.a this;rw [pW,pU] at this;exact Field.zero_ne_one this
  have e2:=Gz hn h2
  calc (x⁻¹)⁻¹=(x * x⁻¹) * (x⁻¹)⁻¹:=by rw [e1,Semiring.one_mul]
   _=x * (x⁻¹ * (x⁻¹)⁻¹):=Semiring.mul_assoc ..
   _=x:=by rw [e2,Semiring.mul_one]
theorem inv_1:((1:Ext r))⁻¹=1:=by
 refine eqs ?_ ?_
 ·rw [DG,pU]; unfold nrm; rw [pU,uR]; grind
 ·rw [DK,uR]; unfold nrm; rw [pU,uR]; grind
@[reducible] def fieldE (hn:∀z:F.C,z * z≠r):Field (Ext r) where
 div_eq_mul_inv _ _:=rfl
 zero_ne_one h:=by
  have:=congrArg Ext.a h;rw [pW,pU] at this;exact Field.zero_ne_one this
 inv_zero:=Gy
 mul_inv_cancel:=Gz hn
 zpow_zero _:=rfl
 zpow_succ _ _:=rfl
 zpow_neg x n:=by
  show Gx x (-n)=(Gx x n)⁻¹
  match n with
  | .ofNat 0=>exact inv_1.symm
  | .ofNat (n + 1)=>rfl
  | .negSucc n=>exact (Rz hn _).symm
noncomputable def Pos (x:Ext r):Prop:=(0 < nrm x/\0 < x.a)\/(nrm x < 0/\0 < x.b)
instance:LT (Ext r):=⟨fun x y=>Pos (y - x)⟩
instance:LE (Ext r):=⟨fun x y=>x=y\/Pos (y - x)⟩
theorem Kl (x:Ext r):nrm (-x)=nrm x:=by unfold nrm; rw [wY,wZ]; grind
theorem RB:nrm (0:Ext r)=0:=by unfold nrm; rw [pW,uT]; grind
theorem RC:¬Pos (0:Ext r):=fun h=>by unfold Pos at h; rw [RB] at h; grind
theorem Km {x:Ext r} (h:Pos x):¬Pos (-x):=fun z=>by
 unfold Pos at h z; rw [Kl,wY,wZ] at z;rcases h with h | h <;> rcases z with z | z <;> grind
theorem tri (hn:∀z:F.C,z * z≠r) (hr:0 < r) (x:Ext r):x=0\/Pos x\/Pos (-x):=by
 by_cases h:x=0
 ·exact .inl h
 ·right
  have n0:nrm x≠0:=fun z=>h (nrm_0 hn z);unfold Pos;rw [Kl,wY,wZ]
  by_cases c:0 < nrm x
  ·have:x.a≠0:=fun z=>by
    have:=nP (eX x.b) (Std.le_of_lt hr);unfold nrm at c; rw [z] at c; grind
   by_cases d:0 < x.a
   ·exact .inl (.inl ⟨c,d⟩)
   ·exact .inr (.inl ⟨c,by grind⟩)
  ·have:x.b≠0:=fun z=>by
    have:=eX x.a;unfold nrm at c n0; rw [z] at c n0; grind
   by_cases d:0 < x.b
   ·exact .inl (.inr ⟨by grind,d⟩)
   ·exact .inr (.inr ⟨by grind,by grind⟩)
theorem Ko (hr:0 < r) {x y:Ext r} (h1:Pos x) (h2:Pos y):Pos (x * y):=by
 unfold Pos at *;rw [nrm_mul,nR,cE'];have rr:=cU hr hr;have nbb:=nP (eX x.b) (Std.le_of_lt hr);have ndd:=nP (eX y.b) (Std.le_of_lt hr);rcases h1 with ⟨n1,p1⟩ | ⟨n1,p1⟩ <;> rcases h2 with ⟨n2,p2⟩ | ⟨n2,p2⟩
 ·refine .inl ⟨cU n1 n2,?_⟩;have q:=wu nbb (show x.b * x.b * r < x.a * x.a by unfold nrm at n1; grind) ndd (show y.b * y.b * r < y.a * y.a by unfold nrm at n2; grind);exact wy (cU p1 p2) (by grind)
 ·refine .inr ⟨?_,?_⟩
  ·have:=cU (a:=nrm x) (b:=-nrm y) n1 (by grind); grind
  ·have q:=wu nbb (show x.b * x.b * r < x.a * x.a by unfold nrm at n1; grind) (eX y.a) (show y.a * y.a < y.b * y.b * r by unfold nrm at n2; grind);refine wy (cU p1 p2) ?_
   by_cases c:x.b * y.a * (x.b * y.a) < x.a * y.b * (x.a * y.b)
   ·exact c
   ·have:=nP (a:=x.b * y.a * (x.b * y.a) - x.a * y.b * (x.a * y.b)) (b:=r) (by grind) (Std.le_of_lt hr)
    grind
 ·refine .inr ⟨?_,?_⟩
  ·have:=cU (a:=-nrm x) (b:=nrm y) (by grind) n2; grind
  ·have q:=wu (eX x.a) (show x.a * x.a < x.b * x.b * r by unfold nrm at n1; grind) ndd (show y.b * y.b * r < y.a * y.a by unfold nrm at n2; grind);have:0 < x.b * y.a + x.a * y.b:=by
    refine wy (cU p1 p2) ?_
    by_cases c:x.a * y.b * (x.a * y.b) < x.b * y.a * (x.b * y.a)
    ·exact c
    ·have:=nP (a:=x.a * y.b * (x.a * y.b) - x.b * y.a * (x.b * y.a)) (b:=r) (by grind) (Std.le_of_lt hr)
     grind
   grind
 ·refine .inl ⟨?_,?_⟩
  ·have:=cU (a:=-nrm x) (b:=-nrm y) (by grind) (by grind); grind
  ·have q:=wu (eX x.a) (show x.a * x.a < x.b * x.b * r by unfold nrm at n1; grind) (eX y.a) (show y.a * y.a < y.b * y.b * r by unfold nrm at n2; grind);have:0 < x.b * y.b * r + x.a * y.a:=wy (cU (cU p1 p2) hr) (by grind)
   grind
theorem RD (hn:∀z:F.C,z * z≠r) (hr:0 < r) {x y:Ext r} (h1:Pos x) (h2:Pos y):Pos (x + y):=by
 have rr:=cU hr hr;have nbb:=nP (eX x.b) (Std.le_of_lt hr);have ndd:=nP (eX y.b) (Std.le_of_lt hr);have mixed:∀x y:Ext r,(0 < nrm x/\0 < x.a)->(nrm y < 0/\0 < y.b)->Pos (x + y):=by
  intro x y ⟨n1,p1⟩ ⟨n2,p2⟩;have nbb:=nP (eX x.b) (Std.le_of_lt hr);have h0:x + y≠0:=fun z=>by
   have za:=congrArg Ext.a z;have zb:=congrArg Ext.b z;rw [ca',pW] at za;rw [lN,uT] at zb;have ea:y.a=-x.a:=by grind
   have eb:y.b=-x.b:=by grind
   unfold nrm at n1 n2;rw [ea,eb] at n2
   grind
  have n0:nrm (x + y)≠0:=fun z=>h0 (nrm_0 hn z);unfold Pos
  by_cases c:0 < nrm (x + y)
  ·refine .inl ⟨c,?_⟩;rw [ca']
   by_cases d:0 < x.a + y.a
   ·exact d
   ·exfalso;unfold nrm at n1 n2 c;rw [ca',lN] at c;have nvv:=nP (eX (x.b + y.b)) (Std.le_of_lt hr);have u0:-(x.a + y.a)≠0:=fun z=>by
     have:x.a + y.a=0:=by grind
     rw [this] at c; grind
    have up:0 < -(x.a + y.a):=by grind
    have q:=wu nbb (show x.b * x.b * r < x.a * x.a by grind) nvv (show (x.b + y.b) * (x.b + y.b) * r < -(x.a + y.a) * -(x.a + y.a) by grind);have q2:=wy (p:=x.a * -(x.a + y.a)) (q:=x.b * (x.b + y.b) * r) (cU p1 up) (by grind)
    grind
  ·refine .inr ⟨by grind,?_⟩;rw [lN]
   by_cases d:0 < x.b + y.b
   ·exact d
   ·exfalso;have c':nrm (x + y) < 0:=by grind
    unfold nrm at n1 n2 c';rw [ca',lN] at c';have naa:=eX (x.a + y.a);have v0:-(x.b + y.b)≠0:=fun z=>by
     have:x.b + y.b=0:=by grind
     rw [this] at c'; grind
    have vp:0 < -(x.b + y.b):=by grind
    have q:=wu (eX y.a) (show y.a * y.a < y.b * y.b * r by grind) naa (show (x.a + y.a) * (x.a + y.a) < (x.b + y.b) * (x.b + y.b) * r by grind);have q2:=wy (p:=y.b * -(x.b + y.b) * r) (q:=y.a * (x.a + y.a)) (cU (cU p2 vp) hr) (by grind)
    grind
 rcases h1 with h1 | h1 <;> rcases h2 with h2 | h2
 ·obtain ⟨n1,p1⟩:=h1;obtain ⟨n2,p2⟩:=h2;refine .inl ⟨?_,by rw [ca']; grind⟩;unfold nrm at *;rw [ca',lN];have q:=wu nbb (show x.b * x.b * r < x.a * x.a by grind) ndd (show y.b * y.b * r < y.a * y.a by grind);have q2:=wy (p:=x.a * y.a) (q:=-(x.b * y.b * r)) (cU p1 p2) (by grind)
  grind
 ·exact mixed x y h1 h2
 ·have:=mixed y x h2 h1
  rwa [Semiring.add_comm] at this
 ·obtain ⟨n1,p1⟩:=h1;obtain ⟨n2,p2⟩:=h2;refine .inr ⟨?_,by rw [lN]; grind⟩;unfold nrm at *;rw [ca',lN];have q:=wu (eX x.a) (show x.a * x.a < x.b * x.b * r by grind) (eX y.a) (show y.a * y.a < y.b * y.b * r by grind);have q2:=wy (p:=x.b * y.b * r) (q:=-(x.a * y.a)) (cU (cU p1 p2) hr) (by grind)
  grind
theorem lt_def {x y:Ext r}:x < y↔Pos (y - x):=Iff.rfl
theorem Kp {x y:Ext r}:x<=y↔x=y\/Pos (y - x):=Iff.rfl
theorem RG (x y z:Ext r):(y - x) + (z - y)=z - x:=by grind
theorem linE (hn:∀z:F.C,z * z≠r) (hr:0 < r):Std.IsLinearOrder (Ext r) where
 le_refl x:=.inl rfl
 le_trans x y z h1 h2:=by
  rcases h1 with rfl | h1
  ·exact h2
  ·rcases h2 with rfl | h2
   ·exact .inr h1
   ·exact .inr (by have:=RD hn hr h1 h2; rwa [RG] at this)
 le_antisymm x y h1 h2:=by
  rcases h1 with rfl | h1
  ·rfl
  ·rcases h2 with rfl | h2
   ·rfl
   ·exact (Km h1 (by rwa [show -(y - x)=x - y by grind])).elim
 le_total x y:=by
  rcases tri hn hr (y - x) with z | z | z
  ·exact .inl (.inl (by grind))
  ·exact .inl (.inr z)
  ·exact .inr (.inr (by rwa [show -(y - x)=x - y by grind] at z))
theorem lltE:Std.LawfulOrderLT (Ext r) where
 lt_iff x y:=by
  constructor
  ·intro h;refine ⟨.inr h,fun z=>?_⟩;rcases z with rfl | z
   ·rw [lt_def,show y - y=0 by grind] at h; exact RC h
   ·exact Km h (by rwa [show -(y - x)=x - y by grind])
  ·intro ⟨h1,h2⟩;rcases h1 with rfl | h1
   ·exact (h2 (.inl rfl)).elim
   ·exact h1
theorem ordE (hn:∀z:F.C,z * z≠r) (hr:0 < r):@OrderedRing (Ext r) _ _ _ ((linE hn hr).toIsPartialOrder.toIsPreorder) :=
  letI:=(linE hn hr)
  { add_le_left_iff:=fun {a b} c=>by
      rw [Kp,Kp,show b + c - (a + c)=b - a by grind]
      constructor
      · rintro (rfl | h)
        · exact .inl rfl
        · exact .inr h
      · rintro (h | h)
        · exact .inl (by grind)
        · exact .inr h
    zero_lt_one:=by
      rw [lt_def];refine .inl ⟨?_,?_⟩
      · unfold nrm; rw [Gw,Kg,pU,uR,pW,uT];have:=OrderedRing.zero_lt_one (R:=F.C)
        grind
      · rw [Gw,pU,pW]; have:=OrderedRing.zero_lt_one (R:=F.C); grind
    mul_lt_mul_of_pos_left:=fun {a b c} h1 h2=>by
      rw [lt_def] at *;have:=Ko hr h2 h1
      rwa [show (c - 0) * (b - a)=c * b - c * a by grind] at this
    mul_lt_mul_of_pos_right:=fun {a b c} h1 h2=>by
      rw [lt_def] at *;have:=Ko hr h2 h1
      rwa [show (c - 0) * (b - a)=b * c - a * c by grind] at this }
end
end Ext
noncomputable def bH (F:OF) (r:F.C) (hr:0 < r) (hn:∀z:F.C,z * z≠r):OF where
 C:=Ext r
 fld:=Ext.fieldE hn
 le:=inferInstance
 lt:=inferInstance
 llt:=Ext.lltE
 lin:=Ext.linE hn hr
 ord:=Ext.ordE hn hr
noncomputable def ratOF:OF where
 C:=Rat
 fld:=inferInstance
 le:=inferInstance
 lt:=inferInstance
 llt:=inferInstance
 lin:=inferInstance
 ord:=inferInstance
end Mine
namespace Mine
open PySem DL L2
open Lean.Grind
noncomputable def bN {F:OF} (of:List Int->F.C) (r:List Int) (hr:0 < of r) (hn:∀z:F.C,z * z≠of r):List Int->(bH F (of r) hr hn).C:=fun x=>(⟨of (bj x),of (bf x)⟩:Ext (of r))
inductive Tow:(rs:List (List Int))->(F:OF)->(List Int->F.C)->Prop
 | nil:Tow [] ratOF (fun x=>(((x.headD 0:Int):Rat)))
 | cons {rs:List (List Int)} {F:OF} {of:List Int->F.C} (T:Tow rs F of) (r:List Int) (hl:r.length=2 ^ rs.length) (hr:0 < of r) (hn:∀z:F.C,z * z≠of r) :
   Tow (r :: rs) (bH F (of r) hr hn) (bN of r hr hn)
theorem Tow.sc {rs:List (List Int)} {F:OF} {of:List Int->F.C} (T:Tow rs F of):Sc rs:=by
 induction T with
 | nil=>trivial
 | cons T r hl hr hn ih=>exact ⟨hl,ih⟩
theorem RJ {x y:List Int} (h:x.length=y.length):bj (bT x y)=bT (bj x) (bj y):=by
 have hl:(bT x y).length=x.length:=by unfold bT; rw [length_zipWith]; omega
 unfold bj;rw [hl,<- h];unfold bT;rw [take_zipWith]
theorem RK {x y:List Int} (h:x.length=y.length):bf (bT x y)=bT (bf x) (bf y):=by
 have hl:(bT x y).length=x.length:=by unfold bT; rw [length_zipWith]; omega
 unfold bf;rw [hl,<- h];unfold bT;rw [drop_zipWith]
theorem cF' {a b:List Int} (h:a.length=b.length):bj (a ++ b)=a:=by
 unfold bj;rw [length_append,<- h,show (a.length + a.length) / 2=a.length by omega,take_left'];rfl
theorem xf {a b:List Int} (h:a.length=b.length):bf (a ++ b)=b:=by
 unfold bf;rw [length_append,<- h,show (a.length + a.length) / 2=a.length by omega,drop_left'];rfl
theorem mg' (f:Int->Int) (x:List Int):bj (x.map f)=(bj x).map f:=by unfold bj; rw [length_map,map_take]
theorem RL (f:Int->Int) (x:List Int):bf (x.map f)=(bf x).map f:=by unfold bf; rw [length_map,map_drop]
theorem GC (x:List Int):bj x ++ bf x=x:=take_append_drop _ x
section
variable {rs:List (List Int)} {F:OF} {of:List Int->F.C}
theorem vm (T:Tow rs F of):∀{x y:List Int},x.length=2 ^ rs.length->y.length=2 ^ rs.length->of (bT x y)=of x + of y:=by
 induction T with
 | nil =>
  intro x y hx hy
  match x,y,hx,hy with
  | [a],[b],_,_=>exact Rat.intCast_add a b
 | @cons rs F of T r hl hr hn ih =>
  intro x y hx hy;refine Ext.eqs (r:=of r) ?_ ?_
  ·show of (bj (bT x y))=of (bj x) + of (bj y);rw [RJ (hx.trans hy.symm),ih (jl hx) (jl hy)]
  ·show of (bf (bT x y))=of (bf x) + of (bf y);rw [RK (hx.trans hy.symm),ih (jH hx) (jH hy)]
theorem xg (T:Tow rs F of):∀{x y:List Int},x.length=2 ^ rs.length->y.length=2 ^ rs.length->of (pt rs x y)=of x * of y:=by
 induction T with
 | nil =>
  intro x y hx hy
  match x,y,hx,hy with
  | [a],[b],_,_=>exact Rat.intCast_mul a b
 | @cons rs F of T r hl hr hn ih =>
  intro x y hx hy;have S:=T.sc;have a:=jl hx;have b:=jH hx;have c:=jl hy;have d:=jH hy;have l1:=eV rs _ _ S a c;have l2:=eV rs _ _ S (eV rs _ _ S b d) hl;have l3:=eV rs _ _ S a d;have l4:=eV rs _ _ S b c;have f1:=o_ l1 l2;have f2:=o_ l3 l4;refine Ext.eqs (r:=of r) ?_ ?_
  ·show of (bj (pt (r :: rs) x y))=of (bj x) * of (bj y) + of (bf x) * of (bf y) * of r;rw [pt,cF' (f1.trans f2.symm),vm T l1 l2,ih a c,ih (eV rs _ _ S b d) hl,ih b d]
  ·show of (bf (pt (r :: rs) x y))=of (bj x) * of (bf y) + of (bf x) * of (bj y);rw [pt,xf (f1.trans f2.symm),vm T l3 l4,ih a d,ih b c]
theorem jm (T:Tow rs F of) (k:Int):∀{x:List Int},x.length=2 ^ rs.length->of (x.map (k * ·))=(k:F.C) * of x:=by
 induction T with
 | nil =>
  intro x hx
  match x,hx with
  | [a],_=>exact Rat.intCast_mul k a
 | @cons rs F of T r hl hr hn ih =>
  intro x hx;refine Ext.eqs (r:=of r) ?_ ?_
  ·show of (bj (x.map (k * ·)))=(k:F.C) * of (bj x) + (0:F.C) * of (bf x) * of r;rw [mg',ih (jl hx)]; grind
  ·show of (bf (x.map (k * ·)))=(k:F.C) * of (bf x) + (0:F.C) * of (bj x);rw [RL,ih (jH hx)]; grind
theorem GD (T:Tow rs F of):∀{x y:List Int},x.length=2 ^ rs.length->y.length=2 ^ rs.length->of x=of y->x=y:=by
 induction T with
 | nil =>
  intro x y hx hy e
  match x,y,hx,hy with
  | [a],[b],_,_=>have:a=b:=Rat.intCast_inj.mp e; rw [this]
 | @cons rs F of T r hl hr hn ih =>
  intro x y hx hy e;have q1:of (bj x)=of (bj y):=congrArg (Ext.a (r:=of r)) e;have q2:of (bf x)=of (bf y):=congrArg (Ext.b (r:=of r)) e;have w1:=ih (jl hx) (jl hy) q1;have w2:=ih (jH hx) (jH hy) q2;rw [<- GC x,<- GC y,w1,w2]
theorem yF (T:Tow rs F of) {x:List Int} (hx:x.length=2 ^ rs.length):of (x.map fun t=>-t)=-of x:=by
 rw [<- J9,jm T (-1) hx,Ring.intCast_neg];have:((1:Int):F.C)=1:=Ring.intCast_one;rw [this]; grind
theorem nU (T:Tow rs F of):∀(k:Int),of (k :: List.replicate (2 ^ rs.length - 1) 0)=(k:F.C):=by
 induction T with
 | nil=>intro k; rfl
 | @cons rs F of T r hl hr hn ih =>
  intro k;have p:=Nat.two_pow_pos rs.length;have e:k :: List.replicate (2 ^ (r :: rs).length - 1) 0=(k :: List.replicate (2 ^ rs.length - 1) 0) ++ (0 :: List.replicate (2 ^ rs.length - 1) 0):=by
   rw [cons_append]
   congr 1
   rw [<- replicate_succ,replicate_append_replicate]
   congr 1
   rw [length_cons,Nat.pow_succ]; omega
  rw [e];refine Ext.eqs (r:=of r) ?_ ?_
  ·show of (bj _)=(k:F.C);rw [cF' (by simp),ih]
  ·show of (bf _)=(0:F.C);rw [xf (by simp),ih]; exact Ring.intCast_zero
theorem dk' (T:Tow rs F of):of (List.replicate (2 ^ rs.length) 0)=0:=by
 have:=nU T 0;rw [Ring.intCast_zero] at this;rw [<- this]
 congr 1
 rw [<- replicate_succ]
 congr 1
 have p:=Nat.two_pow_pos rs.length;omega
theorem pX (T:Tow rs F of):∀{k:Int},0 < k->0 < (k:F.C):=by
 intro k hk;obtain ⟨n,rfl⟩:=Int.eq_ofNat_of_zero_le (Int.le_of_lt hk);rw [Ring.intCast_natCast];have:∀n:Nat,0 < ((n + 1:Nat):F.C):=by
  intro n
  induction n with
  | zero =>
   have h1:=OrderedRing.zero_lt_one (R:=F.C);have e:((0 + 1:Nat):F.C)=1:=Semiring.natCast_one;rw [e]; exact h1
  | succ n ih =>
   have h1:=OrderedRing.zero_lt_one (R:=F.C);rw [Semiring.natCast_succ]
   grind
 match n,hk with
 | n + 1,_=>exact this n
theorem fO (T:Tow rs F of) {k:Int} (h:k≠0):(k:F.C)≠0:=by
 rcases Int.lt_or_gt_of_ne h with c | c
 ·have:=pX T (k:=-k) (by omega);rw [Ring.intCast_neg] at this
  grind
 ·have:=pX T c
  grind
end
theorem Ext.pos0 {F:OF} {r:F.C} (x:Ext r):(0:Ext r) < x↔Ext.Pos x:=by
 rw [Ext.lt_def,show x - 0=x by grind]
theorem RM {F:OF} {r:F.C} {hr:0 < r} {hn:∀z:F.C,z * z≠r} (x:(bH F r hr hn).C):0 < x↔Ext.Pos (r:=r) x:=Ext.pos0 (r:=r) x
open Classical in
theorem ev' {F:OF} {r:F.C} {hr:0 < r} {hn:∀z:F.C,z * z≠r} (x:(bH F r hr hn).C) :
  sgn x=if sgn (Ext.a x)=sgn (Ext.b x)\/sgn (Ext.b x)=0 then sgn (Ext.a x) else if sgn (Ext.a x)=0 then sgn (Ext.b x) else sgn (Ext.a x) * sgn (Ext.nrm x):=by
 have x0:x=0↔(Ext.a x=0/\Ext.b x=0):=⟨fun h=>by rw [h]; exact ⟨rfl,rfl⟩,fun h=>Ext.eqs h.1 h.2⟩;have xp:0 < x↔(0 < Ext.nrm x/\0 < Ext.a x)\/(Ext.nrm x < 0/\0 < Ext.b x):=RM x;have n0:Ext.nrm x=0->x=0:=fun h=>Ext.nrm_0 hn h;have nd:Ext.nrm x=Ext.a x * Ext.a x - Ext.b x * Ext.b x * r:=rfl;have bb:=nP (eX (Ext.b x)) (Std.le_of_lt hr);have aa:=eX (Ext.a x);have hs:sgn x=if Ext.nrm x=0 then 0 else if 0 < Ext.nrm x then sgn (Ext.a x) else sgn (Ext.b x):=by
  rcases nQ (Ext.nrm x) with ⟨h,e⟩ | ⟨h,e⟩ | ⟨h,e⟩
  ·rw [if_pos h]; exact sgn_0.mpr (n0 h)
  ·have h':Ext.nrm x≠0:=by grind
   have a0:Ext.a x≠0:=fun z=>by rw [nd,z] at h; grind
   have hx:x≠0:=fun z=>a0 (x0.mp z).1;rw [if_neg h',if_pos h];rcases nQ (Ext.a x) with ⟨h2,e2⟩ | ⟨h2,e2⟩ | ⟨h2,e2⟩
   ·exact (a0 h2).elim
   ·rw [e2]; exact sgn_p.mpr (xp.mpr (.inl ⟨h,h2⟩))
   ·rw [e2]; refine sgn_n.mpr ?_;have:¬0 < x:=fun z=>by rcases xp.mp z with q | q <;> grind
    grind
  ·have h':Ext.nrm x≠0:=by grind
   have h'':¬0 < Ext.nrm x:=by grind
   have b0:Ext.b x≠0:=fun z=>by rw [nd,z] at h; grind
   have hx:x≠0:=fun z=>b0 (x0.mp z).2;rw [if_neg h',if_neg h''];rcases nQ (Ext.b x) with ⟨h2,e2⟩ | ⟨h2,e2⟩ | ⟨h2,e2⟩
   ·exact (b0 h2).elim
   ·rw [e2]; exact sgn_p.mpr (xp.mpr (.inr ⟨h,h2⟩))
   ·rw [e2]; refine sgn_n.mpr ?_;have:¬0 < x:=fun z=>by rcases xp.mp z with q | q <;> grind
    grind
 rw [hs];have cb:Ext.b x=0->Ext.nrm x=Ext.a x * Ext.a x:=fun z=>by rw [nd,z]; grind
 have ca:Ext.a x=0->Ext.nrm x=-(Ext.b x * Ext.b x * r):=fun z=>by rw [nd,z]; grind
 rcases nQ (Ext.a x) with ⟨ha,ea⟩ | ⟨ha,ea⟩ | ⟨ha,ea⟩ <;> rcases nQ (Ext.b x) with ⟨hb,eb⟩ | ⟨hb,eb⟩ | ⟨hb,eb⟩ <;> rcases nQ (Ext.nrm x) with ⟨h,e⟩ | ⟨h,e⟩ | ⟨h,e⟩ <;> rw [ea,eb,e] <;>
  first
  | (have:=n0 h; have:=x0.mp this; grind)
  | (rw [if_neg (show ¬Ext.nrm x=0 by grind)]; first | (rw [if_pos h]; rfl) | (rw [if_neg (show ¬0 < Ext.nrm x by grind)]; rfl))
  | (have c1:=cb hb; have:=Kf (a:=Ext.a x) (by grind); grind)
  | (have c1:=ca ha; have:=cU (Kf (a:=Ext.b x) (by grind)) hr; grind)
  | (have c1:=cb hb; grind)
  | (have c1:=ca ha; grind)
  | (rw [if_pos h]; rfl)
theorem RN {x y:List Int} {b c:Int} (hx:Nf x b) (hy:Nf y c) (e:x.map (c * ·)=y.map (b * ·)):x=y/\b=c:=by
 have e1:=zO c x b.natAbs;have e2:=zO b y c.natAbs;rw [hx.one,e,Nat.mul_comm] at e1;rw [hy.one] at e2;have p1:=hx.pos;have p2:=hy.pos;have:b=c:=by omega
 subst this;refine ⟨?_,rfl⟩;have inj:∀(x y:List Int),x.map (b * ·)=y.map (b * ·)->x=y:=by
  intro x
  induction x with
  | nil=>intro y h; cases y with | nil=>rfl | cons _ _=>simp at h
  | cons a x ih =>
   intro y h
   cases y with
   | nil=>simp at h
   | cons a' y =>
    simp only [map_cons,List.cons.injEq] at h;rw [Int.eq_of_mul_eq_mul_left (by omega) h.1,ih y h.2]
 exact inj x y e
noncomputable def Nm {F:OF} (of:List Int->F.C) (k n:Nat) (d:D) (v:F.C):Prop :=
 ∃x b,d=num x b/\Nf x b/\x.length=2 ^ k/\Bd n x/\b.natAbs < 2 ^ n/\v=of x / (b:F.C)
section
variable {rs:List (List Int)} {F:OF} {of:List Int->F.C}
theorem Nm.mono {k n m:Nat} {d:D} {v:F.C} (h:Nm of k n d v) (e:n<=m):Nm of k m d v:=by
 obtain ⟨x,b,h1,h2,h3,h4,h5,h6⟩:=h;exact ⟨x,b,h1,h2,h3,h4.mono e,Nat.lt_of_lt_of_le h5 (Nat.pow_le_pow_right (by decide) e),h6⟩
theorem kN' {a b c d:F.C} (hb:b≠0) (hd:d≠0) (h:a / b=c / d):d * a=b * c:=by grind
theorem RP {a b c d:F.C} (hb:b≠0) (hd:d≠0) (h:d * a=b * c):a / b=c / d:=by grind
theorem iT (T:Tow rs F of) {n m:Nat} {d e:D} {v:F.C} (h1:Nm of rs.length n d v) (h2:Nm of rs.length m e v):d=e:=by
 obtain ⟨x,b,rfl,nx,lx,_,_,ex⟩:=h1;obtain ⟨y,c,rfl,ny,ly,_,_,ey⟩:=h2;have pb:=nx.pos;have pc:=ny.pos;have b0:=fO T (show b≠0 by omega);have c0:=fO T (show c≠0 by omega);have e:=kN' b0 c0 (ex.symm.trans ey);rw [<- jm T c lx,<- jm T b ly] at e;obtain ⟨rfl,rfl⟩:=RN nx ny (GD T (by simpa using lx) (by simpa using ly) e);rfl
open Classical in
theorem RQ (T:Tow rs F of) {n m:Nat} {d e:D} {v w:F.C} (h1:Nm of rs.length n d v) (h2:Nm of rs.length m e w):cH d e=.ok (.bl (decide (v=w))):=by
 by_cases c:v=w
 ·subst c;have:=iT T h1 h2;subst this;obtain ⟨x,b,rfl,_⟩:=h1;rw [zP]; simp
 ·obtain ⟨x,b,rfl,nx,lx,_,_,ex⟩:=h1;obtain ⟨y,b',rfl,ny,ly,_,_,ey⟩:=h2;rw [zP];have:¬(x=y/\b=b'):=fun z=>c (by rw [ex,ey,z.1,z.2]);simp only [c,decide_false]
  congr 2
  simpa using this
theorem vo (T:Tow rs F of) {ts:List Int} {b:Int} {n:Nat} (hl:ts.length=2 ^ rs.length) (hb:b≠0) (h1:Bd n ts) (h2:b.natAbs < 2 ^ n) :
  ∃K x c,K≠0/\ts=x.map (K * ·)/\b=K * c/\Nf x c/\x.length=2 ^ rs.length/\K.natAbs < 2 ^ n/\Nm of rs.length n (num x c) (of ts / (b:F.C)):=by
 obtain ⟨K,x,c,k0,e1,e2,nf,el⟩:=J2 ts hb;have cp:=nf.pos;have xl:x.length=2 ^ rs.length:=el.trans hl;have kb:K.natAbs < 2 ^ n:=by
  rw [e2,Int.natAbs_mul] at h2;exact Nat.lt_of_le_of_lt (Nat.le_mul_of_pos_right _ (by omega)) h2
 refine ⟨K,x,c,k0,e1,e2,nf,xl,kb,x,c,rfl,nf,xl,fun t ht=>?_,?_,?_⟩
 ·have:=h1 (K * t) (by rw [e1]; exact mem_map.mpr ⟨t,ht,rfl⟩);rw [Int.natAbs_mul] at this;exact Nat.lt_of_le_of_lt (Nat.le_mul_of_pos_left _ (by omega)) this
 ·rw [e2,Int.natAbs_mul] at h2;exact Nat.lt_of_le_of_lt (Nat.le_mul_of_pos_left _ (by omega)) h2
 ·have kz:=fO T k0;have cz:=fO T (show c≠0 by omega);rw [e1,e2,jm T K xl,Ring.intCast_mul]
  grind
theorem RV (T:Tow rs F of) {n:Nat} (hn:0 < n):Nm of rs.length n (num (List.replicate (2 ^ rs.length) 0) 1) 0:=by
 have p:1 < 2 ^ n:=by
  have:=Nat.pow_le_pow_right (show 2 > 0 by decide) hn;have e:2 ^ (0 + 1)=2:=rfl;rw [e] at this; omega
 refine ⟨_,1,rfl,hH' _,by simp,fun t ht=>?_,p,?_⟩
 ·rw [eq_of_mem_replicate ht]; exact Nat.two_pow_pos n
 ·rw [dk' T]; grind
theorem RW (T:Tow rs F of) {n:Nat} {k:Int} (hn:0 < n) (hk:k.natAbs < 2 ^ n):Nm of rs.length n (num (k :: List.replicate (2 ^ rs.length - 1) 0) 1) (k:F.C):=by
 have p:1 < 2 ^ n:=by
  have:=Nat.pow_le_pow_right (show 2 > 0 by decide) hn;have e:2 ^ (0 + 1)=2:=rfl;rw [e] at this; omega
 have q:=Nat.two_pow_pos rs.length;refine ⟨_,1,rfl,Dz _,by simp; omega,fun t ht=>?_,p,?_⟩
 ·rcases mem_cons.mp ht with z | z
  ·rw [z]; exact hk
  ·rw [eq_of_mem_replicate z]; exact Nat.two_pow_pos n
 ·rw [nU T];have:((1:Int):F.C)=1:=Ring.intCast_one;rw [this]; grind
theorem Nm.zero_iff (T:Tow rs F of) {n:Nat} {x:List Int} {b:Int} {v:F.C} (h:Nm of rs.length n (num x b) v):v=0↔zA x=true:=by
 have hz:=RV T (n:=1) (by decide)
 constructor
 ·intro e;subst e;have:=iT T h hz;obtain ⟨y,c,e,_,ly,_,_,_⟩:=h;simp only [num,D.tup.injEq,List.cons.injEq,D.int.injEq,and_true] at this;obtain ⟨q,_⟩:=this;unfold zA;have:∀t∈x,t=0:=fun t ht=>by
   have:D.int t∈(List.replicate (2 ^ rs.length) (0:Int)).map D.int:=by rw [<- q]; exact mem_map.mpr ⟨t,ht,rfl⟩
   obtain ⟨u,hu,e⟩:=mem_map.mp this;rw [eq_of_mem_replicate hu] at e;injection e with e; exact e.symm
  rw [all_eq_true];intro t ht; rw [this t ht]; rfl
 ·intro e;obtain ⟨y,c,e',ny,ly,_,_,ev⟩:=h;simp only [num,D.tup.injEq,List.cons.injEq,D.int.injEq,and_true] at e';have:x=y:=by
   have inj:∀(x y:List Int),x.map D.int=y.map D.int->x=y:=by
    intro x
    induction x with
    | nil=>intro y h; cases y with | nil=>rfl | cons _ _=>simp at h
    | cons a x ih =>
     intro y h
     cases y with
     | nil=>simp at h
     | cons a' y =>
      simp only [map_cons,List.cons.injEq,D.int.injEq] at h;rw [h.1,ih y h.2]
   exact inj _ _ e'.1
  subst this;have:x=List.replicate (2 ^ rs.length) 0:=by
   rw [<- ly];refine eq_replicate_iff.mpr ⟨rfl,fun t ht=>?_⟩;unfold zA at e;rw [all_eq_true] at e;have:=e t ht;simpa using this
  rw [ev,this,dk' T]; grind
end
abbrev hd0:List Int->ratOF.C:=fun x=>(((x.headD 0:Int):Rat))
noncomputable def NS {F:OF} (d:F.C):Prop:=∀z:F.C,z * z≠d
theorem RX {n r:Int} (hr:0<=r) (h1:r * r < n) (h2:n < (r + 1) * (r + 1)) (z:Rat):z * z≠(n:Rat):=by
 intro e;have hd:((z.den:Int):Rat)≠0:=fun q=>z.den_nz (by have:=Rat.intCast_eq_zero_iff.mp q; omega);have hz:z * ((z.den:Int):Rat)=(z.num:Rat):=by
  have:=Rat.num_divInt_den z;rw [Rat.divInt_eq_div] at this
  grind
 have e2:((z.num * z.num:Int):Rat)=(((z.den:Int) * (z.den:Int) * n:Int):Rat):=by
  rw [Rat.intCast_mul,Rat.intCast_mul,Rat.intCast_mul,<- hz,<- e]
  grind
 have:=Gv hr h1 h2 (Rat.intCast_inj.mp e2);have:=z.den_nz;omega
theorem GF {n r:Int} (hr:0<=r) (h1:r * r < n) (h2:n < (r + 1) * (r + 1)):NS (F:=ratOF) ((n:Int):Rat):=RX hr h1 h2
section
variable {F:OF} {r:F.C} {hr:0 < r} {hn:∀z:F.C,z * z≠r}
noncomputable def gG (hr:0 < r) (hn:∀z:F.C,z * z≠r) (a b:F.C):(bH F r hr hn).C:=(⟨a,b⟩:Ext r)
theorem RZ {d:F.C} (h1:NS d) (h2:NS (d * r)):NS (gG hr hn d 0):=by
 intro z e;have ea:Ext.a (r:=r) z * Ext.a z + Ext.b z * Ext.b z * r=d:=congrArg (Ext.a (r:=r)) e;have eb:Ext.a (r:=r) z * Ext.b z + Ext.b z * Ext.a z=0:=congrArg (Ext.b (r:=r)) e;generalize Ext.a (r:=r) z=a at *;generalize Ext.b (r:=r) z=b at *;have t:a * b=0:=by
  have:(2:F.C)≠0:=by
   have:=OrderedRing.zero_lt_one (R:=F.C)
   grind
  have q:(2:F.C) * (a * b)=0:=by grind
  rcases wX q with q | q
  ·exact (this q).elim
  ·exact q
 rcases wX t with q | q
 ·exact h2 (b * r) (by subst q; grind)
 ·exact h1 a (by subst q; grind)
theorem Kq {d:Ext r} (h:Ext.nrm d < 0):NS (F:=bH F r hr hn) d:=by
 intro z e;have:Ext.nrm (r:=r) z * Ext.nrm z=Ext.nrm d:=(Ext.nrm_mul (r:=r) z z).symm.trans (congrArg (Ext.nrm (r:=r)) e);have:=eX (Ext.nrm (r:=r) z)
 grind
theorem R0 {a b:F.C} (ha:0<=a) (hb:0 < b):0 < gG hr hn a b:=by
 have es:=ev' (gG hr hn a b);have eb:sgn b=1:=sgn_p.mpr hb;have es':sgn (gG hr hn a b)=if sgn a=sgn b\/sgn b=0 then sgn a else if sgn a=0 then sgn b else sgn a * sgn (Ext.nrm (⟨a,b⟩:Ext r)):=es
 refine sgn_p.mp ?_;rw [es',eb];rcases nQ a with ⟨h,e⟩ | ⟨h,e⟩ | ⟨h,e⟩
 ·rw [e]; rfl
 ·rw [e]; rfl
 ·exfalso; grind
theorem R5 {a:F.C} (ha:0 < a):0 < gG hr hn a 0:=by
 have es:=ev' (gG hr hn a 0);have ea:sgn a=1:=sgn_p.mpr ha;have e0:sgn (0:F.C)=0:=sgn_0.mpr rfl;have es':sgn (gG hr hn a 0)=if sgn a=sgn (0:F.C)\/sgn (0:F.C)=0 then sgn a else if sgn a=0 then sgn (0:F.C) else sgn a * sgn (Ext.nrm (⟨a,0⟩:Ext r)):=es
 refine sgn_p.mp ?_;rw [es',ea,e0]; rfl
end
noncomputable def eF (rs:List (List Int)):Prop:=∃(F:OF) (of:List Int->F.C),Tow rs F of
theorem Kr {m r:Int} (hr:0<=r) (h1:r * r < m) (h2:m < (r + 1) * (r + 1)):∃(hp:0 < hd0 [m]) (hn:∀z:ratOF.C,z * z≠hd0 [m]),Tow [[m]] (bH ratOF (hd0 [m]) hp hn) (bN hd0 [m] hp hn):=by
 have hp:0 < hd0 [m]:=by
  have:0 < m:=Int.lt_of_le_of_lt (Int.mul_nonneg hr hr) h1;exact (Rat.intCast_pos.mpr this:(0:Rat) < ((m:Int):Rat))
 exact ⟨hp,GF hr h1 h2,Tow.cons Tow.nil [m] rfl hp (GF hr h1 h2)⟩
theorem Ku {a b:Int} (h:a < b):((a:Int):Rat) < ((b:Int):Rat):=Rat.intCast_lt_intCast.mpr h
theorem GJ (a b:Int):bj [a,b]=[a]:=by simp [bj]
theorem GK (a b:Int):bf [a,b]=[b]:=by simp [bf]
theorem GP (a b c d:Int):bj [a,b,c,d]=[a,b]:=by simp [bj]
theorem GQ (a b c d:Int):bf [a,b,c,d]=[c,d]:=by simp [bf]
theorem R8 {F:OF} {of:List Int->F.C} {r:List Int} {hr:0 < of r} {hn:∀z:F.C,z * z≠of r} {x y z:List Int} (h1:bj x=y) (h2:bf x=z):bN of r hr hn x=gG hr hn (of y) (of z):=by subst h1 h2; rfl
theorem DN {m:Int} {hp:0 < hd0 [m]} {hn:∀z:ratOF.C,z * z≠hd0 [m]} (a b:Int):bN hd0 [m] hp hn [a,b]=gG hp hn ((a:Int):Rat) ((b:Int):Rat):=R8 (GJ a b) (GK a b)
end Mine
namespace DL
open PySem PySem.Spec PyProof.Rows L2
end DL
local macro_rules
 | `(tactic| push_cast [$xs,*]) => `(tactic| simp only [DL.ap_seq, DL.sq_nxt, DL.sq_ret, DL.sq_err, DL.ap_set, DL.on_ok, DL.on_err, DL.ont_ok, DL.onl_ok, DL.ap_if, DL.ap_two, DL.ap_bF, DL.ap_bT, DL.ap_bL, DL.ap_bR, DL.ap_cons, DL.ap_tup, DL.ap_lst, DL.ap_ret, DL.ap_neg, DL.neg_ok, DL.ap_notT, DL.ap_andT, DL.ap_orT, DL.ap_andV, DL.ap_ifD, DL.ap_for, DL.ap_slice, DL.ap_part, DL.ap_noPart, DL.part_int, DL.out_ret, DL.out_err, DL.cmp_ok, DL.add_ok, DL.sub_ok, DL.bool_ok, DL.truth_bl, DL.abs_ok, DL.len_tup, DL.len_lst, DL.tuple_lst, DL.seq_tup, DL.seq_lst, DL.vw_val, DL.vw_arg, DL.eqI, DL.neI, DL.bnd_ok, DL.mulE_i, DL.sl0, DL.st0, DL.sl1, DL.st1, DL.sl2, DL.st2, DL.sl3, DL.st3, DL.sl4, DL.st4, DL.sl5, DL.st5, DL.sl6, DL.st6, DL.sl7, DL.st7, DL.sl8, DL.st8, DL.sl9, DL.st9, DL.sl10, DL.st10, DL.tup0, DL.tup1, DL.lst1, DL.tup2, DL.lst2, DL.tup3, DL.lst3, DL.tup4, DL.lst4, DL.lst5, DL.lst6, DL.tup8, DL.ix_tup0, DL.ix_lst0, DL.ix_tup1, DL.ix_lst1, DL.ix_tup2, DL.ix_tup3, ↓reduceIte, decide_true, decide_false, Bool.not_true, Bool.not_false, Bool.false_eq_true, Int.reduceEq, Int.reduceNe, Int.reduceLT, Int.reduceLE, Nat.reduceAdd, DL.cN0, DL.cN1, DL.cN2, DL.cN3, DL.cN4, length_cons, length_nil, $xs,*])
namespace Mine
open PySem DL L2
open Lean.Grind
section
variable {F:OF} {r:F.C} {hr:0 < r} {hn:∀z:F.C,z * z≠r}
theorem DP {a b:F.C} (hb:0 < b) (h:a * a - b * b * r < 0):0 < gG hr hn a b:=by
 have es:=ev' (gG hr hn a b);have eb:sgn b=1:=sgn_p.mpr hb;have en:sgn (Ext.nrm (⟨a,b⟩:Ext r))=-1:=sgn_n.mpr h;have es':sgn (gG hr hn a b)=if sgn a=sgn b\/sgn b=0 then sgn a else if sgn a=0 then sgn b else sgn a * sgn (Ext.nrm (⟨a,b⟩:Ext r)):=es
 refine sgn_p.mp ?_;rw [es',eb,en];rcases nQ a with ⟨h,e⟩ | ⟨h,e⟩ | ⟨h,e⟩ <;> rw [e] <;> rfl
theorem GR {a b ρ:F.C} (h:1 < ρ) (ha:0<=a) (hab:a + 1<=b):a * a - b * b * ρ < 0/\(a - 1) * (a - 1) - b * b * ρ < 0:=by
 have q:=nP (a:=b - a - 1) (b:=b + a) (by grind) (by grind);have q1:=cU (a:=b * b) (b:=ρ - 1) (cU (by grind) (by grind)) (by grind)
 constructor <;> grind
end
section
variable {rs:List (List Int)} {F:OF} {of:List Int->F.C}
theorem Kv (T:Tow rs F of) {a b:Int} (h:a<=b):((a:Int):F.C)<=((b:Int):F.C):=by
 by_cases z:a=b
 ·rw [z]; exact Std.le_refl _
 ·have:=pX T (k:=b - a) (by omega);rw [Ring.intCast_sub] at this; grind
theorem nest (T:Tow rs F of) {r:List Int} (hl:r.length=2 ^ rs.length) (hr:0 < of r) (hn:∀z:F.C,z * z≠of r) (h1:1 < of r) {e k:Int} (he:0<=e) (hk:e < k) {r':List Int} (lr:r'.length=2 ^ (rs.length + 1)) (ea:of (bj r')=((e:Int):F.C)) (eb:of (bf r')=((k:Int):F.C)) :
  0 < bN of r hr hn r'/\(∀z:(bH F (of r) hr hn).C,z * z≠bN of r hr hn r')/\1 < bN of r hr hn r':=by
 have ee:bN of r hr hn r'=gG hr hn ((e:Int):F.C) ((k:Int):F.C):=by
  show gG hr hn (of (bj r')) (of (bf r'))=_;rw [ea,eb]
 rw [ee];have c0:(0:F.C)<=((e:Int):F.C):=by have:=Kv T he; rwa [Ring.intCast_zero] at this
 have ck:((e:Int):F.C) + 1<=((k:Int):F.C):=by
  have:=Kv T (show e + 1<=k by omega)
  rwa [Ring.intCast_add,Ring.intCast_one] at this
 have k0:(0:F.C) < ((k:Int):F.C):=pX T (by omega);obtain ⟨q1,q2⟩:=GR h1 c0 ck;refine ⟨DP k0 q1,Kq q1,?_⟩;have p:0 < gG hr hn (((e:Int):F.C) - 1) ((k:Int):F.C):=DP k0 q2;have s:gG hr hn (((e:Int):F.C) - 1) ((k:Int):F.C)=gG hr hn ((e:Int):F.C) ((k:Int):F.C) - 1:=by
  refine Ext.eqs (r:=of r) rfl ?_;show ((k:Int):F.C)=((k:Int):F.C) - 0
  grind
 rw [s] at p
 grind
theorem GX (T:Tow rs F of) {r:List Int} {hr:0 < of r} {hn:∀z:F.C,z * z≠of r} {q t:Int} (er:of r=((q:Int):F.C)) (h1:NS ((t:Int):F.C)) (h2:NS ((t * q:Int):F.C)):NS (F:=bH F (of r) hr hn) ((t:Int):(bH F (of r) hr hn).C):=by
 rw [Ring.intCast_mul,<- er] at h2;have:=RZ (hr:=hr) (hn:=hn) h1 h2;exact this
end
theorem R9 {m r c b e k e' k':Int} (hr:0 < r) (h1:r * r < m) (h2:m < (r + 1) * (r + 1)) (hb:0 < b) (hc0:0<=c) (hc:c<=b * r) (he:0<=e) (hk:e < k) (he':0<=e') (hk':e' < k'):eF [[m]]/\eF [[c,b],[m]]/\eF [[e,0,k,0],[c,b],[m]]/\eF [[e',0,0,0,k',0,0,0],[e,0,k,0],[c,b],[m]]:=by
 obtain ⟨hp,hn,T1⟩:=Kr (Int.le_of_lt hr) h1 h2;have br:1<=b * r:=Int.mul_pos hb hr;have Q:∀x:Int,x * x<=b * r * (b * r)->((x:Int):Rat) * ((x:Int):Rat) - ((b:Int):Rat) * ((b:Int):Rat) * ((m:Int):Rat) < 0:=fun x hx=>by
  have q:x * x - b * b * m < 0:=by
   have q2:=Int.mul_lt_mul_of_pos_left h1 (Int.mul_pos hb hb);have e1:b * r * (b * r)=b * b * (r * r):=by grind
   omega
  have:=Ku q
  rwa [show ((x * x - b * b * m:Int):Rat)=((x:Int):Rat) * ((x:Int):Rat) - ((b:Int):Rat) * ((b:Int):Rat) * ((m:Int):Rat) by rw [Rat.intCast_sub,Rat.intCast_mul,Rat.intCast_mul,Rat.intCast_mul]] at this
 have q1:=Q c (Int.mul_le_mul hc hc hc0 (by omega));have q2:=Q (c - 1) (by
  by_cases z:c=0
  ·subst z;have:=Int.mul_le_mul br br (by decide) (by omega);omega
  ·exact Int.mul_le_mul (by omega) (by omega) (by omega) (by omega))
 have b0:(0:ratOF.C) < ((b:Int):Rat):=Ku hb;have p2:0 < bN (F:=ratOF) hd0 [m] hp hn [c,b]:=by rw [DN]; exact DP (F:=ratOF) b0 q1
 have s2:NS (bN (F:=ratOF) hd0 [m] hp hn [c,b]):=by rw [DN]; exact Kq (F:=ratOF) q1
 have o2:1 < bN (F:=ratOF) hd0 [m] hp hn [c,b]:=by
  have p:0 < gG (F:=ratOF) hp hn (((c - 1:Int):Int):Rat) ((b:Int):Rat):=DP (F:=ratOF) b0 q2;have s:gG (F:=ratOF) hp hn ((c - 1:Int):Rat) ((b:Int):Rat)=gG (F:=ratOF) hp hn ((c:Int):Rat) ((b:Int):Rat) - 1:=by
   refine Ext.eqs (F:=ratOF) ?_ ?_
   ·show ((c - 1:Int):Rat)=((c:Int):Rat) - 1;rw [Rat.intCast_sub]; rfl
   ·show ((b:Int):Rat)=((b:Int):Rat) - 0
    grind
  rw [s] at p;rw [DN]
  grind
 have T2:=Tow.cons T1 [c,b] rfl p2 s2;obtain ⟨p3,s3,o3⟩:=nest T1 (r:=[c,b]) rfl p2 s2 o2 he hk (r':=[e,0,k,0]) rfl (by rw [GP]; exact nU T1 e) (by rw [GQ]; exact nU T1 k);have T3:=Tow.cons T2 [e,0,k,0] rfl p3 s3;obtain ⟨p4,s4,_⟩:=nest T2 (r:=[e,0,k,0]) rfl p3 s3 o3 he' hk' (r':=[e',0,0,0,k',0,0,0]) rfl (by rw [show bj [e',0,0,0,k',0,0,0]=[e',0,0,0] by simp [bj]]; exact nU T2 e') (by rw [show bf [e',0,0,0,k',0,0,0]=[k',0,0,0] by simp [bf]]; exact nU T2 k');exact ⟨⟨_,_,T1⟩,⟨_,_,T2⟩,⟨_,_,T3⟩,⟨_,_,Tow.cons T3 _ rfl p4 s4⟩⟩
theorem R_ {p q s t:Int} (hq:0 < q) (hs:0 < s) (ht:0 < t) (h:∀n∈[p,q,q * p,s,s * p,s * q,s * q * p,t,t * p,t * q,t * q * p,t * s,t * s * p,t * s * q,t * s * q * p],∃r∈List.range 80,(r:Int) * r < n/\n < ((r:Int) + 1) * ((r:Int) + 1)):eF [[p]]/\eF [[q,0],[p]]/\eF [[s,0,0,0],[q,0],[p]]/\eF [[t,0,0,0,0,0,0,0],[s,0,0,0],[q,0],[p]]:=by
 have n0:∀n∈[p,q,q * p,s,s * p,s * q,s * q * p,t,t * p,t * q,t * q * p,t * s,t * s * p,t * s * q,t * s * q * p],NS (F:=ratOF) ((n:Int):ratOF.C):=fun n hn=>by
  obtain ⟨r,_,b,c⟩:=h n hn;exact GF (Int.natCast_nonneg r) b c
 obtain ⟨r,_,b,c⟩:=h p (by simp);obtain ⟨h1,h2,T1⟩:=Kr (Int.natCast_nonneg r) b c;have e1:hd0 [p]=((p:Int):ratOF.C):=rfl;have N1:=fun {n:Int}=>GX Tow.nil (r:=[p]) (hr:=h1) (hn:=h2) (q:=p) (t:=n) e1;have p2:0 < bN (F:=ratOF) hd0 [p] h1 h2 [q,0]:=by rw [show bN (F:=ratOF) hd0 [p] h1 h2 [q,0]=_ from nU T1 q]; exact pX T1 hq
 have s2:NS (bN (F:=ratOF) hd0 [p] h1 h2 [q,0]):=by
  rw [show bN (F:=ratOF) hd0 [p] h1 h2 [q,0]=_ from nU T1 q]
  exact N1 (n0 _ (by simp)) (n0 _ (by simp))
 have T2:=Tow.cons T1 [q,0] rfl p2 s2;have N2:=fun {n:Int}=>GX T1 (r:=[q,0]) (hr:=p2) (hn:=s2) (q:=q) (t:=n) (nU T1 q);have p3:0 < bN (bN (F:=ratOF) hd0 [p] h1 h2) [q,0] p2 s2 [s,0,0,0]:=by rw [show bN (bN (F:=ratOF) hd0 [p] h1 h2) [q,0] p2 s2 [s,0,0,0]=_ from nU T2 s]; exact pX T2 hs
 have s3:NS (bN (bN (F:=ratOF) hd0 [p] h1 h2) [q,0] p2 s2 [s,0,0,0]):=by
  rw [show bN (bN (F:=ratOF) hd0 [p] h1 h2) [q,0] p2 s2 [s,0,0,0]=_ from nU T2 s]
  exact N2 (N1 (n0 _ (by simp)) (n0 _ (by simp))) (N1 (n0 _ (by simp)) (n0 _ (by simp)))
 have T3:=Tow.cons T2 [s,0,0,0] rfl p3 s3;have N3:=fun {n:Int}=>GX T2 (r:=[s,0,0,0]) (hr:=p3) (hn:=s3) (q:=s) (t:=n) (nU T2 s);refine ⟨⟨_,_,T1⟩,⟨_,_,T2⟩,⟨_,_,T3⟩,⟨_,_,Tow.cons T3 [t,0,0,0,0,0,0,0] rfl ?_ ?_⟩⟩
 ·rw [show bN (bN (bN (F:=ratOF) hd0 [p] h1 h2) [q,0] p2 s2) [s,0,0,0] p3 s3 [t,0,0,0,0,0,0,0]=_ from nU T3 t]; exact pX T3 ht
 ·show NS _;rw [show bN (bN (bN (F:=ratOF) hd0 [p] h1 h2) [q,0] p2 s2) [s,0,0,0] p3 s3 [t,0,0,0,0,0,0,0]=_ from nU T3 t]
  exact N3 (N2 (N1 (n0 _ (by simp)) (n0 _ (by simp))) (N1 (n0 _ (by simp)) (n0 _ (by simp)))) (N2 (N1 (n0 _ (by simp)) (n0 _ (by simp))) (N1 (n0 _ (by simp)) (n0 _ (by simp))))
theorem pY:∀v∈[[2,3,5,7],[3,5,7,11],[5,7,11,13],[7,11,13,2],[11,13,2,3],[13,2,3,5]],∀p q s t:Int,v=[p,q,s,t]->eF [[p]]/\eF [[q,0],[p]]/\eF [[s,0,0,0],[q,0],[p]]/\eF [[t,0,0,0,0,0,0,0],[s,0,0,0],[q,0],[p]]:=by
 intro v hv p q s t e;simp only [mem_cons,not_mem_nil,or_false] at hv;rcases hv with z | z | z | z | z | z <;> subst z <;> cases e <;> exact R_ (by decide) (by decide) (by decide) (by decide +kernel)
end Mine
set_option maxHeartbeats 4000000
open DL in
local macro_rules
 | `(‹$n:num›) => `(fun _=>Res.ok (D.int $n))
 | `(‹""›) => `(fun _=>Res.ok [])
 | `(‹"0"›) => `(⟨rfl,rfl,rfl,by decide +kernel,rfl,by decide +kernel,by decide +kernel⟩)
 | `(‹"1"›) => `(by decide +kernel)
open PySem PySem.Spec PyProof.Rows L2 DL in
local macro_rules
 | `(‹"f"›) => `(two (ak 0) ‹0› aR)
 | `(‹"a"›) => `(fU (aj (aQ (aj (fun _=>.ok (.str "norm")) (aj (ak 0) ‹""›))) (aj (aQ (aj (fun _=>.ok (.str "both")) (aj (ak 0) (aj (ak 0) ‹""›)))) (aj (two (aQ (aj (ao ‹"f"› (fun d=>d9 d [])) ‹""›)) (bz (ak 0) (bJ ‹1›) bC) aN) (aj (two (aQ (aj (fun _=>.ok .non) ‹""›)) (bz (ak 0) (bJ ‹1›) bC) aN) (aj ‹7› ‹""›))))))
 | `(‹"r"›) => `(fun _=>.ok (.str "between"))
 | `(‹"h"›) => `(two (ak 0) ‹1› aR)
 | `(‹"b"›) => `(aH (two (fU (aj (aQ (aj ‹"r"› (aj (two ‹"h"› ‹1› aN) ‹""›))) (aj (aQ (aj ‹"r"› (aj (two ‹"h"› ‹1› iu) ‹""›))) (aj (aQ (aj ‹"r"› (aj (fH ‹"h"›) ‹""›))) ‹""›)))) (two (ak 1) ‹3› aY) aR))
 | `(‹"j"›) => `(bz (ak 0) bC (bJ (fH ‹1›)))
 | `(‹"c"›) => `(aj (ao (aj (ak 0) ‹""›) iR) (aj (two (ak 0) (aQ (aj (fun _=>.ok (.str "x")) ‹""›)) aN) (aj ‹"j"› (aj (fun _=>.ok (.str "below")) ‹""›))))
 | `(‹"d"›) => `(aH (two (aQ (aj (fun _=>.ok (.str "halves")) (aj (two (ak 4) (two (two (ak 1) ‹2› aL) ‹4› aY) aR) ‹""›))) (bz (ak 0) (bJ ‹2›) bC) aN))
 | `(‹"e"›) => `(ao (aj (ak 0) ‹""›) a_)
 | `(‹"g"›) => `(aj (two (ak 3) ‹0› aR) ‹""›)
 | `(‹"i"›) => `(aj (ak 1) ‹""›)
 | `(‹"k"›) => `(jh (aF (two ‹"f"› (fun _=>.ok (.str "halves")) cH) aG) (aF (two (two (ak 1) ‹2› aY) ‹0› cH) aG))
 | `(‹"l"›) => `(jh (aF (two ‹"f"› (fun _=>.ok (.str "both")) cH) aG) (aF (two (two (ak 1) ‹2› aY) ‹0› cH) aG))
 | `(‹"m"›) => `(two (ak 1) (ak 0) aR)
 | `(‹"T"›) => `(aj ‹"h"› ‹""›)
 | `(‹"n"›) => `(aH (aQ (aj (fun _=>.ok (.str "both")) (aj (two (ak 0) ‹2› aR) ‹"T"›))))
 | `(‹"o"›) => `(aj (ak 2) ‹""›)
 | `(‹"p"›) => `(aQ (aj (two (ak 3) ‹0› aR) (aj (two (two (ak 3) ‹1› aR) ‹1› aN) ‹""›)))
 | `(‹"q"›) => `(aj (ak 2) (aj (ak 3) (aj (ak 6) ‹""›)))
 | `(‹"s"›) => `(aj (two (ak 3) ‹1› aR) ‹""›)
 | `(‹"ab"›) => `(two (ak 2) ‹1› aR)
 | `(‹"t"›) => `(aj ‹"ab"› ‹""›)
 | `(‹"u"›) => `(cC (aj ‹1› (aj ‹"e"› ‹""›)) qw)
 | `(‹"v"›) => `(two (ak 1) ‹0› aR)
 | `(‹"w"›) => `(gW fun i j=>decide (i < j))
 | `(‹"x"›) => `(two (ak 1) ‹1› aR)
 | `(‹"y"›) => `(aH (two (ak 2) (two (two (ak 1) ‹2› aL) ‹14› aY) aR))
 | `(‹"z"›) => `(aF (two (two (ak 5) ‹7› aY) ‹0› (gW fun i j=>decide (j < i))) aG)
 | `(‹"A"›) => `(aj (ak 3) ‹""›)
 | `(‹"B"›) => `(two (ak 2) ‹0› aR)
 | `(‹"C"›) => `(aQ (aj (fun _=>.ok (.str "below")) ‹""›))
 | `(‹"D"›) => `(two (two (two (ak 0) ‹5› aL) (two (two ‹2› (two ‹10› ‹9› km) bR) ‹1› aN) aY) (two ‹10› ‹9› km) iu)
 | `(‹"E"›) => `(aj (two ‹2› (two (ak 3) ‹1› aR) bR) ‹""›)
 | `(‹"F"›) => `(aD 3 (two (ak 3) (two (two (two ‹2› (ak 4) bR) ‹1› aN) (two (ak 5) (two ‹10› ‹30› km) aY) bR) aN))
 | `(‹"G"›) => `(two ‹"m"› ‹0› aR)
 | `(‹"H"›) => `(aQ (aj ‹"r"› (aj ‹0› ‹""›)))
 | `(‹"I"›) => `(aD 6 (aQ (aj (ao (aj (two (fU (aj ‹1› ‹""›)) (kO (aj ‹0› ‹""›) (two (ak 2) ‹1› iu)) aN) ‹""›) cW) (aj (two ‹1› (two (ak 3) ‹5› aY) aN) ‹""›))))
 | `(‹"J"›) => `(aj (ak 4) (aj (two (ak 5) ‹7› aL) ‹""›))
 | `(‹"K"›) => `(aj (ak 0) ‹"i"›)
 | `(‹"L"›) => `(aQ (aj (ao ‹"g"› iR) ‹"s"›))
 | `(‹"M"›) => `(aF (two ‹"e"› ‹0› cH) aG)
 | `(‹"N"›) => `(aF (two (ak 4) (fun _=>.ok .non) bQ) aG)
 | `(‹"at"›) => `(two (ak 0) (ak 1) aL)
 | `(‹"O"›) => `(aQ (aj (ao (aj (bD 1 [2] (bO 0) ‹"at"› (bindL (ak 0) aZ)) ‹""›) cW) (aj (two (ak 1) (ak 2) aL) ‹""›)))
 | `(‹"ah"›) => `(ao ‹"o"› a_)
 | `(‹"P"›) => `(jh (aF (two ‹"ah"› ‹0› (gW fun i j=>decide (j < i))) aG) (aF (two (two (ak 1) ‹3› aY) ‹0› (gW fun i j=>decide (j < i))) aG))
 | `(‹"Q"›) => `(aF (two ‹"f"› ‹"r"› cH) aG)
 | `(‹"R"›) => `(aj ‹"f"› ‹""›)
 | `(‹"S"›) => `(two (ak 1) (ao (aj (two (two (two (two (ak 2) ‹5› aL) (two (ak 0) ‹1› aN) aL) ‹2› aY) ‹0› cH) ‹""›) nF) bR)
 | `(‹"U"›) => `(aj ‹"v"› ‹""›)
 | `(‹"V"›) => `(aj (two (ak 1) ‹5› aL) (aj (ak 0) (aj ‹19› ‹""›)))
 | `(‹"W"›) => `(aF (two (ak 7) (fun _=>.ok .non) cO) aG)
 | `(‹"X"›) => `(aj (ak 2) ‹"A"›)
 | `(‹"Y"›) => `(aj (ak 4) (aj (ak 6) ‹""›))
 | `(‹"Z"›) => `(two (ak 1) (ao (aj (two (ak 0) (two (two (two (ak 3) ‹5› aL) (ak 2) aY) ‹1› aN) ‹"w"›) ‹""›) nF) bR)
 | `(‹"aa"›) => `(aQ (aj (two (ak 0) (fH ‹1›) aR) (aj ‹1› ‹""›)))
 | `(‹"ac"›) => `(two (two ‹"f"› ‹0› aR) ‹"h"› bR)
 | `(‹"ad"›) => `(bz (ak 1) bC (bJ (fH ‹1›)))
 | `(‹"ae"›) => `(aj (ak 7) ‹""›)
 | `(‹"af"›) => `(aH (ao (aj (bD 2 [] (bW [0,1]) (two (ak 0) (ak 1) aN) (cC ‹"K"› nH)) ‹""›) cW))
 | `(‹"ag"›) => `(aj (fH ‹1›) ‹"g"›)
 | `(‹"ai"›) => `(aj (ak 0) (aj (ak 1) (aj (ao (aj (two (ak 1) (fH ‹1›) aR) ‹""›) a_) ‹""›)))
 | `(‹"aj"›) => `(aD 4 (aQ (aj (fun _=>.ok (.str "norm")) (aj (aQ (aj ‹"r"› (aj ‹3› ‹""›))) ‹""›))))
 | `(‹"ak"›) => `(kJ (bW [4,5]) (cC (aj (bz (ak 0) (bJ ‹2›) (bJ ‹10›)) ‹""›) iQ) ‹"F"›)
 | `(‹"al"›) => `(aj (ak 0) (aj ‹"v"› (aj ‹"B"› ‹""›)))
 | `(‹"am"›) => `(fU (aj ‹2› (aj ‹3› (aj ‹5› (aj ‹7› (aj ‹11› (aj ‹13› ‹""›)))))))
 | `(‹"an"›) => `(aj (two (ak 6) ‹0› aR) ‹""›)
 | `(‹"ao"›) => `(aj (ak 7) (aj ‹"e"› ‹""›))
 | `(‹"ap"›) => `(aH (fun _=>.ok .non))
 | `(‹"aq"›) => `(aj (ak 8) ‹""›)
 | `(‹"ar"›) => `(aj (ak 0) (aj ‹1› ‹""›))
 | `(‹"as"›) => `(aj ‹0› (aj ‹0› (aj ‹0› ‹""›)))
namespace Bk
open PySem PySem.Spec PyProof.Rows L2 DL
noncomputable def is_int:D->Option Bool
 | .non=>some false
 | .bl _=>some true
 | .int _=>some true
 | .str _=>some false
 | .tup _=>some false
 | .lst _=>some false
 | .dct=>some false
 | _=>none
noncomputable def is_bool:D->Option Bool
 | .non=>some false
 | .bl _=>some true
 | .int _=>some false
 | .str _=>some false
 | .tup _=>some false
 | .lst _=>some false
 | .dct=>some false
 | _=>none
noncomputable def is_tuple:D->Option Bool
 | .non=>some false
 | .bl _=>some false
 | .int _=>some false
 | .str _=>some false
 | .tup _=>some true
 | .lst _=>some false
 | .dct=>some false
 | _=>none
noncomputable def is_str:D->Option Bool
 | .non=>some false
 | .bl _=>some false
 | .int _=>some false
 | .str _=>some true
 | .tup _=>some false
 | .lst _=>some false
 | .dct=>some false
 | _=>none
noncomputable def qI (i:Nat) (δ:DS):Nat:=match δ[i]? with
 | some (some sv)=>(match sv.view with | .int i=>i.natAbs + 1 | _=>0)
 | _=>0
def jT:DS->Nat:=qI 3
noncomputable def qJ:DS->Out :=
 (aB (aD 2 (ao (aj (ak 0) ‹""›) lV)) (aB (aD 3 (ao ‹"i"› lV)) (aB (jj jT (aF (two (ak 3) ‹0› fQ) aG) (aB (aD 4 (two (ak 2) (ak 3) aY)) (aB (aD 2 (ak 3)) (aD 3 (ak 4))))) (aH (ak 2)))))
def qK:List D->Res D:=aW 2 5 qJ
noncomputable def qL:DS->Out :=
 (aH (aQ (aj (two ‹"f"› (two (aQ (aj ‹0› ‹""›)) (two (two ‹1› (ak 1) iZ) (ao ‹"R"› a_) iu) bR) aN) ‹"T"›)))
def kZ:List D->Res D:=aW 2 2 qL
noncomputable def qM:DS->Out :=
 (aH (ao (aj (bD 1 [] (bO 0) (two (ak 0) ‹0› cH) (bindL (ak 0) aZ)) ‹""›) lY))
def vq:List D->Res D:=aW 1 1 qM
noncomputable def qN:DS->Out :=
 (aH (bz (ak 0) bC (bJ (two ‹"e"› ‹2› aL))))
def k_:List D->Res D:=aW 1 1 qN
noncomputable def qO:DS->Out :=
 (aH (bz (ak 0) (bJ (two ‹"e"› ‹2› aL)) bC))
def lg:List D->Res D:=aW 1 1 qO
noncomputable def qP:DS->Out :=
 (aH (ao (aj (bD 1 [] (bO 0) (fH (ak 0)) (bindL (ak 0) aZ)) ‹""›) cW))
def pZ:List D->Res D:=aW 1 1 qP
noncomputable def qQ:DS->Out :=
 (aB (bG (aF (two (ak 1) ‹"e"› ‹"w"›) aG) (aH (two (ak 0) (ak 1) aR)) Out.nxt) (aH ‹0›))
def gH:List D->Res D:=aW 2 2 qQ
noncomputable def xj:DS->Out :=
 (aH (gw (ao (ak 0) (bU Bk.is_int)) (u9 (ao (ak 0) (bU Bk.is_bool)))))
def jJ:List D->Res D:=aW 1 1 xj
def jU:DS->Nat:=qI 1
noncomputable def qR:DS->Out :=
 (aB (jj jU (aF (two (ak 1) ‹0› fQ) aG) (aB (aD 2 (two (ak 0) (ak 1) aY)) (aB (aD 0 (ak 1)) (aD 1 (ak 2))))) (aH (ao (aj (ak 0) ‹""›) lV)))
def jK:List D->Res D:=aW 2 3 qR
def qT:DS->Out :=
 ‹"af"›
def p6:List D->Res D:=aW 2 2 qT
noncomputable def qU:DS->Out :=
 (aH (ao (aj (bD 1 [0] (bO 0) (two (ak 1) (ak 0) bR) (bindL (ak 1) aZ)) ‹""›) cW))
def gJ:List D->Res D:=aW 2 2 qU
noncomputable def l_:DS->Out :=
 (aB (bG (aF (two (ak 1) ‹0› cH) aG) (gF "NoOver" (aj (fun _=>.ok (.str "no number has the bottom nought")) ‹""›)) Out.nxt) (aB (aD 2 (ak 1)) (aB (kJ (bO 3) (bindL (ak 0) aZ) (aD 2 (ao ‹"X"› qK))) (aB (bG (aF (two (ak 1) ‹0› ‹"w"›) aG) (aD 2 (fH (ak 2))) Out.nxt) (aH ‹"O"›)))))
def di:List D->Res D:=aW 2 4 l_
noncomputable def qW:DS->Out :=
 (aH (aQ (aj (ao ‹"R"› pZ) ‹"T"›)))
def qX:List D->Res D:=aW 1 1 qW
noncomputable def jn:DS->Out :=
 (aB (bG (gU (dI (aF (ao (ak 0) (bU Bk.is_tuple)) aV)) (gU (aF (two ‹"e"› ‹2› fQ) aG) (dI (aF (ao ‹"f"› (bU Bk.is_tuple)) aV)))) (aH (fun _=>.ok (.bl false))) Out.nxt) (aB (bG (gU (aF (two (ao ‹"R"› a_) (ak 1) fQ) aG) (gU (dI (aF (ao ‹"T"› jJ) aV)) (aF (two ‹"h"› ‹1› ‹"w"›) aG))) (aH (fun _=>.ok (.bl false))) Out.nxt) (aB (aD 2 ‹"h"›) (aB (kJ (bO 3) (bindL ‹"f"› aZ) (aB (bG (dI (aF (ao ‹"A"› jJ) aV)) (aH (fun _=>.ok (.bl false))) Out.nxt) (aD 2 (ao ‹"X"› jK)))) (aH (two (ak 2) ‹1› cH))))))
def mj:List D->Res D:=aW 2 4 jn
noncomputable def qY:DS->Out :=
 (aH (aQ (aj (ao (aj (ao (aj ‹"x"› ‹"R"›) gJ) (aj (ao (aj ‹"h"› ‹"U"›) gJ) ‹""›)) p6) (aj (two ‹"h"› ‹"x"› bR) ‹""›))))
def p7:List D->Res D:=aW 2 2 qY
noncomputable def qZ:DS->Out :=
 (aH (two (ao (aj ‹"x"› ‹"R"›) gJ) (ao (aj ‹"h"› ‹"U"›) gJ) cH))
def p_:List D->Res D:=aW 2 2 qZ
noncomputable def mq:DS->Out :=
 (aB (aD 2 (bD 2 [1,0] (bW [0,1]) (two (two (ak 0) ‹"ab"› bR) (two (ak 1) (two (ak 3) ‹1› aR) bR) aN) (cC (aj ‹"f"› ‹"U"›) nH))) (aH (ao (aj (ao ‹"o"› cW) (aj (two ‹"h"› ‹"x"› bR) ‹""›)) di)))
def fW:List D->Res D:=aW 2 3 mq
noncomputable def my:DS->Out :=
 (aH (aQ (aj (ao (aj (ao ‹"R"› k_) ‹"T"›) di) (aj (ao (aj (ao ‹"R"› lg) ‹"T"›) di) ‹""›))))
def cX:List D->Res D:=aW 1 1 my
noncomputable def q_:DS->Out :=
 (aH (ao (aj (ak 0) (aj (aQ (aj (ao (aj (fH ‹1›) ‹"U"›) gJ) (aj ‹"x"› ‹""›))) ‹""›)) p7))
def jo:List D->Res D:=aW 2 2 q_
noncomputable def mD:DS->Out :=
 (aH (ao (aj (ak 0) (aj (ao ‹"i"› qX) ‹""›)) fW))
def ph:List D->Res D:=aW 2 2 mD
def rm:DS->Out :=
 ‹"af"›
def qd:List D->Res D:=aW 2 2 rm
noncomputable def rz:DS->Out :=
 (aB (aD 3 (fU (aj ‹271828183› (aj ‹314159269› (aj ‹161803399› (aj ‹141421357› (aj ‹173205081› ‹""›))))))) (aB (aD 3 (two (ak 3) (fU (aj ‹223606797› (aj ‹244948975› (aj ‹264575131› (aj ‹331662479› (aj ‹360555127› ‹""›)))))) aN)) (aH (two (two (two (two (ak 0) ‹1› aN) (two (ak 3) (ak 1) aR) bR) ‹1000000007› aY) (ak 2) aY))))
def cY:List D->Res D:=aW 3 4 rz
noncomputable def nW:DS->Out :=
 (aB (aD 2 (two ‹1› (ao (aj (ak 0) (aj ‹0› (aj ‹6› ‹""›))) cY) aN)) (aB (aD 3 (two (two (two (ak 2) (ak 2) bR) ‹1› aN) (ao (aj (ak 0) (aj ‹1› (aj (two ‹2› (ak 2) bR) ‹""›))) cY) aN)) (aB (aD 4 (two ‹1› (ao (aj (ak 0) (aj ‹2› (aj ‹3› ‹""›))) cY) aN)) (aB (aD 5 (two ‹1› (ao (aj (ak 0) (aj ‹3› (aj ‹3› ‹""›))) cY) aN)) (aB (aD 6 (aQ (aj (aQ ‹"A"›) (aj (aQ (aj (ao (aj (ak 0) (aj ‹4› (aj (two (two (ak 4) (ak 2) bR) ‹1› aN) ‹""›))) cY) (aj (ak 4) ‹""›))) (aj (aQ (aj (ao (aj (ak 0) (aj ‹5› (aj (ak 5) ‹""›))) cY) (aj ‹0› (aj (ak 5) (aj ‹0› ‹""›))))) ‹""›))))) (aB (bG (aF (two (ao (aj (ak 0) (aj ‹6› (aj ‹3› ‹""›))) cY) ‹0› cH) aG) (aB (aD 7 ‹"am"›) (aB (aD 8 (ao (aj (ak 0) (aj ‹7› (aj ‹6› ‹""›))) cY)) (aD 6 (aQ (aj (aQ (aj (two (ak 7) (ak 8) aR) ‹""›)) (aj (aQ (aj (two (ak 7) (two (two (ak 8) ‹1› aN) ‹6› aY) aR) (aj ‹0› ‹""›))) (aj (aQ (aj (two (ak 7) (two (two (ak 8) ‹2› aN) ‹6› aY) aR) ‹"as"›)) ‹""›))))))) Out.nxt) (aH (bz (ak 6) bC (bJ (ak 1))))))))))
def mF:List D->Res D:=aW 2 9 nW
noncomputable def mG (R:List D->Res D):DS->Out :=
 (aB (bG ‹"M"› (aH (aQ (aj (two ‹"v"› ‹"B"› bR) ‹""›))) Out.nxt) (aB (aD 3 ‹"j"›) (aB (aD 4 (ao ‹"i"› k_)) (aB (aD 5 (ao ‹"i"› lg)) (aB (aD 6 (ao ‹"o"› k_)) (aB (aD 7 (ao ‹"o"› lg)) (aB (aD 8 (ao (aj (ak 3) (aj (ao (aj (ak 3) (aj (ak 5) ‹"ae"›)) R) (aj (two (ak 0) (fH ‹1›) aR) ‹""›))) R)) (aB (aD 9 (ao (aj (ao (aj (ak 3) ‹"Y"›) R) ‹"aq"›) qd)) (aB (aD 10 (ao (aj (ao (aj (ak 3) (aj (ak 4) ‹"ae"›)) R) (aj (ao (aj (ak 3) (aj (ak 5) (aj (ak 6) ‹""›))) R) ‹""›)) qd)) (aH (two (ak 9) (ak 10) aN)))))))))))
noncomputable def jV:Nat->List D->Res D
 | 0=>fun _=>.stuck
 | n + 1=>aW 3 11 (mG (jV n))
def jL:List D->Res D:=jV 4
noncomputable def mH (R:List D->Res D):DS->Out :=
 (aB (bG (aF (two (ao ‹"i"› a_) ‹1› cH) aG) (aH (aQ (aj (two ‹"v"› ‹"B"› bR) ‹""›))) Out.nxt) (aB (aD 3 (two (ao ‹"i"› a_) ‹2› aL)) (aB (aD 4 ‹"j"›) (aB (aD 5 (ao (aj (ak 4) (aj (bz (ak 1) (bJ (ak 3)) bC) (aj (bz (ak 2) (bJ (ak 3)) bC) ‹""›))) R)) (aB (aD 6 (ao (aj (ao (aj (ak 4) (aj (bz (ak 1) bC (bJ (ak 3))) (aj (bz (ak 2) bC (bJ (ak 3))) ‹""›))) R) (aj (ao (aj (ak 4) (aj (two (ak 0) (fH ‹1›) aR) (aj (ak 5) ‹""›))) R) ‹""›)) p6)) (aB (aD 7 (ao (aj (ak 4) (aj (bz (ak 1) bC (bJ (ak 3))) (aj (bz (ak 2) (bJ (ak 3)) bC) ‹""›))) R)) (aH (two (ak 6) (ao (aj (ak 7) (aj (ao (aj (ak 4) (aj (bz (ak 1) (bJ (ak 3)) bC) (aj (bz (ak 2) bC (bJ (ak 3))) ‹""›))) R) ‹""›)) p6) aN))))))))
noncomputable def jW:Nat->List D->Res D
 | 0=>fun _=>.stuck
 | n + 1=>aW 3 8 (mH (jW n))
def vz:List D->Res D:=jW 4
noncomputable def mJ:DS->Out :=
 (aH (ao (aj (ao ‹"al"› jL) (aj (two ‹"x"› ‹"ab"› bR) ‹""›)) di))
def g8:List D->Res D:=aW 3 3 mJ
noncomputable def rA:DS->Out :=
 (aH (aQ (aj (ao ‹"al"› vz) (aj (two ‹"x"› ‹"ab"› bR) ‹""›))))
noncomputable def cZ:List D->Res D:=aW 3 3 rA
noncomputable def mK:DS->Out :=
 (aH (aQ (aj (two (ao ‹"R"› k_) (ao (aj (ao ‹"R"› lg) ‹""›) pZ) aN) ‹"T"›)))
noncomputable def pA:List D->Res D:=aW 1 1 mK
noncomputable def rB:DS->Out :=
 (aB (aD 2 ‹"j"›) (aB (aD 3 (ao ‹"i"› k_)) (aB (aD 4 (ao ‹"i"› lg)) (aB (aD 5 (ao (aj (ak 2) (aj (ao (aj (ak 2) (aj (ak 4) (aj (ak 4) ‹""›))) jL) (aj (two (ak 0) (fH ‹1›) aR) ‹""›))) jL)) (aH (ao (aj (ao (aj (ak 2) (aj (ak 3) ‹"A"›)) jL) (aj (ao (aj (ak 5) ‹""›) pZ) ‹""›)) qd))))))
noncomputable def rC:List D->Res D:=aW 2 6 rB
noncomputable def mL:DS->Out :=
 (aH (ao (aj (ao (aj (ak 0) ‹"U"›) rC) (aj (two ‹"x"› ‹"x"› bR) ‹""›)) di))
noncomputable def dD:List D->Res D:=aW 2 2 mL
noncomputable def rE:DS->Out :=
 (aH (ao ‹"R"› vq))
noncomputable def d7:List D->Res D:=aW 1 1 rE
noncomputable def mO (R:List D->Res D):DS->Out :=
 (aB (bG ‹"M"› (aH (ao (aj (aQ (aj ‹"x"› ‹""›)) (aj (two ‹"v"› ‹0› aR) ‹""›)) di)) Out.nxt) (aB (aD 2 (ao (aj ‹"j"› (aj (ao ‹"K"› dD) ‹""›)) R)) (aH (ao (aj (ak 0) (aj (ao ‹"i"› pA) (aj (ao (aj (ak 2) (aj ‹"e"› ‹""›)) kZ) ‹""›))) g8))))
noncomputable def jX:Nat->List D->Res D
 | 0=>fun _=>.stuck
 | n + 1=>aW 2 3 (mO (jX n))
def vA:List D->Res D:=jX 4
noncomputable def mQ:DS->Out :=
 (aB (bG (aF (ao ‹"o"› d7) aV) (gF "NoOver" (aj (fun _=>.ok (.str "no number is told over nought")) ‹""›)) Out.nxt) (aH (ao (aj (ak 0) (aj (ak 1) (aj (ao (aj (ak 0) ‹"o"›) vA) ‹""›))) g8)))
noncomputable def iU:List D->Res D:=aW 3 3 mQ
noncomputable def rF:DS->Out :=
 (aB (bG (aF (two (ak 0) ‹0› cH) aG) (aH ‹0›) Out.nxt) (aH (yr (aF (two (ak 0) ‹0› (gW fun i j=>decide (j < i))) aG) ‹1› (fH ‹1›))))
noncomputable def vB:List D->Res D:=aW 1 1 rF
noncomputable def rG:DS->Out :=
 (aB (aD 1 ‹"h"›) (aB (kJ (bO 2) (bindL ‹"f"› aZ) (aD 1 (ao (aj (ak 1) ‹"o"›) jK))) (aH (aQ (aj (ao (aj (bD 1 [1] (bO 0) ‹"at"› (bindL ‹"f"› aZ)) ‹""›) cW) (aj (two ‹"h"› (ak 1) aL) ‹""›))))))
noncomputable def eY:List D->Res D:=aW 1 3 rG
noncomputable def mR (R:List D->Res D):DS->Out :=
 (aB (bG ‹"M"› (aH (ao ‹"U"› vB)) Out.nxt) (aB (aD 2 ‹"j"›) (aB (aD 3 (ao (aj (ak 2) (aj (ao ‹"i"› k_) ‹""›)) R)) (aB (aD 4 (ao (aj (ak 2) (aj (ao ‹"i"› lg) ‹""›)) R)) (aB (bG (gU (aF (two (ak 3) (ak 4) cH) aG) (aF (two (ak 4) ‹0› cH) aG)) (aH (ak 3)) Out.nxt) (aB (bG (aF (two (ak 3) ‹0› cH) aG) (aH (ak 4)) Out.nxt) (aH (two (ak 3) (ao (aj (ak 2) (aj (ao ‹"K"› rC) ‹""›)) R) bR))))))))
noncomputable def jY:Nat->List D->Res D
 | 0=>fun _=>.stuck
 | n + 1=>aW 2 5 (mR (jY n))
def vC:List D->Res D:=jY 4
noncomputable def mU:DS->Out :=
 (aH (ao (aj (ak 0) ‹"U"›) vC))
noncomputable def pB:List D->Res D:=aW 2 2 mU
noncomputable def jZ:DS->Out :=
 (aH (yr (aF (two (ao ‹"K"› pB) ‹0› ‹"w"›) aG) (ao ‹"i"› qX) (ak 1)))
noncomputable def jq:List D->Res D:=aW 2 2 jZ
def gf:DS->Nat:=qI 1
noncomputable def rH:DS->Out :=
 (aB (bG (aF (two (ak 0) ‹0› ‹"w"›) aG) (gF "Below" (aj (fun _=>.ok (.str "a number below nought has no whole root")) ‹""›)) Out.nxt) (aB (aD 1 (two ‹1› (two (two (ao (ak 0) (fun d=>ji d [])) ‹1› aN) ‹2› aL) iZ)) (aB (jj gf (aF (two (two (ak 1) (ak 1) bR) (ak 0) (gW fun i j=>decide (j < i))) aG) (aD 1 (two (two (ak 1) ‹"at"› aN) ‹2› aL))) (aH (ak 1)))))
noncomputable def rJ:List D->Res D:=aW 1 2 rH
noncomputable def rK:DS->Out :=
 (aB (jG 2 (bD 1 [0] (bO 0) (two (ao ‹"V"› cY) ‹9› iu) (cC ‹"i"› lW))) (aB (bG (aF (two (two (ak 0) ‹5› aY) ‹1› cH) aG) (putD 2 (jR (two (two (ak 0) ‹5› aL) (ak 1) aY)) ‹"D"›) Out.nxt) (aB (bG (aF (two (two (ak 0) ‹5› aY) ‹2› cH) aG) (jG 2 (bD 2 [0] (bW [0,1]) ‹"S"› (cC ‹"o"› iQ))) Out.nxt) (aB (bG (aF (two (two (ak 0) ‹5› aY) ‹3› cH) aG) (jG 2 (bD 2 [1,0] (bW [0,1]) ‹"Z"› (cC ‹"o"› iQ))) Out.nxt) (aH (ao (aj (aQ (aj (ao ‹"o"› cW) (aj (two ‹1› (ao (aj (two (ak 0) ‹5› aL) (aj ‹8› (aj ‹12› ‹""›))) cY) aN) ‹""›))) ‹""›) eY))))))
noncomputable def rM:List D->Res D:=aW 2 3 rK
end Bk
set_option exponentiation.threshold 300000
namespace Bk
open PySem PySem.Spec PyProof.Rows L2 DL Mine
noncomputable def cell (ns:List Int) (k:Nat):Int:=ns.getD k 0
theorem GZ (ns:List Int) (k:Nat):gH [.lst (ns.map .int),.int k]=.ok (.int (cell ns k)):=by
 show outD (qQ [some (.arg (.lst (ns.map .int))),some (.arg (.int k))])=_;unfold qQ cell;push_cast [length_map]
 by_cases h:k < ns.length
 ·have h':((k:Int) < (ns.length:Int)):=by omega
  have hz:(ns.map D.int)[k]? = some (.int ns[k]):=by simp [h]
  simp only [h',decide_true,↓reduceIte,sq_ret,out_ret,Dv _ k _ hz,on_ok];simp [h]
 ·have h':¬((k:Int) < (ns.length:Int)):=by omega
  have hz:ns[k]? = none:=List.getElem?_eq_none (by omega);simp only [h',decide_false,Bool.false_eq_true,↓reduceIte,sq_nxt,on_ok,out_ret];simp [hz];rfl
abbrev DQ:DS->Res Bool:=aF (two (ak 1) ‹0› fQ) aG
abbrev DR:DS->Out:=aB (aD 2 (two (ak 0) (ak 1) aY)) (aB (aD 0 (ak 1)) (aD 1 (ak 2)))
theorem Kw:∀(n:Nat) (s0 s1:SV) (z:Option SV) (x y:Int),s0.view=.int x->s1.view=.int y->y.natAbs < n ->
  ∃s0' s1' z' g,bK DQ DR n [some s0,some s1,z]=.nxt [some s0',s1',z']/\s0'.view=.int g/\g.natAbs=Int.gcd x y
 | 0,_,_,_,_,_,_,_,h=>absurd h (Nat.not_lt_zero _)
 | n + 1,s0,s1,z,x,y,h0,h1,h=>by
  rw [bK];have e:DQ [some s0,some s1,z]=.ok (!decide (y=0)):=by
   simp only [DQ,ap_seq,sq_nxt,sq_ret,sq_err,ap_set,on_ok,on_err,ont_ok,onl_ok,ap_if,ap_two,ap_bF,ap_bT,ap_bL,ap_bR,ap_cons,ap_tup,ap_lst,ap_ret,ap_neg,neg_ok,ap_notT,ap_andT,ap_orT,ap_andV,ap_ifD,ap_for,ap_slice,ap_part,ap_noPart,part_int,out_ret,out_err,cmp_ok,add_ok,sub_ok,bool_ok,truth_bl,abs_ok,len_tup,len_lst,tuple_lst,seq_tup,seq_lst,vw_val,vw_arg,eqI,neI,bnd_ok,mulE_i,sl0,st0,sl1,st1,sl2,st2,sl3,st3,sl4,st4,sl5,st5,sl6,st6,sl7,st7,sl8,st8,sl9,st9,sl10,st10,tup0,tup1,lst1,tup2,lst2,tup3,lst3,tup4,lst4,lst5,lst6,tup8,ix_tup0,ix_lst0,ix_tup1,ix_lst1,ix_tup2,ix_tup3,↓reduceIte,decide_true,decide_false,Bool.not_true,Bool.not_false,Bool.false_eq_true,Int.reduceEq,Int.reduceNe,Int.reduceLT,Int.reduceLE,Nat.reduceAdd,cN0,cN1,cN2,cN3,cN4,length_cons,length_nil,h1]
  rw [e]
  by_cases c:y=0
  ·subst c;exact ⟨s0,some s1,z,x,rfl,h0,by simp⟩
  ·simp only [c,decide_false,Bool.not_false];have e2:DR [some s0,some s1,z]=.nxt [some (.val (.int y)),some (.val (.int (Int.fmod x y))),some (.val (.int (Int.fmod x y)))]:=by
    simp only [DR,ap_seq,sq_nxt,sq_ret,sq_err,ap_set,on_ok,on_err,ont_ok,onl_ok,ap_if,ap_two,ap_bF,ap_bT,ap_bL,ap_bR,ap_cons,ap_tup,ap_lst,ap_ret,ap_neg,neg_ok,ap_notT,ap_andT,ap_orT,ap_andV,ap_ifD,ap_for,ap_slice,ap_part,ap_noPart,part_int,out_ret,out_err,cmp_ok,add_ok,sub_ok,bool_ok,truth_bl,abs_ok,len_tup,len_lst,tuple_lst,seq_tup,seq_lst,vw_val,vw_arg,eqI,neI,bnd_ok,mulE_i,sl0,st0,sl1,st1,sl2,st2,sl3,st3,sl4,st4,sl5,st5,sl6,st6,sl7,st7,sl8,st8,sl9,st9,sl10,st10,tup0,tup1,lst1,tup2,lst2,tup3,lst3,tup4,lst4,lst5,lst6,tup8,ix_tup0,ix_lst0,ix_tup1,ix_lst1,ix_tup2,ix_tup3,↓reduceIte,decide_true,decide_false,Bool.not_true,Bool.not_false,Bool.false_eq_true,Int.reduceEq,Int.reduceNe,Int.reduceLT,Int.reduceLE,Nat.reduceAdd,cN0,cN1,cN2,cN3,cN4,length_cons,length_nil,h1,h0,dJ c]
   rw [e2];obtain ⟨s0',s1',z',g,q1,q2,q3⟩:=Kw n (.val (.int y)) (.val (.int (Int.fmod x y))) (some (.val (.int (Int.fmod x y)))) y (Int.fmod x y) rfl rfl (by have:=hI' x c; omega);exact ⟨s0',s1',z',g,q1,q2,by rw [q3,Rp]⟩
theorem Ky (a b:Int):jK [.int a,.int b]=.ok (.int (cm a b)):=by
 show outD (qR [some (.arg (.int a)),some (.arg (.int b)),none])=_;unfold qR;obtain ⟨s0',s1',z',g,q1,q2,q3⟩:=Kw (b.natAbs + 1) (.arg (.int a)) (.arg (.int b)) none a b rfl rfl (Nat.lt_succ_self _);rw [ap_seq];show outD ((bK DQ DR (b.natAbs + 1) [some (.arg (.int a)),some (.arg (.int b)),none]).seq _)=_;rw [q1];push_cast [q2,q3];rfl
abbrev cc:DS->Res Bool:=aF (two (ak 3) ‹0› fQ) aG
abbrev cb:DS->Out:=(aB (aD 4 (two (ak 2) (ak 3) aY)) (aB (aD 2 (ak 3)) (aD 3 (ak 4))))
theorem Kz (p q:Option SV):∀(n:Nat) (x y:Int) (z:Option SV),0<=x->0<=y->y.toNat < n ->
  ∃z',bK cc cb n [p,q,some (.val (.int x)),some (.val (.int y)),z]=.nxt [p,q,some (.val (.int (cm x y))),some (.val (.int 0)),z']
 | 0,_,_,_,_,_,h=>absurd h (Nat.not_lt_zero _)
 | n + 1,x,y,z,hx,hy,h=>by
  rw [bK];have e:cc [p,q,some (.val (.int x)),some (.val (.int y)),z]=.ok (!decide (y=0)):=rfl;rw [e]
  by_cases c:y=0
  ·subst c;exact ⟨z,by rw [Rh hx]; rfl⟩
  ·simp only [c,decide_false,Bool.not_false];have e2:cb [p,q,some (.val (.int x)),some (.val (.int y)),z]=.nxt [p,q,some (.val (.int y)),some (.val (.int (Int.fmod x y))),some (.val (.int (Int.fmod x y)))]:=by
    simp only [cb,ap_seq,sq_nxt,sq_ret,sq_err,ap_set,on_ok,on_err,ont_ok,onl_ok,ap_if,ap_two,ap_bF,ap_bT,ap_bL,ap_bR,ap_cons,ap_tup,ap_lst,ap_ret,ap_neg,neg_ok,ap_notT,ap_andT,ap_orT,ap_andV,ap_ifD,ap_for,ap_slice,ap_part,ap_noPart,part_int,out_ret,out_err,cmp_ok,add_ok,sub_ok,bool_ok,truth_bl,abs_ok,len_tup,len_lst,tuple_lst,seq_tup,seq_lst,vw_val,vw_arg,eqI,neI,bnd_ok,mulE_i,sl0,st0,sl1,st1,sl2,st2,sl3,st3,sl4,st4,sl5,st5,sl6,st6,sl7,st7,sl8,st8,sl9,st9,sl10,st10,tup0,tup1,lst1,tup2,lst2,tup3,lst3,tup4,lst4,lst5,lst6,tup8,ix_tup0,ix_lst0,ix_tup1,ix_lst1,ix_tup2,ix_tup3,↓reduceIte,decide_true,decide_false,Bool.not_true,Bool.not_false,Bool.false_eq_true,Int.reduceEq,Int.reduceNe,Int.reduceLT,Int.reduceLE,Nat.reduceAdd,cN0,cN1,cN2,cN3,cN4,length_cons,length_nil,dJ c]
   rw [e2];have yp:0 < y:=by omega
   obtain ⟨z',e⟩:=Kz p q n y (Int.fmod x y) (some (.val (.int (Int.fmod x y)))) hy (Int.fmod_nonneg_of_pos x yp) (by have:=Int.fmod_lt_of_pos x yp; omega);refine ⟨z',?_⟩;rw [Rg hx hy] at e;exact e
theorem Sd (a b:Int):qK [.int a,.int b]=.ok (.int (cm a b)):=by
 show outD (qJ [some (.arg (.int a)),some (.arg (.int b)),none,none,none])=_;unfold qJ;obtain ⟨z',e⟩:=Kz (some (.arg (.int a))) (some (.arg (.int b))) (((b.natAbs:Int)).natAbs + 1) a.natAbs b.natAbs none (by omega) (by omega) (by omega);rw [nE'] at e;push_cast [DL.ap_seq];show outD ((bK cc cb (((b.natAbs:Int)).natAbs + 1) [some (.arg (.int a)),some (.arg (.int b)),some (.val (.int (a.natAbs:Nat))),some (.val (.int (b.natAbs:Nat))),none]).seq _)=_;rw [e]; rfl
theorem DW {ts:List Int} {b K:Int} (h:Nf ts b) (hK:K≠0) (hts:ts≠[]) (hl:ts.length<=63) (hb:K.natAbs < 2 ^ 8000) :
  di [.tup ((ts.map (K * ·)).map .int),.int (K * b)]=.ok (num ts b):=by
 show outD (l_ [some (.arg (.tup ((ts.map (K * ·)).map .int))),some (.arg (.int (K * b))),none,none])=_;unfold l_;have bp:=h.pos;have nb:¬(K * b=0):=fun z=>by
  rcases Int.mul_eq_zero.mp z with q | q
  ·exact hK q
  ·omega
 obtain ⟨z',e⟩:=Gh (i:=3) (f:=cm) (b:=aD 2 (ao ‹"X"› qK))
  (fun acc z=>[some (.val (.tup ((ts.map (K * ·)).map .int))),some (.val (.int (K * b))),some (.val (.int acc)),z])
  (fun acc z t=>by push_cast [Sd]) (ts.map (K * ·)) (K * b) none
 rw [J3 h hK hts] at e;have th:thaw [some (SV.arg (.tup ((ts.map (K * ·)).map .int))),some (.arg (.int (K * b))),some (.val (.int (K * b))),none]=[some (.val (.tup ((ts.map (K * ·)).map .int))),some (.val (.int (K * b))),some (.val (.int (K * b))),none]:=rfl;push_cast [nb,th,e];have th2:e_ (Out.nxt [some (.val (.tup ((ts.map (K * ·)).map .int))),some (.val (.int (K * b))),some (.val (.int (K.natAbs:Nat))),z'])=.nxt [some (.val (.tup ((ts.map (K * ·)).map .int))),some (.val (.int (K * b))),some (.val (.int (K.natAbs:Nat))),z'.map thaw2]:=rfl;simp only [th2,sq_nxt];have last:∀z2:Option SV,outD (aH ‹"O"›
   [some (.val (.tup ((ts.map (K * ·)).map .int))),some (.val (.int (K * b))),some (.val (.int K)),z2])=.ok (num ts b):=by
  intro z2;have cp:bD 1 [2] (bO 0) ‹"at"› (bindL (ak 0) aZ) [some (.val (.tup ((ts.map (K * ·)).map .int))),some (.val (.int (K * b))),some (.val (.int K)),z2]=.ok (.lst ((ts.map (K * ·)).map fun t=>.int (Int.fdiv t K))) :=
   yE (rest:=[some (.arg (.int K))]) rfl rfl (by rw [length_map]; exact Nat.le_trans hl (by decide)) fun t _=>by
    push_cast [pQ hK hb]
  push_cast [cp,pQ hK hb];rw [map_map];simp only [Function.comp_def,Gj _ _ hK]
 by_cases c:K * b < 0
 ·have kn:-((K.natAbs:Nat):Int)=K:=by
   rcases Int.lt_or_le K 0 with q | q
   ·omega
   ·have:=Int.mul_nonneg q (Int.le_of_lt bp); omega
  push_cast [c,kn];exact last _
 ·have kn:((K.natAbs:Nat):Int)=K:=by
   rcases Int.lt_or_le K 0 with q | q
   ·have:=Int.mul_neg_of_neg_of_pos q bp; omega
   ·omega
  push_cast [c,kn];exact last _
theorem wA (x:List Int):k_ [TI x]=.ok (TI (bj x)):=by
 show outD (qN [some (.arg (TI x))])=_;unfold qN bj;push_cast [length_map,dv',Gn]
theorem w_behind (x:List Int):lg [TI x]=.ok (TI (bf x)):=by
 show outD (qO [some (.arg (TI x))])=_;unfold qO bf;push_cast [length_map,dv',Gp]
theorem cV {a b:Int} (h:a.natAbs < 2 ^ 200000) (h2:b.natAbs < 2 ^ 200000):dj (.int a) (.int b)=.ok (.int (a * b)):=by
 unfold dj;have e:200000<=2 ^ 20:=by decide
 exact if_pos (.inl ⟨Nat.le_trans (intBits_le h) e,Nat.le_trans (intBits_le h2) e⟩)
theorem gj {n m:Nat} (e:n<=m):2 ^ n<=2 ^ m:=Nat.pow_le_pow_right (by decide) e
theorem d_ {x n:Nat} (h:x < 2 ^ n) (e:n<=200000):x < 2 ^ 200000:=Nat.lt_of_lt_of_le h (gj e)
theorem G3 {x n:Nat} (h:x < 2 ^ n) (e:n<=8000):x < 2 ^ 8000:=Nat.lt_of_lt_of_le h (gj e)
theorem G4 (x y:List Int) (hl:x.length<=1000):qd [TI x,TI y]=.ok (TI (bT x y)):=by
 show outD (rm [some (.arg (TI x)),some (.arg (TI y))])=_;unfold rm;have c:=Gq (fe:=two (ak 0) (ak 1) aN) (fi:=cC ‹"K"› nH) (fr:=[]) (δ:=[some (.arg (TI x)),some (.arg (TI y))]) (rest:=[]) (xs:=x) (ys:=y) (g:=fun a b=>.int (a + b))
  (nM (ds:=[TI x,TI y]) rfl rfl) rfl (Nat.le_trans hl (by decide)) fun a _ b _=>by push_cast [DL.ap_seq]
 rw [zR] at c;push_cast [c]
theorem G5 (x:List Int) (hl:x.length<=1000):pZ [TI x]=.ok (TI (x.map fun t=>-t)):=by
 show outD (qP [some (.arg (TI x))])=_;unfold qP;have c:=yE (fe:=fH (ak 0)) (fi:=bindL (ak 0) aZ) (fr:=[]) (δ:=[some (.arg (TI x))]) (rest:=[]) (ts:=x) (g:=fun t=>.int (-t))
  (by push_cast [DL.ap_seq]) rfl (Nat.le_trans hl (by decide)) fun t ht=>by push_cast [DL.ap_seq]
 have e:(x.map fun t=>D.int (-t))=(x.map fun t=>-t).map .int:=by rw [map_map]; rfl
 rw [e] at c;push_cast [c]
noncomputable def eT (ρ:Nat):Nat->Nat
 | 0=>0
 | k + 1=>2 * eT ρ k + ρ + 1
theorem nY {ρ:Nat}:∀(rs:List (List Int)) {x y:List Int} {p q:Nat},(∀r∈rs,Bd ρ r)->Bd p x->Bd q y->Bd (p + q + eT ρ rs.length) (pt rs x y)
 | [],x,y,p,q,_,h1,h2=>fun t ht=>by
  rw [pt,mem_singleton] at ht;rw [ht]; show _ < 2 ^ (p + q); exact ik h1.head h2.head
 | r :: rs,x,y,p,q,hr,h1,h2=>by
  have hr':∀r∈rs,Bd ρ r:=fun u hu=>hr u (mem_cons_of_mem _ hu);have ac:=nY rs hr' h1.fr h2.fr;have bd:=nY rs hr' h1.bh h2.bh;have ad:=nY rs hr' h1.fr h2.bh;have bc:=nY rs hr' h1.bh h2.fr;have sq:=nY rs hr' bd (hr r (by simp));rw [pt];show Bd (p + q + (2 * eT ρ rs.length + ρ + 1)) _;refine Bd.app (Bd.mono ((ac.mono (by omega)).add sq) (by omega)) (Bd.mono (ad.add bc) (by omega))
theorem lC {ρ:Nat}:∀(rs:List (List Int)) (n:Nat) (x y:List Int) (p q:Nat),rs.length < n->Sc rs->(∀r∈rs,Bd ρ r)->x.length=2 ^ rs.length->y.length=2 ^ rs.length->Bd p x->Bd q y->p + q + eT ρ rs.length<=200000->rs.length<=8 ->
  jV n [RT rs,TI x,TI y]=.ok (TI (pt rs x y))
 | _,0,_,_,_,_,h,_,_,_,_,_,_,_,_=>absurd h (Nat.not_lt_zero _)
 | [],n + 1,x,y,p,q,_,_,_,hx,hy,bx,by_,hb,_=>by
  show outD (mG (jV n) [some (.arg (RT [])),some (.arg (TI x)),some (.arg (TI y)),none,none,none,none,none,none,none,none])=_;unfold mG;have e1:=d_ bx.head (show p<=200000 by omega);have e2:=d_ by_.head (show q<=200000 by omega);push_cast [reverse_nil,map_nil,Dw (uQ (k:=0) hx),Dw (uQ (k:=0) hy),cV e1 e2];rfl
 | r :: rs,n + 1,x,y,p,q,hn,S,hr,hx,hy,bx,by_,hb,h8=>by
  obtain ⟨hr1,S⟩:=S;have hb:p + q + (2 * eT ρ rs.length + ρ + 1)<=200000:=hb;have h8:rs.length + 1<=8:=h8;have hr':∀r∈rs,Bd ρ r:=fun u hu=>hr u (mem_cons_of_mem _ hu);have a:=jl hx;have b:=jH hx;have c:=jl hy;have d:=jH hy;have hn':rs.length < n:=Nat.lt_of_succ_lt_succ hn;have i1:=lC rs n (bj x) (bj y) p q hn' S hr' a c bx.fr by_.fr (by omega) (by omega);have i2:=lC rs n (bf x) (bf y) p q hn' S hr' b d bx.bh by_.bh (by omega) (by omega);have i3:=lC rs n (bj x) (bf y) p q hn' S hr' a d bx.fr by_.bh (by omega) (by omega);have i4:=lC rs n (bf x) (bj y) p q hn' S hr' b c bx.bh by_.fr (by omega) (by omega);have i5:=lC rs n (pt rs (bf x) (bf y)) r (p + q + eT ρ rs.length) ρ hn' S hr' (eV rs _ _ S b d) hr1 (nY rs hr' bx.bh by_.bh) (hr r (by simp)) (by omega) (by omega);have small:2 ^ rs.length<=256:=Nat.le_trans (Nat.pow_le_pow_right (by decide) (show rs.length<=8 by omega)) (by decide);have l1:=eV rs _ _ S a c;have l2:=eV rs _ _ S (eV rs _ _ S b d) hr1;have l3:=eV rs _ _ S a d;have l4:=eV rs _ _ S b c;have p1:=G4 (pt rs (bj x) (bj y)) (pt rs (pt rs (bf x) (bf y)) r) (by omega);have p2:=G4 (pt rs (bj x) (bf y)) (pt rs (bf x) (bj y)) (by omega);have f1:=o_ l1 l2;have f2:=o_ l3 l4;have ad:=Gr (a:=bT (pt rs (bj x) (bj y)) (pt rs (pt rs (bf x) (bf y)) r)) (b:=bT (pt rs (bj x) (bf y)) (pt rs (bf x) (bj y))) (uQ f1) (by omega);show outD (mG (jV n) [some (.arg (RT (r :: rs))),some (.arg (TI x)),some (.arg (TI y)),none,none,none,none,none,none,none,none])=_;unfold mG;have z:¬(((rs.length + 1:Nat):Int)=0):=by omega
  push_cast [length_map,length_reverse,z,nO,wk,wA,w_behind,i1,i2,i3,i4,i5,p1,p2,ad,pt]
section
variable {rs:List (List Int)} {F:OF} {of:List Int->F.C} {ρ:Nat}
theorem mV {k:Nat} (h:k<=3):2 ^ k<=8:=Nat.le_trans (Nat.pow_le_pow_right (by decide) h) (by decide)
theorem j0 (T:Tow rs F of) (h3:rs.length<=3) {ts:List Int} {b:Int} {n:Nat} (hl:ts.length=2 ^ rs.length) (hb:b≠0) (h1:Bd n ts) (h2:b.natAbs < 2 ^ n) (hn:n<=8000) :
  ∃d,di [TI ts,.int b]=.ok d/\Nm of rs.length n d (of ts / (b:F.C)):=by
 obtain ⟨K,x,c,k0,e1,e2,nf,xl,kb,hN⟩:=vo T hl hb h1 h2;refine ⟨_,?_,hN⟩;rw [e1,e2];exact DW nf k0 (uQ xl) (by have:=mV h3; omega) (G3 kb hn)
theorem KC (T:Tow rs F of) (h3:rs.length<=3) {ts:List Int} {b:Int} {n m:Nat} (hl:ts.length=2 ^ rs.length) (hb:b≠0) (h1:Bd n ts) (h2:b.natAbs < 2 ^ m) (hm:m<=8000) :
  ∃d,di [TI ts,.int b]=.ok d/\Nm of rs.length (max n m) d (of ts / (b:F.C)):=by
 obtain ⟨K,x,c,k0,e1,e2,nf,xl,kb,hN⟩:=vo T (n:=max n m) hl hb (h1.mono (Nat.le_max_left ..)) (Nat.lt_of_lt_of_le h2 (gj (Nat.le_max_right ..)));refine ⟨_,?_,hN⟩;have cp:=nf.pos;have kb:K.natAbs < 2 ^ m:=by
  rw [e2,Int.natAbs_mul] at h2;exact Nat.lt_of_le_of_lt (Nat.le_mul_of_pos_right _ (by omega)) h2
 rw [e1,e2];exact DW nf k0 (uQ xl) (by have:=mV h3; omega) (G3 kb hm)
theorem mW (T:Tow rs F of) (h3:rs.length<=3) {p q:Nat} {d e:D} {u v:F.C} (h1:Nm of rs.length p d u) (h2:Nm of rs.length q e v) (hn:p + q + 1<=8000) :
  ∃z,fW [d,e]=.ok z/\Nm of rs.length (p + q + 1) z (u + v):=by
 obtain ⟨x,b,rfl,nx,lx,bx,bb,ex⟩:=h1;obtain ⟨y,c,rfl,ny,ly,b_y,bc,ey⟩:=h2;have pb:=nx.pos;have pc:=ny.pos;have e8:=mV h3;have hb:=d_ bb (show p<=200000 by omega);have hc:=d_ bc (show q<=200000 by omega);have sl:(kY x y b c).length=2 ^ rs.length:=Rt lx ly b c;have sb:Bd (p + q + 1) (kY x y b c):=by
  rw [<- J8];have b1:=Dy bx bc;have b2:=Dy b_y bb;rw [Nat.add_comm q p] at b1;exact b1.add b2
 have bcb:(b * c).natAbs < 2 ^ (p + q + 1):=Nat.lt_of_lt_of_le (ik bb bc) (gj (by omega));obtain ⟨z,ez,hz⟩:=j0 T h3 sl (Int.ne_of_gt (Int.mul_pos pb pc)) sb bcb hn;have val:of (kY x y b c) / ((b * c:Int):F.C)=u + v:=by
  have b0:=fO T (show b≠0 by omega);have c0:=fO T (show c≠0 by omega);rw [<- J8,vm T (by simpa using lx) (by simpa using ly),jm T _ lx,jm T _ ly,Lean.Grind.Ring.intCast_mul,ex,ey]
  grind
 rw [val] at hz;refine ⟨z,?_,hz⟩;show outD (mq [some (.arg (num x b)),some (.arg (num y c)),none])=_;unfold mq;have cp:=Gq (fe:=two (two (ak 0) ‹"ab"› bR) (two (ak 1) (two (ak 3) ‹1› aR) bR) aN) (fi:=cC (aj ‹"f"› ‹"U"›) nH) (fr:=[1,0]) (δ:=[some (.arg (num x b)),some (.arg (num y c)),none]) (rest:=[some (.arg (num y c)),some (.arg (num x b))]) (xs:=x) (ys:=y) (g:=fun s t=>.int (s * c + t * b))
  (nM (ds:=[TI x,TI y]) (by push_cast [DL.ap_seq]) rfl) rfl (Nat.le_trans (show x.length<=63 by omega) (by decide)) fun s hs t ht=>by push_cast [cV (d_ (bx s hs) (show p<=200000 by omega)) hc,cV (d_ (b_y t ht) (show q<=200000 by omega)) hb]
 have e:(List.zipWith (fun s t=>D.int (s * c + t * b)) x y)=(kY x y b c).map .int:=by unfold kY; rw [map_zipWith]
 rw [e] at cp;push_cast [cp,cV hb hc,ez]
theorem vD (T:Tow rs F of) (h3:rs.length<=3) {p:Nat} {d:D} {u:F.C} (h1:Nm of rs.length p d u):∃z,qX [d]=.ok z/\Nm of rs.length p z (-u):=by
 obtain ⟨x,b,rfl,nx,lx,bx,bb,ex⟩:=h1;have pb:=nx.pos;have e8:=mV h3;refine ⟨num (x.map fun t=>-t) b,?_,_,_,rfl,Ru nx,by simpa using lx,dK' bx,bb,?_⟩
 ·show outD (qW [some (.arg (num x b))])=_;unfold qW;push_cast [G5 x (by omega)]
 ·rw [yF T lx,ex];have b0:=fO T (show b≠0 by omega)
  grind
theorem wB (T:Tow rs F of) (h3:rs.length<=3) {p q:Nat} {d e:D} {u v:F.C} (h1:Nm of rs.length p d u) (h2:Nm of rs.length q e v) (hn:p + q + 1<=8000) :
  ∃z,ph [d,e]=.ok z/\Nm of rs.length (p + q + 1) z (u - v):=by
 obtain ⟨e',q1,q2⟩:=vD T h3 h2;obtain ⟨z,q3,q4⟩:=mW T h3 h1 q2 hn;refine ⟨z,?_,by rwa [show u + -v=u - v by grind] at q4⟩;show outD (mD [some (.arg d),some (.arg e)])=_;unfold mD;push_cast [q1,q3]
theorem j4 (T:Tow rs F of) (h3:rs.length<=3) (hr:∀r∈rs,Bd ρ r) {p q:Nat} {d e:D} {u v:F.C} (h1:Nm of rs.length p d u) (h2:Nm of rs.length q e v) (hn:p + q + eT ρ rs.length<=8000) :
  ∃z,g8 [RT rs,d,e]=.ok z/\Nm of rs.length (p + q + eT ρ rs.length) z (u * v):=by
 obtain ⟨x,b,rfl,nx,lx,bx,bb,ex⟩:=h1;obtain ⟨y,c,rfl,ny,ly,b_y,bc,ey⟩:=h2;have pb:=nx.pos;have pc:=ny.pos;have S:=T.sc;have t:jL [RT rs,TI x,TI y]=_:=lC rs 4 x y p q (by omega) S hr lx ly bx b_y (by omega) (by omega);have bcb:(b * c).natAbs < 2 ^ (p + q + eT ρ rs.length):=Nat.lt_of_lt_of_le (ik bb bc) (gj (by omega));obtain ⟨z,ez,hz⟩:=j0 T h3 (eV rs x y S lx ly) (Int.ne_of_gt (Int.mul_pos pb pc)) (nY rs hr bx b_y) bcb hn;have val:of (pt rs x y) / ((b * c:Int):F.C)=u * v:=by
  have b0:=fO T (show b≠0 by omega);have c0:=fO T (show c≠0 by omega);rw [xg T lx ly,Lean.Grind.Ring.intCast_mul,ex,ey]
  grind
 rw [val] at hz;refine ⟨z,?_,hz⟩;show outD (mJ [some (.arg (RT rs)),some (.arg (num x b)),some (.arg (num y c))])=_;unfold mJ;push_cast [t,cV (d_ bb (show p<=200000 by omega)) (d_ bc (show q<=200000 by omega)),ez]
open Classical in
theorem G6 (T:Tow rs F of) (h3:rs.length<=3) {p:Nat} {d:D} {u:F.C} (h1:Nm of rs.length p d u):d7 [d]=.ok (.bl (decide (u=0))):=by
 have h0:=h1;obtain ⟨x,b,rfl,nx,lx,bx,bb,ex⟩:=h1;have e8:=mV h3;have an:vq [TI x]=.ok (.bl (zA x)):=by
  show outD (qM [some (.arg (TI x))])=_;unfold qM;have c:=yE (fe:=two (ak 0) ‹0› cH) (fi:=bindL (ak 0) aZ) (fr:=[]) (δ:=[some (.arg (TI x))]) (rest:=[]) (ts:=x) (g:=fun t=>.bl (decide (t=0)))
   (by push_cast [DL.ap_seq]) rfl (Nat.le_trans (show x.length<=63 by omega) (by decide)) fun t ht=>by push_cast [DL.ap_seq]
  have e:(x.map fun t=>D.bl (decide (t=0)))=(x.map fun t=>decide (t=0)).map .bl:=by rw [map_map]; rfl
  rw [e] at c;push_cast [c,Rx]
  congr 2
  unfold zA;rw [all_map]; rfl
 show outD (rE [some (.arg (num x b))])=_;unfold rE;push_cast [an]
 congr 2
 have:=h0.zero_iff T
 by_cases c:u=0
 ·rw [this.mp c]; simp [c]
 ·have:zA x=false:=by
   cases h:zA x with
   | false=>rfl
   | true=>exact (c (this.mpr h)).elim
  rw [this]; simp [c]
end
theorem DX (n:Nat) (a b:List Int):gN n (a ++ b)=gN (gN n a) b:=by unfold gN; rw [foldl_append]
section
variable {F:OF}
theorem KD {a c b r:F.C} (hb:b≠0):(a * a - c * c * r) / (b * b)=a / b * (a / b) - c / b * (c / b) * r:=by grind
end
section
variable {rs:List (List Int)} {F:OF} {of:List Int->F.C} {ρ:Nat}
section
variable {r:F.C} {hr:0 < r} {hn:∀z:F.C,z * z≠r}
theorem KH (x:(bH F r hr hn).C) (c:Int) (hc:(c:F.C)≠0):Ext.a (r:=r) (x / (c:(bH F r hr hn).C))=Ext.a (r:=r) x / (c:F.C):=by
 show Ext.a x * ((c:F.C) / ((c:F.C) * (c:F.C) - (0:F.C) * (0:F.C) * r)) + Ext.b x * (-(0:F.C) / ((c:F.C) * (c:F.C) - (0:F.C) * (0:F.C) * r)) * r=_
 grind
theorem KJ (x:(bH F r hr hn).C) (c:Int) (hc:(c:F.C)≠0):Ext.b (r:=r) (x / (c:(bH F r hr hn).C))=Ext.b (r:=r) x / (c:F.C):=by
 show Ext.a x * (-(0:F.C) / ((c:F.C) * (c:F.C) - (0:F.C) * (0:F.C) * r)) + Ext.b x * ((c:F.C) / ((c:F.C) * (c:F.C) - (0:F.C) * (0:F.C) * r))=_
 grind
noncomputable def cj (x:(bH F r hr hn).C):(bH F r hr hn).C:=(⟨Ext.a (r:=r) x,-Ext.b (r:=r) x⟩:Ext r)
noncomputable def em (x:F.C):(bH F r hr hn).C:=(⟨x,0⟩:Ext r)
theorem G7 (x y:F.C):em (hr:=hr) (hn:=hn) (x * y)=em x * em y:=Ext.eqs (r:=r) (show x * y=x * y + 0 * 0 * r by grind) (show (0:F.C)=x * 0 + 0 * y by grind)
theorem Sg (x:(bH F r hr hn).C):x * cj x=em (Ext.nrm (r:=r) x):=by
 refine Ext.eqs (r:=r) ?_ ?_
 ·show Ext.a x * Ext.a x + Ext.b x * -Ext.b x * r=Ext.a x * Ext.a x - Ext.b x * Ext.b x * r
  grind
 ·show Ext.a x * -Ext.b x + Ext.b x * Ext.a x=(0:F.C)
  grind
theorem KN (x:(bH F r hr hn).C) (h:x≠0):Ext.nrm (r:=r) x≠0:=fun z=>h (Ext.nrm_0 hn z)
theorem Sh (x:(bH F r hr hn).C) (h:x≠0):x⁻¹=cj x * em ((Ext.nrm (r:=r) x)⁻¹):=by
 have e1:=Sg x;have n0:=KN x h;have e2:em (hr:=hr) (hn:=hn) (Ext.nrm (r:=r) x) * em ((Ext.nrm (r:=r) x)⁻¹)=1:=by
  rw [<- G7,show Ext.nrm (r:=r) x * (Ext.nrm (r:=r) x)⁻¹=1 by grind]; rfl
 have e3:x * (cj x * em ((Ext.nrm (r:=r) x)⁻¹))=1:=by
  rw [<- Lean.Grind.Semiring.mul_assoc,e1,e2]
 grind
end
theorem zU {r:List Int} {hr:0 < of r} {hn:∀z:F.C,z * z≠of r} {v:(bH F (of r) hr hn).C} {x:List Int} {b:Int} (hb:(b:F.C)≠0) (e:v=bN of r hr hn x / (b:(bH F (of r) hr hn).C)):Ext.a (r:=of r) v=of (bj x) / (b:F.C)/\Ext.b (r:=of r) v=of (bf x) / (b:F.C):=by
 rw [e];exact ⟨KH _ b hb,KJ _ b hb⟩
theorem ey' {r:List Int} {hr:0 < of r} {hn:∀z:F.C,z * z≠of r} {v:(bH F (of r) hr hn).C} {x:List Int} {b:Int} (hb:(b:F.C)≠0) (e1:Ext.a (r:=of r) v=of (bj x) / (b:F.C)) (e2:Ext.b (r:=of r) v=of (bf x) / (b:F.C)):v=bN of r hr hn x / (b:(bH F (of r) hr hn).C) :=
 Ext.eqs (r:=of r) (e1.trans (KH (bN of r hr hn x) b hb).symm) (e2.trans (KJ (bN of r hr hn x) b hb).symm)
theorem zV (T:Tow rs F of) (h3:rs.length < 3) {r:List Int} {hr:0 < of r} {hn:∀z:F.C,z * z≠of r} {p:Nat} {d:D} {v:(bH F (of r) hr hn).C} (h:Nm (bN of r hr hn) (rs.length + 1) p d v) :
  ∃z,pA [d]=.ok z/\Nm (bN of r hr hn) (rs.length + 1) p z (cj v):=by
 obtain ⟨x,b,rfl,nx,lx,bx,bb,ex⟩:=h;have pb:=nx.pos;have b0:=fO T (show b≠0 by omega);have lf:=jl lx;have lb:=jH lx;have e8:=mV (k:=rs.length) (by omega);have ad:=Gr (a:=bj x) (b:=(bf x).map fun t=>-t) (uQ lf) (by rw [length_map]; omega);have ll:(bj x).length=((bf x).map fun t=>-t).length:=by rw [length_map,lf,lb]
 refine ⟨num (bj x ++ (bf x).map fun t=>-t) b,?_,_,_,rfl,⟨pb,?_⟩,?_,Bd.app bx.fr (dK' bx.bh),bb,?_⟩
 ·show outD (mK [some (.arg (num x b))])=_;unfold mK;push_cast [wA,w_behind,G5 (bf x) (by omega),ad]
 ·rw [DX,Gu,<- DX,GC]; exact nx.one
 ·rw [length_append,length_map,lf,lb,Nat.pow_succ]; omega
 ·obtain ⟨e1,e2⟩:=zU b0 ex;refine ey' b0 ?_ ?_
  ·rw [cF' ll]; exact e1
  ·rw [xf ll,yF T lb];show -Ext.b v=_;rw [e2]; grind
noncomputable def vG (r:List Int) (rs:List (List Int)) (x:List Int):List Int:=bT (pt rs (bj x) (bj x)) ((pt rs (pt rs (bf x) (bf x)) r).map fun t=>-t)
theorem DY (S:Sc rs) {r x:List Int} (hl:r.length=2 ^ rs.length) (lx:x.length=2 ^ (rs.length + 1)):(vG r rs x).length=2 ^ rs.length :=
 o_ (eV rs _ _ S (jl lx) (jl lx)) (by rw [length_map]; exact eV rs _ _ S (eV rs _ _ S (jH lx) (jH lx)) hl)
theorem D_ {r x:List Int} (hr:Bd ρ r) (hrs:∀r∈rs,Bd ρ r) {p:Nat} (h:Bd p x):Bd (2 * p + eT ρ (rs.length + 1)) (vG r rs x):=by
 have a:=nY rs hrs h.fr h.fr;have b:=nY rs hrs (nY rs hrs h.bh h.bh) hr;have:=(a.mono (show p + p + eT ρ rs.length<=p + p + eT ρ rs.length + ρ + eT ρ rs.length by omega)).add (dK' b);exact this.mono (by show _<=2 * p + (2 * eT ρ rs.length + ρ + 1); omega)
theorem KQ (S:Sc rs) (h3:rs.length < 3) {r x:List Int} (hl:r.length=2 ^ rs.length) (hr:Bd ρ r) (hrs:∀r∈rs,Bd ρ r) {p:Nat} (lx:x.length=2 ^ (rs.length + 1)) (h:Bd p x) (hp:2 * p + eT ρ (rs.length + 1)<=200000) :
  rC [RT (r :: rs),TI x]=.ok (TI (vG r rs x)):=by
 have lf:=jl lx;have lb:=jH lx;have e8:=mV (k:=rs.length) (by omega);have hp':2 * p + (2 * eT ρ rs.length + ρ + 1)<=200000:=hp;have t1:jL [RT rs,TI (bj x),TI (bj x)]=_:=lC rs 4 _ _ p p (by omega) S hrs lf lf h.fr h.fr (by omega) (by omega);have t2:jL [RT rs,TI (bf x),TI (bf x)]=_:=lC rs 4 _ _ p p (by omega) S hrs lb lb h.bh h.bh (by omega) (by omega);have l2:=eV rs _ _ S lb lb;have t3:jL [RT rs,TI (pt rs (bf x) (bf x)),TI r]=_:=lC rs 4 _ _ (p + p + eT ρ rs.length) ρ (by omega) S hrs l2 hl (nY rs hrs h.bh h.bh) hr (by omega) (by omega);have l3:=eV rs _ _ S l2 hl;have l1:=eV rs _ _ S lf lf;have g:=G5 (pt rs (pt rs (bf x) (bf x)) r) (by omega);have pl:=G4 (pt rs (bj x) (bj x)) ((pt rs (pt rs (bf x) (bf x)) r).map fun t=>-t) (by omega);show outD (rB [some (.arg (RT (r :: rs))),some (.arg (TI x)),none,none,none,none])=_;unfold rB vG;push_cast [nO,wk,wA,w_behind,t1,t2,t3,g,pl]
theorem Ea (T:Tow rs F of) {r x:List Int} (hl:r.length=2 ^ rs.length) (lx:x.length=2 ^ (rs.length + 1)):of (vG r rs x)=of (bj x) * of (bj x) - of (bf x) * of (bf x) * of r:=by
 have S:=T.sc;have lf:=jl lx;have lb:=jH lx;unfold vG;rw [vm T (eV rs _ _ S lf lf) (by rw [length_map]; exact eV rs _ _ S (eV rs _ _ S lb lb) hl),yF T (eV rs _ _ S (eV rs _ _ S lb lb) hl),xg T lf lf,xg T (eV rs _ _ S lb lb) hl,xg T lb lb]
 grind
theorem jr (T:Tow rs F of) (h3:rs.length < 3) {r:List Int} (hl:r.length=2 ^ rs.length) {hr:0 < of r} {hn:∀z:F.C,z * z≠of r} (hrr:Bd ρ r) (hrs:∀r∈rs,Bd ρ r) {p:Nat} {d:D} {v:(bH F (of r) hr hn).C} (h:Nm (bN of r hr hn) (rs.length + 1) p d v) (hp:2 * p + eT ρ (rs.length + 1)<=8000) :
  ∃z,dD [RT (r :: rs),d]=.ok z/\Nm of rs.length (2 * p + eT ρ (rs.length + 1)) z (Ext.nrm (r:=of r) v):=by
 obtain ⟨x,b,rfl,nx,lx,bx,bb,ex⟩:=h;have pb:=nx.pos;have b0:=fO T (show b≠0 by omega);have S:=T.sc;have nt:=KQ S h3 hl hrr hrs lx bx (by omega);have bb2:(b * b).natAbs < 2 ^ (2 * p + eT ρ (rs.length + 1)):=Nat.lt_of_lt_of_le (ik bb bb) (gj (by omega));obtain ⟨z,ez,hz⟩:=j0 T (by omega) (DY S hl lx) (Int.ne_of_gt (Int.mul_pos pb pb)) (D_ hrr hrs bx) bb2 hp;obtain ⟨e1,e2⟩:=zU b0 ex;have val:of (vG r rs x) / ((b * b:Int):F.C)=Ext.nrm (r:=of r) v:=by
  unfold Ext.nrm;rw [Ea T hl lx,Lean.Grind.Ring.intCast_mul,e1,e2];exact KD b0
 rw [val] at hz;refine ⟨z,?_,hz⟩;show outD (mL [some (.arg (RT (r :: rs))),some (.arg (num x b))])=_;unfold mL;have hbB:=d_ bb (show p<=200000 by omega);push_cast [nt,cV hbB hbB,ez]
theorem iV (T:Tow rs F of) (h3:rs.length < 3) {r:List Int} {hr:0 < of r} {hn:∀z:F.C,z * z≠of r} {p:Nat} {d:D} {v:(bH F (of r) hr hn).C} (h:Nm (bN of r hr hn) (rs.length + 1) p d v) (hp:p<=8000) :
  ∃y z,cX [d]=.ok (.tup [y,z])/\Nm of rs.length p y (Ext.a (r:=of r) v)/\Nm of rs.length p z (Ext.b (r:=of r) v):=by
 obtain ⟨x,b,rfl,nx,lx,bx,bb,ex⟩:=h;have pb:=nx.pos;have b0:=fO T (show b≠0 by omega);obtain ⟨e1,e2⟩:=zU b0 ex;obtain ⟨y,ey,hy⟩:=j0 T (by omega) (jl lx) (show b≠0 by omega) bx.fr bb hp;obtain ⟨z,ez,hz⟩:=j0 T (by omega) (jH lx) (show b≠0 by omega) bx.bh bb hp;rw [<- e1] at hy;rw [<- e2] at hz;refine ⟨y,z,?_,hy,hz⟩;show outD (my [some (.arg (num x b))])=_;unfold my;push_cast [wA,w_behind,ey,ez]
theorem Eb (T:Tow rs F of) (h3:rs.length < 3) {r:List Int} {hr:0 < of r} {hn:∀z:F.C,z * z≠of r} {p:Nat} {d:D} {v:F.C} (h:Nm of rs.length p d v) :
  ∃z,kZ [d,.int ((rs.length + 1:Nat):Int)]=.ok z/\Nm (bN of r hr hn) (rs.length + 1) p z (em v):=by
 obtain ⟨x,b,rfl,nx,lx,bx,bb,ex⟩:=h;have pb:=nx.pos;have b0:=fO T (show b≠0 by omega);have e8:=mV (k:=rs.length) (by omega);have ll:x.length=(List.replicate (2 ^ rs.length) (0:Int)).length:=by simpa using lx
 refine ⟨num (x ++ List.replicate (2 ^ rs.length) 0) b,?_,_,_,rfl,⟨pb,?_⟩,?_,Bd.app bx fun t ht=>by rw [eq_of_mem_replicate ht]; exact Nat.two_pow_pos p,bb,?_⟩
 ·show outD (qL [some (.arg (num x b)),some (.arg (.int ((rs.length + 1:Nat):Int)))])=_;unfold qL;have su:((2 ^ (rs.length + 1):Nat):Int) - (x.length:Int)=((2 ^ rs.length:Nat):Int):=by
   rw [lx,Nat.pow_succ]; omega
  have lx':((List.map D.int x).length:Int)=(x.length:Int):=by rw [length_map]
  push_cast [Rv (rs.length + 1) (by omega),lx'];rw [su];push_cast [Ka (2 ^ rs.length) (by omega),J7 (a:=x) (b:=List.replicate (2 ^ rs.length) 0) (by rw [length_replicate]; omega)]
 ·rw [DX,nx.one,Gs]
 ·rw [length_append,length_replicate,lx,Nat.pow_succ]; omega
 ·refine ey' b0 ?_ ?_
  ·rw [cF' ll]; exact ex
  ·rw [xf ll,dk' T];show (0:F.C)=_
   grind
noncomputable def SOk (ρ:Nat):Nat->Nat->Prop
 | 0,p=>p<=200000
 | k + 1,p=>2 * p + eT ρ (k + 1)<=200000/\SOk ρ k (2 * p + eT ρ (k + 1))
theorem SOk.mono {ρ:Nat}:∀{k p q:Nat},SOk ρ k q->p<=q->SOk ρ k p
 | 0,_,_,h,e=>Nat.le_trans e h
 | k + 1,p,q,⟨h1,h2⟩,e=>⟨by omega,SOk.mono (k:=k) h2 (by omega)⟩
theorem Sq (n:Int):vB [.int n]=.ok (.int (sg n)):=by
 show outD (rF [some (.arg (.int n))])=_;unfold rF;rcases Ke n with ⟨h,e⟩ | ⟨h,e⟩ | ⟨h,e⟩ <;> rw [e]
 ·push_cast [h]
 ·have h0:¬(n=0):=by omega
  push_cast [h0,h]
 ·have h0:¬(n=0):=by omega
  have h1:¬(0 < n):=by omega
  push_cast [h0,h1]
theorem Ss (T:Tow rs F of) (k:Int):sgn (k:F.C)=sg k:=by
 rcases Ke k with ⟨h,e⟩ | ⟨h,e⟩ | ⟨h,e⟩ <;> rw [e]
 ·rw [h]; exact sgn_0.mpr Lean.Grind.Ring.intCast_zero
 ·exact sgn_p.mpr (pX T h)
 ·have:=pX T (k:=-k) (by omega);rw [Lean.Grind.Ring.intCast_neg] at this;exact sgn_n.mpr (by grind)
theorem KR (x:F.C):(sgn x).natAbs < 2 ^ 200000:=by
 refine Nat.lt_of_lt_of_le (show (sgn x).natAbs < 2 ^ 1 by rcases nQ x with ⟨_,e⟩ | ⟨_,e⟩ | ⟨_,e⟩ <;> rw [e] <;> decide) (gj (by decide))
theorem Su (T:Tow rs F of):∀(n:Nat) (x:List Int) (p:Nat),rs.length < n->rs.length<=3->(∀r∈rs,Bd ρ r)->x.length=2 ^ rs.length->Bd p x->SOk ρ rs.length p ->
  jY n [RT rs,TI x]=.ok (.int (sgn (of x))):=by
 induction T with
 | nil =>
  intro n x p hn h3 hrs lx bx hs
  match n,hn,x,lx with
  | n + 1,_,[a],_ =>
   show outD (mR (jY n) [some (.arg (RT [])),some (.arg (TI [a])),none,none,none])=_;unfold mR;have ix0:aR (TI [a]) (.int 0)=.ok (.int a):=ix_tup0 _ _;have e:sgn (F:=ratOF) (((a:Int):Rat))=sg a:=Ss Tow.nil a;show _=Res.ok (D.int (sgn (F:=ratOF) (((a:Int):Rat))));rw [e];push_cast [reverse_nil,map_nil,ix0,Sq]
 | @cons rs F of T r hl hr hn' ih =>
  intro n x p hn h3 hrs lx bx hs
  match n,hn with
  | n + 1,hn =>
   obtain ⟨hs1,hs2⟩:=hs;have h3':rs.length + 1<=3:=h3;have hrs':∀r∈rs,Bd ρ r:=fun u hu=>hrs u (mem_cons_of_mem _ hu);have hn2:rs.length < n:=Nat.lt_of_succ_lt_succ hn;have S:=T.sc;have i1:=ih n (bj x) p hn2 (by omega) hrs' (jl lx) bx.fr (hs2.mono (by omega));have i2:=ih n (bf x) p hn2 (by omega) hrs' (jH lx) bx.bh (hs2.mono (by omega));have nt:=KQ S (by omega) hl (hrs r (by simp)) hrs' lx bx hs1;have i3:=ih n (vG r rs x) _ hn2 (by omega) hrs' (DY S hl lx) (D_ (hrs r (by simp)) hrs' bx) hs2;rw [Ea T hl lx] at i3;have es:=ev' (hr:=hr) (hn:=hn') (bN of r hr hn' x);have es':sgn (bN of r hr hn' x)=if sgn (of (bj x))=sgn (of (bf x))\/sgn (of (bf x))=0 then sgn (of (bj x)) else if sgn (of (bj x))=0 then sgn (of (bf x)) else sgn (of (bj x)) * sgn (of (bj x) * of (bj x) - of (bf x) * of (bf x) * of r):=es
   rw [es'];have z:¬(((rs.length + 1:Nat):Int)=0):=by omega
   show outD (mR (jY n) [some (.arg (RT (r :: rs))),some (.arg (TI x)),none,none,none])=_;unfold mR;generalize of (bj x) * of (bj x) - of (bf x) * of (bf x) * of r=nn at *;have mu:=cV (KR (of (bj x))) (KR nn)
   by_cases c1:sgn (of (bj x))=sgn (of (bf x))
   ·rw [if_pos (.inl c1)];push_cast [length_map,length_reverse,z,nO,wA,w_behind,i1,i2,c1]
   ·by_cases c2:sgn (of (bf x))=0
    ·rw [if_pos (.inr c2)];have c1':¬(sgn (of (bj x))=0):=fun q=>c1 (by rw [q,c2]);push_cast [length_map,length_reverse,z,nO,wA,w_behind,i1,i2,c2,c1']
    ·rw [if_neg (fun q=>q.elim c1 c2)]
     by_cases c3:sgn (of (bj x))=0
     ·rw [if_pos c3];have c1':¬(0=sgn (of (bf x))):=fun q=>c2 q.symm;push_cast [length_map,length_reverse,z,nO,wA,w_behind,i1,i2,c2,c3,c1']
     ·rw [if_neg c3];push_cast [length_map,length_reverse,z,nO,wA,w_behind,i1,i2,c1,c2,c3,nt,i3,mu]
theorem Sv (T:Tow rs F of) {u:F.C} {b:Int} (hb:0 < b):sgn (u / (b:F.C))=sgn u:=by
 have bp:=pX T hb;have h1:sgn ((b:F.C) * (u / (b:F.C)))=sgn (u / (b:F.C)):=by rw [sgn_mul,sgn_p.mpr bp,Int.one_mul]
 rw [<- h1]; congr 1; grind
theorem zW (T:Tow rs F of) (h3:rs.length<=3) (hrs:∀r∈rs,Bd ρ r) {p:Nat} {d:D} {u:F.C} (h:Nm of rs.length p d u) (hs:SOk ρ rs.length p):pB [RT rs,d]=.ok (.int (sgn u)):=by
 obtain ⟨x,b,rfl,nx,lx,bx,bb,ex⟩:=h;have pb:=nx.pos;have i:=Su T 4 x p (by omega) h3 hrs lx bx hs;have i':vC [RT rs,TI x]=.ok (.int (sgn (of x))):=i;show outD (mU [some (.arg (RT rs)),some (.arg (num x b))])=_;unfold mU;rw [ex,Sv T pb];push_cast [i']
open Classical in
noncomputable def fabs {F:OF} (u:F.C):F.C:=if u < 0 then -u else u
theorem zX (T:Tow rs F of) (h3:rs.length<=3) (hrs:∀r∈rs,Bd ρ r) {p:Nat} {d:D} {u:F.C} (h:Nm of rs.length p d u) (hs:SOk ρ rs.length p):∃z,jq [RT rs,d]=.ok z/\Nm of rs.length p z (fabs u):=by
 have i:=zW T h3 hrs h hs;have o:∀z,outD (jZ [some (.arg (RT rs)),some (.arg d)])=.ok z->jq [RT rs,d]=.ok z:=fun z q=>q;unfold fabs
 by_cases c:u < 0
 ·obtain ⟨z,ez,hz⟩:=vD T h3 h;refine ⟨z,o z ?_,by rw [if_pos c]; exact hz⟩;unfold jZ;have e:=sgn_n.mpr c;push_cast [i,e,ez]
 ·refine ⟨d,o d ?_,by rw [if_neg c]; exact h⟩;unfold jZ;have e:¬(sgn u < 0):=by
   rcases nQ u with ⟨_,e⟩ | ⟨_,e⟩ | ⟨h2,e⟩
   ·rw [e]; decide
   ·rw [e]; decide
   ·exact (c h2).elim
  push_cast [i,e]
noncomputable def oB (ρ:Nat):Nat->Nat->Nat
 | 0,p=>p
 | k + 1,p=>p + oB ρ k (2 * p + eT ρ (k + 1)) + eT ρ (k + 1)
theorem Sw (ρ:Nat):∀(k p:Nat),p<=oB ρ k p
 | 0,p=>Nat.le_refl _
 | k + 1,p=>by show p<=p + oB ρ k (2 * p + eT ρ (k + 1)) + eT ρ (k + 1); omega
theorem G8 (T:Tow rs F of):∀(n p:Nat) (d:D) (u:F.C),rs.length < n->rs.length<=3->(∀r∈rs,Bd ρ r)->Nm of rs.length p d u->u≠0->oB ρ rs.length p<=8000 ->
  ∃z,jX n [RT rs,d]=.ok z/\Nm of rs.length (oB ρ rs.length p) z (u⁻¹):=by
 induction T with
 | nil =>
  intro n p d u hn h3 hrs h u0 hp
  match n,hn with
  | n + 1,_ =>
   obtain ⟨x,b,rfl,nx,lx,bx,bb,ex⟩:=h
   match x,lx with
   | [a],_ =>
    have pb:=nx.pos;have a0:a≠0:=fun z=>u0 (by rw [ex,z]; show ((0:Int):Rat) / _=0; rw [show ((0:Int):Rat)=0 from rfl]; grind)
    have ab:a.natAbs < 2 ^ p:=bx a (by simp);obtain ⟨z,ez,hz⟩:=j0 Tow.nil (by decide) (ts:=[b]) (b:=a) (n:=p) rfl a0 (fun t ht=>by rw [mem_singleton.mp ht]; exact bb) ab hp;have val:(((b:Int):Rat)) / ((a:Int):Rat)=(((a:Int):Rat) / ((b:Int):Rat))⁻¹:=by
     have h1:((a:Int):Rat)≠0:=fun z=>a0 (Rat.intCast_eq_zero_iff.mp z);have h2:((b:Int):Rat)≠0:=fun z=>absurd (Rat.intCast_eq_zero_iff.mp z) (by omega)
     grind
    refine ⟨z,?_,?_⟩
    ·show outD (mO (jX n) [some (.arg (RT [])),some (.arg (num [a] b)),none])=_;unfold mO;have ix0:aR (TI [a]) (.int 0)=.ok (.int a):=ix_tup0 _ _;have ez':di [.tup [.int b],.int a]=.ok z:=ez;push_cast [reverse_nil,map_nil,map_cons,ix0,ez']
    ·rw [ex];have hz':Nm (F:=ratOF) (fun x=>((x.headD 0:Int):Rat)) 0 p z ((((b:Int):Rat)) / ((a:Int):Rat)):=hz;rw [val] at hz';exact hz'
 | @cons rs F of T r hl hr hn' ih =>
  intro n p d u hn h3 hrs h u0 hp
  match n,hn with
  | n + 1,hn =>
   have h3':rs.length + 1<=3:=h3;have hp':p + oB ρ rs.length (2 * p + eT ρ (rs.length + 1)) + eT ρ (rs.length + 1)<=8000:=hp;have hrs':∀r∈rs,Bd ρ r:=fun u hu=>hrs u (mem_cons_of_mem _ hu);have le:=Sw ρ rs.length (2 * p + eT ρ (rs.length + 1));obtain ⟨m,em_,hm⟩:=jr T (by omega) hl (hr:=hr) (hn:=hn') (hrs r (by simp)) hrs' h (by omega);obtain ⟨b,eb,hb⟩:=ih n _ m _ (Nat.lt_of_succ_lt_succ hn) (by omega) hrs' hm (KN u u0) (by omega);obtain ⟨t,et,ht⟩:=zV T (by omega) h;obtain ⟨l,el,hl'⟩:=Eb T (by omega) (r:=r) (hr:=hr) (hn:=hn') hb;have TT:=Tow.cons T r hl hr hn';obtain ⟨z,ez,hz⟩:=j4 TT h3 hrs ht hl' hp';rw [<- Sh u u0] at hz;refine ⟨z,?_,hz⟩;show outD (mO (jX n) [some (.arg (RT (r :: rs))),some (.arg d),none])=_;unfold mO;have zz:¬(((rs.length + 1:Nat):Int)=0):=by omega
   push_cast [length_map,length_reverse,zz,nO,em_,eb,et,el,ez]
theorem pC (T:Tow rs F of) (h3:rs.length<=3) (hrs:∀r∈rs,Bd ρ r) {p q:Nat} {d e:D} {u v:F.C} (h1:Nm of rs.length p d u) (h2:Nm of rs.length q e v) (v0:v≠0) (hn:p + oB ρ rs.length q + eT ρ rs.length<=8000) :
  ∃z,iU [RT rs,d,e]=.ok z/\Nm of rs.length (p + oB ρ rs.length q + eT ρ rs.length) z (u / v):=by
 obtain ⟨i,ei,hi⟩:=G8 T 4 q e v (by omega) h3 hrs h2 v0 (by omega);obtain ⟨z,ez,hz⟩:=j4 T h3 hrs h1 hi hn;rw [show u * v⁻¹=u / v by grind] at hz;refine ⟨z,?_,hz⟩;have no:=G6 T h3 h2;have ei':vA [RT rs,e]=.ok i:=ei;show outD (mQ [some (.arg (RT rs)),some (.arg d),some (.arg e)])=_;unfold mQ;push_cast [no,v0,ei',ez]
end
theorem G9 (c:Int):∃l:Nat,l<=3/\Int.fmod c 4=(l:Int):=by
 have a:=Int.fmod_nonneg_of_pos c (b:=4) (by decide);have b:=Int.fmod_lt_of_pos c (b:=4) (by decide);exact ⟨(Int.fmod c 4).toNat,by omega,by omega⟩
theorem up {x n:Nat} (h:x < 2 ^ n) (m:Nat) (e:n<=m):x < 2 ^ m:=Nat.lt_of_lt_of_le h (Nat.pow_le_pow_right (by decide) e)
noncomputable def mixV:List Int:=[271828183,314159269,161803399,141421357,173205081,223606797,244948975,264575131,331662479,360555127]
noncomputable def mix (c:Int) (k:Nat) (m:Int):Int:=Int.fmod (Int.fmod ((c + 1) * mixV.getD k 0) 1000000007) m
theorem rN (c:Int) (k:Nat) {m:Int} (h:0 < m):0<=mix c k m/\mix c k m < m:=⟨Int.fmod_nonneg_of_pos _ h,Int.fmod_lt_of_pos _ h⟩
theorem qm (c:Int) (k:Nat) (m:Int) (hk:k < 10) (hm:0 < m):cY [.int c,.int k,.int m]=.ok (.int (mix c k m)):=by
 show outD (rz [some (.arg (.int c)),some (.arg (.int k)),some (.arg (.int m)),none])=_;unfold rz mix;have ad:aN (.lst [.int 271828183,.int 314159269,.int 161803399,.int 141421357,.int 173205081]) (.lst [.int 223606797,.int 244948975,.int 264575131,.int 331662479,.int 360555127])=.ok (.lst (mixV.map .int)):=rfl;have hl:k < mixV.length:=hk;have hg:(mixV.map D.int)[k]? = some (.int (mixV.getD k 0)):=by
  rw [List.getElem?_map,getD_eq_getElem?_getD,List.getElem?_eq_getElem hl]; rfl
 have hs:∀v∈mixV,v.natAbs < 2 ^ 64:=by decide
 have hv:(mixV.getD k 0).natAbs < 2 ^ 64:=by
  rw [getD_eq_getElem?_getD,List.getElem?_eq_getElem hl]; exact hs _ (getElem_mem hl)
 push_cast [ad,Dv _ k _ hg,wV hv,dJ (show (1000000007:Int)≠0 by decide),dJ (Int.ne_of_gt hm)]
theorem wC {n:Nat} {a:Int} (h:a.natAbs < 2 ^ n):Bd n [a]:=fun t ht=>by rw [mem_singleton.mp ht]; exact h
theorem jD {n:Nat} {a:Int} {l:List Int} (h:a.natAbs < 2 ^ n) (hl:Bd n l):Bd n (a :: l):=fun t ht=>(mem_cons.mp ht).elim (fun z=>by rw [z]; exact h) (hl t)
theorem G_ (x y:List Int) (hl:x.length<=1000):p6 [TI x,TI y]=.ok (TI (bT x y)):=by
 show outD (qT [some (.arg (TI x)),some (.arg (TI y))])=_;unfold qT;have c:=Gq (fe:=two (ak 0) (ak 1) aN) (fi:=cC ‹"K"› nH) (fr:=[]) (δ:=[some (.arg (TI x)),some (.arg (TI y))]) (rest:=[]) (xs:=x) (ys:=y) (g:=fun a b=>.int (a + b))
  (nM (ds:=[TI x,TI y]) rfl rfl) rfl (Nat.le_trans hl (by decide)) fun a _ b _=>by push_cast [DL.ap_seq]
 rw [zR] at c;push_cast [c]
theorem wD (k:Int) (x:List Int) (hl:x.length<=1000) (hk:k.natAbs < 2 ^ 200000) (hx:Bd 200000 x):gJ [.int k,TI x]=.ok (TI (x.map (k * ·))):=by
 show outD (qU [some (.arg (.int k)),some (.arg (TI x))])=_;unfold qU;have c:=yE (fe:=two (ak 1) (ak 0) bR) (fi:=bindL (ak 1) aZ) (fr:=[0]) (δ:=[some (.arg (.int k)),some (.arg (TI x))]) (rest:=[some (.arg (.int k))]) (ts:=x) (g:=fun t=>.int (k * t))
  (by push_cast [DL.ap_seq]) rfl (Nat.le_trans hl (by decide)) fun t ht=>by push_cast [cV hk (hx t ht)]
 rw [Rr] at c;push_cast [c]
theorem w_lt {ρ:Nat}:∀(rs:List (List Int)) (n:Nat) (x y:List Int) (p q:Nat),rs.length < n->Sc rs->(∀r∈rs,Bd ρ r)->x.length=2 ^ rs.length->y.length=2 ^ rs.length->Bd p x->Bd q y->p + q + eT ρ rs.length<=200000->rs.length<=8 ->
  jW n [RT rs,TI x,TI y]=.ok (TI (lt rs x y))
 | _,0,_,_,_,_,h,_,_,_,_,_,_,_,_=>absurd h (Nat.not_lt_zero _)
 | [],n + 1,x,y,p,q,_,_,_,hx,hy,bx,by_,hb,_=>by
  show outD (mH (jW n) [some (.arg (RT [])),some (.arg (TI x)),some (.arg (TI y)),none,none,none,none,none])=_;unfold mH;have e1:=d_ bx.head (show p<=200000 by omega);have e2:=d_ by_.head (show q<=200000 by omega);have hx':x.length=1:=hx;push_cast [length_map,hx',Dw (uQ (k:=0) hx),Dw (uQ (k:=0) hy),cV e1 e2];rfl
 | r :: rs,n + 1,x,y,p,q,hn,S,hr,hx,hy,bx,by_,hb,h8=>by
  obtain ⟨hr1,S⟩:=S;have hb:p + q + (2 * eT ρ rs.length + ρ + 1)<=200000:=hb;have h8:rs.length + 1<=8:=h8;have hr':∀r∈rs,Bd ρ r:=fun u hu=>hr u (mem_cons_of_mem _ hu);have a:=jl hx;have b:=jH hx;have c:=jl hy;have d:=jH hy;have hn':rs.length < n:=Nat.lt_of_succ_lt_succ hn;have i1:=w_lt rs n (bj x) (bj y) p q hn' S hr' a c bx.fr by_.fr (by omega) (by omega);have i2:=w_lt rs n (bf x) (bf y) p q hn' S hr' b d bx.bh by_.bh (by omega) (by omega);have i3:=w_lt rs n (bj x) (bf y) p q hn' S hr' a d bx.fr by_.bh (by omega) (by omega);have i4:=w_lt rs n (bf x) (bj y) p q hn' S hr' b c bx.bh by_.fr (by omega) (by omega);have i5:=w_lt rs n r (lt rs (bf x) (bf y)) ρ (p + q + eT ρ rs.length) hn' S hr' hr1 (by rw [pR]; exact eV rs _ _ S b d) (hr r (by simp)) (by rw [pR]; exact nY rs hr' bx.bh by_.bh) (by omega) (by omega);have small:2 ^ rs.length<=256:=Nat.le_trans (Nat.pow_le_pow_right (by decide) (show rs.length<=8 by omega)) (by decide);have l1:(lt rs (bj x) (bj y)).length=2 ^ rs.length:=by rw [pR]; exact eV rs _ _ S a c
  have l2:(lt rs r (lt rs (bf x) (bf y))).length=2 ^ rs.length:=by rw [pR,pR]; exact eV rs _ _ S hr1 (eV rs _ _ S b d)
  have l3:(lt rs (bj x) (bf y)).length=2 ^ rs.length:=by rw [pR]; exact eV rs _ _ S a d
  have l4:(lt rs (bf x) (bj y)).length=2 ^ rs.length:=by rw [pR]; exact eV rs _ _ S b c
  have p1:=G_ (lt rs (bj x) (bj y)) (lt rs r (lt rs (bf x) (bf y))) (by omega);have p2:=G_ (lt rs (bj x) (bf y)) (lt rs (bf x) (bj y)) (by omega);have f1:=o_ l1 l2;have f2:=o_ l3 l4;have ad:=Gr (a:=bT (lt rs (bj x) (bj y)) (lt rs r (lt rs (bf x) (bf y)))) (b:=bT (lt rs (bj x) (bf y)) (lt rs (bf x) (bj y))) (uQ f1) (by omega);show outD (mH (jW n) [some (.arg (RT (r :: rs))),some (.arg (TI x)),some (.arg (TI y)),none,none,none,none,none])=_;unfold mH;have z:¬((x.length:Int)=1):=by
   rw [hx]; show ¬(((2 ^ (rs.length + 1):Nat):Int)=1);have:=Nat.two_pow_pos rs.length;rw [Nat.pow_succ]; omega
  have fx:x.take (x.length / 2)=bj x:=rfl;have bx':x.drop (x.length / 2)=bf x:=rfl;have e:x.length / 2=y.length / 2:=by rw [hx,hy]
  have fy:y.take (x.length / 2)=bj y:=by rw [e]; rfl
  have by':y.drop (x.length / 2)=bf y:=by rw [e]; rfl
  push_cast [length_map,z,dv',nO,wk,Gn,Gp,fx,bx',fy,by',i1,i2,i3,i4,i5,p1,p2,ad,lt]
noncomputable def Rw {F:OF} (of:List Int->F.C) (k n:Nat) (d:D) (v:F.C):Prop :=
 ∃x b,d=num x b/\0 < b/\x.length=2 ^ k/\Bd n x/\b.natAbs < 2 ^ n/\v=of x / (b:F.C)
section
variable {rs:List (List Int)} {F:OF} {of:List Int->F.C} {ρ:Nat}
theorem _root_.Mine.Nm.rw {k n:Nat} {d:D} {v:F.C} (h:Nm of k n d v):Rw of k n d v:=by
 obtain ⟨x,b,h1,h2,h3,h4,h5,h6⟩:=h;exact ⟨x,b,h1,h2.pos,h3,h4,h5,h6⟩
theorem Rw.mono {k n m:Nat} {d:D} {v:F.C} (h:Rw of k n d v) (e:n<=m):Rw of k m d v:=by
 obtain ⟨x,b,h1,h2,h3,h4,h5,h6⟩:=h;exact ⟨x,b,h1,h2,h3,h4.mono e,Nat.lt_of_lt_of_le h5 (gj e),h6⟩
theorem fl_mul {a b c d:F.C}:a * c / (b * d)=a / b * (c / d):=by grind
theorem Sx {a b c d:F.C} (hb:b≠0) (hd:d≠0):(d * a + b * c) / (b * d)=a / b + c / d:=by grind
theorem xm (T:Tow rs F of) (h3:rs.length<=3) (hr:∀r∈rs,Bd ρ r) {p q:Nat} {d e:D} {u v:F.C} (h1:Rw of rs.length p d u) (h2:Rw of rs.length q e v) (hn:p + q + eT ρ rs.length<=200000) :
  ∃z,cZ [RT rs,d,e]=.ok z/\Rw of rs.length (p + q + eT ρ rs.length) z (u * v):=by
 obtain ⟨x,b,rfl,pb,lx,bx,bb,ex⟩:=h1;obtain ⟨y,c,rfl,pc,ly,b_y,bc,ey⟩:=h2;have S:=T.sc;have t:vz [RT rs,TI x,TI y]=_:=w_lt rs 4 x y p q (by omega) S hr lx ly bx b_y hn (by omega);rw [pR] at t;refine ⟨num (pt rs x y) (b * c),?_,_,_,rfl,Int.mul_pos pb pc,eV rs x y S lx ly,nY rs hr bx b_y,Nat.lt_of_lt_of_le (ik bb bc) (gj (by omega)),?_⟩
 ·show outD (rA [some (.arg (RT rs)),some (.arg (num x b)),some (.arg (num y c))])=_;unfold rA;push_cast [t,cV (d_ bb (show p<=200000 by omega)) (d_ bc (show q<=200000 by omega))]
 ·rw [xg T lx ly,Lean.Grind.Ring.intCast_mul,ex,ey]; exact fl_mul.symm
theorem KY (T:Tow rs F of) (h3:rs.length<=3) {p q:Nat} {d e:D} {u v:F.C} (h1:Rw of rs.length p d u) (h2:Rw of rs.length q e v) (hn:p + q + 1<=200000) :
  ∃z,p7 [d,e]=.ok z/\Rw of rs.length (p + q + 1) z (u + v):=by
 obtain ⟨x,b,rfl,pb,lx,bx,bb,ex⟩:=h1;obtain ⟨y,c,rfl,pc,ly,b_y,bc,ey⟩:=h2;have e8:=mV h3;have hb:=d_ bb (show p<=200000 by omega);have hc:=d_ bc (show q<=200000 by omega);have s1:=wD c x (by omega) hc (bx.mono (by omega));have s2:=wD b y (by omega) hb (b_y.mono (by omega));have ad:=G_ (x.map (c * ·)) (y.map (b * ·)) (by rw [length_map]; omega);refine ⟨num (bT (x.map (c * ·)) (y.map (b * ·))) (b * c),?_,_,_,rfl,Int.mul_pos pb pc,o_ (by simpa using lx) (by simpa using ly),?_,Nat.lt_of_lt_of_le (ik bb bc) (gj (by omega)),?_⟩
 ·show outD (qY [some (.arg (num x b)),some (.arg (num y c))])=_;unfold qY;push_cast [s1,s2,ad,cV hb hc]
 ·have b1:=Dy bx bc;have b2:=Dy b_y bb;rw [Nat.add_comm q p] at b1;exact b1.add b2
 ·rw [vm T (by simpa using lx) (by simpa using ly),jm T _ lx,jm T _ ly,Lean.Grind.Ring.intCast_mul,ex,ey];exact (Sx (fO T (show b≠0 by omega)) (fO T (show c≠0 by omega))).symm
open Classical in
theorem Sy (T:Tow rs F of) (h3:rs.length<=3) {p q:Nat} {d e:D} {u v:F.C} (h1:Rw of rs.length p d u) (h2:Rw of rs.length q e v) (hp:p<=200000) (hq:q<=200000):p_ [d,e]=.ok (.bl (decide (u=v))):=by
 obtain ⟨x,b,rfl,pb,lx,bx,bb,ex⟩:=h1;obtain ⟨y,c,rfl,pc,ly,b_y,bc,ey⟩:=h2;have e8:=mV h3;have b0:=fO T (show b≠0 by omega);have c0:=fO T (show c≠0 by omega);have s1:=wD c x (by omega) (d_ bc hq) (bx.mono hp);have s2:=wD b y (by omega) (d_ bb hp) (b_y.mono hq);show outD (qZ [some (.arg (num x b)),some (.arg (num y c))])=_;unfold qZ;push_cast [s1,s2,Rn]
 congr 2
 have:(x.map (c * ·)=y.map (b * ·))↔u=v:=by
  rw [ex,ey]
  constructor
  ·intro h;have:=congrArg of h;rw [jm T c lx,jm T b ly] at this;exact RP b0 c0 this
  ·intro h;have:=kN' b0 c0 h;rw [<- jm T c lx,<- jm T b ly] at this;exact GD T (by simpa using lx) (by simpa using ly) this
 by_cases c:u=v
 ·simp [c,this.mpr c]
 ·have:¬(x.map (fun t=>_ * t)=y.map (fun t=>_ * t)):=fun h=>c (this.mp h);simp [c,this]
end
theorem KZ {k:Nat} (h:k<=3):eT 10 k<=77:=by
 have:k=0\/k=1\/k=2\/k=3:=by omega
 rcases this with z | z | z | z <;> subst z <;> decide
theorem Ha {k p:Nat} (h:k<=3) (hp:p<=20000):SOk 10 k p:=by
 have:k=0\/k=1\/k=2\/k=3:=by omega
 rcases this with z | z | z | z <;> subst z <;> simp only [SOk,eT] <;> omega
section
variable {rs:List (List Int)} {F:OF} {of:List Int->F.C} {ρ:Nat}
end
end Bk
namespace Bk
open PySem PySem.Spec PyProof.Rows L2 DL
end Bk
namespace Bk
open PySem PySem.Spec PyProof.Rows L2 DL Mine
theorem SJ (ds:List D):(SV.own ds).view=.lst ds:=Eq.trans rfl rfl
theorem K3 (b:Bool):nF [.bl b]=.ok (.int (if b then 1 else 0)):=Eq.trans rfl rfl
theorem K4 (ts:List Int):b_ (ts.map .int)=true:=by
 induction ts with
 | nil=>rfl
 | cons t ts ih=>rw [map_cons,b_,ih]; rfl
theorem Hb (i:Nat) {f:DS->Res D} {δ:DS} {ds:List D} (h:f δ=.ok (.lst ds)):jG i f δ=.nxt (δ.set i (some (.own ds))):=by unfold jG; rw [h]
theorem SM {i:Nat} {fi fe:DS->Res D} {δ:DS} {ds:List D} {d:D} {z:Int} {j:Nat} (h1:δ[i]? = some (some (.own ds))) (h2:fe δ=.ok d) (h3:fi δ=.ok (.int z)) (h4:jO ds.length z=some j) (h5:b_ ds=true) (h6:dC d=true):putD i fi fe δ=.nxt (iD i ds j d δ):=by
 unfold putD;rw [h1]; dsimp only;rw [h2]; dsimp only [kI];rw [h3]; dsimp only [kI];rw [h4]; dsimp only;rw [if_pos ⟨h5,h6⟩]
theorem SN {n k:Nat} (h:k < n):jO n (k:Int)=some k:=by
 unfold jO;rw [if_pos (by omega),if_pos (by omega)]
 congr 1
theorem fp' {fe:DS->Res D} {rest:DS} {g:Int->Int->Int} {n:Nat}:∀(ts:List Int) (k:Nat),k + ts.length<=n->(∀(i:Nat),i < n->∀t∈ts,fe (some (.val (.int (i:Int))) :: some (.val (.int t)) :: rest)=.ok (.int (g (i:Int) t))) ->
  mapR (fG (bW [0,1]) fe (none :: none :: rest)) (((ts.map D.int).zipIdx k).map fun p=>D.tup [.int ((p.2:Nat):Int),p.1])=.ok (((ts.zipIdx k).map fun p=>g ((p.2:Nat):Int) p.1).map .int)
 | [],_,_,_=>rfl
 | t :: ts,k,hk,h=>by
  have hk':k + (ts.length + 1)<=n:=hk;have e:fG (bW [0,1]) fe (none :: none :: rest) (.tup [.int (k:Int),.int t])=.ok (.int (g (k:Int) t)):=by
   show (match fe (some (.val (.int (k:Int))) :: some (.val (.int t)) :: rest) with | .ok z=>Res.ok z | _=>.stuck)=_
   rw [h k (by omega) t (by simp)]
  have ih:=fp' (n:=n) (g:=g) ts (k + 1) (by omega) fun i hi u hu=>h i hi u (mem_cons_of_mem _ hu);rw [map_cons,zipIdx_cons,map_cons,zipIdx_cons,map_cons,map_cons];show mapR _ (D.tup [.int (k:Int),.int t] :: _)=_;rw [mapR,e,Res.bind_ok,ih,Res.bind_ok]
theorem K5 {fe:DS->Res D} {fi:DS->Res (List D)} {fr:List Nat} {δ rest:DS} {ts:List Int} {g:Int->Int->Int} (hi:fi δ=.ok (gq (ts.map .int))) (hr:cQ 2 fr δ=none :: none :: rest) (hl:ts.length<=sizeLine)
  (h:∀(i:Nat),i < ts.length->∀t∈ts,fe (some (.val (.int (i:Int))) :: some (.val (.int t)) :: rest)=.ok (.int (g (i:Int) t))):bD 2 fr (bW [0,1]) fe fi δ=.ok (.lst ((ts.zipIdx.map fun p=>g ((p.2:Nat):Int) p.1).map .int)):=by
 unfold bD;rw [hi,Res.bind_ok,hr];have:=fp' (fe:=fe) (rest:=rest) (g:=g) (n:=ts.length) ts 0 (by omega) h;unfold gq;rw [this];unfold fD;rw [Res.bind_ok,if_pos (by rw [length_map,length_map,length_zipIdx]; exact hl)]
theorem K6 {α:Type} {l:List α} {k:Nat} {p:α×Nat} (h:p∈l.zipIdx k):p.1∈l:=by
 induction l generalizing k with
 | nil=>simp at h
 | cons a l ih =>
  rw [zipIdx_cons] at h;rcases mem_cons.mp h with z | z
  ·rw [z]; simp
  ·exact mem_cons_of_mem _ (ih z)
section
variable {rs:List (List Int)} {F:OF} {of:List Int->F.C} {ρ:Nat}
theorem SQ (T:Tow rs F of) (h3:rs.length<=3) {p:Nat} {d:D} {u:F.C} (h:Rw of rs.length p d u) {q:Nat} (hq:∀x b,d=num x b->b.natAbs < 2 ^ q) (hq8:q<=8000):∃z,eY [d]=.ok z/\Nm of rs.length p z u:=by
 obtain ⟨x,b,rfl,pb,lx,bx,bb,ex⟩:=h;obtain ⟨K,y,c,k0,e1,e2,nf,yl,kb,hN⟩:=vo T lx (show b≠0 by omega) bx bb;rw [<- ex] at hN;refine ⟨_,?_,hN⟩;have cp:=nf.pos;have kp:0 < K:=by
  rcases Int.lt_or_le 0 K with q | q
  ·exact q
  ·have:=Int.mul_nonpos_of_nonpos_of_nonneg q (Int.le_of_lt cp); omega
 have k8:K.natAbs < 2 ^ 8000:=by
  have:=hq x b rfl;rw [e2,Int.natAbs_mul] at this;exact G3 (Nat.lt_of_le_of_lt (Nat.le_mul_of_pos_right _ (by omega)) this) hq8
 have e8:=mV h3;have hs:x.foldl cm b=K:=by
  rw [e1,e2,J3 nf k0 (uQ yl)]; omega
 obtain ⟨z',e⟩:=Gh (i:=2) (f:=cm) (b:=aD 1 (ao (aj (ak 1) ‹"o"›) jK))
  (fun acc z=>[some (.val (num x b)),some (.val (.int acc)),z])
  (fun acc z t=>by push_cast [Ky]) x b none
 rw [hs] at e;have th:thaw [some (SV.arg (num x b)),some (.val (.int b)),none]=[some (.val (num x b)),some (.val (.int b)),none]:=rfl;have th2:e_ (Out.nxt [some (.val (num x b)),some (.val (.int K)),z'])=.nxt [some (.val (num x b)),some (.val (.int K)),z'.map thaw2]:=rfl;have cp':∀z2,bD 1 [1] (bO 0) ‹"at"› (bindL ‹"f"› aZ) [some (.val (num x b)),some (.val (.int K)),z2]=.ok (.lst (x.map fun t=>.int (Int.fdiv t K))):=fun z2 =>
  yE (rest:=[some (.arg (.int K))]) (by push_cast [DL.ap_seq]) rfl (Nat.le_trans (show x.length<=63 by omega) (by decide)) fun t _=>by
   push_cast [pQ k0 k8]
 have cl:x.map (fun t=>D.int (Int.fdiv t K))=y.map .int:=by
  rw [e1,map_map];simp only [Function.comp_def,Gj _ _ k0]
 have cb':Int.fdiv b K=c:=by rw [e2,Gj _ _ k0]
 show outD (rG [some (.arg (num x b)),none,none])=_;unfold rG;push_cast [th,e,th2,cp',cl,pQ k0 k8,cb']
theorem Ec (T:Tow rs F of) (h3:rs.length<=3) {p:Nat} {d:D} {u:F.C} (h:Rw of rs.length p d u) (hp:p<=8000):∃z,eY [d]=.ok z/\Nm of rs.length p z u :=
 SQ T h3 h (q:=p) (fun x b e=>by
  obtain ⟨x',b',e',_,_,_,bb,_⟩:=h;rw [e] at e';injection e' with e'
  injection e' with _ e'
  injection e' with e'
  injection e' with e'
  rw [e']; exact bb) hp
theorem S5 (T:Tow rs F of) (h3:rs.length<=3) (c:Int):∃d v,rM [.int c,.int ((2 ^ rs.length:Nat):Int)]=.ok d/\Nm of rs.length 31 d v:=by
 have e8:=mV h3;have p0:=Nat.two_pow_pos rs.length;have d5:aL (.int c) (.int 5)=_:=pQ (show (5:Int)≠0 by decide) (Nat.lt_of_lt_of_le (show 5 < 2 ^ 3 by decide) (Nat.pow_le_pow_right (by decide) (by decide)));have m5:aY (.int c) (.int 5)=_:=dJ (show (5:Int)≠0 by decide);generalize Int.fdiv c 5=q at *;have p9:km (.int 10) (.int 9)=.ok (.int (10 ^ 9)):=rfl;have mu2:dj (.int 2) (.int (10 ^ 9))=.ok (.int (2 * 10 ^ 9)):=wV (by decide);have mB:=dJ (a:=q) (show (2 * 10 ^ 9 + 1:Int)≠0 by decide);have b0:=Int.fmod_nonneg_of_pos q (show (0:Int) < 2 * 10 ^ 9 + 1 by decide);have b1:=Int.fmod_lt_of_pos q (show (0:Int) < 2 * 10 ^ 9 + 1 by decide);have mM:=dJ (a:=q) (show ((2 ^ rs.length:Nat):Int)≠0 by omega);have a0:=Int.fmod_nonneg_of_pos q (show (0:Int) < ((2 ^ rs.length:Nat):Int) by omega);have a1:=Int.fmod_lt_of_pos q (show (0:Int) < ((2 ^ rs.length:Nat):Int) by omega);generalize Int.fmod q ((2 ^ rs.length:Nat):Int)=at_ at *;generalize Int.fmod q (2 * 10 ^ 9 + 1)=big at *;obtain ⟨k,rfl⟩:=Int.eq_ofNat_of_zero_le a0;have k1:k < 2 ^ rs.length:=by omega
 have x8:cY [.int q,.int 8,.int 12]=_:=qm q 8 12 (by decide) (by decide);have b8:=rN q 8 (m:=12) (by decide);generalize mix q 8 12=bot at *
 let tops:List Int:=((List.range (2 ^ rs.length)).map fun (k:Nat)=>(k:Int)).map fun t=>mix q t.toNat 19 - 9
 have tl:tops.length=2 ^ rs.length:=by simp [tops]
 have tb:Bd 31 tops:=fun t ht=>by
  obtain ⟨u,_,rfl⟩:=mem_map.mp ht;have:=rN q u.toNat (m:=19) (by decide);have e:(2147483648:Nat)=2 ^ 31:=by decide
  rw [<- e]; omega
 have fin:∀(ts:List Int),ts.length=2 ^ rs.length->Bd 31 ts->∃d v,(∀s1,outD ((aH (ao (aj (aQ (aj (ao ‹"o"› cW) (aj (two ‹1› (ao (aj (two (ak 0) ‹5› aL) (aj ‹8› (aj ‹12› ‹""›))) cY) aN) ‹""›))) ‹""›) eY)) [some (.arg (.int c)),s1,some (.own (ts.map .int))])=.ok d)/\Nm of rs.length 31 d v:=by
  intro ts hl hb;have bb:(1 + bot).natAbs < 2 ^ 31:=by
   have e:(2147483648:Nat)=2 ^ 31:=by decide
   rw [<- e]; omega
  have hR:Rw of rs.length 31 (num ts (1 + bot)) (of ts / ((1 + bot:Int):F.C)):=⟨ts,1 + bot,rfl,by omega,hl,hb,bb,rfl⟩;obtain ⟨z,ez,hz⟩:=Ec T h3 hR (by decide);refine ⟨z,_,fun s1=>?_,hz⟩;push_cast [d5,x8,SJ,ez]
 have c0:bD 1 [0] (bO 0) (two (ao ‹"V"› cY) ‹9› iu) (cC ‹"i"› lW) [some (.arg (.int c)),some (.arg (.int ((2 ^ rs.length:Nat):Int))),none]=.ok (.lst (tops.map .int)):=by
  have:=yE (fe:=two (ao ‹"V"› cY) ‹9› iu) (fi:=cC ‹"i"› lW) (fr:=[0]) (δ:=[some (.arg (.int c)),some (.arg (.int ((2 ^ rs.length:Nat):Int))),none]) (rest:=[some (.arg (.int c))])
   (ts:=(List.range (2 ^ rs.length)).map fun (k:Nat)=>(k:Int)) (g:=fun t=>.int (mix q t.toNat 19 - 9)) (nM (ds:=[.int ((2 ^ rs.length:Nat):Int)]) rfl (Rq _ (by omega))) rfl (by simp only [length_map,length_range]; exact Nat.le_trans e8 (by decide)) fun t ht=>by
    obtain ⟨j,hj,rfl⟩:=mem_map.mp ht;have hj':j < 2 ^ rs.length:=mem_range.mp hj;push_cast [d5,qm q j 19 (by omega) (by decide),Int.toNat_natCast]
  rw [this];simp only [tops,map_map,Function.comp_def]
 have bd0:∀(b:Bool) (t:Int),t.natAbs < 2 ^ 31->(t * (if b=true then 1 else 0)).natAbs < 2 ^ 31:=fun b t h=>by
  cases b
  ·simp only [Bool.false_eq_true,if_false,Int.mul_zero]; decide
  ·simp only [if_true,Int.mul_one]; exact h
 have mr:∀(t:Int) (b:Bool),dj (.int t) (.int (if b=true then 1 else 0))=.ok (.int (t * (if b=true then 1 else 0))):=fun t b=>wV (by cases b <;> decide)
 show ∃d v,outD (rK [some (.arg (.int c)),some (.arg (.int ((2 ^ rs.length:Nat):Int))),none])=.ok d/\_;unfold rK;rw [ap_seq,Hb 2 c0]
 by_cases h1:Int.fmod c 5=1
 ·
  have hp:(putD 2 (jR (two (two (ak 0) ‹5› aL) (ak 1) aY)) ‹"D"›) [some (.arg (.int c)),some (.arg (.int ((2 ^ rs.length:Nat):Int))),some (.own (tops.map .int))]=.nxt [some (.arg (.int c)),some (.arg (.int ((2 ^ rs.length:Nat):Int))),some (.own ((tops.set k (big - 10 ^ 9)).map .int))]:=by
   have:=SM (i:=2) (fi:=(jR (two (two (ak 0) ‹5› aL) (ak 1) aY))) (fe:=‹"D"›)
    (δ:=[some (.arg (.int c)),some (.arg (.int ((2 ^ rs.length:Nat):Int))),some (.own (tops.map .int))]) (ds:=tops.map .int) (d:=.int (big - 10 ^ 9)) (z:=(k:Int)) (j:=k) rfl (by push_cast [d5,p9,mu2,mB]) (QX (by push_cast [d5,mM])) (SN (by rw [length_map,tl]; exact k1)) (K4 _) rfl
   rw [this];unfold iD;rw [map_set];have fl:=K4 tops;simp only [map_cons,map_nil,Option.bind_some,dw,fl,st2,↓reduceIte]
  obtain ⟨d,v,ed,hd⟩:=fin (tops.set k (big - 10 ^ 9)) (by rw [length_set]; exact tl) (fun t ht=>by
   rcases mem_or_eq_of_mem_set ht with z | z
   ·exact tb t z
   ·have e:(2147483648:Nat)=2 ^ 31:=by decide
    rw [z,<- e]; omega)
  refine ⟨d,v,?_,hd⟩;have:=ed (some (.arg (.int ((2 ^ rs.length:Nat):Int))));simp only [ap_seq,ap_if,ap_bT,ap_two,sl0,sl1,sl2,st0,st1,st2,sq_nxt,bnd_ok,vw_arg,m5,h1,eqI,bool_ok,ont_ok,decide_true,↓reduceIte,hp,decide_false,Bool.false_eq_true,Int.reduceEq];exact this
 ·by_cases h2:Int.fmod c 5=2
  ·have cc:=K5 (fe:=‹"S"›) (fi:=cC ‹"o"› iQ) (fr:=[0]) (δ:=[some (.arg (.int c)),some (.arg (.int ((2 ^ rs.length:Nat):Int))),some (.own (tops.map .int))]) (rest:=[some (.arg (.int c))]) (ts:=tops) (g:=fun i t=>t * (if decide (Int.fmod (Int.fdiv q (i + 1)) 2=0)=true then 1 else 0))
    (nM (ds:=[.lst (tops.map .int)]) rfl rfl) rfl (by rw [tl]; exact Nat.le_trans e8 (by decide)) fun i hi t ht=>by
     have nz:((i:Int) + 1)≠0:=by omega
     have e16:(16:Nat)=2 ^ 4:=by decide
     have sm4:((i:Int) + 1).natAbs < 2 ^ 4:=by rw [<- e16]; omega
     have sm:((i:Int) + 1).natAbs < 2 ^ 8000:=Nat.lt_of_lt_of_le sm4 (gj (by decide));push_cast [d5,pQ nz sm,dJ (show (2:Int)≠0 by decide),K3,mr]
   obtain ⟨d,v,ed,hd⟩:=fin (tops.zipIdx.map fun p=>p.1 * (if decide (Int.fmod (Int.fdiv q (((p.2:Nat):Int) + 1)) 2=0)=true then 1 else 0)) (by rw [length_map,length_zipIdx]; exact tl) (fun t ht=>by
    obtain ⟨p,hp,rfl⟩:=mem_map.mp ht;exact bd0 _ _ (tb p.1 (K6 hp)))
   refine ⟨d,v,?_,hd⟩;have:=ed (some (.arg (.int ((2 ^ rs.length:Nat):Int))));have oc:=Hb 2 cc;simp only [ap_seq,ap_if,ap_bT,ap_two,sl0,sl1,sl2,st0,st1,st2,sq_nxt,bnd_ok,vw_arg,m5,h1,h2,eqI,bool_ok,ont_ok,decide_true,↓reduceIte,oc,decide_false,Bool.false_eq_true,Int.reduceEq];exact this
  ·by_cases h4:Int.fmod c 5=3
   ·have cc:=K5 (fe:=‹"Z"›) (fi:=cC ‹"o"› iQ) (fr:=[1,0]) (δ:=[some (.arg (.int c)),some (.arg (.int ((2 ^ rs.length:Nat):Int))),some (.own (tops.map .int))]) (rest:=[some (.arg (.int ((2 ^ rs.length:Nat):Int))),some (.arg (.int c))]) (ts:=tops) (g:=fun i t=>t * (if decide (i < (k:Int) + 1)=true then 1 else 0))
     (nM (ds:=[.lst (tops.map .int)]) rfl rfl) rfl (by rw [tl]; exact Nat.le_trans e8 (by decide)) fun i hi t ht=>by
      push_cast [d5,mM,K3,mr]
    obtain ⟨d,v,ed,hd⟩:=fin (tops.zipIdx.map fun p=>p.1 * (if decide (((p.2:Nat):Int) < (k:Int) + 1)=true then 1 else 0)) (by rw [length_map,length_zipIdx]; exact tl) (fun t ht=>by
     obtain ⟨p,hp,rfl⟩:=mem_map.mp ht;exact bd0 _ _ (tb p.1 (K6 hp)))
    refine ⟨d,v,?_,hd⟩;have:=ed (some (.arg (.int ((2 ^ rs.length:Nat):Int))));have oc:=Hb 2 cc;simp only [ap_seq,ap_if,ap_bT,ap_two,sl0,sl1,sl2,st0,st1,st2,sq_nxt,bnd_ok,vw_arg,m5,h1,h2,h4,eqI,bool_ok,ont_ok,decide_true,↓reduceIte,oc,decide_false,Bool.false_eq_true,Int.reduceEq];exact this
   ·obtain ⟨d,v,ed,hd⟩:=fin tops tl tb;refine ⟨d,v,?_,hd⟩;have:=ed (some (.arg (.int ((2 ^ rs.length:Nat):Int))));simp only [ap_seq,ap_if,ap_bT,ap_two,sl0,sl1,sl2,st0,st1,st2,sq_nxt,bnd_ok,vw_arg,m5,h1,h2,h4,eqI,bool_ok,ont_ok,decide_true,↓reduceIte,decide_false,Bool.false_eq_true,Int.reduceEq];exact this
end
end Bk
namespace Bk
open PySem PySem.Spec PyProof.Rows L2 DL Mine Lean.Grind
section
variable {F:OF} {r:F.C} {hr:0 < r} {hn:∀z:F.C,z * z≠r}
theorem Hc:em (hr:=hr) (hn:=hn) (0:F.C)=0:=rfl
theorem S6 (x y:F.C):em (hr:=hr) (hn:=hn) (x - y)=em x - em y:=Ext.eqs (r:=r) rfl (show (0:F.C)=0 - 0 by grind)
theorem S7 {x:F.C} (h:0 < x):0 < em (hr:=hr) (hn:=hn) x:=R5 h
theorem K7 {x y:F.C} (h:x < y):em (hr:=hr) (hn:=hn) x < em y:=by
 have:=S7 (hr:=hr) (hn:=hn) (x:=y - x) (by grind);rw [S6] at this; grind
noncomputable def K8 (hr:0 < r) (hn:∀z:F.C,z * z≠r):(bH F r hr hn).C:=gG hr hn 0 1
theorem S8:0 < K8 hr hn:=by
 have:=OrderedRing.zero_lt_one (R:=F.C);exact R0 (Std.le_refl _) this
theorem S9 (x:(bH F r hr hn).C):x=em (Ext.a (r:=r) x) + em (Ext.b (r:=r) x) * K8 hr hn :=
 Ext.eqs (r:=r) (show Ext.a (r:=r) x=Ext.a (r:=r) x + (Ext.b (r:=r) x * 0 + 0 * 1 * r) by grind) (show Ext.b (r:=r) x=0 + (Ext.b (r:=r) x * 1 + 0 * 0) by grind)
end
section
variable {rs:List (List Int)} {F:OF} {of:List Int->F.C} {ρ:Nat}
noncomputable def hB (ρ:Nat):Nat->Nat->Nat
 | 0,p=>p
 | k + 1,p=>hB ρ k p + hB ρ k ρ + 1
theorem ob' (T:Tow rs F of) {a b:Int} (h:a<=b):((a:Int):F.C)<=((b:Int):F.C):=by
 by_cases c:a=b
 ·rw [c]; exact Std.le_refl _
 ·have:=pX T (k:=b - a) (by omega);rw [Ring.intCast_sub] at this; grind
theorem oc' (T:Tow rs F of) {a b:Int} (h:a < b):((a:Int):F.C) < ((b:Int):F.C):=by
 have:=pX T (k:=b - a) (by omega);rw [Ring.intCast_sub] at this; grind
theorem lt_int (T:Tow rs F of) {a b:Int} (h:((a:Int):F.C) < ((b:Int):F.C)):a < b:=by
 rcases Int.lt_or_le a b with c | c
 ·exact c
 ·have:=ob' T c; grind
theorem le_int (T:Tow rs F of) {a b:Int} (h:((a:Int):F.C)<=((b:Int):F.C)):a<=b:=by
 rcases Int.lt_or_le b a with c | c
 ·have:=oc' T c; grind
 ·exact c
end
theorem hK' {c:DS->Res Bool} {b:DS->Out} {m:Nat} {δ δ':DS} (h1:c δ=.ok true) (h2:b δ=.nxt δ'):bK c b (m + 1) δ=bK c b m δ':=by
 rw [bK,h1];dsimp only;rw [h2]
theorem hL' {c:DS->Res Bool} {b:DS->Out} {m:Nat} {δ:DS} (h1:c δ=.ok false):bK c b (m + 1) δ=.nxt δ:=by
 rw [bK,h1]
theorem cs' {t:gM} {b:DS->Out} {d:D} {ds:List D} {δ δ1 δ2:DS} (h1:t d δ=some δ1) (h2:b δ1=.nxt δ2):dg t b (d :: ds) δ=dg t b ds δ2:=by
 rw [dg,h1];dsimp only;rw [h2]
theorem Hd {t:gM} {b:DS->Out} {δ:DS}:dg t b [] δ=.nxt δ:=Eq.trans rfl rfl
section
variable {rs:List (List Int)} {F:OF} {of:List Int->F.C} {ρ:Nat}
theorem kS' (T:Tow rs F of) (h3:rs.length<=3) {p q:Nat} {d e:D} {u v:F.C} (h1:Rw of rs.length p d u) (h2:Rw of rs.length q e v) (hn:p + q + 1<=200000) :
  ∃z,jo [d,e]=.ok z/\Rw of rs.length (p + q + 1) z (u - v):=by
 obtain ⟨y,c,rfl,pc,ly,b_y,bc,ey⟩:=h2;have e8:=mV h3;have s1:=wD (-1) y (by omega) (Nat.lt_of_lt_of_le (show Int.natAbs (-1) < 2 ^ 1 by decide) (gj (by decide))) (b_y.mono (by omega));rw [J9] at s1;have hneg:Rw of rs.length q (num (y.map fun t=>-t) c) (-v):=⟨_,_,rfl,pc,by simpa using ly,dK' b_y,bc,by
  rw [yF T ly,ey];have c0:=fO T (show c≠0 by omega)
  grind⟩
 obtain ⟨z,ez,hz⟩:=KY T h3 h1 hneg hn;refine ⟨z,?_,by rwa [show u + -v=u - v by grind] at hz⟩;show outD (q_ [some (.arg d),some (.arg (num y c))])=_;unfold q_;push_cast [s1,ez]
end
section
variable {rs:List (List Int)} {F:OF} {of:List Int->F.C} {ρ:Nat}
theorem ps' {a:F.C} (h:0 < a):a≠0:=by grind
end
end Bk
namespace K17
open PySem PySem.Spec PyProof.Rows L2 DL Bk Mine
noncomputable def top (i:Nat):Stmt:=PySem.Challenge.pw_compasshall_k17_papers_looked_at.main.body.getD i (.Pass ⟨0,0,0,0⟩)
abbrev rO:Stmt:=top 5
abbrev rP:Stmt:=top 7
abbrev rQ:Stmt:=top 8
abbrev rR:Stmt:=top 15
abbrev rT:Stmt:=top 19
abbrev rW:Stmt:=top 20
abbrev rY:Stmt:=top 21
abbrev rZ:Stmt:=top 22
abbrev sr:Stmt:=top 23
abbrev sy:Stmt:=top 34
abbrev sE:Stmt:=top 44
abbrev sG:Stmt:=top 53
abbrev sH:Stmt:=top 54
abbrev sI:Stmt:=top 55
abbrev sJ:Stmt:=top 58
abbrev pD:Stmt:=top 59
abbrev sO:Stmt:=top 65
abbrev sS:Stmt:=top 6
abbrev lD:Stmt:=top 10
abbrev sU:Stmt:=top 13
abbrev sV:Stmt:=top 17
abbrev nZ:Stmt:=top 26
abbrev sW:Stmt:=top 49
abbrev sX:Stmt:=top 56
abbrev sY:Stmt:=top 62
abbrev sZ:Stmt:=top 64
abbrev tu:Stmt:=top 66
abbrev pF:Stmt:=top 67
abbrev tD:Stmt:=top 69
abbrev tE:Stmt:=top 71
abbrev tG:Stmt:=top 72
abbrev lE:Stmt:=top 11
abbrev n6:Stmt:=top 16
abbrev tH:Stmt:=top 18
abbrev tK:Stmt:=top 38
abbrev tL:Stmt:=top 43
abbrev tM:Stmt:=top 57
abbrev tO:Stmt:=top 63
abbrev j5:Stmt:=top 68
abbrev n8:Stmt:=top 12
abbrev tQ:Stmt:=top 46
abbrev mX:Stmt:=top 24
abbrev tR:Stmt:=top 42
abbrev mY:Stmt:=top 60
abbrev n_:Stmt:=top 14
abbrev tU:Stmt:=top 28
abbrev tV:Stmt:=top 61
abbrev j6:Stmt:=top 73
abbrev oh:Stmt:=top 27
abbrev tW:Stmt:=top 41
abbrev tX:Stmt:=top 51
abbrev tY:Stmt:=top 74
abbrev mZ:Stmt:=top 33
abbrev m6:Stmt:=top 70
abbrev m8:Stmt:=top 30
abbrev ou:Stmt:=top 32
abbrev oA:Stmt:=top 29
abbrev oE:Stmt:=top 35
abbrev jt:Stmt:=top 48
abbrev tZ:Stmt:=top 50
abbrev ju:Stmt:=top 37
abbrev t7:Stmt:=top 39
abbrev t8:Stmt:=top 40
abbrev jw:Stmt:=top 45
abbrev t_:Stmt:=top 47
abbrev vH:Stmt:=top 75
theorem zY:FnScope ["thing"] ["thing"] (az rO):=‹"0"›
theorem sc_qY:FnScope ["a", "b", "one", "other", "rest"] ["a", "b"] (az rP):=‹"0"›
theorem sc_qt:FnScope ["n", "guess"] ["n"] (az rQ):=‹"0"›
theorem zZ:FnScope ["x", "many"] ["x", "many"] (az rR):=‹"0"›
theorem z9:FnScope ["tops"] ["tops"] (az rT):=‹"0"›
theorem z_:FnScope ["tops"] ["tops"] (az rW):=‹"0"›
theorem Aa:FnScope ["tops"] ["tops"] (az rY):=‹"0"›
theorem Ab:FnScope ["one", "other"] ["one", "other"] (az rZ):=‹"0"›
theorem Ac:FnScope ["tops"] ["tops"] (az sr):=‹"0"›
theorem Ad:FnScope ["n"] ["n"] (az sy):=‹"0"›
theorem Ae:FnScope ["b"] ["b"] (az sE):=‹"0"›
theorem Af:FnScope ["_law_script", "_law_k"] ["_law_script", "_law_k"] (az sG):=‹"0"›
theorem Ag:FnScope ["_law_found"] ["_law_found"] (az sH):=‹"0"›
theorem sc_qF:FnScope ["_law_cell_here", "_law_k", "_law_many", "_law_some"] ["_law_cell_here", "_law_k", "_law_many"] (az sI):=‹"0"›
theorem Ah:FnScope ["_law_one", "_law_other"] ["_law_one", "_law_other"] (az sJ):=‹"0"›
theorem Ai:FnScope ["_law_k", "_law_one"] ["_law_k", "_law_one"] (az pD):=‹"0"›
theorem sc_qx:FnScope ["_law_one", "_law_other", "_law_rest"] ["_law_one", "_law_other"] (az sO):=‹"0"›
theorem Aj:FnScope ["thing", "many"] ["thing", "many"] (az sS):=‹"0"›
theorem sc_qg1:FnScope ["tops", "bottom", "shared", "top"] ["tops", "bottom"] (az lD):=‹"0"›
theorem Ak:FnScope ["x"] ["x"] (az sU):=‹"0"›
theorem Al:FnScope ["x"] ["x"] (az sV):=‹"0"›
theorem xr:FnScope ["x"] ["x"] (az nZ):=‹"0"›
theorem sc_qb:FnScope ["x", "thing", "w"] ["x", "thing"] (az sW):=‹"0"›
theorem sc_qj:FnScope ["_law_cell_here", "_law_many", "_law_r", "_law_m", "_law_b", "_law_k", "_law_roots", "_law_primes", "_law_at"] ["_law_cell_here", "_law_many"] (az sX):=‹"0"›
theorem Am:FnScope ["_law_one", "_law_other"] ["_law_one", "_law_other"] (az sY):=‹"0"›
theorem An:FnScope ["_law_one", "_law_other"] ["_law_one", "_law_other"] (az sZ):=‹"0"›
theorem sc_qg:FnScope ["_law_found", "_law_many", "_law_shared", "_law_top"] ["_law_found", "_law_many"] (az tu):=‹"0"›
theorem sc_qz:FnScope ["_law_one", "_law_shared", "_law_top"] ["_law_one"] (az pF):=‹"0"›
theorem sc_qa:FnScope ["_law_one", "_law_thing", "_law_whole_here"] ["_law_one", "_law_thing"] (az tD):=‹"0"›
theorem sc_qk:FnScope ["_law_told", "_law_n"] ["_law_told"] (az tE):=‹"0"›
theorem sc_qU:FnScope ["_law_told", "_law_cell_here", "_law_some", "_law_n", "_law_other"] ["_law_told", "_law_cell_here"] (az tG):=‹"0"›
theorem sc_qh1:FnScope ["x", "y", "tops"] ["x", "y"] (az lE):=‹"0"›
theorem xu:FnScope ["x"] ["x"] (az n6):=‹"0"›
theorem Ao:FnScope ["thing", "many"] ["thing", "many"] (az tH):=‹"0"›
theorem sc_qd:FnScope ["x", "product", "whole"] ["x"] (az tK):=‹"0"›
theorem Aq:FnScope ["x"] ["x"] (az tL):=‹"0"›
theorem sc_qP:FnScope ["_law_cell_here", "_law_many", "_law_roots", "_law_primes", "_law_at", "_law_k"] ["_law_cell_here", "_law_many"] (az tM):=‹"0"›
theorem Ar:FnScope ["_law_one", "_law_other"] ["_law_one", "_law_other"] (az tO):=‹"0"›
theorem sc_qr:FnScope ["_law_cell_here", "_law_many", "_law_tops"] ["_law_cell_here", "_law_many"] (az j5):=‹"0"›
theorem xx:FnScope ["x", "y"] ["x", "y"] (az n8):=‹"0"›
theorem Av:FnScope ["x"] ["x"] (az tQ):=‹"0"›
theorem sc_qA:FnScope ["roots", "one", "other", "beneath", "a", "b", "c", "d", "squared", "front", "behind"] ["roots", "one", "other"] (az mX):=‹"0"›
theorem Aw:FnScope ["a", "n"] ["a", "n"] (az tR):=‹"0"›
theorem sc_qe:FnScope ["_law_roots", "_law_one", "_law_other", "_law_half", "_law_below", "_law_both", "_law_left", "_law_cross"] ["_law_roots", "_law_one", "_law_other"] (az mY):=‹"0"›
theorem xF:FnScope ["roots", "x", "y"] ["roots", "x", "y"] (az n_):=‹"0"›
theorem sc_qK:FnScope ["roots", "tops", "beneath", "a", "b", "squared"] ["roots", "tops"] (az tU):=‹"0"›
theorem Ax:FnScope ["_law_roots", "_law_one", "_law_other"] ["_law_roots", "_law_one", "_law_other"] (az tV):=‹"0"›
theorem sc_qB:FnScope ["_law_told", "_law_cell_here", "_law_places", "_law_at"] ["_law_told", "_law_cell_here"] (az j6):=‹"0"›
theorem xG:FnScope ["roots", "x"] ["roots", "x"] (az oh):=‹"0"›
theorem Ay:FnScope ["roots", "a"] ["roots", "a"] (az tW):=‹"0"›
theorem Az:FnScope ["roots", "square", "thing"] ["roots", "square", "thing"] (az tX):=‹"0"›
theorem sc_qM:FnScope ["_law_script", "_law_roots", "_law_many", "_law_cell_here", "_law_k", "_law_part", "_law_one"] ["_law_script", "_law_roots", "_law_many"] (az tY):=‹"0"›
theorem sc_ql:FnScope ["roots", "tops", "beneath", "front", "behind"] ["roots", "tops"] (az mZ):=‹"0"›
theorem sc_qC:FnScope ["_law_roots", "_law_one", "_law_thing", "_law_half", "_law_below", "_law_here", "_law_there", "_law_beneath", "_law_square", "_law_more", "_law_less_here"] ["_law_roots", "_law_one", "_law_thing"] (az m6):=‹"0"›
theorem sc_qR:FnScope ["roots", "y", "beneath"] ["roots", "y"] (az m8):=‹"0"›
theorem xH:FnScope ["roots", "x"] ["roots", "x"] (az ou):=‹"0"›
theorem xJ:FnScope ["roots", "x", "y"] ["roots", "x", "y"] (az oA):=‹"0"›
theorem xK:FnScope ["roots", "x"] ["roots", "x"] (az oE):=‹"0"›
theorem sc_qe1:FnScope ["roots", "x", "thing", "parts", "product"] ["roots", "x", "thing"] (az jt):=‹"0"›
theorem A_:FnScope ["roots", "numbers", "things"] ["roots", "numbers", "things"] (az tZ):=‹"0"›
theorem sc_qm1:FnScope ["roots", "x", "parts"] ["roots", "x"] (az ju):=‹"0"›
theorem sc_qh:FnScope ["roots", "a", "beneath", "numbers", "told"] ["roots", "a"] (az t7):=‹"0"›
theorem sc_qn:FnScope ["roots", "a", "b", "product", "beneath", "n", "middle", "u", "behind"] ["roots", "a", "b", "product"] (az t8):=‹"0"›
theorem sc_qf1:FnScope ["roots", "x", "parts", "product", "n"] ["roots", "x"] (az jw):=‹"0"›
theorem sc_qo:FnScope ["roots", "ahead", "numbers", "one", "other"] ["roots", "ahead", "numbers"] (az t_):=‹"0"›
theorem sc_law:FnScope ["_law_script", "_law_roots", "_law_below", "_law_one", "_law_told", "_law_cell_here", "_law_thing", "_law_got"] ["_law_script"] (az vH):=‹"0"›
noncomputable def xM:DS->Out :=
 (aH (gw (ao (ak 0) (bU Bk.is_int)) (u9 (ao (ak 0) (bU Bk.is_bool)))))
noncomputable def jM:List D->Res D:=aW 1 1 xM
noncomputable def uc:DS->Out :=
 (aH (aQ (aj (two (two (aQ (aj ‹0› ‹""›)) (ao ‹"R"› a_) bR) ‹"f"› aN) ‹"T"›)))
noncomputable def m9:List D->Res D:=aW 1 1 uc
noncomputable def oF:DS->Out :=
 (aH (gw (ao (ak 0) (bU Bk.is_tuple)) (gw (two ‹"e"› (ak 1) cH) (ao (aj (bD 1 [] (bO 0) (ao (aj (ak 0) ‹""›) jM) (bindL (ak 0) aZ)) ‹""›) lY))))
noncomputable def ud:List D->Res D:=aW 2 2 oF
noncomputable def fX:DS->Out :=
 (aB (bG (aF (two ‹"v"› (fun _=>.ok (.str "below")) cH) aG) (aH (gw (two (ao ‹"i"› a_) ‹1› cH) (two (two ‹"f"› ‹0› aR) ‹0› ‹"w"›))) Out.nxt) (aB (bG (gU (aF (two ‹"v"› ‹"r"› fQ) aG) (aF (two (ao ‹"i"› a_) ‹2› fQ) aG)) (aH (fun _=>.ok (.bl false))) Out.nxt) (aB (aD 2 ‹"x"›) (aB (bG (gU (dI (aF (ao ‹"o"› jM) aV)) (aF (two (ak 2) ‹0› ‹"w"›) aG)) (aH (fun _=>.ok (.bl false))) Out.nxt) (aH (fV (two (ak 2) (ak 2) bR) ‹"ac"› (two (two (ak 2) ‹1› aN) (two (ak 2) ‹1› aN) bR) ‹"w"› ‹"w"›))))))
noncomputable def g_:List D->Res D:=aW 2 3 fX
noncomputable def gK:DS->Out :=
 (aB (aD 2 ‹"ac"›) (aB (bG (aF (two (ao ‹"i"› a_) ‹1› cH) aG) (aH (gw (two ‹"v"› (fun _=>.ok (.str "below")) cH) (two (ak 2) ‹0› ‹"w"›))) Out.nxt) (aB (bG (gU (aF (two (ao ‹"i"› a_) ‹2› fQ) aG) (gU (aF (two ‹"v"› ‹"r"› fQ) aG) (gU (dI (aF (ao (aj ‹"x"› ‹""›) jJ) aV)) (aF (two ‹"x"› ‹0› ‹"w"›) aG)))) (aH (fun _=>.ok (.bl false))) Out.nxt) (aH (fV (two ‹"x"› ‹"x"› bR) (ak 2) (two (two ‹"x"› ‹1› aN) (two ‹"x"› ‹1› aN) bR) ‹"w"› ‹"w"›)))))
noncomputable def jx:List D->Res D:=aW 2 3 gK
noncomputable def ue:DS->Out :=
 (aB (aD 1 ‹"h"›) (aH (aQ (aj (fun _=>.ok (.str "halves")) (aj (aQ (aj (ao (aj (fH ‹1›) ‹"U"›) gJ) (aj ‹"x"› ‹""›))) (aj (two (ak 0) ‹3› aR) (aj (two (ak 0) ‹2› aR) ‹""›)))))))
noncomputable def uf:List D->Res D:=aW 1 2 ue
noncomputable def ug:DS->Out :=
 (aB (aD 2 (fU (aj (fun _=>.ok .non) (aj (aQ ‹""›) (aj ‹"C"› (aj ‹"H"› (aj (aQ (aj ‹"r"› (aj (fun _=>.ok (.bl true)) ‹""›))) ‹"c"›))))))) (aB (aD 2 (two (ak 2) ‹"a"› aN)) (aB (bG ‹"Q"› ‹"b"› Out.nxt) (aB (bG ‹"k"› (aB (aD 3 ‹"h"›) (aB (aD 4 (fU (aj ‹"p"› (aj (aQ (aj (ao (aj ‹2› ‹"g"›) gJ) ‹"E"›)) (aj ‹"L"› (aj (aQ (aj (ao ‹"ag"› gJ) ‹"s"›)) ‹""›)))))) ‹"d"›)) Out.nxt) (aB (bG ‹"l"› ‹"n"› Out.nxt) ‹"y"›)))))
noncomputable def oG:List D->Res D:=aW 2 5 ug
noncomputable def jy:DS->Out :=
 (aB (bG (gU (dI (aF (ao (ak 0) (bU Bk.is_tuple)) aV)) (aF (two ‹"e"› ‹2› fQ) aG)) (aH (fun _=>.ok (.bl false))) Out.nxt) (aB (bG (gU (dI (aF (ao (aj ‹"f"› (aj (two ‹1› (ak 1) iZ) ‹""›)) ud) aV)) (gU (dI (aF (ao ‹"T"› jM) aV)) (aF (two ‹"h"› ‹1› ‹"w"›) aG))) (aH (fun _=>.ok (.bl false))) Out.nxt) (aH (two (ao (aj ‹"f"› ‹"T"›) di) (ak 0) cH))))
noncomputable def oH:List D->Res D:=aW 2 2 jy
noncomputable def oJ:DS->Out :=
 (aB (aD 1 ‹"ac"›) (aB (bG (aF (two (ak 1) ‹0› ‹"w"›) aG) ‹"ap"› Out.nxt) (aB (aD 2 (ao ‹"i"› rJ)) (aB (bG (aF (two (two (ak 2) (ak 2) bR) (ak 1) fQ) aG) ‹"ap"› Out.nxt) (aH (ao (aj (aQ ‹"o"›) ‹"T"›) di))))))
noncomputable def m_:List D->Res D:=aW 1 3 oJ
noncomputable def uh:DS->Out :=
 (aH (ao (aj ‹"f"› (aj (two ‹2› ‹"h"› bR) ‹""›)) di))
noncomputable def um:List D->Res D:=aW 1 1 uh
noncomputable def oK:DS->Out :=
 (aB (aD 2 (ao (aj (ak 0) (aj ‹3› ‹""›)) mF)) (aB (bG (aF (two (two ‹"ab"› ‹1› aR) ‹0› cH) aG) (aB (aD 3 ‹"am"›) (aB (aD 4 (o9 "list" pP (ak 3) (aj (two (two (ak 2) ‹2› aR) ‹0› aR) ‹""›))) (aD 2 (two (ak 2) (aQ (aj (aQ (aj (two (ak 3) (two (two (ak 4) ‹1› aN) ‹6› aY) aR) (aj ‹0› (aj ‹0› (aj ‹0› (aj ‹0› ‹"as"›)))))) ‹""›)) aN)))) (aB (aD 5 (two ‹1› (ao (aj (ak 0) (aj ‹8› (aj ‹3› ‹""›))) cY) aN)) (aD 2 (two (ak 2) (aQ (aj (aQ (aj (ao (aj (ak 0) (aj ‹9› (aj (ak 5) ‹""›))) cY) (aj ‹0› (aj ‹0› (aj ‹0› (aj (ak 5) ‹"as"›)))))) ‹""›)) aN)))) (aH (bz (ak 2) bC (bJ (ak 1))))))
noncomputable def oM:List D->Res D:=aW 2 6 oK
noncomputable def lF:DS->Out :=
 (aB (bG (aF (two (two ‹"f"› ‹0› aR) ‹0› ‹"w"›) aG) (aH ‹"C"›) Out.nxt) (aB (bG (aF (two (ao (aj (ak 0) ‹""›) m_) (fun _=>.ok .non) cO) aG) ‹"ap"› Out.nxt) (aH (aQ (aj ‹"r"› (aj (ao (aj ‹"ac"› ‹""›) rJ) ‹""›))))))
noncomputable def qe:List D->Res D:=aW 1 1 lF
noncomputable def uo:DS->Out :=
 (aH (fU (aj (ao (aj (ao ‹"K"› fW) ‹""›) um) (aj (ao (aj (ao ‹"K"› ph) ‹""›) um) ‹""›))))
noncomputable def lG:List D->Res D:=aW 2 2 uo
noncomputable def jN (R:List D->Res D):DS->Out :=
 (aB (aD 2 (cR 1 [0] (bO 0) (jh (aF (ao ‹"m"› (bU Bk.is_tuple)) aV) (aF (ao ‹"G"› (bU Bk.is_str)) aV)) (ak 0) ‹"u"›)) (aB (bG ‹"P"› (aB (aD 3 (two (ak 2) (two (two (ak 1) ‹3› aL) ‹"ah"› aY) aR)) (aH (two (two (bz (ak 0) bC (bJ (ak 3))) (aQ (aj (ao (aj (two (ak 0) (ak 3) aR) (aj (two (ak 1) ‹9› aL) ‹""›)) R) ‹""›)) aN) (bz (ak 0) (bJ (two (ak 3) ‹1› aN)) bC) aN))) Out.nxt) (aB (bG (jh (aF (two ‹"f"› (fun _=>.ok (.str "halves")) cH) aG) (aF (two (two (two (ak 1) ‹3› aL) ‹4› aY) ‹0› cH) aG)) (aH (ao (aj (ak 0) ‹""›) uf)) Out.nxt) (aH (ao (aj (ak 0) (aj (two (ak 1) ‹12› aL) ‹""›)) oG)))))
noncomputable def dR:Nat->List D->Res D
 | 0=>fun _=>.stuck
 | n + 1=>aW 2 4 (jN (dR n))
def ni:List D->Res D:=dR 4
noncomputable def uq:DS->Out :=
 (aH (fU (aj (ak 1) (aj (ao (aj ‹"j"› (aj (ak 1) (aj ‹"aa"› ‹""›))) g8) ‹""›))))
noncomputable def jz:List D->Res D:=aW 2 2 uq
noncomputable def oN:DS->Out :=
 (aH (gw (ao (aj (ak 2) (aj ‹"e"› ‹""›)) oH) (two (ao (aj (ak 0) (aj (ak 2) ‹"o"›)) g8) (ak 1) cH)))
noncomputable def oO:List D->Res D:=aW 3 3 oN
noncomputable def oR:DS->Out :=
 (aB (aD 3 ‹0›) (aB ‹"ak"› (aB (aD 6 (ao (aj (ak 3) ‹"o"›) rM)) (aB (bG (aF (two (two (two (ao ‹"ar"› gH) ‹4› aL) ‹3› aY) ‹0› cH) aG) (aH (ak 6)) Out.nxt) (aB (bG (dI (aF (ao ‹"an"› nJ) aV)) ‹"I"› Out.nxt) (aH (ao (aj (ao (aj ‹"ad"› (aj (ao (aj ‹"ad"› (aj (ak 6) (aj (ak 6) ‹""›))) cZ) (aj (aQ (aj (two (ak 1) (fH ‹1›) aR) (aj ‹1› ‹""›))) ‹""›))) cZ) ‹""›) eY)))))))
noncomputable def oU:List D->Res D:=aW 3 7 oR
noncomputable def cg (R:List D->Res D):DS->Out :=
 (aB (aD 1 (ao ‹"i"› eY)) (aB (bG (gU (dI (aF (ao (ak 2) (bU Bk.is_tuple)) aV)) (gU (aF (two ‹"ah"› ‹0› cH) aG) (dI (aF (ao ‹"B"› (bU Bk.is_str)) aV)))) (aH (fun _=>.ok (.bl false))) Out.nxt) (aB (bG ‹"M"› (aH (ao (aj (ak 1) ‹"o"›) jx)) Out.nxt) (aB (aD 3 (two (ao ‹"U"› a_) ‹2› aL)) (aB (aD 4 ‹"j"›) (aB (aD 5 (aQ (aj (bz ‹"v"› bC (bJ (ak 3))) (aj ‹"x"› ‹""›)))) (aB (aD 6 (aQ (aj (bz ‹"v"› (bJ (ak 3)) bC) (aj ‹"x"› ‹""›)))) (aB (aD 7 ‹"aa"›) (aB (bG (jh (aF (two (ao ‹"an"› iG) ‹0› cH) aG) (aF (two (ao ‹"an"› iH) ‹0› cH) aG)) (aB (bG (gU (aF (two ‹"ah"› ‹3› fQ) aG) (gU (aF (two ‹"B"› (fun _=>.ok (.str "both")) fQ) aG) (dI (aF (ao (aj (ak 4) (aj (ak 5) ‹"t"›)) R) aV)))) (aH (fun _=>.ok (.bl false))) Out.nxt) (aH (ao (aj (ak 4) (aj (ao (aj (ak 4) (aj (ak 5) ‹"ae"›)) cZ) (aj (two (ak 2) ‹2› aR) ‹""›))) R))) Out.nxt) (aB (aD 8 (ao (aj (ak 4) (aj (ao (aj (ak 4) (aj (ak 6) (aj (ak 6) ‹""›))) cZ) ‹"ae"›)) cZ)) (aB (aD 8 (ao (aj (ao (aj (ak 4) (aj (ak 5) (aj (ak 5) ‹""›))) cZ) ‹"aq"›) jo)) (aB (bG (aF (two ‹"ah"› ‹2› cH) aG) (aH (gw (two ‹"B"› (fun _=>.ok (.str "norm")) cH) (ao (aj (ak 4) (aj (ak 8) ‹"t"›)) R))) Out.nxt) (aB (bG (gU (aF (two ‹"ah"› ‹4› fQ) aG) (gU (aF (two ‹"B"› (fun _=>.ok (.str "halves")) fQ) aG) (dI (aF (ao (aj ‹"ab"› ‹"A"›) mj) aV)))) (aH (fun _=>.ok (.bl false))) Out.nxt) (aB (bG (dI (aF (ao (aj (ao (aj (ak 4) (aj ‹"ab"› ‹"t"›)) cZ) ‹"aq"›) p_) aV)) (aH (fun _=>.ok (.bl false))) Out.nxt) (aB (aD 9 (ao (aj (ak 5) ‹"t"›) p7)) (aB (aD 10 (ao (aj (ak 5) ‹"t"›) jo)) (aB (bG (dI (aF (ao (aj (ak 4) (aj (aQ (aj (two (ak 9) ‹0› aR) (aj (two ‹2› (two (ak 9) ‹1› aR) bR) ‹""›))) (aj (two (ak 2) ‹2› aR) ‹""›))) R) aV)) (aH (fun _=>.ok (.bl false))) Out.nxt) (aH (ao (aj (ak 4) (aj (aQ (aj (two (ak 10) ‹0› aR) (aj (two ‹2› (two (ak 10) ‹1› aR) bR) ‹""›))) (aj (two (ak 2) ‹3› aR) ‹""›))) R)))))))))))))))))))
noncomputable def bY:Nat->List D->Res D
 | 0=>fun _=>.stuck
 | n + 1=>aW 3 11 (cg (bY n))
def oV:List D->Res D:=bY 4
noncomputable def gk (R:List D->Res D):DS->Out :=
 (aB (bG (aF (two ‹"ah"› ‹2› fQ) aG) (aH (fun _=>.ok (.bl false))) Out.nxt) (aH (gw (ao ‹"al"› R) (ao (aj (ak 0) (aj ‹"x"› ‹"t"›)) R))))
noncomputable def bA (R:List D->Res D):DS->Out :=
 (aB (bG (gU (dI (aF (ao (ak 2) (bU Bk.is_tuple)) aV)) (gU (aF (two ‹"ah"› ‹0› cH) aG) (dI (aF (ao ‹"B"› (bU Bk.is_str)) aV)))) (aH (fun _=>.ok (.bl false))) Out.nxt) (aB (bG ‹"M"› (aH (ao (aj (ak 1) ‹"o"›) g_)) Out.nxt) (aB (aD 3 (ao ‹"i"› cX)) (aB (bG (aF (ao ‹"s"› d7) aV) (aH (gw (two ‹"B"› (fun _=>.ok (.str "both")) cH) (ao (aj ‹"j"› (aj (ao (aj (ak 0) ‹"g"›) jz) (aj (bz (ak 2) (bJ ‹1›) bC) ‹""›))) (aW 3 3 (gk R))))) Out.nxt) (aB (aD 4 (ao ‹"K"› dD)) (aB (bG (aF (two ‹"B"› (fun _=>.ok (.str "norm")) cH) aG) (aH (gw (two ‹"ah"› ‹2› cH) (ao (aj ‹"j"› (aj (ak 4) ‹"t"›)) R))) Out.nxt) (aB (bG (gU (aF (two ‹"B"› (fun _=>.ok (.str "halves")) fQ) aG) (gU (aF (two ‹"ah"› ‹4› fQ) aG) (dI (aF (ao (aj ‹"j"› (aj (ak 4) ‹"t"›)) oO) aV)))) (aH (fun _=>.ok (.bl false))) Out.nxt) (aH (ao (aj ‹"j"› (aj (ao (aj (two (ak 3) ‹0› aR) ‹"t"›) lG) (aj (bz (ak 2) (bJ ‹2›) bC) ‹""›))) (aW 3 3 (gk R)))))))))))
noncomputable def bI:Nat->List D->Res D
 | 0=>fun _=>.stuck
 | n + 1=>aW 3 5 (bA (bI n))
def gr:List D->Res D:=bI 4
noncomputable def fY (R:List D->Res D):DS->Out :=
 (aB (aD 2 ‹"j"›) (aB (aD 3 (ao ‹"K"› jz)) (aB (aD 4 (ao (aj (ak 2) ‹"g"›) R)) (aB (bG (aF (two (ak 4) (fun _=>.ok .non) cO) aG) (aH (ao (aj (ak 4) (aj ‹"e"› ‹""›)) kZ)) Out.nxt) (aB (aD 4 (ao (aj (ak 2) ‹"s"›) R)) (aB (bG ‹"N"› ‹"ap"› Out.nxt) (aH (ao (aj (ao (aj (ak 2) (aj (ak 4) (aj ‹"aa"› ‹""›))) iU) ‹""›) m9))))))))
noncomputable def h_ (R:List D->Res D):DS->Out :=
 (aB (aD 4 ‹"j"›) (aB (aD 5 (ao (aj (ak 4) ‹"A"›) R)) (aB (bG (aF (two (ak 5) (fun _=>.ok .non) bQ) aG) ‹"ap"› Out.nxt) (aB (kJ (bO 6) (bindL (ao (aj (ak 1) (aj (ak 5) ‹""›)) lG) aZ) (aB (aD 7 (ao ‹"Y"› R)) (bG ‹"W"› (aB (aD 8 (ao (aj (ao (aj (ak 4) (aj (ak 2) (aj (ao (aj (ak 7) ‹"ae"›) fW) ‹""›))) iU) ‹""›) m9)) (aH (ao (aj (ak 0) (aj (ao (aj (ao ‹"ao"› kZ) ‹"aq"›) fW) ‹""›)) jq))) Out.nxt))) ‹"ap"›))))
noncomputable def eG (R:List D->Res D):DS->Out :=
 (aB (bG ‹"M"› (aH (ao ‹"i"› m_)) Out.nxt) (aB (aD 2 (ao ‹"i"› cX)) (aB (bG (aF (ao ‹"t"› d7) aV) (aH (ao (aj (ak 0) (aj ‹"B"› ‹""›)) (aW 2 5 (fY R)))) Out.nxt) (aH (ao (aj (ak 0) (aj ‹"B"› (aj ‹"ab"› (aj (ao ‹"K"› dD) ‹""›)))) (aW 4 9 (h_ R)))))))
noncomputable def dz:Nat->List D->Res D
 | 0=>fun _=>.stuck
 | n + 1=>aW 2 3 (eG (dz n))
def iW:List D->Res D:=dz 4
noncomputable def eZ (R:List D->Res D):DS->Out :=
 (aB (aD 3 (ao (aj (ak 0) (aj ‹"B"› ‹""›)) R)) (aB (bG (aF (two (ak 3) (fun _=>.ok .non) bQ) aG) ‹"ap"› Out.nxt) (aB (aD 4 (ao (aj (ak 0) ‹"t"›) R)) (aB (bG ‹"N"› ‹"ap"› Out.nxt) (aH (two (ak 1) (aQ (aj (ak 3) (aj (ak 4) ‹""›))) aN))))))
noncomputable def dF (R:List D->Res D):DS->Out :=
 (aB (bG ‹"M"› (aH (ao ‹"i"› qe)) Out.nxt) (aB (aD 2 (ao ‹"i"› cX)) (aB (bG (aF (ao ‹"t"› d7) aV) (aH (ao (aj ‹"j"› (aj (aQ (aj (fun _=>.ok (.str "both")) ‹""›)) (aj (ao (aj (ak 0) (aj ‹"B"› ‹""›)) jz) ‹""›))) (aW 3 5 (eZ R)))) Out.nxt) (aB (aD 3 (ao ‹"K"› dD)) (aB (aD 4 (ao (aj ‹"j"› ‹"A"›) iW)) (aB (bG ‹"N"› (aH (aQ (aj (fun _=>.ok (.str "norm")) (aj (ao (aj ‹"j"› ‹"A"›) R) ‹""›)))) Out.nxt) (aH (ao (aj ‹"j"› (aj (aQ (aj (fun _=>.ok (.str "halves")) (aj (ak 4) ‹""›))) (aj (ao (aj ‹"B"› (aj (ak 4) ‹""›)) lG) ‹""›))) (aW 3 5 (eZ R))))))))))
noncomputable def fZ:Nat->List D->Res D
 | 0=>fun _=>.stuck
 | n + 1=>aW 2 5 (dF (fZ n))
def j7:List D->Res D:=fZ 4
noncomputable def nj:DS->Out :=
 (aB (aD 1 (ao (aj (ao (aj (ak 0) (aj ‹0› ‹""›)) gH) (aj (two ‹1› (two (ao ‹"ar"› gH) ‹4› aY) aN) ‹""›)) oM)) (aB (aD 2 ‹"ad"›) (aB (aD 3 (ao ‹"ai"› oU)) (aB (aD 4 (ao ‹"X"› j7)) (aB (bG ‹"N"› ‹"aj"› Out.nxt) (aB (kJ (bO 5) (bindL (two (fU (aj ‹0› ‹""›)) (bz (ak 0) (bJ ‹10›) (bJ ‹26›)) aN) aZ) (aB (aD 6 (ak 4)) (aB (bG ‹"z"› (aD 6 (ao ‹"J"› ni)) Out.nxt) (aB (aD 7 (ao ‹"q"› gr)) (bG (gU (dI (aF (ao (ak 7) (bU Bk.is_bool)) aV)) (aF (two (ak 7) (ao ‹"q"› oV) fQ) aG)) (aH (fun _=>.ok (.bl false))) Out.nxt))))) (aH (fun _=>.ok (.bl true)))))))))
noncomputable def iY:List D->Res D:=aW 1 8 nj
structure Adr where
 c_HallError:Addr
 c_Below:Addr
 c_NoOver:Addr
structure Txt (K:Frag) (mg:Str->Option Value) (a:Adr):Prop where
 m_HallError:mg "HallError" = some (.ref a.c_HallError)
 m_Below:mg "Below" = some (.ref a.c_Below)
 n_Below:nsIn K mainGlobals "Below" = some (some (.ref a.c_Below))
 x_Below:excIn K a.c_Below [.type "ValueError",.type "Exception",.type "BaseException",.type "object"] "ValueError.__new__" = true
 m_NoOver:mg "NoOver" = some (.ref a.c_NoOver)
 n_NoOver:nsIn K mainGlobals "NoOver" = some (some (.ref a.c_NoOver))
 x_NoOver:excIn K a.c_NoOver [.type "ValueError",.type "Exception",.type "BaseException",.type "object"] "ValueError.__new__" = true
 i_int:∀d b,Bk.is_int d=some b->pN K (.type "int") b d
 i_bool:∀d b,Bk.is_bool d=some b->pN K (.type "bool") b d
 i_tuple:∀d b,Bk.is_tuple d=some b->pN K (.type "tuple") b d
 i_str:∀d b,Bk.is_str d=some b->pN K (.type "str") b d
 z_abs:mg "abs" = none
 z_all:mg "all" = none
 z_any:mg "any" = none
 z_bool:mg "bool" = none
 z_enumerate:mg "enumerate" = none
 z_int:mg "int" = none
 z_isinstance:mg "isinstance" = none
 z_len:mg "len" = none
 z_list:mg "list" = none
 z_max:mg "max" = none
 z_min:mg "min" = none
 z_range:mg "range" = none
 z_str:mg "str" = none
 z_tuple:mg "tuple" = none
 z_zip:mg "zip" = none
section
variable {P:Program} {w:World} {K:Frag} {mg:Str->Option Value} {base:Heap} {a:Adr}
variable (G_qN:aM P w K mg base 1 "is_whole" jM) (G_qY:aM P w K mg base 1 "common" qK) (G_qi:aM P w K mg base 1 "against_tops" pZ) (G_qp:aM P w K mg base 1 "are_noughts" vq) (G_qu:aM P w K mg base 1 "front_tops" k_) (G_qq:aM P w K mg base 1 "behind_tops" lg) (G_qF:aM P w K mg base 1 "_law_mixed" cY) (G_qG:aM P w K mg base 1 "_law_added" p6) (G_qw:aM P w K mg base 1 "_law_scaled" gJ) (G_qx:aM P w K mg base 1 "_law_common" jK) (G_qE:aM P w K mg base 1 "_law_whole" jJ) (G_qg1:aM P w K mg base 2 "made" di) (G_qy:aM P w K mg base 2 "are_wholes" ud) (G_qt:aM P w K mg base 1 "whole_root" rJ) (G_qj:aM P w K mg base 2 "_law_scaffold" mF) (G_qT:aM P w K mg base 2 "_law_sum" p7) (G_qz:aM P w K mg base 2 "_law_lowest" eY) (G_qh1:aM P w K mg base 3 "plus" fW) (G_qS:aM P w K mg base 2 "against" qX) (G_qd:aM P w K mg base 3 "root_of_fraction" m_) (G_qD:aM P w K mg base 1 "plus_tops" qd) (G_qV:aM P w K mg base 3 "half_of" um) (G_qc1:aM P w K mg base 4 "minus" ph) (G_qA:aM P w K mg base 5 "times_tops" jL) (G_qe:aM P w K mg base 5 "_law_tops_times" vz) (G_qU:aM P w K mg base 2 "_law_odd" oG) (G_qk:aM P w K mg base 2 "_law_turned" uf) (G_qK:aM P w K mg base 6 "norm_tops" rC) (G_qd1:aM P w K mg base 6 "times" g8) (G_qJ:aM P w K mg base 3 "is_number" oH) (G_qr:aM P w K mg base 3 "_law_drawn" rM) (G_qs:aM P w K mg base 6 "_law_product" cZ) (G_qO:aM P w K mg base 1 "_law_cell" gH) (G_qf:aM P w K mg base 1 "sign_of_whole" vB) (G_qQ:aM P w K mg base 3 "_law_less" jo) (G_qa:aM P w K mg base 2 "_law_walked_fraction" jx) (G_qI:aM P w K mg base 2 "_law_alike" p_) (G_qg:aM P w K mg base 2 "_law_is_number" mj) (G_qi1:aM P w K mg base 7 "norm" dD) (G_qa1:aM P w K mg base 2 "turned" pA) (G_qZ:aM P w K mg base 1 "lifted" kZ) (G_ql:aM P w K mg base 10 "sign_of_tops" vC) (G_qH:aM P w K mg base 2 "is_nought" d7) (G_qR:aM P w K mg base 11 "one_over" vA) (G_qj1:aM P w K mg base 11 "sign" pB) (G_qb1:aM P w K mg base 3 "halves" cX) (G_qb:aM P w K mg base 2 "holds_of_fraction" g_) (G_qW:aM P w K mg base 5 "middles" lG) (G_qX:aM P w K mg base 7 "is_root" oO) (G_qL:aM P w K mg base 7 "both_ways" jz) (G_qv:aM P w K mg base 1 "times_last" m9) (G_qk1:aM P w K mg base 12 "over" iU) (G_ql1:aM P w K mg base 12 "size" jq) (G_qm1:aM P w K mg base 20 "root" iW) (G_qc:aM P w K mg base 4 "paper_of_fraction" qe) (G_qP:aM P w K mg base 3 "_law_four" oM) (G_qM:aM P w K mg base 7 "_law_built" oU) (G_qf1:aM P w K mg base 28 "paper" j7) (G_qe1:aM P w K mg base 15 "holds" gr) (G_qB:aM P w K mg base 6 "_law_spoilt" ni) (G_qC:aM P w K mg base 10 "_law_walked" oV)
theorem Ba (T:Txt K mg a) (F:Ent K mg "is_whole" rO ["thing"]) :
  aM P w K mg base 1 "is_whole" jM:=by
 have q:=cP P w base 0 xM F zY fun _ _ _ _ _ _ _ hr=>by
  unfold xM;exact (aX (bB (qt (nA T.i_int (aq 0) (nD rfl T.z_int ‹"1"›) rfl T.z_isinstance) (uO (kE' (nA T.i_bool (aq 0) (nD rfl T.z_bool ‹"1"›) rfl T.z_isinstance))))))
 exact q
theorem Bb (T:Txt K mg a) (F:Ent K mg "common" rP ["a", "b"]) :
  aM P w K mg base 1 "common" qK:=by
 have q:=cP P w base 0 qJ F sc_qY fun _ _ _ _ _ _ _ hr=>by
  unfold qJ;exact (aP (bF 2 (dM Ft Fv rfl T.z_abs ‹"1"› (au (aq 0) aC)) sc_qY.nd) (aP (bF 3 (dM Ft Fv rfl T.z_abs ‹"1"› (au (aq 1) aC)) sc_qY.nd) (aP (Fw jT (bZ (lM hr.units) lL (aq 3) aA (bM _)) (aP (bF 4 (aU iy iw (aq 2) (aq 3)) sc_qY.nd) (aP (bF 2 (aq 3) sc_qY.nd) (aX (bF 3 (aq 4) sc_qY.nd))))) (aX (bB (aq 2))))))
 exact q
theorem Bc (T:Txt K mg a) (F:Ent K mg "whole_root" rQ ["n"]) :
  aM P w K mg base 1 "whole_root" rJ:=by
 have q:=cP P w base 0 rH F sc_qt fun _ _ _ _ _ _ _ hr=>by
  unfold rH;exact (aP (cM (bZ lU (jC _) (aq 0) aA (bM _)) (aX (Fx rfl PySem.F.excBase_ValueError T.n_Below T.x_Below rfl T.m_Below (au fC aC) (by decide) (hlen:=fun δ ds h=>FT h))) cN) (aP (bF 1 (aU Fq id' aA (aU iM iK (aU dH dG (Qk (aq 0)) aA) aA)) sc_qt.nd) (aP (Fw gf (bZ zj (jC _) (aU fM fL (aq 1) (aq 1)) (aq 0) (bM _)) (aX (bF 1 (aU iM iK (aU dH dG (aq 1) (aU iM iK (aq 0) (aq 1))) aA) sc_qt.nd))) (aX (bB (aq 1))))))
 exact q
theorem Be (T:Txt K mg a) (F:Ent K mg "lifted" rR ["x", "many"]) :
  aM P w K mg base 1 "lifted" kZ:=by
 have q:=cP P w base 0 qL F zZ fun _ _ _ _ _ _ _ hr=>by
  unfold qL;exact (aX (bB (cJ (au (aU dH dG (aK (aq 0) aA) (aU fM fL (cJ (au aA aC)) (aU zg zf (aU Fq id' aA (aq 1)) (dM eO eH rfl T.z_len ‹"1"› (au (aK (aq 0) aA) aC))))) (au (aK (aq 0) aA) aC)))))
 exact q
theorem Bf (T:Txt K mg a) (F:Ent K mg "are_noughts" rT ["tops"]) :
  aM P w K mg base 1 "are_noughts" vq:=by
 have q:=cP P w base 0 qM F z9 fun _ _ _ _ _ _ _ hr=>by
  unfold qM;exact (aX (bB (dM (Jy rfl) Jw rfl T.z_all ‹"1"› (au (v9 (N':=["top"]) (m:=1) (fr:=[]) zu rfl (v_ (by decide)) (qx (aq 0)) (fun _ _ _ _=>bm' 0 (show List.Nodup (["top"]:List Str) by decide +kernel)) (fun _ _ _ _=>(nu (dX hr.units) dW (aq 0) aA (bM _)))) aC))))
 exact q
theorem Bg (T:Txt K mg a) (F:Ent K mg "front_tops" rW ["tops"]) :
  aM P w K mg base 1 "front_tops" k_:=by
 have q:=cP P w base 0 qN F z_ fun _ _ _ _ _ _ _ hr=>by
  unfold qN;exact (aX (bB (as' (aq 0) at' (dY (aU iM iK (dM eO eH rfl T.z_len ‹"1"› (au (aq 0) aC)) aA)))))
 exact q
theorem Bh (T:Txt K mg a) (F:Ent K mg "behind_tops" rY ["tops"]) :
  aM P w K mg base 1 "behind_tops" lg:=by
 have q:=cP P w base 0 qO F Aa fun _ _ _ _ _ _ _ hr=>by
  unfold qO;exact (aX (bB (as' (aq 0) (dY (aU iM iK (dM eO eH rfl T.z_len ‹"1"› (au (aq 0) aC)) aA)) at')))
 exact q
theorem Bj (T:Txt K mg a) (F:Ent K mg "plus_tops" rZ ["one", "other"]) :
  aM P w K mg base 1 "plus_tops" qd:=by
 have q:=cP P w base 0 rm F Ab fun _ _ _ _ _ _ _ hr=>by
  unfold rm;exact (aX (bB (pL vf vd rfl T.z_tuple ‹"1"› (au (v9 (N':=["first", "second"]) (m:=2) (fr:=[]) zu rfl (zJ (by decide) (by decide)) (Ga rfl T.z_zip (au (aq 0) (au (aq 1) aC))) (fun _ _ _ _=>yu rfl (fun _=>qj 0 (show List.Nodup (["first", "second"]:List Str) by decide +kernel) (qj 1 (show List.Nodup (["first", "second"]:List Str) by decide +kernel) bs'))) (fun _ _ _ _=>(aU dH dG (aq 0) (aq 1)))) aC))))
 exact q
theorem Bl (T:Txt K mg a) (F:Ent K mg "against_tops" sr ["tops"]) :
  aM P w K mg base 1 "against_tops" pZ:=by
 have q:=cP P w base 0 qP F Ac fun _ _ _ _ _ _ _ hr=>by
  unfold qP;exact (aX (bB (pL vf vd rfl T.z_tuple ‹"1"› (au (v9 (N':=["top"]) (m:=1) (fr:=[]) zu rfl (v_ (by decide)) (qx (aq 0)) (fun _ _ _ _=>bm' 0 (show List.Nodup (["top"]:List Str) by decide +kernel)) (fun _ _ _ _=>(fK (aq 0)))) aC))))
 exact q
theorem Bm (T:Txt K mg a) (F:Ent K mg "sign_of_whole" sy ["n"]) :
  aM P w K mg base 1 "sign_of_whole" vB:=by
 have q:=cP P w base 0 rF F Ad fun _ _ _ _ _ _ _ hr=>by
  unfold rF;exact (aP (cM (bZ (dX hr.units) dW (aq 0) aA (bM _)) (aX (bB aA)) cN) (aX (bB (Jf (bZ zj (jC _) (aq 0) aA (bM _)) aA (fK aA)))))
 exact q
theorem Bo (T:Txt K mg a) (F:Ent K mg "times_last" sE ["b"]) :
  aM P w K mg base 1 "times_last" m9:=by
 have q:=cP P w base 0 uc F Ae fun _ _ _ _ _ _ _ hr=>by
  unfold uc;exact (aX (bB (cJ (au (aU dH dG (aU fM fL (cJ (au aA aC)) (dM eO eH rfl T.z_len ‹"1"› (au (aK (aq 0) aA) aC))) (aK (aq 0) aA)) (au (aK (aq 0) aA) aC)))))
 exact q
theorem Bp (T:Txt K mg a) (F:Ent K mg "_law_cell" sG ["_law_script", "_law_k"]) :
  aM P w K mg base 1 "_law_cell" gH:=by
 have q:=cP P w base 0 qQ F Af fun _ _ _ _ _ _ _ hr=>by
  unfold qQ;exact (aP (cM (bZ lU (jC _) (aq 1) (dM eO eH rfl T.z_len ‹"1"› (au (aq 0) aC)) (bM _)) (aX (bB (aK (aq 0) (aq 1)))) cN) (aX (bB aA)))
 exact q
theorem Bq (T:Txt K mg a) (F:Ent K mg "_law_whole" sH ["_law_found"]) :
  aM P w K mg base 1 "_law_whole" jJ:=by
 have q:=cP P w base 0 xj F Ag fun _ _ _ _ _ _ _ hr=>by
  unfold xj;exact (aX (bB (qt (nA T.i_int (aq 0) (nD rfl T.z_int ‹"1"›) rfl T.z_isinstance) (uO (kE' (nA T.i_bool (aq 0) (nD rfl T.z_bool ‹"1"›) rfl T.z_isinstance))))))
 exact q
theorem Br (T:Txt K mg a) (F:Ent K mg "_law_mixed" sI ["_law_cell_here", "_law_k", "_law_many"]) :
  aM P w K mg base 1 "_law_mixed" cY:=by
 have q:=cP P w base 0 rz F sc_qF fun _ _ _ _ _ _ _ hr=>by
  unfold rz;exact (aP (bF 3 (qi (au aA (au aA (au aA (au aA (au aA aC)))))) sc_qF.nd) (aP (bF 3 (aU dH dG (aq 3) (qi (au aA (au aA (au aA (au aA (au aA aC))))))) sc_qF.nd) (aX (bB (aU iy iw (aU iy iw (aU fM fL (aU dH dG (aq 0) aA) (aK (aq 3) (aq 1))) aA) (aq 2))))))
 exact q
theorem Bs (T:Txt K mg a) (F:Ent K mg "_law_added" sJ ["_law_one", "_law_other"]) :
  aM P w K mg base 1 "_law_added" p6:=by
 have q:=cP P w base 0 qT F Ah fun _ _ _ _ _ _ _ hr=>by
  unfold qT;exact (aX (bB (pL vf vd rfl T.z_tuple ‹"1"› (au (v9 (N':=["_law_a", "_law_b"]) (m:=2) (fr:=[]) zu rfl (zJ (by decide) (by decide)) (Ga rfl T.z_zip (au (aq 0) (au (aq 1) aC))) (fun _ _ _ _=>yu rfl (fun _=>qj 0 (show List.Nodup (["_law_a", "_law_b"]:List Str) by decide +kernel) (qj 1 (show List.Nodup (["_law_a", "_law_b"]:List Str) by decide +kernel) bs'))) (fun _ _ _ _=>(aU dH dG (aq 0) (aq 1)))) aC))))
 exact q
theorem Bt (T:Txt K mg a) (F:Ent K mg "_law_scaled" pD ["_law_k", "_law_one"]) :
  aM P w K mg base 1 "_law_scaled" gJ:=by
 have q:=cP P w base 0 qU F Ai fun _ _ _ _ _ _ _ hr=>by
  unfold qU;exact (aX (bB (pL vf vd rfl T.z_tuple ‹"1"› (au (v9 (N':=["_law_a", "_law_k"]) (m:=1) (fr:=[0]) (wg (az pD) ["_law_k", "_law_one"] rfl rfl rfl rfl rfl ‹"1"›) rfl (v_ (by decide)) (qx (aq 1)) (fun _ _ _ _=>bm' 0 (show List.Nodup (["_law_a", "_law_k"]:List Str) by decide +kernel)) (fun _ _ _ _=>(aU fM fL (aq 1) (aq 0)))) aC))))
 exact q
theorem Bu (T:Txt K mg a) (F:Ent K mg "_law_common" sO ["_law_one", "_law_other"]) :
  aM P w K mg base 1 "_law_common" jK:=by
 have q:=cP P w base 0 qR F sc_qx fun _ _ _ _ _ _ _ hr=>by
  unfold qR;exact (aP (Fw jU (bZ (lM hr.units) lL (aq 1) aA (bM _)) (aP (bF 2 (aU iy iw (aq 0) (aq 1)) sc_qx.nd) (aP (bF 0 (aq 1) sc_qx.nd) (aX (bF 1 (aq 2) sc_qx.nd))))) (aX (bB (dM Ft Fv rfl T.z_abs ‹"1"› (au (aq 0) aC)))))
 exact q
include G_qN in
theorem Bv (T:Txt K mg a) (F:Ent K mg "are_wholes" sS ["thing", "many"]) :
  aM P w K mg base 2 "are_wholes" ud:=by
 have q:=cP P w base 1 oF F Aj fun _ _ _ _ _ _ _ hr=>by
  unfold oF;exact (aX (bB (qt (nA T.i_tuple (aq 0) (nD rfl T.z_tuple ‹"1"›) rfl T.z_isinstance) (qt (nu (dX hr.units) dW (dM eO eH rfl T.z_len ‹"1"› (au (aq 0) aC)) (aq 1) (bM _)) (uO (dM (Jy rfl) Jw rfl T.z_all ‹"1"› (au (v9 (N':=["one"]) (m:=1) (fr:=[]) zu rfl (v_ (by decide)) (qx (aq 0)) (fun _ _ _ _=>bm' 0 (show List.Nodup (["one"]:List Str) by decide +kernel)) (fun _ _ _ _=>(cl G_qN hr (au (aq 0) aC)))) aC)))))))
 exact q
include G_qY in
theorem xN (T:Txt K mg a) (F:Ent K mg "made" lD ["tops", "bottom"]) :
  aM P w K mg base 2 "made" di:=by
 have q:=cP P w base 1 l_ F sc_qg1 fun _ _ _ _ _ _ _ hr=>by
  unfold l_;exact (aP (cM (bZ (dX hr.units) dW (aq 1) aA (bM _)) (aX (Fx rfl PySem.F.excBase_ValueError T.n_NoOver T.x_NoOver rfl T.m_NoOver (au fC aC) (by decide) (hlen:=fun δ ds h=>FT h))) cN) (aP (bF 2 (aq 1) sc_qg1.nd) (aP (yz rfl (qx (aq 0)) (bm' 3 sc_qg1.nd) (aX (bF 2 (cl G_qY hr (au (aq 2) (au (aq 3) aC))) sc_qg1.nd))) (aP (cM (bZ lU (jC _) (aq 1) aA (bM _)) (aX (bF 2 (fK (aq 2)) sc_qg1.nd)) cN) (aX (bB (cJ (au (pL vf vd rfl T.z_tuple ‹"1"› (au (v9 (N':=["top", "shared"]) (m:=1) (fr:=[2]) (wg (az lD) ["tops", "bottom", "shared", "top"] rfl rfl rfl rfl rfl ‹"1"›) rfl (v_ (by decide)) (qx (aq 0)) (fun _ _ _ _=>bm' 0 (show List.Nodup (["top", "shared"]:List Str) by decide +kernel)) (fun _ _ _ _=>(aU iM iK (aq 0) (aq 1)))) aC)) (au (aU iM iK (aq 1) (aq 2)) aC)))))))))
 exact q
include G_qi in
theorem Bw (T:Txt K mg a) (F:Ent K mg "against" sU ["x"]) :
  aM P w K mg base 2 "against" qX:=by
 have q:=cP P w base 1 qW F Ak fun _ _ _ _ _ _ _ hr=>by
  unfold qW;exact (aX (bB (cJ (au (cl G_qi hr (au (aK (aq 0) aA) aC)) (au (aK (aq 0) aA) aC)))))
 exact q
include G_qp in
theorem Bx (T:Txt K mg a) (F:Ent K mg "is_nought" sV ["x"]) :
  aM P w K mg base 2 "is_nought" d7:=by
 have q:=cP P w base 1 rE F Al fun _ _ _ _ _ _ _ hr=>by
  unfold rE;exact (aX (bB (cl G_qp hr (au (aK (aq 0) aA) aC))))
 exact q
include G_qi G_qu G_qq in
theorem xO (T:Txt K mg a) (F:Ent K mg "turned" nZ ["x"]) :
  aM P w K mg base 2 "turned" pA:=by
 have q:=cP P w base 1 mK F xr fun _ _ _ _ _ _ _ hr=>by
  unfold mK;exact (aX (bB (cJ (au (aU dH dG (cl G_qu hr (au (aK (aq 0) aA) aC)) (cl G_qi hr (au (cl G_qq hr (au (aK (aq 0) aA) aC)) aC))) (au (aK (aq 0) aA) aC)))))
 exact q
include G_qN in
theorem By (T:Txt K mg a) (F:Ent K mg "holds_of_fraction" sW ["x", "thing"]) :
  aM P w K mg base 2 "holds_of_fraction" g_:=by
 have q:=cP P w base 1 fX F sc_qb fun _ _ _ _ _ _ _ hr=>by
  unfold fX;exact (aP (cM (bZ (dX hr.units) dW (aK (aq 1) aA) fC (bM _)) (aX (bB (qt (nu (dX hr.units) dW (dM eO eH rfl T.z_len ‹"1"› (au (aq 1) aC)) aA (bM _)) (uO (nu lU (jC _) (aK (aK (aq 0) aA) aA) aA (bM _)))))) cN) (aP (cM (PWD.pt (jb (bZ (lM hr.units) lL (aK (aq 1) aA) fC (bM _)) (oY (bZ (lM hr.units) lL (dM eO eH rfl T.z_len ‹"1"› (au (aq 1) aC)) aA (bM _))))) (aX (bB kh)) cN) (aP (bF 2 (aK (aq 1) aA) sc_qb.nd) (aP (cM (PWD.pt (jb (jP (iJ (cl G_qN hr (au (aq 2) aC)))) (oY (bZ lU (jC _) (aq 2) aA (bM _))))) (aX (bB kh)) cN) (aX (bB (JS lU (jC _) lU (jC _) (aU fM fL (aq 2) (aq 2)) (aU fM fL (aK (aK (aq 0) aA) aA) (aK (aq 0) aA)) (aU fM fL (aU dH dG (aq 2) aA) (aU dH dG (aq 2) aA)))))))))
 exact q
include G_qF in
theorem BJ (T:Txt K mg a) (F:Ent K mg "_law_scaffold" sX ["_law_cell_here", "_law_many"]) :
  aM P w K mg base 2 "_law_scaffold" mF:=by
 have q:=cP P w base 1 nW F sc_qj fun _ _ _ _ _ _ _ hr=>by
  unfold nW;exact (aP (bF 2 (aU dH dG aA (cl G_qF hr (au (aq 0) (au aA (au aA aC))))) sc_qj.nd) (aP (bF 3 (aU dH dG (aU dH dG (aU fM fL (aq 2) (aq 2)) aA) (cl G_qF hr (au (aq 0) (au aA (au (aU fM fL aA (aq 2)) aC))))) sc_qj.nd) (aP (bF 4 (aU dH dG aA (cl G_qF hr (au (aq 0) (au aA (au aA aC))))) sc_qj.nd) (aP (bF 5 (aU dH dG aA (cl G_qF hr (au (aq 0) (au aA (au aA aC))))) sc_qj.nd) (aP (bF 6 (cJ (au (cJ (au (aq 3) aC)) (au (cJ (au (cl G_qF hr (au (aq 0) (au aA (au (aU dH dG (aU fM fL (aq 4) (aq 2)) aA) aC)))) (au (aq 4) aC))) (au (cJ (au (cl G_qF hr (au (aq 0) (au aA (au (aq 5) aC)))) (au aA (au (aq 5) (au aA aC))))) aC)))) sc_qj.nd) (aP (cM (bZ (dX hr.units) dW (cl G_qF hr (au (aq 0) (au aA (au aA aC)))) aA (bM _)) (aP (bF 7 (qi (au aA (au aA (au aA (au aA (au aA (au aA aC))))))) sc_qj.nd) (aP (bF 8 (cl G_qF hr (au (aq 0) (au aA (au aA aC)))) sc_qj.nd) (aX (bF 6 (cJ (au (cJ (au (aK (aq 7) (aq 8)) aC)) (au (cJ (au (aK (aq 7) (aU iy iw (aU dH dG (aq 8) aA) aA)) (au aA aC))) (au (cJ (au (aK (aq 7) (aU iy iw (aU dH dG (aq 8) aA) aA)) (au aA (au aA (au aA aC))))) aC)))) sc_qj.nd)))) cN) (aX (bB (as' (aq 6) at' (dY (aq 1)))))))))))
 exact q
include G_qG G_qw in
theorem BK (T:Txt K mg a) (F:Ent K mg "_law_sum" sY ["_law_one", "_law_other"]) :
  aM P w K mg base 2 "_law_sum" p7:=by
 have q:=cP P w base 1 qY F Am fun _ _ _ _ _ _ _ hr=>by
  unfold qY;exact (aX (bB (cJ (au (cl G_qG hr (au (cl G_qw hr (au (aK (aq 1) aA) (au (aK (aq 0) aA) aC))) (au (cl G_qw hr (au (aK (aq 0) aA) (au (aK (aq 1) aA) aC))) aC))) (au (aU fM fL (aK (aq 0) aA) (aK (aq 1) aA)) aC)))))
 exact q
include G_qw in
theorem BL (T:Txt K mg a) (F:Ent K mg "_law_alike" sZ ["_law_one", "_law_other"]) :
  aM P w K mg base 2 "_law_alike" p_:=by
 have q:=cP P w base 1 qZ F An fun _ _ _ _ _ _ _ hr=>by
  unfold qZ;exact (aX (bB (nu (dX hr.units) dW (cl G_qw hr (au (aK (aq 1) aA) (au (aK (aq 0) aA) aC))) (cl G_qw hr (au (aK (aq 0) aA) (au (aK (aq 1) aA) aC))) (bM _))))
 exact q
include G_qx G_qE in
theorem BP (T:Txt K mg a) (F:Ent K mg "_law_is_number" tu ["_law_found", "_law_many"]) :
  aM P w K mg base 2 "_law_is_number" mj:=by
 have q:=cP P w base 1 jn F sc_qg fun _ _ _ _ _ _ _ hr=>by
  unfold jn;exact (aP (cM (PWD.pt (jb (jP (iJ (nA T.i_tuple (aq 0) (nD rfl T.z_tuple ‹"1"›) rfl T.z_isinstance))) (jb (bZ (lM hr.units) lL (dM eO eH rfl T.z_len ‹"1"› (au (aq 0) aC)) aA (bM _)) (oY (jP (iJ (nA T.i_tuple (aK (aq 0) aA) (nD rfl T.z_tuple ‹"1"›) rfl T.z_isinstance))))))) (aX (bB kh)) cN) (aP (cM (PWD.pt (jb (bZ (lM hr.units) lL (dM eO eH rfl T.z_len ‹"1"› (au (aK (aq 0) aA) aC)) (aq 1) (bM _)) (jb (jP (iJ (cl G_qE hr (au (aK (aq 0) aA) aC)))) (oY (bZ lU (jC _) (aK (aq 0) aA) aA (bM _)))))) (aX (bB kh)) cN) (aP (bF 2 (aK (aq 0) aA) sc_qg.nd) (aP (yz rfl (qx (aK (aq 0) aA)) (bm' 3 sc_qg.nd) (aP (cM (jP (iJ (cl G_qE hr (au (aq 3) aC)))) (aX (bB kh)) cN) (aX (bF 2 (cl G_qx hr (au (aq 2) (au (aq 3) aC))) sc_qg.nd)))) (aX (bB (nu (dX hr.units) dW (aq 2) aA (bM _))))))))
 exact q
include G_qx in
theorem BR (T:Txt K mg a) (F:Ent K mg "_law_lowest" pF ["_law_one"]) :
  aM P w K mg base 2 "_law_lowest" eY:=by
 have q:=cP P w base 1 rG F sc_qz fun _ _ _ _ _ _ _ hr=>by
  unfold rG;exact (aP (bF 1 (aK (aq 0) aA) sc_qz.nd) (aP (yz rfl (qx (aK (aq 0) aA)) (bm' 2 sc_qz.nd) (aX (bF 1 (cl G_qx hr (au (aq 1) (au (aq 2) aC))) sc_qz.nd))) (aX (bB (cJ (au (pL vf vd rfl T.z_tuple ‹"1"› (au (v9 (N':=["_law_top", "_law_shared"]) (m:=1) (fr:=[1]) (wg (az pF) ["_law_one", "_law_shared", "_law_top"] rfl rfl rfl rfl rfl ‹"1"›) rfl (v_ (by decide)) (qx (aK (aq 0) aA)) (fun _ _ _ _=>bm' 0 (show List.Nodup (["_law_top", "_law_shared"]:List Str) by decide +kernel)) (fun _ _ _ _=>(aU iM iK (aq 0) (aq 1)))) aC)) (au (aU iM iK (aK (aq 0) aA) (aq 1)) aC)))))))
 exact q
include G_qE in
theorem BV (T:Txt K mg a) (F:Ent K mg "_law_walked_fraction" tD ["_law_one", "_law_thing"]) :
  aM P w K mg base 2 "_law_walked_fraction" jx:=by
 have q:=cP P w base 1 gK F sc_qa fun _ _ _ _ _ _ _ hr=>by
  unfold gK;exact (aP (bF 2 (aU fM fL (aK (aK (aq 0) aA) aA) (aK (aq 0) aA)) sc_qa.nd) (aP (cM (bZ (dX hr.units) dW (dM eO eH rfl T.z_len ‹"1"› (au (aq 1) aC)) aA (bM _)) (aX (bB (qt (nu (dX hr.units) dW (aK (aq 1) aA) fC (bM _)) (uO (nu lU (jC _) (aq 2) aA (bM _)))))) cN) (aP (cM (PWD.pt (jb (bZ (lM hr.units) lL (dM eO eH rfl T.z_len ‹"1"› (au (aq 1) aC)) aA (bM _)) (jb (bZ (lM hr.units) lL (aK (aq 1) aA) fC (bM _)) (jb (jP (iJ (cl G_qE hr (au (aK (aq 1) aA) aC)))) (oY (bZ lU (jC _) (aK (aq 1) aA) aA (bM _))))))) (aX (bB kh)) cN) (aX (bB (JS lU (jC _) lU (jC _) (aU fM fL (aK (aq 1) aA) (aK (aq 1) aA)) (aq 2) (aU fM fL (aU dH dG (aK (aq 1) aA) aA) (aU dH dG (aK (aq 1) aA) aA))))))))
 exact q
include G_qw in
theorem BW (T:Txt K mg a) (F:Ent K mg "_law_turned" tE ["_law_told"]) :
  aM P w K mg base 2 "_law_turned" uf:=by
 have q:=cP P w base 1 ue F sc_qk fun _ _ _ _ _ _ _ hr=>by
  unfold ue;exact (aP (bF 1 (aK (aq 0) aA) sc_qk.nd) (aX (bB (cJ (au fC (au (cJ (au (cl G_qw hr (au (fK aA) (au (aK (aq 1) aA) aC))) (au (aK (aq 1) aA) aC))) (au (aK (aq 0) aA) (au (aK (aq 0) aA) aC))))))))
 exact q
include G_qw in
theorem BX (T:Txt K mg a) (F:Ent K mg "_law_odd" tG ["_law_told", "_law_cell_here"]) :
  aM P w K mg base 2 "_law_odd" oG:=by
 have q:=cP P w base 1 ug F sc_qU fun _ _ _ _ _ _ _ hr=>by
  unfold ug;refine aP ?_ ?_
  ·refine bF 2 ?_ sc_qU.nd
   ·refine qi ?_
    ·refine au ?_ ?_
     ·exact kj
     ·refine au ?_ ?_
      ·refine cJ ?_
       ·exact aC
      ·refine au ?_ ?_
       ·refine cJ ?_
        ·refine au ?_ ?_
         ·exact fC
         ·exact aC
       ·refine au ?_ ?_
        ·refine cJ ?_
         ·refine au ?_ ?_
          ·exact fC
          ·refine au ?_ ?_
           ·exact aA
           ·exact aC
        ·refine au ?_ ?_
         ·refine cJ ?_
          ·refine au ?_ ?_
           ·exact fC
           ·refine au ?_ ?_
            ·exact kh
            ·exact aC
         ·refine au ?_ ?_
          ·exact (pL JX JW rfl T.z_list ‹"1"› (au (aq 0) aC))
          ·refine au ?_ ?_
           ·refine aU dH dG ?_ ?_
            ·exact (aq 0)
            ·refine cJ ?_
             ·refine au ?_ ?_
              ·exact fC
              ·exact aC
           ·refine au ?_ ?_
            ·exact (as' (aq 0) at' (dY (fK aA)))
            ·exact (Q5 aC)
  ·refine aP ?_ ?_
   ·refine bF 2 ?_ sc_qU.nd
    ·refine aU dH dG ?_ ?_
     ·exact (aq 2)
     ·refine qi ?_
      ·refine au ?_ ?_
       ·refine cJ ?_
        ·refine au ?_ ?_
         ·exact fC
         ·refine au ?_ ?_
          ·exact (aq 0)
          ·exact aC
       ·refine au ?_ ?_
        ·refine cJ ?_
         ·refine au ?_ ?_
          ·exact fC
          ·refine au ?_ ?_
           ·exact (aq 0)
           ·refine au ?_ ?_
            ·exact (aq 0)
            ·exact aC
        ·refine au ?_ ?_
         ·refine aU dH dG ?_ ?_
          ·refine cJ ?_
           ·refine au ?_ ?_
            ·exact (Rc (aK (aq 0) aA))
            ·exact aC
          ·exact (as' (aq 0) (dY aA) at')
         ·refine au ?_ ?_
          ·refine aU dH dG ?_ ?_
           ·refine cJ ?_
            ·refine au ?_ ?_
             ·exact kj
             ·exact aC
           ·exact (as' (aq 0) (dY aA) at')
          ·refine au ?_ ?_
           ·exact aA
           ·exact aC
   ·refine aP ?_ ?_
    ·refine cM ?_ ?_ ?_
     ·exact (bZ (dX hr.units) dW (aK (aq 0) aA) fC (bM _))
     ·refine aX ?_
      ·refine bB ?_
       ·refine aK ?_ ?_
        ·refine qi ?_
         ·refine au ?_ ?_
          ·refine cJ ?_
           ·refine au ?_ ?_
            ·exact fC
            ·refine au ?_ ?_
             ·refine aU dH dG ?_ ?_
              ·refine aK ?_ ?_
               ·exact (aq 0)
               ·exact aA
              ·exact aA
             ·exact aC
          ·refine au ?_ ?_
           ·refine cJ ?_
            ·refine au ?_ ?_
             ·exact fC
             ·refine au ?_ ?_
              ·refine aU zg zf ?_ ?_
               ·refine aK ?_ ?_
                ·exact (aq 0)
                ·exact aA
               ·exact aA
              ·exact aC
           ·refine au ?_ ?_
            ·refine cJ ?_
             ·refine au ?_ ?_
              ·exact fC
              ·refine au ?_ ?_
               ·exact (fK (aK (aq 0) aA))
               ·exact aC
            ·exact aC
        ·refine aU iy iw ?_ ?_
         ·exact (aq 1)
         ·exact aA
     ·exact cN
    ·refine aP ?_ ?_
     ·refine cM ?_ ?_ ?_
      ·exact (PWD.pt (yq (bZ (dX hr.units) dW (aK (aq 0) aA) fC (bM _)) (yo (bZ (dX hr.units) dW (aU iy iw (aq 1) aA) aA (bM _)))))
      ·refine aP ?_ ?_
       ·refine bF 3 ?_ sc_qU.nd
        ·refine aK ?_ ?_
         ·exact (aq 0)
         ·exact aA
       ·refine aP ?_ ?_
        ·refine bF 4 ?_ sc_qU.nd
         ·refine qi ?_
          ·refine au ?_ ?_
           ·refine cJ ?_
            ·refine au ?_ ?_
             ·refine aK ?_ ?_
              ·exact (aq 3)
              ·exact aA
             ·refine au ?_ ?_
              ·refine aU dH dG ?_ ?_
               ·refine aK ?_ ?_
                ·exact (aq 3)
                ·exact aA
               ·exact aA
              ·exact aC
           ·refine au ?_ ?_
            ·refine cJ ?_
             ·refine au ?_ ?_
              ·exact (cl G_qw hr (au aA (au (aK (aq 3) aA) aC)))
              ·refine au ?_ ?_
               ·refine aU fM fL ?_ ?_
                ·exact aA
                ·refine aK ?_ ?_
                 ·exact (aq 3)
                 ·exact aA
               ·exact aC
            ·refine au ?_ ?_
             ·refine cJ ?_
              ·refine au ?_ ?_
               ·exact (pL JX JW rfl T.z_list ‹"1"› (au (aK (aq 3) aA) aC))
               ·refine au ?_ ?_
                ·refine aK ?_ ?_
                 ·exact (aq 3)
                 ·exact aA
                ·exact aC
             ·refine au ?_ ?_
              ·refine cJ ?_
               ·refine au ?_ ?_
                ·exact (cl G_qw hr (au (fK aA) (au (aK (aq 3) aA) aC)))
                ·refine au ?_ ?_
                 ·refine aK ?_ ?_
                  ·exact (aq 3)
                  ·exact aA
                 ·exact aC
              ·exact aC
        ·refine aX ?_
         ·refine bB ?_
          ·refine aU dH dG ?_ ?_
           ·refine cJ ?_
            ·refine au ?_ ?_
             ·exact fC
             ·refine au ?_ ?_
              ·refine aK ?_ ?_
               ·exact (aq 4)
               ·refine aU iy iw ?_ ?_
                ·refine aU iM iK ?_ ?_
                 ·exact (aq 1)
                 ·exact aA
                ·exact aA
              ·exact aC
           ·exact (as' (aq 0) (dY aA) at')
      ·exact cN
     ·refine aP ?_ ?_
      ·refine cM ?_ ?_ ?_
       ·exact (PWD.pt (yq (bZ (dX hr.units) dW (aK (aq 0) aA) fC (bM _)) (yo (bZ (dX hr.units) dW (aU iy iw (aq 1) aA) aA (bM _)))))
       ·refine aX ?_
        ·refine bB ?_
         ·refine cJ ?_
          ·refine au ?_ ?_
           ·exact fC
           ·refine au ?_ ?_
            ·refine aK ?_ ?_
             ·exact (aq 0)
             ·exact aA
            ·refine au ?_ ?_
             ·refine aK ?_ ?_
              ·exact (aq 0)
              ·exact aA
             ·exact aC
       ·exact cN
      ·refine aX ?_
       ·refine bB ?_
        ·refine aK ?_ ?_
         ·exact (aq 2)
         ·refine aU iy iw ?_ ?_
          ·refine aU iM iK ?_ ?_
           ·exact (aq 1)
           ·exact aA
          ·exact aA
 exact q
include G_qg1 in
theorem xP (T:Txt K mg a) (F:Ent K mg "plus" lE ["x", "y"]) :
  aM P w K mg base 3 "plus" fW:=by
 have q:=cP P w base 2 mq F sc_qh1 fun _ _ _ _ _ _ _ hr=>by
  unfold mq;exact (aP (Qa 2 (N':=["one", "other", "y", "x"]) (m:=2) (fr:=[1,0]) (wg (az lE) ["x", "y", "tops"] rfl rfl rfl rfl rfl ‹"1"›) rfl (zJ (by decide) (by decide)) (Ga rfl T.z_zip (au (aK (aq 0) aA) (au (aK (aq 1) aA) aC))) (fun _ _ _ _=>yu rfl (fun _=>qj 0 (show List.Nodup (["one", "other", "y", "x"]:List Str) by decide +kernel) (qj 1 (show List.Nodup (["one", "other", "y", "x"]:List Str) by decide +kernel) bs'))) (fun _ _ _ _=>(aU dH dG (aU fM fL (aq 0) (aK (aq 2) aA)) (aU fM fL (aq 1) (aK (aq 3) aA)))) sc_qh1.nd) (aX (bB (cl G_qg1 hr (au (pL vf vd rfl T.z_tuple ‹"1"› (au (aq 2) aC)) (au (aU fM fL (aK (aq 0) aA) (aK (aq 1) aA)) aC))))))
 exact q
include G_qu G_qq G_qg1 in
theorem xQ (T:Txt K mg a) (F:Ent K mg "halves" n6 ["x"]) :
  aM P w K mg base 3 "halves" cX:=by
 have q:=cP P w base 2 my F xu fun _ _ _ _ _ _ _ hr=>by
  unfold my;exact (aX (bB (cJ (au (cl G_qg1 hr (au (cl G_qu hr (au (aK (aq 0) aA) aC)) (au (aK (aq 0) aA) aC))) (au (cl G_qg1 hr (au (cl G_qq hr (au (aK (aq 0) aA) aC)) (au (aK (aq 0) aA) aC))) aC)))))
 exact q
include G_qN G_qg1 G_qy in
theorem BZ (T:Txt K mg a) (F:Ent K mg "is_number" tH ["thing", "many"]) :
  aM P w K mg base 3 "is_number" oH:=by
 have q:=cP P w base 2 jy F Ao fun _ _ _ _ _ _ _ hr=>by
  unfold jy;exact (aP (cM (PWD.pt (jb (jP (iJ (nA T.i_tuple (aq 0) (nD rfl T.z_tuple ‹"1"›) rfl T.z_isinstance))) (oY (bZ (lM hr.units) lL (dM eO eH rfl T.z_len ‹"1"› (au (aq 0) aC)) aA (bM _))))) (aX (bB kh)) cN) (aP (cM (PWD.pt (jb (jP (iJ (cl G_qy hr (au (aK (aq 0) aA) (au (aU Fq id' aA (aq 1)) aC))))) (jb (jP (iJ (cl G_qN hr (au (aK (aq 0) aA) aC)))) (oY (bZ lU (jC _) (aK (aq 0) aA) aA (bM _)))))) (aX (bB kh)) cN) (aX (bB (nu (dX hr.units) dW (cl G_qg1 hr (au (aK (aq 0) aA) (au (aK (aq 0) aA) aC))) (aq 0) (bM _))))))
 exact q
include G_qg1 G_qt in
theorem B_ (T:Txt K mg a) (F:Ent K mg "root_of_fraction" tK ["x"]) :
  aM P w K mg base 3 "root_of_fraction" m_:=by
 have q:=cP P w base 2 oJ F sc_qd fun _ _ _ _ _ _ _ hr=>by
  unfold oJ;exact (aP (bF 1 (aU fM fL (aK (aK (aq 0) aA) aA) (aK (aq 0) aA)) sc_qd.nd) (aP (cM (bZ lU (jC _) (aq 1) aA (bM _)) (aX (bB kj)) cN) (aP (bF 2 (cl G_qt hr (au (aq 1) aC)) sc_qd.nd) (aP (cM (bZ (lM hr.units) lL (aU fM fL (aq 2) (aq 2)) (aq 1) (bM _)) (aX (bB kj)) cN) (aX (bB (cl G_qg1 hr (au (cJ (au (aq 2) aC)) (au (aK (aq 0) aA) aC)))))))))
 exact q
include G_qg1 in
theorem Ca (T:Txt K mg a) (F:Ent K mg "half_of" tL ["x"]) :
  aM P w K mg base 3 "half_of" um:=by
 have q:=cP P w base 2 uh F Aq fun _ _ _ _ _ _ _ hr=>by
  unfold uh;exact (aX (bB (cl G_qg1 hr (au (aK (aq 0) aA) (au (aU fM fL aA (aK (aq 0) aA)) aC)))))
 exact q
include G_qF G_qj in
theorem Cd (T:Txt K mg a) (F:Ent K mg "_law_four" tM ["_law_cell_here", "_law_many"]) :
  aM P w K mg base 3 "_law_four" oM:=by
 have q:=cP P w base 2 oK F sc_qP fun _ _ _ _ _ _ _ hr=>by
  unfold oK;exact (aP (bF 2 (cl G_qj hr (au (aq 0) (au aA aC))) sc_qP.nd) (aP (cM (bZ (dX hr.units) dW (aK (aK (aq 2) aA) aA) aA (bM _)) (aP (bF 3 (qi (au aA (au aA (au aA (au aA (au aA (au aA aC))))))) sc_qP.nd) (aP (bF 4 (Qi PySem.F.plainAttrs_list PySem.F.slot_list_index PySem.F.type_list_index nx' QL (aq 3) (au (aK (aK (aq 2) aA) aA) aC)) sc_qP.nd) (aX (bF 2 (aU dH dG (aq 2) (cJ (au (cJ (au (aK (aq 3) (aU iy iw (aU dH dG (aq 4) aA) aA)) (au aA (au aA (au aA (au aA (au aA (au aA (au aA aC))))))))) aC))) sc_qP.nd)))) (aP (bF 5 (aU dH dG aA (cl G_qF hr (au (aq 0) (au aA (au aA aC))))) sc_qP.nd) (aX (bF 2 (aU dH dG (aq 2) (cJ (au (cJ (au (cl G_qF hr (au (aq 0) (au aA (au (aq 5) aC)))) (au aA (au aA (au aA (au (aq 5) (au aA (au aA (au aA aC))))))))) aC))) sc_qP.nd)))) (aX (bB (as' (aq 2) at' (dY (aq 1)))))))
 exact q
include G_qw G_qT in
theorem Ce (T:Txt K mg a) (F:Ent K mg "_law_less" tO ["_law_one", "_law_other"]) :
  aM P w K mg base 3 "_law_less" jo:=by
 have q:=cP P w base 2 q_ F Ar fun _ _ _ _ _ _ _ hr=>by
  unfold q_;exact (aX (bB (cl G_qT hr (au (aq 0) (au (cJ (au (cl G_qw hr (au (fK aA) (au (aK (aq 1) aA) aC))) (au (aK (aq 1) aA) aC))) aC)))))
 exact q
include G_qF G_qz in
theorem Cg (T:Txt K mg a) (F:Ent K mg "_law_drawn" j5 ["_law_cell_here", "_law_many"]) :
  aM P w K mg base 3 "_law_drawn" rM:=by
 have q:=cP P w base 2 rK F sc_qr fun _ _ _ _ _ _ _ hr=>by
  unfold rK;exact (aP (Ge 2 (N':=["_law_k", "_law_cell_here"]) (m:=1) (fr:=[0]) (wg (az j5) ["_law_cell_here", "_law_many", "_law_tops"] rfl rfl rfl rfl rfl ‹"1"›) rfl (v_ (by decide)) (hy' rfl T.z_range (au (aq 1) aC)) (fun _ _ _ _=>bm' 0 (show List.Nodup (["_law_k", "_law_cell_here"]:List Str) by decide +kernel)) (fun _ _ _ _=>(aU zg zf (cl G_qF hr (au (aU iM iK (aq 1) aA) (au (aq 0) (au aA aC)))) aA)) sc_qr.nd) (aP (cM (bZ (dX hr.units) dW (aU iy iw (aq 0) aA) aA (bM _)) (aX (QW 2 (aU zg zf (aU iy iw (aU iM iK (aq 0) aA) (aU dH dG (aU fM fL aA (aU Fp ic' aA aA)) aA)) (aU Fp ic' aA aA)) (Gf (aU iy iw (aU iM iK (aq 0) aA) (aq 1))) (Du _))) cN) (aP (cM (bZ (dX hr.units) dW (aU iy iw (aq 0) aA) aA (bM _)) (aX (Ge 2 (N':=["_law_k", "_law_top", "_law_cell_here"]) (m:=2) (fr:=[0]) (wg (az j5) ["_law_cell_here", "_law_many", "_law_tops"] rfl rfl rfl rfl rfl ‹"1"›) rfl (zJ (by decide) (by decide)) (Gb rfl T.z_enumerate (au (aq 2) aC)) (fun _ _ _ _=>yu rfl (fun _=>qj 0 (show List.Nodup (["_law_k", "_law_top", "_law_cell_here"]:List Str) by decide +kernel) (qj 1 (show List.Nodup (["_law_k", "_law_top", "_law_cell_here"]:List Str) by decide +kernel) bs'))) (fun _ _ _ _=>(aU fM fL (aq 1) (pL JD ne_int rfl T.z_int ‹"1"› (au (nu (dX hr.units) dW (aU iy iw (aU iM iK (aU iM iK (aq 2) aA) (aU dH dG (aq 0) aA)) aA) aA (bM _)) aC)))) sc_qr.nd)) cN) (aP (cM (bZ (dX hr.units) dW (aU iy iw (aq 0) aA) aA (bM _)) (aX (Ge 2 (N':=["_law_k", "_law_top", "_law_many", "_law_cell_here"]) (m:=2) (fr:=[1,0]) (wg (az j5) ["_law_cell_here", "_law_many", "_law_tops"] rfl rfl rfl rfl rfl ‹"1"›) rfl (zJ (by decide) (by decide)) (Gb rfl T.z_enumerate (au (aq 2) aC)) (fun _ _ _ _=>yu rfl (fun _=>qj 0 (show List.Nodup (["_law_k", "_law_top", "_law_many", "_law_cell_here"]:List Str) by decide +kernel) (qj 1 (show List.Nodup (["_law_k", "_law_top", "_law_many", "_law_cell_here"]:List Str) by decide +kernel) bs'))) (fun _ _ _ _=>(aU fM fL (aq 1) (pL JD ne_int rfl T.z_int ‹"1"› (au (nu lU (jC _) (aq 0) (aU dH dG (aU iy iw (aU iM iK (aq 3) aA) (aq 2)) aA) (bM _)) aC)))) sc_qr.nd)) cN) (aX (bB (cl G_qz hr (au (cJ (au (pL vf vd rfl T.z_tuple ‹"1"› (au (aq 2) aC)) (au (aU dH dG aA (cl G_qF hr (au (aU iM iK (aq 0) aA) (au aA (au aA aC))))) aC))) aC))))))))
 exact q
include G_qh1 G_qS in
theorem xR (T:Txt K mg a) (F:Ent K mg "minus" n8 ["x", "y"]) :
  aM P w K mg base 4 "minus" ph:=by
 have q:=cP P w base 3 mD F xx fun _ _ _ _ _ _ _ hr=>by
  unfold mD;exact (aX (bB (cl G_qh1 hr (au (aq 0) (au (cl G_qS hr (au (aq 1) aC)) aC)))))
 exact q
include G_qt G_qd in
theorem Ci (T:Txt K mg a) (F:Ent K mg "paper_of_fraction" tQ ["x"]) :
  aM P w K mg base 4 "paper_of_fraction" qe:=by
 have q:=cP P w base 3 lF F Av fun _ _ _ _ _ _ _ hr=>by
  unfold lF;exact (aP (cM (bZ lU (jC _) (aK (aK (aq 0) aA) aA) aA (bM _)) (aX (bB (cJ (au fC aC)))) cN) (aP (cM (bZ FW dc' (cl G_qd hr (au (aq 0) aC)) kj (bM _)) (aX (bB kj)) cN) (aX (bB (cJ (au fC (au (cl G_qt hr (au (aU fM fL (aK (aK (aq 0) aA) aA) (aK (aq 0) aA)) aC)) aC)))))))
 exact q
include G_qu G_qq G_qD in
theorem vI (T:Txt K mg a) (F:Ent K mg "times_tops" mX ["roots", "one", "other"]) {R:List D->Res D} {k:Nat} (hk:1<=k) (G_qA:aM P w K mg base k "times_tops" R) :
  aM P w K mg base (k + 1) "times_tops" (aW 3 11 (mG R)):=by
 have q:=cP P w base k (mG R) F sc_qA fun _ _ _ _ _ _ _ hr=>by
  unfold mG;exact (aP (cM (bZ (dX hr.units) dW (dM eO eH rfl T.z_len ‹"1"› (au (aq 0) aC)) aA (bM _)) (aX (bB (cJ (au (aU fM fL (aK (aq 1) aA) (aK (aq 2) aA)) aC)))) cN) (aP (bF 3 (as' (aq 0) at' (dY (fK aA))) sc_qA.nd) (aP (bF 4 (cl G_qu hr (au (aq 1) aC)) sc_qA.nd) (aP (bF 5 (cl G_qq hr (au (aq 1) aC)) sc_qA.nd) (aP (bF 6 (cl G_qu hr (au (aq 2) aC)) sc_qA.nd) (aP (bF 7 (cl G_qq hr (au (aq 2) aC)) sc_qA.nd) (aP (bF 8 (cl G_qA hr (au (aq 3) (au (cl G_qA hr (au (aq 3) (au (aq 5) (au (aq 7) aC)))) (au (aK (aq 0) (fK aA)) aC)))) sc_qA.nd) (aP (bF 9 (cl G_qD hr (au (cl G_qA hr (au (aq 3) (au (aq 4) (au (aq 6) aC)))) (au (aq 8) aC))) sc_qA.nd) (aP (bF 10 (cl G_qD hr (au (cl G_qA hr (au (aq 3) (au (aq 4) (au (aq 7) aC)))) (au (cl G_qA hr (au (aq 3) (au (aq 5) (au (aq 6) aC)))) aC))) sc_qA.nd) (aX (bB (aU dH dG (aq 9) (aq 10)))))))))))))
 exact q
include G_qu G_qq G_qD in
theorem ur (T:Txt K mg a) (F:Ent K mg "times_tops" mX ["roots", "one", "other"]):∀n,aM P w K mg base (1 + 1 * n) "times_tops" (jV n)
 | 0=>kW F _
 | n + 1=>vI G_qu G_qq G_qD T F (Nat.le_add_right _ _) (ur T F n)
include G_qu G_qq G_qD in
theorem Cj (T:Txt K mg a) (F:Ent K mg "times_tops" mX ["roots", "one", "other"]) :
  aM P w K mg base 5 "times_tops" jL:=ur G_qu G_qq G_qD T F  4
include G_qh1 G_qV G_qc1 in
theorem Ck (T:Txt K mg a) (F:Ent K mg "middles" tR ["a", "n"]) :
  aM P w K mg base 5 "middles" lG:=by
 have q:=cP P w base 4 uo F Aw fun _ _ _ _ _ _ _ hr=>by
  unfold uo;exact (aX (bB (qi (au (cl G_qV hr (au (cl G_qh1 hr (au (aq 0) (au (aq 1) aC))) aC)) (au (cl G_qV hr (au (cl G_qc1 hr (au (aq 0) (au (aq 1) aC))) aC)) aC)))))
 exact q
include G_qG in
theorem vJ (T:Txt K mg a) (F:Ent K mg "_law_tops_times" mY ["_law_roots", "_law_one", "_law_other"]) {R:List D->Res D} {k:Nat} (hk:1<=k) (G_qe:aM P w K mg base k "_law_tops_times" R) :
  aM P w K mg base (k + 1) "_law_tops_times" (aW 3 8 (mH R)):=by
 have q:=cP P w base k (mH R) F sc_qe fun _ _ _ _ _ _ _ hr=>by
  unfold mH;exact (aP (cM (bZ (dX hr.units) dW (dM eO eH rfl T.z_len ‹"1"› (au (aq 1) aC)) aA (bM _)) (aX (bB (cJ (au (aU fM fL (aK (aq 1) aA) (aK (aq 2) aA)) aC)))) cN) (aP (bF 3 (aU iM iK (dM eO eH rfl T.z_len ‹"1"› (au (aq 1) aC)) aA) sc_qe.nd) (aP (bF 4 (as' (aq 0) at' (dY (fK aA))) sc_qe.nd) (aP (bF 5 (cl G_qe hr (au (aq 4) (au (as' (aq 1) (dY (aq 3)) at') (au (as' (aq 2) (dY (aq 3)) at') aC)))) sc_qe.nd) (aP (bF 6 (cl G_qG hr (au (cl G_qe hr (au (aq 4) (au (as' (aq 1) at' (dY (aq 3))) (au (as' (aq 2) at' (dY (aq 3))) aC)))) (au (cl G_qe hr (au (aq 4) (au (aK (aq 0) (fK aA)) (au (aq 5) aC)))) aC))) sc_qe.nd) (aP (bF 7 (cl G_qe hr (au (aq 4) (au (as' (aq 1) at' (dY (aq 3))) (au (as' (aq 2) (dY (aq 3)) at') aC)))) sc_qe.nd) (aX (bB (aU dH dG (aq 6) (cl G_qG hr (au (aq 7) (au (cl G_qe hr (au (aq 4) (au (as' (aq 1) (dY (aq 3)) at') (au (as' (aq 2) at' (dY (aq 3))) aC)))) aC))))))))))))
 exact q
include G_qG in
theorem uw (T:Txt K mg a) (F:Ent K mg "_law_tops_times" mY ["_law_roots", "_law_one", "_law_other"]):∀n,aM P w K mg base (1 + 1 * n) "_law_tops_times" (jW n)
 | 0=>kW F _
 | n + 1=>vJ G_qG T F (Nat.le_add_right _ _) (uw T F n)
include G_qG in
theorem Cm (T:Txt K mg a) (F:Ent K mg "_law_tops_times" mY ["_law_roots", "_law_one", "_law_other"]) :
  aM P w K mg base 5 "_law_tops_times" vz:=uw G_qG T F  4
include G_qg1 G_qA in
theorem xT (T:Txt K mg a) (F:Ent K mg "times" n_ ["roots", "x", "y"]) :
  aM P w K mg base 6 "times" g8:=by
 have q:=cP P w base 5 mJ F xF fun _ _ _ _ _ _ _ hr=>by
  unfold mJ;exact (aX (bB (cl G_qg1 hr (au (cl G_qA hr (au (aq 0) (au (aK (aq 1) aA) (au (aK (aq 2) aA) aC)))) (au (aU fM fL (aK (aq 1) aA) (aK (aq 2) aA)) aC)))))
 exact q
include G_qi G_qu G_qq G_qD G_qA in
theorem Cp (T:Txt K mg a) (F:Ent K mg "norm_tops" tU ["roots", "tops"]) :
  aM P w K mg base 6 "norm_tops" rC:=by
 have q:=cP P w base 5 rB F sc_qK fun _ _ _ _ _ _ _ hr=>by
  unfold rB;exact (aP (bF 2 (as' (aq 0) at' (dY (fK aA))) sc_qK.nd) (aP (bF 3 (cl G_qu hr (au (aq 1) aC)) sc_qK.nd) (aP (bF 4 (cl G_qq hr (au (aq 1) aC)) sc_qK.nd) (aP (bF 5 (cl G_qA hr (au (aq 2) (au (cl G_qA hr (au (aq 2) (au (aq 4) (au (aq 4) aC)))) (au (aK (aq 0) (fK aA)) aC)))) sc_qK.nd) (aX (bB (cl G_qD hr (au (cl G_qA hr (au (aq 2) (au (aq 3) (au (aq 3) aC)))) (au (cl G_qi hr (au (aq 5) aC)) aC)))))))))
 exact q
include G_qe in
theorem Cq (T:Txt K mg a) (F:Ent K mg "_law_product" tV ["_law_roots", "_law_one", "_law_other"]) :
  aM P w K mg base 6 "_law_product" cZ:=by
 have q:=cP P w base 5 rA F Ax fun _ _ _ _ _ _ _ hr=>by
  unfold rA;exact (aX (bB (cJ (au (cl G_qe hr (au (aq 0) (au (aK (aq 1) aA) (au (aK (aq 2) aA) aC)))) (au (aU fM fL (aK (aq 1) aA) (aK (aq 2) aA)) aC)))))
 exact q
include G_qU G_qk in
theorem vK (T:Txt K mg a) (F:Ent K mg "_law_spoilt" j6 ["_law_told", "_law_cell_here"]) {R:List D->Res D} {k:Nat} (hk:2<=k) (G_qB:aM P w K mg base k "_law_spoilt" R) :
  aM P w K mg base (k + 1) "_law_spoilt" (aW 2 4 (jN R)):=by
 have q:=cP P w base k (jN R) F sc_qB fun _ _ _ _ _ _ _ hr=>by
  unfold jN;exact (aP (Q_ 2 (N':=["_law_k", "_law_told"]) (m:=1) (fr:=[0]) (wg (az j6) ["_law_told", "_law_cell_here", "_law_places", "_law_at"] rfl rfl rfl rfl rfl ‹"1"›) rfl (v_ (by decide)) (hA' rfl T.z_range (au aA (au (dM eO eH rfl T.z_len ‹"1"› (au (aq 0) aC)) aC))) (fun _ _ _ _=>bm' 0 (show List.Nodup (["_law_k", "_law_told"]:List Str) by decide +kernel)) (fun _ _ _ _=>(PWD.pt (yq (iJ (nA T.i_tuple (aK (aq 1) (aq 0)) (nD rfl T.z_tuple ‹"1"›) rfl T.z_isinstance)) (yo (iJ (nA T.i_str (aK (aK (aq 1) (aq 0)) aA) (nD rfl T.z_str ‹"1"›) rfl T.z_isinstance)))))) (fun _ _ _ _=>(aq 0)) sc_qB.nd) (aP (cM (PWD.pt (yq (bZ zj (jC _) (dM eO eH rfl T.z_len ‹"1"› (au (aq 2) aC)) aA (bM _)) (yo (bZ zj (jC _) (aU iy iw (aq 1) aA) aA (bM _))))) (aP (bF 3 (aK (aq 2) (aU iy iw (aU iM iK (aq 1) aA) (dM eO eH rfl T.z_len ‹"1"› (au (aq 2) aC)))) sc_qB.nd) (aX (bB (aU dH dG (aU dH dG (as' (aq 0) at' (dY (aq 3))) (cJ (au (cl G_qB hr (au (aK (aq 0) (aq 3)) (au (aU iM iK (aq 1) aA) aC))) aC))) (as' (aq 0) (dY (aU dH dG (aq 3) aA)) at'))))) cN) (aP (cM (PWD.pt (yq (bZ (dX hr.units) dW (aK (aq 0) aA) fC (bM _)) (yo (bZ (dX hr.units) dW (aU iy iw (aU iM iK (aq 1) aA) aA) aA (bM _))))) (aX (bB (cl G_qk hr (au (aq 0) aC)))) cN) (aX (bB (cl G_qU hr (au (aq 0) (au (aU iM iK (aq 1) aA) aC))))))))
 exact q
include G_qU G_qk in
theorem ux (T:Txt K mg a) (F:Ent K mg "_law_spoilt" j6 ["_law_told", "_law_cell_here"]):∀n,aM P w K mg base (2 + 1 * n) "_law_spoilt" (dR n)
 | 0=>kW F _
 | n + 1=>vK G_qU G_qk T F (Nat.le_add_right _ _) (ux T F n)
include G_qU G_qk in
theorem Cr (T:Txt K mg a) (F:Ent K mg "_law_spoilt" j6 ["_law_told", "_law_cell_here"]) :
  aM P w K mg base 6 "_law_spoilt" ni:=ux G_qU G_qk T F  4
include G_qg1 G_qK in
theorem xU (T:Txt K mg a) (F:Ent K mg "norm" oh ["roots", "x"]) :
  aM P w K mg base 7 "norm" dD:=by
 have q:=cP P w base 6 mL F xG fun _ _ _ _ _ _ _ hr=>by
  unfold mL;exact (aX (bB (cl G_qg1 hr (au (cl G_qK hr (au (aq 0) (au (aK (aq 1) aA) aC))) (au (aU fM fL (aK (aq 1) aA) (aK (aq 1) aA)) aC)))))
 exact q
include G_qd1 in
theorem Cu (T:Txt K mg a) (F:Ent K mg "both_ways" tW ["roots", "a"]) :
  aM P w K mg base 7 "both_ways" jz:=by
 have q:=cP P w base 6 uq F Ay fun _ _ _ _ _ _ _ hr=>by
  unfold uq;exact (aX (bB (qi (au (aq 1) (au (cl G_qd1 hr (au (as' (aq 0) at' (dY (fK aA))) (au (aq 1) (au (cJ (au (aK (aq 0) (fK aA)) (au aA aC))) aC)))) aC)))))
 exact q
include G_qd1 G_qJ in
theorem Cw (T:Txt K mg a) (F:Ent K mg "is_root" tX ["roots", "square", "thing"]) :
  aM P w K mg base 7 "is_root" oO:=by
 have q:=cP P w base 6 oN F Az fun _ _ _ _ _ _ _ hr=>by
  unfold oN;exact (aX (bB (qt (cl G_qJ hr (au (aq 2) (au (dM eO eH rfl T.z_len ‹"1"› (au (aq 0) aC)) aC))) (uO (nu (dX hr.units) dW (cl G_qd1 hr (au (aq 0) (au (aq 2) (au (aq 2) aC)))) (aq 1) (bM _))))))
 exact q
include G_qz G_qr G_qs G_qO in
theorem Cy (T:Txt K mg a) (F:Ent K mg "_law_built" tY ["_law_script", "_law_roots", "_law_many"]) :
  aM P w K mg base 7 "_law_built" oU:=by
 have q:=cP P w base 6 oR F sc_qM fun _ _ _ _ _ _ _ hr=>by
  unfold oR;exact (aP (bF 3 aA sc_qM.nd) (aP (yz rfl (Gb rfl T.z_enumerate (au (as' (aq 0) (dY aA) (dY aA)) aC)) (yu rfl (fun _=>(qj 4 sc_qM.nd (qj 5 sc_qM.nd bs')))) (aX (bF 3 (aU dH dG (aq 3) (aU fM fL (aU dH dG (aU fM fL aA (aq 4)) aA) (aU iy iw (aq 5) (aU Fp ic' aA aA)))) sc_qM.nd))) (aP (bF 6 (cl G_qr hr (au (aq 3) (au (aq 2) aC))) sc_qM.nd) (aP (cM (bZ (dX hr.units) dW (aU iy iw (aU iM iK (cl G_qO hr (au (aq 0) (au aA aC))) aA) aA) aA (bM _)) (aX (bB (aq 6))) cN) (aP (cM (jP (iJ (dM (QK rfl) QJ rfl T.z_any ‹"1"› (au (aK (aq 6) aA) aC)))) (aX (bF 6 (cJ (au (pL vf vd rfl T.z_tuple ‹"1"› (au (aU dH dG (qi (au aA aC)) (Q4 (au aA aC) (aU zg zf (aq 2) aA))) aC)) (au (aU dH dG aA (aU iy iw (aq 3) aA)) aC))) sc_qM.nd)) cN) (aX (bB (cl G_qz hr (au (cl G_qs hr (au (as' (aq 1) at' (dY (fK aA))) (au (cl G_qs hr (au (as' (aq 1) at' (dY (fK aA))) (au (aq 6) (au (aq 6) aC)))) (au (cJ (au (aK (aq 1) (fK aA)) (au aA aC))) aC)))) aC)))))))))
 exact q
include G_qu G_qq G_qK G_qf in
theorem vL (T:Txt K mg a) (F:Ent K mg "sign_of_tops" mZ ["roots", "tops"]) {R:List D->Res D} {k:Nat} (hk:6<=k) (G_ql:aM P w K mg base k "sign_of_tops" R) :
  aM P w K mg base (k + 1) "sign_of_tops" (aW 2 5 (mR R)):=by
 have q:=cP P w base k (mR R) F sc_ql fun _ _ _ _ _ _ _ hr=>by
  unfold mR;exact (aP (cM (bZ (dX hr.units) dW (dM eO eH rfl T.z_len ‹"1"› (au (aq 0) aC)) aA (bM _)) (aX (bB (cl G_qf hr (au (aK (aq 1) aA) aC)))) cN) (aP (bF 2 (as' (aq 0) at' (dY (fK aA))) sc_ql.nd) (aP (bF 3 (cl G_ql hr (au (aq 2) (au (cl G_qu hr (au (aq 1) aC)) aC))) sc_ql.nd) (aP (bF 4 (cl G_ql hr (au (aq 2) (au (cl G_qq hr (au (aq 1) aC)) aC))) sc_ql.nd) (aP (cM (PWD.pt (jb (bZ (dX hr.units) dW (aq 3) (aq 4) (bM _)) (oY (bZ (dX hr.units) dW (aq 4) aA (bM _))))) (aX (bB (aq 3))) cN) (aP (cM (bZ (dX hr.units) dW (aq 3) aA (bM _)) (aX (bB (aq 4))) cN) (aX (bB (aU fM fL (aq 3) (cl G_ql hr (au (aq 2) (au (cl G_qK hr (au (aq 0) (au (aq 1) aC))) aC))))))))))))
 exact q
include G_qu G_qq G_qK G_qf in
theorem uy (T:Txt K mg a) (F:Ent K mg "sign_of_tops" mZ ["roots", "tops"]):∀n,aM P w K mg base (6 + 1 * n) "sign_of_tops" (jY n)
 | 0=>kW F _
 | n + 1=>vL G_qu G_qq G_qK G_qf T F (Nat.le_add_right _ _) (uy T F n)
include G_qu G_qq G_qK G_qf in
theorem Cz (T:Txt K mg a) (F:Ent K mg "sign_of_tops" mZ ["roots", "tops"]) :
  aM P w K mg base 10 "sign_of_tops" vC:=uy G_qu G_qq G_qK G_qf T F  4
include G_qT G_qz G_qs G_qQ G_qa G_qI G_qg in
theorem vM (T:Txt K mg a) (F:Ent K mg "_law_walked" m6 ["_law_roots", "_law_one", "_law_thing"]) {R:List D->Res D} {k:Nat} (hk:6<=k) (G_qC:aM P w K mg base k "_law_walked" R) :
  aM P w K mg base (k + 1) "_law_walked" (aW 3 11 (cg R)):=by
 have q:=cP P w base k (cg R) F sc_qC fun _ _ _ _ _ _ _ hr=>by
  unfold cg;exact (aP (bF 1 (cl G_qz hr (au (aq 1) aC)) sc_qC.nd) (aP (cM (PWD.pt (jb (jP (iJ (nA T.i_tuple (aq 2) (nD rfl T.z_tuple ‹"1"›) rfl T.z_isinstance))) (jb (bZ (dX hr.units) dW (dM eO eH rfl T.z_len ‹"1"› (au (aq 2) aC)) aA (bM _)) (oY (jP (iJ (nA T.i_str (aK (aq 2) aA) (nD rfl T.z_str ‹"1"›) rfl T.z_isinstance))))))) (aX (bB kh)) cN) (aP (cM (bZ (dX hr.units) dW (dM eO eH rfl T.z_len ‹"1"› (au (aq 0) aC)) aA (bM _)) (aX (bB (cl G_qa hr (au (aq 1) (au (aq 2) aC))))) cN) (aP (bF 3 (aU iM iK (dM eO eH rfl T.z_len ‹"1"› (au (aK (aq 1) aA) aC)) aA) sc_qC.nd) (aP (bF 4 (as' (aq 0) at' (dY (fK aA))) sc_qC.nd) (aP (bF 5 (cJ (au (as' (aK (aq 1) aA) at' (dY (aq 3))) (au (aK (aq 1) aA) aC))) sc_qC.nd) (aP (bF 6 (cJ (au (as' (aK (aq 1) aA) (dY (aq 3)) at') (au (aK (aq 1) aA) aC))) sc_qC.nd) (aP (bF 7 (cJ (au (aK (aq 0) (fK aA)) (au aA aC))) sc_qC.nd) (aP (cM (PWD.pt (yq (bZ (dX hr.units) dW (dM (Q7 rfl) lN' rfl T.z_max ‹"1"› (au (aK (aq 6) aA) aC)) aA (bM _)) (yo (bZ (dX hr.units) dW (dM (Q8 rfl) Q6 rfl T.z_min ‹"1"› (au (aK (aq 6) aA) aC)) aA (bM _))))) (aP (cM (PWD.pt (jb (bZ (lM hr.units) lL (dM eO eH rfl T.z_len ‹"1"› (au (aq 2) aC)) aA (bM _)) (jb (bZ (lM hr.units) lL (aK (aq 2) aA) fC (bM _)) (oY (jP (iJ (cl G_qC hr (au (aq 4) (au (aq 5) (au (aK (aq 2) aA) aC)))))))))) (aX (bB kh)) cN) (aX (bB (cl G_qC hr (au (aq 4) (au (cl G_qs hr (au (aq 4) (au (aq 5) (au (aq 7) aC)))) (au (aK (aq 2) aA) aC))))))) cN) (aP (bF 8 (cl G_qs hr (au (aq 4) (au (cl G_qs hr (au (aq 4) (au (aq 6) (au (aq 6) aC)))) (au (aq 7) aC)))) sc_qC.nd) (aP (bF 8 (cl G_qQ hr (au (cl G_qs hr (au (aq 4) (au (aq 5) (au (aq 5) aC)))) (au (aq 8) aC))) sc_qC.nd) (aP (cM (bZ (dX hr.units) dW (dM eO eH rfl T.z_len ‹"1"› (au (aq 2) aC)) aA (bM _)) (aX (bB (qt (nu (dX hr.units) dW (aK (aq 2) aA) fC (bM _)) (uO (cl G_qC hr (au (aq 4) (au (aq 8) (au (aK (aq 2) aA) aC)))))))) cN) (aP (cM (PWD.pt (jb (bZ (lM hr.units) lL (dM eO eH rfl T.z_len ‹"1"› (au (aq 2) aC)) aA (bM _)) (jb (bZ (lM hr.units) lL (aK (aq 2) aA) fC (bM _)) (oY (jP (iJ (cl G_qg hr (au (aK (aq 2) aA) (au (aq 3) aC))))))))) (aX (bB kh)) cN) (aP (cM (jP (iJ (cl G_qI hr (au (cl G_qs hr (au (aq 4) (au (aK (aq 2) aA) (au (aK (aq 2) aA) aC)))) (au (aq 8) aC))))) (aX (bB kh)) cN) (aP (bF 9 (cl G_qT hr (au (aq 5) (au (aK (aq 2) aA) aC))) sc_qC.nd) (aP (bF 10 (cl G_qQ hr (au (aq 5) (au (aK (aq 2) aA) aC))) sc_qC.nd) (aP (cM (jP (iJ (cl G_qC hr (au (aq 4) (au (cJ (au (aK (aq 9) aA) (au (aU fM fL aA (aK (aq 9) aA)) aC))) (au (aK (aq 2) aA) aC)))))) (aX (bB kh)) cN) (aX (bB (cl G_qC hr (au (aq 4) (au (cJ (au (aK (aq 10) aA) (au (aU fM fL aA (aK (aq 10) aA)) aC))) (au (aK (aq 2) aA) aC)))))))))))))))))))))))
 exact q
include G_qT G_qz G_qs G_qQ G_qa G_qI G_qg in
theorem uz (T:Txt K mg a) (F:Ent K mg "_law_walked" m6 ["_law_roots", "_law_one", "_law_thing"]):∀n,aM P w K mg base (6 + 1 * n) "_law_walked" (bY n)
 | 0=>kW F _
 | n + 1=>vM G_qT G_qz G_qs G_qQ G_qa G_qI G_qg T F (Nat.le_add_right _ _) (uz T F n)
include G_qT G_qz G_qs G_qQ G_qa G_qI G_qg in
theorem CG (T:Txt K mg a) (F:Ent K mg "_law_walked" m6 ["_law_roots", "_law_one", "_law_thing"]) :
  aM P w K mg base 10 "_law_walked" oV:=uz G_qT G_qz G_qs G_qQ G_qa G_qI G_qg T F  4
include G_qg1 G_qd1 G_qi1 G_qa1 G_qZ in
theorem vN (T:Txt K mg a) (F:Ent K mg "one_over" m8 ["roots", "y"]) {R:List D->Res D} {k:Nat} (hk:7<=k) (G_qR:aM P w K mg base k "one_over" R) :
  aM P w K mg base (k + 1) "one_over" (aW 2 3 (mO R)):=by
 have q:=cP P w base k (mO R) F sc_qR fun _ _ _ _ _ _ _ hr=>by
  unfold mO;exact (aP (cM (bZ (dX hr.units) dW (dM eO eH rfl T.z_len ‹"1"› (au (aq 0) aC)) aA (bM _)) (aX (bB (cl G_qg1 hr (au (cJ (au (aK (aq 1) aA) aC)) (au (aK (aK (aq 1) aA) aA) aC))))) cN) (aP (bF 2 (cl G_qR hr (au (as' (aq 0) at' (dY (fK aA))) (au (cl G_qi1 hr (au (aq 0) (au (aq 1) aC))) aC))) sc_qR.nd) (aX (bB (cl G_qd1 hr (au (aq 0) (au (cl G_qa1 hr (au (aq 1) aC)) (au (cl G_qZ hr (au (aq 2) (au (dM eO eH rfl T.z_len ‹"1"› (au (aq 0) aC)) aC))) aC))))))))
 exact q
include G_qg1 G_qd1 G_qi1 G_qa1 G_qZ in
theorem uA (T:Txt K mg a) (F:Ent K mg "one_over" m8 ["roots", "y"]):∀n,aM P w K mg base (7 + 1 * n) "one_over" (jX n)
 | 0=>kW F _
 | n + 1=>vN G_qg1 G_qd1 G_qi1 G_qa1 G_qZ T F (Nat.le_add_right _ _) (uA T F n)
include G_qg1 G_qd1 G_qi1 G_qa1 G_qZ in
theorem CJ (T:Txt K mg a) (F:Ent K mg "one_over" m8 ["roots", "y"]) :
  aM P w K mg base 11 "one_over" vA:=uA G_qg1 G_qd1 G_qi1 G_qa1 G_qZ T F  4
include G_ql in
theorem xV (T:Txt K mg a) (F:Ent K mg "sign" ou ["roots", "x"]) :
  aM P w K mg base 11 "sign" pB:=by
 have q:=cP P w base 10 mU F xH fun _ _ _ _ _ _ _ hr=>by
  unfold mU;exact (aX (bB (cl G_ql hr (au (aq 0) (au (aK (aq 1) aA) aC)))))
 exact q
include G_qd1 G_qH G_qR in
theorem xW (T:Txt K mg a) (F:Ent K mg "over" oA ["roots", "x", "y"]) :
  aM P w K mg base 12 "over" iU:=by
 have q:=cP P w base 11 mQ F xJ fun _ _ _ _ _ _ _ hr=>by
  unfold mQ;exact (aP (cM (iJ (cl G_qH hr (au (aq 2) aC))) (aX (Fx rfl PySem.F.excBase_ValueError T.n_NoOver T.x_NoOver rfl T.m_NoOver (au fC aC) (by decide) (hlen:=fun δ ds h=>FT h))) cN) (aX (bB (cl G_qd1 hr (au (aq 0) (au (aq 1) (au (cl G_qR hr (au (aq 0) (au (aq 2) aC))) aC)))))))
 exact q
include G_qS G_qj1 in
theorem xX (T:Txt K mg a) (F:Ent K mg "size" oE ["roots", "x"]) :
  aM P w K mg base 12 "size" jq:=by
 have q:=cP P w base 11 jZ F xK fun _ _ _ _ _ _ _ hr=>by
  unfold jZ;exact (aX (bB (Jf (bZ lU (jC _) (cl G_qj1 hr (au (aq 0) (au (aq 1) aC))) aA (bM _)) (cl G_qS hr (au (aq 1) aC)) (aq 1))))
 exact q
include G_qi1 G_qH G_qb1 G_qb G_qW G_qX G_qL in
theorem uC (T:Txt K mg a) (F:Ent K mg "holds" jt ["roots", "x", "thing"]) {R:List D->Res D} {k:Nat} (hk:7<=k) (G_qe1:aM P w K mg base k "holds" R) (G_qm:aM P w K mg base (k + 1) "holds_of_two" (aW 3 3 (gk R))) :
  aM P w K mg base (k + 2) "holds" (aW 3 5 (bA R)):=by
 have q:=cP P w base (k + 1) (bA R) F sc_qe1 fun _ _ _ _ _ _ _ hr=>by
  unfold bA;exact (aP (cM (PWD.pt (jb (jP (iJ (nA T.i_tuple (aq 2) (nD rfl T.z_tuple ‹"1"›) rfl T.z_isinstance))) (jb (bZ (dX hr.units) dW (dM eO eH rfl T.z_len ‹"1"› (au (aq 2) aC)) aA (bM _)) (oY (jP (iJ (nA T.i_str (aK (aq 2) aA) (nD rfl T.z_str ‹"1"›) rfl T.z_isinstance))))))) (aX (bB kh)) cN) (aP (cM (bZ (dX hr.units) dW (dM eO eH rfl T.z_len ‹"1"› (au (aq 0) aC)) aA (bM _)) (aX (bB (cl G_qb hr (au (aq 1) (au (aq 2) aC))))) cN) (aP (bF 3 (cl G_qb1 hr (au (aq 1) aC)) sc_qe1.nd) (aP (cM (iJ (cl G_qH hr (au (aK (aq 3) aA) aC))) (aX (bB (qt (nu (dX hr.units) dW (aK (aq 2) aA) fC (bM _)) (uO (cl G_qm hr (au (as' (aq 0) at' (dY (fK aA))) (au (cl G_qL hr (au (aq 0) (au (aK (aq 3) aA) aC))) (au (as' (aq 2) (dY aA) at') aC)))))))) cN) (aP (bF 4 (cl G_qi1 hr (au (aq 0) (au (aq 1) aC))) sc_qe1.nd) (aP (cM (bZ (dX hr.units) dW (aK (aq 2) aA) fC (bM _)) (aX (bB (qt (nu (dX hr.units) dW (dM eO eH rfl T.z_len ‹"1"› (au (aq 2) aC)) aA (bM _)) (uO (cl G_qe1 hr (au (as' (aq 0) at' (dY (fK aA))) (au (aq 4) (au (aK (aq 2) aA) aC)))))))) cN) (aP (cM (PWD.pt (jb (bZ (lM hr.units) lL (aK (aq 2) aA) fC (bM _)) (jb (bZ (lM hr.units) lL (dM eO eH rfl T.z_len ‹"1"› (au (aq 2) aC)) aA (bM _)) (oY (jP (iJ (cl G_qX hr (au (as' (aq 0) at' (dY (fK aA))) (au (aq 4) (au (aK (aq 2) aA) aC)))))))))) (aX (bB kh)) cN) (aX (bB (cl G_qm hr (au (as' (aq 0) at' (dY (fK aA))) (au (cl G_qW hr (au (aK (aq 3) aA) (au (aK (aq 2) aA) aC))) (au (as' (aq 2) (dY aA) at') aC)))))))))))))
 exact q
include G_qi1 G_qH G_qb1 G_qb G_qW G_qX G_qL in
theorem lH (T:Txt K mg a) (F:Ent K mg "holds" jt ["roots", "x", "thing"]) (S_qm:∀(R:List D->Res D) (k:Nat),7<=k->aM P w K mg base k "holds" R->aM P w K mg base (k + 1) "holds_of_two" (aW 3 3 (gk R))):∀n,aM P w K mg base (7 + 2 * n) "holds" (bI n)
 | 0=>kW F _
 | n + 1=>uC G_qi1 G_qH G_qb1 G_qb G_qW G_qX G_qL T F (Nat.le_add_right _ _) (lH T F S_qm n) (S_qm _ _ (Nat.le_add_right _ _) (lH T F S_qm n))
include G_qi1 G_qH G_qb1 G_qb G_qW G_qX G_qL in
theorem xY (T:Txt K mg a) (F:Ent K mg "holds" jt ["roots", "x", "thing"]) (S_qm:∀(R:List D->Res D) (k:Nat),7<=k->aM P w K mg base k "holds" R->aM P w K mg base (k + 1) "holds_of_two" (aW 3 3 (gk R))) :
  aM P w K mg base 15 "holds" gr:=lH G_qi1 G_qH G_qb1 G_qb G_qW G_qX G_qL T F S_qm 4
theorem uD (T:Txt K mg a) (F:Ent K mg "holds_of_two" tZ ["roots", "numbers", "things"]) {R:List D->Res D} {k:Nat} (hk:7<=k) (G_qe1:aM P w K mg base k "holds" R) :
  aM P w K mg base (k + 1) "holds_of_two" (aW 3 3 (gk R)):=by
 have q:=cP P w base k (gk R) F A_ fun _ _ _ _ _ _ _ hr=>by
  unfold gk;exact (aP (cM (bZ (lM hr.units) lL (dM eO eH rfl T.z_len ‹"1"› (au (aq 2) aC)) aA (bM _)) (aX (bB kh)) cN) (aX (bB (qt (cl G_qe1 hr (au (aq 0) (au (aK (aq 1) aA) (au (aK (aq 2) aA) aC)))) (uO (cl G_qe1 hr (au (aq 0) (au (aK (aq 1) aA) (au (aK (aq 2) aA) aC)))))))))
 exact q
include G_qd G_qi1 G_qH G_qb1 in
theorem uE (T:Txt K mg a) (F:Ent K mg "root" ju ["roots", "x"]) {R:List D->Res D} {k:Nat} (hk:12<=k) (G_qm1:aM P w K mg base k "root" R) (G_qh:aM P w K mg base (k + 1) "root_of_front" (aW 2 5 (fY R))) (G_qn:aM P w K mg base (k + 1) "root_of_both" (aW 4 9 (h_ R))) :
  aM P w K mg base (k + 2) "root" (aW 2 3 (eG R)):=by
 have q:=cP P w base (k + 1) (eG R) F sc_qm1 fun _ _ _ _ _ _ _ hr=>by
  unfold eG;exact (aP (cM (bZ (dX hr.units) dW (dM eO eH rfl T.z_len ‹"1"› (au (aq 0) aC)) aA (bM _)) (aX (bB (cl G_qd hr (au (aq 1) aC)))) cN) (aP (bF 2 (cl G_qb1 hr (au (aq 1) aC)) sc_qm1.nd) (aP (cM (iJ (cl G_qH hr (au (aK (aq 2) aA) aC))) (aX (bB (cl G_qh hr (au (aq 0) (au (aK (aq 2) aA) aC))))) cN) (aX (bB (cl G_qn hr (au (aq 0) (au (aK (aq 2) aA) (au (aK (aq 2) aA) (au (cl G_qi1 hr (au (aq 0) (au (aq 1) aC))) aC))))))))))
 exact q
include G_qd G_qi1 G_qH G_qb1 in
theorem jd (T:Txt K mg a) (F:Ent K mg "root" ju ["roots", "x"]) (S_qh:∀(R:List D->Res D) (k:Nat),12<=k->aM P w K mg base k "root" R->aM P w K mg base (k + 1) "root_of_front" (aW 2 5 (fY R))) (S_qn:∀(R:List D->Res D) (k:Nat),12<=k->aM P w K mg base k "root" R->aM P w K mg base (k + 1) "root_of_both" (aW 4 9 (h_ R))):∀n,aM P w K mg base (12 + 2 * n) "root" (dz n)
 | 0=>kW F _
 | n + 1=>uE G_qd G_qi1 G_qH G_qb1 T F (Nat.le_add_right _ _) (jd T F S_qh S_qn n) (S_qh _ _ (Nat.le_add_right _ _) (jd T F S_qh S_qn n)) (S_qn _ _ (Nat.le_add_right _ _) (jd T F S_qh S_qn n))
include G_qd G_qi1 G_qH G_qb1 in
theorem xZ (T:Txt K mg a) (F:Ent K mg "root" ju ["roots", "x"]) (S_qh:∀(R:List D->Res D) (k:Nat),12<=k->aM P w K mg base k "root" R->aM P w K mg base (k + 1) "root_of_front" (aW 2 5 (fY R))) (S_qn:∀(R:List D->Res D) (k:Nat),12<=k->aM P w K mg base k "root" R->aM P w K mg base (k + 1) "root_of_both" (aW 4 9 (h_ R))) :
  aM P w K mg base 20 "root" iW:=jd G_qd G_qi1 G_qH G_qb1 T F S_qh S_qn 4
include G_qZ G_qL G_qv G_qk1 in
theorem uF (T:Txt K mg a) (F:Ent K mg "root_of_front" t7 ["roots", "a"]) {R:List D->Res D} {k:Nat} (hk:12<=k) (G_qm1:aM P w K mg base k "root" R) :
  aM P w K mg base (k + 1) "root_of_front" (aW 2 5 (fY R)):=by
 have q:=cP P w base k (fY R) F sc_qh fun _ _ _ _ _ _ _ hr=>by
  unfold fY;exact (aP (bF 2 (as' (aq 0) at' (dY (fK aA))) sc_qh.nd) (aP (bF 3 (cl G_qL hr (au (aq 0) (au (aq 1) aC))) sc_qh.nd) (aP (bF 4 (cl G_qm1 hr (au (aq 2) (au (aK (aq 3) aA) aC))) sc_qh.nd) (aP (cM (bZ FW dc' (aq 4) kj (bM _)) (aX (bB (cl G_qZ hr (au (aq 4) (au (dM eO eH rfl T.z_len ‹"1"› (au (aq 0) aC)) aC))))) cN) (aP (bF 4 (cl G_qm1 hr (au (aq 2) (au (aK (aq 3) aA) aC))) sc_qh.nd) (aP (cM (bZ yw wO (aq 4) kj (bM _)) (aX (bB kj)) cN) (aX (bB (cl G_qv hr (au (cl G_qk1 hr (au (aq 2) (au (aq 4) (au (cJ (au (aK (aq 0) (fK aA)) (au aA aC))) aC)))) aC))))))))))
 exact q
include G_qh1 G_qZ G_qW G_qv G_qk1 G_ql1 in
theorem uG (T:Txt K mg a) (F:Ent K mg "root_of_both" t8 ["roots", "a", "b", "product"]) {R:List D->Res D} {k:Nat} (hk:12<=k) (G_qm1:aM P w K mg base k "root" R) :
  aM P w K mg base (k + 1) "root_of_both" (aW 4 9 (h_ R)):=by
 have q:=cP P w base k (h_ R) F sc_qn fun _ _ _ _ _ _ _ hr=>by
  unfold h_;exact (aP (bF 4 (as' (aq 0) at' (dY (fK aA))) sc_qn.nd) (aP (bF 5 (cl G_qm1 hr (au (aq 4) (au (aq 3) aC))) sc_qn.nd) (aP (cM (bZ yw wO (aq 5) kj (bM _)) (aX (bB kj)) cN) (aP (yz rfl (qx (cl G_qW hr (au (aq 1) (au (aq 5) aC)))) (bm' 6 sc_qn.nd) (aP (bF 7 (cl G_qm1 hr (au (aq 4) (au (aq 6) aC))) sc_qn.nd) (aX (cM (bZ FW dc' (aq 7) kj (bM _)) (aP (bF 8 (cl G_qv hr (au (cl G_qk1 hr (au (aq 4) (au (aq 2) (au (cl G_qh1 hr (au (aq 7) (au (aq 7) aC))) aC)))) aC)) sc_qn.nd) (aX (bB (cl G_ql1 hr (au (aq 0) (au (cl G_qh1 hr (au (cl G_qZ hr (au (aq 7) (au (dM eO eH rfl T.z_len ‹"1"› (au (aq 0) aC)) aC))) (au (aq 8) aC))) aC)))))) cN)))) (aX (bB kj))))))
 exact q
include G_qi1 G_qH G_qb1 G_qW G_qL G_qm1 G_qc in
theorem uH (T:Txt K mg a) (F:Ent K mg "paper" jw ["roots", "x"]) {R:List D->Res D} {k:Nat} (hk:20<=k) (G_qf1:aM P w K mg base k "paper" R) (G_qo:aM P w K mg base (k + 1) "paper_of_two" (aW 3 5 (eZ R))) :
  aM P w K mg base (k + 2) "paper" (aW 2 5 (dF R)):=by
 have q:=cP P w base (k + 1) (dF R) F sc_qf1 fun _ _ _ _ _ _ _ hr=>by
  unfold dF;exact (aP (cM (bZ (dX hr.units) dW (dM eO eH rfl T.z_len ‹"1"› (au (aq 0) aC)) aA (bM _)) (aX (bB (cl G_qc hr (au (aq 1) aC)))) cN) (aP (bF 2 (cl G_qb1 hr (au (aq 1) aC)) sc_qf1.nd) (aP (cM (iJ (cl G_qH hr (au (aK (aq 2) aA) aC))) (aX (bB (cl G_qo hr (au (as' (aq 0) at' (dY (fK aA))) (au (cJ (au fC aC)) (au (cl G_qL hr (au (aq 0) (au (aK (aq 2) aA) aC))) aC)))))) cN) (aP (bF 3 (cl G_qi1 hr (au (aq 0) (au (aq 1) aC))) sc_qf1.nd) (aP (bF 4 (cl G_qm1 hr (au (as' (aq 0) at' (dY (fK aA))) (au (aq 3) aC))) sc_qf1.nd) (aP (cM (bZ yw wO (aq 4) kj (bM _)) (aX (bB (cJ (au fC (au (cl G_qf1 hr (au (as' (aq 0) at' (dY (fK aA))) (au (aq 3) aC))) aC))))) cN) (aX (bB (cl G_qo hr (au (as' (aq 0) at' (dY (fK aA))) (au (cJ (au fC (au (aq 4) aC))) (au (cl G_qW hr (au (aK (aq 2) aA) (au (aq 4) aC))) aC))))))))))))
 exact q
include G_qi1 G_qH G_qb1 G_qW G_qL G_qm1 G_qc in
theorem lJ (T:Txt K mg a) (F:Ent K mg "paper" jw ["roots", "x"]) (S_qo:∀(R:List D->Res D) (k:Nat),20<=k->aM P w K mg base k "paper" R->aM P w K mg base (k + 1) "paper_of_two" (aW 3 5 (eZ R))):∀n,aM P w K mg base (20 + 2 * n) "paper" (fZ n)
 | 0=>kW F _
 | n + 1=>uH G_qi1 G_qH G_qb1 G_qW G_qL G_qm1 G_qc T F (Nat.le_add_right _ _) (lJ T F S_qo n) (S_qo _ _ (Nat.le_add_right _ _) (lJ T F S_qo n))
include G_qi1 G_qH G_qb1 G_qW G_qL G_qm1 G_qc in
theorem x_ (T:Txt K mg a) (F:Ent K mg "paper" jw ["roots", "x"]) (S_qo:∀(R:List D->Res D) (k:Nat),20<=k->aM P w K mg base k "paper" R->aM P w K mg base (k + 1) "paper_of_two" (aW 3 5 (eZ R))) :
  aM P w K mg base 28 "paper" j7:=lJ G_qi1 G_qH G_qb1 G_qW G_qL G_qm1 G_qc T F S_qo 4
theorem uI (T:Txt K mg a) (F:Ent K mg "paper_of_two" t_ ["roots", "ahead", "numbers"]) {R:List D->Res D} {k:Nat} (hk:20<=k) (G_qf1:aM P w K mg base k "paper" R) :
  aM P w K mg base (k + 1) "paper_of_two" (aW 3 5 (eZ R)):=by
 have q:=cP P w base k (eZ R) F sc_qo fun _ _ _ _ _ _ _ hr=>by
  unfold eZ;exact (aP (bF 3 (cl G_qf1 hr (au (aq 0) (au (aK (aq 2) aA) aC))) sc_qo.nd) (aP (cM (bZ yw wO (aq 3) kj (bM _)) (aX (bB kj)) cN) (aP (bF 4 (cl G_qf1 hr (au (aq 0) (au (aK (aq 2) aA) aC))) sc_qo.nd) (aP (cM (bZ yw wO (aq 4) kj (bM _)) (aX (bB kj)) cN) (aX (bB (aU dH dG (aq 1) (cJ (au (aq 3) (au (aq 4) aC))))))))))
 exact q
include G_qO G_qP G_qM G_qf1 G_qe1 G_qB G_qC in
theorem od' (T:Txt K mg a) {f:Addr} {fd:FuncData} (F:Fun K "law" "law" vH f fd) :
  FnOk P w K mg base (pM P w) 29 f fd ["_law_script"] (u_ K iY):=by
 exact Jp (P:=P) (w:=w) (base:=base) (N:=["_law_script", "_law_roots", "_law_below", "_law_one", "_law_told", "_law_cell_here", "_law_thing", "_law_got"]) (ps:=["_law_script"]) (k:=28) (body:=nj) F sc_law fun cdv A outer s H E hr=>by
  unfold nj;exact (aP (bF 1 (cl G_qP hr (au (cl G_qO hr (au (aq 0) (au aA aC))) (au (aU dH dG aA (aU iy iw (cl G_qO hr (au (aq 0) (au aA aC))) aA)) aC))) sc_law.nd) (aP (bF 2 (as' (aq 1) at' (dY (fK aA))) sc_law.nd) (aP (bF 3 (cl G_qM hr (au (aq 0) (au (aq 1) (au (dM eO eH rfl T.z_len ‹"1"› (au (aK (aq 1) (fK aA)) aC)) aC)))) sc_law.nd) (aP (bF 4 (cl G_qf1 hr (au (aq 2) (au (aq 3) aC))) sc_law.nd) (aP (cM (bZ yw wO (aq 4) kj (bM _)) (aX (bF 4 (cJ (au fC (au (cJ (au fC (au aA aC))) aC))) sc_law.nd)) cN) (aP (yz rfl (qx (aU dH dG (qi (au aA aC)) (as' (aq 0) (dY aA) (dY aA)))) (bm' 5 sc_law.nd) (aP (bF 6 (aq 4) sc_law.nd) (aP (cM (bZ zj (jC _) (aU iy iw (aq 5) aA) aA (bM _)) (aX (bF 6 (cl G_qB hr (au (aq 4) (au (aU iM iK (aq 5) aA) aC))) sc_law.nd)) cN) (aP (bF 7 (cl G_qe1 hr (au (aq 2) (au (aq 3) (au (aq 6) aC)))) sc_law.nd) (aX (cM (PWD.pt (jb (jP (iJ (nA T.i_bool (aq 7) (nD rfl T.z_bool ‹"1"›) rfl T.z_isinstance))) (oY (bZ (lM hr.units) lL (aq 7) (cl G_qC hr (au (aq 2) (au (aq 3) (au (aq 6) aC)))) (bM _))))) (aX (bB kh)) cN)))))) (aX (bB kh))))))))
end
end K17
namespace K17
open PySem PySem.Spec PyProof.Rows L2 DL Mine Bk Lean.Grind
local macro_rules
 | `(‹"au"›) => `(jh (aF (ao ‹"m"› (bU Bk.is_tuple)) aV) (aF (ao ‹"G"› (bU Bk.is_str)) aV))
 | `(‹"av"›) => `(aB (aD 3 ‹"h"›) (aB (aD 4 (fU (aj ‹"p"› (aj (aQ (aj (ao (aj ‹2› ‹"g"›) gJ) ‹"E"›)) (aj ‹"L"› (aj (aQ (aj (ao ‹"ag"› gJ) ‹"s"›)) ‹""›)))))) ‹"d"›))
 | `(‹"aw"›) => `(aB (aD 8 (ao (aj (ao (aj (ak 4) (aj (ak 2) (aj (ao (aj (ak 7) ‹"ae"›) fW) ‹""›))) iU) ‹""›) m9)) (aH (ao (aj (ak 0) (aj (ao (aj (ao ‹"ao"› kZ) ‹"aq"›) fW) ‹""›)) jq)))
 | `(‹"ax"›) => `(gU (dI (aF (ao (ak 7) (bU Bk.is_bool)) aV)) (aF (two (ak 7) (ao ‹"q"› oV) fQ) aG))
 | `(‹"ay"›) => `(dI (aF (ao ‹"A"› jJ) aV))
abbrev rc:DS->Res Bool:=(aF (two (two (ak 1) (ak 1) bR) (ak 0) (gW fun i j=>decide (j < i))) aG)
abbrev rb:DS->Out:=(aD 1 (two (two (ak 1) ‹"at"› aN) ‹2› aL))
theorem lO {x n m:Nat} (h:x < 2 ^ n) (e:n<=m):x < 2 ^ m:=Nat.lt_of_lt_of_le h (gj e)
theorem S_ (n g:Int) (hg:g.natAbs < 2 ^ 7900):rc [some (.arg (.int n)),some (.val (.int g))]=.ok (decide (n < g * g)):=by
 have:=cV (lO hg (show 7900<=200000 by decide)) (lO hg (show 7900<=200000 by decide));push_cast [this]
theorem Tc (n g:Int) (hg:g.natAbs < 2 ^ 7900) (h:g≠0):rb [some (.arg (.int n)),some (.val (.int g))]=.nxt [some (.arg (.int n)),some (.val (.int (Int.fdiv (g + Int.fdiv n g) 2)))]:=by
 have d1:=pQ (a:=n) h (lO hg (show 7900<=8000 by decide));have d2:=pQ (a:=g + Int.fdiv n g) (show (2:Int)≠0 by decide) (lO (show Int.natAbs 2 < 2 ^ 2 by decide) (show 2<=8000 by decide));push_cast [d1,d2]
theorem fr' {n:Int} (hn:0<=n):∀(m:Nat) (g:Int),0<=g->bL n<=g->g.natAbs < 2 ^ 7900->g.toNat < m ->
  bK rc rb m [some (.arg (.int n)),some (.val (.int g))]=.nxt [some (.arg (.int n)),some (.val (.int (bL n)))]
 | 0,_,_,_,_,h=>absurd h (Nat.not_lt_zero _)
 | m + 1,g,g0,hg,hl,h=>by
  have t:=S_ n g hl
  by_cases c:n < g * g
  ·obtain ⟨a1,a2,a3,a4⟩:=nD' hn hg c g0;rw [_root_.decide_eq_true c] at t;refine Eq.trans (hK' t (Tc n g hl (by omega))) ?_;exact fr' hn m _ a2 a1 (by omega) (by omega)
  ·rw [_root_.decide_eq_false c] at t;rw [hL' t,hG' hn hg c g0]
theorem Hf {n:Int} (hn:0<=n) (hl:aJ n<=15000):rJ [.int n]=.ok (.int (bL n)):=by
 show outD (rH [some (.arg (.int n)),none])=_;unfold rH;have hb:n.natAbs < 2 ^ aJ n:=natAbs_lt_pow_bits n;have hnn:¬n < 0:=by omega
 have e2:Int.fdiv ((aJ n:Nat) + 1:Int) 2=(((aJ n + 1) / 2:Nat):Int):=by rw [zN]; omega
 have d2:=pQ (a:=(aJ n:Nat) + 1) (show (2:Int)≠0 by decide) (lO (show Int.natAbs 2 < 2 ^ 2 by decide) (show 2<=8000 by decide));rw [e2] at d2;have sh:iZ (.int 1) (.int (((aJ n + 1) / 2:Nat):Int))=.ok (.int (2 ^ ((aJ n + 1) / 2))):=by
  simp only [iZ];rw [if_pos ⟨by omega,by omega,by decide⟩,Int.toNat_natCast,Int.one_mul]
 have p0:(0:Int) < 2 ^ ((aJ n + 1) / 2):=Int.pow_pos (by decide);have pc:(((2 ^ ((aJ n + 1) / 2):Nat)):Int)=2 ^ ((aJ n + 1) / 2):=by simp
 have big:bL n<=2 ^ ((aJ n + 1) / 2):=by
  have r:=(yD hn).1;refine JZ (Int.le_of_lt p0) ?_;have a1:(2 ^ aJ n:Nat)<=2 ^ ((aJ n + 1) / 2) * 2 ^ ((aJ n + 1) / 2):=by
   rw [<- Nat.pow_add]; exact Nat.pow_le_pow_right (by decide) (by omega)
  have a2:(((2 ^ ((aJ n + 1) / 2) * 2 ^ ((aJ n + 1) / 2):Nat)):Int)=2 ^ ((aJ n + 1) / 2) * 2 ^ ((aJ n + 1) / 2):=by simp
  have a3:((2:Int) ^ ((aJ n + 1) / 2) + 1) * (2 ^ ((aJ n + 1) / 2) + 1)=2 ^ ((aJ n + 1) / 2) * 2 ^ ((aJ n + 1) / 2) + 2 * 2 ^ ((aJ n + 1) / 2) + 1:=by
   rw [Int.add_mul,Int.mul_add]; omega
  rw [a3];omega
 have lt:((2:Int) ^ ((aJ n + 1) / 2)).natAbs < 2 ^ 7900:=by
  rw [<- pc,Int.natAbs_natCast];exact Nat.pow_lt_pow_right (by decide) (by omega)
 generalize (2:Int) ^ ((aJ n + 1) / 2)=g at *;obtain ⟨fl,fu,fg⟩:∃k,gf [some (.arg (.int n)),some (.val (.int g))]=k/\g.toNat < k:=⟨g.natAbs + 1,rfl,by omega⟩;have lp:=fr' hn fl g (Int.le_of_lt p0) big lt fg;have wh:∀f:DS->Out,(jj gf rc rb [some (.arg (.int n)),some (.val (.int g))]).seq f=f [some (.arg (.int n)),some (.val (.int (bL n)))]:=fun f=>by
  rw [Ri,fu,lp,sq_nxt]
 have bg:ji (.int n) []=.ok (.int (aJ n)):=rfl;push_cast [hnn,bg,d2,sh,wh]
section
variable {F:OF}
theorem CK {p q a b ρ:F.C} (h1:p * p + q * q * ρ=a) (h2:p * q + q * p=b) (hb:b=0):(q=0/\a=p * p)\/(p=0/\a=q * q * ρ):=by
 have h:p * q=0:=by grind
 rcases Classical.em (q=0) with c | c
 ·left; exact ⟨c,by rw [c] at h1; grind⟩
 ·right
  have:p=0:=by grind
  exact ⟨this,by rw [this] at h1; grind⟩
theorem Ed {q ρ s:F.C} (hn:∀z:F.C,z * z≠ρ) (q0:q≠0):s * s≠q * q * ρ:=fun e=>hn (s / q) (by grind)
theorem yc {p q a b ρ:F.C} (h1:p * p + q * q * ρ=a) (h2:p * q + q * p=b):a * a - b * b * ρ=(p * p - q * q * ρ) * (p * p - q * q * ρ):=by grind
theorem CN {p q a ρ:F.C} (h1:p * p + q * q * ρ=a):a + (p * p - q * q * ρ)=2 * (p * p):=by grind
theorem Hg {p q a ρ:F.C} (h1:p * p + q * q * ρ=a):a - (p * p - q * q * ρ)=2 * (q * q * ρ):=by grind
theorem yG {x y:F.C} (h:x=2 * y):x / 2=y:=by grind
theorem fR' {a b n u ρ:F.C} (hn:a * a - b * b * ρ=n * n) (hu:u * u=(a + n) / 2) (u0:u≠0):u * u + b / (u + u) * (b / (u + u)) * ρ=a/\u * (b / (u + u)) + b / (u + u) * u=b:=by
 have e:4 * (u * u) * ((a - n) / 2)=b * b * ρ:=by grind
 have e2:b / (u + u) * (b / (u + u)) * ρ=(a - n) / 2:=by grind
 constructor <;> grind
theorem mu' {a b n u ρ:F.C} (hn:a * a - b * b * ρ=n * n) (hu:u * u=(a + n) / 2) (b0:b≠0) (r0:0 < ρ):u≠0:=fun z=>by
 rw [z] at hu;have h:a + n=0:=by grind
 have e:b * b * ρ=0:=by grind
 have:b * b≠0:=by grind
 grind
theorem fs_abs {z:F.C}:fabs z * fabs z=z * z:=by unfold fabs; split <;> grind
theorem uU (z:F.C):0<=fabs z:=by unfold fabs; split <;> grind
end
section
variable {rs:List (List Int)} {F:OF} {of:List Int->F.C}
theorem K9 (T:Tow rs F of) {r:List Int} {hr:0 < of r} {hn:∀z:F.C,z * z≠of r} (hl:r.length=2 ^ rs.length) {α β:Nat} {d e:D} {p q:F.C} (h1:Nm of rs.length α d p) (h2:Nm of rs.length β e q) {z:(bH F (of r) hr hn).C} (za:Ext.a (r:=of r) z=p) (zb:Ext.b (r:=of r) z=q) :
  ∃w,Nm (bN of r hr hn) (rs.length + 1) (α + β) w z:=by
 obtain ⟨x,b,rfl,nx,lx,bx,bb,ex⟩:=h1;obtain ⟨y,c,rfl,ny,ly,b_y,bc,ey⟩:=h2;have T':=Tow.cons T r hl hr hn;have pb:=nx.pos;have pc:=ny.pos;have b0:=fO T (show b≠0 by omega);have c0:=fO T (show c≠0 by omega);have ll:(x.map (c * ·)).length=(y.map (b * ·)).length:=by rw [length_map,length_map,lx,ly]
 have L:(x.map (c * ·) ++ y.map (b * ·)).length=2 ^ (r :: rs).length:=by
  rw [length_append,length_map,length_map,lx,ly,length_cons,Nat.pow_succ]; omega
 have B:Bd (α + β) (x.map (c * ·) ++ y.map (b * ·)):=by
  refine Bd.app (fun s hs=>?_) fun s hs=>?_
  ·obtain ⟨t,ht,rfl⟩:=mem_map.mp hs;rw [Nat.add_comm]; exact ik bc (bx t ht)
  ·obtain ⟨t,ht,rfl⟩:=mem_map.mp hs;exact ik bb (b_y t ht)
 have cb:c * b≠0:=by have:=Int.mul_pos pc pb; omega
 obtain ⟨K,w,g,_,_,_,_,_,_,hN⟩:=vo T' (n:=α + β) L cb B (by rw [Nat.add_comm]; exact ik bc bb);refine ⟨num w g,?_⟩;have ev:bN of r hr hn (x.map (c * ·) ++ y.map (b * ·)) / ((c * b:Int):(bH F (of r) hr hn).C)=z:=by
  have cb':=fO T cb;refine (ey' cb' ?_ ?_).symm
  ·rw [za,cF' ll,jm T c lx,ex,Ring.intCast_mul]; grind
  ·rw [zb,xf ll,jm T b ly,ey,Ring.intCast_mul]; grind
 rw [ev] at hN;exact hN
theorem K_ (T:Tow rs F of):∀z:F.C,∃n d,Nm of rs.length n d z:=by
 induction T with
 | nil =>
  intro z;have z':Rat:=z;refine ⟨(Rat.num z).natAbs + (Rat.den z) + 1,num [Rat.num z] (Rat.den z),[Rat.num z],(Rat.den z:Int),rfl,⟨by have:=Rat.den_pos z; omega,?_⟩,rfl,fun t ht=>?_,?_,?_⟩
  ·show gN ((Rat.den z:Int)).natAbs [Rat.num z]=1;have:=Rat.reduced z;unfold gN;simp only [foldl_cons,foldl_nil];rw [Int.natAbs_natCast,Nat.gcd_comm]; exact this
  ·rw [mem_singleton.mp ht];have:=Nat.lt_two_pow_self (n:=(Rat.num z).natAbs + (Rat.den z) + 1);omega
  ·have:=Nat.lt_two_pow_self (n:=(Rat.num z).natAbs + (Rat.den z) + 1);rw [Int.natAbs_natCast]; omega
  ·show z=((Rat.num z:Int):Rat) / ((Rat.den z:Int):Rat);have:=Rat.num_divInt_den z;rw [Rat.divInt_eq_div] at this;exact this.symm
 | @cons rs F of T r hl hr hn ih =>
  intro z;obtain ⟨n,d,h1⟩:=ih (Ext.a (r:=of r) z);obtain ⟨m,e,h2⟩:=ih (Ext.b (r:=of r) z);obtain ⟨w,hw⟩:=K9 T (hr:=hr) (hn:=hn) hl h1 h2 (z:=z) rfl rfl;exact ⟨_,w,hw⟩
end
noncomputable def Qb:Nat->Nat->Nat
 | 0,P=>P / 2 + 1
 | k + 1,P=>Qb k (P + Qb k (2 * P + eT 10 (k + 1)) + 3) + Qb k (P + Qb k (2 * P + eT 10 (k + 1)) + 3 + oB 10 k 11 + eT 10 k)
noncomputable def QO:Nat->Nat->Prop
 | 0,_=>True
 | k + 1,P=>2 * P + eT 10 (k + 1)<=8000/\QO k (2 * P + eT 10 (k + 1))/\QO k (P + Qb k (2 * P + eT 10 (k + 1)) + 3)/\QO k (P + Qb k (2 * P + eT 10 (k + 1)) + 3 + oB 10 k 11 + eT 10 k)/\P + Qb k (2 * P + eT 10 (k + 1)) + 3 + oB 10 k 11 + eT 10 k<=8000
theorem Hh {s P:Nat} (h:s * s < 2 ^ P):s < 2 ^ (P / 2 + 1):=by
 rcases Nat.lt_or_ge s (2 ^ (P / 2 + 1)) with c | c
 ·exact c
 ·exfalso;have a:=Nat.mul_le_mul c c;rw [<- Nat.pow_add] at a;have b:2 ^ P<=2 ^ (P / 2 + 1 + (P / 2 + 1)):=Nat.pow_le_pow_right (by decide) (by omega);omega
section
variable {rs:List (List Int)} {F:OF} {of:List Int->F.C}
theorem Ef (T:Tow rs F of) (h3:rs.length<=3) {P:Nat} {d:D} {u:F.C} (h:Nm of rs.length P d u) (hP:P + 1<=8000):∃e,um [d]=.ok e/\Nm of rs.length (P + 1) e (u / 2):=by
 obtain ⟨x,b,rfl,nx,lx,bx,bb,ex⟩:=h;have pb:=nx.pos;have b2:(2 * b).natAbs < 2 ^ (P + 1):=by rw [Nat.pow_succ]; omega
 obtain ⟨e,ee,he⟩:=KC T h3 (n:=P) (m:=P + 1) lx (show 2 * b≠0 by omega) bx b2 hP;have mu:dj (.int 2) (.int b)=.ok (.int (2 * b)):=by
  unfold dj;exact if_pos (.inr (.inl (intBits_le (show Int.natAbs 2 < 2 ^ 64 by decide))))
 refine ⟨e,?_,?_⟩
 ·show outD (uh [some (.arg (num x b))])=_;unfold uh;push_cast [mu,ee]
 ·have b0:=fO T (show b≠0 by omega);have ev:of x / ((2 * b:Int):F.C)=u / 2:=by
   rw [ex,Ring.intCast_mul];have:((2:Int):F.C)=2:=by rw [show (2:Int)=1 + 1 from rfl,Ring.intCast_add,Ring.intCast_one]; grind
   rw [this]; grind
  rw [ev] at he;exact he.mono (by omega)
theorem Hi (T:Tow rs F of):(2:F.C)≠0:=by
 have:=fO T (k:=2) (by decide);rw [show (2:Int)=1 + 1 from rfl,Ring.intCast_add,Ring.intCast_one] at this
 grind
theorem Hj {a N q ρ:F.C} (t0:(2:F.C)≠0) (r0:0 < ρ) (h:a - N=2 * (q * q * ρ)):q * q=(a - N) / 2 / ρ:=by
 have:ρ≠0:=by grind
 grind
theorem Hl {a N p:F.C} (t0:(2:F.C)≠0) (h:a + N=2 * (p * p)):p * p=(a + N) / 2:=by grind
theorem qb (T:Tow rs F of):∀{P:Nat} {d:D} {v z:F.C},rs.length<=3->(∀r∈rs,Bd 10 r)->Nm of rs.length P d v->z * z=v->QO rs.length P->∃e,Nm of rs.length (Qb rs.length P) e z:=by
 induction T with
 | nil =>
  intro P d v z _ _ hd hz _;have T:=Tow.nil;obtain ⟨n,e,he⟩:=K_ T z;obtain ⟨x,w,rfl,nx,lx,bx,bw,ex⟩:=he
  match x,lx with
  | [s],_ =>
   have pw:=nx.pos;have cop:Nat.gcd w.natAbs s.natAbs=1:=by
    have:=nx.one;unfold gN at this;simpa using this
   have nf2:Nf [s * s] (w * w):=by
    refine ⟨Int.mul_pos pw pw,?_⟩;unfold gN;simp only [foldl_cons,foldl_nil];rw [Int.natAbs_mul,Int.natAbs_mul];have c1:Nat.Coprime w.natAbs s.natAbs:=cop;exact Nat.Coprime.mul_left (Nat.Coprime.mul_right c1 c1) (Nat.Coprime.mul_right c1 c1)
   have h2:Nm (fun x:List Int=>((x.headD 0:Int):ratOF.C)) ([]:List (List Int)).length (n + n) (num [s * s] (w * w)) v:=by
    refine ⟨_,_,rfl,nf2,rfl,fun t ht=>?_,ik bw bw,?_⟩
    ·rw [mem_singleton.mp ht]; exact ik (bx s (by simp)) (bx s (by simp))
    ·have w0:=fO T (show w≠0 by omega);rw [<- hz,ex];show ((s:Int):ratOF.C) / (w:ratOF.C) * (((s:Int):ratOF.C) / (w:ratOF.C))=(((s * s:Int)):ratOF.C) / ((w * w:Int):ratOF.C);rw [Ring.intCast_mul,Ring.intCast_mul]; grind
   have eq:=iT T h2 hd;obtain ⟨y,c,ed,ny,ly,b_y,bc,_⟩:=hd;rw [ed] at eq;simp only [num,D.tup.injEq,map_cons,map_nil,List.cons.injEq,D.int.injEq,and_true] at eq;obtain ⟨q1,q2⟩:=eq;have sP:(s * s).natAbs < 2 ^ P:=by
    match y,ly,q1,b_y with
    | [t],_,q1,b_y =>
     simp at q1;rw [q1]; exact b_y t (by simp)
   have wP:(w * w).natAbs < 2 ^ P:=by rw [q2]; exact bc
   rw [Int.natAbs_mul] at sP wP;refine ⟨num [s] w,[s],w,rfl,nx,rfl,fun t ht=>?_,Hh wP,ex⟩;rw [mem_singleton.mp ht]; exact Hh sP
 | @cons rs F of T r hl hr hn ih =>
  intro P d v z h3 hrs hd hz hQ;have h3':rs.length < 3:=by rw [length_cons] at h3; omega
  obtain ⟨o1,o2,o3,o4,o5⟩:=(show 2 * P + eT 10 (rs.length + 1)<=8000/\QO rs.length (2 * P + eT 10 (rs.length + 1))/\QO rs.length (P + Qb rs.length (2 * P + eT 10 (rs.length + 1)) + 3)/\QO rs.length (P + Qb rs.length (2 * P + eT 10 (rs.length + 1)) + 3 + oB 10 rs.length 11 + eT 10 rs.length)/\P + Qb rs.length (2 * P + eT 10 (rs.length + 1)) + 3 + oB 10 rs.length 11 + eT 10 rs.length<=8000 from hQ)
  have hr1:=hrs r (by simp);have hrs':∀s∈rs,Bd 10 s:=fun s hs=>hrs s (mem_cons_of_mem _ hs);have t0:=Hi T;obtain ⟨da,db,_,ha,hb⟩:=iV T h3' hd (by omega);obtain ⟨dn,_,hN⟩:=jr T h3' hl hr1 hrs' hd o1;have e1:Ext.a (r:=of r) z * Ext.a (r:=of r) z + Ext.b (r:=of r) z * Ext.b (r:=of r) z * of r=Ext.a (r:=of r) v:=by rw [<- hz]; rfl
  have e2:Ext.a (r:=of r) z * Ext.b (r:=of r) z + Ext.b (r:=of r) z * Ext.a (r:=of r) z=Ext.b (r:=of r) v:=by rw [<- hz]; rfl
  have en:Ext.nrm (r:=of r) v=(Ext.a (r:=of r) z * Ext.a (r:=of r) z - Ext.b (r:=of r) z * Ext.b (r:=of r) z * of r) * (Ext.a (r:=of r) z * Ext.a (r:=of r) z - Ext.b (r:=of r) z * Ext.b (r:=of r) z * of r):=yc e1 e2;obtain ⟨dN,hn1⟩:=ih (by omega) hrs' hN en.symm o2;obtain ⟨dp,_,hp⟩:=mW T (by omega) ha hn1 (by omega);obtain ⟨dp2,_,hp2⟩:=Ef T (by omega) hp (by omega);obtain ⟨dm,_,hm⟩:=wB T (by omega) ha hn1 (by omega);obtain ⟨dm2,_,hm2⟩:=Ef T (by omega) hm (by omega);have nr:Nm of rs.length 11 (num r 1) (of r):=⟨r,1,rfl,Dz _,hl,hr1.mono (by decide),by decide,by rw [Ring.intCast_one]; grind⟩;obtain ⟨dq,_,hq⟩:=pC T (by omega) hrs' (hm2.mono (show P + Qb rs.length (2 * P + eT 10 (rs.length + 1)) + 1 + 1<=P + Qb rs.length (2 * P + eT 10 (rs.length + 1)) + 3 by omega)) nr (by grind) o5;obtain ⟨ep,hep⟩:=ih (by omega) hrs' (hp2.mono (show P + Qb rs.length (2 * P + eT 10 (rs.length + 1)) + 1 + 1<=P + Qb rs.length (2 * P + eT 10 (rs.length + 1)) + 3 by omega)) (Hl t0 (CN e1)) o3;obtain ⟨eq,heq⟩:=ih (by omega) hrs' hq (Hj t0 hr (Hg e1)) o4;exact K9 T hl hep heq rfl rfl
end
theorem La {F:OF} {a b:F.C} (h:0 < a) (g:0<=b):0<=a * b:=by
 have q:b=0\/0 < b:=by grind
 rcases q with q | q
 ·rw [q]; grind
 ·have:=cU h q; grind
theorem Td {F:OF} {s w z:F.C} (h:0 < w) (e:z=s / w) (g:0<=z):0<=s:=by
 have a:=La h g;have b:w * z=s:=by rw [e]; grind
 rw [b] at a; exact a
theorem Te {m:Int} (h:0<=m):bL (m * m)=m:=by
 obtain ⟨a,b⟩:=yD (Int.mul_nonneg h h);have c:=zM (m * m);generalize bL (m * m)=r at *;rcases Int.lt_trichotomy r m with q | q | q
 ·exfalso;have:=Int.mul_le_mul (show r + 1<=m by omega) (show r + 1<=m by omega) (by omega) h;omega
 ·exact q
 ·exfalso;have:=Int.mul_lt_mul_of_pos_left q (show 0 < r by omega);have:=Int.mul_le_mul_of_nonneg_right (Int.le_of_lt q) h;omega
theorem Hm {P q:Nat} {t c:Int} {e:D} {v z:ratOF.C} (hd:Nm (fun x:List Int=>((x.headD 0:Int):ratOF.C)) 0 P (num [t] c) v) (he:Nm (fun x:List Int=>((x.headD 0:Int):ratOF.C)) 0 q e z) (hz:z * z=v) :
  ∃s w:Int,e=num [s] w/\0 < w/\t=s * s/\c=w * w/\z=(s:ratOF.C) / (w:ratOF.C):=by
 have T:=Tow.nil;obtain ⟨x,w,rfl,nx,lx,bx,bw,ex⟩:=he
 match x,lx with
 | [s],_ =>
  have pw:=nx.pos;have cop:Nat.Coprime w.natAbs s.natAbs:=by
   have:=nx.one;unfold gN at this;simpa using this
  have nf2:Nf [s * s] (w * w):=by
   refine ⟨Int.mul_pos pw pw,?_⟩;unfold gN;simp only [foldl_cons,foldl_nil];rw [Int.natAbs_mul,Int.natAbs_mul];exact Nat.Coprime.mul_left (Nat.Coprime.mul_right cop cop) (Nat.Coprime.mul_right cop cop)
  have h2:Nm (fun x:List Int=>((x.headD 0:Int):ratOF.C)) ([]:List (List Int)).length (q + q) (num [s * s] (w * w)) v:=by
   refine ⟨_,_,rfl,nf2,rfl,fun t ht=>?_,ik bw bw,?_⟩
   ·rw [mem_singleton.mp ht]; exact ik (bx s (by simp)) (bx s (by simp))
   ·have w0:=fO T (show w≠0 by omega);rw [<- hz,ex];show ((s:Int):ratOF.C) / (w:ratOF.C) * (((s:Int):ratOF.C) / (w:ratOF.C))=(((s * s:Int)):ratOF.C) / ((w * w:Int):ratOF.C);rw [Ring.intCast_mul,Ring.intCast_mul]; grind
  have eq:=iT T h2 hd;simp only [num,D.tup.injEq,map_cons,map_nil,List.cons.injEq,D.int.injEq,and_true] at eq;exact ⟨s,w,rfl,pw,eq.1.symm,eq.2.symm,ex⟩
theorem Lb {P q:Nat} {d e:D} {v z:ratOF.C} (hd:Nm (fun x:List Int=>((x.headD 0:Int):ratOF.C)) 0 P d v) (he:Nm (fun x:List Int=>((x.headD 0:Int):ratOF.C)) 0 q e z) (hz:z * z=v) (z0:0<=z) (hP:P<=7000):m_ [d]=.ok e:=by
 have T:=Tow.nil;have hd':=hd;obtain ⟨x,c,rfl,nx,lx,bx,bc,ex⟩:=hd'
 match x,lx with
 | [t],_ =>
  obtain ⟨s,w,ee,w0,et,ec,ez⟩:=Hm hd he hz;have c0:=nx.pos;have s0:0<=s:=by
   have wp:=pX T w0;have h1:(0:ratOF.C)<=(s:ratOF.C):=Td wp ez z0;rw [<- Ring.intCast_zero] at h1;exact le_int T h1
  have bt:t.natAbs < 2 ^ P:=bx t (by simp);have mu:=cV (a:=t) (b:=c) (lO bt (by omega)) (lO bc (by omega));have etc:t * c=s * w * (s * w):=by rw [et,ec]; grind
  have sw0:0<=s * w:=Int.mul_nonneg s0 (Int.le_of_lt w0);have rt:=Hf (n:=t * c) (by rw [etc]; exact Int.mul_nonneg sw0 sw0) (Nat.le_trans (intBits_le (ik bt bc)) (by omega));rw [etc,Te sw0,<- etc] at rt;have swb:(s * w).natAbs < 2 ^ (P + P):=by
   have h:=ik bt bc;rw [etc,Int.natAbs_mul] at h;exact Nat.lt_of_le_of_lt (Nat.le_mul_self _) h
  have mu2:=cV (a:=s * w) (b:=s * w) (lO swb (by omega)) (lO swb (by omega));rw [<- etc] at mu2;obtain ⟨e',ee',he'⟩:=KC T (by decide) (ts:=[s * w]) (b:=c) (n:=P + P) (m:=P) rfl (by omega) (fun y hy=>by rw [mem_singleton.mp hy]; exact swb) bc (by omega);have ev:(((s * w:Int)):ratOF.C) / (c:ratOF.C)=z:=by
   have w1:=fO T (show w≠0 by omega);rw [ez,ec,Ring.intCast_mul,Ring.intCast_mul]; grind
  have:e'=e:=iT T (v:=z) (ev ▸ he') he;subst this;have ee2:di [.tup [.int (s * w)],.int c]=_:=ee';have nn:¬(t * c < 0):=by rw [etc]; have:=Int.mul_nonneg sw0 sw0; omega
  have ix0:aR (TI [t]) (.int 0)=.ok (.int t):=ix_tup0 _ _;show outD (oJ [some (.arg (num [t] c)),none,none])=_;unfold oJ;push_cast [ix0,mu,nn,rt,mu2,ee2]
theorem of' {P:Nat} {d:D} {v:ratOF.C} (hd:Nm (fun x:List Int=>((x.headD 0:Int):ratOF.C)) 0 P d v) (hz:∀z:ratOF.C,z * z≠v) (hP:P<=7000):m_ [d]=.ok .non:=by
 have T:=Tow.nil;obtain ⟨x,c,rfl,nx,lx,bx,bc,ex⟩:=hd
 match x,lx with
 | [t],_ =>
  have c0:=nx.pos;have bt:t.natAbs < 2 ^ P:=bx t (by simp);have mu:=cV (a:=t) (b:=c) (lO bt (by omega)) (lO bc (by omega));have ix0:aR (TI [t]) (.int 0)=.ok (.int t):=ix_tup0 _ _;show outD (oJ [some (.arg (num [t] c)),none,none])=_;unfold oJ
  by_cases nn:t * c < 0
  ·push_cast [ix0,mu,nn]
  ·have rt:=Hf (n:=t * c) (by omega) (Nat.le_trans (intBits_le (ik bt bc)) (by omega));have wb:(bL (t * c)).natAbs < 2 ^ (P + P):=by
    have h:=ik bt bc;have a:=(yD (show 0<=t * c by omega)).1;have b:=zM (t * c);have k:(bL (t * c)).natAbs * (bL (t * c)).natAbs<=(t * c).natAbs:=by rw [<- Int.natAbs_mul]; have:=Int.mul_nonneg b b; omega
    exact Nat.lt_of_le_of_lt (Nat.le_trans (Nat.le_mul_self _) k) h
   have mu2:=cV (a:=bL (t * c)) (b:=bL (t * c)) (lO wb (by omega)) (lO wb (by omega));have ne:¬(bL (t * c) * bL (t * c)=t * c):=fun q=>by
    refine hz ((bL (t * c):ratOF.C) / (c:ratOF.C)) ?_;have c1:=fO T (show c≠0 by omega);have q':=congrArg (fun i:Int=>(i:ratOF.C)) q;simp only [Ring.intCast_mul] at q';rw [ex];show _=((t:Int):ratOF.C) / (c:ratOF.C)
    grind
   push_cast [ix0,mu,nn,rt,mu2,ne]
theorem Hn {t:gM} {b:DS->Out} {d:D} {ds:List D} {δ δ1:DS} {x:D} (h1:t d δ=some δ1) (h2:b δ1=.ret x):dg t b (d :: ds) δ=.ret x:=by
 rw [dg,h1];dsimp only;rw [h2]
theorem Eg:cO .non .non=.ok (.bl false):=rfl
theorem yH:bQ .non .non=.ok (.bl true):=rfl
section
variable {R:List D->Res D} {G G0 rD da db dn dar e2 o:D} {k:Int}
theorem Ld {e1:D} (cl:cutD G none (some (-1))=.ok G0) (bw:jz [G,da]=.ok (.lst [da,dar])) (r1:R [G0,da]=.ok e1) (n1:cO e1 .non=.ok (.bl true)) (ln:a_ [G]=.ok (.int k)) (lf:kZ [e1,.int k]=.ok e2):aW 2 5 (fY R) [G,da]=.ok e2:=by
 show outD (fY R [some (.arg G),some (.arg da),none,none,none])=_;unfold fY;push_cast [cl,bw,r1,n1,ln,lf]
theorem Tf {w:D} (cl:cutD G none (some (-1))=.ok G0) (bw:jz [G,da]=.ok (.lst [da,dar])) (r1:R [G0,da]=.ok .non) (r2:R [G0,dar]=.ok w) (n1:bQ w .non=.ok (.bl false)) (ix:aR G (.int (-1))=.ok rD) (ov:iU [G0,w,.tup [rD,.int 1]]=.ok o) (tl:m9 [o]=.ok e2):aW 2 5 (fY R) [G,da]=.ok e2:=by
 show outD (fY R [some (.arg G),some (.arg da),none,none,none])=_;unfold fY;push_cast [cl,bw,r1,Eg,r2,n1,ix,ov,tl]
theorem kB' (cl:cutD G none (some (-1))=.ok G0) (bw:jz [G,da]=.ok (.lst [da,dar])) (r1:R [G0,da]=.ok .non) (r2:R [G0,dar]=.ok .non):aW 2 5 (fY R) [G,da]=.ok .non:=by
 show outD (fY R [some (.arg G),some (.arg da),none,none,none])=_;unfold fY;push_cast [cl,bw,r1,Eg,r2,yH]
theorem Tg (cl:cutD G none (some (-1))=.ok G0) (r0:R [G0,dn]=.ok .non):aW 4 9 (h_ R) [G,da,db,dn]=.ok .non:=by
 show outD (h_ R [some (.arg G),some (.arg da),some (.arg db),some (.arg dn),none,none,none,none,none])=_;unfold h_;push_cast [cl,r0,yH]
theorem Le {m u uu bh lu s e nd:D} {z6 z7 z8:Option SV} (r1:R [G0,m]=.ok u) (n1:cO u .non=.ok (.bl true)) (pl:fW [u,u]=.ok uu) (ov:iU [G0,db,uu]=.ok o) (tl:m9 [o]=.ok bh) (ln:a_ [G]=.ok (.int k)) (lf:kZ [u,.int k]=.ok lu) (p2:fW [lu,bh]=.ok s) (sz:jq [G,s]=.ok e) :
  (aB (aD 7 (ao ‹"Y"› R)) (bG ‹"W"› ‹"aw"› Out.nxt)) [some (.val G),some (.val da),some (.val db),some (.val dn),some (.val G0),some (.val nd),some (.val m),z7,z8]=.ret e:=by
 push_cast [r1,n1,pl,ov,tl,ln,lf,p2,sz]
theorem Ho {m nd:D} {z7 z8:Option SV} (r1:R [G0,m]=.ok .non) :
  (aB (aD 7 (ao ‹"Y"› R)) (bG ‹"W"› ‹"aw"› Out.nxt)) [some (.val G),some (.val da),some (.val db),some (.val dn),some (.val G0),some (.val nd),some (.val m),z7,z8]=.nxt [some (.val G),some (.val da),some (.val db),some (.val dn),some (.val G0),some (.val nd),some (.val m),some (.val .non),z8]:=by
 push_cast [r1,Eg]
theorem Hq {nd m1 m2:D} {x:List Int} {b:Int} {out:Out} (hnd:nd=num x b) (cl:cutD G none (some (-1))=.ok G0) (r0:R [G0,dn]=.ok nd) (md:lG [da,nd]=.ok (.lst [m1,m2]))
  (lp:dg (bO 6) (aB (aD 7 (ao ‹"Y"› R)) (bG ‹"W"› ‹"aw"› Out.nxt)) [m1,m2] [some (.val G),some (.val da),some (.val db),some (.val dn),some (.val G0),some (.val nd),none,none,none]=out) (ho:(∃e,out=.ret e)\/∃δ,out=.nxt δ) :
  aW 4 9 (h_ R) [G,da,db,dn]=.ok (match out with | .ret e=>e | _=>.non):=by
 have n1:bQ nd .non=.ok (.bl false):=by rw [hnd]; rfl
 have th:thaw [some (SV.arg G),some (.arg da),some (.arg db),some (.arg dn),some (.val G0),some (.val nd),none,none,none]=[some (.val G),some (.val da),some (.val db),some (.val dn),some (.val G0),some (.val nd),none,none,none]:=rfl;have tn:∀δ,e_ (Out.nxt δ)=.nxt (δ.map (Option.map thaw2)):=fun _=>rfl;have tr:∀d,e_ (Out.ret d)=.ret d:=fun _=>rfl;show outD (h_ R [some (.arg G),some (.arg da),some (.arg db),some (.arg dn),none,none,none,none,none])=_;unfold h_;rcases ho with ⟨e,rfl⟩ | ⟨δ,rfl⟩
 ·push_cast [cl,r0,n1,md,th,lp,tr]
 ·push_cast [cl,r0,n1,md,th,lp,tn]
theorem Lf {d:D} {R:List D->Res D}:aW 2 3 (eG R) [RT [],d]=m_ [d]:=by
 show outD (eG R [some (.arg (RT [])),some (.arg d),none])=_;unfold eG;have ln:a_ [RT []]=.ok (.int 0):=rfl;generalize RT []=G at *
 cases q:m_ [d] with
 | ok a=>push_cast [ln,q]
 | err x=>push_cast [ln,q]
 | stuck =>
  push_cast [ln,q];rfl
theorem Eh {d:D} {l:Nat} (ln:a_ [G]=.ok (.int ((l + 1:Nat):Int))) (ha:cX [d]=.ok (.tup [da,db])) (nb:d7 [db]=.ok (.bl true)) {e:D} (fr:aW 2 5 (fY R) [G,da]=.ok e):aW 2 3 (eG R) [G,d]=.ok e:=by
 have hz:¬(((l + 1:Nat):Int)=0):=by omega
 show outD (eG R [some (.arg G),some (.arg d),none])=_;unfold eG;push_cast [ln,hz,ha,nb,fr]
theorem Ei {d:D} {l:Nat} (ln:a_ [G]=.ok (.int ((l + 1:Nat):Int))) (ha:cX [d]=.ok (.tup [da,db])) (nb:d7 [db]=.ok (.bl false)) (no:dD [G,d]=.ok dn) {e:D} (fr:aW 4 9 (h_ R) [G,da,db,dn]=.ok e):aW 2 3 (eG R) [G,d]=.ok e:=by
 have hz:¬(((l + 1:Nat):Int)=0):=by omega
 show outD (eG R [some (.arg G),some (.arg d),none])=_;unfold eG;push_cast [ln,hz,ha,nb,no,fr]
end
section
variable {rs:List (List Int)} {F:OF} {of:List Int->F.C}
theorem vO (T:Tow rs F of) (h3:rs.length < 3) {r:List Int} {hr:0 < of r} {hn:∀z:F.C,z * z≠of r} {P:Nat} {d:D} {q:F.C} (h:Nm of rs.length P d q) {z:(bH F (of r) hr hn).C} (za:Ext.a (r:=of r) z=0) (zb:Ext.b (r:=of r) z=q) :
  ∃e,m9 [d]=.ok e/\Nm (bN of r hr hn) (rs.length + 1) P e z:=by
 obtain ⟨x,b,rfl,nx,lx,bx,bb,ex⟩:=h;have pb:=nx.pos;have b0:=fO T (show b≠0 by omega);have e8:=mV (k:=rs.length) (by omega);have ll:(List.replicate (2 ^ rs.length) (0:Int)).length=x.length:=by simpa using lx.symm
 refine ⟨num (List.replicate (2 ^ rs.length) 0 ++ x) b,?_,_,_,rfl,⟨pb,?_⟩,?_,Bd.app (fun t ht=>by rw [eq_of_mem_replicate ht]; exact Nat.two_pow_pos P) bx,bb,?_⟩
 ·show outD (uc [some (.arg (num x b))])=_;unfold uc;have lx':((List.map D.int x).length:Int)=((2 ^ rs.length:Nat):Int):=by rw [length_map,lx]
  push_cast [lx',Ka (2 ^ rs.length) (by omega),J7 (a:=List.replicate (2 ^ rs.length) 0) (b:=x) (by rw [length_replicate]; omega)]
 ·rw [DX];have:gN b.natAbs (List.replicate (2 ^ rs.length) 0)=b.natAbs:=by
   generalize 2 ^ rs.length=n
   induction n with
   | zero=>rfl
   | succ n ih =>
    rw [replicate_succ];unfold gN at ih ⊢;rw [foldl_cons];simpa using ih
  rw [this]; exact nx.one
 ·rw [length_append,length_replicate,lx,Nat.pow_succ]; omega
 ·refine ey' b0 ?_ ?_
  ·rw [za,cF' ll,dk' T]; grind
  ·rw [zb,xf ll]; exact ex
theorem yI (hl:∀r:List Int,r.length=r.length) {r:List Int} (lr:r.length=2 ^ rs.length) (br:Bd 10 r):Nm of rs.length 10 (num r 1) (of r) :=
 ⟨r,1,rfl,Dz _,lr,br,by decide,by rw [Ring.intCast_one]; grind⟩
theorem uJ (T:Tow rs F of) (h3:rs.length < 3) (hrs:∀s∈rs,Bd 10 s) {r:List Int} (lr:r.length=2 ^ rs.length) (br:Bd 10 r) {P:Nat} {d:D} {a:F.C} (h:Nm of rs.length P d a) (hP:P + 10 + eT 10 rs.length<=8000) :
  ∃e,jz [RT (r :: rs),d]=.ok (.lst [d,e])/\Nm of rs.length (P + 10 + eT 10 rs.length) e (a * of r):=by
 obtain ⟨e,ee,he⟩:=j4 T (by omega) hrs h (yI (of:=of) (fun _=>rfl) lr br) hP;refine ⟨e,?_,he⟩;have cl:=nO r rs;have ix:=wk r rs;have ee':g8 [RT rs,d,.tup [TI r,.int 1]]=.ok e:=ee;show outD (uq [some (.arg (RT (r :: rs))),some (.arg d)])=_;unfold uq;generalize RT (r :: rs)=G at *;generalize RT rs=G0 at *;push_cast [cl,ix,ee']
theorem uK (T:Tow rs F of) (h3:rs.length<=3) {P Q:Nat} {d e:D} {a n:F.C} (h:Nm of rs.length P d a) (g:Nm of rs.length Q e n) (hP:P + Q + 2<=8000) :
  ∃m1 m2,lG [d,e]=.ok (.lst [m1,m2])/\Nm of rs.length (P + Q + 2) m1 ((a + n) / 2)/\Nm of rs.length (P + Q + 2) m2 ((a - n) / 2):=by
 obtain ⟨x,ex,hx⟩:=mW T h3 h g (by omega);obtain ⟨y,ey,hy⟩:=wB T h3 h g (by omega);obtain ⟨m1,e1,h1⟩:=Ef T h3 hx (by omega);obtain ⟨m2,e2,h2⟩:=Ef T h3 hy (by omega);refine ⟨m1,m2,?_,h1,h2⟩;show outD (uo [some (.arg d),some (.arg e)])=_;unfold uo;push_cast [ex,ey,e1,e2]
end
noncomputable def gB (k:Nat):Nat:=2 + oB 10 k 10 + eT 10 k
noncomputable def dB:Nat->Nat
 | 0=>1
 | k + 1=>2 + dB k + dB k + gB k
noncomputable def cB:Nat->Nat
 | 0=>1
 | k + 1=>dB k + eT 10 (k + 1) + cB k + dB k + 5 + 10 + eT 10 k + cB k + gB k + eT 10 k
section
variable {F:OF}
theorem Hr {p q a b ρ:F.C} (h1:p * p + q * q * ρ=a) (h2:p * q + q * p=b):(p * p - q * q * ρ) * (p * p - q * q * ρ)=a * a - b * b * ρ:=by grind
theorem Hs {p q a ρ D n:F.C} (h1:p * p + q * q * ρ=a) (h3:n=D * (p * p - q * q * ρ)):2 * D * p * (2 * D * p)=2 * D * (D * a + n):=by grind
theorem Ht {p q a ρ D n:F.C} (h1:p * p + q * q * ρ=a) (h3:n=D * (p * p - q * q * ρ)):2 * D * (q * ρ) * (2 * D * (q * ρ))=ρ * (2 * D * (D * a + -n)):=by grind
theorem Hu {p D g x:F.C} (h:x=D * (2 * D * p)):g * x=2 * D * D * g * p:=by grind
theorem Hv {q D g x ρ t:F.C} (r0:ρ≠0) (g0:g≠0) (h:x=D * (2 * D * (q * ρ))) (e:1 / ρ=t / g):x * t=2 * D * D * g * q:=by grind
end
theorem wF {M e:Nat} {k:Int} {x:List Int} (hk:k.natAbs < 2 ^ e) (hx:Bd M x):Bd (e + M) (x.map (k * ·)):=fun t ht=>by
 obtain ⟨a,ha,rfl⟩:=mem_map.mp ht;exact ik hk (hx a ha)
theorem dK' {M:Nat} {x:List Int} (hx:Bd M x):Bd M (x.map fun t=>-t):=fun t ht=>by
 obtain ⟨a,ha,rfl⟩:=mem_map.mp ht;rw [Int.natAbs_neg]; exact hx a ha
section
variable {rs:List (List Int)} {F:OF} {of:List Int->F.C}
theorem Lg (T:Tow rs F of):rs.length<=3->(∀r∈rs,Bd 10 r)->∃D:Int,0 < D/\D.natAbs < 2 ^ dB rs.length/\∀(M:Nat) (y:List Int) (w:F.C),y.length=2 ^ rs.length->Bd M y->w * w=of y->∃x,x.length=2 ^ rs.length/\of x=(D:F.C) * w/\Bd (M / 2 + cB rs.length) x:=by
 induction T with
 | nil =>
  intro _ _;refine ⟨1,by decide,by decide,fun M y w ly by_ hw=>?_⟩
  match y,ly with
  | [t],_ =>
   have tb:t.natAbs < 2 ^ M:=by_ t (by simp);have hd:Nm (fun x:List Int=>((x.headD 0:Int):ratOF.C)) 0 (M + 1) (num [t] 1) (((t:Int):ratOF.C)):=⟨[t],1,rfl,Dz _,rfl,by_.mono (by omega),Nat.one_lt_two_pow (by omega),by
    show ((t:Int):ratOF.C)=((t:Int):ratOF.C) / ((1:Int):ratOF.C);rw [Ring.intCast_one]; grind⟩
   obtain ⟨q,e,he⟩:=K_ Tow.nil w;obtain ⟨s,c,ee,c0,et,ec,ez⟩:=Hm hd he hw;have c1:c=1:=by
    rcases Int.lt_trichotomy c 1 with z | z | z
    ·omega
    ·exact z
    ·have:=Int.mul_lt_mul_of_pos_left z (show 0 < c by omega);omega
   subst c1;refine ⟨[s],rfl,?_,fun a ha=>?_⟩
   ·rw [ez];show ((s:Int):ratOF.C)=((1:Int):ratOF.C) * (((s:Int):ratOF.C) / ((1:Int):ratOF.C));rw [Ring.intCast_one]; grind
   ·rw [mem_singleton.mp ha];have k:s.natAbs * s.natAbs < 2 ^ M:=by rw [<- Int.natAbs_mul,<- et]; exact tb
    exact Hh k
 | @cons rs F of T r hl hr hn ih =>
  intro h3 hrs;rw [length_cons] at h3;have hr1:=hrs r (by simp);have hrs':∀s∈rs,Bd 10 s:=fun s hs=>hrs s (mem_cons_of_mem _ hs);obtain ⟨D,D0,Db,ih⟩:=ih (by omega) hrs';have r0:of r≠0:=fun h=>by rw [h] at hr; grind
  have nr:=yI (of:=of) (fun _=>rfl) hl hr1;have o8:2 + oB 10 rs.length 10 + eT 10 rs.length<=8000:=by
   have:rs.length=0\/rs.length=1\/rs.length=2:=by omega
   rcases this with z | z | z <;> rw [z] <;> decide
  obtain ⟨zi,_,hzi⟩:=pC T (by omega) hrs' (RW T (n:=2) (k:=1) (by decide) (by decide)) nr r0 o8;obtain ⟨ti,g,_,ng,lti,bti,bg,ei⟩:=hzi;have g0:=ng.pos;have gc:=fO T (show g≠0 by omega);rw [Ring.intCast_one] at ei;refine ⟨2 * D * D * g,by have:=Int.mul_pos (Int.mul_pos (Int.mul_pos (show (0:Int) < 2 by decide) D0) D0) g0; exact this,?_,fun M y w ly by_ hw=>?_⟩
  ·have:=ik (ik (ik (show (2:Int).natAbs < 2 ^ 2 by decide) Db) Db) bg;exact this
  ·have e1:Ext.a (r:=of r) w * Ext.a w + Ext.b w * Ext.b w * of r=of (bj y):=congrArg (Ext.a (r:=of r)) hw;have e2:Ext.a (r:=of r) w * Ext.b w + Ext.b w * Ext.a w=of (bf y):=congrArg (Ext.b (r:=of r)) hw;have lA:=jl ly;have en:=Hr e1 e2;rw [<- Ea T hl ly] at en;obtain ⟨xn,ln,on,bn⟩:=ih _ _ _ (DY T.sc hl ly) (D_ hr1 hrs' by_) en;have D2:(2 * D).natAbs < 2 ^ (2 + dB rs.length):=ik (by decide) Db;have lDA:((bj y).map (D * ·)).length=2 ^ rs.length:=by rw [length_map]; exact lA
   have c2:((2:Int):F.C)=2:=Ring.intCast_ofNat 2;have bs:Bd (M + dB rs.length + eT 10 (rs.length + 1) + cB rs.length + 1) (bT ((bj y).map (D * ·)) xn):=Bd.add ((wF Db by_.fr).mono (by omega)) (bn.mono (by omega));have ls:=o_ lDA ln;have o1:of ((bT ((bj y).map (D * ·)) xn).map (2 * D * ·))=2 * (D:F.C) * ((D:F.C) * of (bj y) + of xn):=by
    rw [jm T _ ls,vm T lDA ln,jm T D lA,Ring.intCast_mul,c2]
   obtain ⟨xp,lp,op,bp⟩:=ih _ _ (2 * (D:F.C) * Ext.a w) (by rw [length_map]; exact ls) (wF D2 bs) ((Hs e1 on).trans o1.symm);have lm:(xn.map fun t=>-t).length=2 ^ rs.length:=by rw [length_map]; exact ln
   have bs2:Bd (M + dB rs.length + eT 10 (rs.length + 1) + cB rs.length + 1) (bT ((bj y).map (D * ·)) (xn.map fun t=>-t)):=Bd.add ((wF Db by_.fr).mono (by omega)) ((dK' bn).mono (by omega));have ls2:=o_ lDA lm;have lS:((bT ((bj y).map (D * ·)) (xn.map fun t=>-t)).map (2 * D * ·)).length=2 ^ rs.length:=by rw [length_map]; exact ls2
   have o2:of (pt rs r ((bT ((bj y).map (D * ·)) (xn.map fun t=>-t)).map (2 * D * ·)))=of r * (2 * (D:F.C) * ((D:F.C) * of (bj y) + -of xn)):=by
    rw [xg T hl lS,jm T _ ls2,vm T lDA lm,jm T D lA,yF T ln,Ring.intCast_mul,c2]
   obtain ⟨xq,lq,oq,bq⟩:=ih _ _ (2 * (D:F.C) * (Ext.b w * of r)) (eV rs _ _ T.sc hl lS) (nY rs hrs' hr1 (wF D2 bs2)) ((Ht e1 on).trans o2.symm);have lx1:(xp.map (g * ·)).length=2 ^ rs.length:=by rw [length_map]; exact lp
   have lx2:=eV rs xq ti T.sc lq lti;have ll:(xp.map (g * ·)).length=(pt rs xq ti).length:=lx1.trans lx2.symm;refine ⟨xp.map (g * ·) ++ pt rs xq ti,?_,?_,?_⟩
   ·rw [length_append,lx1,lx2,length_cons,Nat.pow_succ]; omega
   ·have cD:((2 * D * D * g:Int):F.C)=2 * (D:F.C) * (D:F.C) * (g:F.C):=by rw [Ring.intCast_mul,Ring.intCast_mul,Ring.intCast_mul,c2]
    refine Ext.eqs (r:=of r) ?_ ?_
    ·show of (bj _)=((2 * D * D * g:Int):F.C) * Ext.a w + 0 * Ext.b w * of r;rw [cF' ll,jm T g lp,cD,Hu op]; grind
    ·show of (bf _)=((2 * D * D * g:Int):F.C) * Ext.b w + 0 * Ext.a w;rw [xf ll,xg T lq lti,cD,Hv r0 gc oq ei]; grind
   ·refine Bd.app ((wF bg bp).mono ?_) ((nY rs hrs' bq bti).mono ?_)
    ·simp only [length_cons,cB,gB]; omega
    ·simp only [length_cons,cB,gB]; omega
end
noncomputable def eN (k:Nat):Nat:=eT 10 (k + 1) + cB k + dB k
section
variable {F:OF}
theorem Hw {n b m:F.C} (b0:b≠0) (h:n * n=m / (b * b)):b * n * (b * n)=m:=by grind
theorem CP {n b D x:F.C} (b0:b≠0) (d0:D≠0) (h:x=D * (b * n)):x / (D * b)=n:=by grind
theorem Hx {n b D x a:F.C} (b0:b≠0) (d0:D≠0) (t0:(2:F.C)≠0) (h:x=D * (b * n)):(D * a + x) / (2 * (D * b))=(a / b + n) / 2:=by grind
theorem Hy {n b D x a:F.C} (b0:b≠0) (d0:D≠0) (t0:(2:F.C)≠0) (h:x=D * (b * n)):(D * a + -x) / (2 * (D * b))=(a / b - n) / 2:=by grind
end
section
variable {rs:List (List Int)} {F:OF} {of:List Int->F.C}
theorem CQ (T:Tow rs F of) (h3:rs.length < 3) (hrs:∀s∈rs,Bd 10 s) {r:List Int} {hr:0 < of r} {hn:∀z:F.C,z * z≠of r} (hl:r.length=2 ^ rs.length) (hr1:Bd 10 r) {P:Nat} {d:D} {v:(bH F (of r) hr hn).C} (hd:Nm (bN of r hr hn) (rs.length + 1) P d v) {n:F.C} (hv:n * n=Ext.nrm (r:=of r) v) :
  (∃e,Nm of rs.length (P + eN rs.length) e n)/\(∃e,Nm of rs.length (P + eN rs.length + 2) e ((Ext.a (r:=of r) v + n) / 2))/\∃e,Nm of rs.length (P + eN rs.length + 2) e ((Ext.a (r:=of r) v - n) / 2):=by
 obtain ⟨x,b,rfl,nx,lx,bx,bb,ex⟩:=hd;have pb:=nx.pos;have b0:=fO T (show b≠0 by omega);obtain ⟨e1,e2⟩:=zU b0 ex;have t0:=Hi T;obtain ⟨D,D0,Db,ir⟩:=Lg T (by omega) hrs;have d0:=fO T (show D≠0 by omega);have nv:Ext.nrm (r:=of r) v=of (vG r rs x) / ((b:F.C) * (b:F.C)):=by
  show Ext.a v * Ext.a v - Ext.b v * Ext.b v * of r=_;rw [Ea T hl lx,e1,e2];exact (KD b0).symm
 obtain ⟨X,lX,oX,bX⟩:=ir _ _ ((b:F.C) * n) (DY T.sc hl lx) (D_ hr1 hrs bx) (Hw b0 (hv.trans nv));have lA:=jl lx;have lDA:((bj x).map (D * ·)).length=2 ^ rs.length:=by rw [length_map]; exact lA
 have lm:(X.map fun t=>-t).length=2 ^ rs.length:=by rw [length_map]; exact lX
 have hb1:(D * b).natAbs < 2 ^ (dB rs.length + P):=ik Db bb;have hb2:(2 * (D * b)).natAbs < 2 ^ (2 + (dB rs.length + P)):=ik (by decide) hb1;have Dp:=Int.mul_pos D0 pb;have c2:((2:Int):F.C)=2:=Ring.intCast_ofNat 2;refine ⟨?_,?_,?_⟩
 ·obtain ⟨_,y,c,_,_,_,_,_,_,h⟩:=vo T (n:=P + eN rs.length) lX (show D * b≠0 by omega) (bX.mono (by unfold eN; omega)) (Nat.lt_of_lt_of_le hb1 (gj (by unfold eN; omega)));rw [Ring.intCast_mul,CP b0 d0 oX] at h;exact ⟨_,h⟩
 ·obtain ⟨_,y,c,_,_,_,_,_,_,h⟩:=vo T (n:=P + eN rs.length + 2) (o_ lDA lX) (show 2 * (D * b)≠0 by omega) ((Bd.add (n:=P + eN rs.length) ((wF Db bx.fr).mono (by unfold eN; omega)) (bX.mono (by unfold eN; omega))).mono (by omega)) (Nat.lt_of_lt_of_le hb2 (gj (by unfold eN; omega)));rw [vm T lDA lX,jm T D lA,Ring.intCast_mul,Ring.intCast_mul,c2,Hx b0 d0 t0 oX,<- e1] at h;exact ⟨_,h⟩
 ·obtain ⟨_,y,c,_,_,_,_,_,_,h⟩:=vo T (n:=P + eN rs.length + 2) (o_ lDA lm) (show 2 * (D * b)≠0 by omega) ((Bd.add (n:=P + eN rs.length) ((wF Db bx.fr).mono (by unfold eN; omega)) ((dK' bX).mono (by unfold eN; omega))).mono (by omega)) (Nat.lt_of_lt_of_le hb2 (gj (by unfold eN; omega)));rw [vm T lDA lm,jm T D lA,yF T lX,Ring.intCast_mul,Ring.intCast_mul,c2,Hy b0 d0 t0 oX,<- e1] at h;exact ⟨_,h⟩
end
noncomputable def uB (k P q:Nat):Nat:=min q (P + eN k + 2 + cB k + dB k)
mutual
noncomputable def uV:Nat->Nat->Nat->Bool
 | 0,P,_=>decide (P<=7000)
 | k + 1,P,q=>decide (2 * P + eT 10 (k + 1)<=8000) && decide (2 * q + eT 10 (k + 1) < 8000) && decide (P + oB 10 k (uB k P q + 1) + eT 10 k<=8000) && decide (q + 10 + eT 10 k + oB 10 k 10 + eT 10 k<=8000) && decide (P + 10 + eT 10 k<=8000) && decide (P + (P + eN k) + 2<=8000)
  && uV k P q && uL k P && uV k (P + 10 + eT 10 k) (q + 10 + eT 10 k) && uV k (2 * P + eT 10 (k + 1)) (P + eN k) && uV k (P + eN k + 2) (uB k P q) && uL k (P + eN k + 2)
noncomputable def uL:Nat->Nat->Bool
 | 0,P=>decide (P<=7000)
 | k + 1,P=>decide (2 * P + eT 10 (k + 1)<=8000) && decide (P + 10 + eT 10 k<=8000) && decide (P + (P + eN k) + 2<=8000) && uL k P && uL k (P + 10 + eT 10 k) && uL k (2 * P + eT 10 (k + 1)) && uV k (2 * P + eT 10 (k + 1)) (P + eN k) && uL k (P + eN k + 2)
end
section
variable {F:OF}
theorem Hz {b z v x:F.C} (b0:b≠0) (hz:z * z=v) (e:v=x / b):b * z * (b * z)=b * x:=by grind
theorem HB {x b:F.C} (b0:b≠0):2 * x / b=x / b + x / b:=by grind
end
section
variable {rs:List (List Int)} {F:OF} {of:List Int->F.C}
theorem HD (T:Tow rs F of) (h3:rs.length<=3) (hrs:∀r∈rs,Bd 10 r) {P:Nat} {d:D} {v z:F.C} (hd:Nm of rs.length P d v) (hz:z * z=v):∃e,Nm of rs.length (P + cB rs.length + dB rs.length) e z:=by
 obtain ⟨x,b,rfl,nx,lx,bx,bb,ex⟩:=hd;have pb:=nx.pos;have b0:=fO T (show b≠0 by omega);obtain ⟨D,D0,Db,ir⟩:=Lg T h3 hrs;have d0:=fO T (show D≠0 by omega);obtain ⟨X,lX,oX,bX⟩:=ir _ (x.map (b * ·)) ((b:F.C) * z) (by rw [length_map]; exact lx) (wF bb bx) ((Hz b0 hz ex).trans (jm T b lx).symm);have hb1:(D * b).natAbs < 2 ^ (dB rs.length + P):=ik Db bb;have Dp:=Int.mul_pos D0 pb;obtain ⟨_,y,c,_,_,_,_,_,_,h⟩:=vo T (n:=P + cB rs.length + dB rs.length) lX (show D * b≠0 by omega) (bX.mono (by omega)) (Nat.lt_of_lt_of_le hb1 (gj (by omega)));rw [Ring.intCast_mul,CP b0 d0 oX] at h;exact ⟨_,h⟩
theorem Th (T:Tow rs F of) {P:Nat} {d:D} {v:F.C} (hd:Nm of rs.length P d v):∃e,Nm of rs.length (P + 1) e (v + v):=by
 obtain ⟨x,b,rfl,nx,lx,bx,bb,ex⟩:=hd;have pb:=nx.pos;have b0:=fO T (show b≠0 by omega);obtain ⟨_,y,c,_,_,_,_,_,_,h⟩:=vo T (n:=P + 1) (ts:=x.map (2 * ·)) (by rw [length_map]; exact lx) (show b≠0 by omega) (fun t ht=>by
  obtain ⟨a,ha,rfl⟩:=mem_map.mp ht;have:=bx a ha;rw [Nat.pow_succ]; omega) (Nat.lt_of_lt_of_le bb (gj (by omega)))
 rw [jm T 2 lx,show ((2:Int):F.C)=2 from Ring.intCast_ofNat 2,HB b0,<- ex] at h
 exact ⟨_,h⟩
theorem Lh {k a b:Nat} {d:D} {v:F.C} (h:Nm of k a d v) (g:Nm of k b d v):Nm of k (min a b) d v:=by
 rcases Nat.le_total a b with z | z
 ·rw [Nat.min_eq_left z]; exact h
 ·rw [Nat.min_eq_right z]; exact g
end
section
variable {F:OF}
theorem Li {x:F.C} (h:¬0<=x):x < 0:=by grind
theorem Ti {x:F.C} (h:x < 0) (g:0<=x):False:=by grind
theorem Lj {x p y:F.C} (h:x=y * y * p) (hy:y=0) (z:F.C) (hz:z=0):x=z * z:=by rw [h,hy,hz]; grind
theorem ok' {x:F.C} (h:x≠0) (e:x * x=0):False:=by grind
theorem Tj:(0:F.C) * 0=0:=by grind
theorem Tn {u:F.C} (t0:(2:F.C)≠0) (h:u≠0):u + u≠0:=by grind
theorem Ln (x:F.C):x + 0=x:=by grind
theorem Lp (x:F.C):0 + x=x:=by grind
theorem Lq {x y:F.C} (h:x=y):0 * 0 + x=y:=by grind
theorem oo' (x:F.C):0 * x + x * 0=0:=by grind
theorem Tp {q s:F.C} (h:q < 0) (r:0 < s):¬(0<=0 + q * s):=by
 have:=cU (show 0 < -q by grind) r
 grind
theorem Lr {q ρ:F.C}:q * ρ * (q * ρ)=q * q * ρ * ρ:=by grind
theorem pz' {q ρ:F.C} (h:0<=q) (r:0 < ρ):0<=q * ρ:=by
 have:=La r h; grind
theorem Tq {q ρ:F.C} (r:0 < ρ):q * ρ / ρ=q:=by
 have:ρ≠0:=by grind
 grind
theorem Lw {a w ρ:F.C} (r:0 < ρ) (h:w * w=a * ρ):w / ρ * (w / ρ) * ρ=a:=by
 have:ρ≠0:=by grind
 grind
theorem Lx {p q b u:F.C} (t0:(2:F.C)≠0) (p0:p≠0) (h:p * q + q * p=b) (hu:u=fabs p):b / (u + u)=q/\u=p\/b / (u + u)=-q/\u=-p:=by
 unfold fabs at hu
 split at hu
 ·right; subst hu; exact ⟨by grind,rfl⟩
 ·left; subst hu; exact ⟨by grind,rfl⟩
theorem ov' {y z:F.C} (h:y=z\/y=-z) (hz:0<=z):fabs y=z:=by
 unfold fabs;rcases h with h | h <;> subst h <;> split <;> grind
theorem Ly {p q b:F.C} (h:p * q + q * p=b) (b0:b≠0):p≠0/\q≠0:=by constructor <;> (intro z; rw [z] at h; grind)
theorem Lz {a N x:F.C} (h:a - N=x):a + -N=x:=by grind
theorem LC {a N x:F.C} (h:a + N=x):a - -N=x:=by grind
theorem LK {a b n u ρ:F.C} (hn:a * a - b * b * ρ=n * n) (hu:u * u=(a - n) / 2) (u0:u≠0):u * u + b / (u + u) * (b / (u + u)) * ρ=a/\u * (b / (u + u)) + b / (u + u) * u=b:=by
 refine fR' (n:=-n) (by grind) (by grind) u0
theorem lb' {a b n u ρ:F.C} (hn:a * a - b * b * ρ=n * n) (hu:u * u=(a - n) / 2) (b0:b≠0) (r0:0 < ρ):u≠0:=mu' (n:=-n) (a:=a) (b:=b) (ρ:=ρ) (by grind) (by grind) b0 r0
end
section
variable {rs:List (List Int)} {F:OF} {of:List Int->F.C}
theorem Ej {k n:Nat} {d:D} {v:F.C} (h:Nm of k n d v):∃x b,d=num x b:=by
 obtain ⟨x,b,e,_⟩:=h; exact ⟨x,b,e⟩
theorem CT {k n:Nat} {d:D} {v:F.C} (h:Nm of k n d v):cO d .non=.ok (.bl true):=by obtain ⟨x,b,rfl⟩:=Ej h; rfl
theorem Ek {k n:Nat} {d:D} {v:F.C} (h:Nm of k n d v):bQ d .non=.ok (.bl false):=by obtain ⟨x,b,rfl⟩:=Ej h; rfl
open Classical in
theorem CV (T:Tow rs F of) (h3:rs.length<=3) {p:Nat} {d:D} {u:F.C} (h:Nm of rs.length p d u) (c:u=0):d7 [d]=.ok (.bl true):=by rw [G6 T h3 h,_root_.decide_eq_true c]
open Classical in
theorem CW (T:Tow rs F of) (h3:rs.length<=3) {p:Nat} {d:D} {u:F.C} (h:Nm of rs.length p d u) (c:u≠0):d7 [d]=.ok (.bl false):=by rw [G6 T h3 h,_root_.decide_eq_false c]
theorem HF (T:Tow rs F of) (h3:rs.length<=3) {p:Nat} {d:D} {u:F.C} (h:Nm of rs.length p d u):∃e,Nm of rs.length p e (fabs u):=by
 unfold fabs
 split
 ·obtain ⟨e,_,he⟩:=vD T h3 h; exact ⟨e,he⟩
 ·exact ⟨d,h⟩
theorem LQ (T:Tow rs F of):rs.length<=3->(∀r∈rs,Bd 10 r)->∀n,rs.length < n ->
  (∀(P q:Nat) (d e:D) (v z:F.C),Nm of rs.length P d v->Nm of rs.length q e z->z * z=v->0<=z->uV rs.length P q=true->dz n [RT rs,d]=.ok e) /\
  (∀(P:Nat) (d:D) (v:F.C),Nm of rs.length P d v->(∀z:F.C,z * z≠v)->uL rs.length P=true->dz n [RT rs,d]=.ok .non):=by
 induction T with
 | nil =>
  intro _ _ n hn;obtain ⟨m,rfl⟩:∃m,n=m + 1:=⟨n - 1,by have:0 < n:=hn; omega⟩;refine ⟨fun P q d e v z hd he hz z0 ho=>?_,fun P d v hd hz ho=>?_⟩
  ·have ho':P<=7000:=of_decide_eq_true ho;exact (Lf (R:=dz m)).trans (Lb hd he hz z0 ho')
  ·have ho':P<=7000:=of_decide_eq_true ho;exact (Lf (R:=dz m)).trans (of' hd hz ho')
 | @cons rs F of T r hl hr hn ih =>
  intro h3 hrs n hk;rw [length_cons] at h3 hk;obtain ⟨m,rfl⟩:∃m,n=m + 1:=⟨n - 1,by omega⟩;have T':=Tow.cons T r hl hr hn;have hr1:=hrs r (by simp);have hrs':∀s∈rs,Bd 10 s:=fun s hs=>hrs s (mem_cons_of_mem _ hs);obtain ⟨ihA,ihB⟩:=ih (by omega) hrs' m (by omega);have t0:=Hi T;have h3':rs.length < 3:=by omega
  have cl:=nO r rs;have ix:=wk r rs;have ln:a_ [RT (r :: rs)]=.ok (.int ((rs.length + 1:Nat):Int)):=by
   show Res.ok (D.int (((r :: rs).reverse.map TI).length:Int))=_;rw [length_map,length_reverse,length_cons]
  have nr:=yI (of:=of) (fun _=>rfl) hl hr1;refine ⟨fun P q d e v z hd he hz z0 ho=>?_,fun P d v hd hz ho=>?_⟩
  ·
   have ho':uV (rs.length + 1) P q=true:=ho;simp only [uV,Bool.and_eq_true,decide_eq_true_eq] at ho';obtain ⟨⟨⟨⟨⟨⟨⟨⟨⟨⟨⟨o1,o2⟩,o3⟩,o4⟩,o5⟩,o6⟩,a1⟩,b1⟩,a2⟩,a3⟩,a4⟩,b2⟩:=ho';have e1:Ext.a (r:=of r) z * Ext.a (r:=of r) z + Ext.b (r:=of r) z * Ext.b (r:=of r) z * of r=Ext.a (r:=of r) v:=by rw [<- hz]; rfl
   have e2:Ext.a (r:=of r) z * Ext.b (r:=of r) z + Ext.b (r:=of r) z * Ext.a (r:=of r) z=Ext.b (r:=of r) v:=by rw [<- hz]; rfl
   obtain ⟨da,db,ed,ha,hb⟩:=iV T h3' hd (by omega);obtain ⟨ea,eb,_,hea,heb⟩:=iV T h3' he (by omega)
   by_cases c:Ext.b (r:=of r) v=0
   ·obtain ⟨dar,ebw,har⟩:=uJ T h3' hrs' hl hr1 ha o5;have nb:=CV T (by omega) hb c;rcases CK e1 e2 c with ⟨q0,ea2⟩ | ⟨p0,ea2⟩
    ·
     have p0:0<=Ext.a (r:=of r) z:=by
      have ez:z=em (Ext.a (r:=of r) z):=Ext.eqs (r:=of r) rfl q0;rcases Classical.em (0<=Ext.a (r:=of r) z) with g | g
      ·exact g
      ·exfalso;have lt:=K7 (hr:=hr) (hn:=hn) (Li g);rw [<- ez,Hc] at lt;exact Ti lt z0
     have r1:=ihA P q da ea _ _ ha hea ea2.symm p0 a1;obtain ⟨e',el,hl'⟩:=Eb T h3' (hr:=hr) (hn:=hn) hea;have ev:em (Ext.a (r:=of r) z)=z:=(Ext.eqs (r:=of r) rfl q0:z=em (Ext.a (r:=of r) z)).symm;rw [ev] at hl';have:e'=e:=iT T' hl' he;subst this;exact Eh ln ed nb (Ld cl ebw r1 (CT hea) ln el)
    ·
     have zq:0<=Ext.b (r:=of r) z:=by
      rcases Classical.em (0<=Ext.b (r:=of r) z) with g | g
      ·exact g
      ·exfalso;have lt:=K7 (hr:=hr) (hn:=hn) (Li g);rw [Hc] at lt;have sp:=S9 z;rw [p0,Hc] at sp;have rp:=S8 (hr:=hr) (hn:=hn);exact absurd z0 (by rw [sp]; exact Tp lt rp)
     by_cases qz:Ext.b (r:=of r) z=0
     ·
      have a0:Ext.a (r:=of r) v=Ext.a (r:=of r) z * Ext.a (r:=of r) z:=Lj ea2 qz _ p0;have r1:=ihA P q da ea _ _ ha hea a0.symm (by rw [p0]; exact Std.le_refl _) a1;obtain ⟨e',el,hl'⟩:=Eb T h3' (hr:=hr) (hn:=hn) hea;have ev:em (Ext.a (r:=of r) z)=z:=(Ext.eqs (r:=of r) rfl qz:z=em (Ext.a (r:=of r) z)).symm;rw [ev] at hl';have:e'=e:=iT T' hl' he;subst this;exact Eh ln ed nb (Ld cl ebw r1 (CT hea) ln el)
     ·have r1:=ihB P da _ ha (fun s hs=>Ed (s:=s) hn qz (hs.trans ea2)) b1;obtain ⟨w,_,hw⟩:=j4 T (by omega) hrs' heb nr (by omega);have sq:Ext.b (r:=of r) z * of r * (Ext.b (r:=of r) z * of r)=Ext.a (r:=of r) v * of r:=by rw [ea2]; exact Lr
      have r2:=ihA _ _ dar w _ _ har hw sq (pz' zq hr) a2;obtain ⟨o,eo,ho2⟩:=pC T (by omega) hrs' hw nr (ps' hr) o4;rw [Tq hr] at ho2;obtain ⟨e',et,hl'⟩:=vO T h3' (hr:=hr) (hn:=hn) ho2 (z:=z) p0 rfl;have:e'=e:=iT T' hl' he;subst this;exact Eh ln ed nb (Tf cl ebw r1 r2 (Ek hw) ix eo et)
   ·
    have nb:=CW T (by omega) hb c;obtain ⟨dn,en,hN⟩:=jr T h3' hl hr1 hrs' hd o1;have nv:Ext.nrm (r:=of r) v=Ext.nrm (r:=of r) z * Ext.nrm (r:=of r) z:=yc e1 e2;have hn1:fabs (Ext.nrm (r:=of r) z) * fabs (Ext.nrm (r:=of r) z)=Ext.nrm (r:=of r) v:=fs_abs.trans nv.symm;obtain ⟨⟨nd,hnd⟩,⟨j1,hk1⟩,j2,hk2⟩:=CQ T h3' hrs' hl hr1 hd hn1;have r0:=ihA _ _ dn nd _ _ hN hnd hn1 (uU _) a3;obtain ⟨pz,qz⟩:=Ly e2 c;obtain ⟨m1,m2,em',hm1,hm2⟩:=uK T (by omega) ha hnd o6;have g1:=iT T hk1 hm1;have g2:=iT T hk2 hm2;subst g1 g2;clear hm1 hm2;have vs:((Ext.a (r:=of r) v + fabs (Ext.nrm (r:=of r) z)) / 2=Ext.b (r:=of r) z * Ext.b (r:=of r) z * of r/\(Ext.a (r:=of r) v - fabs (Ext.nrm (r:=of r) z)) / 2=Ext.a (r:=of r) z * Ext.a (r:=of r) z)\/(Ext.a (r:=of r) v + fabs (Ext.nrm (r:=of r) z)) / 2=Ext.a (r:=of r) z * Ext.a (r:=of r) z:=by
     rcases Classical.em (Ext.nrm (r:=of r) z < 0) with sg | sg
     ·have fN:fabs (Ext.nrm (r:=of r) z)=-Ext.nrm (r:=of r) z:=by unfold fabs; rw [if_pos sg]
      left
      rw [fN];exact ⟨yG (Lz (Hg e1)),yG (LC (CN e1))⟩
     ·have fN:fabs (Ext.nrm (r:=of r) z)=Ext.nrm (r:=of r) z:=by unfold fabs; rw [if_neg sg]
      right
      rw [fN]; exact yG (CN e1)
    have hmid:∃mm,Nm of rs.length (P + eN rs.length + 2) mm (Ext.a (r:=of r) z * Ext.a (r:=of r) z):=by
     rcases vs with ⟨v1,v2⟩ | v1
     ·rw [v2] at hk2; exact ⟨_,hk2⟩
     ·rw [v1] at hk1; exact ⟨_,hk1⟩
    obtain ⟨u,hu0⟩:=HF T (by omega) hea;obtain ⟨mm,hmm⟩:=hmid;obtain ⟨u',hu'⟩:=HD T (by omega) hrs' hmm (fs_abs (z:=Ext.a (r:=of r) z));have gu:=iT T hu' hu0;subst gu;have hu:Nm of rs.length (uB rs.length P q) u' (fabs (Ext.a (r:=of r) z)):=Lh hu0 hu';have Qq:uB rs.length P q<=q:=Nat.min_le_left _ _;obtain ⟨uu,euu,huu0⟩:=mW T (by omega) hu hu (by omega);obtain ⟨u2,huu⟩:=Th T hu;have gd:=iT T huu huu0;subst gd;have up:fabs (Ext.a (r:=of r) z)≠0:=by
     intro h0;have:Ext.a (r:=of r) z * Ext.a (r:=of r) z=0:=by rw [<- fs_abs,h0]; exact Tj
     exact ok' pz this
    have uu0:fabs (Ext.a (r:=of r) z) + fabs (Ext.a (r:=of r) z)≠0:=Tn t0 up;obtain ⟨o,eo,ho2⟩:=pC T (by omega) hrs' hb huu uu0 o3;obtain ⟨bh,ebh,hbh⟩:=vO T h3' (hr:=hr) (hn:=hn) ho2 (z:=gG hr hn 0 (Ext.b (r:=of r) v / (fabs (Ext.a (r:=of r) z) + fabs (Ext.a (r:=of r) z)))) rfl rfl;obtain ⟨lu,elu,hlu⟩:=Eb T h3' (hr:=hr) (hn:=hn) hu;have val:em (fabs (Ext.a (r:=of r) z)) + gG hr hn 0 (Ext.b (r:=of r) v / (fabs (Ext.a (r:=of r) z) + fabs (Ext.a (r:=of r) z)))=z\/em (fabs (Ext.a (r:=of r) z)) + gG hr hn 0 (Ext.b (r:=of r) v / (fabs (Ext.a (r:=of r) z) + fabs (Ext.a (r:=of r) z)))=-z:=by
     rcases Lx t0 pz e2 rfl with ⟨x1,x2⟩ | ⟨x1,x2⟩
     ·left
      refine Ext.eqs (r:=of r) ?_ ?_
      ·show fabs (Ext.a (r:=of r) z) + 0=Ext.a (r:=of r) z;rw [x2]; exact Ln _
      ·show 0 + _=Ext.b (r:=of r) z;rw [x1]; exact Lp _
     ·right
      refine Ext.eqs (r:=of r) ?_ ?_
      ·show fabs (Ext.a (r:=of r) z) + 0=-Ext.a (r:=of r) z;rw [x2]; exact Ln _
      ·show 0 + _=-Ext.b (r:=of r) z;rw [x1]; exact Lp _
    have hbhb:∃bb,Nm (bN of r hr hn) (rs.length + 1) q bb (gG hr hn 0 (Ext.b (r:=of r) v / (fabs (Ext.a (r:=of r) z) + fabs (Ext.a (r:=of r) z)))):=by
     rcases Lx t0 pz e2 rfl with ⟨x1,x2⟩ | ⟨x1,x2⟩
     ·rw [x1];obtain ⟨bb,_,hbb⟩:=vO T h3' (hr:=hr) (hn:=hn) heb (z:=gG hr hn 0 (Ext.b (r:=of r) z)) rfl rfl;exact ⟨bb,hbb⟩
     ·rw [x1];obtain ⟨nb',_,hnb⟩:=vD T (by omega) heb;obtain ⟨bb,_,hbb⟩:=vO T h3' (hr:=hr) (hn:=hn) hnb (z:=gG hr hn 0 (-Ext.b (r:=of r) z)) rfl rfl;exact ⟨bb,hbb⟩
    obtain ⟨bb,hbb⟩:=hbhb;have:bh=bb:=iT T' hbh hbb;subst this;obtain ⟨s,es,hs⟩:=mW T' (by rw [length_cons]; omega) hlu hbb (by omega);obtain ⟨e',ee,he'⟩:=zX T' (by rw [length_cons]; omega) hrs hs (Ha (by rw [length_cons]; omega) (by omega));rw [ov' val z0] at he';have:e'=e:=iT T' he' he;subst this;obtain ⟨xn,bn,en'⟩:=Ej hnd;rcases vs with ⟨v1,v2⟩ | v1
    ·rw [v1] at hk1;rw [v2] at hk2;have r1:=ihB _ _ _ hk1 (fun s hs=>Ed hn qz hs) b2;have r2:=ihA _ _ _ u' _ _ hk2 hu fs_abs (uU _) a4;have lp:=Eq.trans (cs' (t:=bO 6) (d:=j1) (ds:=[j2]) (δ:=[some (.val (RT (r :: rs))),some (.val da),some (.val db),some (.val dn),some (.val (RT rs)),some (.val nd),none,none,none]) rfl (Ho (R:=dz m) (G:=RT (r :: rs)) (G0:=RT rs) (da:=da) (db:=db) (dn:=dn) (nd:=nd) (z7:=none) (z8:=none) r1)) (Hn (ds:=[]) rfl (Le (R:=dz m) (G:=RT (r :: rs)) (G0:=RT rs) (da:=da) (db:=db) (dn:=dn) (nd:=nd) (z6:=none) (z7:=some (.val .non)) (z8:=none) r2 (CT hu) euu eo ebh ln elu es ee));exact Ei ln ed nb en (Hq en' cl r0 em' lp (.inl ⟨_,rfl⟩))
    ·rw [v1] at hk1;have r1:=ihA _ _ _ u' _ _ hk1 hu fs_abs (uU _) a4;have lp:=Hn (t:=bO 6) (d:=j1) (ds:=[j2]) (δ:=[some (.val (RT (r :: rs))),some (.val da),some (.val db),some (.val dn),some (.val (RT rs)),some (.val nd),none,none,none]) rfl (Le (R:=dz m) (G:=RT (r :: rs)) (G0:=RT rs) (da:=da) (db:=db) (dn:=dn) (nd:=nd) (z6:=none) (z7:=none) (z8:=none) r1 (CT hu) euu eo ebh ln elu es ee);exact Ei ln ed nb en (Hq en' cl r0 em' lp (.inl ⟨_,rfl⟩))
  ·
   have ho':uL (rs.length + 1) P=true:=ho;simp only [uL,Bool.and_eq_true,decide_eq_true_eq] at ho';obtain ⟨⟨⟨⟨⟨⟨⟨o1,o2⟩,o3⟩,b1⟩,b2⟩,b3⟩,a1⟩,b4⟩:=ho';obtain ⟨da,db,ed,ha,hb⟩:=iV T h3' hd (by omega)
   by_cases c:Ext.b (r:=of r) v=0
   ·obtain ⟨dar,ebw,har⟩:=uJ T h3' hrs' hl hr1 ha o2;have nb:=CV T (by omega) hb c;have r1:=ihB P da _ ha (fun s hs=>hz (em s) (by rw [<- G7,hs]; exact (Ext.eqs (r:=of r) rfl c:v=em (Ext.a (r:=of r) v)).symm)) b1;have r2:=ihB _ dar _ har (fun s hs=>hz (gG hr hn 0 (s / of r)) (by
     refine Ext.eqs (r:=of r) ?_ ?_
     ·show 0 * 0 + s / of r * (s / of r) * of r=Ext.a (r:=of r) v;exact Lq (Lw hr hs)
     ·show 0 * (s / of r) + s / of r * 0=Ext.b (r:=of r) v;rw [c]; exact oo' _)) b2
    exact Eh ln ed nb (kB' cl ebw r1 r2)
   ·have nb:=CW T (by omega) hb c;obtain ⟨dn,en,hN⟩:=jr T h3' hl hr1 hrs' hd o1
    by_cases sq:∃n:F.C,n * n=Ext.nrm (r:=of r) v
    ·obtain ⟨n0,hn0⟩:=sq;have hn1:fabs n0 * fabs n0=Ext.nrm (r:=of r) v:=fs_abs.trans hn0;obtain ⟨⟨nd,hnd⟩,⟨j1,hk1⟩,j2,hk2⟩:=CQ T h3' hrs' hl hr1 hd hn1;have r0:=ihA _ _ dn nd _ _ hN hnd hn1 (uU _) a1;obtain ⟨m1,m2,em',hm1,hm2⟩:=uK T (by omega) ha hnd o3;have g1:=iT T hk1 hm1;have g2:=iT T hk2 hm2;subst g1 g2;have nv:Ext.a (r:=of r) v * Ext.a (r:=of r) v - Ext.b (r:=of r) v * Ext.b (r:=of r) v * of r=fabs n0 * fabs n0:=hn1.symm;have mk:∀u:F.C,(u * u + Ext.b (r:=of r) v / (u + u) * (Ext.b (r:=of r) v / (u + u)) * of r=Ext.a (r:=of r) v/\u * (Ext.b (r:=of r) v / (u + u)) + Ext.b (r:=of r) v / (u + u) * u=Ext.b (r:=of r) v)->False:=fun u hu =>
      hz (gG hr hn u (Ext.b (r:=of r) v / (u + u))) (Ext.eqs (r:=of r) hu.1 hu.2)
     have r1:=ihB _ _ _ hk1 (fun u hu=>mk u (fR' nv hu (mu' nv hu c hr))) b4;have r2:=ihB _ _ _ hk2 (fun u hu=>mk u (LK nv hu (lb' nv hu c hr))) b4;obtain ⟨xn,bn,en'⟩:=Ej hnd;have lp:=Eq.trans (cs' (t:=bO 6) (d:=_) (ds:=[_]) (δ:=[some (.val (RT (r :: rs))),some (.val da),some (.val db),some (.val dn),some (.val (RT rs)),some (.val nd),none,none,none]) rfl (Ho (R:=dz m) (G:=RT (r :: rs)) (G0:=RT rs) (da:=da) (db:=db) (dn:=dn) (nd:=nd) (z7:=none) (z8:=none) r1)) (Eq.trans (cs' (ds:=[]) rfl (Ho (R:=dz m) (G:=RT (r :: rs)) (G0:=RT rs) (da:=da) (db:=db) (dn:=dn) (nd:=nd) (z7:=some (.val .non)) (z8:=none) r2)) Hd);exact Ei ln ed nb en (Hq en' cl r0 em' lp (.inr ⟨_,rfl⟩))
    ·have r0:=ihB _ dn _ hN (fun n hn0=>sq ⟨n,hn0⟩) b3;exact Ei ln ed nb en (Tg cl r0)
end
theorem Tr (T:String) (g:D->List D->Res D) (fo:DS->Res D) (fs:DS->Res (List D)) (δ:DS):o9 T g fo fs δ=(fo δ).bind fun d=>if tyB T d=true then (fs δ).bind fun ds=>g d ds else .stuck:=Eq.trans rfl rfl
theorem Tt (i:Int) (h0:0<=i) (h6:i < 6):∃v1 v2 v3 v4 j:Int,aR (.lst [.int 2,.int 3,.int 5,.int 7,.int 11,.int 13]) (.int i)=.ok (.int v1)/\aR (.lst [.int 2,.int 3,.int 5,.int 7,.int 11,.int 13]) (.int (Int.fmod (i + 1) 6))=.ok (.int v2)/\aR (.lst [.int 2,.int 3,.int 5,.int 7,.int 11,.int 13]) (.int (Int.fmod (i + 2) 6))=.ok (.int v3)/\pP (.lst [.int 2,.int 3,.int 5,.int 7,.int 11,.int 13]) [.int v3]=.ok (.int j)/\aR (.lst [.int 2,.int 3,.int 5,.int 7,.int 11,.int 13]) (.int (Int.fmod (j + 1) 6))=.ok (.int v4)/\v1.natAbs < 2 ^ 10/\v2.natAbs < 2 ^ 10/\v3.natAbs < 2 ^ 10/\v4.natAbs < 2 ^ 10/\eF [[v1]]/\eF [[v2,0],[v1]]/\eF [[v3,0,0,0],[v2,0],[v1]]/\eF [[v4,0,0,0,0,0,0,0],[v3,0,0,0],[v2,0],[v1]]:=by
 have:i=0\/i=1\/i=2\/i=3\/i=4\/i=5:=by omega
 rcases this with z | z | z | z | z | z <;> subst z
 ·exact ⟨2,3,5,7,2,rfl,rfl,rfl,rfl,rfl,by decide,by decide,by decide,by decide,pY [2,3,5,7] (by simp) _ _ _ _ rfl⟩
 ·exact ⟨3,5,7,11,3,rfl,rfl,rfl,rfl,rfl,by decide,by decide,by decide,by decide,pY [3,5,7,11] (by simp) _ _ _ _ rfl⟩
 ·exact ⟨5,7,11,13,4,rfl,rfl,rfl,rfl,rfl,by decide,by decide,by decide,by decide,pY [5,7,11,13] (by simp) _ _ _ _ rfl⟩
 ·exact ⟨7,11,13,2,5,rfl,rfl,rfl,rfl,rfl,by decide,by decide,by decide,by decide,pY [7,11,13,2] (by simp) _ _ _ _ rfl⟩
 ·exact ⟨11,13,2,3,0,rfl,rfl,rfl,rfl,rfl,by decide,by decide,by decide,by decide,pY [11,13,2,3] (by simp) _ _ _ _ rfl⟩
 ·exact ⟨13,2,3,5,1,rfl,rfl,rfl,rfl,rfl,by decide,by decide,by decide,by decide,pY [13,2,3,5] (by simp) _ _ _ _ rfl⟩
theorem Tu (c:Int):∃R1 R2 R3 R4:List Int,R1.length=1/\R2.length=2/\R3.length=4/\R4.length=8/\Bd 10 R1/\Bd 10 R2/\Bd 10 R3/\Bd 10 R4/\(eF [R1]/\eF [R2,R1]/\eF [R3,R2,R1]/\eF [R4,R3,R2,R1])/\(∀level:Nat,mF [.int c,.int level]=.ok (.tup ([TI R1,TI R2,TI R3].take level)))/\∀level:Nat,oM [.int c,.int level]=.ok (.tup ([TI R1,TI R2,TI R3,TI R4].take level)):=by
 have b0:=rN c 0 (m:=6) (by decide);have x0:cY [.int c,.int 0,.int 6]=_:=qm c 0 6 (by decide) (by decide);generalize mix c 0 6=y0 at b0 x0;have sq:(1 + y0) * (1 + y0)<=6 * 6:=Int.mul_le_mul (by omega) (by omega) (by omega) (by decide);have sq0:0<=(1 + y0) * (1 + y0):=Int.mul_nonneg (by omega) (by omega);have b1:=rN c 1 (m:=2 * (1 + y0)) (by omega);have x1:cY [.int c,.int 1,.int (2 * (1 + y0))]=_:=qm c 1 (2 * (1 + y0)) (by decide) (by omega);generalize mix c 1 (2 * (1 + y0))=y1 at b1 x1;have b2:=rN c 2 (m:=3) (by decide);have x2:cY [.int c,.int 2,.int 3]=_:=qm c 2 3 (by decide) (by decide);generalize mix c 2 3=y2 at b2 x2;have b3:=rN c 3 (m:=3) (by decide);have x3:cY [.int c,.int 3,.int 3]=_:=qm c 3 3 (by decide) (by decide);generalize mix c 3 3=y3 at b3 x3;have br:(1 + y2) * (1 + y0)<=3 * 6:=Int.mul_le_mul (by omega) (by omega) (by omega) (by decide);have br0:0<=(1 + y2) * (1 + y0):=Int.mul_nonneg (by omega) (by omega);have b4:=rN c 4 (m:=(1 + y2) * (1 + y0) + 1) (by omega);have x4:cY [.int c,.int 4,.int ((1 + y2) * (1 + y0) + 1)]=_:=qm c 4 ((1 + y2) * (1 + y0) + 1) (by decide) (by omega);generalize mix c 4 ((1 + y2) * (1 + y0) + 1)=y4 at b4 x4;have b5:=rN c 5 (m:=1 + y3) (by omega);have x5:cY [.int c,.int 5,.int (1 + y3)]=_:=qm c 5 (1 + y3) (by decide) (by omega);generalize mix c 5 (1 + y3)=y5 at b5 x5;have x6:cY [.int c,.int 6,.int 3]=_:=qm c 6 3 (by decide) (by decide);generalize mix c 6 3=y6 at x6;have b7:=rN c 7 (m:=6) (by decide);have x7:cY [.int c,.int 7,.int 6]=_:=qm c 7 6 (by decide) (by decide);generalize mix c 7 6=y7 at b7 x7;have big:(1024:Nat)=2 ^ 10:=by decide
 have tiny:∀{a:Int},0<=a->a < 1000->a.natAbs < 2 ^ 1000:=fun {a} h1 h2=>Nat.lt_of_lt_of_le (show a.natAbs < 2 ^ 10 by rw [<- big]; omega) (Nat.pow_le_pow_right (by decide) (by decide));have m1:=wU (a:=1 + y0) (b:=1 + y0) (tiny (by omega) (by omega)) (tiny (by omega) (by omega));have m2:=wU (a:=2) (b:=1 + y0) (tiny (by omega) (by omega)) (tiny (by omega) (by omega));have m3:=wU (a:=1 + y2) (b:=1 + y0) (tiny (by omega) (by omega)) (tiny (by omega) (by omega));have z10:(0:Int).natAbs < 2 ^ 10:=by decide
 by_cases h:y6=0
 ·obtain ⟨v1,v2,v3,v4,j,e1,e2,e3,ej,e4,w1,w2,w3,w4,sc⟩:=Tt y7 b7.1 b7.2;have hs:∀level:Nat,mF [.int c,.int level]=.ok (.tup ([TI [v1],TI [v2,0],TI [v3,0,0,0]].take level)):=fun level=>by
   show outD (nW [some (.arg (.int c)),some (.arg (.int level)),none,none,none,none,none,none,none])=_;unfold nW;push_cast [x0,x1,x2,x3,x4,x5,x6,x7,m1,m2,m3,h,e1,e2,e3,dJ (show (6:Int)≠0 by decide),uP];rfl
  refine ⟨[v1],[v2,0],[v3,0,0,0],[v4,0,0,0,0,0,0,0],rfl,rfl,rfl,rfl,wC w1,jD w2 (wC z10),jD w3 (jD z10 (jD z10 (wC z10))),jD w4 (jD z10 (jD z10 (jD z10 (jD z10 (jD z10 (jD z10 (wC z10))))))),sc,hs,fun level=>?_⟩;have h3:mF [.int c,.int 3]=.ok (.tup [TI [v1],TI [v2,0],TI [v3,0,0,0]]):=hs 3;have i1:aR (.tup [TI [v1],TI [v2,0],TI [v3,0,0,0]]) (.int 1)=.ok (TI [v2,0]):=rfl;have i2:aR (.tup [TI [v1],TI [v2,0],TI [v3,0,0,0]]) (.int 2)=.ok (TI [v3,0,0,0]):=rfl;have i3:aR (TI [v2,0]) (.int 1)=.ok (.int 0):=rfl;have i4:aR (TI [v3,0,0,0]) (.int 0)=.ok (.int v3):=rfl;have tl:tyB "list" (.lst [.int 2,.int 3,.int 5,.int 7,.int 11,.int 13])=true:=rfl;have ad:aN (.tup [TI [v1],TI [v2,0],TI [v3,0,0,0]]) (.tup [.tup [.int v4,.int 0,.int 0,.int 0,.int 0,.int 0,.int 0,.int 0]])=.ok (.tup [TI [v1],TI [v2,0],TI [v3,0,0,0],TI [v4,0,0,0,0,0,0,0]]):=rfl;show outD (oK [some (.arg (.int c)),some (.arg (.int level)),none,none,none,none])=_;unfold oK;push_cast [h3,i1,i2,i3,i4,Tr,tl,ej,e4,dJ (show (6:Int)≠0 by decide),ad,uP]
 ·have ex:(1 + y0 + 1) * (1 + y0 + 1)=(1 + y0) * (1 + y0) + 2 * (1 + y0) + 1:=by grind
  have b8:=rN c 8 (m:=3) (by decide);have x8:cY [.int c,.int 8,.int 3]=_:=qm c 8 3 (by decide) (by decide);generalize mix c 8 3=y8 at b8 x8;have x9:cY [.int c,.int 9,.int (1 + y8)]=_:=qm c 9 (1 + y8) (by decide) (by omega);have b9:=rN c 9 (m:=1 + y8) (by omega);generalize mix c 9 (1 + y8)=y9 at b9 x9;have sn:=R9 (m:=(1 + y0) * (1 + y0) + 1 + y1) (r:=1 + y0) (c:=y4) (b:=1 + y2) (e:=y5) (k:=1 + y3) (e':=y9) (k':=1 + y8) (by omega) (by omega) (by omega) (by omega) (by omega) (by omega) (by omega) (by omega) (by omega) (by omega);generalize hm:(1 + y0) * (1 + y0) + 1 + y1=M at *;generalize hb:1 + y2=B at *;generalize hk:1 + y3=K at *;have hs:∀level:Nat,mF [.int c,.int level]=.ok (.tup ([TI [M],TI [y4,B],TI [y5,0,K,0]].take level)):=fun level=>by
   show outD (nW [some (.arg (.int c)),some (.arg (.int level)),none,none,none,none,none,none,none])=_;unfold nW;push_cast [x0,x1,x2,x3,hb,hk,x4,x5,x6,m1,m2,m3,hm,h,uP];rfl
  refine ⟨[M],[y4,B],[y5,0,K,0],[y9,0,0,0,1 + y8,0,0,0],rfl,rfl,rfl,rfl,wC (by rw [<- big]; omega),jD (by rw [<- big]; omega) (wC (by rw [<- big]; omega)),jD (by rw [<- big]; omega) (jD z10 (jD (by rw [<- big]; omega) (wC z10))),jD (by rw [<- big]; omega) (jD z10 (jD z10 (jD z10 (jD (by rw [<- big]; omega) (jD z10 (jD z10 (wC z10))))))),sn,hs,fun level=>?_⟩;have h3:mF [.int c,.int 3]=.ok (.tup [TI [M],TI [y4,B],TI [y5,0,K,0]]):=hs 3;have i1:aR (.tup [TI [M],TI [y4,B],TI [y5,0,K,0]]) (.int 1)=.ok (TI [y4,B]):=rfl;have i3:aR (TI [y4,B]) (.int 1)=.ok (.int B):=rfl;have B0:¬(B=0):=by omega
  have ad:aN (.tup [TI [M],TI [y4,B],TI [y5,0,K,0]]) (.tup [.tup [.int y9,.int 0,.int 0,.int 0,.int (1 + y8),.int 0,.int 0,.int 0]])=.ok (.tup [TI [M],TI [y4,B],TI [y5,0,K,0],TI [y9,0,0,0,1 + y8,0,0,0]]):=rfl;show outD (oK [some (.arg (.int c)),some (.arg (.int level)),none,none,none,none])=_;unfold oK;push_cast [h3,i1,i3,B0,x8,x9,ad,uP]
theorem pG (s:Str) (h:PyData.strOk s=true):cH (.str s) (.str s)=.ok (.bl true):=by
 unfold cH; rw [if_pos ⟨h,h⟩]; simp [gO,PyData.eqv]
theorem pH (s:Str) (h:PyData.strOk s=true):fQ (.str s) (.str s)=.ok (.bl false):=by
 unfold fQ; rw [if_pos ⟨h,h⟩]; simp [gO,PyData.eqv]
theorem je (s t:Str) (h:PyData.strOk s=true) (g:PyData.strOk t=true) (n:s≠t):cH (.str s) (.str t)=.ok (.bl false):=by
 unfold cH; rw [if_pos ⟨h,g⟩]; simp [gO,PyData.eqv,n]
theorem yd (s t:Str) (h:PyData.strOk s=true) (g:PyData.strOk t=true) (n:s≠t):fQ (.str s) (.str t)=.ok (.bl true):=by
 unfold fQ; rw [if_pos ⟨h,g⟩]; simp [gO,PyData.eqv,n]
theorem ox' (b:Int):jM [.int b]=.ok (.bl true):=rfl
section
variable {rs:List (List Int)} {F:OF} {of:List Int->F.C}
end
section
variable {R:List D->Res D} {G G0 da db dn d m1 m2 nd p1 p2:D} {l:Nat}
theorem Tv {e:D} {s:Str} {es:List D} (h:g_ [d,.tup (.str s :: es)]=.ok e):aW 3 5 (bA R) [RT [],d,.tup (.str s :: es)]=.ok e:=by
 have it1:∀ds,bU is_tuple (.tup ds)=.ok (.bl true):=fun _=>rfl;have it2:bU is_str (.str s)=.ok (.bl true):=rfl;have ln:a_ [RT []]=.ok (.int 0):=rfl;have lz:¬(((es.length + 1:Nat):Int)=0):=by omega
 have ix:aR (.tup (.str s :: es)) (.int 0)=.ok (.str s):=ix_tup0 _ _;show outD (bA R [some (.arg (RT [])),some (.arg d),some (.arg (.tup (.str s :: es))),none,none])=_;unfold bA;generalize RT []=G at *;push_cast [it1,it2,ln,lz,ix,h]
end
theorem El (fa fb fc:DS->Res D) (g g':D->D->Res D) (δ:DS):fV fa fb fc g g' δ=two fa fb (fun x y=>(g x y).bind fun z=>(aG z).bind fun k=>if k=true then (jR fc δ).bind fun w=>g' y w else .ok (.bl false)) δ:=Eq.trans rfl rfl
theorem HH {f:DS->Res D} {δ:DS} {d:D} (h:f δ=.ok d):jR f δ=.ok d:=by unfold jR; rw [h]
theorem LR (t c:Int):g_ [num [t] c,.tup [.str "below"]]=.ok (.bl (decide (t < 0))):=by
 have ix0:aR (TI [t]) (.int 0)=.ok (.int t):=ix_tup0 _ _;have es:=pG "below" ‹"1"›;show outD (fX [some (.arg (num [t] c)),some (.arg (.tup [.str "below"])),none])=_;unfold fX;push_cast [ix0,es]
theorem L_ {t c w:Int} (bt:t.natAbs < 2 ^ 14000) (bc:c.natAbs < 2 ^ 14000) (bw:w.natAbs < 2 ^ 14000) (w0:0<=w):g_ [num [t] c,.tup [.str "between",.int w]]=.ok (.bl (decide (w * w < t * c) && decide (t * c < (w + 1) * (w + 1)))):=by
 have ix0:aR (TI [t]) (.int 0)=.ok (.int t):=ix_tup0 _ _;have mu:=cV (d_ bt (by decide)) (d_ bc (by decide));have mw:=cV (d_ bw (by decide)) (d_ bw (by decide));have bw1:(w + 1).natAbs < 2 ^ 14001:=by
  have e:2 ^ 14001=2 ^ 14000 + 2 ^ 14000:=by rw [Nat.pow_succ,Nat.mul_two]
  have:=Nat.two_pow_pos 14000;omega
 have mw1:=cV (d_ bw1 (by decide)) (d_ bw1 (by decide));have es:=pH "between" ‹"1"›;have ed:=je "between" "below" ‹"1"› ‹"1"› (by decide);have wn:¬(w < 0):=by omega
 show outD (fX [some (.arg (num [t] c)),some (.arg (.tup [.str "between",.int w])),none])=_;unfold fX
 by_cases h1:w * w < t * c
 ·push_cast [ix0,mu,es,ed,ox',wn,El,mw,h1];rw [HH (d:=.int ((w + 1) * (w + 1))) (by push_cast [mw1])];push_cast [Bool.true_and]
 ·push_cast [ix0,mu,es,ed,ox',wn,El,mw,h1,Bool.false_and]
theorem Tw {w m:Int} (w0:0<=w) (h:w * w < m * m):¬(m * m < (w + 1) * (w + 1)):=by
 have key:∀k:Int,0<=k->w * w < k * k->(w + 1) * (w + 1)<=k * k:=fun k k0 hk=>by
  have:w + 1<=k:=by
   rcases Int.lt_or_le w k with z | z
   ·omega
   ·have:=Int.mul_le_mul z z k0 w0;omega
  exact Int.mul_le_mul this this (by omega) k0
 rcases Int.le_total 0 m with z | z
 ·have:=key m z h;omega
 ·have e:-m * -m=m * m:=Int.neg_mul_neg m m;have:=key (-m) (by omega) (by rw [e]; exact h);rw [e] at this;omega
theorem is_tup (ds:List D):bQ (.tup ds) .non=.ok (.bl false):=rfl
theorem HJ (a b c:D):aN (.tup [a]) (.tup [b,c])=.ok (.tup [a,b,c]):=by
 show (if 1 + 2<=sizeLine then Res.ok (D.tup [a,b,c]) else .stuck)=_
 rw [if_pos (by decide)]
theorem HN (x a b c:D):aN (.tup [x,a]) (.tup [b,c])=.ok (.tup [x,a,b,c]):=by
 show (if 2 + 2<=sizeLine then Res.ok (D.tup [x,a,b,c]) else .stuck)=_
 rw [if_pos (by decide)]
section
variable {R:List D->Res D} {G G0 da db dn d m1 m2 nd ah e:D}
theorem Ma (r1:R [G0,m1]=.ok .non):aW 3 5 (eZ R) [G0,ah,.lst [m1,m2]]=.ok .non:=by
 show outD (eZ R [some (.arg G0),some (.arg ah),some (.arg (.lst [m1,m2])),none,none])=_;unfold eZ;push_cast [r1,yH]
theorem Mf {ds:List D} (r1:R [G0,m1]=.ok (.tup ds)) (r2:R [G0,m2]=.ok .non):aW 3 5 (eZ R) [G0,ah,.lst [m1,m2]]=.ok .non:=by
 show outD (eZ R [some (.arg G0),some (.arg ah),some (.arg (.lst [m1,m2])),none,none])=_;unfold eZ;push_cast [r1,is_tup,r2,yH]
theorem Mg {ds es:List D} (r1:R [G0,m1]=.ok (.tup ds)) (r2:R [G0,m2]=.ok (.tup es)) (ad:aN ah (.tup [.tup ds,.tup es])=.ok e):aW 3 5 (eZ R) [G0,ah,.lst [m1,m2]]=.ok e:=by
 show outD (eZ R [some (.arg G0),some (.arg ah),some (.arg (.lst [m1,m2])),none,none])=_;unfold eZ;push_cast [r1,is_tup,r2,ad]
theorem Mh {R:List D->Res D} {e:D} (h:qe [d]=.ok e):aW 2 5 (dF R) [RT [],d]=.ok e:=by
 show outD (dF R [some (.arg (RT [])),some (.arg d),none,none,none])=_;unfold dF;have ln:a_ [RT []]=.ok (.int 0):=rfl;generalize RT []=G at *;push_cast [ln,h]
theorem HQ {l:Nat} (ln:a_ [G]=.ok (.int ((l + 1:Nat):Int))) (cl:cutD G none (some (-1))=.ok G0) (ha:cX [d]=.ok (.tup [da,db])) (nb:d7 [db]=.ok (.bl true)) (bw:jz [G,da]=.ok (.lst [m1,m2])) (p2:aW 3 5 (eZ R) [G0,.tup [.str "both"],.lst [m1,m2]]=.ok e):aW 2 5 (dF R) [G,d]=.ok e:=by
 have hz:¬(((l + 1:Nat):Int)=0):=by omega
 show outD (dF R [some (.arg G),some (.arg d),none,none,none])=_;unfold dF;push_cast [ln,hz,ha,nb,cl,bw,p2]
theorem Tz {l:Nat} (ln:a_ [G]=.ok (.int ((l + 1:Nat):Int))) (cl:cutD G none (some (-1))=.ok G0) (ha:cX [d]=.ok (.tup [da,db])) (nb:d7 [db]=.ok (.bl false)) (no:dD [G,d]=.ok dn) (r0:iW [G0,dn]=.ok .non) (p:R [G0,dn]=.ok e):aW 2 5 (dF R) [G,d]=.ok (.tup [.str "norm",e]):=by
 have hz:¬(((l + 1:Nat):Int)=0):=by omega
 show outD (dF R [some (.arg G),some (.arg d),none,none,none])=_;unfold dF;push_cast [ln,hz,ha,nb,cl,no,r0,yH,p]
theorem HR {l:Nat} (ln:a_ [G]=.ok (.int ((l + 1:Nat):Int))) (cl:cutD G none (some (-1))=.ok G0) (ha:cX [d]=.ok (.tup [da,db])) (nb:d7 [db]=.ok (.bl false)) (no:dD [G,d]=.ok dn) (r0:iW [G0,dn]=.ok nd) (n0:bQ nd .non=.ok (.bl false)) (md:lG [da,nd]=.ok (.lst [m1,m2])) (p2:aW 3 5 (eZ R) [G0,.tup [.str "halves",nd],.lst [m1,m2]]=.ok e):aW 2 5 (dF R) [G,d]=.ok e:=by
 have hz:¬(((l + 1:Nat):Int)=0):=by omega
 show outD (dF R [some (.arg G),some (.arg d),none,none,none])=_;unfold dF;push_cast [ln,hz,ha,nb,cl,no,r0,n0,md,p2]
end
section
variable {R:List D->Res D} {G G0 one d X A B r p1 p2 q q1 q2 q3 sq nd qn S1 S2 pa pb:D} {l:Nat} {b h n2 m m' s1 s2:Int}
end
theorem TF {ns:List Int} (h:0 < ns.length):iG [TI ns]=.ok (.int (wQ ns)):=by
 show (match intsOf (ns.map .int) with | some ns=>if 0 < ns.length then Res.ok (D.int (wQ ns)) else .stuck | none=>.stuck)=_
 rw [Dt]; exact if_pos h
theorem TJ {ns:List Int} (h:0 < ns.length):iH [TI ns]=.ok (.int (wR ns)):=by
 show (match intsOf (ns.map .int) with | some ns=>if 0 < ns.length then Res.ok (D.int (wR ns)) else .stuck | none=>.stuck)=_
 rw [Dt]; exact if_pos h
noncomputable def uW:Nat->Nat->Bool
 | 0,P=>decide (P<=7000)
 | k + 1,P=>uL (k + 1) P && decide (4 * P + 10 + 3 * eT 10 k + 1<=8000) && decide (2 * (P + eN k) + eT 10 k<=8000) && uW k P && uW k (P + 10 + eT 10 k) && uW k (2 * P + eT 10 (k + 1)) && uW k (P + eN k + 2)
section
variable {F:OF}
theorem HS {x b:F.C} (b0:b≠0) (h:0=x / b):x=0:=by grind
theorem HW {b:F.C}:(0:F.C) / b=0:=by grind
theorem HX {a n:F.C} {b:F.C} (h:b≠0) {x y:F.C} (e:x / b=y):x / (2 * b)=y / 2:=by grind
end
section
variable {rs:List (List Int)} {F:OF} {of:List Int->F.C}
theorem Mi (T:Tow rs F of) {k p:Nat} {z:D} {u:F.C} (h:Rw of k p z u) (hp:p + 1<=200000):∃S s,z=.tup [S,.int s]/\dj (.int 2) (.int s)=.ok (.int (2 * s))/\Rw of k (p + 1) (.tup [S,.int (2 * s)]) (u / 2):=by
 obtain ⟨x,b,rfl,pb,lx,bx,bb,ex⟩:=h;have b0:=fO T (show b≠0 by omega);have b2:(2 * b).natAbs < 2 ^ (p + 1):=by rw [Nat.pow_succ]; omega
 refine ⟨TI x,b,rfl,cV (by exact d_ (n:=2) (by decide) (by decide)) (d_ bb (by omega)),x,2 * b,rfl,by omega,lx,bx.mono (by omega),b2,?_⟩;have c2:((2:Int):F.C)=2:=Ring.intCast_ofNat 2;rw [ex,Ring.intCast_mul,c2];exact (HX (a:=0) (n:=0) b0 rfl).symm
end
theorem oC' {P q:Nat} {d e:D} {v z:ratOF.C} (hd:Nm (fun x:List Int=>((x.headD 0:Int):ratOF.C)) 0 P d v) (he:Nm (fun x:List Int=>((x.headD 0:Int):ratOF.C)) 0 q e z) (hz:z * z=v) (z0:0<=z) (hP:P<=7000):qe [d]=.ok .non/\∀(w:Int),0<=w->w < 2 ^ 30->g_ [d,.tup [.str "below"]]=.ok (.bl false)/\g_ [d,.tup [.str "between",.int w]]=.ok (.bl false):=by
 have ry:=Lb hd he hz z0 hP;have nn:=CT he;have hd':=hd;obtain ⟨x,c,rfl,nx,lx,bx,bc,ex⟩:=hd'
 match x,lx with
 | [t],_ =>
  obtain ⟨s,g,ee,g0,et,ec,ez⟩:=Hm hd he hz;have t0:¬(t < 0):=by
   rw [et];rcases Int.le_total 0 s with h | h
   ·have:=Int.mul_nonneg h h; omega
   ·have:=Int.mul_nonneg_of_nonpos_of_nonpos h h; omega
  have ix0:aR (TI [t]) (.int 0)=.ok (.int t):=ix_tup0 _ _;have bt:t.natAbs < 2 ^ P:=bx t (by simp);have bt':t.natAbs < 2 ^ 14000:=Nat.lt_of_lt_of_le bt (gj (by omega));have bc':c.natAbs < 2 ^ 14000:=Nat.lt_of_lt_of_le bc (gj (by omega));refine ⟨?_,fun w w0 w1=>⟨by rw [LR,_root_.decide_eq_false t0],?_⟩⟩
  ·show outD (lF [some (.arg (num [t] c))])=_;unfold lF;push_cast [ix0,t0,ry,nn]
  ·have bw:w.natAbs < 2 ^ 30:=by
    have e:(2:Int) ^ 30=1073741824:=by decide
    have e':(2:Nat) ^ 30=1073741824:=by decide
    omega
   rw [L_ bt' bc' (Nat.lt_of_lt_of_le bw (gj (by decide))) w0];have tc:t * c=s * g * (s * g):=by rw [et,ec]; grind
   rw [tc]
   by_cases h:w * w < s * g * (s * g)
   ·rw [_root_.decide_eq_false (Tw w0 h),Bool.and_false]
   ·rw [_root_.decide_eq_false h]; rfl
noncomputable def uM:D->Bool
 | .exc _=>false
 | .excf _ _ _=>false
 | _=>true
noncomputable def isW:D->Bool
 | .int _=>true
 | _=>false
noncomputable def lK:D->Int
 | .int i=>i
 | _=>0
theorem Em (d:D) (h:uM d=true):jM [d]=.ok (.bl (isW d)):=by
 cases d <;> first | rfl | cases h
theorem CZ (d:D) (h:uM d=true):jJ [d]=.ok (.bl (isW d)):=by
 cases d <;> first | rfl | cases h
theorem ye:∀{xs:List D},xs.all isW=true->xs=(xs.map lK).map .int
 | [],_=>rfl
 | x :: xs,h=>by
  rw [all_cons,Bool.and_eq_true] at h;obtain ⟨h1,h2⟩:=h;have e:x=.int (lK x):=by cases x <;> first | rfl | cases h1
  rw [map_cons,map_cons,<- e,<- ye h2]
theorem Mj {fe:DS->Res D} {rest:DS} {g:D->D}:∀(ts:List D),(∀t∈ts,fe (some (.val t) :: rest)=.ok (g t))->mapR (fG (bO 0) fe (none :: rest)) ts=.ok (ts.map g)
 | [],_=>rfl
 | t :: ts,h=>by
  have e:fG (bO 0) fe (none :: rest) t=.ok (g t):=by
   show (match fe (some (.val t) :: rest) with | .ok x=>Res.ok x | _=>.stuck)=_
   rw [h t (by simp)]
  rw [mapR,e,Res.bind_ok,Mj ts (fun u hu=>h u (mem_cons_of_mem _ hu)),Res.bind_ok]; rfl
theorem TQ {fe:DS->Res D} {fi:DS->Res (List D)} {fr:List Nat} {δ rest:DS} {ts:List D} {g:D->D} (hi:fi δ=.ok ts) (hr:cQ 1 fr δ=none :: rest) (hl:ts.length<=sizeLine) (h:∀t∈ts,fe (some (.val t) :: rest)=.ok (g t)) :
  bD 1 fr (bO 0) fe fi δ=.ok (.lst (ts.map g)):=by
 unfold bD;rw [hi,Res.bind_ok,hr,Mj ts h];unfold fD;rw [Res.bind_ok,if_pos (by simpa using hl)]
theorem Ml (p:D->Bool):∀x:List D,bools (x.map fun t=>D.bl (p t))=some (x.map p)
 | []=>rfl
 | a :: x=>by
  have e:bools (D.bl (p a) :: x.map fun t=>D.bl (p t))=(bools (x.map fun t=>D.bl (p t))).map (p a :: ·):=rfl;rw [map_cons,e,Ml p x]; rfl
theorem TV (p:D->Bool) (x:List D):lY [.lst (x.map fun t=>D.bl (p t))]=.ok (.bl (x.all p)):=by
 show (match bools (x.map fun t=>D.bl (p t)) with | some bs=>Res.ok (D.bl (bs.all id)) | none=>.stuck)=_
 rw [Ml];simp [all_map]
theorem TX (ts:List D) (n:Nat) (hl:ts.length<=100) (he:∀t∈ts,uM t=true):ud [.tup ts,.int (n:Int)]=.ok (.bl (decide (ts.length=n) && ts.all isW)):=by
 have it1:bU is_tuple (.tup ts)=.ok (.bl true):=rfl;have cp:bD 1 [] (bO 0) (ao (aj (ak 0) ‹""›) jM) (bindL (ak 0) aZ) [some (SV.arg (.tup ts)),some (.arg (.int (n:Int)))]=.ok (.lst (ts.map fun t=>D.bl (isW t))) :=
  TQ (rest:=[]) (g:=fun t=>D.bl (isW t)) rfl rfl (Nat.le_trans hl (by decide)) fun t ht=>Em t (he t ht)
 have al:=TV isW ts;show outD (oF [some (.arg (.tup ts)),some (.arg (.int (n:Int)))])=_;unfold oF
 by_cases c:ts.length=n
 ·have c':(ts.length:Int)=(n:Int):=by omega
  push_cast [it1,c',cp,al,c,Bool.true_and]
 ·have c':¬((ts.length:Int)=(n:Int)):=by omega
  push_cast [it1,c',c,Bool.false_and]
theorem TY {t:D} (n:Int) (it:bU is_tuple t=.ok (.bl false)):ud [t,.int n]=.ok (.bl false):=by
 show outD (oF [some (.arg t),some (.arg (.int n))])=_;unfold oF;push_cast [it]
noncomputable def Gd:Nat->D->Prop
 | _,.non=>True
 | _,.bl _=>True
 | _,.int i=>i.natAbs < 2 ^ 3900
 | _,.str s=>PyData.strOk s=true
 | n + 1,.tup ds=>ds.length<=100/\∀d∈ds,Gd n d
 | n + 1,.lst ds=>ds.length<=100/\∀d∈ds,Gd n d
 | _,_=>False
theorem Gd.ok {n:Nat} {d:D} (h:Gd n d):uM d=true:=by
 cases d <;> first | rfl | (cases n <;> exact h.elim)
theorem Gd.tup {n:Nat} {ds:List D} (h:Gd n (.tup ds)):∃m,n=m + 1/\ds.length<=100/\∀d∈ds,Gd m d:=by
 cases n with
 | zero=>exact h.elim
 | succ m=>exact ⟨m,rfl,h.1,h.2⟩
noncomputable def cI (n:Nat):D->Bool
 | .tup [.tup xs,.int c]=>decide (xs.length=n) && decide (1<=c) && xs.all isW && decide (gN c.natAbs (xs.map lK)=1)
 | _=>false
theorem Mm {t n:D}:∀(xs:List D),(∀x∈xs,uM x=true)->∀(a:Nat) (z:Option SV),(xs.all isW=true->∃z',dg (bO 3) (aB (bG ‹"ay"› (aH (fun _=>.ok (.bl false))) Out.nxt) (aD 2 (ao ‹"X"› jK))) xs [some (SV.val t),some (.val n),some (.val (.int (a:Int))),z]=.nxt [some (SV.val t),some (.val n),some (.val (.int ((gN a (xs.map lK):Nat):Int))),z']) /\
  (xs.all isW=false->dg (bO 3) (aB (bG ‹"ay"› (aH (fun _=>.ok (.bl false))) Out.nxt) (aD 2 (ao ‹"X"› jK))) xs [some (SV.val t),some (.val n),some (.val (.int (a:Int))),z]=.ret (.bl false))
 | [],_,a,z=>⟨fun _=>⟨z,Hd⟩,(fun h=>by cases h)⟩
 | x :: xs,h,a,z=>by
  have wx:=CZ x (h x (by simp));have ih:=Mm (t:=t) (n:=n) xs (fun y hy=>h y (mem_cons_of_mem _ hy))
  cases hx:isW x with
  | true =>
   obtain ⟨i,rfl⟩:∃i,x=.int i:=by cases x <;> first | exact ⟨_,rfl⟩ | cases hx
   rw [hx] at wx;have cc:=Ky (a:Int) i;have ce:cm (a:Int) i=((Nat.gcd a i.natAbs:Nat):Int):=by unfold cm; simp [Int.gcd]
   rw [ce] at cc;have st:(aB (bG ‹"ay"› (aH (fun _=>.ok (.bl false))) Out.nxt) (aD 2 (ao ‹"X"› jK))) [some (SV.val t),some (.val n),some (.val (.int (a:Int))),some (.val (.int i))]=.nxt [some (SV.val t),some (.val n),some (.val (.int ((Nat.gcd a i.natAbs:Nat):Int))),some (.val (.int i))]:=by push_cast [wx,cc]
   have e:(D.int i :: xs).all isW=xs.all isW:=by rw [all_cons,hx,Bool.true_and]
   rw [e];refine ⟨fun q=>?_,fun q=>Eq.trans (cs' rfl st) ((ih (Nat.gcd a i.natAbs) _).2 q)⟩;obtain ⟨z',e'⟩:=(ih (Nat.gcd a i.natAbs) (some (.val (.int i)))).1 q;exact ⟨z',Eq.trans (cs' rfl st) e'⟩
  | false =>
   rw [hx] at wx;have e:(x :: xs).all isW=false:=by rw [all_cons,hx,Bool.false_and]
   rw [e];have st:(aB (bG ‹"ay"› (aH (fun _=>.ok (.bl false))) Out.nxt) (aD 2 (ao ‹"X"› jK))) [some (SV.val t),some (.val n),some (.val (.int (a:Int))),some (.val x)]=.ret (.bl false):=by push_cast [wx]
   exact ⟨(fun q=>by cases q),fun _=>Hn rfl st⟩
theorem T4 {u v:D} {n:Nat} (hu:uM u=true) (hv:uM v=true) (hx:∀xs,u=.tup xs->∀x∈xs,uM x=true):mj [.tup [u,v],.int (n:Int)]=.ok (.bl (cI n (.tup [u,v]))):=by
  have it1:∀ds,bU is_tuple (.tup ds)=.ok (.bl true):=fun _=>rfl;show outD (jn [some (.arg (.tup [u,v])),some (.arg (.int (n:Int))),none,none])=_;unfold jn;have go:True:=trivial
  cases go with
  | intro =>
    by_cases hb:∃xs,u=.tup xs
    · obtain ⟨xs,rfl⟩:=hb;have ox:=hx xs rfl;have wv:=CZ v hv
      by_cases c:xs.length=n
      · have c':(xs.length:Int)=(n:Int):=by omega
        cases hw:isW v with
        | false =>
          rw [hw] at wv;have e:cI n (.tup [.tup xs,v])=false:=by cases v <;> first | rfl | cases hw
          rw [e];push_cast [it1,c',wv]
        | true =>
          obtain ⟨i,rfl⟩:∃i,v=.int i:=by cases v <;> first | exact ⟨_,rfl⟩ | cases hw
          rw [hw] at wv
          by_cases i1:i < 1
          · have e:cI n (.tup [.tup xs,.int i])=false:=by
              show (decide (xs.length=n) && decide (1<=i) && xs.all isW && _)=false;rw [_root_.decide_eq_false (show ¬1<=i by omega),Bool.and_false,Bool.false_and,Bool.false_and]
            rw [e];push_cast [it1,c',wv,i1]
          · have ia:((i.natAbs:Nat):Int)=i:=by omega
            obtain ⟨l1,l2⟩:=Mm (t:=.tup [.tup xs,.int i]) (n:=.int (n:Int)) xs ox i.natAbs none;rw [ia] at l1 l2;have th:thaw [some (SV.arg (.tup [.tup xs,.int i])),some (.arg (.int (n:Int))),some (.val (.int i)),none]=[some (SV.val (.tup [.tup xs,.int i])),some (.val (.int (n:Int))),some (.val (.int i)),none]:=rfl;have e0:cI n (.tup [.tup xs,.int i])=(xs.all isW && decide (gN i.natAbs (xs.map lK)=1)):=by
              show (decide (xs.length=n) && decide (1<=i) && xs.all isW && _)=_;rw [_root_.decide_eq_true c,_root_.decide_eq_true (show 1<=i by omega),Bool.true_and,Bool.true_and]
            rw [e0]
            cases ha:xs.all isW with
            | false =>
              have l2:=l2 ha;have tr:e_ (.ret (.bl false))=.ret (.bl false):=rfl;push_cast [it1,c',wv,i1,th,l2,tr,Bool.false_and]
            | true =>
              obtain ⟨z',l1⟩:=l1 ha;have tho:e_ (.nxt [some (SV.val (.tup [.tup xs,.int i])),some (.val (.int (n:Int))),some (.val (.int ((gN i.natAbs (xs.map lK):Nat):Int))),z'])=.nxt [some (SV.val (.tup [.tup xs,.int i])),some (.val (.int (n:Int))),some (.val (.int ((gN i.natAbs (xs.map lK):Nat):Int))),z'.map thaw2]:=rfl;have de:decide (((gN i.natAbs (xs.map lK):Nat):Int)=1)=decide (gN i.natAbs (xs.map lK)=1):=by
                by_cases g:gN i.natAbs (xs.map lK)=1
                · rw [_root_.decide_eq_true g,_root_.decide_eq_true (by omega)]
                · rw [_root_.decide_eq_false g,_root_.decide_eq_false (by omega)]
              push_cast [it1,c',wv,i1,th,l1,tho,de,Bool.true_and]
      · have c':¬((xs.length:Int)=(n:Int)):=by omega
        have e:cI n (.tup [.tup xs,v])=false:=by
          cases v <;> first
            | rfl
            | (show (decide (xs.length=n) && _ && _ && _)=false
               rw [_root_.decide_eq_false c,Bool.false_and,Bool.false_and,Bool.false_and])
        rw [e];push_cast [it1,c']
    · have hf:bU is_tuple u=.ok (.bl false):=by cases u <;> first | rfl | exact absurd ⟨_,rfl⟩ hb | cases hu
      have e:cI n (.tup [u,v])=false:=by cases u <;> first | rfl | exact absurd ⟨_,rfl⟩ hb
      rw [e];push_cast [it1,hf]
theorem mA' {m n:Nat} {t:D} (h:Gd m t):mj [t,.int (n:Int)]=.ok (.bl (cI n t)):=by
 have it1:∀ds,bU is_tuple (.tup ds)=.ok (.bl true):=fun _=>rfl
 by_cases ht:∃ds,t=.tup ds
 ·obtain ⟨ds,rfl⟩:=ht;obtain ⟨m,rfl,hl,hd⟩:=h.tup
  match ds,hd,hl with
  | [u,v],hd,_ =>
   refine T4 (hd u (by simp)).ok (hd v (by simp)).ok fun xs e x hx=>?_;subst e;obtain ⟨m',_,_,hx'⟩:=(hd (.tup xs) (by simp)).tup;exact (hx' x hx).ok
  | [],_,_=>rfl
  | [u],_,_ =>
   show outD (jn [some (.arg (.tup [u])),some (.arg (.int (n:Int))),none,none])=_;unfold jn;have e:cI n (.tup [u])=false:=by cases u <;> rfl
   rw [e];push_cast [it1]
  | u :: v :: w :: ds,_,_ =>
   show outD (jn [some (.arg (.tup (u :: v :: w :: ds))),some (.arg (.int (n:Int))),none,none])=_;unfold jn;have e:cI n (.tup (u :: v :: w :: ds))=false:=by cases u <;> first | rfl | (cases v <;> rfl)
   have l2:¬(((ds.length + 1 + 1 + 1:Nat):Int)=2):=by omega
   have ln:a_ [.tup (u :: v :: w :: ds)]=.ok (.int ((ds.length + 1 + 1 + 1:Nat):Int)):=rfl;rw [e];push_cast [it1,l2]
 ·have hf:bU is_tuple t=.ok (.bl false):=by
   have:=h.ok
   cases t <;> first | rfl | exact absurd ⟨_,rfl⟩ ht | cases this
  have e:cI n t=false:=by cases t <;> first | rfl | exact absurd ⟨_,rfl⟩ ht
  rw [e];show outD (jn [some (.arg t),some (.arg (.int (n:Int))),none,none])=_;unfold jn;push_cast [hf]
theorem T5 {n:Nat} {t:D} (h:cI n t=true):∃x c,t=num x c/\Nf x c/\x.length=n:=by
 match t with
 | .tup [.tup xs,.int c] =>
  have h':(decide (xs.length=n) && decide (1<=c) && xs.all isW && decide (gN c.natAbs (xs.map lK)=1))=true:=h;simp only [Bool.and_eq_true,decide_eq_true_eq] at h';obtain ⟨⟨⟨h1,h2⟩,h3⟩,h4⟩:=h';have e:=ye h3;refine ⟨xs.map lK,c,?_,⟨by omega,h4⟩,by rw [length_map]; exact h1⟩;show D.tup [.tup xs,.int c]=.tup [.tup ((xs.map lK).map .int),.int c];rw [<- e]
theorem HY {k:Nat} (h:k<=3):iZ (.int 1) (.int (k:Int))=.ok (.int ((2 ^ k:Nat):Int)):=by
 show (if 0<=(k:Int)/\(k:Int)<=1000000/\(1:Int).natAbs < 2 ^ 64 then Res.ok (D.int (1 * 2 ^ (k:Int).toNat)) else .stuck)=_
 rw [if_pos ⟨by omega,by omega,by decide⟩,Int.one_mul,Int.toNat_natCast,Int.natCast_pow]; rfl
theorem T6 {x:List Int} {c:Int} (c0:0 < c) (hx:x≠[]) (hl:x.length<=63) (hb:c.natAbs < 2 ^ 8000):∃d,di [TI x,.int c]=.ok d/\cH d (num x c)=.ok (.bl (decide (gN c.natAbs x=1))):=by
 obtain ⟨K,x',c',k0,e1,e2,nf,l'⟩:=J2 x (show c≠0 by omega);have kb:K.natAbs < 2 ^ 8000:=by
  rw [e2,Int.natAbs_mul] at hb;have:=nf.pos;exact Nat.lt_of_le_of_lt (Nat.le_mul_of_pos_right _ (by omega)) hb
 have mk:=DW nf k0 (by intro z; rw [z] at l'; exact hx (length_eq_zero_iff.mp l'.symm)) (by omega) kb;rw [<- e1,<- e2] at mk;refine ⟨_,mk,?_⟩;rw [zP]
 by_cases g:gN c.natAbs x=1
 ·have n2:Nf x c:=⟨c0,g⟩;have mk2:=DW n2 (K:=1) (by decide) hx hl (Nat.one_lt_two_pow (by decide));have e3:x.map (1 * ·)=x:=by
   have:(fun t:Int=>1 * t)=id:=by funext t; exact Int.one_mul t
   rw [this,map_id]
  rw [e3,Int.one_mul] at mk2;have mk':Res.ok (num x' c')=.ok (num x c):=mk.symm.trans mk2;have q:num x' c'=num x c:=by injection mk'
  have q1:=zP x' x c' c;rw [q,zP] at q1;injection q1 with q1
  injection q1 with q1
  rw [<- q1,_root_.decide_eq_true g]; simp
 ·rw [_root_.decide_eq_false g]
  by_cases q:x'=x/\c'=c
  ·obtain ⟨q1,q2⟩:=q;rw [q1,q2] at nf;exact absurd nf.one g
  ·by_cases q1:x'=x
   ·have q2:¬c'=c:=fun z=>q ⟨q1,z⟩;rw [_root_.decide_eq_false q2,Bool.and_false]
   ·rw [_root_.decide_eq_false q1,Bool.false_and]
theorem T7 {u v:D} {k:Nat} (k3:k<=3) (hu:uM u=true) (hv:uM v=true) (hx:∀xs,u=.tup xs->xs.length<=100/\∀x∈xs,uM x=true) (hc:∀c,v=.int c->c.natAbs < 2 ^ 8000):oH [.tup [u,v],.int (k:Int)]=.ok (.bl (cI (2 ^ k) (.tup [u,v]))):=by
  have it1:∀ds,bU is_tuple (.tup ds)=.ok (.bl true):=fun _=>rfl;have sh:=HY k3;have e8:=mV k3;have n0:=Nat.two_pow_pos k;have wv:=Em v hv;show outD (jy [some (.arg (.tup [u,v])),some (.arg (.int (k:Int)))])=_;unfold jy
  by_cases hb:∃xs,u=.tup xs
  · obtain ⟨xs,rfl⟩:=hb;obtain ⟨hl,ox⟩:=hx xs rfl;have aw:=TX xs (2 ^ k) hl ox
    cases ha:(decide (xs.length=2 ^ k) && xs.all isW) with
    | false =>
      rw [ha] at aw;have e:cI (2 ^ k) (.tup [.tup xs,v])=false:=by
        cases v <;> first
          | rfl
          | (show (decide (xs.length=2 ^ k) && _ && xs.all isW && _)=false
             rw [Bool.and_assoc (decide (xs.length=2 ^ k)),Bool.and_comm _ (xs.all isW),<- Bool.and_assoc,ha,Bool.false_and,Bool.false_and])
      rw [e];push_cast [it1,sh,aw]
    | true =>
      rw [ha] at aw;rw [Bool.and_eq_true,decide_eq_true_eq] at ha;obtain ⟨h1,h2⟩:=ha
      cases hw:isW v with
      | false =>
        rw [hw] at wv;have e:cI (2 ^ k) (.tup [.tup xs,v])=false:=by cases v <;> first | rfl | cases hw
        rw [e];push_cast [it1,sh,aw,wv]
      | true =>
        obtain ⟨i,rfl⟩:∃i,v=.int i:=by cases v <;> first | exact ⟨_,rfl⟩ | cases hw
        rw [hw] at wv
        by_cases i1:i < 1
        · have e:cI (2 ^ k) (.tup [.tup xs,.int i])=false:=by
            show (decide (xs.length=2 ^ k) && decide (1<=i) && xs.all isW && _)=false;rw [_root_.decide_eq_false (show ¬1<=i by omega),Bool.and_false,Bool.false_and,Bool.false_and]
          rw [e];push_cast [it1,sh,aw,wv,i1]
        · have ex:=ye h2;have e0:cI (2 ^ k) (.tup [.tup xs,.int i])=decide (gN i.natAbs (xs.map lK)=1):=by
            show (decide (xs.length=2 ^ k) && decide (1<=i) && xs.all isW && _)=_;rw [_root_.decide_eq_true h1,_root_.decide_eq_true (show 1<=i by omega),h2,Bool.true_and,Bool.true_and,Bool.true_and]
          rw [e0];have lm:(xs.map lK).length=2 ^ k:=by rw [length_map]; exact h1
          obtain ⟨d,md,eq⟩:=T6 (x:=xs.map lK) (c:=i) (by omega) (by intro z; rw [z] at lm; simp at lm; omega) (by omega) (hc i rfl);have md':di [.tup xs,.int i]=.ok d:=by rw [ex]; exact md
          have eq':cH d (.tup [.tup xs,.int i])=.ok (.bl (decide (gN i.natAbs (xs.map lK)=1))):=by
            have:(D.tup [.tup xs,.int i])=num (xs.map lK) i:=by
              show D.tup [.tup xs,.int i]=.tup [.tup ((xs.map lK).map .int),.int i];rw [<- ex]
            rw [this]; exact eq
          push_cast [it1,sh,aw,wv,i1,md',eq']
  · have hf:bU is_tuple u=.ok (.bl false):=by cases u <;> first | rfl | exact absurd ⟨_,rfl⟩ hb | cases hu
    have aw:=TY (t:=u) ((2 ^ k:Nat):Int) hf;have e:cI (2 ^ k) (.tup [u,v])=false:=by cases u <;> first | rfl | exact absurd ⟨_,rfl⟩ hb
    rw [e];push_cast [it1,sh,aw]
theorem T8 {m k:Nat} {t:D} (k3:k<=3) (h:Gd m t):oH [t,.int (k:Int)]=.ok (.bl (cI (2 ^ k) t)):=by
 have it1:∀ds,bU is_tuple (.tup ds)=.ok (.bl true):=fun _=>rfl
 by_cases ht:∃ds,t=.tup ds
 ·obtain ⟨ds,rfl⟩:=ht;obtain ⟨m,rfl,hl,hd⟩:=h.tup
  match ds,hd,hl with
  | [u,v],hd,_ =>
   refine T7 k3 (hd u (by simp)).ok (hd v (by simp)).ok (fun xs e=>?_) fun c e=>?_
   ·subst e;obtain ⟨m',_,l',hx'⟩:=(hd (.tup xs) (by simp)).tup;exact ⟨l',fun x hx=>(hx' x hx).ok⟩
   ·subst e;have:=hd (.int c) (by simp);have q:c.natAbs < 2 ^ 3900:=by cases m <;> exact this
    exact Nat.lt_of_lt_of_le q (gj (by decide))
  | [],_,_=>rfl
  | [u],_,_ =>
   show outD (jy [some (.arg (.tup [u])),some (.arg (.int (k:Int)))])=_;unfold jy;have e:cI (2 ^ k) (.tup [u])=false:=by cases u <;> rfl
   rw [e];push_cast [it1]
  | u :: v :: w :: ds,_,_ =>
   show outD (jy [some (.arg (.tup (u :: v :: w :: ds))),some (.arg (.int (k:Int)))])=_;unfold jy;have e:cI (2 ^ k) (.tup (u :: v :: w :: ds))=false:=by cases u <;> first | rfl | (cases v <;> rfl)
   have l2:¬(((ds.length + 1 + 1 + 1:Nat):Int)=2):=by omega
   rw [e];push_cast [it1,l2]
 ·have hf:bU is_tuple t=.ok (.bl false):=by
   have:=h.ok
   cases t <;> first | rfl | exact absurd ⟨_,rfl⟩ ht | cases this
  have e:cI (2 ^ k) t=false:=by cases t <;> first | rfl | exact absurd ⟨_,rfl⟩ ht
  rw [e];show outD (jy [some (.arg t),some (.arg (.int (k:Int)))])=_;unfold jy;push_cast [hf]
section
variable {R:List D->Res D} {G G0 da db dn d m1 m2 nd p1 p2:D} {l:Nat} {s:Str} {es:List D} {b0 b1 b2:Bool}
theorem of_two (r1:R [G0,m1,p1]=.ok (.bl b1)) (r2:b1=true->R [G0,m2,p2]=.ok (.bl b2)):aW 3 3 (gk R) [G0,.lst [m1,m2],.tup [p1,p2]]=.ok (.bl (b1 && b2)):=by
 show outD (gk R [some (.arg G0),some (.arg (.lst [m1,m2])),some (.arg (.tup [p1,p2]))])=_;unfold gk
 cases b1 with
 | true =>
  have r2:=r2 rfl;push_cast [r1,r2,Bool.true_and]
 | false=>push_cast [r1,Bool.false_and]
theorem H9 (h:¬es.length=2):aW 3 3 (gk R) [G0,.lst [m1,m2],.tup es]=.ok (.bl false):=by
 have h':¬((es.length:Int)=2):=by omega
 show outD (gk R [some (.arg G0),some (.arg (.lst [m1,m2])),some (.arg (.tup es))])=_;unfold gk;push_cast [h']
theorem En (ln:a_ [G]=.ok (.int ((l + 1:Nat):Int))) (ha:cX [d]=.ok (.tup [da,db])) (cl:cutD G none (some (-1))=.ok G0) (nb:d7 [db]=.ok (.bl true)) (bw:jz [G,da]=.ok (.lst [m1,m2])) (ct:cutD (.tup (.str "both" :: es)) (some 1) none=.ok (.tup es)) (h2:aW 3 3 (gk R) [G0,.lst [m1,m2],.tup es]=.ok (.bl b0)):aW 3 5 (bA R) [G,d,.tup (.str "both" :: es)]=.ok (.bl b0):=by
 have it1:∀ds,bU is_tuple (.tup ds)=.ok (.bl true):=fun _=>rfl;have it2:∀s,bU is_str (.str s)=.ok (.bl true):=fun _=>rfl;have lz:¬(((l + 1:Nat):Int)=0):=by omega
 have lz2:¬(((es.length + 1:Nat):Int)=0):=by omega
 have ix:aR (.tup (.str "both" :: es)) (.int 0)=.ok (.str "both"):=ix_tup0 _ _;have eb:=pG "both" ‹"1"›;show outD (bA R [some (.arg G),some (.arg d),some (.arg (.tup (.str "both" :: es))),none,none])=_;unfold bA;push_cast [it1,it2,ln,lz,lz2,ix,ha,nb,eb,cl,bw,ct,h2]
theorem T9 (ln:a_ [G]=.ok (.int ((l + 1:Nat):Int))) (ha:cX [d]=.ok (.tup [da,db])) (cl:cutD G none (some (-1))=.ok G0) (nb:d7 [db]=.ok (.bl false)) (no:dD [G,d]=.ok dn) (r1:R [G0,dn,p1]=.ok (.bl b0)):aW 3 5 (bA R) [G,d,.tup [.str "norm",p1]]=.ok (.bl b0):=by
 have it1:∀ds,bU is_tuple (.tup ds)=.ok (.bl true):=fun _=>rfl;have it2:∀s,bU is_str (.str s)=.ok (.bl true):=fun _=>rfl;have lz:¬(((l + 1:Nat):Int)=0):=by omega
 have eb:=pG "norm" ‹"1"›;show outD (bA R [some (.arg G),some (.arg d),some (.arg (.tup [.str "norm",p1])),none,none])=_;unfold bA;push_cast [it1,it2,ln,lz,ha,nb,no,eb,cl,r1]
theorem T_ (ln:a_ [G]=.ok (.int ((l + 1:Nat):Int))) (ha:cX [d]=.ok (.tup [da,db])) (nb:d7 [db]=.ok (.bl false)) (no:dD [G,d]=.ok dn) (h:¬es.length=1):aW 3 5 (bA R) [G,d,.tup (.str "norm" :: es)]=.ok (.bl false):=by
 have it1:∀ds,bU is_tuple (.tup ds)=.ok (.bl true):=fun _=>rfl;have it2:∀s,bU is_str (.str s)=.ok (.bl true):=fun _=>rfl;have lz:¬(((l + 1:Nat):Int)=0):=by omega
 have lz2:¬(((es.length + 1:Nat):Int)=0):=by omega
 have l2:¬(((es.length + 1:Nat):Int)=2):=by omega
 have ix:aR (.tup (.str "norm" :: es)) (.int 0)=.ok (.str "norm"):=ix_tup0 _ _;have eb:=pG "norm" ‹"1"›;show outD (bA R [some (.arg G),some (.arg d),some (.arg (.tup (.str "norm" :: es))),none,none])=_;unfold bA;push_cast [it1,it2,ln,lz,lz2,l2,ix,ha,nb,no,eb]
theorem Ua (ln:a_ [G]=.ok (.int ((l + 1:Nat):Int))) (ha:cX [d]=.ok (.tup [da,db])) (nb:d7 [db]=.ok (.bl false)) (no:dD [G,d]=.ok dn) (h:¬es.length=3):aW 3 5 (bA R) [G,d,.tup (.str "halves" :: es)]=.ok (.bl false):=by
 have it1:∀ds,bU is_tuple (.tup ds)=.ok (.bl true):=fun _=>rfl;have it2:∀s,bU is_str (.str s)=.ok (.bl true):=fun _=>rfl;have lz:¬(((l + 1:Nat):Int)=0):=by omega
 have lz2:¬(((es.length + 1:Nat):Int)=0):=by omega
 have l4:¬(((es.length + 1:Nat):Int)=4):=by omega
 have ix:aR (.tup (.str "halves" :: es)) (.int 0)=.ok (.str "halves"):=ix_tup0 _ _;have eb:=pH "halves" ‹"1"›;have ed:=je "halves" "norm" ‹"1"› ‹"1"› (by decide);show outD (bA R [some (.arg G),some (.arg d),some (.arg (.tup (.str "halves" :: es))),none,none])=_;unfold bA;push_cast [it1,it2,ln,lz,lz2,l4,ix,ha,nb,no,eb,ed]
theorem Mp (ln:a_ [G]=.ok (.int ((l + 1:Nat):Int))) (ha:cX [d]=.ok (.tup [da,db])) (cl:cutD G none (some (-1))=.ok G0) (nb:d7 [db]=.ok (.bl false)) (no:dD [G,d]=.ok dn) (ir:oO [G0,dn,nd]=.ok (.bl false)):aW 3 5 (bA R) [G,d,.tup [.str "halves",nd,p1,p2]]=.ok (.bl false):=by
 have it1:∀ds,bU is_tuple (.tup ds)=.ok (.bl true):=fun _=>rfl;have it2:∀s,bU is_str (.str s)=.ok (.bl true):=fun _=>rfl;have lz:¬(((l + 1:Nat):Int)=0):=by omega
 have eb:=pH "halves" ‹"1"›;have ed:=je "halves" "norm" ‹"1"› ‹"1"› (by decide);show outD (bA R [some (.arg G),some (.arg d),some (.arg (.tup [.str "halves",nd,p1,p2])),none,none])=_;unfold bA;push_cast [it1,it2,ln,lz,ha,nb,no,eb,ed,cl,ir]
theorem Ub (ln:a_ [G]=.ok (.int ((l + 1:Nat):Int))) (ha:cX [d]=.ok (.tup [da,db])) (cl:cutD G none (some (-1))=.ok G0) (nb:d7 [db]=.ok (.bl false)) (no:dD [G,d]=.ok dn) (ir:oO [G0,dn,nd]=.ok (.bl true)) (md:lG [da,nd]=.ok (.lst [m1,m2])) (h2:aW 3 3 (gk R) [G0,.lst [m1,m2],.tup [p1,p2]]=.ok (.bl b0)):aW 3 5 (bA R) [G,d,.tup [.str "halves",nd,p1,p2]]=.ok (.bl b0):=by
 have it1:∀ds,bU is_tuple (.tup ds)=.ok (.bl true):=fun _=>rfl;have it2:∀s,bU is_str (.str s)=.ok (.bl true):=fun _=>rfl;have lz:¬(((l + 1:Nat):Int)=0):=by omega
 have eb:=pH "halves" ‹"1"›;have ed:=je "halves" "norm" ‹"1"› ‹"1"› (by decide);have ct:cutD (.tup [.str "halves",nd,p1,p2]) (some 2) none=.ok (.tup [p1,p2]):=rfl;show outD (bA R [some (.arg G),some (.arg d),some (.arg (.tup [.str "halves",nd,p1,p2])),none,none])=_;unfold bA;push_cast [it1,it2,ln,lz,ha,nb,no,eb,ed,cl,ir,md,ct,h2]
theorem oI' {t:D} (h:bU is_tuple t=.ok (.bl false)):aW 3 5 (bA R) [G,d,t]=.ok (.bl false):=by
 show outD (bA R [some (.arg G),some (.arg d),some (.arg (t)),none,none])=_;unfold bA;push_cast [h]
theorem Mq:aW 3 5 (bA R) [G,d,.tup []]=.ok (.bl false):=by
 have it1:∀ds,bU is_tuple (.tup ds)=.ok (.bl true):=fun _=>rfl;have it2:∀s,bU is_str (.str s)=.ok (.bl true):=fun _=>rfl;show outD (bA R [some (.arg G),some (.arg d),some (.arg (.tup [])),none,none])=_;unfold bA;push_cast [it1]
theorem Mr {t:D} (h:bU is_str t=.ok (.bl false)):aW 3 5 (bA R) [G,d,.tup (t :: es)]=.ok (.bl false):=by
 have it1:∀ds,bU is_tuple (.tup ds)=.ok (.bl true):=fun _=>rfl;have it2:∀s,bU is_str (.str s)=.ok (.bl true):=fun _=>rfl;have lz2:¬(((es.length + 1:Nat):Int)=0):=by omega
 have ix:aR (.tup (t :: es)) (.int 0)=.ok t:=ix_tup0 _ _;show outD (bA R [some (.arg G),some (.arg d),some (.arg (.tup (t :: es))),none,none])=_;unfold bA;push_cast [it1,lz2,ix,h]
end
section
variable {R:List D->Res D} {G G0 one d X A B r p1 p2 q q1 q2 q3 sq nd qn S1 S2:D} {l:Nat} {b h n2 m m' s1 s2:Int} {s:Str} {es:List D} {b1 b2:Bool}
theorem w_not {t:D} (lo:eY [one]=.ok d) (h:bU is_tuple t=.ok (.bl false)):aW 3 11 (cg R) [G,one,t]=.ok (.bl false):=by
 show outD (cg R [some (.arg G),some (.arg one),some (.arg (t)),none,none,none,none,none,none,none,none])=_;unfold cg;push_cast [lo,h]
theorem Ms (lo:eY [one]=.ok d):aW 3 11 (cg R) [G,one,.tup []]=.ok (.bl false):=by
 have it1:∀ds,bU is_tuple (.tup ds)=.ok (.bl true):=fun _=>rfl;have it2:∀s,bU is_str (.str s)=.ok (.bl true):=fun _=>rfl;show outD (cg R [some (.arg G),some (.arg one),some (.arg (.tup [])),none,none,none,none,none,none,none,none])=_;unfold cg;push_cast [lo,it1]
theorem w_head {t:D} (lo:eY [one]=.ok d) (h:bU is_str t=.ok (.bl false)):aW 3 11 (cg R) [G,one,.tup (t :: es)]=.ok (.bl false):=by
 have it1:∀ds,bU is_tuple (.tup ds)=.ok (.bl true):=fun _=>rfl;have it2:∀s,bU is_str (.str s)=.ok (.bl true):=fun _=>rfl;have lz2:¬(((es.length + 1:Nat):Int)=0):=by omega
 have ix:aR (.tup (t :: es)) (.int 0)=.ok t:=ix_tup0 _ _;show outD (cg R [some (.arg G),some (.arg one),some (.arg (.tup (t :: es))),none,none,none,none,none,none,none,none])=_;unfold cg;push_cast [lo,it1,lz2,ix,h]
theorem Uc {e:D} (lo:eY [one]=.ok d) (f:jx [d,.tup (.str s :: es)]=.ok e):aW 3 11 (cg R) [RT [],one,.tup (.str s :: es)]=.ok e:=by
 have it1:∀ds,bU is_tuple (.tup ds)=.ok (.bl true):=fun _=>rfl;have it2:∀s,bU is_str (.str s)=.ok (.bl true):=fun _=>rfl;have ln:a_ [RT []]=.ok (.int 0):=rfl;have lz2:¬(((es.length + 1:Nat):Int)=0):=by omega
 have ix:aR (.tup (.str s :: es)) (.int 0)=.ok (.str s):=ix_tup0 _ _;show outD (cg R [some (.arg (RT [])),some (.arg one),some (.arg (.tup (.str s :: es))),none,none,none,none,none,none,none,none])=_;unfold cg;generalize RT []=G at *;push_cast [lo,it1,it2,ln,lz2,ix,f]
theorem Ud (lo:eY [one]=.ok d) (i0:aR d (.int 0)=.ok X) (i1:aR d (.int 1)=.ok (.int b)) (ln:a_ [G]=.ok (.int ((l + 1:Nat):Int))) (lx:a_ [X]=.ok (.int n2)) (fd:aL (.int n2) (.int 2)=.ok (.int h)) (cl:cutD G none (some (-1))=.ok G0) (ca:cutD X none (some h)=.ok A) (cb:cutD X (some h) none=.ok B) (il:aR G (.int (-1))=.ok r) (mx:iG [B]=.ok (.int 0)) (mn:iH [B]=.ok (.int 0)) (r1:R [G0,.tup [A,.int b],p1]=.ok (.bl b1)) (pr:cZ [G0,.tup [A,.int b],.tup [r,.int 1]]=.ok q) (r2:b1=true->R [G0,q,p2]=.ok (.bl b2)):aW 3 11 (cg R) [G,one,.tup [.str "both",p1,p2]]=.ok (.bl (b1 && b2)):=by
 have it1:∀ds,bU is_tuple (.tup ds)=.ok (.bl true):=fun _=>rfl;have it2:∀s,bU is_str (.str s)=.ok (.bl true):=fun _=>rfl;have lz:¬(((l + 1:Nat):Int)=0):=by omega
 have eb:=pH "both" ‹"1"›;show outD (cg R [some (.arg G),some (.arg one),some (.arg (.tup [.str "both",p1,p2])),none,none,none,none,none,none,none,none])=_;unfold cg
 cases b1 with
 | true =>
  have r2:=r2 rfl;push_cast [lo,it1,it2,ln,lz,i0,i1,lx,fd,cl,ca,cb,il,mx,mn,eb,r1,pr,r2,Bool.true_and]
 | false=>push_cast [lo,it1,it2,ln,lz,i0,i1,lx,fd,cl,ca,cb,il,mx,mn,eb,r1,Bool.false_and]
theorem Eo (lo:eY [one]=.ok d) (i0:aR d (.int 0)=.ok X) (i1:aR d (.int 1)=.ok (.int b)) (ln:a_ [G]=.ok (.int ((l + 1:Nat):Int))) (lx:a_ [X]=.ok (.int n2)) (fd:aL (.int n2) (.int 2)=.ok (.int h)) (cl:cutD G none (some (-1))=.ok G0) (ca:cutD X none (some h)=.ok A) (cb:cutD X (some h) none=.ok B) (il:aR G (.int (-1))=.ok r) (mx:iG [B]=.ok (.int 0)) (mn:iH [B]=.ok (.int 0)) (hx:¬es.length=2\/fQ (.str s) (.str "both")=.ok (.bl true)):aW 3 11 (cg R) [G,one,.tup (.str s :: es)]=.ok (.bl false):=by
 have it1:∀ds,bU is_tuple (.tup ds)=.ok (.bl true):=fun _=>rfl;have it2:∀s,bU is_str (.str s)=.ok (.bl true):=fun _=>rfl;have lz:¬(((l + 1:Nat):Int)=0):=by omega
 have lz2:¬(((es.length + 1:Nat):Int)=0):=by omega
 have ix:aR (.tup (.str s :: es)) (.int 0)=.ok (.str s):=ix_tup0 _ _;show outD (cg R [some (.arg G),some (.arg one),some (.arg (.tup (.str s :: es))),none,none,none,none,none,none,none,none])=_;unfold cg
 by_cases h2:es.length=2
 ·rcases hx with hx | hx
  ·exact absurd h2 hx
  ·have l3:(((es.length + 1:Nat):Int)=3):=by omega
   push_cast [lo,it1,it2,ln,lz,i0,i1,lx,fd,cl,ca,cb,il,mx,mn,lz2,ix,l3,hx]
 ·have l3:¬(((es.length + 1:Nat):Int)=3):=by omega
  push_cast [lo,it1,it2,ln,lz,i0,i1,lx,fd,cl,ca,cb,il,mx,mn,lz2,ix,l3]
theorem oL' (lo:eY [one]=.ok d) (i0:aR d (.int 0)=.ok X) (i1:aR d (.int 1)=.ok (.int b)) (ln:a_ [G]=.ok (.int ((l + 1:Nat):Int))) (lx:a_ [X]=.ok (.int n2)) (fd:aL (.int n2) (.int 2)=.ok (.int h)) (cl:cutD G none (some (-1))=.ok G0) (ca:cutD X none (some h)=.ok A) (cb:cutD X (some h) none=.ok B) (il:aR G (.int (-1))=.ok r) (mx:iG [B]=.ok (.int m)) (mn:iH [B]=.ok (.int m')) (mz:m=0->¬m'=0) (e1:cZ [G0,.tup [B,.int b],.tup [B,.int b]]=.ok q1) (e2:cZ [G0,q1,.tup [r,.int 1]]=.ok q2) (e3:cZ [G0,.tup [A,.int b],.tup [A,.int b]]=.ok q3) (e4:jo [q3,q2]=.ok sq) (eb:cH (.str s) (.str "norm")=.ok (.bl b1)) (r1:b1=true->R [G0,sq,p1]=.ok (.bl b2)):aW 3 11 (cg R) [G,one,.tup [.str s,p1]]=.ok (.bl (b1 && b2)):=by
 have it1:∀ds,bU is_tuple (.tup ds)=.ok (.bl true):=fun _=>rfl;have it2:∀s,bU is_str (.str s)=.ok (.bl true):=fun _=>rfl;have lz:¬(((l + 1:Nat):Int)=0):=by omega
 show outD (cg R [some (.arg G),some (.arg one),some (.arg (.tup [.str s,p1])),none,none,none,none,none,none,none,none])=_;unfold cg
 cases b1 with
 | true =>
  have r1:=r1 rfl;rw [Bool.true_and]
  by_cases k:m=0
  ·have k':=mz k;push_cast [lo,it1,it2,ln,lz,i0,i1,lx,fd,cl,ca,cb,il,mx,mn,k,k',e1,e2,e3,e4,eb,r1]
  ·push_cast [lo,it1,it2,ln,lz,i0,i1,lx,fd,cl,ca,cb,il,mx,k,e1,e2,e3,e4,eb,r1]
 | false =>
  rw [Bool.false_and]
  by_cases k:m=0
  ·have k':=mz k;push_cast [lo,it1,it2,ln,lz,i0,i1,lx,fd,cl,ca,cb,il,mx,mn,k,k',e1,e2,e3,e4,eb]
  ·push_cast [lo,it1,it2,ln,lz,i0,i1,lx,fd,cl,ca,cb,il,mx,k,e1,e2,e3,e4,eb]
theorem ks' (lo:eY [one]=.ok d) (i0:aR d (.int 0)=.ok X) (i1:aR d (.int 1)=.ok (.int b)) (ln:a_ [G]=.ok (.int ((l + 1:Nat):Int))) (lx:a_ [X]=.ok (.int n2)) (fd:aL (.int n2) (.int 2)=.ok (.int h)) (cl:cutD G none (some (-1))=.ok G0) (ca:cutD X none (some h)=.ok A) (cb:cutD X (some h) none=.ok B) (il:aR G (.int (-1))=.ok r) (mx:iG [B]=.ok (.int m)) (mn:iH [B]=.ok (.int m')) (mz:m=0->¬m'=0) (e1:cZ [G0,.tup [B,.int b],.tup [B,.int b]]=.ok q1) (e2:cZ [G0,q1,.tup [r,.int 1]]=.ok q2) (e3:cZ [G0,.tup [A,.int b],.tup [A,.int b]]=.ok q3) (e4:jo [q3,q2]=.ok sq) (l2:¬es.length=1) (hx:¬es.length=3\/fQ (.str s) (.str "halves")=.ok (.bl true)):aW 3 11 (cg R) [G,one,.tup (.str s :: es)]=.ok (.bl false):=by
 have it1:∀ds,bU is_tuple (.tup ds)=.ok (.bl true):=fun _=>rfl;have it2:∀s,bU is_str (.str s)=.ok (.bl true):=fun _=>rfl;have lz:¬(((l + 1:Nat):Int)=0):=by omega
 have lz2:¬(((es.length + 1:Nat):Int)=0):=by omega
 have l2':¬(((es.length + 1:Nat):Int)=2):=by omega
 have ix:aR (.tup (.str s :: es)) (.int 0)=.ok (.str s):=ix_tup0 _ _;show outD (cg R [some (.arg G),some (.arg one),some (.arg (.tup (.str s :: es))),none,none,none,none,none,none,none,none])=_;unfold cg
 by_cases h3:es.length=3
 ·rcases hx with hx | hx
  ·exact absurd h3 hx
  ·have l4:(((es.length + 1:Nat):Int)=4):=by omega
   by_cases k:m=0
   ·have k':=mz k;push_cast [lo,it1,it2,ln,lz,i0,i1,lx,fd,cl,ca,cb,il,mx,mn,k,k',e1,e2,e3,e4,lz2,ix,l2',l4,hx]
   ·push_cast [lo,it1,it2,ln,lz,i0,i1,lx,fd,cl,ca,cb,il,mx,k,e1,e2,e3,e4,lz2,ix,l2',l4,hx]
 ·have l4:¬(((es.length + 1:Nat):Int)=4):=by omega
  by_cases k:m=0
  ·have k':=mz k;push_cast [lo,it1,it2,ln,lz,i0,i1,lx,fd,cl,ca,cb,il,mx,mn,k,k',e1,e2,e3,e4,lz2,ix,l2',l4]
  ·push_cast [lo,it1,it2,ln,lz,i0,i1,lx,fd,cl,ca,cb,il,mx,k,e1,e2,e3,e4,lz2,ix,l2',l4]
theorem Ue (lo:eY [one]=.ok d) (i0:aR d (.int 0)=.ok X) (i1:aR d (.int 1)=.ok (.int b)) (ln:a_ [G]=.ok (.int ((l + 1:Nat):Int))) (lx:a_ [X]=.ok (.int n2)) (fd:aL (.int n2) (.int 2)=.ok (.int h)) (cl:cutD G none (some (-1))=.ok G0) (ca:cutD X none (some h)=.ok A) (cb:cutD X (some h) none=.ok B) (il:aR G (.int (-1))=.ok r) (mx:iG [B]=.ok (.int m)) (mn:iH [B]=.ok (.int m')) (mz:m=0->¬m'=0) (e1:cZ [G0,.tup [B,.int b],.tup [B,.int b]]=.ok q1) (e2:cZ [G0,q1,.tup [r,.int 1]]=.ok q2) (e3:cZ [G0,.tup [A,.int b],.tup [A,.int b]]=.ok q3) (e4:jo [q3,q2]=.ok sq) (isn:mj [nd,.int h]=.ok (.bl false)):aW 3 11 (cg R) [G,one,.tup [.str "halves",nd,p1,p2]]=.ok (.bl false):=by
 have it1:∀ds,bU is_tuple (.tup ds)=.ok (.bl true):=fun _=>rfl;have it2:∀s,bU is_str (.str s)=.ok (.bl true):=fun _=>rfl;have lz:¬(((l + 1:Nat):Int)=0):=by omega
 have eb:=pH "halves" ‹"1"›;show outD (cg R [some (.arg G),some (.arg one),some (.arg (.tup [.str "halves",nd,p1,p2])),none,none,none,none,none,none,none,none])=_;unfold cg
 by_cases k:m=0
 ·have k':=mz k;push_cast [lo,it1,it2,ln,lz,i0,i1,lx,fd,cl,ca,cb,il,mx,mn,k,k',e1,e2,e3,e4,eb,isn]
 ·push_cast [lo,it1,it2,ln,lz,i0,i1,lx,fd,cl,ca,cb,il,mx,k,e1,e2,e3,e4,eb,isn]
theorem Ug (lo:eY [one]=.ok d) (i0:aR d (.int 0)=.ok X) (i1:aR d (.int 1)=.ok (.int b)) (ln:a_ [G]=.ok (.int ((l + 1:Nat):Int))) (lx:a_ [X]=.ok (.int n2)) (fd:aL (.int n2) (.int 2)=.ok (.int h)) (cl:cutD G none (some (-1))=.ok G0) (ca:cutD X none (some h)=.ok A) (cb:cutD X (some h) none=.ok B) (il:aR G (.int (-1))=.ok r) (mx:iG [B]=.ok (.int m)) (mn:iH [B]=.ok (.int m')) (mz:m=0->¬m'=0) (e1:cZ [G0,.tup [B,.int b],.tup [B,.int b]]=.ok q1) (e2:cZ [G0,q1,.tup [r,.int 1]]=.ok q2) (e3:cZ [G0,.tup [A,.int b],.tup [A,.int b]]=.ok q3) (e4:jo [q3,q2]=.ok sq) (isn:mj [nd,.int h]=.ok (.bl true)) (e5:cZ [G0,nd,nd]=.ok qn) (al:p_ [qn,sq]=.ok (.bl false)):aW 3 11 (cg R) [G,one,.tup [.str "halves",nd,p1,p2]]=.ok (.bl false):=by
 have it1:∀ds,bU is_tuple (.tup ds)=.ok (.bl true):=fun _=>rfl;have it2:∀s,bU is_str (.str s)=.ok (.bl true):=fun _=>rfl;have lz:¬(((l + 1:Nat):Int)=0):=by omega
 have eb:=pH "halves" ‹"1"›;show outD (cg R [some (.arg G),some (.arg one),some (.arg (.tup [.str "halves",nd,p1,p2])),none,none,none,none,none,none,none,none])=_;unfold cg
 by_cases k:m=0
 ·have k':=mz k;push_cast [lo,it1,it2,ln,lz,i0,i1,lx,fd,cl,ca,cb,il,mx,mn,k,k',e1,e2,e3,e4,eb,isn,e5,al]
 ·push_cast [lo,it1,it2,ln,lz,i0,i1,lx,fd,cl,ca,cb,il,mx,k,e1,e2,e3,e4,eb,isn,e5,al]
theorem Uh (lo:eY [one]=.ok d) (i0:aR d (.int 0)=.ok X) (i1:aR d (.int 1)=.ok (.int b)) (ln:a_ [G]=.ok (.int ((l + 1:Nat):Int))) (lx:a_ [X]=.ok (.int n2)) (fd:aL (.int n2) (.int 2)=.ok (.int h)) (cl:cutD G none (some (-1))=.ok G0) (ca:cutD X none (some h)=.ok A) (cb:cutD X (some h) none=.ok B) (il:aR G (.int (-1))=.ok r) (mx:iG [B]=.ok (.int m)) (mn:iH [B]=.ok (.int m')) (mz:m=0->¬m'=0) (e1:cZ [G0,.tup [B,.int b],.tup [B,.int b]]=.ok q1) (e2:cZ [G0,q1,.tup [r,.int 1]]=.ok q2) (e3:cZ [G0,.tup [A,.int b],.tup [A,.int b]]=.ok q3) (e4:jo [q3,q2]=.ok sq) (isn:mj [nd,.int h]=.ok (.bl true)) (e5:cZ [G0,nd,nd]=.ok qn) (al:p_ [qn,sq]=.ok (.bl true)) (e6:p7 [.tup [A,.int b],nd]=.ok (.tup [S1,.int s1])) (e7:jo [.tup [A,.int b],nd]=.ok (.tup [S2,.int s2])) (g1:dj (.int 2) (.int s1)=.ok (.int (2 * s1))) (g2:dj (.int 2) (.int s2)=.ok (.int (2 * s2))) (r1:R [G0,.tup [S1,.int (2 * s1)],p1]=.ok (.bl b1)) (r2:b1=true->R [G0,.tup [S2,.int (2 * s2)],p2]=.ok (.bl b2)):aW 3 11 (cg R) [G,one,.tup [.str "halves",nd,p1,p2]]=.ok (.bl (b1 && b2)):=by
 have it1:∀ds,bU is_tuple (.tup ds)=.ok (.bl true):=fun _=>rfl;have it2:∀s,bU is_str (.str s)=.ok (.bl true):=fun _=>rfl;have lz:¬(((l + 1:Nat):Int)=0):=by omega
 have eb:=pH "halves" ‹"1"›;show outD (cg R [some (.arg G),some (.arg one),some (.arg (.tup [.str "halves",nd,p1,p2])),none,none,none,none,none,none,none,none])=_;unfold cg
 cases b1 with
 | true =>
  have r2:=r2 rfl;rw [Bool.true_and]
  by_cases k:m=0
  ·have k':=mz k;push_cast [lo,it1,it2,ln,lz,i0,i1,lx,fd,cl,ca,cb,il,mx,mn,k,k',e1,e2,e3,e4,eb,isn,e5,al,e6,e7,g1,g2,r1,r2]
  ·push_cast [lo,it1,it2,ln,lz,i0,i1,lx,fd,cl,ca,cb,il,mx,k,e1,e2,e3,e4,eb,isn,e5,al,e6,e7,g1,g2,r1,r2]
 | false =>
  rw [Bool.false_and]
  by_cases k:m=0
  ·have k':=mz k;push_cast [lo,it1,it2,ln,lz,i0,i1,lx,fd,cl,ca,cb,il,mx,mn,k,k',e1,e2,e3,e4,eb,isn,e5,al,e6,e7,g1,g2,r1]
  ·push_cast [lo,it1,it2,ln,lz,i0,i1,lx,fd,cl,ca,cb,il,mx,k,e1,e2,e3,e4,eb,isn,e5,al,e6,e7,g1,g2,r1]
end
section
variable {t c w:Int} {s:Str} {es:List D}
theorem Mt (h:¬es.length=0):g_ [num [t] c,.tup (.str "below" :: es)]=.ok (.bl false):=by
 have eb:=pG "below" ‹"1"›;have l1:¬(((es.length + 1:Nat):Int)=1):=by omega
 have ix:aR (.tup (.str "below" :: es)) (.int 0)=.ok (.str "below"):=ix_tup0 _ _;show outD (fX [some (.arg (num [t] c)),some (.arg (.tup (.str "below" :: es))),none])=_;unfold fX;push_cast [ix,eb,l1]
theorem H_ (h1:cH (.str s) (.str "below")=.ok (.bl false)) (h2:fQ (.str s) (.str "between")=.ok (.bl true)):g_ [num [t] c,.tup (.str s :: es)]=.ok (.bl false):=by
 have ix:aR (.tup (.str s :: es)) (.int 0)=.ok (.str s):=ix_tup0 _ _;show outD (fX [some (.arg (num [t] c)),some (.arg (.tup (.str s :: es))),none])=_;unfold fX;push_cast [ix,h1,h2]
theorem Mu (h:¬es.length=1):g_ [num [t] c,.tup (.str "between" :: es)]=.ok (.bl false):=by
 have eb:=pH "between" ‹"1"›;have ed:=je "between" "below" ‹"1"› ‹"1"› (by decide);have l1:¬(((es.length + 1:Nat):Int)=2):=by omega
 have ix:aR (.tup (.str "between" :: es)) (.int 0)=.ok (.str "between"):=ix_tup0 _ _;show outD (fX [some (.arg (num [t] c)),some (.arg (.tup (.str "between" :: es))),none])=_;unfold fX;push_cast [ix,eb,ed,l1]
theorem Ui {x:D} (h:jM [x]=.ok (.bl false)):g_ [num [t] c,.tup [.str "between",x]]=.ok (.bl false):=by
 have eb:=pH "between" ‹"1"›;have ed:=je "between" "below" ‹"1"› ‹"1"› (by decide);show outD (fX [some (.arg (num [t] c)),some (.arg (.tup [.str "between",x])),none])=_;unfold fX;push_cast [eb,ed,h]
theorem Uj (h:w < 0):g_ [num [t] c,.tup [.str "between",.int w]]=.ok (.bl false):=by
 have eb:=pH "between" ‹"1"›;have ed:=je "between" "below" ‹"1"› ‹"1"› (by decide);have hw:=Em (.int w) rfl;have hw':jM [.int w]=.ok (.bl true):=hw;show outD (fX [some (.arg (num [t] c)),some (.arg (.tup [.str "between",.int w])),none])=_;unfold fX;push_cast [eb,ed,hw',h]
theorem C_ {b:Bool} (bt:t.natAbs < 2 ^ 14000) (bc:c.natAbs < 2 ^ 14000) (h:cH (.str s) (.str "below")=.ok (.bl b)):jx [num [t] c,.tup [.str s]]=.ok (.bl (b && decide (t * c < 0))):=by
 have ix0:aR (TI [t]) (.int 0)=.ok (.int t):=ix_tup0 _ _;have mu:=cV (d_ bt (by decide)) (d_ bc (by decide));show outD (gK [some (.arg (num [t] c)),some (.arg (.tup [.str s])),none])=_;unfold gK
 cases b with
 | true=>push_cast [ix0,mu,h,Bool.true_and]
 | false=>push_cast [ix0,mu,h,Bool.false_and]
theorem Uk (bt:t.natAbs < 2 ^ 14000) (bc:c.natAbs < 2 ^ 14000) (h0:¬es.length=0) (h1:¬es.length=1):jx [num [t] c,.tup (.str s :: es)]=.ok (.bl false):=by
 have ix0:aR (TI [t]) (.int 0)=.ok (.int t):=ix_tup0 _ _;have mu:=cV (d_ bt (by decide)) (d_ bc (by decide));have l1:¬(((es.length + 1:Nat):Int)=1):=by omega
 have l2:¬(((es.length + 1:Nat):Int)=2):=by omega
 show outD (gK [some (.arg (num [t] c)),some (.arg (.tup (.str s :: es))),none])=_;unfold gK;push_cast [ix0,mu,l1,l2]
theorem Ul {x:D} (bt:t.natAbs < 2 ^ 14000) (bc:c.natAbs < 2 ^ 14000) (h:fQ (.str s) (.str "between")=.ok (.bl true)):jx [num [t] c,.tup [.str s,x]]=.ok (.bl false):=by
 have ix0:aR (TI [t]) (.int 0)=.ok (.int t):=ix_tup0 _ _;have mu:=cV (d_ bt (by decide)) (d_ bc (by decide));show outD (gK [some (.arg (num [t] c)),some (.arg (.tup [.str s,x])),none])=_;unfold gK;push_cast [ix0,mu,h]
theorem Um {x:D} (bt:t.natAbs < 2 ^ 14000) (bc:c.natAbs < 2 ^ 14000) (h:jJ [x]=.ok (.bl false)):jx [num [t] c,.tup [.str "between",x]]=.ok (.bl false):=by
 have ix0:aR (TI [t]) (.int 0)=.ok (.int t):=ix_tup0 _ _;have mu:=cV (d_ bt (by decide)) (d_ bc (by decide));have eb:=pH "between" ‹"1"›;show outD (gK [some (.arg (num [t] c)),some (.arg (.tup [.str "between",x])),none])=_;unfold gK;push_cast [ix0,mu,eb,h]
theorem Uo (bt:t.natAbs < 2 ^ 14000) (bc:c.natAbs < 2 ^ 14000) (h:w < 0):jx [num [t] c,.tup [.str "between",.int w]]=.ok (.bl false):=by
 have ix0:aR (TI [t]) (.int 0)=.ok (.int t):=ix_tup0 _ _;have mu:=cV (d_ bt (by decide)) (d_ bc (by decide));have eb:=pH "between" ‹"1"›;have hw':jJ [.int w]=.ok (.bl true):=CZ (.int w) rfl;show outD (gK [some (.arg (num [t] c)),some (.arg (.tup [.str "between",.int w])),none])=_;unfold gK;push_cast [ix0,mu,eb,hw',h]
theorem Up (bt:t.natAbs < 2 ^ 14000) (bc:c.natAbs < 2 ^ 14000) (bw:w.natAbs < 2 ^ 14000) (w0:0<=w):jx [num [t] c,.tup [.str "between",.int w]]=.ok (.bl (decide (w * w < t * c) && decide (t * c < (w + 1) * (w + 1)))):=by
 have ix0:aR (TI [t]) (.int 0)=.ok (.int t):=ix_tup0 _ _;have mu:=cV (d_ bt (by decide)) (d_ bc (by decide));have mw:=cV (d_ bw (by decide)) (d_ bw (by decide));have bw1:(w + 1).natAbs < 2 ^ 14001:=by
  have e:2 ^ 14001=2 ^ 14000 + 2 ^ 14000:=by rw [Nat.pow_succ,Nat.mul_two]
  have:=Nat.two_pow_pos 14000;omega
 have mw1:=cV (d_ bw1 (by decide)) (d_ bw1 (by decide));have es:=pH "between" ‹"1"›;have wn:¬(w < 0):=by omega
 have hw':jJ [.int w]=.ok (.bl true):=CZ (.int w) rfl;show outD (gK [some (.arg (num [t] c)),some (.arg (.tup [.str "between",.int w])),none])=_;unfold gK
 by_cases h1:w * w < t * c
 ·push_cast [ix0,mu,es,hw',wn,El,mw,h1];rw [HH (d:=.int ((w + 1) * (w + 1))) (by push_cast [mw1])];push_cast [Bool.true_and]
 ·push_cast [ix0,mu,es,hw',wn,El,mw,h1,Bool.false_and]
theorem Uq (bt:t.natAbs < 2 ^ 14000) (bc:c.natAbs < 2 ^ 14000) (c0:0 < c) (hs:PyData.strOk s=true) {m:Nat} (he:∀x∈es,Gd m x):∃b,g_ [num [t] c,.tup (.str s :: es)]=.ok (.bl b)/\jx [num [t] c,.tup (.str s :: es)]=.ok (.bl b):=by
 have tc:decide (t * c < 0)=decide (t < 0):=by
  by_cases h:t < 0
  ·rw [_root_.decide_eq_true h,_root_.decide_eq_true (Int.mul_neg_of_neg_of_pos h c0)]
  ·have:0<=t * c:=Int.mul_nonneg (by omega) (by omega);rw [_root_.decide_eq_false h,_root_.decide_eq_false (by omega)]
 match es,he with
 | [],_ =>
  by_cases h:s = "below"
  ·subst h;refine ⟨_,LR t c,?_⟩;rw [C_ bt bc (pG "below" ‹"1"›),tc]; rfl
  ·refine ⟨false,?_,by rw [C_ bt bc (je s "below" hs ‹"1"› h)]; rfl⟩
   by_cases h2:s = "between"
   ·subst h2; exact Mu (by decide)
   ·exact H_ (je s "below" hs ‹"1"› h) (yd s "between" hs ‹"1"› h2)
 | [x],he =>
  by_cases h2:s = "between"
  ·subst h2;have hx:=he x (by simp)
   cases hw:isW x with
   | false =>
    have a1:=Em x hx.ok;have a2:=CZ x hx.ok;rw [hw] at a1 a2;exact ⟨false,Ui a1,Um bt bc a2⟩
   | true =>
    obtain ⟨w,rfl⟩:∃i,x=.int i:=by cases x <;> first | exact ⟨_,rfl⟩ | cases hw
    by_cases w0:w < 0
    ·exact ⟨false,Uj w0,Uo bt bc w0⟩
    ·have q:w.natAbs < 2 ^ 3900:=by cases m <;> exact hx
     have bw:w.natAbs < 2 ^ 14000:=Nat.lt_of_lt_of_le q (gj (by decide));exact ⟨_,L_ bt bc bw (by omega),Up bt bc bw (by omega)⟩
  ·refine ⟨false,?_,Ul bt bc (yd s "between" hs ‹"1"› h2)⟩
   by_cases h:s = "below"
   ·subst h; exact Mt (by simp)
   ·exact H_ (je s "below" hs ‹"1"› h) (yd s "between" hs ‹"1"› h2)
 | x :: y :: es,_ =>
  refine ⟨false,?_,Uk bt bc (by simp) (by simp)⟩
  by_cases h:s = "below"
  ·subst h; exact Mt (by simp)
  ·by_cases h2:s = "between"
   ·subst h2; exact Mu (by simp)
   ·exact H_ (je s "below" hs ‹"1"› h) (yd s "between" hs ‹"1"› h2)
end
section
variable {R:List D->Res D} {G da db dn d:D} {l:Nat} {s:Str} {es:List D}
theorem Ia (ln:a_ [G]=.ok (.int ((l + 1:Nat):Int))) (ha:cX [d]=.ok (.tup [da,db])) (nb:d7 [db]=.ok (.bl true)) (s1:cH (.str s) (.str "both")=.ok (.bl false)):aW 3 5 (bA R) [G,d,.tup (.str s :: es)]=.ok (.bl false):=by
 have it1:∀ds,bU is_tuple (.tup ds)=.ok (.bl true):=fun _=>rfl;have it2:bU is_str (.str s)=.ok (.bl true):=rfl;have lz:¬(((l + 1:Nat):Int)=0):=by omega
 have lz2:¬(((es.length + 1:Nat):Int)=0):=by omega
 have ix:aR (.tup (.str s :: es)) (.int 0)=.ok (.str s):=ix_tup0 _ _;show outD (bA R [some (.arg G),some (.arg d),some (.arg (.tup (.str s :: es))),none,none])=_;unfold bA;push_cast [it1,it2,ln,lz,lz2,ix,ha,nb,s1]
theorem Ur (ln:a_ [G]=.ok (.int ((l + 1:Nat):Int))) (ha:cX [d]=.ok (.tup [da,db])) (nb:d7 [db]=.ok (.bl false)) (no:dD [G,d]=.ok dn) (s2:cH (.str s) (.str "norm")=.ok (.bl false)) (s3:fQ (.str s) (.str "halves")=.ok (.bl true)):aW 3 5 (bA R) [G,d,.tup (.str s :: es)]=.ok (.bl false):=by
 have it1:∀ds,bU is_tuple (.tup ds)=.ok (.bl true):=fun _=>rfl;have it2:bU is_str (.str s)=.ok (.bl true):=rfl;have lz:¬(((l + 1:Nat):Int)=0):=by omega
 have lz2:¬(((es.length + 1:Nat):Int)=0):=by omega
 have ix:aR (.tup (.str s :: es)) (.int 0)=.ok (.str s):=ix_tup0 _ _;show outD (bA R [some (.arg G),some (.arg d),some (.arg (.tup (.str s :: es))),none,none])=_;unfold bA;push_cast [it1,it2,ln,lz,lz2,ix,ha,nb,no,s2,s3]
end
theorem Us {G e t:D} {l:Int} (ln:a_ [G]=.ok (.int l)) (h:oH [t,.int l]=.ok (.bl false)):oO [G,e,t]=.ok (.bl false):=by
 show outD (oN [some (.arg G),some (.arg e),some (.arg t)])=_;unfold oN;push_cast [ln,h]
theorem Mv {G e t z:D} {l:Int} {b:Bool} (ln:a_ [G]=.ok (.int l)) (h:oH [t,.int l]=.ok (.bl true)) (tt:g8 [G,t,t]=.ok z) (eq:cH z e=.ok (.bl b)):oO [G,e,t]=.ok (.bl b):=by
 show outD (oN [some (.arg G),some (.arg e),some (.arg t)])=_;unfold oN;push_cast [ln,h,tt,eq]
noncomputable def wG:Nat->Nat->Bool
 | 0,P=>decide (P<=7000)
 | k + 1,P=>decide (2 * P + eT 10 (k + 1)<=8000) && decide (P + 10 + eT 10 k<=8000) && decide (P + (P + eN k) + 2<=8000) && decide (4 * P + 10 + 3 * eT 10 k + 1<=8000) && wG k P && wG k (P + 10 + eT 10 k) && wG k (2 * P + eT 10 (k + 1)) && wG k (P + eN k + 2)
theorem Mw {m:Nat} {t:D} (h:Gd m t) (ht:¬ ∃ds,t=.tup ds):bU is_tuple t=.ok (.bl false):=by
 have:=h.ok
 cases t <;> first | rfl | exact absurd ⟨_,rfl⟩ ht | cases this
theorem Mx {m:Nat} {t:D} (h:Gd m t) (ht:¬ ∃s,t=.str s):bU is_str t=.ok (.bl false):=by
 have:=h.ok
 cases t <;> first | rfl | exact absurd ⟨_,rfl⟩ ht | cases this
theorem Dc (t:D) (es:List D):cutD (.tup (t :: es)) (some 1) none=.ok (.tup es):=wW (t :: es) 1
section
variable {rs:List (List Int)} {F:OF} {of:List Int->F.C}
open Classical in
theorem eqv (T:Tow rs F of):rs.length<=3->(∀r∈rs,Bd 10 r)->∀n,rs.length < n->∀(P q k:Nat) (d one t:D) (v:F.C),Nm of rs.length P d v->Rw of rs.length q one v->q<=8000->Gd k t->wG rs.length P=true->∃b,bI n [RT rs,d,t]=.ok (.bl b)/\bY n [RT rs,one,t]=.ok (.bl b):=by
 induction T with
 | nil =>
  intro h3 _ n hn P q k d one t v hd h1 hq hg ho;obtain ⟨m,rfl⟩:∃m,n=m + 1:=⟨n - 1,by have:0 < n:=hn; omega⟩;have ho':P<=7000:=of_decide_eq_true ho;obtain ⟨d1,lo,hd1⟩:=Ec Tow.nil h3 h1 hq;have e:=iT Tow.nil hd1 hd;subst e
  by_cases ht:∃ds,t=.tup ds
  ·obtain ⟨ds,rfl⟩:=ht
   match ds,hg with
   | [],_=>exact ⟨false,Mq (R:=bI m),Ms (R:=bY m) lo⟩
   | x :: es,hg =>
    obtain ⟨k',_,_,hx⟩:=hg.tup
    by_cases hs:∃s,x=.str s
    ·obtain ⟨s,rfl⟩:=hs;have so:PyData.strOk s=true:=by have:=hx (.str s) (by simp); cases k' <;> exact this
     obtain ⟨x,c,rfl,nx,lx,bx,bc,ex⟩:=hd
     match x,lx with
     | [t0],_ =>
      have bt:t0.natAbs < 2 ^ P:=bx t0 (by simp);obtain ⟨b,f1,f2⟩:=Uq (t:=t0) (c:=c) (s:=s) (es:=es) (Nat.lt_of_lt_of_le bt (gj (by omega))) (Nat.lt_of_lt_of_le bc (gj (by omega))) nx.pos so (fun y hy=>hx y (mem_cons_of_mem _ hy));exact ⟨b,Tv (R:=bI m) f1,Uc (R:=bY m) lo f2⟩
    ·have hs':=Mx (hx x (by simp)) hs;exact ⟨false,Mr (R:=bI m) hs',w_head (R:=bY m) lo hs'⟩
  ·have ht':=Mw hg ht;exact ⟨false,oI' (R:=bI m) ht',w_not (R:=bY m) lo ht'⟩
 | @cons rs F of T r hl hr hn ih =>
  intro h3 hrs n hk P q k d one t v hd hone hq hg ho;rw [length_cons] at h3 hk;obtain ⟨m,rfl⟩:∃m,n=m + 1:=⟨n - 1,by omega⟩;have T':=Tow.cons T r hl hr hn;have hr1:=hrs r (by simp);have hrs':∀s∈rs,Bd 10 s:=fun s hs=>hrs s (mem_cons_of_mem _ hs);have ihB:=ih (by omega) hrs' m (by omega);have h3':rs.length < 3:=by omega
  have n1:=Nat.two_pow_pos rs.length;have cl:=nO r rs;have il:=wk r rs;have ln:a_ [RT (r :: rs)]=.ok (.int ((rs.length + 1:Nat):Int)):=by
   show Res.ok (D.int (((r :: rs).reverse.map TI).length:Int))=_;rw [length_map,length_reverse,length_cons]
  have ln0:a_ [RT rs]=.ok (.int (rs.length:Int)):=by
   show Res.ok (D.int ((rs.reverse.map TI).length:Int))=_;rw [length_map,length_reverse]
  have nr:=yI (of:=of) (fun _=>rfl) hl hr1;have ho':wG (rs.length + 1) P=true:=ho;simp only [wG,Bool.and_eq_true,decide_eq_true_eq] at ho';obtain ⟨⟨⟨⟨⟨⟨⟨o1,o2⟩,o3⟩,w1⟩,u1⟩,u2⟩,u3⟩,u4⟩:=ho';obtain ⟨d1,lo,hd1⟩:=Ec T' (by rw [length_cons]; omega) hone hq;have e:=iT T' hd1 hd;subst e
  by_cases ht:∃ds,t=.tup ds
  ·obtain ⟨ds,rfl⟩:=ht
   match ds,hg with
   | [],_=>exact ⟨false,Mq (R:=bI m),Ms (R:=bY m) lo⟩
   | x0 :: es,hg =>
    obtain ⟨k',_,_,hx⟩:=hg.tup
    by_cases hs:∃s,x0=.str s
    ·obtain ⟨s,rfl⟩:=hs;have so:PyData.strOk s=true:=by have:=hx (.str s) (by simp); cases k' <;> exact this
     have hes:∀y∈es,Gd k' y:=fun y hy=>hx y (mem_cons_of_mem _ hy);clear hg hx;obtain ⟨da,db,ed,ha,hb⟩:=iV T h3' hd (by omega);obtain ⟨x,b,exd,nx,lx,bx,bb,ex⟩:=id hd;have pb:=nx.pos;have b0:=fO T (show b≠0 by omega);obtain ⟨va,vb⟩:=zU b0 ex;have lA:=jl lx;have lB:=jH lx;have hA:Rw of rs.length P (.tup [TI (bj x),.int b]) (Ext.a (r:=of r) v):=⟨_,b,rfl,pb,lA,bx.fr,bb,va⟩;have hB:Rw of rs.length P (.tup [TI (bf x),.int b]) (Ext.b (r:=of r) v):=⟨_,b,rfl,pb,lB,bx.bh,bb,vb⟩;have i0:aR d1 (.int 0)=.ok (TI x):=by rw [exd]; exact ix_tup0 _ _
     have i1:aR d1 (.int 1)=.ok (.int b):=by rw [exd]; exact ix_tup1 _ _ _
     have lnx:a_ [TI x]=.ok (.int ((x.length:Nat):Int)):=by
      show Res.ok (D.int ((x.map D.int).length:Int))=_;rw [length_map]
     have fd:=dv' x.length;have ca:cutD (TI x) none (some ((x.length / 2:Nat):Int))=.ok (TI (bj x)):=Gn _ _;have cb:cutD (TI x) (some ((x.length / 2:Nat):Int)) none=.ok (TI (bf x)):=Gp _ _;have hh:((x.length / 2:Nat):Int)=((2 ^ rs.length:Nat):Int):=by rw [lx,length_cons,Nat.pow_succ]; omega
     have mx:=TF (ns:=bf x) (by rw [lB]; exact n1);have mn:=TJ (ns:=bf x) (by rw [lB]; exact n1)
     by_cases c:Ext.b (r:=of r) v=0
     ·obtain ⟨dar,ebw,har⟩:=uJ T h3' hrs' hl hr1 ha o2;have nb:=CV T (by omega) hb c;obtain ⟨pq,e3,hpq⟩:=xm T (by omega) hrs' hA nr.rw (by omega);have zb:bf x=List.replicate (2 ^ rs.length) 0:=by
       refine GD T lB (by rw [length_replicate]) (Eq.trans ?_ (dk' T).symm);rw [c] at vb;exact HS b0 vb
      rw [zb] at mx mn cb;rw [mx_z.1] at mx;rw [mx_z.2] at mn
      by_cases sb:s = "both"
      ·subst sb
       match es,hes with
       | [p1,p2],hes =>
        obtain ⟨b1,f1,g1⟩:=ihB P P k' da _ p1 _ ha hA (by omega) (hes p1 (by simp)) u1;obtain ⟨b2,f2,g2⟩:=ihB _ _ k' dar pq p2 _ har hpq (by omega) (hes p2 (by simp)) u2;exact ⟨b1 && b2,En (R:=bI m) ln ed cl nb ebw (Dc _ _) (of_two f1 fun _=>f2),Ud (R:=bY m) lo i0 i1 ln lnx fd cl ca cb il mx mn g1 e3 fun _=>g2⟩
       | [],_=>exact ⟨false,En (R:=bI m) ln ed cl nb ebw (Dc _ _) (H9 (by simp)),Eo (R:=bY m) lo i0 i1 ln lnx fd cl ca cb il mx mn (.inl (by simp))⟩
       | [p1],_=>exact ⟨false,En (R:=bI m) ln ed cl nb ebw (Dc _ _) (H9 (by simp)),Eo (R:=bY m) lo i0 i1 ln lnx fd cl ca cb il mx mn (.inl (by simp))⟩
       | p1 :: p2 :: p3 :: es,_=>exact ⟨false,En (R:=bI m) ln ed cl nb ebw (Dc _ _) (H9 (by simp)),Eo (R:=bY m) lo i0 i1 ln lnx fd cl ca cb il mx mn (.inl (by simp))⟩
      ·exact ⟨false,Ia (R:=bI m) ln ed nb (je s _ so ‹"1"› sb),Eo (R:=bY m) lo i0 i1 ln lnx fd cl ca cb il mx mn (.inr (yd s _ so ‹"1"› sb))⟩
     ·have nb:=CW T (by omega) hb c;have mz:wQ (bf x)=0->¬wR (bf x)=0:=fun z1 z2=>c (by
       have:bf x=List.replicate (2 ^ rs.length) 0:=eq_replicate_iff.mpr ⟨lB,Q9 z1 z2⟩;rw [vb,this,dk' T]; exact HW)
      obtain ⟨dn,en,hN⟩:=jr T h3' hl hr1 hrs' hd o1;obtain ⟨y1,e1,hy1⟩:=xm T (by omega) hrs' hB hB (by omega);obtain ⟨y2,e2,hy2⟩:=xm T (by omega) hrs' hy1 nr.rw (by omega);obtain ⟨y3,e3,hy3⟩:=xm T (by omega) hrs' hA hA (by omega);obtain ⟨sq,e4,hsq⟩:=kS' T (by omega) hy3 hy2 (by omega);have hsq':Rw of rs.length _ sq (Ext.nrm (r:=of r) v):=hsq;have hold:∀es',(s = "norm"->¬es'.length=1)->(s = "halves"->¬es'.length=3)->bI (m + 1) [RT (r :: rs),d1,.tup (.str s :: es')]=.ok (.bl false):=fun es' l1 l3=>by
       by_cases sn:s = "norm"
       ·subst sn;exact T_ (R:=bI m) ln ed nb en (l1 rfl)
       ·by_cases sh:s = "halves"
        ·subst sh;exact Ua (R:=bI m) ln ed nb en (l3 rfl)
        ·exact Ur (R:=bI m) ln ed nb en (je s _ so ‹"1"› sn) (yd s _ so ‹"1"› sh)
      match es,hes with
      | [],_=>exact ⟨false,hold [] (fun _=>by simp) (fun _=>by simp),ks' (R:=bY m) lo i0 i1 ln lnx fd cl ca cb il mx mn mz e1 e2 e3 e4 (by simp) (.inl (by simp))⟩
      | [p1],hes =>
       by_cases sn:s = "norm"
       ·subst sn;obtain ⟨b1,f1,g1⟩:=ihB _ _ k' dn sq p1 _ hN hsq' (by omega) (hes p1 (by simp)) u3;refine ⟨b1,T9 (R:=bI m) ln ed cl nb en f1,?_⟩;have:=oL' (R:=bY m) (b1:=true) lo i0 i1 ln lnx fd cl ca cb il mx mn mz e1 e2 e3 e4 (pG "norm" ‹"1"›) fun _=>g1;rw [Bool.true_and] at this; exact this
       ·refine ⟨false,hold [p1] (fun h=>absurd h sn) (fun _=>by simp),?_⟩;have:=oL' (R:=bY m) (b1:=false) (b2:=false) (p1:=p1) lo i0 i1 ln lnx fd cl ca cb il mx mn mz e1 e2 e3 e4 (je s "norm" so ‹"1"› sn) fun h=>by cases h
        exact this
      | [p1,p2],_=>exact ⟨false,hold _ (fun _=>by simp) (fun _=>by simp),ks' (R:=bY m) lo i0 i1 ln lnx fd cl ca cb il mx mn mz e1 e2 e3 e4 (by simp) (.inl (by simp))⟩
      | p1 :: p2 :: p3 :: p4 :: es,_=>exact ⟨false,hold _ (fun _=>by simp) (fun _=>by simp),ks' (R:=bY m) lo i0 i1 ln lnx fd cl ca cb il mx mn mz e1 e2 e3 e4 (by simp) (.inl (by simp))⟩
      | [nd,p1,p2],hes =>
       by_cases sh:s = "halves"
       ·subst sh;have gnd:=hes nd (by simp);have is1:=T8 (k:=rs.length) (by omega) gnd;have is2:=mA' (n:=2 ^ rs.length) gnd;rw [<- hh] at is2
        cases hi:cI (2 ^ rs.length) nd with
        | false =>
         rw [hi] at is1 is2;exact ⟨false,Mp (R:=bI m) ln ed cl nb en (Us ln0 is1),Ue (R:=bY m) lo i0 i1 ln lnx fd cl ca cb il mx mn mz e1 e2 e3 e4 is2⟩
        | true =>
         rw [hi] at is1 is2;obtain ⟨xn,cn,en',nfn,lxn⟩:=T5 hi;have gnd':=gnd;rw [en'] at gnd';obtain ⟨k2,_,_,hnd2⟩:=Gd.tup (ds:=[TI xn,.int cn]) gnd';obtain ⟨k3,_,_,hnd3⟩:=(hnd2 (TI xn) (by simp)).tup;have bxn:Bd 3900 xn:=fun y hy=>by
          have:=hnd3 (.int y) (mem_map.mpr ⟨y,hy,rfl⟩)
          cases k3 <;> exact this
         have bcn:cn.natAbs < 2 ^ 3900:=by
          have:=hnd2 (.int cn) (by simp)
          cases k2 <;> exact this
         have hnd:Nm of rs.length 3900 nd (of xn / (cn:F.C)):=⟨xn,cn,en',nfn,lxn,bxn,bcn,rfl⟩;have e77:=KZ (show rs.length<=3 by omega);obtain ⟨z,ez,hz⟩:=j4 T (by omega) hrs' hnd hnd (by omega);have er:=RQ T hz hN;obtain ⟨qn,e5,hqn⟩:=xm T (by omega) hrs' hnd.rw hnd.rw (by omega);have al:=Sy T (by omega) hqn hsq' (by omega) (by omega);generalize of xn / (cn:F.C)=u at *
         by_cases uv:u * u=Ext.nrm (r:=of r) v
         ·rw [_root_.decide_eq_true uv] at er al;obtain ⟨⟨nd',hnd'⟩,⟨j1,hk1⟩,j2,hk2⟩:=CQ T h3' hrs' hl hr1 hd uv;have gn:=iT T hnd' hnd;subst gn;obtain ⟨m1,m2,em',hm1,hm2⟩:=uK T (by omega) ha hnd' o3;have g1:=iT T hk1 hm1;have g2:=iT T hk2 hm2;subst g1 g2;obtain ⟨z1,e6,hz1⟩:=KY T (by omega) hA hnd'.rw (by omega);obtain ⟨z2,e7,hz2⟩:=kS' T (by omega) hA hnd'.rw (by omega);obtain ⟨S1,s1,rfl,g1,hS1⟩:=Mi T hz1 (by omega);obtain ⟨S2,s2,rfl,g2,hS2⟩:=Mi T hz2 (by omega);obtain ⟨b1,f1,k1⟩:=ihB _ _ k' _ _ p1 _ hk1 hS1 (by omega) (hes p1 (by simp)) u4;obtain ⟨b2,f2,k2'⟩:=ihB _ _ k' _ _ p2 _ hk2 hS2 (by omega) (hes p2 (by simp)) u4;exact ⟨b1 && b2,Ub (R:=bI m) ln ed cl nb en (Mv ln0 is1 ez er) em' (of_two f1 fun _=>f2),Uh (R:=bY m) lo i0 i1 ln lnx fd cl ca cb il mx mn mz e1 e2 e3 e4 is2 e5 al e6 e7 g1 g2 k1 fun _=>k2'⟩
         ·rw [_root_.decide_eq_false uv] at er al;exact ⟨false,Mp (R:=bI m) ln ed cl nb en (Mv ln0 is1 ez er),Ug (R:=bY m) lo i0 i1 ln lnx fd cl ca cb il mx mn mz e1 e2 e3 e4 is2 e5 al⟩
       ·exact ⟨false,hold _ (fun _=>by simp) (fun h=>absurd h sh),ks' (R:=bY m) lo i0 i1 ln lnx fd cl ca cb il mx mn mz e1 e2 e3 e4 (by simp) (.inr (yd s _ so ‹"1"› sh))⟩
    ·have hs':=Mx (hx x0 (by simp)) hs;exact ⟨false,Mr (R:=bI m) hs',w_head (R:=bY m) lo hs'⟩
  ·have ht':=Mw hg ht;exact ⟨false,oI' (R:=bI m) ht',w_not (R:=bY m) lo ht'⟩
end
noncomputable def isWord (s:Str):Prop:=s = "below"\/s = "between"\/s = "both"\/s = "norm"\/s = "halves"
theorem Ut {s:Str} (h:isWord s):∃u,d9 (.str s) []=.ok (.str u)/\PyData.strOk u=true:=by
 have go:∀(s u:Str),(∀c∈s.cps.toList,c < 128)->(⟨s.cps.map PyProof.Rows.up1⟩:Str)=u->u.length<=100->PyData.strOk u=true->∃u,d9 (.str s) []=.ok (.str u)/\PyData.strOk u=true:=fun s u h1 h2 h3 h4=>by
  have e:Txt.upper s=u:=(upper_ascii h1).trans h2;refine ⟨u,?_,h4⟩;show (if Builtin.Str.tooLong (Txt.upper s).length=false then Res.ok (D.str (Txt.upper s)) else .stuck)=_
  have t:Builtin.Str.tooLong (Txt.upper s).length=false:=by
   rw [e];unfold Builtin.Str.tooLong;have:100<=sizeLine:=by decide
   exact _root_.decide_eq_false (by omega)
  rw [if_pos t,e]
 rcases h with z | z | z | z | z <;> subst z
 ·exact go "below" "BELOW" ‹"1"› ‹"1"› ‹"1"› ‹"1"›
 ·exact go "between" "BETWEEN" ‹"1"› ‹"1"› ‹"1"› ‹"1"›
 ·exact go "both" "BOTH" ‹"1"› ‹"1"› ‹"1"› ‹"1"›
 ·exact go "norm" "NORM" ‹"1"› ‹"1"› ‹"1"› ‹"1"›
 ·exact go "halves" "HALVES" ‹"1"› ‹"1"› ‹"1"› ‹"1"›
theorem Uu {s:Str} (h:isWord s):PyData.strOk s=true:=by
 rcases h with z | z | z | z | z <;> subst z <;> decide +kernel
theorem Gd.mono:∀{n:Nat} {d:D},Gd n d->Gd (n + 1) d
 | n,.non,_=>by cases n <;> trivial
 | n,.bl _,_=>by cases n <;> trivial
 | 0,.int _,h=>h
 | n + 1,.int _,h=>h
 | 0,.str _,h=>h
 | n + 1,.str _,h=>h
 | n + 1,.tup ds,h=>⟨h.1,fun d hd=>Gd.mono (h.2 d hd)⟩
 | n + 1,.lst ds,h=>⟨h.1,fun d hd=>Gd.mono (h.2 d hd)⟩
 | 0,.tup _,h=>h.elim
 | 0,.lst _,h=>h.elim
 | n,.exc _,h=>by cases n <;> exact h.elim
 | n,.excf _ _ _,h=>by cases n <;> exact h.elim
 | n,.dct,h=>by cases n <;> exact h.elim
theorem Gd.up {n m:Nat} {d:D} (h:Gd n d) (e:n<=m):Gd m d:=by
 obtain ⟨k,rfl⟩:=Nat.le.dest e;clear e
 induction k with
 | zero=>exact h
 | succ k ih=>exact ih.mono
theorem jA {n:Nat} {s:Str} (h:PyData.strOk s=true):Gd n (.str s):=by cases n <;> exact h
theorem wH {n:Nat} {i:Int} (h:i.natAbs < 2 ^ 3900):Gd n (.int i):=by cases n <;> exact h
theorem My {n:Nat}:Gd n .non:=by cases n <;> trivial
theorem Uv {n:Nat} {b:Bool}:Gd n (.bl b):=by cases n <;> trivial
theorem iI {n:Nat} {ds:List D} (hl:ds.length<=100) (h:∀d∈ds,Gd n d):Gd (n + 1) (.tup ds):=⟨hl,h⟩
inductive Pp:Nat->D->Prop where
 | blw (n:Nat):Pp n (.tup [.str "below"])
 | btw (n:Nat) (w:Int) (h:w.natAbs < 2 ^ 3800):Pp n (.tup [.str "between",.int w])
 | both (n:Nat) (p1 p2:D) (h1:Pp n p1) (h2:Pp n p2):Pp (n + 1) (.tup [.str "both",p1,p2])
 | norm (n:Nat) (p:D) (h:Pp n p):Pp (n + 1) (.tup [.str "norm",p])
 | halves (n:Nat) (x:List Int) (c:Int) (p1 p2:D) (lx:x.length<=8) (l0:0 < x.length) (bx:Bd 3800 x) (bc:c.natAbs < 2 ^ 3800) (h1:Pp n p1) (h2:Pp n p2):Pp (n + 1) (.tup [.str "halves",num x c,p1,p2])
theorem Pp.mono {n:Nat} {d:D} (h:Pp n d):Pp (n + 1) d:=by
 induction h with
 | blw n=>exact .blw _
 | btw n w h=>exact .btw _ w h
 | both n p1 p2 _ _ h1 h2=>exact .both _ _ _ h1 h2
 | norm n p _ h=>exact .norm _ _ h
 | halves n x c p1 p2 a b e f _ _ h1 h2=>exact .halves _ x c _ _ a b e f h1 h2
theorem nq {i:Int} (h:i.natAbs < 2 ^ 3800):i.natAbs < 2 ^ 3900:=Nat.lt_of_lt_of_le h (gj (by decide))
theorem yJ {n:Nat} {x:List Int} {c:Int} (lx:x.length<=8) (bx:Bd 3900 x) (bc:c.natAbs < 2 ^ 3900):Gd (n + 2) (num x c) :=
 iI (ds:=[TI x,.int c]) (by simp) fun d hd=>by
  rcases mem_cons.mp hd with z | z
  ·rw [z];exact iI (by rw [length_map]; omega) fun d hd=>by
    obtain ⟨a,ha,rfl⟩:=mem_map.mp hd;exact wH (bx a ha)
  ·rw [mem_singleton.mp z]; exact wH bc
theorem Pp.gd {n:Nat} {d:D} (h:Pp n d):Gd (n + 3) d:=by
 induction h with
 | blw n=>exact iI (n:=n + 2) (by simp) fun d hd=>by rw [mem_singleton.mp hd]; exact jA ‹"1"›
 | btw n w h =>
  exact iI (n:=n + 2) (by simp) fun d hd=>by
   rcases mem_cons.mp hd with z | z
   ·rw [z]; exact jA ‹"1"›
   ·rw [mem_singleton.mp z]; exact wH (nq h)
 | both n p1 p2 _ _ h1 h2 =>
  exact iI (n:=n + 3) (by simp) fun d hd=>by
   simp only [mem_cons,not_mem_nil,or_false] at hd;rcases hd with z | z | z <;> subst z
   ·exact jA ‹"1"›
   ·exact h1
   ·exact h2
 | norm n p _ h =>
  exact iI (n:=n + 3) (by simp) fun d hd=>by
   simp only [mem_cons,not_mem_nil,or_false] at hd;rcases hd with z | z <;> subst z
   ·exact jA ‹"1"›
   ·exact h
 | halves n x c p1 p2 a b e f _ _ h1 h2 =>
  exact iI (n:=n + 3) (by simp) fun d hd=>by
   simp only [mem_cons,not_mem_nil,or_false] at hd;rcases hd with z | z | z | z <;> subst z
   ·exact jA ‹"1"›
   ·exact yJ a (e.mono (by decide)) (nq f)
   ·exact h1
   ·exact h2
theorem Pp.head {n:Nat} {d:D} (h:Pp n d):∃s es,d=.tup (.str s :: es)/\isWord s/\es.length<=3:=by
 cases h with
 | blw n=>exact ⟨_,_,rfl,.inl rfl,by simp⟩
 | btw n w h=>exact ⟨_,_,rfl,.inr (.inl rfl),by simp⟩
 | both n p1 p2 h1 h2=>exact ⟨_,_,rfl,.inr (.inr (.inl rfl)),by simp⟩
 | norm n p h=>exact ⟨_,_,rfl,.inr (.inr (.inr (.inl rfl))),by simp⟩
 | halves n x c p1 p2 a b e f h1 h2=>exact ⟨_,_,rfl,.inr (.inr (.inr (.inr rfl))),by simp⟩
theorem Uw (ds:List D) (h:0 < ds.length):cutD (.tup ds) none (some (-1))=.ok (.tup (ds.take (ds.length - 1))):=by
 show Res.ok (D.tup (gh ds none (some (-1))))=_;unfold gh;have e:HT.sIx ds.length ds.length (some (-1))=ds.length - 1:=by
  unfold HT.sIx;dsimp only;rw [if_pos (by decide)]; omega
 rw [e,HT.sIx_none,drop_zero,Nat.sub_zero]
theorem pI {A B:List D} (h:A.length + B.length<=1000):aN (.tup A) (.tup B)=.ok (.tup (A ++ B)):=by
 show (if A.length + B.length<=sizeLine then Res.ok (D.tup (A ++ B)) else Res.stuck)=_
 have e:1000<=sizeLine:=by decide
 rw [if_pos (by omega)]
theorem yf {l:List D} {i:Int} (h0:0<=i) (h1:i < (l.length:Int)):∃d∈l,aR (.lst l) (.int i)=.ok d:=by
 obtain ⟨j,rfl⟩:=Int.eq_ofNat_of_zero_le h0;have hj:j < l.length:=by omega
 refine ⟨l[j],getElem_mem hj,?_⟩;show (match jg l ((j:Nat):Int) with | some d=>Res.ok d | none=>.stuck)=_
 rw [lo' (List.getElem?_eq_getElem hj)]
theorem Ep (a:Int) {b:Int} (b0:b≠0) (h:b.natAbs < 2 ^ 20):aL (.int a) (.int b)=.ok (.int (Int.fdiv a b)):=pQ b0 (Nat.lt_of_lt_of_le h (gj (by decide)))
section
variable {T T1 o5 o6 o7 o11 o12 o:D} {s u:Str} {c k x i:Int} {b3 b4:Bool}
theorem Ux (li:iR [T]=.ok o5) (a6:aN T (.tup [.str "x"])=.ok o6) (c7:cutD T none (some (-1))=.ok o7) (i0:aR T (.int 0)=.ok (.str s)) (up:d9 (.str s) []=.ok (.str u)) (c1:cutD T (some 1) none=.ok T1) (a11:aN (.tup [.str u]) T1=.ok o11) (a12:aN (.tup [.non]) T1=.ok o12) :
  (aD 2 (fU (aj (fun _=>.ok .non) (aj (aQ ‹""›) (aj ‹"C"› (aj ‹"H"› (aj (aQ (aj ‹"r"› (aj (fun _=>.ok (.bl true)) ‹""›))) ‹"c"›))))))) [some (.arg T),some (.arg (.int c)),none,none,none]=.nxt [some (.arg T),some (.arg (.int c)),some (.val (.lst [.non,.tup [],.tup [.str "below"],.tup [.str "between",.int 0],.tup [.str "between",.bl true],o5,o6,o7,.str "below"])),none,none]/\(aD 2 (two (ak 2) ‹"a"› aN)) [some (.arg T),some (.arg (.int c)),some (.val (.lst [.non,.tup [],.tup [.str "below"],.tup [.str "between",.int 0],.tup [.str "between",.bl true],o5,o6,o7,.str "below"])),none,none]=.nxt [some (.arg T),some (.arg (.int c)),some (.val (.lst [.non,.tup [],.tup [.str "below"],.tup [.str "between",.int 0],.tup [.str "between",.bl true],o5,o6,o7,.str "below",.tup [.str "norm",T],.tup [.str "both",T,T],o11,o12,.int 7])),none,none]:=by
 constructor
 ·have e:(fU (aj (fun _=>.ok .non) (aj (aQ ‹""›) (aj ‹"C"› (aj ‹"H"› (aj (aQ (aj ‹"r"› (aj (fun _=>.ok (.bl true)) ‹""›))) ‹"c"›)))))) [some (.arg T),some (.arg (.int c)),none,none,none]=.ok (.lst [.non,.tup [],.tup [.str "below"],.tup [.str "between",.int 0],.tup [.str "between",.bl true],o5,o6,o7,.str "below"]):=by
   have f:(aj (fun _=>.ok .non) (aj (aQ ‹""›) (aj ‹"C"› (aj ‹"H"› (aj (aQ (aj ‹"r"› (aj (fun _=>.ok (.bl true)) ‹""›))) ‹"c"›))))) [some (.arg T),some (.arg (.int c)),none,none,none]=.ok [.non,.tup [],.tup [.str "below"],.tup [.str "between",.int 0],.tup [.str "between",.bl true],o5,o6,o7,.str "below"]:=by push_cast [li,a6,c7]
   have k:9<=sizeLine:=by decide
   show fD ((aj (fun _=>.ok .non) (aj (aQ ‹""›) (aj ‹"C"› (aj ‹"H"› (aj (aQ (aj ‹"r"› (aj (fun _=>.ok (.bl true)) ‹""›))) ‹"c"›))))) [some (.arg T),some (.arg (.int c)),none,none,none])=_;rw [f];show (if 9<=sizeLine then Res.ok (D.lst [.non,.tup [],.tup [.str "below"],.tup [.str "between",.int 0],.tup [.str "between",.bl true],o5,o6,o7,.str "below"]) else .stuck)=_
   rw [if_pos k]
  show kI ((fU (aj (fun _=>.ok .non) (aj (aQ ‹""›) (aj ‹"C"› (aj ‹"H"› (aj (aQ (aj ‹"r"› (aj (fun _=>.ok (.bl true)) ‹""›))) ‹"c"›)))))) [some (.arg T),some (.arg (.int c)),none,none,none]) _ _=_;rw [e,on_ok]; rfl
 ·have r:‹"a"› [some (.arg T),some (.arg (.int c)),some (.val (.lst [.non,.tup [],.tup [.str "below"],.tup [.str "between",.int 0],.tup [.str "between",.bl true],o5,o6,o7,.str "below"])),none,none]=.ok (.lst [.tup [.str "norm",T],.tup [.str "both",T,T],o11,o12,.int 7]):=by push_cast [i0,up,c1,a11,a12]
  have e:(two (ak 2) ‹"a"› aN) [some (.arg T),some (.arg (.int c)),some (.val (.lst [.non,.tup [],.tup [.str "below"],.tup [.str "between",.int 0],.tup [.str "between",.bl true],o5,o6,o7,.str "below"])),none,none]=.ok (.lst [.non,.tup [],.tup [.str "below"],.tup [.str "between",.int 0],.tup [.str "between",.bl true],o5,o6,o7,.str "below",.tup [.str "norm",T],.tup [.str "both",T,T],o11,o12,.int 7]):=by
   have sl:ak 2 [some (.arg T),some (.arg (.int c)),some (.val (.lst [.non,.tup [],.tup [.str "below"],.tup [.str "between",.int 0],.tup [.str "between",.bl true],o5,o6,o7,.str "below"])),none,none]=.ok (.lst [.non,.tup [],.tup [.str "below"],.tup [.str "between",.int 0],.tup [.str "between",.bl true],o5,o6,o7,.str "below"]):=rfl;rw [ap_two,sl,bnd_ok,r,bnd_ok];have k:9 + 5<=sizeLine:=by decide
   show (if 9 + 5<=sizeLine then Res.ok (D.lst [.non,.tup [],.tup [.str "below"],.tup [.str "between",.int 0],.tup [.str "between",.bl true],o5,o6,o7,.str "below",.tup [.str "norm",T],.tup [.str "both",T,T],o11,o12,.int 7]) else .stuck)=_
   rw [if_pos k]
  show kI ((two (ak 2) ‹"a"› aN) [some (.arg T),some (.arg (.int c)),some (.val (.lst [.non,.tup [],.tup [.str "below"],.tup [.str "between",.int 0],.tup [.str "between",.bl true],o5,o6,o7,.str "below"])),none,none]) _ _=_;rw [e,on_ok]; rfl
theorem Er {Z:D} (h:((aD 2 (fU (aj (fun _=>.ok .non) (aj (aQ ‹""›) (aj ‹"C"› (aj ‹"H"› (aj (aQ (aj ‹"r"› (aj (fun _=>.ok (.bl true)) ‹""›))) ‹"c"›))))))) [some (.arg T),some (.arg (.int c)),none,none,none]=.nxt [some (.arg T),some (.arg (.int c)),some (.val (.lst [.non,.tup [],.tup [.str "below"],.tup [.str "between",.int 0],.tup [.str "between",.bl true],o5,o6,o7,.str "below"])),none,none])/\(aD 2 (two (ak 2) ‹"a"› aN)) [some (.arg T),some (.arg (.int c)),some (.val (.lst [.non,.tup [],.tup [.str "below"],.tup [.str "between",.int 0],.tup [.str "between",.bl true],o5,o6,o7,.str "below"])),none,none]=.nxt [some (.arg T),some (.arg (.int c)),some (.val (.lst [.non,.tup [],.tup [.str "below"],.tup [.str "between",.int 0],.tup [.str "between",.bl true],o5,o6,o7,.str "below",.tup [.str "norm",T],.tup [.str "both",T,T],o11,o12,.int 7])),none,none]) (r:(aB (bG ‹"Q"› ‹"b"› Out.nxt) (aB (bG ‹"k"› ‹"av"› Out.nxt) (aB (bG ‹"l"› ‹"n"› Out.nxt) ‹"y"›))) [some (.arg T),some (.arg (.int c)),some (.val (.lst [.non,.tup [],.tup [.str "below"],.tup [.str "between",.int 0],.tup [.str "between",.bl true],o5,o6,o7,.str "below",.tup [.str "norm",T],.tup [.str "both",T,T],o11,o12,.int 7])),none,none]=.ret Z):oG [T,.int c]=.ok Z:=by
 show outD (ug [some (.arg T),some (.arg (.int c)),none,none,none])=_;unfold ug;rw [ap_seq,h.1,sq_nxt,ap_seq,h.2,sq_nxt,r]; rfl
theorem Uy {M:D} (i0:aR T (.int 0)=.ok (.str s)) (e2:cH (.str s) (.str "between")=.ok (.bl false)) (e3:cH (.str s) (.str "halves")=.ok (.bl b3)) (m2:aY (.int c) (.int 2)=.ok (.int k)) (h3:b3=true->¬k=0) (e4:cH (.str s) (.str "both")=.ok (.bl b4)) (h4:b4=true->¬k=0) (fd:aL (.int c) (.int 2)=.ok (.int x)) (m14:aY (.int x) (.int 14)=.ok (.int i)) (io:aR M (.int i)=.ok o) :
  (aB (bG ‹"Q"› ‹"b"› Out.nxt) (aB (bG ‹"k"› ‹"av"› Out.nxt) (aB (bG ‹"l"› ‹"n"› Out.nxt) ‹"y"›))) [some (.arg T),some (.arg (.int c)),some (.val M),none,none]=.ret o:=by
 cases b3 with
 | true =>
  have h3:=h3 rfl
  cases b4 with
  | true=>push_cast [i0,e2,e3,m2,h3,e4,fd,m14,io]
  | false=>push_cast [i0,e2,e3,m2,h3,e4,fd,m14,io]
 | false =>
  cases b4 with
  | true =>
   have h4:=h4 rfl;push_cast [i0,e2,e3,m2,h4,e4,fd,m14,io]
  | false=>push_cast [i0,e2,e3,e4,fd,m14,io]
end
section
variable {c k x i w:Int} {M o p1 p2 n0 s2 s1 l0 nd:D} {b:Int}
theorem Uz (m3:aY (.int c) (.int 3)=.ok (.int k)) (io:aR (.lst [.tup [.str "between",.int (w + 1)],.tup [.str "between",.int (w - 1)],.tup [.str "between",.int (-w)]]) (.int k)=.ok o) :
  (aB (bG ‹"Q"› ‹"b"› Out.nxt) (aB (bG ‹"k"› ‹"av"› Out.nxt) (aB (bG ‹"l"› ‹"n"› Out.nxt) ‹"y"›))) [some (.arg (.tup [.str "between",.int w])),some (.arg (.int c)),some (.val M),none,none]=.ret o:=by
 have eb:=pG "between" ‹"1"›;push_cast [eb,m3,io]
theorem kw' (m2:aY (.int c) (.int 2)=.ok (.int 0)) :
  (aB (bG ‹"Q"› ‹"b"› Out.nxt) (aB (bG ‹"k"› ‹"av"› Out.nxt) (aB (bG ‹"l"› ‹"n"› Out.nxt) ‹"y"›))) [some (.arg (.tup [.str "both",p1,p2])),some (.arg (.int c)),some (.val M),none,none]=.ret (.tup [.str "both",p2,p1]):=by
 have e2:=je "both" "between" ‹"1"› ‹"1"› (by decide);have e3:=je "both" "halves" ‹"1"› ‹"1"› (by decide);have eb:=pG "both" ‹"1"›;push_cast [e2,e3,eb,m2]
theorem hM' {R:D} (m2:aY (.int c) (.int 2)=.ok (.int 0)) (i0:aR nd (.int 0)=.ok n0) (i1:aR nd (.int 1)=.ok (.int b)) (f2:gJ [.int 2,n0]=.ok s2) (mu:dj (.int 2) (.int b)=.ok (.int (2 * b))) (li:iR [n0]=.ok l0) (f1:gJ [.int (-1),n0]=.ok s1) (fd:aL (.int c) (.int 2)=.ok (.int x)) (m4:aY (.int x) (.int 4)=.ok (.int i)) (io:aR (.lst [.tup [n0,.int (b + 1)],.tup [s2,.int (2 * b)],.tup [l0,.int b],.tup [s1,.int b]]) (.int i)=.ok o) (ad:aN (.tup [.str "halves",o]) (.tup [p1,p2])=.ok R) :
  (aB (bG ‹"Q"› ‹"b"› Out.nxt) (aB (bG ‹"k"› ‹"av"› Out.nxt) (aB (bG ‹"l"› ‹"n"› Out.nxt) ‹"y"›))) [some (.arg (.tup [.str "halves",nd,p1,p2])),some (.arg (.int c)),some (.val M),none,none]=.ret R:=by
 have e2:=je "halves" "between" ‹"1"› ‹"1"› (by decide);have eb:=pG "halves" ‹"1"›;have ct:cutD (.tup [.str "halves",nd,p1,p2]) (some 2) none=.ok (.tup [p1,p2]):=rfl;push_cast [e2,eb,m2,i0,i1,f2,mu,li,f1,fd,m4,io,ct,ad]
end
theorem UG {m:Nat} {T:D} (h:Pp m T) (c:Int):∃t,oG [T,.int c]=.ok t/\Gd (m + 5) t:=by
 obtain ⟨s,es,eT',hw,hl⟩:=h.head;have gT:=h.gd;obtain ⟨u,up,hu⟩:=Ut hw;have so:=Uu hw;obtain ⟨m',em,gl,ge⟩:=(show Gd (m + 3) (.tup (.str s :: es)) from eT' ▸ gT).tup
 have em':m'=m + 2:=by omega
 subst em';have ge':∀d∈es,Gd (m + 2) d:=fun d hd=>ge d (mem_cons_of_mem _ hd);have pre:=Ux (T:=.tup (.str s :: es)) (c:=c) (s:=s) (u:=u) rfl (pI (A:=.str s :: es) (B:=[.str "x"]) (by simp; omega)) (Uw (.str s :: es) (by simp)) (ix_tup0 _ _) up (Dc _ _) (pI (A:=[.str u]) (B:=es) (by simp; omega)) (pI (A:=[.non]) (B:=es) (by simp; omega));have m2:aY (.int c) (.int 2)=_:=dJ (show (2:Int)≠0 by decide);have fd:aL (.int c) (.int 2)=_:=Ep c (by decide) (by decide);have plain:(s = "between"->False)->(s = "halves"->¬Int.fmod c 2=0)->(s = "both"->¬Int.fmod c 2=0)->∃t,oG [.tup (.str s :: es),.int c]=.ok t/\Gd (m + 5) t:=fun hb hh ht=>by
  have m14:aY (.int (Int.fdiv c 2)) (.int 14)=_:=dJ (show (14:Int)≠0 by decide);have i0:=Int.fmod_nonneg_of_pos (Int.fdiv c 2) (b:=14) (by decide);have i14:=Int.fmod_lt_of_pos (Int.fdiv c 2) (b:=14) (by decide);obtain ⟨o,ho,io⟩:=yf (l:=[.non,.tup [],.tup [.str "below"],.tup [.str "between",.int 0],.tup [.str "between",.bl true],(.lst (.str s :: es)),(.tup (.str s :: es ++ [.str "x"])),(.tup ((D.str s :: es).take ((D.str s :: es).length - 1))),.str "below",.tup [.str "norm",(.tup (.str s :: es))],.tup [.str "both",(.tup (.str s :: es)),(.tup (.str s :: es))],(.tup (.str u :: es)),(.tup (.non :: es)),.int 7]) i0 (by show _ < (14:Int); exact i14);have e2:=je s "between" so ‹"1"› hb;have e3:∃b,cH (.str s) (.str "halves")=.ok (.bl b)/\(b=true->¬Int.fmod c 2=0):=by
   by_cases z:s = "halves"
   ·exact ⟨true,by rw [z]; exact pG "halves" ‹"1"›,fun _=>hh z⟩
   ·exact ⟨false,je s _ so ‹"1"› z,(fun q=>by cases q)⟩
  have e4:∃b,cH (.str s) (.str "both")=.ok (.bl b)/\(b=true->¬Int.fmod c 2=0):=by
   by_cases z:s = "both"
   ·exact ⟨true,by rw [z]; exact pG "both" ‹"1"›,fun _=>ht z⟩
   ·exact ⟨false,je s _ so ‹"1"› z,(fun q=>by cases q)⟩
  obtain ⟨b3,e3,h3⟩:=e3;obtain ⟨b4,e4,h4⟩:=e4;refine ⟨o,Er pre (Uy (ix_tup0 _ _) e2 e3 m2 h3 e4 h4 fd m14 io),?_⟩;have gS:∀n,Gd n (.str s):=fun n=>jA so;have gTT:Gd (m + 3) (.tup (.str s :: es)):=⟨gl,ge⟩;have le4:es.length + 1<=100:=by omega
  simp only [mem_cons,not_mem_nil,or_false] at ho;rcases ho with z | z | z | z | z | z | z | z | z | z | z | z | z | z <;> subst z
  ·exact My
  ·exact iI (n:=m + 4) (by simp) fun d hd=>by cases hd
  ·exact iI (n:=m + 4) (by simp) fun d hd=>by rw [mem_singleton.mp hd]; exact jA ‹"1"›
  ·refine iI (n:=m + 4) (by simp) fun d hd=>?_;rcases mem_cons.mp hd with z | z
   ·rw [z]; exact jA ‹"1"›
   ·rw [mem_singleton.mp z]; exact wH (Nat.two_pow_pos _)
  ·refine iI (n:=m + 4) (by simp) fun d hd=>?_;rcases mem_cons.mp hd with z | z
   ·rw [z]; exact jA ‹"1"›
   ·rw [mem_singleton.mp z]; exact Uv
  ·exact (show Gd (m + 3) (.lst (.str s :: es)) from ⟨gl,ge⟩).up (by omega)
  ·refine (iI (n:=m + 2) (by simp; omega) fun d hd=>?_).up (show m + 3<=m + 5 by omega);rcases mem_append.mp hd with z | z
   ·exact ge d z
   ·rw [mem_singleton.mp z]; exact jA ‹"1"›
  ·refine (iI (n:=m + 2) (by rw [length_take]; omega) fun d hd=>ge d (mem_of_mem_take hd)).up (show m + 3<=m + 5 by omega)
  ·exact jA ‹"1"›
  ·refine (iI (n:=m + 3) (by simp) fun d hd=>?_).up (show m + 4<=m + 5 by omega);rcases mem_cons.mp hd with z | z
   ·rw [z]; exact jA ‹"1"›
   ·rw [mem_singleton.mp z]; exact gTT
  ·refine (iI (n:=m + 3) (by simp) fun d hd=>?_).up (show m + 4<=m + 5 by omega);simp only [mem_cons,not_mem_nil,or_false] at hd;rcases hd with z | z | z <;> subst z
   ·exact jA ‹"1"›
   ·exact gTT
   ·exact gTT
  ·refine (iI (n:=m + 2) (by simp; omega) fun d hd=>?_).up (show m + 3<=m + 5 by omega);rcases mem_cons.mp hd with z | z
   ·rw [z]; exact jA hu
   ·exact ge' d z
  ·refine (iI (n:=m + 2) (by simp; omega) fun d hd=>?_).up (show m + 3<=m + 5 by omega);rcases mem_cons.mp hd with z | z
   ·rw [z]; exact My
   ·exact ge' d z
  ·exact wH (Nat.lt_of_lt_of_le (show (7:Int).natAbs < 2 ^ 3 by decide) (gj (by decide)))
 by_cases sb:s = "between"
 ·subst sb;subst eT'
  cases h with
  | btw n w hwb =>
   have m3:aY (.int c) (.int 3)=_:=dJ (show (3:Int)≠0 by decide);have i0:=Int.fmod_nonneg_of_pos c (b:=3) (by decide);have i3:=Int.fmod_lt_of_pos c (b:=3) (by decide);obtain ⟨o,ho,io⟩:=yf (l:=[.tup [.str "between",.int (w + 1)],.tup [.str "between",.int (w - 1)],.tup [.str "between",.int (-w)]]) i0 (by show _ < (3:Int); exact i3);refine ⟨o,Er pre (Uz m3 io),?_⟩;have e38:2 ^ 3800 + 2 ^ 3800=2 ^ 3801:=by rw [Nat.pow_succ,Nat.mul_two]
   have p38:=Nat.two_pow_pos 3800;have ok:∀i:Int,i.natAbs < 2 ^ 3801->Gd (m + 5) (.tup [.str "between",.int i]):=fun i hi=>iI (n:=m + 4) (by simp) fun d hd=>by
    rcases mem_cons.mp hd with z | z
    ·rw [z]; exact jA ‹"1"›
    ·rw [mem_singleton.mp z]; exact wH (Nat.lt_of_lt_of_le hi (gj (by decide)))
   simp only [mem_cons,not_mem_nil,or_false] at ho;rcases ho with z | z | z <;> subst z
   ·exact ok _ (by omega)
   ·exact ok _ (by omega)
   ·exact ok _ (by omega)
 ·by_cases k0:Int.fmod c 2=0
  ·rw [k0] at m2
   by_cases sh:s = "halves"
   ·subst sh;subst eT'
    cases h with
    | halves n x b p1 p2 lx l0 bx bc h1 h2 =>
     have f2:=wD 2 x (by omega) (by exact lO (n:=2) (by decide) (by decide)) (bx.mono (by decide));have f1:=wD (-1) x (by omega) (by exact lO (n:=2) (by decide) (by decide)) (bx.mono (by decide));have mu:dj (.int 2) (.int b)=_:=cV (by exact d_ (n:=2) (by decide) (by decide)) (d_ bc (by decide));have m4:aY (.int (Int.fdiv c 2)) (.int 4)=_:=dJ (show (4:Int)≠0 by decide);have i0:=Int.fmod_nonneg_of_pos (Int.fdiv c 2) (b:=4) (by decide);have i4:=Int.fmod_lt_of_pos (Int.fdiv c 2) (b:=4) (by decide);obtain ⟨o,ho,io⟩:=yf (l:=[.tup [TI x,.int (b + 1)],.tup [TI (x.map (2 * ·)),.int (2 * b)],.tup [.lst (x.map .int),.int b],.tup [TI (x.map (-1 * ·)),.int b]]) i0 (by show _ < (4:Int); exact i4);refine ⟨_,Er pre (hM' (nd:=num x b) m2 (ix_tup0 _ _) (ix_tup1 _ _ _) f2 mu rfl f1 fd m4 io (pI (A:=[.str "halves",o]) (B:=[p1,p2]) (by simp))),?_⟩;have e38:2 ^ 3800 + 2 ^ 3800=2 ^ 3801:=by rw [Nat.pow_succ,Nat.mul_two]
     have e39:2 ^ 3801 + 2 ^ 3801=2 ^ 3802:=by rw [Nat.pow_succ,Nat.mul_two]
     have p38:=Nat.two_pow_pos 3800;have le:(2:Nat) ^ 3802<=2 ^ 3900:=gj (by decide);have go:Gd (n + 4) o:=by
      simp only [mem_cons,not_mem_nil,or_false] at ho;rcases ho with z | z | z | z <;> subst z
      ·exact yJ (n:=n + 2) lx (bx.mono (by decide)) (by omega)
      ·exact yJ (n:=n + 2) (by rw [length_map]; exact lx) (fun t ht=>by
        obtain ⟨a,ha,rfl⟩:=mem_map.mp ht;have:=bx a ha;omega) (by omega)
      ·refine iI (n:=n + 3) (by simp) fun d hd=>?_;rcases mem_cons.mp hd with z | z
       ·rw [z];exact ⟨by rw [length_map]; omega,fun d hd=>by obtain ⟨a,ha,rfl⟩:=mem_map.mp hd; exact wH (nq (bx a ha))⟩
       ·rw [mem_singleton.mp z]; exact wH (nq bc)
      ·exact yJ (n:=n + 2) (by rw [length_map]; exact lx) (fun t ht=>by
        obtain ⟨a,ha,rfl⟩:=mem_map.mp ht;have:=bx a ha;omega) (nq bc)
     refine iI (n:=n + 5) (by simp) fun d hd=>?_;simp only [cons_append,nil_append,mem_cons,not_mem_nil,or_false] at hd;rcases hd with z | z | z | z <;> subst z
     ·exact jA ‹"1"›
     ·exact go.mono
     ·exact h1.gd.up (by omega)
     ·exact h2.gd.up (by omega)
   ·by_cases st:s = "both"
    ·subst st;subst eT'
     cases h with
     | both n p1 p2 h1 h2 =>
      refine ⟨_,Er pre (kw' m2),?_⟩;refine iI (n:=n + 5) (by simp) fun d hd=>?_;simp only [mem_cons,not_mem_nil,or_false] at hd;rcases hd with z | z | z <;> subst z
      ·exact jA ‹"1"›
      ·exact h2.gd.up (by omega)
      ·exact h1.gd.up (by omega)
    ·rw [eT']; exact plain sb (fun z=>absurd z sh) (fun z=>absurd z st)
  ·rw [eT']; exact plain sb (fun _=>k0) (fun _=>k0)
section
variable {T p:D} {k w:Int} {s:Str} {es:List D}
theorem yg {b:Bool} (hf:‹"au"› [some (.val (.int k)),some (.arg T)]=.ok b):eU (bO 0) ‹"au"› (ak 0) [none,some (.arg T)] (.int k)=.ok (.tup (if b then [.int k] else [])):=by
 unfold eU;show (match ‹"au"› [some (.val (.int k)),some (.arg T)] with
  | .ok true=>(match ak 0 [some (.val (.int k)),some (.arg T)] with | .ok x=>Res.ok (D.tup [x]) | _=>.stuck)
  | .ok false=>.ok (.tup [])
  | _=>.stuck)=_
 rw [hf]
 cases b <;> rfl
theorem uN (ix:aR T (.int k)=.ok (.tup (.str s :: es))):‹"au"› [some (.val (.int k)),some (.arg T)]=.ok true:=by
 have it1:∀ds,bU is_tuple (.tup ds)=.ok (.bl true):=fun _=>rfl;have it2:bU is_str (.str s)=.ok (.bl true):=rfl;have i0:aR (.tup (.str s :: es)) (.int 0)=.ok (.str s):=ix_tup0 _ _;push_cast [ix,it1,it2,i0]
theorem Ib (ix:aR T (.int k)=.ok (.int w)):‹"au"› [some (.val (.int k)),some (.arg T)]=.ok false:=by
 have it1:bU is_tuple (.int w)=.ok (.bl false):=rfl;push_cast [ix,it1]
theorem UJ {x:List Int} {b:Int} (ix:aR T (.int k)=.ok (num x b)):‹"au"› [some (.val (.int k)),some (.arg T)]=.ok false:=by
 have it1:bU is_tuple (num x b)=.ok (.bl true):=rfl;have i0:aR (num x b) (.int 0)=.ok (TI x):=ix_tup0 _ _;have it2:bU is_str (TI x)=.ok (.bl false):=rfl;push_cast [ix,it1,it2,i0]
theorem Dd {c:Int} {ds rs:List D} {n:Int} (ln:a_ [T]=.ok (.int n)) (rg:qw [.int 1,.int n]=.ok ds) (hl:ds.length<=100) (hm:mapR (eU (bO 0) ‹"au"› (ak 0) [none,some (.arg T)]) ds=.ok rs):cR 1 [0] (bO 0) ‹"au"› (ak 0) ‹"u"› [some (.arg T),some (.arg (.int c)),none,none]=.ok (.lst (rs.flatMap DL.unI)):=by
 have fi:‹"u"› [some (.arg T),some (.arg (.int c)),none,none]=.ok ds:=nM (ds:=[.int 1,.int n]) (by push_cast [ln]) rg;unfold cR;rw [fi,Res.bind_ok];unfold gY;rw [if_pos (Nat.le_trans hl (by decide))];show (mapR (eU (bO 0) ‹"au"› (ak 0) [none,some (.arg T)]) ds).bind _=_;rw [hm]; rfl
end
section
variable {R:List D->Res D} {T T0 t T1 T2 Z p:D} {c k x y i a:Int} {L:List D} {s:Str}
theorem De (pl:cR 1 [0] (bO 0) ‹"au"› (ak 0) ‹"u"› [some (.arg T),some (.arg (.int c)),none,none]=.ok (.lst L)) (l0:0 < (L.length:Int)) (m3:aY (.int c) (.int 3)=.ok (.int k)) (k0:0 < k) (fd:aL (.int c) (.int 3)=.ok (.int x)) (mo:aY (.int x) (.int (L.length:Int))=.ok (.int i)) (ia:aR (.lst L) (.int i)=.ok (.int a)) (c0:cutD T none (some a)=.ok T0) (ix:aR T (.int a)=.ok p) (f9:aL (.int c) (.int 9)=.ok (.int y)) (r:R [p,.int y]=.ok t) (a1:aN T0 (.tup [t])=.ok T1) (c2:cutD T (some (a + 1)) none=.ok T2) (a2:aN T1 T2=.ok Z):aW 2 4 (jN R) [T,.int c]=.ok Z:=by
 show outD (jN R [some (.arg T),some (.arg (.int c)),none,none])=_;unfold jN;have q0:(aD 2 (cR 1 [0] (bO 0) ‹"au"› (ak 0) ‹"u"›)) [some (.arg T),some (.arg (.int c)),none,none]=.nxt [some (.arg T),some (.arg (.int c)),some (.val (.lst L)),none]:=by
  show kI (cR 1 [0] (bO 0) ‹"au"› (ak 0) ‹"u"› [some (.arg T),some (.arg (.int c)),none,none]) _ _=_;rw [pl,on_ok]; rfl
 rw [ap_seq,q0,sq_nxt];push_cast [l0,m3,k0,fd,mo,ia,c0,ix,f9,r,a1,c2,a2]
theorem yK (pl:cR 1 [0] (bO 0) ‹"au"› (ak 0) ‹"u"› [some (.arg T),some (.arg (.int c)),none,none]=.ok (.lst L)) (m3:aY (.int c) (.int 3)=.ok (.int k)) (hx:¬0 < (L.length:Int)\/¬0 < k) (i0:aR T (.int 0)=.ok (.str s)) {b:Bool} (eh:cH (.str s) (.str "halves")=.ok (.bl b)) (fd:aL (.int c) (.int 3)=.ok (.int x)) (m4:aY (.int x) (.int 4)=.ok (.int i)) (f12:aL (.int c) (.int 12)=.ok (.int y)) (ht:b=true->i=0->uf [T]=.ok Z) (ho:(b=true->¬i=0)->oG [T,.int y]=.ok Z):aW 2 4 (jN R) [T,.int c]=.ok Z:=by
 show outD (jN R [some (.arg T),some (.arg (.int c)),none,none])=_;unfold jN;have q0:(aD 2 (cR 1 [0] (bO 0) ‹"au"› (ak 0) ‹"u"›)) [some (.arg T),some (.arg (.int c)),none,none]=.nxt [some (.arg T),some (.arg (.int c)),some (.val (.lst L)),none]:=by
  show kI (cR 1 [0] (bO 0) ‹"au"› (ak 0) ‹"u"› [some (.arg T),some (.arg (.int c)),none,none]) _ _=_;rw [pl,on_ok]; rfl
 have q1:(bG ‹"P"› (aB (aD 3 (two (ak 2) (two (two (ak 1) ‹3› aL) ‹"ah"› aY) aR)) (aH (two (two (bz (ak 0) bC (bJ (ak 3))) (aQ (aj (ao (aj (two (ak 0) (ak 3) aR) (aj (two (ak 1) ‹9› aL) ‹""›)) R) ‹""›)) aN) (bz (ak 0) (bJ (two (ak 3) ‹1› aN)) bC) aN))) Out.nxt) [some (.arg T),some (.arg (.int c)),some (.val (.lst L)),none]=.nxt [some (.arg T),some (.arg (.int c)),some (.val (.lst L)),none]:=by
  by_cases l0:0 < (L.length:Int)
  ·rcases hx with hx | hx
   ·exact absurd l0 hx
   ·push_cast [l0,m3,hx]
  ·push_cast [l0]
 rw [ap_seq,q0,sq_nxt,ap_seq,q1,sq_nxt]
 cases b with
 | true =>
  by_cases z:i=0
  ·have ht:=ht rfl z;push_cast [i0,eh,fd,m4,z,ht]
  ·have ho:=ho fun _=>z;push_cast [i0,eh,fd,m4,z,f12,ho]
 | false =>
  have ho:=ho fun q=>by cases q
  push_cast [i0,eh,f12,ho]
end
theorem UL {m:Nat} {x:List Int} {b:Int} {p1 p2:D} (lx:x.length<=8) (bx:Bd 3800 x) (bc:b.natAbs < 2 ^ 3800) (h1:Gd m p1) (h2:Gd m p2) (m2:2<=m):∃t,uf [.tup [.str "halves",num x b,p1,p2]]=.ok t/\Gd (m + 1) t:=by
 have f1:=wD (-1) x (by omega) (by exact lO (n:=2) (by decide) (by decide)) (bx.mono (by decide));have i0:aR (num x b) (.int 0)=.ok (TI x):=ix_tup0 _ _;have i1:aR (num x b) (.int 1)=.ok (.int b):=ix_tup1 _ _ _;refine ⟨.tup [.str "halves",num (x.map (-1 * ·)) b,p2,p1],?_,?_⟩
 ·show outD (ue [some (.arg (.tup [.str "halves",num x b,p1,p2])),none])=_;unfold ue;generalize num x b=N at *;push_cast [i0,i1,f1]
 ·refine iI (n:=m) (by simp) fun d hd=>?_;simp only [mem_cons,not_mem_nil,or_false] at hd;rcases hd with z | z | z | z <;> subst z
  ·exact jA ‹"1"›
  ·refine (yJ (n:=0) (by rw [length_map]; exact lx) (fun t ht=>?_) (nq bc)).up m2;obtain ⟨a,ha,rfl⟩:=mem_map.mp ht;have:=nq (bx a ha);omega
  ·exact h2
  ·exact h1
theorem ct':∀(n m:Nat) (T:D) (c:Int),Pp m T->m < n->∃t,dR n [T,.int c]=.ok t/\Gd (m + 5) t
 | 0,m,T,c,_,h=>by omega
 | n + 1,m,T,c,hp,hm=>by
  have m3:aY (.int c) (.int 3)=_:=dJ (show (3:Int)≠0 by decide);have fd:aL (.int c) (.int 3)=_:=Ep c (by decide) (by decide);have f9:aL (.int c) (.int 9)=_:=Ep c (by decide) (by decide);have f12:aL (.int c) (.int 12)=_:=Ep c (by decide) (by decide);have m4:aY (.int (Int.fdiv c 3)) (.int 4)=_:=dJ (show (4:Int)≠0 by decide);have k0:=Int.fmod_nonneg_of_pos c (b:=3) (by decide);obtain ⟨og,oe,ogd⟩:=UG hp (Int.fdiv c 12);have gT:=hp.gd;have into:∀(L:List D) (A B:List D) (p:D),True:=fun _ _ _ _=>trivial
  cases hp with
  | blw =>
   have pl:=Dd (T:=.tup [.str "below"]) (c:=c) (n:=1) (ds:=[]) (rs:=[]) rfl rfl (by simp) rfl;exact ⟨og,yK (R:=dR n) pl m3 (.inl (by simp)) (ix_tup0 _ _) (je "below" "halves" ‹"1"› ‹"1"› (by decide)) fd m4 f12 (fun q=>by cases q) (fun _=>oe),ogd⟩
  | btw _ w hw =>
   have e1:=yg (Ib (T:=.tup [.str "between",.int w]) (k:=1) (ix_tup1 _ _ _));have pl:=Dd (T:=.tup [.str "between",.int w]) (c:=c) (n:=2) (ds:=[.int 1]) (rs:=[.tup []]) rfl rfl (by simp) (by rw [mapR,e1]; rfl);exact ⟨og,yK (R:=dR n) pl m3 (.inl (by simp [DL.unI])) (ix_tup0 _ _) (je "between" "halves" ‹"1"› ‹"1"› (by decide)) fd m4 f12 (fun q=>by cases q) (fun _=>oe),ogd⟩
  | norm m p h =>
   obtain ⟨s,es,rfl,_,_⟩:=h.head;have e1:=yg (uN (T:=.tup [.str "norm",.tup (.str s :: es)]) (k:=1) (ix_tup1 _ _ _));have pl:=Dd (T:=.tup [.str "norm",.tup (.str s :: es)]) (c:=c) (n:=2) (ds:=[.int 1]) (rs:=[.tup [.int 1]]) rfl rfl (by simp) (by rw [mapR,e1]; rfl)
   by_cases kz:0 < Int.fmod c 3
   ·obtain ⟨t,ht,gt⟩:=ct' n m _ (Int.fdiv c 9) h (by omega);have mo:aY (.int (Int.fdiv c 3)) (.int (1:Int))=.ok (.int 0):=by
     have:=dJ (a:=Int.fdiv c 3) (show (1:Int)≠0 by decide);rw [this,show Int.fmod (Int.fdiv c 3) 1=0 from Int.fmod_one _]
    refine ⟨_,De (R:=dR n) (L:=[.int 1]) pl (by decide) m3 kz fd mo (ix_lst0 _ _) (uP _ 1) (ix_tup1 _ _ _) f9 ht (pI (A:=[.str "norm"]) (B:=[t]) (by simp)) (wW _ 2) (pI (A:=[.str "norm",t]) (B:=[]) (by simp)),?_⟩;refine iI (n:=m + 5) (by simp) fun d hd=>?_;simp only [cons_append,nil_append,append_nil,mem_cons,not_mem_nil,or_false] at hd;rcases hd with z | z <;> subst z
    ·exact jA ‹"1"›
    ·exact gt
   ·exact ⟨og,yK (R:=dR n) pl m3 (.inr kz) (ix_tup0 _ _) (je "norm" "halves" ‹"1"› ‹"1"› (by decide)) fd m4 f12 (fun q=>by cases q) (fun _=>oe),ogd⟩
  | both m p1 p2 h1 h2 =>
   obtain ⟨s,es,rfl,_,_⟩:=h1.head;obtain ⟨s',es',rfl,_,_⟩:=h2.head;have e1:=yg (uN (T:=.tup [.str "both",.tup (.str s :: es),.tup (.str s' :: es')]) (k:=1) (ix_tup1 _ _ _));have e2:=yg (uN (T:=.tup [.str "both",.tup (.str s :: es),.tup (.str s' :: es')]) (k:=2) (ix_tup2 _ _ _ _));have pl:=Dd (T:=.tup [.str "both",.tup (.str s :: es),.tup (.str s' :: es')]) (c:=c) (n:=3) (ds:=[.int 1,.int 2]) (rs:=[.tup [.int 1],.tup [.int 2]]) rfl rfl (by simp) (by rw [mapR,e1,Res.bind_ok,mapR,e2]; rfl)
   by_cases kz:0 < Int.fmod c 3
   ·obtain ⟨t,ht,gt⟩:=ct' n m _ (Int.fdiv c 9) h1 (by omega);obtain ⟨t',ht',gt'⟩:=ct' n m _ (Int.fdiv c 9) h2 (by omega);have mo:aY (.int (Int.fdiv c 3)) (.int (2:Int))=_:=dJ (show (2:Int)≠0 by decide);have fm:Int.fmod (Int.fdiv c 3) 2=0\/Int.fmod (Int.fdiv c 3) 2=1:=by
     have f0:=Int.fmod_nonneg_of_pos (Int.fdiv c 3) (b:=2) (by decide);have f5:=Int.fmod_lt_of_pos (Int.fdiv c 3) (b:=2) (by decide);omega
    rcases fm with z | z <;> rw [z] at mo
    ·refine ⟨_,De (R:=dR n) (L:=[.int 1,.int 2]) pl (by decide) m3 kz fd mo (ix_lst0 _ _) (uP _ 1) (ix_tup1 _ _ _) f9 ht (pI (A:=[.str "both"]) (B:=[t]) (by simp)) (wW _ 2) (pI (A:=[.str "both",t]) (B:=[.tup (.str s' :: es')]) (by simp)),?_⟩;refine iI (n:=m + 5) (by simp) fun d hd=>?_;simp only [cons_append,nil_append,mem_cons,not_mem_nil,or_false] at hd;rcases hd with z | z | z <;> subst z
     ·exact jA ‹"1"›
     ·exact gt
     ·exact h2.gd.up (by omega)
    ·refine ⟨_,De (R:=dR n) (L:=[.int 1,.int 2]) pl (by decide) m3 kz fd mo (ix_lst1 _ _ _) (uP _ 2) (ix_tup2 _ _ _ _) f9 ht' (pI (A:=[.str "both",.tup (.str s :: es)]) (B:=[t']) (by simp)) (wW _ 3) (pI (A:=[.str "both",.tup (.str s :: es),t']) (B:=[]) (by simp)),?_⟩;refine iI (n:=m + 5) (by simp) fun d hd=>?_;simp only [cons_append,nil_append,append_nil,mem_cons,not_mem_nil,or_false] at hd;rcases hd with z | z | z <;> subst z
     ·exact jA ‹"1"›
     ·exact h1.gd.up (by omega)
     ·exact gt'
   ·exact ⟨og,yK (R:=dR n) pl m3 (.inr kz) (ix_tup0 _ _) (je "both" "halves" ‹"1"› ‹"1"› (by decide)) fd m4 f12 (fun q=>by cases q) (fun _=>oe),ogd⟩
  | halves m x b p1 p2 lx l0 bx bc h1 h2 =>
   obtain ⟨s,es,rfl,_,_⟩:=h1.head;obtain ⟨s',es',rfl,_,_⟩:=h2.head;have e1:=yg (UJ (T:=.tup [.str "halves",num x b,.tup (.str s :: es),.tup (.str s' :: es')]) (k:=1) (ix_tup1 _ _ _));have e2:=yg (uN (T:=.tup [.str "halves",num x b,.tup (.str s :: es),.tup (.str s' :: es')]) (k:=2) (ix_tup2 _ _ _ _));have e3:=yg (uN (T:=.tup [.str "halves",num x b,.tup (.str s :: es),.tup (.str s' :: es')]) (k:=3) (ix_tup3 _ _ _ _ _));have pl:=Dd (T:=.tup [.str "halves",num x b,.tup (.str s :: es),.tup (.str s' :: es')]) (c:=c) (n:=4) (ds:=[.int 1,.int 2,.int 3]) (rs:=[.tup [],.tup [.int 2],.tup [.int 3]]) rfl rfl (by simp) (by rw [mapR,e1,Res.bind_ok,mapR,e2,Res.bind_ok,mapR,e3]; rfl)
   by_cases kz:0 < Int.fmod c 3
   ·obtain ⟨t,ht,gt⟩:=ct' n m _ (Int.fdiv c 9) h1 (by omega);obtain ⟨t',ht',gt'⟩:=ct' n m _ (Int.fdiv c 9) h2 (by omega);have mo:aY (.int (Int.fdiv c 3)) (.int (2:Int))=_:=dJ (show (2:Int)≠0 by decide);have fm:Int.fmod (Int.fdiv c 3) 2=0\/Int.fmod (Int.fdiv c 3) 2=1:=by
     have f0:=Int.fmod_nonneg_of_pos (Int.fdiv c 3) (b:=2) (by decide);have f5:=Int.fmod_lt_of_pos (Int.fdiv c 3) (b:=2) (by decide);omega
    have gn:Gd (m + 5) (num x b):=(yJ (n:=m + 3) lx (bx.mono (by decide)) (nq bc));rcases fm with z | z <;> rw [z] at mo
    ·refine ⟨_,De (R:=dR n) (L:=[.int 2,.int 3]) pl (by decide) m3 kz fd mo (ix_lst0 _ _) (uP _ 2) (ix_tup2 _ _ _ _) f9 ht (pI (A:=[.str "halves",num x b]) (B:=[t]) (by simp)) (wW _ 3) (pI (A:=[.str "halves",num x b,t]) (B:=[.tup (.str s' :: es')]) (by simp)),?_⟩;refine iI (n:=m + 5) (by simp) fun d hd=>?_;simp only [cons_append,nil_append,mem_cons,not_mem_nil,or_false] at hd;rcases hd with z | z | z | z <;> subst z
     ·exact jA ‹"1"›
     ·exact gn
     ·exact gt
     ·exact h2.gd.up (by omega)
    ·refine ⟨_,De (R:=dR n) (L:=[.int 2,.int 3]) pl (by decide) m3 kz fd mo (ix_lst1 _ _ _) (uP _ 3) (ix_tup3 _ _ _ _ _) f9 ht' (pI (A:=[.str "halves",num x b,.tup (.str s :: es)]) (B:=[t']) (by simp)) (wW _ 4) (pI (A:=[.str "halves",num x b,.tup (.str s :: es),t']) (B:=[]) (by simp)),?_⟩;refine iI (n:=m + 5) (by simp) fun d hd=>?_;simp only [cons_append,nil_append,append_nil,mem_cons,not_mem_nil,or_false] at hd;rcases hd with z | z | z | z <;> subst z
     ·exact jA ‹"1"›
     ·exact gn
     ·exact h1.gd.up (by omega)
     ·exact gt'
   ·by_cases iz:Int.fmod (Int.fdiv c 3) 4=0
    ·obtain ⟨t,ht,gt⟩:=UL (m:=m + 5) lx bx bc (h1.gd.up (by omega)) (h2.gd.up (by omega)) (by omega);exact ⟨t,yK (R:=dR n) pl m3 (.inr kz) (ix_tup0 _ _) (pG "halves" ‹"1"›) fd m4 f12 (fun _ _=>ht) (fun q=>absurd iz (q rfl)),gt⟩
    ·exact ⟨og,yK (R:=dR n) pl m3 (.inr kz) (ix_tup0 _ _) (pG "halves" ‹"1"›) fd m4 f12 (fun _ z=>absurd z iz) (fun _=>oe),ogd⟩
theorem UT {P:Nat} {d:D} {v:ratOF.C} (hd:Nm (fun x:List Int=>((x.headD 0:Int):ratOF.C)) 0 P d v) (hz:∀z:ratOF.C,z * z≠v) (hP:P<=3800):∃ds,qe [d]=.ok (.tup ds)/\Pp 0 (.tup ds):=by
 have rn:=of' hd hz (by omega);obtain ⟨x,c,rfl,nx,lx,bx,bc,ex⟩:=hd
 match x,lx with
 | [t],_ =>
  have c0:=nx.pos;have bt:t.natAbs < 2 ^ P:=bx t (by simp);have mu:=cV (a:=t) (b:=c) (lO bt (by omega)) (lO bc (by omega));have ix0:aR (TI [t]) (.int 0)=.ok (.int t):=ix_tup0 _ _
  by_cases t0:t < 0
  ·refine ⟨[.str "below"],?_,.blw 0⟩;show outD (lF [some (.arg (num [t] c))])=_;unfold lF;push_cast [ix0,t0]
  ·have nn:0<=t * c:=Int.mul_nonneg (by omega) (by omega);have rt:=Hf (n:=t * c) nn (Nat.le_trans (intBits_le (ik bt bc)) (by omega));obtain ⟨a,b⟩:=yD nn;have w0:=zM (t * c);have wb:(bL (t * c)).natAbs < 2 ^ P:=by
    have h:=ik bt bc;have k:(bL (t * c)).natAbs * (bL (t * c)).natAbs<=(t * c).natAbs:=by rw [<- Int.natAbs_mul]; have:=Int.mul_nonneg w0 w0; omega
    rw [Nat.pow_add] at h;exact Classical.byContradiction fun q=>by
     have q':2 ^ P<=(bL (t * c)).natAbs:=Nat.le_of_not_lt q;have:=Nat.mul_le_mul q' q';exact absurd (Nat.lt_of_le_of_lt (Nat.le_trans this k) h) (Nat.lt_irrefl _)
   refine ⟨[.str "between",.int (bL (t * c))],?_,.btw 0 _ (Nat.lt_of_lt_of_le wb (gj hP))⟩;show outD (lF [some (.arg (num [t] c))])=_;unfold lF;push_cast [ix0,t0,rn,Eg,mu,rt]
noncomputable def uX:Nat->Nat->Bool
 | 0,P=>decide (P<=3800)
 | k + 1,P=>decide (P + eN k<=3800) && uX k P && uX k (P + 10 + eT 10 k) && uX k (2 * P + eT 10 (k + 1)) && uX k (P + eN k + 2)
section
variable {rs:List (List Int)} {F:OF} {of:List Int->F.C}
theorem Mz (T:Tow rs F of):rs.length<=3->(∀r∈rs,Bd 10 r)->∀n,rs.length < n ->
  ∀(P:Nat) (d:D) (v:F.C),Nm of rs.length P d v->(∀z:F.C,z * z≠v)->uW rs.length P=true->uX rs.length P=true->∃ds,fZ n [RT rs,d]=.ok (.tup ds)/\Pp rs.length (.tup ds):=by
 induction T with
 | nil =>
  intro h3 _ n hn P d v hd hz _ ho;obtain ⟨m,rfl⟩:∃m,n=m + 1:=⟨n - 1,by have:0 < n:=hn; omega⟩;obtain ⟨ds,h,hp⟩:=UT hd hz (of_decide_eq_true ho);exact ⟨ds,Mh (R:=fZ m) h,hp⟩
 | @cons rs F of T r hl hr hn ih =>
  intro h3 hrs n hk;rw [length_cons] at h3 hk;obtain ⟨m,rfl⟩:∃m,n=m + 1:=⟨n - 1,by omega⟩;have hr1:=hrs r (by simp);have hrs':∀s∈rs,Bd 10 s:=fun s hs=>hrs s (mem_cons_of_mem _ hs);have ihB:=ih (by omega) hrs' m (by omega);obtain ⟨rtA,rtB⟩:=LQ T (by omega) hrs' 4 (by omega);have h3':rs.length < 3:=by omega
  have n1:=Nat.two_pow_pos rs.length;have e8:=mV (Nat.le_of_lt h3');have cl:=nO r rs;have ln:a_ [RT (r :: rs)]=.ok (.int ((rs.length + 1:Nat):Int)):=by
   show Res.ok (D.int (((r :: rs).reverse.map TI).length:Int))=_;rw [length_map,length_reverse,length_cons]
  intro P d v hd hz ho hq;have ho':uW (rs.length + 1) P=true:=ho;have hq':uX (rs.length + 1) P=true:=hq;simp only [uW,uL,Bool.and_eq_true,decide_eq_true_eq] at ho';simp only [uX,Bool.and_eq_true,decide_eq_true_eq] at hq';obtain ⟨⟨⟨⟨⟨⟨⟨⟨⟨⟨⟨⟨⟨o1,o2⟩,o3⟩,b1⟩,b2⟩,b3⟩,a1⟩,b4⟩,w1⟩,w2⟩,u1⟩,u2⟩,u3⟩,u4⟩:=ho';obtain ⟨⟨⟨⟨p0,p1⟩,p2⟩,p3⟩,p4⟩:=hq';obtain ⟨da,db,ed,ha,hb⟩:=iV T h3' hd (by omega)
  by_cases c:Ext.b (r:=of r) v=0
  ·obtain ⟨dar,ebw,har⟩:=uJ T h3' hrs' hl hr1 ha o2;have nb:=CV T (by omega) hb c;obtain ⟨ds,r1,f1⟩:=ihB P da _ ha (fun s hs=>hz (em s) (by rw [<- G7,hs]; exact (Ext.eqs (r:=of r) rfl c:v=em (Ext.a (r:=of r) v)).symm)) u1 p1;obtain ⟨es,r2,f2⟩:=ihB _ dar _ har (fun s hs=>hz (gG hr hn 0 (s / of r)) (by
    refine Ext.eqs (r:=of r) ?_ ?_
    ·show 0 * 0 + s / of r * (s / of r) * of r=Ext.a (r:=of r) v;exact Lq (Lw hr hs)
    ·show 0 * (s / of r) + s / of r * 0=Ext.b (r:=of r) v;rw [c]; exact oo' _)) u2 p2
   exact ⟨_,HQ ln cl ed nb ebw (Mg r1 r2 (HJ _ _ _)),.both _ _ _ f1 f2⟩
  ·have nb:=CW T (by omega) hb c;obtain ⟨dn,en,hN⟩:=jr T h3' hl hr1 hrs' hd o1
   by_cases sqr:∃n:F.C,n * n=Ext.nrm (r:=of r) v
   ·obtain ⟨n0,hn0⟩:=sqr;have hn1:fabs n0 * fabs n0=Ext.nrm (r:=of r) v:=fs_abs.trans hn0;obtain ⟨⟨nd,hnd⟩,⟨j1,hk1⟩,j2,hk2⟩:=CQ T h3' hrs' hl hr1 hd hn1;have r0:iW [RT rs,dn]=.ok nd:=rtA _ _ dn nd _ _ hN hnd hn1 (uU _) a1;obtain ⟨m1,m2,em',hm1,hm2⟩:=uK T (by omega) ha hnd o3;have g1:=iT T hk1 hm1;have g2:=iT T hk2 hm2;subst g1 g2;have nv:Ext.a (r:=of r) v * Ext.a (r:=of r) v - Ext.b (r:=of r) v * Ext.b (r:=of r) v * of r=fabs n0 * fabs n0:=hn1.symm;have mk:∀u:F.C,(u * u + Ext.b (r:=of r) v / (u + u) * (Ext.b (r:=of r) v / (u + u)) * of r=Ext.a (r:=of r) v/\u * (Ext.b (r:=of r) v / (u + u)) + Ext.b (r:=of r) v / (u + u) * u=Ext.b (r:=of r) v)->False:=fun u hu =>
     hz (gG hr hn u (Ext.b (r:=of r) v / (u + u))) (Ext.eqs (r:=of r) hu.1 hu.2)
    obtain ⟨ds,r1,f1⟩:=ihB _ _ _ hk1 (fun u hu=>mk u (fR' nv hu (mu' nv hu c hr))) u4 p4;obtain ⟨es,r2,f2⟩:=ihB _ _ _ hk2 (fun u hu=>mk u (LK nv hu (lb' nv hu c hr))) u4 p4;obtain ⟨x,b,ex,_,lx,bx,bb,_⟩:=id hnd;subst ex;exact ⟨_,HR ln cl ed nb en r0 (Ek hnd) em' (Mg r1 r2 (HN _ _ _ _)),.halves _ x b _ _ (by omega) (by omega) (bx.mono p0) (Nat.lt_of_lt_of_le bb (gj p0)) f1 f2⟩
   ·have r0:iW [RT rs,dn]=.ok .non:=rtB _ dn _ hN (fun n hn0=>sqr ⟨n,hn0⟩) b3;obtain ⟨ds,r1,f1⟩:=ihB _ dn _ hN (fun n hn0=>sqr ⟨n,hn0⟩) u3 p3;exact ⟨_,Tz ln cl ed nb en r0 r1,.norm _ _ f1⟩
end
noncomputable def yh:Nat->Nat->Nat->Bool
 | 0,P,_=>decide (P<=7000)
 | k + 1,P,q=>uV (k + 1) P q && uW k P && uW k (P + eN k + 2) && uX k P && uX k (P + eN k + 2) && yh k P q && yh k (P + 10 + eT 10 k) (q + 10 + eT 10 k) && yh k (P + eN k + 2) (uB k P q)
section
variable {rs:List (List Int)} {F:OF} {of:List Int->F.C}
theorem UW (T:Tow rs F of):rs.length<=3->(∀r∈rs,Bd 10 r)->∀n,rs.length < n ->
  ∀(P q:Nat) (d e:D) (v z:F.C),Nm of rs.length P d v->Nm of rs.length q e z->z * z=v->0<=z->yh rs.length P q=true->fZ n [RT rs,d]=.ok .non:=by
 induction T with
 | nil =>
  intro _ _ n hn P q d e v z hd he hz z0 ho;obtain ⟨m,rfl⟩:∃m,n=m + 1:=⟨n - 1,by have:0 < n:=hn; omega⟩;exact Mh (R:=fZ m) (oC' hd he hz z0 (of_decide_eq_true ho)).1
 | @cons rs F of T r hl hr hn ih =>
  intro h3 hrs n hk P q d e v z hd he hz z0 ho;rw [length_cons] at h3 hk;obtain ⟨m,rfl⟩:∃m,n=m + 1:=⟨n - 1,by omega⟩;have hr1:=hrs r (by simp);have hrs':∀s∈rs,Bd 10 s:=fun s hs=>hrs s (mem_cons_of_mem _ hs);have ihA:=ih (by omega) hrs' m (by omega);have ihB:=Mz T (by omega) hrs' m (by omega);obtain ⟨rtA,rtB⟩:=LQ T (by omega) hrs' 4 (by omega);have h3':rs.length < 3:=by omega
  have cl:=nO r rs;have ln:a_ [RT (r :: rs)]=.ok (.int ((rs.length + 1:Nat):Int)):=by
   show Res.ok (D.int (((r :: rs).reverse.map TI).length:Int))=_;rw [length_map,length_reverse,length_cons]
  have nr:=yI (of:=of) (fun _=>rfl) hl hr1;have ho':yh (rs.length + 1) P q=true:=ho;simp only [yh,uV,Bool.and_eq_true,decide_eq_true_eq] at ho';obtain ⟨⟨⟨⟨⟨⟨⟨⟨⟨⟨⟨⟨⟨⟨⟨⟨⟨⟨o1,o2⟩,o3⟩,o4⟩,o5⟩,o6⟩,a1⟩,b1⟩,a2⟩,a3⟩,a4⟩,b2⟩,w1⟩,w2⟩,w3⟩,w4⟩,x1⟩,x2⟩,x3⟩:=ho';have e1:Ext.a (r:=of r) z * Ext.a (r:=of r) z + Ext.b (r:=of r) z * Ext.b (r:=of r) z * of r=Ext.a (r:=of r) v:=by rw [<- hz]; rfl
  have e2:Ext.a (r:=of r) z * Ext.b (r:=of r) z + Ext.b (r:=of r) z * Ext.a (r:=of r) z=Ext.b (r:=of r) v:=by rw [<- hz]; rfl
  obtain ⟨da,db,ed,ha,hb⟩:=iV T h3' hd (by omega);obtain ⟨ea,eb,_,hea,heb⟩:=iV T h3' he (by omega);obtain ⟨fa,hfa⟩:=HF T (by omega) hea
  by_cases c:Ext.b (r:=of r) v=0
  ·obtain ⟨dar,ebw,har⟩:=uJ T h3' hrs' hl hr1 ha o5;have nb:=CV T (by omega) hb c
   by_cases sq:Ext.a (r:=of r) v=Ext.a (r:=of r) z * Ext.a (r:=of r) z
   ·have r1:=ihA P q da fa _ _ ha hfa (fs_abs.trans sq.symm) (uU _) x1;exact HQ ln cl ed nb ebw (Ma r1)
   ·rcases CK e1 e2 c with ⟨q0,ea2⟩ | ⟨p0,ea2⟩
    ·exact absurd ea2 sq
    ·have qz:Ext.b (r:=of r) z≠0:=fun h0=>sq (Lj ea2 h0 _ p0);obtain ⟨ds,r1,_⟩:=ihB P da _ ha (fun s hs=>Ed (s:=s) hn qz (hs.trans ea2)) w1 w3;obtain ⟨w,_,hw⟩:=j4 T (by omega) hrs' heb nr (by omega);obtain ⟨w',hw'⟩:=HF T (by omega) hw;have sq2:Ext.b (r:=of r) z * of r * (Ext.b (r:=of r) z * of r)=Ext.a (r:=of r) v * of r:=by rw [ea2]; exact Lr
     have r2:=ihA _ _ dar w' _ _ har hw' (fs_abs.trans sq2) (uU _) x2;exact HQ ln cl ed nb ebw (Mf r1 r2)
  ·have nb:=CW T (by omega) hb c;obtain ⟨dn,en,hN⟩:=jr T h3' hl hr1 hrs' hd o1;have nv:Ext.nrm (r:=of r) v=Ext.nrm (r:=of r) z * Ext.nrm (r:=of r) z:=yc e1 e2;have hn1:fabs (Ext.nrm (r:=of r) z) * fabs (Ext.nrm (r:=of r) z)=Ext.nrm (r:=of r) v:=fs_abs.trans nv.symm;obtain ⟨⟨nd,hnd⟩,⟨j1,hk1⟩,j2,hk2⟩:=CQ T h3' hrs' hl hr1 hd hn1;have r0:iW [RT rs,dn]=.ok nd:=rtA _ _ dn nd _ _ hN hnd hn1 (uU _) a3;obtain ⟨pz,qz⟩:=Ly e2 c;obtain ⟨m1,m2,em',hm1,hm2⟩:=uK T (by omega) ha hnd o6;have g1:=iT T hk1 hm1;have g2:=iT T hk2 hm2;subst g1 g2;clear hm1 hm2;have fin:∀(mm:D),Nm of rs.length (P + eN rs.length + 2) mm (Ext.a (r:=of r) z * Ext.a (r:=of r) z)->fZ m [RT rs,mm]=.ok .non:=fun mm hmm=>by
    obtain ⟨u',hu'⟩:=HD T (by omega) hrs' hmm (fs_abs (z:=Ext.a (r:=of r) z));have gu:=iT T hu' hfa;subst gu;exact ihA _ _ mm u' _ _ hmm (Lh hfa hu') fs_abs (uU _) x3
   have vs:((Ext.a (r:=of r) v + fabs (Ext.nrm (r:=of r) z)) / 2=Ext.b (r:=of r) z * Ext.b (r:=of r) z * of r/\(Ext.a (r:=of r) v - fabs (Ext.nrm (r:=of r) z)) / 2=Ext.a (r:=of r) z * Ext.a (r:=of r) z)\/(Ext.a (r:=of r) v + fabs (Ext.nrm (r:=of r) z)) / 2=Ext.a (r:=of r) z * Ext.a (r:=of r) z:=by
    rcases Classical.em (Ext.nrm (r:=of r) z < 0) with sg | sg
    ·have fN:fabs (Ext.nrm (r:=of r) z)=-Ext.nrm (r:=of r) z:=by unfold fabs; rw [if_pos sg]
     left
     rw [fN];exact ⟨yG (Lz (Hg e1)),yG (LC (CN e1))⟩
    ·have fN:fabs (Ext.nrm (r:=of r) z)=Ext.nrm (r:=of r) z:=by unfold fabs; rw [if_neg sg]
     right
     rw [fN]; exact yG (CN e1)
   rcases vs with ⟨v1,v2⟩ | v1
   ·rw [v1] at hk1;rw [v2] at hk2;obtain ⟨ds,r1,_⟩:=ihB _ _ _ hk1 (fun s hs=>Ed hn qz hs) w2 w4;exact HR ln cl ed nb en r0 (Ek hnd) em' (Mf r1 (fin _ hk2))
   ·rw [v1] at hk1;exact HR ln cl ed nb en r0 (Ek hnd) em' (Ma (fin _ hk1))
end
theorem U0 {ts:List Int} {d:D} (h:d∈gq (ts.map D.int)):∃(i:Nat) (c:Int),i < ts.length/\d=.tup [.int (i:Int),.int c]:=by
 obtain ⟨i,hi⟩:=mem_iff_getElem?.mp h;rw [JR,List.getElem?_map] at hi
 cases e:ts[i]? with
 | none=>rw [e] at hi; simp at hi
 | some c =>
  rw [e] at hi;simp only [Option.map_some,Option.some.injEq] at hi;exact ⟨i,c,(List.getElem?_eq_some_iff.mp e).1,hi.symm⟩
theorem MF {a b:Int} (h:a.natAbs < 2 ^ 64):dj (.int a) (.int b)=.ok (.int (a * b)):=by
 unfold dj;exact if_pos (.inr (.inl (intBits_le h)))
theorem U3 (c:Int) (l:Nat) (l3:l<=3):∃(rs:List (List Int)) (F:OF) (of:List Int->F.C) (r:List Int),oM [.int c,.int (1 + (l:Int))]=.ok (RT (r :: rs))/\Tow rs F of/\rs.length=l/\(∀r∈rs,Bd 10 r)/\r.length=2 ^ l/\Bd 10 r/\0 < of r/\∀z:F.C,z * z≠of r:=by
 obtain ⟨R1,R2,R3,R4,l1,l2,l3',l4,b1,b2,b3,b4,⟨s1,s2,s3,s4⟩,es,ef⟩:=Tu c;have e:(1 + (l:Int))=((l + 1:Nat):Int):=by omega
 rw [e];have B1:∀r∈[R1],Bd 10 r:=fun r hr=>by rw [mem_singleton.mp hr]; exact b1
 have B2:∀r∈[R2,R1],Bd 10 r:=fun r hr=>by
  rcases mem_cons.mp hr with z | z
  ·rw [z]; exact b2
  ·exact B1 r z
 have B3:∀r∈[R3,R2,R1],Bd 10 r:=fun r hr=>by
  rcases mem_cons.mp hr with z | z
  ·rw [z]; exact b3
  ·exact B2 r z
 have:l=0\/l=1\/l=2\/l=3:=by omega
 rcases this with z | z | z | z <;> subst z <;> rw [ef]
 ·obtain ⟨F,of,T⟩:=s1
  cases T with
  | cons T r hl hr hn=>exact ⟨[],_,_,R1,rfl,T,rfl,(fun r hr=>by cases hr),l1,b1,hr,hn⟩
 ·obtain ⟨F,of,T⟩:=s2
  cases T with
  | cons T r hl hr hn=>exact ⟨[R1],_,_,R2,rfl,T,rfl,B1,l2,b2,hr,hn⟩
 ·obtain ⟨F,of,T⟩:=s3
  cases T with
  | cons T r hl hr hn=>exact ⟨[R2,R1],_,_,R3,rfl,T,rfl,B2,l3',b3,hr,hn⟩
 ·obtain ⟨F,of,T⟩:=s4
  cases T with
  | cons T r hl hr hn=>exact ⟨[R3,R2,R1],_,_,R4,rfl,T,rfl,B3,l4,b4,hr,hn⟩
theorem eu' (n:Nat) (h:n<=100):fB [.int 0] (.int (n:Int))=.ok (.lst ((List.replicate n 0).map .int)):=by
 show fB _ _=_;unfold fB;simp;omega
theorem oT' (x:List Int) (h:x.length<=100):aN (.lst [.int 1]) (.lst (x.map .int))=.ok (.lst ((1 :: x).map .int)):=by
 show (if 1 + (x.map D.int).length<=sizeLine then Res.ok (D.lst ([.int 1] ++ x.map D.int)) else Res.stuck)=_
 have e:1000<=sizeLine:=by decide
 rw [if_pos (by rw [length_map]; omega)]; rfl
theorem U4 (fs:DS->Res (List D)) (fb:DS->Res D) (δ:DS):kO fs fb δ=(fs δ).bind fun ds=>(jR fb δ).bind (fB ds):=Eq.trans rfl rfl
theorem MJ (ns:List Int) (a b:Nat):∃ks:List Int,ks.length<=ns.length/\cutD (.lst (ns.map .int)) (some (a:Int)) (some (b:Int))=.ok (.lst (ks.map .int)):=by
 refine ⟨(ns.drop (HT.sIx (ns.map D.int).length 0 (some (a:Int)))).take (HT.sIx (ns.map D.int).length (ns.map D.int).length (some (b:Int)) - HT.sIx (ns.map D.int).length 0 (some (a:Int))),?_,?_⟩
 ·rw [length_take,length_drop]; omega
 ·show Res.ok (D.lst (gh (ns.map .int) (some (a:Int)) (some (b:Int))))=_;unfold gh;rw [map_take,map_drop]
theorem U5 (x:List Int) (h:x.length<=100):aN (.lst [.int 0]) (.lst (x.map .int))=.ok (.lst ((0 :: x).map .int)):=by
 show (if 1 + (x.map D.int).length<=sizeLine then Res.ok (D.lst ([.int 0] ++ x.map D.int)) else Res.stuck)=_
 have e:1000<=sizeLine:=by decide
 rw [if_pos (by rw [length_map]; omega)]; rfl
noncomputable def Pl (l:Nat):Nat:=31 + 31 + eT 10 l + 10 + eT 10 l
theorem Ie {l:Nat} (h:l<=3):yh l (Pl l) (Pl l + cB l + dB l)=true/\uW l (Pl l)=true/\uX l (Pl l)=true/\wG l (Pl l)=true/\Pl l<=300/\31<=Pl l:=by
 have:l=0\/l=1\/l=2\/l=3:=by omega
 rcases this with z | z | z | z <;> subst z <;> decide
theorem MK {s0 s1 s2 t6:Option SV}:∀(L:List D),(∀d∈L,∃(i:Nat) (c:Int),i < 1000/\d=.tup [.int (i:Int),.int c])->∀(a:Int) (z4 z5:Option SV),∃(a':Int) (y4 y5:Option SV),
  dg (bW [4,5]) ‹"F"› L [s0,s1,s2,some (.val (.int a)),z4,z5,t6]=.nxt [s0,s1,s2,some (.val (.int a')),y4,y5,t6]
 | [],_,a,z4,z5=>⟨a,z4,z5,Hd⟩
 | d :: L,h,a,z4,z5=>by
  obtain ⟨i,c,hi,rfl⟩:=h d (by simp);obtain ⟨a',y4,y5,e⟩:=MK (s0:=s0) (s1:=s1) (s2:=s2) (t6:=t6) L (fun d hd=>h d (mem_cons_of_mem _ hd)) (a + (2 * (i:Int) + 1) * Int.fmod c (10 ^ 30)) (some (.val (.int (i:Int)))) (some (.val (.int c)));refine ⟨a',y4,y5,Eq.trans (cs' (δ1:=[s0,s1,s2,some (.val (.int a)),some (.val (.int (i:Int))),some (.val (.int c)),t6]) ?_ ?_) e⟩
  ·rfl
  ·have m1:dj (.int 2) (.int (i:Int))=_:=MF (by decide);have pw:km (.int 10) (.int 30)=.ok (.int (10 ^ 30)):=rfl;have mo:aY (.int c) (.int (10 ^ 30))=_:=dJ (show (10 ^ 30:Int)≠0 by decide);have m2:dj (.int (2 * (i:Int) + 1)) (.int (Int.fmod c (10 ^ 30)))=_:=MF (by
    have e:(2:Nat) ^ 20=1048576:=by decide
    exact Nat.lt_of_lt_of_le (show (2 * (i:Int) + 1).natAbs < 2 ^ 20 by omega) (by decide))
   push_cast [m1,pw,mo,m2]
section
variable {rs:List (List Int)} {F:OF} {of:List Int->F.C}
theorem mN' (T:Tow rs F of) (l3:rs.length<=3) {d G1:D} {v:F.C} (hd:Nm of rs.length 31 d v) (a:Int) {s0 s4 s5:Option SV}:∃(d':D) (v':F.C),Rw of rs.length 31 d' v' /\
  (bG (dI (aF (ao ‹"an"› nJ) aV)) ‹"I"› Out.nxt) [s0,some (.val G1),some (.val (.int ((2 ^ rs.length:Nat):Int))),some (.val (.int a)),s4,s5,some (.val d)]=.nxt [s0,some (.val G1),some (.val (.int ((2 ^ rs.length:Nat):Int))),some (.val (.int a)),s4,s5,some (.val d')]:=by
 have e8:=mV l3;have n0:=Nat.two_pow_pos rs.length;obtain ⟨x,b,ed,nx,lx,bx,bb,ex⟩:=id hd;have ix0:aR d (.int 0)=.ok (TI x):=by rw [ed]; exact ix_tup0 _ _
 have an:=Ry x
 by_cases c:x.any (· != 0)=true
 ·rw [c] at an;exact ⟨d,v,hd.rw,by push_cast [ix0,an]⟩
 ·rw [Bool.not_eq_true] at c;rw [c] at an;have f0:=Int.fmod_nonneg_of_pos a (b:=5) (by decide);have f5:=Int.fmod_lt_of_pos a (b:=5) (by decide);have mo:aY (.int a) (.int 5)=_:=dJ (show (5:Int)≠0 by decide);have sb:((2 ^ rs.length:Nat):Int) - 1=((2 ^ rs.length - 1:Nat):Int):=by omega
  have rp:=eu' (2 ^ rs.length - 1) (by omega);have ad:=oT' (List.replicate (2 ^ rs.length - 1) 0) (by rw [length_replicate]; omega);generalize Int.fmod a 5=y at *;refine ⟨num (1 :: List.replicate (2 ^ rs.length - 1) 0) (1 + y),((1:Int):F.C) / ((1 + y:Int):F.C),⟨_,_,rfl,by omega,?_,?_,?_,?_⟩,?_⟩
  ·rw [length_cons,length_replicate]; omega
  ·intro t ht;rcases mem_cons.mp ht with z | z
   ·rw [z]; decide
   ·rw [eq_of_mem_replicate z]; decide
  ·have:(2:Nat) ^ 31=2147483648:=by decide
   omega
  ·rw [nU T 1]
  ·have nx:jR (two (ak 2) ‹1› iu) [s0,some (.val G1),some (.val (.int ((2 ^ rs.length:Nat):Int))),some (.val (.int a)),s4,s5,some (.val d)]=.ok (.int ((2 ^ rs.length - 1:Nat):Int)):=HH (by push_cast [sb]);push_cast [ix0,an,U4,nx,rp,ad,mo]
theorem U6 (T:Tow rs F of) (l3:rs.length<=3) (hr:∀r∈rs,Bd 10 r) {r:List Int} (lr:r.length=2 ^ rs.length) (br:Bd 10 r) (ns:List Int) (hl63:ns.length<=63):∃d v,oU [.lst (ns.map .int),RT (r :: rs),.int ((2 ^ rs.length:Nat):Int)]=.ok d/\Nm of rs.length (Pl rs.length) d v:=by
 have e77:=KZ l3;obtain ⟨_,_,_,_,pl,pl2⟩:=Ie l3;obtain ⟨ks,kl,cu⟩:=MJ ns 2 10;have cu':cutD (.lst (ns.map .int)) (some 2) (some 10)=.ok (.lst (ks.map .int)):=cu;have c1:gH [.lst (ns.map .int),.int 1]=_:=GZ ns 1;have f4:aL (.int (cell ns 1)) (.int 4)=_:=pQ (show (4:Int)≠0 by decide) (Nat.lt_of_lt_of_le (show 4 < 2 ^ 3 by decide) (Nat.pow_le_pow_right (by decide) (by decide)));have m3:aY (.int (Int.fdiv (cell ns 1) 4)) (.int 3)=_:=dJ (show (3:Int)≠0 by decide);have cl:=nO r rs;have il:=wk r rs;have nr:=yI (of:=of) (fun _=>rfl) lr br;have main:∀(S G1:D),cutD S (some 2) (some 10)=.ok (.lst (ks.map .int))->gH [S,.int 1]=.ok (.int (cell ns 1))->cutD G1 none (some (-1))=.ok (RT rs)->aR G1 (.int (-1))=.ok (TI r)->∃d v,oU [S,G1,.int ((2 ^ rs.length:Nat):Int)]=.ok d/\Nm of rs.length (Pl rs.length) d v:=fun S G1 cu' c1 cl il=>by
  obtain ⟨a,y4,y5,e⟩:=MK (s0:=some (.val S)) (s1:=some (.val G1)) (s2:=some (.val (.int ((2 ^ rs.length:Nat):Int)))) (t6:=none) (gq (ks.map .int)) (fun d hd=>by
   obtain ⟨i,c,hi,e⟩:=U0 hd;exact ⟨i,c,by omega,e⟩) 0 none none
  obtain ⟨d,v,ed,hd⟩:=S5 T l3 a;have en:iQ [.lst (ks.map .int)]=.ok (gq (ks.map .int)):=rfl;have th:thaw [some (SV.arg S),some (.arg G1),some (.arg (.int ((2 ^ rs.length:Nat):Int))),some (.val (.int 0)),none,none,none]=[some (SV.val S),some (.val G1),some (.val (.int ((2 ^ rs.length:Nat):Int))),some (.val (.int 0)),none,none,none]:=rfl;have to:e_ (.nxt [some (SV.val S),some (.val G1),some (.val (.int ((2 ^ rs.length:Nat):Int))),some (.val (.int a)),y4,y5,none])=.nxt [some (SV.val S),some (.val G1),some (.val (.int ((2 ^ rs.length:Nat):Int))),some (.val (.int a)),y4.map thaw2,y5.map thaw2,none]:=rfl;have q0:(aD 3 ‹0›) [some (SV.arg S),some (.arg G1),some (.arg (.int ((2 ^ rs.length:Nat):Int))),none,none,none,none]=.nxt [some (SV.arg S),some (.arg G1),some (.arg (.int ((2 ^ rs.length:Nat):Int))),some (.val (.int 0)),none,none,none]:=rfl;have q1:‹"ak"› [some (SV.arg S),some (.arg G1),some (.arg (.int ((2 ^ rs.length:Nat):Int))),some (.val (.int 0)),none,none,none]=.nxt [some (SV.val S),some (.val G1),some (.val (.int ((2 ^ rs.length:Nat):Int))),some (.val (.int a)),y4.map thaw2,y5.map thaw2,none]:=by push_cast [cu',en,th,e,to]
  generalize y4.map thaw2=x4 at *;generalize y5.map thaw2=x5 at *;have q2:(aD 6 (ao (aj (ak 3) ‹"o"›) rM)) [some (SV.val S),some (.val G1),some (.val (.int ((2 ^ rs.length:Nat):Int))),some (.val (.int a)),x4,x5,none]=.nxt [some (SV.val S),some (.val G1),some (.val (.int ((2 ^ rs.length:Nat):Int))),some (.val (.int a)),x4,x5,some (.val d)]:=by push_cast [ed]
  by_cases k:Int.fmod (Int.fdiv (cell ns 1) 4) 3=0
  ·refine ⟨d,v,?_,hd.mono pl2⟩;show outD (oR [some (.arg S),some (.arg G1),some (.arg (.int ((2 ^ rs.length:Nat):Int))),none,none,none,none])=_;unfold oR;rw [ap_seq,q0,sq_nxt,ap_seq,q1,sq_nxt,ap_seq,q2,sq_nxt];generalize RT rs=G at *;push_cast [c1,f4,m3,k]
  ·obtain ⟨d',v',hd',h0⟩:=mN' T l3 (G1:=G1) hd a (s0:=some (.val S)) (s4:=x4) (s5:=x5);obtain ⟨pp,e1,hp1⟩:=xm T l3 hr hd' hd' (by omega);obtain ⟨pd,e2,hp2⟩:=xm T l3 hr hp1 nr.rw (by omega);have e2':cZ [RT rs,pp,.tup [TI r,.int 1]]=.ok pd:=e2;have hp2':Rw of rs.length (Pl rs.length) pd (v' * v' * of r):=hp2;obtain ⟨q,el,hq⟩:=Ec T l3 hp2' (by omega);refine ⟨q,_,?_,hq⟩;have q3:(bG (aF (two (two (two (ao ‹"ar"› gH) ‹4› aL) ‹3› aY) ‹0› cH) aG) (aH (ak 6)) Out.nxt) [some (SV.val S),some (.val G1),some (.val (.int ((2 ^ rs.length:Nat):Int))),some (.val (.int a)),x4,x5,some (.val d)]=.nxt [some (SV.val S),some (.val G1),some (.val (.int ((2 ^ rs.length:Nat):Int))),some (.val (.int a)),x4,x5,some (.val d)]:=by push_cast [c1,f4,m3,k]
   show outD (oR [some (.arg S),some (.arg G1),some (.arg (.int ((2 ^ rs.length:Nat):Int))),none,none,none,none])=_;unfold oR;rw [ap_seq,q0,sq_nxt,ap_seq,q1,sq_nxt,ap_seq,q2,sq_nxt,ap_seq,q3,sq_nxt,ap_seq,h0,sq_nxt];generalize RT rs=G at *;push_cast [cl,il,e1,e2',el]
 exact main _ _ cu' c1 cl il
theorem Pp.up {n:Nat} {d:D} (k:Nat) (h:Pp n d):Pp (n + k) d:=by
 induction k with
 | zero=>exact h
 | succ k ih=>exact ih.mono
theorem U7 (T:Tow rs F of) (l3:rs.length<=3) (hr:∀r∈rs,Bd 10 r) {d:D} {v:F.C} (hd:Nm of rs.length (Pl rs.length) d v):∃p,j7 [RT rs,d]=.ok p/\((p=.non)\/(bQ p .non=.ok (.bl false)/\Pp 3 p)):=by
 obtain ⟨aw,bw,bp,_,pl,pl2⟩:=Ie l3
 by_cases sq:∃z:F.C,z * z=v
 ·obtain ⟨z0,hz0⟩:=sq;have hz:fabs z0 * fabs z0=v:=fs_abs.trans hz0;obtain ⟨e,he⟩:=HD T l3 hr hd hz;exact ⟨.non,UW T l3 hr 4 (by omega) _ _ d e _ _ hd he hz (uU _) aw,.inl rfl⟩
 ·obtain ⟨ds,ep,hp⟩:=Mz T l3 hr 4 (by omega) _ d v hd (fun z h=>sq ⟨z,h⟩) bw bp;refine ⟨.tup ds,ep,.inr ⟨rfl,?_⟩⟩;have up:=Pp.up (3 - rs.length) hp;rw [show rs.length + (3 - rs.length)=3 by omega] at up;exact up
end
theorem MN (b:Bool):bU is_bool (.bl b)=.ok (.bl true):=rfl
theorem MP (b:Bool):fQ (.bl b) (.bl b)=.ok (.bl false):=by cases b <;> rfl
section
variable {S G1 G d p t:D} {c x:Int} {b:Bool} {z6 z7:Option SV}
theorem U8 (m7:aY (.int c) (.int 7)=.ok (.int x)) (x0:0 < x) (fd:∃y,aL (.int c) (.int 7)=.ok (.int y)/\ni [p,.int y]=.ok t) (h1:gr [G,d,t]=.ok (.bl b)) (h2:oV [G,d,t]=.ok (.bl b)):(aB (aD 6 (ak 4)) (aB (bG ‹"z"› (aD 6 (ao ‹"J"› ni)) Out.nxt) (aB (aD 7 (ao ‹"q"› gr)) (bG ‹"ax"› (aH (fun _=>.ok (.bl false))) Out.nxt)))) [some (SV.val S),some (.val G1),some (.val G),some (.val d),some (.val p),some (.val (.int c)),z6,z7]=.nxt [some (SV.val S),some (.val G1),some (.val G),some (.val d),some (.val p),some (.val (.int c)),some (.val t),some (.val (.bl b))]:=by
 obtain ⟨y,fd,sp⟩:=fd;push_cast [m7,x0,fd,sp,h1,h2,MN,MP]
theorem U9 (m7:aY (.int c) (.int 7)=.ok (.int x)) (x0:¬0 < x) (h1:gr [G,d,p]=.ok (.bl b)) (h2:oV [G,d,p]=.ok (.bl b)):(aB (aD 6 (ak 4)) (aB (bG ‹"z"› (aD 6 (ao ‹"J"› ni)) Out.nxt) (aB (aD 7 (ao ‹"q"› gr)) (bG ‹"ax"› (aH (fun _=>.ok (.bl false))) Out.nxt)))) [some (SV.val S),some (.val G1),some (.val G),some (.val d),some (.val p),some (.val (.int c)),z6,z7]=.nxt [some (SV.val S),some (.val G1),some (.val G),some (.val d),some (.val p),some (.val (.int c)),some (.val p),some (.val (.bl b))]:=by
 push_cast [m7,x0,h1,h2,MN,MP]
theorem U_ {c0 c1 k n:Int} {r q:D} {ks:List Int} {δ':DS} (h0:gH [S,.int 0]=.ok (.int c0)) (h1:gH [S,.int 1]=.ok (.int c1)) (m4:aY (.int c1) (.int 4)=.ok (.int k)) (hf:oM [.int c0,.int (1 + k)]=.ok G1) (cl:cutD G1 none (some (-1))=.ok G) (il:aR G1 (.int (-1))=.ok r) (ln:a_ [r]=.ok (.int n)) (bu:oU [S,G1,.int n]=.ok d) (pa:j7 [G,d]=.ok q)
  (hq:(q=.non/\p=.tup [.str "norm",.tup [.str "between",.int 3]])\/(bQ q .non=.ok (.bl false)/\p=q)) (cu:cutD S (some 10) (some 26)=.ok (.lst (ks.map .int))) (ad:aN (.lst [.int 0]) (.lst (ks.map .int))=.ok (.lst ((0 :: ks).map .int)))
  (el:dg (bO 5) (aB (aD 6 (ak 4)) (aB (bG ‹"z"› (aD 6 (ao ‹"J"› ni)) Out.nxt) (aB (aD 7 (ao ‹"q"› gr)) (bG ‹"ax"› (aH (fun _=>.ok (.bl false))) Out.nxt)))) ((0 :: ks).map .int) [some (SV.val S),some (.val G1),some (.val G),some (.val d),some (.val p),none,none,none]=.nxt δ'):iY [S]=.ok (.bl true):=by
 have tho:∀δ,e_ (Out.nxt δ)=.nxt (δ.map (Option.map thaw2)):=fun _=>rfl;have th0:thaw [some (SV.arg S),some (.val G1),some (.val G),some (.val d),some (.val p),none,none,none]=[some (SV.val S),some (.val G1),some (.val G),some (.val d),some (.val p),none,none,none]:=rfl;show outD (nj [some (.arg S),none,none,none,none,none,none,none])=_;unfold nj;have t0:(aD 1 (ao (aj (ao (aj (ak 0) (aj ‹0› ‹""›)) gH) (aj (two ‹1› (two (ao ‹"ar"› gH) ‹4› aY) aN) ‹""›)) oM)) [some (.arg S),none,none,none,none,none,none,none]=.nxt [some (.arg S),some (.val G1),none,none,none,none,none,none]:=by push_cast [h0,h1,m4,hf]
 have t1:(aD 2 ‹"ad"›) [some (.arg S),some (.val G1),none,none,none,none,none,none]=.nxt [some (.arg S),some (.val G1),some (.val G),none,none,none,none,none]:=by push_cast [cl]
 have t2:(aD 3 (ao ‹"ai"› oU)) [some (.arg S),some (.val G1),some (.val G),none,none,none,none,none]=.nxt [some (.arg S),some (.val G1),some (.val G),some (.val d),none,none,none,none]:=by push_cast [il,ln,bu]
 have t3:(aD 4 (ao ‹"X"› j7)) [some (.arg S),some (.val G1),some (.val G),some (.val d),none,none,none,none]=.nxt [some (.arg S),some (.val G1),some (.val G),some (.val d),some (.val q),none,none,none]:=by push_cast [pa]
 have t4:(bG ‹"N"› ‹"aj"› Out.nxt) [some (.arg S),some (.val G1),some (.val G),some (.val d),some (.val q),none,none,none]=.nxt [some (.arg S),some (.val G1),some (.val G),some (.val d),some (.val p),none,none,none]:=by
  rcases hq with ⟨e1,e2⟩ | ⟨e1,e2⟩
  ·rw [e1,e2]; push_cast [yH]
  ·rw [e2]; push_cast [e1]
 rw [ap_seq,t0,sq_nxt,ap_seq,t1,sq_nxt,ap_seq,t2,sq_nxt,ap_seq,t3,sq_nxt,ap_seq,t4,sq_nxt];generalize (0 :: ks).map D.int=Ls at *;generalize ks.map D.int=Ks at *;push_cast [cu,ad,th0,el,tho]
end
theorem Va (ns:List Int) (hl63:ns.length<=63):iY [.lst (ns.map .int)]=.ok (.bl true):=by
 obtain ⟨l,l3,hl⟩:=G9 (cell ns 1);have c0:gH [.lst (ns.map .int),.int 0]=_:=GZ ns 0;have c1:gH [.lst (ns.map .int),.int 1]=_:=GZ ns 1;have m4:aY (.int (cell ns 1)) (.int 4)=_:=dJ (show (4:Int)≠0 by decide);rw [hl] at m4;obtain ⟨rs,F,of,r,hf,T,rl,hr,lr,br,rp,rn⟩:=U3 (cell ns 0) l l3;subst rl;have lnr:a_ [TI r]=.ok (.int ((2 ^ rs.length:Nat):Int)):=by
  show Res.ok (D.int ((r.map D.int).length:Int))=_;rw [length_map,lr]
 obtain ⟨aw,bw,bp,be,pl,pl2⟩:=Ie l3;obtain ⟨d,v,bu,hd⟩:=U6 T l3 hr lr br ns hl63;obtain ⟨q,pa,hq⟩:=U7 T l3 hr hd;obtain ⟨p,hp,hq'⟩:∃p,Pp 3 p/\((q=.non/\p=.tup [.str "norm",.tup [.str "between",.int 3]])\/(bQ q .non=.ok (.bl false)/\p=q)):=by
  rcases hq with h | ⟨h1,h2⟩
  ·exact ⟨_,.norm 2 _ (.btw 2 3 (Nat.lt_of_lt_of_le (show 3 < 2 ^ 2 by decide) (gj (by decide)))),.inl ⟨h,rfl⟩⟩
  ·exact ⟨q,h2,.inr ⟨h1,rfl⟩⟩
 obtain ⟨ks,kl,cu⟩:=MJ ns 10 26;have cu':cutD (.lst (ns.map .int)) (some 10) (some 26)=.ok (.lst (ks.map .int)):=cu;have ad:=U5 ks (by omega);have eq:∀(k:Nat) (t:D),Gd k t->∃b,gr [RT rs,d,t]=.ok (.bl b)/\oV [RT rs,d,t]=.ok (.bl b):=fun k t ht=>eqv T l3 hr 4 (by omega) _ _ k d d t v hd hd.rw (by omega) ht be;have lp:=J_ (t:=bO 5) (b:=(aB (aD 6 (ak 4)) (aB (bG ‹"z"› (aD 6 (ao ‹"J"› ni)) Out.nxt) (aB (aD 7 (ao ‹"q"› gr)) (bG ‹"ax"› (aH (fun _=>.ok (.bl false))) Out.nxt))))) (P:=fun δ=>∃z5 z6 z7,δ=[some (SV.val (.lst (ns.map .int))),some (.val (RT (r :: rs))),some (.val (RT rs)),some (.val d),some (.val p),z5,z6,z7])
  ((0 :: ks).map .int) (fun e he δ hδ=>by
   obtain ⟨z5,z6,z7,rfl⟩:=hδ;obtain ⟨c,_,rfl⟩:=mem_map.mp he;have m7:aY (.int c) (.int 7)=_:=dJ (show (7:Int)≠0 by decide)
   by_cases k:0 < Int.fmod c 7
   ·have fd:aL (.int c) (.int 7)=_:=pQ (show (7:Int)≠0 by decide) (Nat.lt_of_lt_of_le (show 7 < 2 ^ 3 by decide) (Nat.pow_le_pow_right (by decide) (by decide)));obtain ⟨t,sp,ht⟩:=ct' 4 3 p (Int.fdiv c 7) hp (by decide);obtain ⟨b,h1,h2⟩:=eq _ t ht;exact ⟨_,_,rfl,U8 m7 k ⟨_,fd,sp⟩ h1 h2,_,_,_,rfl⟩
   ·obtain ⟨b,h1,h2⟩:=eq _ p hp.gd;exact ⟨_,_,rfl,U9 m7 k h1 h2,_,_,_,rfl⟩) [some (SV.val (.lst (ns.map .int))),some (.val (RT (r :: rs))),some (.val (RT rs)),some (.val d),some (.val p),none,none,none] ⟨_,_,_,rfl⟩
 obtain ⟨δ',el,_⟩:=lp;exact U_ c0 c1 m4 hf (nO r rs) (wk r rs) lnr bu pa hq' cu' ad el
theorem MT {K:Frag} {H:Hp}:∀ns:List Int,Reps K H (ns.map .int) (ns.map V.int)
 | []=>.nil
 | n :: ns=>.cons jc (MT ns)
end K17
namespace K17
open PySem PySem.Spec PyProof.Rows L2 DL
theorem all_mk {l:OpenLaw} {w:World} {K:Frag} {h:Heap} {mg:Str->Option Value} {fa c_HallError c_Below c_NoOver f_law:Addr} (X:K.In h) (G:h.Ns mainGlobals mg) (hfa:mg "law" = some (.ref fa))
  {od_law an_law:Option Addr} {sl_law:Array (Option Value)} {oc_law kV_law dc_law pm_law cd_law ct_law:Value}
  (n_HallError:nsIn K mainGlobals "HallError" = some (some (.ref c_HallError)))
  (n_Below:nsIn K mainGlobals "Below" = some (some (.ref c_Below)))
  (x_Below:excIn K c_Below [.type "ValueError",.type "Exception",.type "BaseException",.type "object"] "ValueError.__new__" = true)
  (n_NoOver:nsIn K mainGlobals "NoOver" = some (some (.ref c_NoOver)))
  (x_NoOver:excIn K c_NoOver [.type "ValueError",.type "Exception",.type "BaseException",.type "object"] "ValueError.__new__" = true)
  (l_qN:Lk K "is_whole" rO)
  (l_qY:Lk K "common" rP)
  (l_qt:Lk K "whole_root" rQ)
  (l_qZ:Lk K "lifted" rR)
  (l_qp:Lk K "are_noughts" rT)
  (l_qu:Lk K "front_tops" rW)
  (l_qq:Lk K "behind_tops" rY)
  (l_qD:Lk K "plus_tops" rZ)
  (l_qi:Lk K "against_tops" sr)
  (l_qf:Lk K "sign_of_whole" sy)
  (l_qv:Lk K "times_last" sE)
  (l_qO:Lk K "_law_cell" sG)
  (l_qE:Lk K "_law_whole" sH)
  (l_qF:Lk K "_law_mixed" sI)
  (l_qG:Lk K "_law_added" sJ)
  (l_qw:Lk K "_law_scaled" pD)
  (l_qx:Lk K "_law_common" sO)
  (l_qy:Lk K "are_wholes" sS)
  (l_qg1:Lk K "made" lD)
  (l_qS:Lk K "against" sU)
  (l_qH:Lk K "is_nought" sV)
  (l_qa1:Lk K "turned" nZ)
  (l_qb:Lk K "holds_of_fraction" sW)
  (l_qj:Lk K "_law_scaffold" sX)
  (l_qT:Lk K "_law_sum" sY)
  (l_qI:Lk K "_law_alike" sZ)
  (l_qg:Lk K "_law_is_number" tu)
  (l_qz:Lk K "_law_lowest" pF)
  (l_qa:Lk K "_law_walked_fraction" tD)
  (l_qk:Lk K "_law_turned" tE)
  (l_qU:Lk K "_law_odd" tG)
  (l_qh1:Lk K "plus" lE)
  (l_qb1:Lk K "halves" n6)
  (l_qJ:Lk K "is_number" tH)
  (l_qd:Lk K "root_of_fraction" tK)
  (l_qV:Lk K "half_of" tL)
  (l_qP:Lk K "_law_four" tM)
  (l_qQ:Lk K "_law_less" tO)
  (l_qr:Lk K "_law_drawn" j5)
  (l_qc1:Lk K "minus" n8)
  (l_qc:Lk K "paper_of_fraction" tQ)
  (l_qA:Lk K "times_tops" mX)
  (l_qW:Lk K "middles" tR)
  (l_qe:Lk K "_law_tops_times" mY)
  (l_qd1:Lk K "times" n_)
  (l_qK:Lk K "norm_tops" tU)
  (l_qs:Lk K "_law_product" tV)
  (l_qB:Lk K "_law_spoilt" j6)
  (l_qi1:Lk K "norm" oh)
  (l_qL:Lk K "both_ways" tW)
  (l_qX:Lk K "is_root" tX)
  (l_qM:Lk K "_law_built" tY)
  (l_ql:Lk K "sign_of_tops" mZ)
  (l_qC:Lk K "_law_walked" m6)
  (l_qR:Lk K "one_over" m8)
  (l_qj1:Lk K "sign" ou)
  (l_qk1:Lk K "over" oA)
  (l_ql1:Lk K "size" oE)
  (l_qe1:Lk K "holds" jt)
  (l_qm:Lk K "holds_of_two" tZ)
  (l_qm1:Lk K "root" ju)
  (l_qh:Lk K "root_of_front" t7)
  (l_qn:Lk K "root_of_both" t8)
  (l_qf1:Lk K "paper" jw)
  (l_qo:Lk K "paper_of_two" t_)
  (n_law:nsIn K mainGlobals "law" = some (some (.ref f_law)))
  (l_law:K.lookup f_law=some ⟨oc_law,od_law,.func (fnOf "law" "law" (cG vH) (bV vH) (az vH) .none kV_law dc_law pm_law an_law cd_law ct_law),sl_law⟩)
  (c_law:codeIn K cd_law "law" = true)
  (k_law:keepIn K (.ref f_law)=true)
  (z_abs:nsIn K mainGlobals "abs" = some none)
  (z_all:nsIn K mainGlobals "all" = some none)
  (z_any:nsIn K mainGlobals "any" = some none)
  (z_bool:nsIn K mainGlobals "bool" = some none)
  (z_enumerate:nsIn K mainGlobals "enumerate" = some none)
  (z_int:nsIn K mainGlobals "int" = some none)
  (z_isinstance:nsIn K mainGlobals "isinstance" = some none)
  (z_len:nsIn K mainGlobals "len" = some none)
  (z_list:nsIn K mainGlobals "list" = some none)
  (z_max:nsIn K mainGlobals "max" = some none)
  (z_min:nsIn K mainGlobals "min" = some none)
  (z_range:nsIn K mainGlobals "range" = some none)
  (z_str:nsIn K mainGlobals "str" = some none)
  (z_tuple:nsIn K mainGlobals "tuple" = some none)
  (z_zip:nsIn K mainGlobals "zip" = some none)
  (e4:specialIn K (.builtin "object.__class__") "__get__" = some (some (.builtin "getset_descriptor.__get__")))
  (e5:takesIn K (.builtin "object.__class__")=some true)
  (i_int_int:kitOne K (.type "int") (.type "int")=some true)
  (i_bool_int:kitOne K (.type "bool") (.type "int")=some true)
  (i_NoneType_int:kitOne K (.type "NoneType") (.type "int")=some false)
  (i_str_int:kitOne K (.type "str") (.type "int")=some false)
  (i_tuple_int:kitOne K (.type "tuple") (.type "int")=some false)
  (i_list_int:kitOne K (.type "list") (.type "int")=some false)
  (i_dict_int:kitOne K (.type "dict") (.type "int")=some false)
  (i_int_bool:kitOne K (.type "int") (.type "bool")=some false)
  (i_bool_bool:kitOne K (.type "bool") (.type "bool")=some true)
  (i_NoneType_bool:kitOne K (.type "NoneType") (.type "bool")=some false)
  (i_str_bool:kitOne K (.type "str") (.type "bool")=some false)
  (i_tuple_bool:kitOne K (.type "tuple") (.type "bool")=some false)
  (i_list_bool:kitOne K (.type "list") (.type "bool")=some false)
  (i_dict_bool:kitOne K (.type "dict") (.type "bool")=some false)
  (i_int_tuple:kitOne K (.type "int") (.type "tuple")=some false)
  (i_bool_tuple:kitOne K (.type "bool") (.type "tuple")=some false)
  (i_NoneType_tuple:kitOne K (.type "NoneType") (.type "tuple")=some false)
  (i_str_tuple:kitOne K (.type "str") (.type "tuple")=some false)
  (i_tuple_tuple:kitOne K (.type "tuple") (.type "tuple")=some true)
  (i_list_tuple:kitOne K (.type "list") (.type "tuple")=some false)
  (i_dict_tuple:kitOne K (.type "dict") (.type "tuple")=some false)
  (i_int_str:kitOne K (.type "int") (.type "str")=some false)
  (i_bool_str:kitOne K (.type "bool") (.type "str")=some false)
  (i_NoneType_str:kitOne K (.type "NoneType") (.type "str")=some false)
  (i_str_str:kitOne K (.type "str") (.type "str")=some true)
  (i_tuple_str:kitOne K (.type "tuple") (.type "str")=some false)
  (i_list_str:kitOne K (.type "list") (.type "str")=some false)
  (i_dict_str:kitOne K (.type "dict") (.type "str")=some false)
  : ∃fd:FuncData,(∀(s:Shared) (v:Value),BindsTo s fd ⟨[v],[]⟩ [("_law_script",v)])/\∀base:Heap,K.In base->base.Ns mainGlobals mg->FnOk l.prog w K mg base (pM l.prog w) 29 fa fd ["_law_script"] (u_ K iY):=by
 have e:=hfa.symm.trans (mg_of X G n_law)
 cases e
 have iY:=Je (st:=vH) l_law c_law k_law;have T:Txt K mg { c_HallError:=c_HallError,c_Below:=c_Below,c_NoOver:=c_NoOver }:={
  m_HallError:=mg_of X G n_HallError
  m_Below:=mg_of X G n_Below
  n_Below:=n_Below
  x_Below:=x_Below
  m_NoOver:=mg_of X G n_NoOver
  n_NoOver:=n_NoOver
  x_NoOver:=x_NoOver
  z_abs:=mg_none_of X G z_abs
  z_all:=mg_none_of X G z_all
  z_any:=mg_none_of X G z_any
  z_bool:=mg_none_of X G z_bool
  z_enumerate:=mg_none_of X G z_enumerate
  z_int:=mg_none_of X G z_int
  z_isinstance:=mg_none_of X G z_isinstance
  z_len:=mg_none_of X G z_len
  z_list:=mg_none_of X G z_list
  z_max:=mg_none_of X G z_max
  z_min:=mg_none_of X G z_min
  z_range:=mg_none_of X G z_range
  z_str:=mg_none_of X G z_str
  z_tuple:=mg_none_of X G z_tuple
  z_zip:=mg_none_of X G z_zip
  i_int:=by
   intro d b hd
   cases d <;> simp only [Bk.is_int] at hd <;> cases hd <;> first | exact i_int_int | exact i_bool_int | exact i_NoneType_int | exact i_str_int | exact i_tuple_int | exact i_list_int | exact i_dict_int
  i_bool:=by
   intro d b hd
   cases d <;> simp only [Bk.is_bool] at hd <;> cases hd <;> first | exact i_int_bool | exact i_bool_bool | exact i_NoneType_bool | exact i_str_bool | exact i_tuple_bool | exact i_list_bool | exact i_dict_bool
  i_tuple:=by
   intro d b hd
   cases d <;> simp only [Bk.is_tuple] at hd <;> cases hd <;> first | exact i_int_tuple | exact i_bool_tuple | exact i_NoneType_tuple | exact i_str_tuple | exact i_tuple_tuple | exact i_list_tuple | exact i_dict_tuple
  i_str:=by
   intro d b hd
   cases d <;> simp only [Bk.is_str] at hd <;> cases hd <;> first | exact i_int_str | exact i_bool_str | exact i_NoneType_str | exact i_str_str | exact i_tuple_str | exact i_list_str | exact i_dict_str
 }
 refine ⟨fnOf "law" "law" (cG vH) (bV vH) (az vH) .none kV_law dc_law pm_law an_law cd_law ct_law,fun s v=>.of_eq rfl,fun base _ _=>?_⟩;have G_qN:=Ba (P:=l.prog) (w:=w) (base:=base) T (fJ X G l_qN);have G_qY:=Bb (P:=l.prog) (w:=w) (base:=base) T (cF X G l_qY);have G_qt:=Bc (P:=l.prog) (w:=w) (base:=base) T (fJ X G l_qt);have G_qZ:=Be (P:=l.prog) (w:=w) (base:=base) T (cF X G l_qZ);have G_qp:=Bf (P:=l.prog) (w:=w) (base:=base) T (fJ X G l_qp);have G_qu:=Bg (P:=l.prog) (w:=w) (base:=base) T (fJ X G l_qu);have G_qq:=Bh (P:=l.prog) (w:=w) (base:=base) T (fJ X G l_qq);have G_qD:=Bj (P:=l.prog) (w:=w) (base:=base) T (cF X G l_qD);have G_qi:=Bl (P:=l.prog) (w:=w) (base:=base) T (fJ X G l_qi);have G_qf:=Bm (P:=l.prog) (w:=w) (base:=base) T (fJ X G l_qf);have G_qv:=Bo (P:=l.prog) (w:=w) (base:=base) T (fJ X G l_qv);have G_qO:=Bp (P:=l.prog) (w:=w) (base:=base) T (cF X G l_qO);have G_qE:=Bq (P:=l.prog) (w:=w) (base:=base) T (fJ X G l_qE);have G_qF:=Br (P:=l.prog) (w:=w) (base:=base) T (gZ X G l_qF);have G_qG:=Bs (P:=l.prog) (w:=w) (base:=base) T (cF X G l_qG);have G_qw:=Bt (P:=l.prog) (w:=w) (base:=base) T (cF X G l_qw);have G_qx:=Bu (P:=l.prog) (w:=w) (base:=base) T (cF X G l_qx);have G_qy:=Bv G_qN T (cF X G l_qy);have G_qg1:=xN G_qY T (cF X G l_qg1);have G_qS:=Bw G_qi T (fJ X G l_qS);have G_qH:=Bx G_qp T (fJ X G l_qH);have G_qa1:=xO G_qi G_qu G_qq T (fJ X G l_qa1);have G_qb:=By G_qN T (cF X G l_qb);have G_qj:=BJ G_qF T (cF X G l_qj);have G_qT:=BK G_qG G_qw T (cF X G l_qT);have G_qI:=BL G_qw T (cF X G l_qI);have G_qg:=BP G_qx G_qE T (cF X G l_qg);have G_qz:=BR G_qx T (fJ X G l_qz);have G_qa:=BV G_qE T (cF X G l_qa);have G_qk:=BW G_qw T (fJ X G l_qk);have G_qU:=BX G_qw T (cF X G l_qU);have G_qh1:=xP G_qg1 T (cF X G l_qh1);have G_qb1:=xQ G_qu G_qq G_qg1 T (fJ X G l_qb1);have G_qJ:=BZ G_qN G_qg1 G_qy T (cF X G l_qJ);have G_qd:=B_ G_qg1 G_qt T (fJ X G l_qd);have G_qV:=Ca G_qg1 T (fJ X G l_qV);have G_qP:=Cd G_qF G_qj T (cF X G l_qP);have G_qQ:=Ce G_qw G_qT T (cF X G l_qQ);have G_qr:=Cg G_qF G_qz T (cF X G l_qr);have G_qc1:=xR G_qh1 G_qS T (cF X G l_qc1);have G_qc:=Ci G_qt G_qd T (fJ X G l_qc);have G_qA:=Cj G_qu G_qq G_qD T (gZ X G l_qA);have G_qW:=Ck G_qh1 G_qV G_qc1 T (cF X G l_qW);have G_qe:=Cm G_qG T (gZ X G l_qe);have G_qd1:=xT G_qg1 G_qA T (gZ X G l_qd1);have G_qK:=Cp G_qi G_qu G_qq G_qD G_qA T (cF X G l_qK);have G_qs:=Cq G_qe T (gZ X G l_qs);have G_qB:=Cr G_qU G_qk T (cF X G l_qB);have G_qi1:=xU G_qg1 G_qK T (cF X G l_qi1);have G_qL:=Cu G_qd1 T (cF X G l_qL);have G_qX:=Cw G_qd1 G_qJ T (gZ X G l_qX);have G_qM:=Cy G_qz G_qr G_qs G_qO T (gZ X G l_qM);have G_ql:=Cz G_qu G_qq G_qK G_qf T (cF X G l_ql);have G_qC:=CG G_qT G_qz G_qs G_qQ G_qa G_qI G_qg T (gZ X G l_qC);have G_qR:=CJ G_qg1 G_qd1 G_qi1 G_qa1 G_qZ T (cF X G l_qR);have G_qj1:=xV G_ql T (cF X G l_qj1);have G_qk1:=xW G_qd1 G_qH G_qR T (gZ X G l_qk1);have G_ql1:=xX G_qS G_qj1 T (cF X G l_ql1);have G_qe1:=xY G_qi1 G_qH G_qb1 G_qb G_qW G_qX G_qL T (gZ X G l_qe1) (fun R k hk g=>(uD T (gZ X G l_qm)  hk g ));have G_qm:=uD T (gZ X G l_qm)  (by decide) G_qe1;have G_qm1:=xZ G_qd G_qi1 G_qH G_qb1 T (cF X G l_qm1) (fun R k hk g=>(uF G_qZ G_qL G_qv G_qk1 T (cF X G l_qh) hk g )) (fun R k hk g=>(uG G_qh1 G_qZ G_qW G_qv G_qk1 G_ql1 T (zL X G l_qn) hk g ));have G_qh:=uF G_qZ G_qL G_qv G_qk1 T (cF X G l_qh) (by decide) G_qm1;have G_qn:=uG G_qh1 G_qZ G_qW G_qv G_qk1 G_ql1 T (zL X G l_qn) (by decide) G_qm1;have G_qf1:=x_ G_qi1 G_qH G_qb1 G_qW G_qL G_qm1 G_qc T (cF X G l_qf1) (fun R k hk g=>(uI T (gZ X G l_qo)  hk g ));have G_qo:=uI T (gZ X G l_qo)  (by decide) G_qf1;exact od' G_qO G_qP G_qM G_qf1 G_qe1 G_qB G_qC T iY
theorem walk {l:OpenLaw} {q:Program} {loose:List Str} {XP:(Str->Option Value)->Heap->Prop} {YP:World->Heap->Prop} {d:DefRec} {K:Params->Frag} (hn:l.most=some 63) (hdf:d.params.defaults=[])
  (hY:∀(w:World) (h:Heap),YP w h->(K w.params).In h)
  (F:∀(w:World) (mg:Str->Option Value) (fa:Addr) (h:Heap),(K w.params).In h->h.Ns mainGlobals mg->mg d.name=some (.ref fa) ->
   ∃fd:FuncData,(∀(s:Shared) (u:Value),BindsTo s fd ⟨[u],[]⟩ [("_law_script",u)])/\∀base:Heap,(K w.params).In base->base.Ns mainGlobals mg->FnOk l.prog w (K w.params) mg base (pM l.prog w) 29 fa fd ["_law_script"] (u_ (K w.params) iY)) :
  WalkO q loose XP YP l.row.toRowW d [] (fun f vs=>PySem.call f vs) :=
 L2.walk_of (n:=63) (k:=29) (x:="_law_script") (CX:=fun w=>pM l.prog w) (sp:=fun w=>u_ (K w.params) iY) hn (by decide) hdf ⟨rfl,by decide,by decide⟩ hY F
  (fun w H a ns hl _ hS=>⟨[.lst (ns.map .int)],.cons (qu hS (MT ns)) .nil,by rw [Va ns hl]; exact fun v H' _ r=>by rw [Rep] at r; exact r⟩)
  fun _ _ _ _ _ z=>by obtain ⟨_,_,_,_,_,_,_,_,_,_,z⟩:=z; exact z
end K17
open PySem PySem.W PyProof.Rows
namespace PySem.W.Fast
def tw14914255875876128761:=()
def tw3876532993899175372:=()
def tw8661141108884516388:=()
def tw15183508864236383611:=()
def tw6635995951439986493:=()
def tw13950754304380451509:=()
def tw16670876080404974794:=()
def tw18391712724837168116:=()
def tw12365073281499146654:=()
def tw13082203613396556499:=()
def tw3215516159284525598:=()
def tw16633085084853263471:=()
def tw306366656897064673:=()
def tw1089075939817684187:=()
def tw2416659046974863377:=()
def tw8958663160129792226:=()
def tw8505621718860640810:=()
def tw10598439404940880228:=()
def tw1645100604080657512:=()
def tw8585801850508424316:=()
def tw4192228753714625386:=()
def tw10443876773057922194:=()
def tw415221097743552575:=()
def tw3092947627520902812:=()
def tw17110920902567183165:=()
def tw12380700797625343451:=()
def tw1893474194793988840:=()
def tw2188598403532186463:=()
def tw12497658572750972076:=()
def tw8021437595849277758:=()
def tw4916218222071292539:=()
def tw2069098137556011007:=()
def tw14046363982464638045:=()
def tw17223076665339631615:=()
def tw15695669985186101055:=()
def tw4712918751887506456:=()
def tw12776433354773366887:=()
def tw11339028901128020574:=()
def tw15195260816686500504:=()
def tw6988596908165640634:=()
def tw10214691039723429660:=()
def tw5277434026094464630:=()
def tw1215966531428856662:=()
def tw3859018197451286957:=()
def tw233999803399858748:=()
def tw8039544316175003262:=()
def tw4160301498766617464:=()
def tw14324244553185834278:=()
def tw4157872541895112018:=()
def tw5395813886569555802:=()
def tw14173299548730578145:=()
def tw10993804273825289132:=()
def tw3062581079649401615:=()
def tw16134031628972216831:=()
def tw17433696011219443441:=()
def tw15449857755830700494:=()
def tw5380343068461418675:=()
def tw11142036006710131452:=()
def tw6607206068239027095:=()
def tw1142340993584060594:=()
def tw17187311742200890314:=()
def tw13358899012856150505:=()
def tw4595638862720632427:=()
def tw405226758996052898:=()
def tw15785371507779467882:=()
def tw15303234373771835575:=()
def tw8504052781942661955:=()
def tw283772832835189642:=()
def tw15857719176736819963:=()
def tw18087701635656933869:=()
def tw12273229402817645919:=()
def tw13846775215363521595:=()
def tw5534787131729703266:=()
def tw9710773805998491663:=()
def tw14124170668970649463:=()
def tw373339883986420412:=()
def tw5422226611575026213:=()
def tw16015370529234171038:=()
def tw17782142798199519722:=()
def tw5527480602271303779:=()
def tw10446548703141546921:=()
def tw12843466775644765661:=()
def tw1512712570392391114:=()
def tw16653112100050191137:=()
def tw3022406438300564649:=()
def tw262849128690914735:=()
def tw10528033395024062345:=()
def tw7807996058429139466:=()
def tw3865347852880877677:=()
def tw8059291217186901532:=()
def tw5943610284872218978:=()
def tw18108781978566968319:=()
def tw7610518622269420890:=()
def tw17993284759734859299:=()
def tw14567456410028636922:=()
def tw8357773874578153282:=()
def tw8555273183287963309:=()
def tw10175144892596504230:=()
def tw3624264241289756019:=()
def tw4458264067842514316:=()
def tw3188394082864479062:=()
def tw5639758736261155569:=()
def tw15241429996665696317:=()
def tw14745111265147602368:=()
def tw13478941380685634940:=()
def tw3884382252900568006:=()
def tw5625287649651050306:=()
def tw6036283446661502621:=()
def tw6014634583224500946:=()
def tw6540531357620543657:=()
def tw16562075739149963371:=()
def tw1971545413398718804:=()
def tw8623124319287977544:=()
def tw9096780117042830917:=()
def tw2708171879383109708:=()
def tw16984434866029999184:=()
def tw15208572299369792421:=()
def tw15131860506555465598:=()
def tw13059306953833493645:=()
def tw10879173374342806170:=()
def tw14389275176057940971:=()
def tw3756539898994674065:=()
def tw8666246832072407890:=()
def tw4333920405919738602:=()
def tw14382295902468959424:=()
def tw12372765383889259751:=()
def tw12197040827083755865:=()
def tw7032394958079112863:=()
def tw13963215843859559577:=()
def tw12200326895258840416:=()
def tw7108924083335769825:=()
def tw7911441195788193235:=()
def tw13973486343583360804:=()
def tw15723065254454728969:=()
def tw5104738806695109225:=()
def tw3816302106592234007:=()
def tw1658953857311760600:=()
def tw7200272773502257157:=()
def tw11481677868166295434:=()
def tw11616997823276594467:=()
def tw16882046787623782782:=()
def tw14634541578101494036:=()
def tw6397222594280927359:=()
def tw12141262593708428399:=()
def tw18358677491955930047:=()
def tw10054910863571835117:=()
def tw6418361663075191785:=()
def tw9203388864659018370:=()
def tw8810141429523133528:=()
def tw15841079574007218923:=()
def tw12595873152867135543:=()
def tw16663653632981172746:=()
def tw7037528661921258077:=()
def tw3600925189703968916:=()
def tw4086509046908900187:=()
def tw5410509912180847743:=()
def tw10449580493322261362:=()
def tw10113845443587689230:=()
def tw12471042874277080460:=()
def tw586804115544257046:=()
def tw9558794830632345283:=()
def tw1044655296065401567:=()
def tw3398834709951281042:=()
def tw12907386084379137795:=()
def tw2936234787432289470:=()
def tw3874520467891110420:=()
def tw525971470115757067:=()
def tw14651952195257668292:=()
def tw5805502006805661361:=()
def tw17753203153631034252:=()
def tw11063858115742720197:=()
def tw12685388897411702889:=()
def tw8883049234866484980:=()
def tw4632346296989026640:=()
def tw10637818682998045779:=()
def tw5917537261905176267:=()
def tw4514512421851391637:=()
def tw5138356746693514719:=()
def tw11605345986380728422:=()
def tw400944669762528888:=()
def tw12692408063342924892:=()
def tw12647318050191744074:=()
def tw5039214831858966462:=()
def tw9685765783247798522:=()
def tw12240877988727783844:=()
def tw7075210326975664139:=()
def tw6822409465513943843:=()
def tw12328331489373914987:=()
def tw11367779081595771951:=()
def tw210645581982396010:=()
def tw7842794449681155439:=()
def tw13934789590619214234:=()
def tw7079528560719534341:=()
def tw17487602235857215090:=()
def tw7502852968697095072:=()
def tw17268243902132376115:=()
def tw6154642833818253129:=()
def tw2881902045938903503:=()
def tw13920153692042064816:=()
def tw17836333406921437856:=()
def tw3205676343164735224:=()
def tw7378425354402094956:=()
def tw16160938643949500504:=()
def tw16336959851100943886:=()
def tw2868019797109414718:=()
def tw12181388951471801381:=()
def tw12466534041221632946:=()
def tw6321179015831978842:=()
def tw11088504067026857954:=()
def tw8550515345414565219:=()
def tw18246113828788256490:=()
def tw2952362210545254292:=()
def tw17860880058210710188:=()
def tw6953589666583961320:=()
def tw6036302949708154719:=()
def tw14645749149500942025:=()
def tw10160011163247302761:=()
def tw13475388862813695799:=()
def tw12213521278726134248:=()
def tw17374349757283529775:=()
def tw4378658815297709557:=()
def tw2558840291992194368:=()
def tw16891183764524506240:=()
def tw6413189066678274212:=()
def tw5290989185559939605:=()
def tw13626568800970712059:=()
def tw12278195169548521737:=()
def tw3564404575147769195:=()
def tw5987493238267693818:=()
def tw5173919578937119372:=()
def tw46224370140191967:=()
def tw5202383815923785959:=()
def tw8642827653705024020:=()
def tw17667301554765466484:=()
def tw8788921279650982912:=()
def tw3485346367658108272:=()
def tw2114008988788271589:=()
def tw7232709416237188031:=()
def tw13345645981418387143:=()
def tw6634358634604770029:=()
def tw15082410005035665159:=()
def tw12659107314038307973:=()
def tw999275280649841535:=()
def tw15349930857767991009:=()
def tw9041440240132181616:=()
def tw982006725779431657:=()
def tw7399341844191666287:=()
def tw12528139996466714651:=()
def tw11085482920133638389:=()
def tw449310845946136520:=()
def tw15434710845098646852:=()
def tw3935434830479178200:=()
def tw8945083544209188389:=()
def tw16934295777651943576:=()
def tw8124182935360926031:=()
def tw6837374999929337066:=()
def tw6379177939311359989:=()
def tw14631841913879672321:=()
def tw3618160047180383214:=()
def tw17593978262030354090:=()
def tw3108107092393718526:=()
def tw4361573160320953596:=()
def tw17425411619121596226:=()
def tw6640155817581486254:=()
def tw5944349999090963619:=()
def tw16628450899191655550:=()
def tw13045142667597522881:=()
def tw14616267549727957713:=()
def tw10190707999267220566:=()
def tw8562759155877889727:=()
def tw17933788560943765188:=()
def tw7526235831598362943:=()
def tw1072620967513370280:=()
def tw4181693299192907236:=()
def tw3684981166264870194:=()
def tw12731372212958832715:=()
def tw8079209005027497918:=()
def tw2942601843338007012:=()
def tw5769006507599237805:=()
def tw15889496020027019946:=()
def tw17795102446035739955:=()
def tw12263594940633082477:=()
def tw14300548548658947192:=()
def tw5897749021028517834:=()
def tw8992502551212198116:=()
def tw8156070049872224261:=()
def tw2077090889753429065:=()
def tw3397769522203190995:=()
def tw39429146193214080:=()
def tw11220310661829652531:=()
def tw12799951023324160931:=()
def tw5312576680788733647:=()
def tw18056189660822981220:=()
def tw664078646196459556:=()
def tw10180891326482618068:=()
end PySem.W.Fast
set_option maxRecDepth 100000 in
set_option maxHeartbeats 0 in
theorem PySem.Challenge.cw_compasshall_k17_papers_looked_at_holds : PySem.Challenge.rw_compasshall_k17_papers_looked_at.Holds := by
  w_on; o_law; k_head; (case hw => w_witness2)
  k_fill
  refine K17.walk (l := PySem.Challenge.rw_compasshall_k17_papers_looked_at) rfl rfl (fun w h Y => kIn_of Y) ?F
  case F =>
    intro w mg fa h KX G hmg
    refine' K17.all_mk KX G hmg ?q0 ?q1 ?q2 ?q3 ?q4 ?q5 ?q6 ?q7 ?q8 ?q9 ?q10 ?q11 ?q12 ?q13 ?q14 ?q15 ?q16 ?q17 ?q18 ?q19 ?q20 ?q21 ?q22 ?q23 ?q24 ?q25 ?q26 ?q27 ?q28 ?q29 ?q30 ?q31 ?q32 ?q33 ?q34 ?q35 ?q36 ?q37 ?q38 ?q39 ?q40 ?q41 ?q42 ?q43 ?q44 ?q45 ?q46 ?q47 ?q48 ?q49 ?q50 ?q51 ?q52 ?q53 ?q54 ?q55 ?q56 ?q57 ?q58 ?q59 ?q60 ?q61 ?q62 ?q63 ?q64 ?q65 ?q66 ?q67 ?q68 ?q69 ?q70 ?q71 ?q72 ?q73 ?q74 ?q75 ?q76 ?q77 ?q78 ?q79 ?q80 ?q81 ?q82 ?q83 ?q84 ?q85 ?q86 ?q87 ?q88 ?q89 ?q90 ?q91 ?q92 ?q93 ?q94 ?q95 ?q96 ?q97 ?q98 ?q99 ?q100 ?q101 ?q102 ?q103 ?q104 ?q105 ?q106 ?q107 ?q108 ?q109 ?q110 ?q111 ?q112 ?q113 ?q114 ?q115 ?q116 ?q117 ?q118
    case q0 | q1 => k_is
    case q2 => k_exc
    case q3 => k_is
    case q4 => k_exc
    case q5 | q6 | q7 | q8 | q9 | q10 | q11 | q12 | q13 | q14 | q15 | q16 | q17 | q18 | q19 | q20 | q21 | q22 | q23 | q24 | q25 | q26 | q27 | q28 | q29 | q30 | q31 | q32 | q33 | q34 | q35 | q36 | q37 | q38 | q39 | q40 | q41 | q42 | q43 | q44 | q45 | q46 | q47 | q48 | q49 | q50 | q51 | q52 | q53 | q54 | q55 | q56 | q57 | q58 | q59 | q60 | q61 | q62 | q63 | q64 | q65 | q66 | q67 | q68 | q69 => (refine' DL.lk_mk ?a ?b ?c ?d; (case a => k_is); (case b => k_is); (case c => k_is); (case d => k_is))
    case q70 | q71 | q72 | q73 | q74 | q75 | q76 | q77 | q78 | q79 | q80 | q81 | q82 | q83 | q84 | q85 | q86 | q87 | q88 | q89 | q90 => k_is
    case q91 | q92 | q93 | q94 | q95 | q96 | q97 | q98 | q99 | q100 | q101 | q102 | q103 | q104 | q105 | q106 | q107 | q108 | q109 | q110 | q111 | q112 | q113 | q114 | q115 | q116 | q117 | q118 => kit_is
