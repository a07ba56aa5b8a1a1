import PyProof.Rows.All
import Wide.All
import OpenK.AllK
import Wide.FinOn
import Lean
import PyProof.EqAt
import PyProof.EqKinds
import PyProof.TupleCall
import PySem.Challenge.RW_compasshall_k40_least_equations
noncomputable section
set_option Elab.async false
set_option linter.all false
set_option maxRecDepth 100000
namespace L2
open PySem PySem.Spec PyProof.Rows
abbrev Key:=Sum Int Str
noncomputable def keyIs:Key->Value->Bool
 | .inl k,v=>Value.isInt k v
 | .inr x,v=>Value.isStrOf x v
noncomputable def keyH (w:World):Key->Int
 | .inl k=>hashInt k
 | .inr x=>hashStr w x
theorem aQ':∀{k:Key} {v:Value},keyIs k v=true->(∃i t,k=Sum.inl i/\v=Value.int i t)\/(∃x t,k=Sum.inr x/\v=Value.str x t)
 | .inl i,v,h=>by
  obtain ⟨t,e⟩:=Value.isInt_shape (k:=i) (v:=v) h;exact .inl ⟨i,t,rfl,e⟩
 | .inr x,v,h=>by
  obtain ⟨t,e⟩:=Value.isStrOf_shape (x:=x) (v:=v) h;exact .inr ⟨x,t,rfl,e⟩
theorem ly' (a b:Int):decide ((Sum.inl a:Key)=Sum.inl b)=(a == b):=by
 by_cases e:a=b
 ·subst e; simp
 ·have h:¬(Sum.inl a:Key)=Sum.inl b:=fun q=>e (Sum.inl.inj q);rw [decide_eq_false h];exact (beq_eq_false_iff_ne.mpr e).symm
theorem lz' (a b:Str):decide ((Sum.inr a:Key)=Sum.inr b)=decide (a=b):=by
 by_cases e:a=b
 ·subst e; simp
 ·have h:¬(Sum.inr a:Key)=Sum.inr b:=fun q=>e (Sum.inr.inj q);rw [decide_eq_false h,decide_eq_false e]
theorem lA' (a:Int) (b:Str):decide ((Sum.inl a:Key)=Sum.inr b)=false:=decide_eq_false (fun q=>nomatch q)
theorem lB' (a:Str) (b:Int):decide ((Sum.inr a:Key)=Sum.inl b)=false:=decide_eq_false (fun q=>nomatch q)
noncomputable def mixKind (prog:Program) (w:World):PySem.KeyKind prog w Key where
 is:=keyIs
 hash:=keyH w
 inj:=fun v a b ha hb=>by
  rcases aQ' ha with ⟨i,t,rfl,rfl⟩ | ⟨x,t,rfl,rfl⟩
  ·rcases aQ' hb with ⟨j,u,rfl,e⟩ | ⟨y,u,rfl,e⟩
   ·injection e with e1 _; rw [e1]
   ·exact nomatch e
  ·rcases aQ' hb with ⟨j,u,rfl,e⟩ | ⟨y,u,rfl,e⟩
   ·exact nomatch e
   ·injection e with e1 _; rw [e1]
 byValue:=fun k v h=>by
  rcases aQ' h with ⟨i,t,rfl,rfl⟩ | ⟨x,t,rfl,rfl⟩ <;> rfl
 pyHash:=fun hv h=>by
  rcases aQ' hv with ⟨i,t,rfl,rfl⟩ | ⟨x,t,rfl,rfl⟩
  ·exact wpAny_pyHash_int h
  ·exact wpAny_pyHash_str h
 eqBool:=fun hu hv h=>by
  rcases aQ' hu with ⟨i,t,rfl,rfl⟩ | ⟨x,t,rfl,rfl⟩
  ·rcases aQ' hv with ⟨j,u,rfl,rfl⟩ | ⟨y,u,rfl,rfl⟩
   ·rw [ly'] at h; exact wpAny_eqBool_int h
   ·rw [lA'] at h; exact SeqAt.EqAt.int_str i t y u _ _ _ _ h
  ·rcases aQ' hv with ⟨j,u,rfl,rfl⟩ | ⟨y,u,rfl,rfl⟩
   ·rw [lB'] at h; exact SeqAt.EqAt.str_int x t j u _ _ _ _ h
   ·rw [lz'] at h; exact wpAny_eqBool_str h
 «strs»:=fun k x t v h=>by
  rcases aQ' h with ⟨i,u,rfl,e⟩ | ⟨y,u,rfl,e⟩
  ·exact nomatch e
  ·injection e with e1 _
   subst e1
   cases v <;> rfl
inductive V where
 | non | bl (b:Bool) | int (i:Int) | str (x:Str) | byt (b:Array UInt8) | flt (b:UInt64) | ref (a:Addr) | ty (n:String)
 deriving DecidableEq
noncomputable def RelV:V->Value->Prop
 | .non,u=>u=Value.none
 | .bl b,u=>u=Value.bool b
 | .int i,u=>∃t,u=Value.int i t
 | .str x,u=>∃t,u=Value.str x t
 | .byt b,u=>∃t,u=Value.bytes b t
 | .flt b,u=>∃t,u=Value.float b t
 | .ref a,u=>u=Value.ref a
 | .ty n,u=>u=Value.type n
abbrev Vals:List V->List Value->Prop:=Paired RelV
theorem Vals.length {xs:List V} {us:List Value} (r:Vals xs us):xs.length=us.length:=Paired.length r
theorem Vals.get:∀{xs:List V} {us:List Value} {i:Nat} {x:V},Vals xs us->xs[i]? = some x->∃u,us[i]? = some u/\RelV x u
 | _,_,_,_,.nil,e=>by simp at e
 | _,_,0,_,.cons r _,e=>by simp at e; subst e; exact ⟨_,rfl,r⟩
 | _,_,i + 1,x,.cons _ t,e=>by
  obtain ⟨u,h1,h2⟩:=Vals.get (i:=i) (x:=x) t (by simpa using e);exact ⟨u,by simpa using h1,h2⟩
theorem Vals.set {x:V} {u:Value} (r:RelV x u):∀{xs:List V} {us:List Value} (i:Nat),Vals xs us->Vals (xs.set i x) (us.set i u)
 | _,_,_,.nil=>.nil
 | _,_,0,.cons _ t=>.cons r t
 | _,_,i + 1,.cons q t=>.cons q (Vals.set r i t)
theorem Vals.append:∀{xs ys:List V} {us ws:List Value},Vals xs us->Vals ys ws->Vals (xs ++ ys) (us ++ ws)
 | _,_,_,_,.nil,s=>s
 | _,_,_,_,.cons r t,s=>.cons r (Vals.append t s)
theorem Vals.take:∀{xs:List V} {us:List Value} (n:Nat),Vals xs us->Vals (xs.take n) (us.take n)
 | _,_,0,_=>.nil
 | _,_,_ + 1,.nil=>.nil
 | _,_,n + 1,.cons r t=>.cons r (Vals.take n t)
theorem Vals.drop:∀{xs:List V} {us:List Value} (n:Nat),Vals xs us->Vals (xs.drop n) (us.drop n)
 | _,_,0,r=>r
 | _,_,_ + 1,.nil=>.nil
 | _,_,n + 1,.cons _ t=>Vals.drop n t
noncomputable def RelO:Option V->Option Value->Prop
 | some v,some u=>RelV v u
 | none,none=>True
 | _,_=>False
noncomputable def KV {κ:Type}:List (κ×V)->List (κ×Value)->Prop:=Paired fun (p:κ×V) (q:κ×Value)=>p.1=q.1/\RelV p.2 q.2
noncomputable def kV:Key->V
 | .inl i=>.int i
 | .inr x=>.str x
inductive HO where
 | lst (xs:List V)
 | tup (xs:List V)
 | dK (kvs:List (Key×V)) | dT (kvs:List (List Key×V))
 | set (S:Int->Bool) (n:Nat)
 | ins (C dx:Addr) (fs:List (Str×V))
 | own (x:Addr)
 | xd (fs:List (Str×V))
 | met (f x:Addr)
 | rng (lo hi:Int)
 | frz (o:Obj) (u:HO)
 | tbl (ps:Array Value)
 | ext (φ:Heap->Prop)
abbrev Hp:=Addr->Option HO
noncomputable def upd (H:Hp) (a:Addr) (o:HO):Hp:=fun b=>if b=a then some o else H b
theorem aq' {H:Hp} {a:Addr} {o:HO}:upd H a o a=some o:=by unfold upd; rw [if_pos rfl]
theorem am' {H:Hp} {a b:Addr} {o:HO} (h:b≠a):upd H a o b=H b:=by unfold upd; rw [if_neg h]
theorem aO' {H:Hp} {a b:Addr} {o:HO} (h:H a=some o) (h':H b=none):a≠b:=by
 intro e; subst e; rw [h] at h'; cases h'
section
variable (P:Program) (w:World)
noncomputable def ObjOk (H:Hp) (h:Heap) (a:Addr):HO->Prop
 | .lst xs=>xs.length<=sizeLine/\∃(its:List Value) (n:Nat),Vals xs its/\h.get? a=some { cls:=.type "list",data:=.seq its.toArray n }
 | .tup xs=>xs.length<=sizeLine/\∃its:List Value,Vals xs its/\IsTup h a its.toArray
 | .dK kvs=>kvs.length<=sizeLine/\(a == sysModules)=false/\∃vs,KV kvs vs/\h.DictOf (mixKind P w) a vs
 | .dT kvs=>kvs.length<=sizeLine/\(a == sysModules)=false/\∃xs:List (List Key×Addr×Value),
   Paired (fun (p:List Key×V) (q:List Key×Addr×Value)=>p.1=q.1/\H q.2.1=some (.tup (p.1.map kV))/\RelV p.2 q.2.2) kvs xs /\
   ∃o es ep,h.get? a=some o/\o.ExactDict/\o.data=.dict es ep/\es.toList=xs.map (entryOfKey (tupleKind (mixKind P w)))/\(xs.map (·.1)).Nodup
 | .set S n=>h.SetOf (intKind P w) a S n
 | .ins C dx fs=>H dx=some (.own a)/\fs.length<=1000/\dx≠a/\h.get? a=some (PySem.W.instObj C dx) /\
   ∃mA,h.Ns1 dx mA/\(∀f,RelO (fs.lookup f) (mA f))/\PySem.Within mA (fs.map (·.1))
 | .own _=>∃o,h.get? a=some o
 | .xd fs=>∃mA,h.Ns1 a mA/\∀f,RelO (fs.lookup f) (mA f)
 | .rng lo hi=>∃t u v,h.get? a=some { cls:=.type "range",data:=.fields #[.int lo t,.int hi u,.int 1 v] }
 | .frz o u=>h.get? a=some o/\ObjOk H h a u
 | .tbl ps=>h.get? a=some { cls:=.none,data:=.fields ps }
 | .met f x=>h.get? a=some (PySem.W.methodObj (.ref f) (.ref x))
 | .ext φ=>φ h/\(∃o,h.get? a=some o)/\∀h1 h2:Heap,φ h1->(∀o,h1.get? a=some o->h2.get? a=some o)->φ h2
noncomputable def HOk (H:Hp) (h:Heap):Prop:=∀a o,H a=some o->ObjOk P w H h a o
end
section
variable {P:Program} {w:World} {H H':Hp} {h h':Heap} {a:Addr} {o:HO}
theorem ObjOk.lt (x:ObjOk P w H h a o):a < h.objs.size:=by
 cases o with
 | lst xs=>obtain ⟨_,_,_,_,e⟩:=x; exact Heap.lt_size e
 | tup xs=>obtain ⟨_,_,_,p⟩:=x; exact p.lt
 | dK kvs=>obtain ⟨_,_,_,_,o,_,_,e,_⟩:=x; exact Heap.lt_size e
 | dT kvs=>obtain ⟨_,_,_,_,o,_,_,e,_⟩:=x; exact Heap.lt_size e
 | set S n=>obtain ⟨o,_,_,_,e,_⟩:=x; exact Heap.lt_size e
 | ins C dx fs=>obtain ⟨_,_,_,e,_⟩:=x; exact Heap.lt_size e
 | own y=>obtain ⟨_,e⟩:=x; exact Heap.lt_size e
 | xd fs=>obtain ⟨_,⟨_,_,_,e,_⟩,_⟩:=x; exact Heap.lt_size e
 | rng lo hi=>obtain ⟨_,_,_,e⟩:=x; exact Heap.lt_size e
 | frz ob u=>obtain ⟨e,_⟩:=x; exact Heap.lt_size e
 | tbl ps=>exact Heap.lt_size (show h.get? a=some _ from x)
 | met f y=>exact Heap.lt_size (show h.get? a=some _ from x)
 | ext φ=>obtain ⟨_,⟨_,e⟩,_⟩:=x; exact Heap.lt_size e
theorem Paired.mapP {α β:Type} {F G:α->β->Prop}:∀{l₁:List α} {l₂:List β},Paired F l₁ l₂->(∀a b,F a b->G a b)->Paired G l₁ l₂
 | _,_,.nil,_=>.nil
 | _,_,.cons r t,f=>.cons (f _ _ r) (Paired.mapP t f)
theorem ObjOk.stay (x:ObjOk P w H h a o) (k:∀b u,(b=a\/H b=some (.own a))->h.get? b=some u->h'.get? b=some u)
  (ho:∀b,H b=some (.own a)->H' b=some (.own a)) (ht:∀b xs,H b=some (.tup xs)->H' b=some (.tup xs)):ObjOk P w H' h' a o:=by
 induction o with
 | lst xs=>obtain ⟨z,its,n,r,e⟩:=x; exact ⟨z,its,n,r,k _ _ (.inl rfl) e⟩
 | tup xs=>obtain ⟨z,its,r,ob,e,c⟩:=x; exact ⟨z,its,r,ob,k _ _ (.inl rfl) e,c⟩
 | dK kvs=>obtain ⟨z,y,vs,r,ob,es,ep,e,c⟩:=x; exact ⟨z,y,vs,r,ob,es,ep,k _ _ (.inl rfl) e,c⟩
 | dT kvs =>
  obtain ⟨z,y,xs,r,ob,es,ep,e,c⟩:=x;exact ⟨z,y,xs,Paired.mapP r fun p q z=>⟨z.1,ht _ _ z.2.1,z.2.2⟩,ob,es,ep,k _ _ (.inl rfl) e,c⟩
 | set S n=>obtain ⟨ob,es,ep,t,e,c⟩:=x; exact ⟨ob,es,ep,t,k _ _ (.inl rfl) e,c⟩
 | ins C dx fs =>
  obtain ⟨d,z,ne,e,mA,⟨od,es,ep,e2,c⟩,r⟩:=x;exact ⟨ho _ d,z,ne,k _ _ (.inl rfl) e,mA,⟨od,es,ep,k _ _ (.inr d) e2,c⟩,r⟩
 | own y=>obtain ⟨ob,e⟩:=x; exact ⟨ob,k _ _ (.inl rfl) e⟩
 | xd fs=>obtain ⟨mA,⟨od,es,ep,e,c⟩,r⟩:=x; exact ⟨mA,⟨od,es,ep,k _ _ (.inl rfl) e,c⟩,r⟩
 | rng lo hi=>obtain ⟨t,u,v,e⟩:=x; exact ⟨t,u,v,k _ _ (.inl rfl) e⟩
 | frz ob u ih=>obtain ⟨e,q⟩:=x; exact ⟨k _ _ (.inl rfl) e,ih q⟩
 | tbl ps =>
  have e:h.get? a=some { cls:=.none,data:=.fields ps }:=x;show h'.get? a=some { cls:=.none,data:=.fields ps };exact k a _ (.inl rfl) e
 | met f y =>
  have e:h.get? a=some (PySem.W.methodObj (.ref f) (.ref y)):=x;show h'.get? a=some (PySem.W.methodObj (.ref f) (.ref y));exact k a _ (.inl rfl) e
 | ext φ=>obtain ⟨p,⟨o,e⟩,st⟩:=x; exact ⟨st _ _ p fun o q=>k _ _ (.inl rfl) q,⟨o,k _ _ (.inl rfl) e⟩,st⟩
theorem HOk.lt (x:HOk P w H h) (e:H a=some o):a < h.objs.size:=(x a o e).lt
theorem HOk.fresh (x:HOk P w H h) (e:h.objs.size<=a):H a=none:=by
 cases q:H a with
 | none=>rfl
 | some u=>exact absurd (Nat.lt_of_lt_of_le (x.lt q) e) (Nat.lt_irrefl _)
theorem HOk.kept (x:HOk P w H h) (k:∀b u,h.get? b=some u->h'.get? b=some u):HOk P w H h':=fun a o e =>
 (x a o e).stay (fun b u _ q=>k b u q) (fun _ q=>q) fun _ _ q=>q
theorem HOk.laid (x:HOk P w H h) (k:∀b u,h.get? b=some u->h'.get? b=some u) (hp:h.objs.size<=a) (new:ObjOk P w (upd H a o) h' a o):HOk P w (upd H a o) h':=fun b u e=>by
 have hn:=x.fresh hp
 by_cases hb:b=a
 ·subst hb; rw [aq'] at e; cases e; exact new
 ·rw [am' hb] at e;exact (x b u e).stay (fun c v _ q=>k c v q) (fun c q=>by rw [am' (aO' q hn)]; exact q) fun c xs q=>by rw [am' (aO' q hn)]; exact q
end
noncomputable def Rd (H:Hp) (a:Addr) (u:HO):Prop:=H a=some u\/∃o,H a=some (.frz o u)
theorem Rd.of {H:Hp} {a:Addr} {u:HO} (h:H a=some u):Rd H a u:=.inl h
theorem Rd.ok {P:Program} {w:World} {H:Hp} {h:Heap} {a:Addr} {u:HO} (r:Rd H a u) (x:HOk P w H h):ObjOk P w H h a u:=by
 rcases r with r | ⟨o,r⟩
 ·exact x a u r
 ·obtain ⟨_,q⟩:=x a _ r;exact q
noncomputable def Mut:Option HO->Prop
 | some (.lst _)=>True
 | some (.dK _)=>True
 | some (.dT _)=>True
 | some (.set _ _)=>True
 | some (.ins _ _ _)=>True
 | some (.ext _)=>True
 | _=>False
section
variable {P:Program} {w:World} {H:Hp} {h h':Heap} {x e:Addr} {o':HO}
theorem HOk.write (ok:HOk P w H h) (mu:Mut (H x)) (he:e=x\/H e=some (.own x)) (k:∀b u,b≠e->h.get? b=some u->h'.get? b=some u) (heo:∃u,h'.get? e=some u)
  (new:ObjOk P w (upd H x o') h' x o'):HOk P w (upd H x o') h':=fun b u q=>by
 have nown:∀c y,H c=some (.own y)->c≠x:=fun c y r z=>by subst z; rw [r] at mu; exact mu
 have ntup:∀c xs,H c=some (.tup xs)->c≠x:=fun c xs r z=>by subst z; rw [r] at mu; exact mu
 by_cases hb:b=x
 ·subst hb; rw [aq'] at q; cases q; exact new
 ·rw [am' hb] at q
  by_cases hbe:b=e
  ·have q':H b=some (.own x):=by
    rcases he with z | z
    ·exact absurd (hbe.trans z) hb
    ·rw [hbe]; exact z
   rw [q] at q'; cases q';obtain ⟨v,hv⟩:=heo;exact ⟨v,by rw [hbe]; exact hv⟩
  ·refine (ok b u q).stay (fun c v hc r=>k c v ?_ r) (fun c r=>by rw [am' (nown c b r)]; exact r) fun c xs r=>by rw [am' (ntup c xs r)]; exact r
   rcases hc with rfl | hc
   ·exact hbe
   ·rintro rfl
    rcases he with z | z
    ·exact nown c b hc z
    ·rw [hc] at z; cases z; exact hb rfl
end
structure Un (fs ex:List Addr) (H H':Hp) (h h':Heap):Prop where
 keep:∀b o,h.get? b=some o->H b=none->b∉fs->b∉ex->h'.get? b=some o
 slot:∀b o,h.get? b=some o->H b=none->b∈fs->b∉ex->∃sl,h'.get? b=some { o with slots:=sl }
 free:∀b o,h.get? b=some o->H b=none->b∉ex->H' b=none
 there:∀b o,h.get? b=some o->b∉ex->∃o',h'.get? b=some o'
 tups:∀b xs,H b=some (.tup xs)->H' b=some (.tup xs)
 frzs:∀b o u,H b=some (.frz o u)->H' b=some (.frz o u)
 tbls:∀b ps,H b=some (.tbl ps)->∃more,H' b=some (.tbl (ps ++ more))
section
variable {fs fs' ex ex':List Addr} {H H1 H2:Hp} {h h1 h2 h':Heap} {a x e:Addr} {o:HO}
theorem Un.any (u:Un fs ex H H1 h h1) {b:Addr} {ob:Obj} (q:h.get? b=some ob) (n:H b=none) (hx:b∉ex):∃sl,h1.get? b=some { ob with slots:=sl }:=by
 by_cases hb:b∈fs
 ·exact u.slot b ob q n hb hx
 ·exact ⟨ob.slots,u.keep b ob q n hb hx⟩
theorem Un.trans (a:Un fs ex H H1 h h1) (b:Un fs ex H1 H2 h1 h2):Un fs ex H H2 h h2 where
 keep:=fun c ob q n hc hx=>b.keep c ob (a.keep c ob q n hc hx) (a.free c ob q n hx) hc hx
 slot:=fun c ob q n hc hx=>by
  obtain ⟨sl,e1⟩:=a.slot c ob q n hc hx;obtain ⟨sl',e2⟩:=b.slot c _ e1 (a.free c ob q n hx) hc hx;exact ⟨sl',e2⟩
 free:=fun c ob q n hx=>by
  obtain ⟨o',e1⟩:=a.there c ob q hx;exact b.free c o' e1 (a.free c ob q n hx) hx
 there:=fun c ob q hx=>by
  obtain ⟨o',e1⟩:=a.there c ob q hx;exact b.there c o' e1 hx
 tups:=fun c xs q=>b.tups c xs (a.tups c xs q)
 frzs:=fun c ob xs q=>b.frzs c ob xs (a.frzs c ob xs q)
 tbls:=fun c ps q=>by
  obtain ⟨m1,e1⟩:=a.tbls c ps q;obtain ⟨m2,e2⟩:=b.tbls c _ e1;exact ⟨m1 ++ m2,by rw [e2,Array.append_assoc]⟩
theorem Un.kept (k:∀b u,h.get? b=some u->h'.get? b=some u):Un fs ex H H h h' :=
 ⟨fun b ob q _ _ _=>k b ob q,fun b ob q _ _ _=>⟨ob.slots,k b ob q⟩,fun _ _ _ n _=>n,fun b ob q _=>⟨ob,k b ob q⟩,fun _ _ q=>q,fun _ _ _ q=>q,fun _ ps q=>⟨#[],by rw [q]; simp⟩⟩
theorem Un.refl:Un fs ex H H h h:=Un.kept fun _ _ q=>q
theorem Un.laid (k:∀b u,h.get? b=some u->h'.get? b=some u) (hp:h.objs.size<=a) (hn:H a=none):Un fs ex H (upd H a o) h h' where
 keep:=fun b u q _ _ _=>k b u q
 slot:=fun b u q _ _ _=>⟨u.slots,k b u q⟩
 free:=fun b u q n _=>by rw [am' (Nat.ne_of_lt (Nat.lt_of_lt_of_le (Heap.lt_size q) hp))]; exact n
 there:=fun b u q _=>⟨u,k b u q⟩
 tups:=fun b xs q=>by rw [am' (aO' q hn)]; exact q
 frzs:=fun b u xs q=>by rw [am' (aO' q hn)]; exact q
 tbls:=fun b ps q=>⟨#[],by rw [am' (aO' q hn),q]; simp⟩
theorem Un.write (mu:Mut (H x)) (he:e=x\/H e=some (.own x)) (k:∀b u,b≠e->h.get? b=some u->h'.get? b=some u) (heo:∃u,h'.get? e=some u):Un fs ex H (upd H x o) h h':=by
 have hx:∀b,H b=none->b≠x:=fun b n z=>by subst z; rw [n] at mu; exact mu
 have hb:∀b,H b=none->b≠e:=fun b n z=>by
  subst z;rcases he with r | r
  ·exact hx b n r
  ·rw [n] at r; cases r
 have hm:∀b u,H b=some u->¬Mut (some u)->b≠x:=fun b u q nm z=>by subst z; rw [q] at mu; exact nm mu
 refine ⟨fun b u q n _ _=>k b u (hb b n) q,fun b u q n _ _=>⟨u.slots,k b u (hb b n) q⟩,fun b u q n _=>by rw [am' (hx b n)]; exact n,fun b u q _=>?_,
  fun b xs q=>by rw [am' (hm b _ q fun z=>z)]; exact q,fun b u xs q=>by rw [am' (hm b _ q fun z=>z)]; exact q,fun b ps q=>⟨#[],by rw [am' (hm b _ q fun z=>z),q]; simp⟩⟩
 by_cases hbe:b=e
 ·subst hbe; exact heo
 ·exact ⟨u,k b u hbe q⟩
theorem Un.mono (u:Un fs ex H H1 h h1) (hs:∀b∈fs,b∈fs') (hx:∀b∈ex,b∈ex'):Un fs' ex' H H1 h h1 :=
 ⟨fun b ob q n hb he=>u.keep b ob q n (fun z=>hb (hs b z)) fun z=>he (hx b z),fun _ _ q n _ he=>u.any q n fun z=>he (hx _ z),fun b ob q n he=>u.free b ob q n fun z=>he (hx b z),fun b ob q he=>u.there b ob q fun z=>he (hx b z),u.tups,u.frzs,u.tbls⟩
end
noncomputable def trk (h:Heap) (H:Hp):List Addr:=(List.range h.objs.size).filter fun a=>(H a).isSome
noncomputable def hidT (h:Heap) (H:Hp):Heap:=PySem.W.hideAll h (trk h H)
theorem gz' (h:Heap) (H:Hp):(hidT h H).objs.size=h.objs.size:=PySem.W.hideAll_size _ _
theorem iu' {h:Heap} {H:Hp} {b:Addr} {o:Obj} (e:h.get? b=some o) (n:H b=none):(hidT h H).get? b=some o :=
 PySem.W.hideAll_get _ e fun hm=>by
  have q:(H b).isSome=true:=(List.mem_filter.mp hm).2;rw [n] at q; simp at q
theorem ki' {h:Heap} {H:Hp} {b:Addr} {o:Obj} (e:(hidT h H).get? b=some o):h.get? b=some o/\H b=none:=by
 have e':h.get? b=some o:=PySem.W.of_hideAll (trk h H) e;refine ⟨e',?_⟩
 cases q:H b with
 | none=>rfl
 | some x =>
  have hm:b∈trk h H:=List.mem_filter.mpr ⟨List.mem_range.mpr (Heap.lt_size e'),by simp [q]⟩;have z:(hidT h H).get? b=none:=PySem.W.hideAll_none (trk h H) hm;rw [z] at e; cases e
noncomputable def allNews (g h:Heap) (L:Addr):List (Addr×Obj):=(List.range h.objs.size).filterMap fun a=>if a=L\/(g.get? a).isSome=true then none else (h.get? a).map fun o=>(a,o)
noncomputable def rest (g h:Heap) (L d:Addr):List (Addr×Obj):=(allNews g h L).filter fun p=>decide (p.1≠d)
structure Mod (K:PySem.W.Frag) (mg:Str->Option Value) (base:Heap):Prop where
 kin:K.In base
 glob:base.Ns mainGlobals mg
 blt:∃mb,base.Ns builtinsNs mb/\∀x:Str,x≠"__name__"->mb x=bootBuiltins x
 nolimit:base.NoLimit
structure Cx where
 prog:Program
 w:World
 K:PySem.W.Frag
 mg:Str->Option Value
 base:Heap
 A:Around
 N:List Str
 s₀:Shared
 H₀:Hp
 env:Env
 outer:List Env
 stack:List Env
 ex:List Addr
 fn:Str->Bool
 calm:Bool
 pn:List (Addr×Obj)
 xe:Value->Shared->Prop
noncomputable def frs (l:List Env):List Addr:=l.filterMap (·.frame)
abbrev Cx.fs (X:Cx):List Addr:=frs X.outer
noncomputable def Vis (sc:Scope) (x:Str):Prop:=sc.names.lookup x=some .local\/sc.names.lookup x=some .cell\/sc.names.lookup x=some .free
noncomputable def Loc (sc:Scope) (x:Str):Prop:=sc.names.lookup x=some .local\/sc.names.lookup x=some .cell
noncomputable def Look (env:Env) (h:Heap) (m:Str->Option Value) (x:Str) (u:Value):Prop :=
 (env.kindOf x=some .local/\m x=some u)\/((env.kindOf x=some .cell\/env.kindOf x=some .free)/\∃c,env.cells.lookup x=some c/\h.IsCell c (some u))
structure Cx.Ok (X:Cx):Prop where
 mod:Mod X.K X.mg X.base
 kind:X.env.scope.kind=.function
 glob:X.env.globals=mainGlobals
 blt:X.env.builtins=builtinsNs
 above:X.s₀.heap.objs.size<=X.env.locals
 inj:∀x y c,X.env.cells.lookup x=some c->X.env.cells.lookup y=some c->x=y
 has:∀x,(X.env.kindOf x=some .cell\/X.env.kindOf x=some .free)->∃c,X.env.cells.lookup x=some c
 cab:∀x c,X.fn x=true->X.env.cells.lookup x=some c->X.s₀.heap.objs.size<=c
 hd:X.calm=true->X.A.handled=none
 frames:X.A.frames=some X.stack
 stk:X.stack=X.outer\/(X.stack=X.env :: X.outer/\X.env.frame=some X.env.locals)
 exf:∀b∈X.ex,b≠X.env.locals/\∀x c,X.env.cells.lookup x=some c->c≠b
 bs:∀b o,X.base.get? b=some o->X.s₀.heap.get? b=some o/\X.H₀ b=none
 bsz:X.base.objs.size<=X.s₀.heap.objs.size
 noex:∀b o,X.base.get? b=some o->b∉X.ex
 exfs:∀b∈X.ex,b∉X.fs
 funs:X.s₀.heap.FunFrames X.base X.outer
 frf:∀b∈X.fs,X.H₀ b=none
structure Inv (X:Cx) (pins:List (Addr×Obj)) (σ:List (Option V)) (H:Hp) (s:Shared):Prop where
 ok:X.Ok
 os:s.os=X.s₀.os
 bare:AllBare s.gens
 base:Un X.fs X.ex X.H₀ H X.s₀.heap s.heap
 loc:∃m,s.heap.Ns X.env.locals m/\∀(i:Nat) (x:Str) (v:V),X.N[i]? = some x->σ[i]? = some (some v)->Vis X.env.scope x->∃u,RelV v u/\Look X.env s.heap m x u
 cell:∀x c,X.env.cells.lookup x=some c->∃v,s.heap.IsCell c v
 free:H X.env.locals=none
 freeC:∀x c,X.env.cells.lookup x=some c->H c=none
 pin:∀p∈X.pn ++ pins,s.heap.get? p.1=some p.2/\H p.1=none/\p.1≠X.env.locals/\p.1∉X.fs/\∀v,p.2.data≠.cell v
 hok:HOk X.prog X.w H s.heap
 len:σ.length=X.N.length
section
variable {X:Cx} {pins:List (Addr×Obj)} {σ:List (Option V)} {H H':Hp} {s:Shared} {h':Heap}
theorem Cx.Ok.nofr (ok:X.Ok) {b:Addr} {o:Obj} (e:X.base.get? b=some o):b∉X.fs:=fun hb=>by
 have:=(ok.funs.mem hb).1;rw [e] at this; cases this
theorem Inv.bs (I:Inv X pins σ H s):∀b o,X.base.get? b=some o->s.heap.get? b=some o/\H b=none:=fun b o e =>
 ⟨I.base.keep b o (I.ok.bs b o e).1 (I.ok.bs b o e).2 (I.ok.nofr e) (I.ok.noex b o e),I.base.free b o (I.ok.bs b o e).1 (I.ok.bs b o e).2 (I.ok.noex b o e)⟩
theorem Inv.bk (I:Inv X pins σ H s):∀b o,X.base.get? b=some o->s.heap.get? b=some o:=fun b o e=>(I.bs b o e).1
theorem Inv.mod (I:Inv X pins σ H s):Mod X.K X.mg X.base:=I.ok.mod
theorem Inv.kIn (I:Inv X pins σ H s):X.K.In s.heap:=I.ok.mod.kin.keeps I.bk
theorem Inv.nolimit (I:Inv X pins σ H s):s.heap.NoLimit:=I.ok.mod.nolimit.keeps I.bk
theorem Inv.fr (I:Inv X pins σ H s):∃m,Fr X.base X.env.locals s.heap m :=
 let ⟨m,hn,_⟩:=I.loc
 ⟨m,hn,I.bk,Nat.le_trans I.ok.bsz I.ok.above⟩
theorem Inv.lt (I:Inv X pins σ H s):X.env.locals < s.heap.objs.size:=let ⟨_,hn,_⟩:=I.loc; hn.lt
theorem Inv.sz (I:Inv X pins σ H s):X.s₀.heap.objs.size<=s.heap.objs.size:=Nat.le_trans I.ok.above (Nat.le_of_lt I.lt)
theorem Inv.nofs (I:Inv X pins σ H s) {a:Addr} (h:s.heap.objs.size<=a):a∉X.fs:=fun hb=>by
 obtain ⟨_,o,ho,_⟩:=I.ok.funs.mem hb;exact absurd (Nat.lt_of_lt_of_le (Heap.lt_size ho) (Nat.le_trans I.sz h)) (Nat.lt_irrefl _)
theorem Inv.cne (I:Inv X pins σ H s):∀x c,X.env.cells.lookup x=some c->c≠X.env.locals:=fun x c e z=>by
 obtain ⟨v,o,ho,hd⟩:=I.cell x c e;obtain ⟨m,⟨o',es,ep,ho',hd',_⟩,_⟩:=I.loc;rw [z,ho'] at ho; cases ho; rw [hd'] at hd; cases hd
theorem Inv.funs (I:Inv X pins σ H s):s.heap.FunFrames X.base X.outer:=by
 have all:∀(l:List Env),(∀b∈frs l,b∈X.fs)->X.s₀.heap.FunFrames X.base l->s.heap.FunFrames X.base l:=by
  intro l
  induction l with
  | nil=>intro _ _; trivial
  | cons env r ih =>
   intro hs hl;obtain ⟨hk,⟨L,o,hf,hn,ho,hd⟩,hr⟩:=hl;have hL:L∈X.fs:=hs L (by unfold frs; rw [List.filterMap_cons,hf]; exact List.mem_cons_self);obtain ⟨sl,e⟩:=I.base.slot L o ho (I.ok.frf L hL) hL fun z=>I.ok.exfs L z hL;exact ⟨hk,⟨L,_,hf,hn,e,hd⟩,ih (fun b hb=>hs b (by unfold frs; rw [List.filterMap_cons,hf]; exact List.mem_cons_of_mem _ hb)) hr⟩
 exact all X.outer (fun _ hb=>hb) I.ok.funs
theorem Inv.stack (I:Inv X pins σ H s):s.heap.FunFrames X.base X.stack:=by
 rcases I.ok.stk with e | ⟨e,hf⟩
 ·rw [e]; exact I.funs
 ·rw [e];obtain ⟨m,hn,_⟩:=I.loc;refine .cons (by rw [I.ok.kind]; decide) hf hn ?_ I.funs;exact Heap.get?_none_of_le (Nat.le_trans I.ok.bsz I.ok.above)
theorem Inv.stkSub (I:Inv X pins σ H s):∀b∈frs X.stack,b∈X.env.locals :: X.fs:=fun b hb=>by
 rcases I.ok.stk with e | ⟨e,hf⟩
 ·rw [e] at hb; exact List.mem_cons_of_mem _ hb
 ·rw [e] at hb;unfold frs at hb;rw [List.filterMap_cons,hf] at hb;exact hb
theorem Inv.stkFree (I:Inv X pins σ H s):∀b∈frs X.stack,H b=none:=fun b hb=>by
 rcases List.mem_cons.mp (I.stkSub b hb) with e | hb
 ·rw [e]; exact I.free
 ·obtain ⟨_,o,ho,_⟩:=I.ok.funs.mem hb;exact I.base.free b o ho (I.ok.frf b hb) fun z=>I.ok.exfs b z hb
theorem Inv.step {g':Array GenState} {t':Nat} {d':Drawn} {ch:List Addr} (I:Inv X pins σ H s)
  (hch:∀b∈ch,(b∈X.ex\/X.s₀.heap.objs.size<=b)/\b≠X.env.locals/\(∀x c,X.env.cells.lookup x=some c->c≠b)/\∀p∈X.pn ++ pins,p.1≠b)
  (keep:∀b o,b≠X.env.locals->b∉X.fs->b∉ch->s.heap.get? b=some o->H b=none->h'.get? b=some o)
  (slot:∀b o,b≠X.env.locals->b∈X.fs->b∉ch->s.heap.get? b=some o->H b=none->∃sl,h'.get? b=some { o with slots:=sl }) (free:∀b o,b∉ch->s.heap.get? b=some o->H b=none->H' b=none)
  (there:∀b o,b∉ch->s.heap.get? b=some o->∃o',h'.get? b=some o')
  (tups:∀b xs,H b=some (.tup xs)->H' b=some (.tup xs)) (frzs:∀b o u,H b=some (.frz o u)->H' b=some (.frz o u)) (tbls:∀b ps,H b=some (.tbl ps)->∃more,H' b=some (.tbl (ps ++ more)))
  (ns:∀m,s.heap.Ns X.env.locals m->h'.Ns X.env.locals m) (hok:HOk X.prog X.w H' h') (hg:AllBare g') :
  Inv X pins σ H' { s with heap:=h',gens:=g',drawn:=d',toks:=t' }:=by
 have neL:∀b o,X.s₀.heap.get? b=some o->b≠X.env.locals:=fun b o e=>Nat.ne_of_lt (Nat.lt_of_lt_of_le (Heap.lt_size e) I.ok.above);have neC:∀b o,X.s₀.heap.get? b=some o->b∉X.ex->b∉ch:=fun b o e hx hb=>by
  rcases (hch b hb).1 with z | z
  ·exact hx z
  ·exact absurd (Nat.lt_of_lt_of_le (Heap.lt_size e) z) (Nat.lt_irrefl _)
 have cellK:∀x c,X.env.cells.lookup x=some c->∀v,s.heap.IsCell c v->h'.IsCell c v:=fun x c e v ⟨o,ho,hd⟩=>by
  have nch:c∉ch:=fun z=>(hch c z).2.2.1 x c e rfl
  by_cases hc:c∈X.fs
  ·obtain ⟨sl,q⟩:=slot c o (I.cne x c e) hc nch ho (I.freeC x c e);exact ⟨_,q,hd⟩
  ·exact ⟨o,keep c o (I.cne x c e) hc nch ho (I.freeC x c e),hd⟩
 refine ⟨I.ok,I.os,hg,⟨fun b o e n hb hx=>?_,fun b o e n hb hx=>?_,fun b o e n hx=>?_,fun b o e hx=>?_,fun b xs e=>tups b xs (I.base.tups b xs e),fun b o xs e=>frzs b o xs (I.base.frzs b o xs e),fun b ps e=>?_⟩,?_,fun x c e=>?_,?_,fun x c e=>?_,fun p hp=>?_,hok,I.len⟩
 ·exact keep b o (neL b o e) hb (neC b o e hx) (I.base.keep b o e n hb hx) (I.base.free b o e n hx)
 ·obtain ⟨sl,e1⟩:=I.base.slot b o e n hb hx;obtain ⟨sl',e2⟩:=slot b _ (neL b o e) hb (neC b o e hx) e1 (I.base.free b o e n hx);exact ⟨sl',e2⟩
 ·obtain ⟨o',e1⟩:=I.base.there b o e hx;exact free b o' (neC b o e hx) e1 (I.base.free b o e n hx)
 ·obtain ⟨o',e1⟩:=I.base.there b o e hx;exact there b o' (neC b o e hx) e1
 ·obtain ⟨m1,e1⟩:=I.base.tbls b ps e;obtain ⟨m2,e2⟩:=tbls b _ e1;exact ⟨m1 ++ m2,by rw [e2,Array.append_assoc]⟩
 ·obtain ⟨m,hn,hl⟩:=I.loc;refine ⟨m,ns m hn,fun i x v e1 e2 e3=>?_⟩;obtain ⟨u,r,l⟩:=hl i x v e1 e2 e3;refine ⟨u,r,?_⟩;rcases l with l | ⟨k,c,e,z⟩
  ·exact .inl l
  ·exact .inr ⟨k,c,e,cellK x c e _ z⟩
 ·obtain ⟨v,z⟩:=I.cell x c e;exact ⟨v,cellK x c e v z⟩
 ·obtain ⟨m,⟨o,_,_,ho,_⟩,_⟩:=I.loc;exact free _ o (fun z=>(hch _ z).2.1 rfl) ho I.free
 ·obtain ⟨v,o,ho,hd⟩:=I.cell x c e;exact free c o (fun z=>(hch c z).2.2.1 x c e rfl) ho (I.freeC x c e)
 ·obtain ⟨e,n,ne,nf,d⟩:=I.pin p hp;have nch:p.1∉ch:=fun z=>(hch p.1 z).2.2.2 p hp rfl;exact ⟨keep p.1 p.2 ne nf nch e n,free p.1 p.2 nch e n,ne,nf,d⟩
theorem Inv.un {t':Nat} (I:Inv X pins σ H s) (u:Un X.fs [] H H' s.heap h') (hok:HOk X.prog X.w H' h'):Inv X pins σ H' { s with heap:=h',toks:=t' }:=by
 obtain ⟨m,⟨o,es,ep,ho,r⟩,_⟩:=id I.loc;obtain ⟨sl,hL⟩:=u.any ho I.free (by simp);exact I.step (g':=s.gens) (d':=s.drawn) (ch:=[]) (fun _ z=>nomatch z) (fun b o _ hb _ e n=>u.keep b o e n hb (by simp)) (fun b o _ hb _ e n=>u.slot b o e n hb (by simp)) (fun b o _ e n=>u.free b o e n (by simp)) (fun b o _ e=>u.there b o e (by simp)) u.tups u.frzs u.tbls (fun m' hm=>by
  obtain ⟨o',es',ep',ho',r'⟩:=hm;rw [ho] at ho'; cases ho';exact ⟨_,es',ep',hL,r'⟩) hok I.bare
theorem Inv.call {g':Array GenState} {t':Nat} {d':Drawn} {ch:List Addr} (I:Inv X pins σ H s) (u:Un (frs X.stack) ch H H' s.heap h') (hok:HOk X.prog X.w H' h') (hg:AllBare g')
  (hch:∀b∈ch,(b∈X.ex\/X.s₀.heap.objs.size<=b)/\b≠X.env.locals/\(∀x c,X.env.cells.lookup x=some c->c≠b)/\∀p∈X.pn ++ pins,p.1≠b) :
  Inv X pins σ H' { s with heap:=h',gens:=g',drawn:=d',toks:=t' }:=by
 obtain ⟨m,⟨o,es,ep,ho,r⟩,_⟩:=id I.loc;obtain ⟨sl,hL⟩:=u.any ho I.free fun z=>(hch _ z).2.1 rfl;exact I.step (ch:=ch) hch (fun b o hL hb hc e n=>u.keep b o e n (fun z=>(List.mem_cons.mp (I.stkSub b z)).elim hL hb) hc) (fun b o _ _ hc e n=>u.any e n hc) (fun b o hc e n=>u.free b o e n hc) (fun b o hc e=>u.there b o e hc) u.tups u.frzs u.tbls (fun m' hm=>by
  obtain ⟨o',es',ep',ho',r'⟩:=hm;rw [ho] at ho'; cases ho';exact ⟨_,es',ep',hL,r'⟩) hok hg
theorem Inv.turned {t':Nat} {it:Addr} (I:Inv X pins σ H s) (k:∀b o,b≠it->s.heap.get? b=some o->h'.get? b=some o) (hn:H it=none) (hL:it≠X.env.locals)
  (h1:it∈X.ex\/X.s₀.heap.objs.size<=it) (h2:∀x c,X.env.cells.lookup x=some c->c≠it) (h3:∀p∈X.pn ++ pins,p.1≠it):Inv X pins σ H { s with heap:=h',toks:=t' }:=by
 have nit:∀b u,H b=some u->b≠it:=fun b u e z=>by rw [z,hn] at e; cases e
 refine I.step (g':=s.gens) (d':=s.drawn) (ch:=[it]) (fun b hb=>?_) (fun b o _ _ hc e _=>k b o (fun z=>hc (by simp [z])) e) (fun b o _ _ hc e _=>⟨o.slots,k b o (fun z=>hc (by simp [z])) e⟩) (fun _ _ _ _ n=>n)
  (fun b o hc e=>⟨o,k b o (fun z=>hc (by simp [z])) e⟩) (fun _ _ e=>e) (fun _ _ _ e=>e) (fun b ps e=>⟨#[],by rw [e]; simp⟩) (fun m hm=>?_) (fun b u e=>?_) I.bare
 ·have e:b=it:=by simpa using hb
  subst e;exact ⟨h1,hL,h2,h3⟩
 ·obtain ⟨o,es,ep,ho,r⟩:=hm;exact ⟨o,es,ep,k _ o (Ne.symm hL) ho,r⟩
 ·refine (I.hok b u e).stay (fun c v hc q=>k c v ?_ q) (fun _ q=>q) fun _ _ q=>q;rcases hc with z | z
  ·rw [z]; exact nit b u e
  ·exact nit c _ z
theorem Inv.tok (I:Inv X pins σ H s) (t:Nat):Inv X pins σ H { s with toks:=t }:=I.un (h':=s.heap) (t':=t) Un.refl I.hok
theorem Inv.kept {t':Nat} (I:Inv X pins σ H s) (k:∀b u,s.heap.get? b=some u->h'.get? b=some u):Inv X pins σ H { s with heap:=h',toks:=t' }:=I.un (Un.kept k) (I.hok.kept k)
theorem Inv.laid {a:Addr} {o:HO} {t':Nat} (I:Inv X pins σ H s) (k:∀b u,s.heap.get? b=some u->h'.get? b=some u) (hp:s.heap.objs.size<=a) (new:ObjOk X.prog X.w (upd H a o) h' a o) :
  Inv X pins σ (upd H a o) { s with heap:=h',toks:=t' }:=I.un (Un.laid k hp (I.hok.fresh hp)) (I.hok.laid k hp new)
theorem Inv.write {x e:Addr} {o:HO} {t':Nat} (I:Inv X pins σ H s) (mu:Mut (H x)) (he:e=x\/H e=some (.own x)) (k:∀b u,b≠e->s.heap.get? b=some u->h'.get? b=some u) (heo:∃u,h'.get? e=some u)
  (new:ObjOk X.prog X.w (upd H x o) h' x o):Inv X pins σ (upd H x o) { s with heap:=h',toks:=t' }:=I.un (Un.write mu he k heo) (I.hok.write mu he k heo new)
theorem Inv.weak {σ':List (Option V)} (I:Inv X pins σ H s) (hl:σ'.length=σ.length) (w:∀(i:Nat) v,σ'[i]? = some (some v)->σ[i]? = some (some v)):Inv X pins σ' H s :=
 ⟨I.ok,I.os,I.bare,I.base,let ⟨m,hn,hl'⟩:=I.loc; ⟨m,hn,fun i x v e1 e2 e3=>hl' i x v e1 (w i v e2) e3⟩,I.cell,I.free,I.freeC,I.pin,I.hok,hl.trans I.len⟩
theorem Inv.pins_of {pins':List (Addr×Obj)} (I:Inv X pins σ H s) (h:∀p∈pins',s.heap.get? p.1=some p.2/\H p.1=none/\p.1≠X.env.locals/\p.1∉X.fs/\∀v,p.2.data≠.cell v):Inv X pins' σ H s :=
 ⟨I.ok,I.os,I.bare,I.base,I.loc,I.cell,I.free,I.freeC,fun p hp=>(List.mem_append.mp hp).elim (fun z=>I.pin p (List.mem_append_left _ z)) (h p),I.hok,I.len⟩
theorem fq' {N:List Str} (hN:N.Nodup) {i j:Nat} {x:Str} (a:N[i]? = some x) (b:N[j]? = some x):i=j:=by
 obtain ⟨h1,e1⟩:=List.getElem?_eq_some_iff.mp a;obtain ⟨h2,e2⟩:=List.getElem?_eq_some_iff.mp b;exact (List.getElem_inj hN).mp (e1.trans e2.symm)
theorem cG' {M:Model} {A:Around} {E:Value->Shared->Prop} {i:Nat} {x:Str} {v:V} {u:Value} {Q:Unit->Shared->Prop} (I:Inv X pins σ H s) (hN:X.N.Nodup) (hi:X.N[i]? = some x) (hx:Loc X.env.scope x) (r:RelV v u)
  (h:∀s',Inv X pins (σ.set i (some v)) H s'->(∃a,Heap.SameBut a s.heap s'.heap/\(a=X.env.locals\/X.env.cells.lookup x=some a))->Q () s') (hf:X.fn x=true\/X.env.scope.names.lookup x=some .local:=by first | exact .inl rfl | exact .inr rfl | assumption):wpAny M A (storeName X.env x u) Q E s:=by
 obtain ⟨m,hn,hl⟩:=id I.loc;have hcls:(X.env.scope.kind == .class || (X.env.scope.kind == .module && X.env.locals != X.env.globals))=false:=by rw [I.ok.kind]; rfl
 have hiσ:i < σ.length:=by rw [I.len]; exact (List.getElem?_eq_some_iff.mp hi).1
 have cne:=I.cne;have tracked:∀{a:Addr} {h':Heap},(∃o,s.heap.get? a=some o/\H a=none)->Heap.SameBut a s.heap h'->HOk X.prog X.w H h':=fun {a h'} ha hs b ob e=>by
  obtain ⟨_,_,hfree⟩:=ha;refine (I.hok b ob e).stay (fun c w' hc q=>(hs.2 c ?_).trans q) (fun _ q=>q) fun _ _ q=>q
  rintro rfl
  rcases hc with rfl | hc
  ·rw [hfree] at e; cases e
  ·rw [hfree] at hc; cases hc
 rcases hx with hk | hk
 ·refine wpAny_storeName_local hk hn (fun h' hn' hs=>?_) hcls;obtain ⟨oL,_,_,hoL,_⟩:=id hn;refine h _ ⟨I.ok,I.os,I.bare,⟨fun b o e n hb hx=>?_,fun b o e n hb hx=>?_,I.base.free,fun b o e hx=>?_,I.base.tups,I.base.frzs,I.base.tbls⟩,⟨_,hn',fun j y v' e1 e2 e3=>?_⟩,fun y c e=>?_,I.free,I.freeC,fun p hp=>?_,tracked ⟨oL,hoL,I.free⟩ hs,by simpa using I.len⟩ ⟨_,hs,.inl rfl⟩
  ·exact (hs.2 b (Nat.ne_of_lt (Nat.lt_of_lt_of_le (Heap.lt_size e) I.ok.above))).trans (I.base.keep b o e n hb hx)
  ·obtain ⟨sl,e1⟩:=I.base.slot b o e n hb hx;exact ⟨sl,(hs.2 b (Nat.ne_of_lt (Nat.lt_of_lt_of_le (Heap.lt_size e) I.ok.above))).trans e1⟩
  ·obtain ⟨o',e1⟩:=I.base.there b o e hx;exact ⟨o',(hs.2 b (Nat.ne_of_lt (Nat.lt_of_lt_of_le (Heap.lt_size e) I.ok.above))).trans e1⟩
  ·by_cases hj:j=i
   ·subst hj;rw [hi] at e1; cases e1;rw [List.getElem?_set_self hiσ] at e2
    cases e2
    exact ⟨u,r,.inl ⟨hk,by simp⟩⟩
   ·rw [List.getElem?_set_ne (Ne.symm hj)] at e2;obtain ⟨u',r',q⟩:=hl j y v' e1 e2 e3;refine ⟨u',r',?_⟩;rcases q with ⟨k,e⟩ | ⟨k,c,e,z⟩
    ·refine .inl ⟨k,?_⟩;have:y≠x:=fun e=>hj (fq' hN e1 (e ▸ hi));simp [this,e]
    ·exact .inr ⟨k,c,e,z.sameBut hs (cne y c e)⟩
  ·obtain ⟨w',z⟩:=I.cell y c e;exact ⟨w',z.sameBut hs (cne y c e)⟩
  ·obtain ⟨e,n,ne,nf,d⟩:=I.pin p hp;exact ⟨(hs.2 p.1 ne).trans e,n,ne,nf,d⟩
 ·have hfn:X.fn x=true:=by
   rcases hf with z | z
   ·exact z
   ·rw [z] at hk; cases hk
  obtain ⟨c,hc⟩:=I.ok.has x (.inl hk);obtain ⟨w',z⟩:=I.cell x c hc;refine wpAny_storeName_cell I.ok.kind hk hc z (fun h' hc' hs=>?_);obtain ⟨oc,hoc,hocd⟩:=id z;refine h { s with heap:=h' } ⟨I.ok,I.os,I.bare,⟨fun b o e n hb hx=>?_,fun b o e n hb hx=>?_,I.base.free,fun b o e hx=>?_,I.base.tups,I.base.frzs,I.base.tbls⟩,⟨m,hn.sameBut hs (Ne.symm (cne x c hc)),fun j y v' e1 e2 e3=>?_⟩,fun y c' e=>?_,I.free,I.freeC,fun p hp=>?_,tracked ⟨oc,hoc,I.freeC x c hc⟩ hs,by simpa using I.len⟩ ⟨c,hs,.inr hc⟩
  ·exact (hs.2 b (Nat.ne_of_lt (Nat.lt_of_lt_of_le (Heap.lt_size e) (I.ok.cab x c hfn hc)))).trans (I.base.keep b o e n hb hx)
  ·obtain ⟨sl,e1⟩:=I.base.slot b o e n hb hx;exact ⟨sl,(hs.2 b (Nat.ne_of_lt (Nat.lt_of_lt_of_le (Heap.lt_size e) (I.ok.cab x c hfn hc)))).trans e1⟩
  ·obtain ⟨o',e1⟩:=I.base.there b o e hx;exact ⟨o',(hs.2 b (Nat.ne_of_lt (Nat.lt_of_lt_of_le (Heap.lt_size e) (I.ok.cab x c hfn hc)))).trans e1⟩
  ·by_cases hj:j=i
   ·subst hj;rw [hi] at e1; cases e1;rw [List.getElem?_set_self hiσ] at e2
    cases e2
    exact ⟨u,r,.inr ⟨.inl hk,c,hc,hc'⟩⟩
   ·rw [List.getElem?_set_ne (Ne.symm hj)] at e2;obtain ⟨u',r',q⟩:=hl j y v' e1 e2 e3;refine ⟨u',r',?_⟩;rcases q with q | ⟨k,c',e,z'⟩
    ·exact .inl q
    ·refine .inr ⟨k,c',e,z'.sameBut hs ?_⟩
     rintro rfl
     exact hj (fq' hN e1 (I.ok.inj _ _ _ e hc ▸ hi))
  ·by_cases hcc:c'=c
   ·subst hcc; exact ⟨_,hc'⟩
   ·obtain ⟨w2,z2⟩:=I.cell y c' e;exact ⟨w2,z2.sameBut hs hcc⟩
  ·obtain ⟨e,n,ne,nf,d⟩:=I.pin p hp;refine ⟨(hs.2 p.1 ?_).trans e,n,ne,nf,d⟩;intro q;rw [q,hoc] at e;have q':oc=p.2:=Option.some.inj e;exact d w' (by rw [<- q']; exact hocd)
theorem do' {M:Model} {A:Around} {E:Value->Shared->Prop} {i:Nat} {x:Str} {v:V} {u:Value} {Q:Unit->Shared->Prop} (I:Inv X pins σ H s) (hN:X.N.Nodup) (hi:X.N[i]? = some x) (hx:Loc X.env.scope x) (r:RelV v u)
  (h:∀s',Inv X pins (σ.set i (some v)) H s'->Q () s') (hf:X.fn x=true\/X.env.scope.names.lookup x=some .local:=by first | exact .inl rfl | exact .inr rfl | assumption):wpAny M A (storeName X.env x u) Q E s :=
 cG' I hN hi hx r (fun s' I' _=>h s' I') hf
theorem Inv.call' {s':Shared} {ch:List Addr} (I:Inv X pins σ H s) (ho:s'.os=s.os) (u:Un (frs X.stack) ch H H' s.heap s'.heap) (hok:HOk X.prog X.w H' s'.heap) (hg:AllBare s'.gens)
  (hch:∀b∈ch,(b∈X.ex\/X.s₀.heap.objs.size<=b)/\b≠X.env.locals/\(∀x c,X.env.cells.lookup x=some c->c≠b)/\∀p∈X.pn ++ pins,p.1≠b):Inv X pins σ H' s':=by
 obtain ⟨h',g',d',t',o'⟩:=s';have e:o'=s.os:=ho;subst e;exact I.call (g':=g') (t':=t') (d':=d') u hok hg hch
end
abbrev XK:=Value->Option Addr->Hp->Prop
abbrev St:=List (Option V)
abbrev VK:=V->Hp->Prop
abbrev TE:=St->Hp->VK->Prop
abbrev TT:=St->Hp->(Bool->Hp->Prop)->Prop
abbrev TA:=St->Hp->(List V->Hp->Prop)->Prop
structure Ends where
 nx:St->Hp->Prop
 rt:VK
 bk:St->Hp->Prop:=fun _ _=>False
 ct:St->Hp->Prop:=fun _ _=>False
abbrev TS:=Ends->St->Hp->Prop
noncomputable def EP (X:Cx) (pins:List (Addr×Obj)) (σ:St) (Q:VK) (u:Value) (s':Shared):Prop:=∃v H',Inv X pins σ H' s'/\RelV v u/\Q v H'
noncomputable def TP (X:Cx) (pins:List (Addr×Obj)) (σ:St) (Q:Bool->Hp->Prop) (b:Bool) (s':Shared):Prop:=∃H',Inv X pins σ H' s'/\Q b H'
noncomputable def AP (X:Cx) (pins:List (Addr×Obj)) (σ:St) (Q:List V->Hp->Prop) (us:List Value) (s':Shared):Prop:=∃vs H',Inv X pins σ H' s'/\Vals vs us/\Q vs H'
noncomputable def SP (X:Cx) (pins:List (Addr×Obj)) (D:Ends) (f:Flow) (s':Shared):Prop :=
 match f with
 | .next=>∃σ' H',Inv X pins σ' H' s'/\D.nx σ' H'
 | .brk=>∃σ' H',Inv X pins σ' H' s'/\D.bk σ' H'
 | .cont=>∃σ' H',Inv X pins σ' H' s'/\D.ct σ' H'
 | .ret u=>∃v σ' H',Inv X pins σ' H' s'/\RelV v u/\D.rt v H'
noncomputable def PE (X:Cx) (e:Expr) (t:TE):Prop :=
 ∀(pins:List (Addr×Obj)) (s:Shared) (σ:St) (H:Hp) (Q:VK),Inv X pins σ H s->t σ H Q->wpAny (model X.prog X.w) X.A (eval e X.env) (EP X pins σ Q) X.xe s
noncomputable def PT (X:Cx) (e:Expr) (t:TT):Prop :=
 ∀(pins:List (Addr×Obj)) (s:Shared) (σ:St) (H:Hp) (Q:Bool->Hp->Prop),Inv X pins σ H s->t σ H Q->wpAny (model X.prog X.w) X.A (isTrue e X.env (eval e X.env)) (TP X pins σ Q) X.xe s
noncomputable def PW (X:Cx) (e:Expr) (t:TT):Prop :=
 ∀(whole:Sem Value) (pins:List (Addr×Obj)) (s:Shared) (σ:St) (H:Hp) (Q:Bool->Hp->Prop),Inv X pins σ H s->t σ H Q->wpAny (model X.prog X.w) X.A (isTrue e X.env whole) (TP X pins σ Q) X.xe s
theorem PW.pt {X:Cx} {e:Expr} {t:TT} (h:PW X e t):PT X e t:=h _
noncomputable def PA (X:Cx) (es:List Expr) (t:TA):Prop :=
 ∀(pos:Pos) (pins:List (Addr×Obj)) (s:Shared) (σ:St) (H:Hp) (Q:List V->Hp->Prop),Inv X pins σ H s->t σ H Q->wpAny (model X.prog X.w) X.A (spliced (backTo pos (starEach es X.env))) (AP X pins σ Q) X.xe s
noncomputable def PS (X:Cx) (st:Stmt) (t:TS):Prop :=
 ∀(pins:List (Addr×Obj)) (s:Shared) (σ:St) (H:Hp) (D:Ends),Inv X pins σ H s->t D σ H->wpAny (model X.prog X.w) X.A (exec st X.env) (SP X pins D) X.xe s
noncomputable def PSs (X:Cx) (st:List Stmt) (t:TS):Prop :=
 ∀(pins:List (Addr×Obj)) (s:Shared) (σ:St) (H:Hp) (D:Ends),Inv X pins σ H s->t D σ H->wpAny (model X.prog X.w) X.A (execs st X.env) (SP X pins D) X.xe s
theorem thn {α:Type} {t:Sem α} {Q Q':α->Shared->Prop} {M:Model} {A:Around} {E:Value->Shared->Prop} {s:Shared} (h:wpAny M A t Q E s) (hQ:∀a s,Q a s->Q' a s):wpAny M A t Q' E s:=wpAny_mono h hQ fun _ _ x=>x
section
variable {X:Cx}
noncomputable def tVar (i:Nat):TE:=fun σ H Q=>∃v,σ[i]? = some (some v)/\Q v H
noncomputable def tC (v:V):TE:=fun _ H Q=>Q v H
theorem gA' {i:Nat} {x:Str} {pos:Pos} (hN:X.N[i]? = some x) (hv:Vis X.env.scope x) (hd:(x == ("__debug__" : Str))=false:=by decide) (hcd:(x == ("__classdict__" : Str))=false:=by decide):PE X (.Name x pos) (tVar i):=by
 intro pins s σ H Q I h;obtain ⟨v,e,h⟩:=h;obtain ⟨m,hn,hl⟩:=I.loc;obtain ⟨u,r,l⟩:=hl i x v hN e hv;have fin:EP X pins σ Q u s:=⟨v,H,I,r,h⟩;rcases l with ⟨hk,hm⟩ | ⟨hk,c,hc,hcell⟩
 ·exact wpAny_Name (wpAny_loadName_local I.ok.kind hk hn hm fin) hd
 ·rcases hk with hk | hk
  ·exact wpAny_Name (wpAny_loadName_cell I.ok.kind hk hc hcell fin) hd
  ·exact wpAny_Name (wpAny_loadName_free I.ok.kind hk hc hcell fin hcd) hd
theorem lC' {i j pos}:PE X (.Constant (.int i) j pos) (tC (.int i)):=fun _ _ _ H _ I h=>wpAny_Constant_int ⟨.int i,H,I.tok _,⟨_,rfl⟩,h⟩
theorem mQ' {b j pos}:PE X (.Constant (.bool b) j pos) (tC (.bl b)):=fun _ _ _ H _ I h=>Constant_bool ⟨.bl b,H,I,rfl,h⟩
theorem lD' {x j pos}:PE X (.Constant (.str x) j pos) (tC (.str x)):=fun _ _ _ H _ I h=>Calls.Constant_str ⟨.str x,H,I.tok _,⟨_,rfl⟩,h⟩
noncomputable def Gl (X:Cx) (x:Str):Prop:=X.env.kindOf x=some .globalImplicit
theorem gB' {E:Value->Shared->Prop} {pins:List (Addr×Obj)} {s:Shared} {σ:St} {H:Hp} {x:Str} {u:Value} {pos:Pos} {Q:Value->Shared->Prop} (I:Inv X pins σ H s) (hg:Gl X x) (hm:X.mg x=some u) (h:Q u s)
  (hd:(x == ("__debug__" : Str))=false:=by decide):wpAny (model X.prog X.w) X.A (eval (.Name x pos) X.env) Q E s :=
 Calls.Name_function_global I.ok.kind hg (Calls.loadGlobal_global (by rw [I.ok.glob]; exact I.mod.glob.keeps I.bk) hm h) hd
theorem bG' {E:Value->Shared->Prop} {pins:List (Addr×Obj)} {s:Shared} {σ:St} {H:Hp} {x:Str} {u:Value} {pos:Pos} {Q:Value->Shared->Prop} (I:Inv X pins σ H s) (hg:Gl X x) (hm:X.mg x=none) (hv:bootBuiltins x=some u) (h:Q u s)
  (hn:x≠"__name__":=by decide) (hd:(x == ("__debug__" : Str))=false:=by decide):wpAny (model X.prog X.w) X.A (eval (.Name x pos) X.env) Q E s:=by
 obtain ⟨mb,h1,h2⟩:=I.mod.blt;exact Calls.Name_function_global I.ok.kind hg (Calls.loadGlobal_builtin (by rw [I.ok.glob]; exact I.mod.glob.keeps I.bk) hm (by rw [I.ok.blt]; exact h1.keeps I.bk) ((h2 x hn).trans hv) h) hd
noncomputable def t2I (ta tb:TE) (k:Int->Int->Hp->Prop):St->Hp->Prop:=fun σ H=>ta σ H fun x H1=>tb σ H1 fun y H2=>∃i j,x=.int i/\y=.int j/\k i j H2
variable {a b:Expr} {ta tb:TE} {pos:Pos}
noncomputable def tCmp (p:Int->Int->Bool) (ta tb:TE):TE:=fun σ H Q=>t2I ta tb (fun i j H2=>Q (.bl (p i j)) H2) σ H
abbrev tLt:TE->TE->TE:=tCmp fun i j=>decide (i < j)
abbrev tLe:TE->TE->TE:=tCmp fun i j=>decide (i<=j)
abbrev tGt:TE->TE->TE:=tCmp fun i j=>decide (j < i)
abbrev tGe:TE->TE->TE:=tCmp fun i j=>decide (j<=i)
abbrev tEqI:TE->TE->TE:=tCmp fun i j=>decide (i=j)
abbrev tNeI:TE->TE->TE:=tCmp fun i j=>!decide (i=j)
noncomputable def tB (t:TE):TT:=fun σ H Q=>t σ H fun x H1=>∃c,x=.bl c/\Q c H1
variable {tA tB':TT} {rest:List Expr}
end
noncomputable def SqL (K:PySem.W.Frag) (H:Hp) (a:Addr) (xs:List V):Prop :=
 Rd H a (.lst xs) \/
  ∃(o:Obj) (its:Array Value) (n:Nat),K.lookup a=some o/\o.cls=.type "list"/\o.dict=none/\o.data=.seq its n/\its.size<=sizeLine/\Vals xs its.toList
noncomputable def SqT (K:PySem.W.Frag) (H:Hp) (a:Addr) (xs:List V):Prop :=
 Rd H a (.tup xs) \/
  ∃(o:Obj) (its:Array Value) (n:Nat),K.lookup a=some o/\o.cls=.type "tuple"/\o.data=.seq its n/\its.size<=sizeLine/\Vals xs its.toList
noncomputable def absV:Value->Option V
 | .none=>some .non
 | .bool b=>some (.bl b)
 | .int i _=>some (.int i)
 | .str x _=>some (.str x)
 | .bytes b _=>some (.byt b)
 | .float b _=>some (.flt b)
 | .ref a=>some (.ref a)
 | .type n=>some (.ty n)
 | _=>none
theorem RelV.abs {x:V} {u:Value} (r:RelV x u):absV u=some x:=by
 cases x with
 | non=>cases r; rfl
 | bl _=>cases r; rfl
 | int _=>obtain ⟨t,rfl⟩:=r; rfl
 | str _=>obtain ⟨t,rfl⟩:=r; rfl
 | byt _=>obtain ⟨t,rfl⟩:=r; rfl
 | flt _=>obtain ⟨t,rfl⟩:=r; rfl
 | ref _=>cases r; rfl
 | ty _=>cases r; rfl
theorem RelV.inj {x y:V} {u:Value} (r:RelV x u) (q:RelV y u):x=y:=Option.some.inj (r.abs.symm.trans q.abs)
theorem Vals.inj:∀{xs ys:List V} {us:List Value},Vals xs us->Vals ys us->xs=ys
 | _,_,_,.nil,.nil=>rfl
 | _,_,_,.cons r t,.cons r' t'=>by rw [r.inj r',Vals.inj t t']
section
variable {X:Cx} {pins:List (Addr×Obj)} {σ:St} {H:Hp} {s:Shared} {a:Addr} {xs ys:List V}
theorem SqL.of {K:PySem.W.Frag} (h:H a=some (.lst xs)):SqL K H a xs:=.inl (.inl h)
theorem SqT.of {K:PySem.W.Frag} (h:H a=some (.tup xs)):SqT K H a xs:=.inl (.inl h)
theorem Inv.list (I:Inv X pins σ H s) (h:SqL X.K H a xs):∃its:List Value,Vals xs its/\PlainL s.heap a its.toArray/\xs.length<=sizeLine:=by
 rcases h with h | ⟨o,its,n,hk,hc,hd,hs,hz,r⟩
 ·obtain ⟨z,its,n,r,e⟩:=h.ok I.hok;exact ⟨its,r,⟨_,n,e,rfl,rfl,rfl⟩,z⟩
 ·refine ⟨its.toList,r,⟨o,n,I.kIn a o hk,hc,hd,by simpa using hs⟩,?_⟩;have e:=r.length;simp only [Array.length_toList] at e;omega
theorem Inv.tuple (I:Inv X pins σ H s) (h:SqT X.K H a xs):∃its:List Value,Vals xs its/\IsTup s.heap a its.toArray/\xs.length<=sizeLine:=by
 rcases h with h | ⟨o,its,n,hk,hc,hs,hz,r⟩
 ·obtain ⟨z,its,r,p⟩:=h.ok I.hok;exact ⟨its,r,p,z⟩
 ·refine ⟨its.toList,r,⟨o,I.kIn a o hk,hc,n,by simpa using hs⟩,?_⟩;have e:=r.length;simp only [Array.length_toList] at e;omega
theorem Inv.list_inj (I:Inv X pins σ H s) (h:SqL X.K H a xs) (h':SqL X.K H a ys):xs=ys:=by
 obtain ⟨its,r,⟨o,n,e,_,_,d⟩,_⟩:=I.list h;obtain ⟨its',r',⟨o',n',e',_,_,d'⟩,_⟩:=I.list h';rw [e] at e'; cases e';rw [d] at d';injection d' with d1 _
 have:its=its':=by simpa using congrArg Array.toList d1
 subst this;exact r.inj r'
theorem Inv.tuple_inj (I:Inv X pins σ H s) (h:SqT X.K H a xs) (h':SqT X.K H a ys):xs=ys:=by
 obtain ⟨its,r,⟨o,e,_,n,d⟩,_⟩:=I.tuple h;obtain ⟨its',r',⟨o',e',_,n',d'⟩,_⟩:=I.tuple h';rw [e] at e'; cases e';rw [d] at d';injection d' with d1 _
 have:its=its':=by simpa using congrArg Array.toList d1
 subst this;exact r.inj r'
end
abbrev Cx.wish (X:Cx) (E:Value->Shared->Prop):Cx:={ X with xe:=E }
abbrev Cx.nox (X:Cx):Cx:=X.wish fun _ _=>False
theorem Cx.Ok.wish {X:Cx} (ok:X.Ok) (E:Value->Shared->Prop):(X.wish E).Ok :=
 ⟨ok.mod,ok.kind,ok.glob,ok.blt,ok.above,ok.inj,ok.has,ok.cab,ok.hd,ok.frames,ok.stk,ok.exf,ok.bs,ok.bsz,ok.noex,ok.exfs,ok.funs,ok.frf⟩
theorem Cx.Ok.unwish {X:Cx} {E:Value->Shared->Prop} (ok:(X.wish E).Ok):X.Ok :=
 ⟨ok.mod,ok.kind,ok.glob,ok.blt,ok.above,ok.inj,ok.has,ok.cab,ok.hd,ok.frames,ok.stk,ok.exf,ok.bs,ok.bsz,ok.noex,ok.exfs,ok.funs,ok.frf⟩
section
variable {X:Cx} {pins:List (Addr×Obj)} {σ:St} {H:Hp} {s:Shared} {E:Value->Shared->Prop}
theorem Inv.wish (I:Inv X pins σ H s) (E:Value->Shared->Prop):Inv (X.wish E) pins σ H s:=⟨I.ok.wish E,I.os,I.bare,I.base,I.loc,I.cell,I.free,I.freeC,I.pin,I.hok,I.len⟩
theorem Inv.unwish (I:Inv (X.wish E) pins σ H s):Inv X pins σ H s:=⟨I.ok.unwish,I.os,I.bare,I.base,I.loc,I.cell,I.free,I.freeC,I.pin,I.hok,I.len⟩
theorem SP.unwish {D:Ends} {f:Flow} {s':Shared} (h:SP (X.wish E) pins D f s'):SP X pins D f s':=by
 cases f with
 | next=>obtain ⟨σ',H',I,q⟩:=h; exact ⟨σ',H',I.unwish,q⟩
 | brk=>obtain ⟨σ',H',I,q⟩:=h; exact ⟨σ',H',I.unwish,q⟩
 | cont=>obtain ⟨σ',H',I,q⟩:=h; exact ⟨σ',H',I.unwish,q⟩
 | ret u=>obtain ⟨v,σ',H',I,r,q⟩:=h; exact ⟨v,σ',H',I.unwish,r,q⟩
theorem PE.nox {e:Expr} {t:TE} (h:PE X.nox e t):PE X e t:=fun pins s σ H Q I hw =>
 wpAny_mono (h pins s σ H Q (I.wish _) hw) (fun _ _ ⟨v,H',I',r,q⟩=>⟨v,H',I'.unwish,r,q⟩) fun _ _ z=>False.elim z
theorem PT.nox {e:Expr} {t:TT} (h:PT X.nox e t):PT X e t:=fun pins s σ H Q I hw =>
 wpAny_mono (h pins s σ H Q (I.wish _) hw) (fun _ _ ⟨H',I',q⟩=>⟨H',I'.unwish,q⟩) fun _ _ z=>False.elim z
theorem PSs.nox {st:List Stmt} {t:TS} (h:PSs X.nox st t):PSs X st t:=fun pins s σ H D I hw =>
 wpAny_mono (h pins s σ H D (I.wish _) hw) (fun _ _ q=>q.unwish) fun _ _ z=>False.elim z
end
section
variable {X:Cx} {st:Stmt} {rest:List Stmt} {t u:TS} {e:Expr} {te:TE} {pos:Pos}
end
abbrev TG:=V->St->Hp->(St->Hp->Prop)->Prop
abbrev TGs:=List V->St->Hp->(St->Hp->Prop)->Prop
noncomputable def PG (X:Cx) (target:Expr) (t:TG):Prop :=
 ∀(pins:List (Addr×Obj)) (s:Shared) (σ:St) (H:Hp) (v:V) (u:Value) (Q:St->Hp->Prop),Inv X pins σ H s->RelV v u->t v σ H Q ->
  wpAny (model X.prog X.w) X.A (assign target X.env u) (fun _ s'=>∃σ' H',Inv X pins σ' H' s'/\Q σ' H') X.xe s
noncomputable def PGs (X:Cx) (ts:List Expr) (t:TGs):Prop :=
 ∀(pins:List (Addr×Obj)) (s:Shared) (σ:St) (H:Hp) (vs:List V) (us:List Value) (Q:St->Hp->Prop),Inv X pins σ H s->Vals vs us->t vs σ H Q ->
  wpAny (model X.prog X.w) X.A (assignInOrder ((assignEach ts X.env).map (·.2)) us) (fun _ s'=>∃σ' H',Inv X pins σ' H' s'/\Q σ' H') X.xe s
abbrev TSet:=V->V->V->Hp->(Hp->Prop)->Prop
noncomputable def PSet (X:Cx) (t:TSet):Prop :=
 ∀(pins:List (Addr×Obj)) (s:Shared) (σ:St) (H:Hp) (o i v:V) (ov iv u:Value) (Q:Hp->Prop),Inv X pins σ H s->RelV o ov->RelV i iv->RelV v u->t o i v H Q ->
  wpAny (model X.prog X.w) X.A (setItem ov iv u) (fun _ s'=>∃H',Inv X pins σ H' s'/\Q H') X.xe s
abbrev TIp:=V->V->Hp->VK->Prop
section
variable {X:Cx} {pos:Pos}
noncomputable def gName (i:Nat):TG:=fun v σ H Q=>Q (σ.set i (some v)) H
theorem gC' {i:Nat} {x:Str} (hN:X.N.Nodup) (hi:X.N[i]? = some x) (hx:Loc X.env.scope x) (hf:X.fn x=true\/X.env.scope.names.lookup x=some .local:=by first | exact .inl rfl | exact .inr rfl | assumption):PG X (.Name x pos) (gName i):=by
 intro pins s σ H v u Q I r h;exact wpAny_assign_Name (do' I hN hi hx r (fun s' I'=>⟨_,H,I',h⟩) hf)
noncomputable def gNil:TGs:=fun vs σ H Q=>vs=[]/\Q σ H
noncomputable def gCons (t:TG) (u:TGs):TGs:=fun vs σ H Q=>∃v r,vs=v :: r/\t v σ H fun σ' H'=>u r σ' H' Q
theorem kj':PGs X [] gNil:=by
 intro pins s σ H vs us Q I r h;obtain ⟨e,h⟩:=h;subst e
 cases r
 exact assignInOrder_nil ⟨σ,H,I,h⟩
theorem iv' {e:Expr} {es:List Expr} {t:TG} {u:TGs} (h1:PG X e t) (h2:PGs X es u)
  (hs:(assignEach (e :: es) X.env).map (·.2)=assign e X.env :: (assignEach es X.env).map (·.2):=by rfl):PGs X (e :: es) (gCons t u):=by
 intro pins s σ H vs us Q I r h;obtain ⟨v,vr,e1,h⟩:=h;subst e1
 cases r with
 | cons r rr =>
  rw [hs];refine assignInOrder_cons (thn (h1 pins s σ H _ _ _ I r h) fun _ s1 ⟨σ1,H1,I1,q1⟩=>?_);exact h2 pins s1 σ1 H1 _ _ Q I1 rr q1
noncomputable def gTup (K:PySem.W.Frag) (n:Nat) (t:TGs):TG:=fun v σ H Q=>∃a xs,v=.ref a/\SqT K H a xs/\xs.length=n/\t xs σ H Q
theorem lE' {es:List Expr} {k:Nat} {t:TGs} {n:Nat} (hc:X.calm=true) (h:PGs X es t)
  (hn:(assignEach es X.env).length=n:=by rfl) (hst:(assignEach es X.env).findIdx? (·.1)=none:=by rfl):PG X (.Tuple es k pos) (gTup X.K n t):=by
 intro pins s σ H v u Q I r hw;obtain ⟨a,xs,e1,hq,hl,hw⟩:=hw;subst e1
 cases r
 obtain ⟨its,rv,ht,hz⟩:=I.tuple hq;refine assign_Tuple_tuple (I.ok.hd hc) ht (by simp [hn,<- hl,rv.length]) hst fun h' hx=>?_;have I1:Inv X pins σ H { s with heap:=h' }:=I.kept (t':=s.toks) fun b o e=>hx b o (Nat.ne_of_lt (Heap.lt_size e)) e
 exact h pins _ σ H xs _ Q I1 (by simpa using rv) hw
end
section
variable {X:Cx} {pos:Pos}
noncomputable def tWhile (c:TT) (tb:TS):TS:=fun D σ H=>∃W:Nat->St->Hp->Prop,(∃m,W m σ H)/\∀m σ H,W m σ H ->
 c σ H fun b H1=>if b=true then ∃N:St->Hp->Prop,(∀σ' H',N σ' H'->∃m',m' < m/\W m' σ' H')/\tb { D with nx:=N,ct:=N,bk:=D.nx } σ H1 else D.nx σ H1
theorem iw' {c:Expr} {body:List Stmt} {tc:TT} {tb:TS} (hp:PassesOwn (model X.prog X.w) X.A X.env X.xe) (hc:PT X c tc) (hb:PSs X body tb):PS X (.While c body [] pos) (tWhile tc tb):=by
 intro pins s σ H D I h;obtain ⟨W,⟨m0,w0⟩,turn⟩:=h;refine wpAny_While (codeAny_whileLoop (fun n s'=>∃σ' H',Inv X pins σ' H' s'/\W n σ' H') ?_ m0 ⟨σ,H,I,w0⟩)
 rintro n s1 ⟨σ1,H1,I1,w1⟩
 refine wpAny_passesOwn hp (thn (hc pins s1 σ1 H1 _ I1 (turn n σ1 H1 w1)) fun b s2 ⟨H2,I2,q2⟩=>?_)
 cases b with
 | true =>
  obtain ⟨N,hN,q2⟩:=q2;rw [if_pos rfl];refine wpAny_passesOwn hp (thn (hb pins s2 σ1 H2 _ I2 q2) fun f s3 q3=>?_)
  cases f with
  | next =>
   obtain ⟨σ3,H3,I3,n3⟩:=q3;obtain ⟨m',hm,w3⟩:=hN σ3 H3 n3;exact ⟨m',hm,σ3,H3,I3,w3⟩
  | cont =>
   obtain ⟨σ3,H3,I3,n3⟩:=q3;obtain ⟨m',hm,w3⟩:=hN σ3 H3 n3;exact ⟨m',hm,σ3,H3,I3,w3⟩
  | brk=>exact q3
  | ret v=>exact q3
 | false =>
  rw [if_neg Bool.false_ne_true];exact wpAny_execs_nil ⟨σ1,H2,I2,q2⟩
end
structure It where
 go:Nat->Hp->Prop
 yld:Nat->Hp->V->Hp->Prop
 stop:Nat->Hp->Prop
noncomputable def FpOk (X:Cx) (pins:List (Addr×Obj)) (H:Hp) (b:Addr):Prop :=
 H b=none/\b≠X.env.locals/\b∉X.fs/\(b∈X.ex\/X.s₀.heap.objs.size<=b)/\(∀x c,X.env.cells.lookup x=some c->c≠b)/\∀p∈X.pn ++ pins,p.1≠b
theorem Inv.fpOk {X:Cx} {pins:List (Addr×Obj)} {σ:St} {H H':Hp} {s:Shared} {b:Addr} (I:Inv X pins σ H s) (hb:s.heap.objs.size<=b) (hn:H' b=none):FpOk X pins H' b:=by
 refine ⟨hn,Nat.ne_of_gt (Nat.lt_of_lt_of_le I.lt hb),I.nofs hb,.inr (Nat.le_trans I.sz hb),fun x c e z=>?_,fun p hp z=>?_⟩
 ·obtain ⟨v,q⟩:=I.cell x c e;exact absurd (Nat.lt_of_lt_of_le q.lt (by rw [z]; exact hb)) (Nat.lt_irrefl _)
 ·exact absurd (Nat.lt_of_lt_of_le (Heap.lt_size (I.pin p hp).1) (by rw [z]; exact hb)) (Nat.lt_irrefl _)
structure Turn (P:Program) (w:World) (K:PySem.W.Frag) (tg:Expr) (J:It) (fp:List Addr) (it:Addr) (tn:Nat->Heap->Prop):Prop where
 mem:it∈fp
 obj:∀i h,tn i h->∀b∈fp,∃o,h.get? b=some o/\∀v,o.data≠.cell v
 keep:∀i h h',tn i h->(∀b∈fp,∀o,h.get? b=some o->h'.get? b=some o)->tn i h'
 item:∀(X:Cx),X.prog=P->X.w=w->X.K=K->X.calm=true->∀(i:Nat) (pins:List (Addr×Obj)) (s:Shared) (σ:St) (H:Hp) (E:Value->Shared->Prop),Inv X pins σ H s->(∀b∈fp,FpOk X pins H b)->tn i s.heap->J.go i H ->
  wpAny (model P w) X.A (pyNext (.ref it)) (fun r s1=>∃u,r=some u /\
   wpAny (model P w) X.A (letOwnedTupleGo tg (.ref it) u) (fun _ s2=>∃x H',Inv X pins σ H' s2/\RelV x u/\J.yld i H x H'/\tn (i + 1) s2.heap/\∀b∈fp,H' b=none) E s1) E s
 done:∀(X:Cx),X.prog=P->X.w=w->X.K=K->X.calm=true->∀(i:Nat) (pins:List (Addr×Obj)) (s:Shared) (σ:St) (H:Hp) (E:Value->Shared->Prop),Inv X pins σ H s->(∀b∈fp,FpOk X pins H b)->tn i s.heap->J.stop i H ->
  wpAny (model P w) X.A (pyNext (.ref it)) (fun r s1=>r=none/\Inv X pins σ H s1) E s
 self:∀(A:Around) (i:Nat) (s:Shared) (Q:Value->Shared->Prop) (E:Value->Shared->Prop),tn i s.heap->Q (.ref it) s->wpAny (model P w) A (pyIter (.ref it)) Q E s
abbrev TI:=St->Hp->(It->Hp->Prop)->Prop
noncomputable def PIE (X:Cx) (pins:List (Addr×Obj)) (σ:St) (tg:Expr) (R:It->Hp->Prop) (itv:Value) (s2:Shared):Prop :=
 ∃(it:Addr) (fp:List Addr) (tn:Nat->Heap->Prop) (J:It) (H':Hp),itv=.ref it/\Inv X pins σ H' s2/\Turn X.prog X.w X.K tg J fp it tn/\tn 0 s2.heap/\(∀b∈fp,FpOk X pins H' b)/\R J H'
noncomputable def PI (X:Cx) (tg iter:Expr) (wi:TI):Prop :=
 ∀(pins:List (Addr×Obj)) (s:Shared) (σ:St) (H:Hp) (R:It->Hp->Prop),Inv X pins σ H s->wi σ H R ->
  wpAny (model X.prog X.w) X.A (eval iter X.env) (fun v s1=>wpAny (model X.prog X.w) X.A (pyIter v) (PIE X pins σ tg R) X.xe s1) X.xe s
theorem ix' {M:Model} {A:Around} {E:Value->Shared->Prop} {s:Shared} {tg:Expr} {it:Addr} {u:Value} {o:Obj} {n:String} {vs:Array Value} {Q:Unit->Shared->Prop} (ho:s.heap.get? it=some o) (hc:o.cls=.type n) (hd:o.data=.fields vs)
    (hn:["enumerate", "zip", "dict_itemiterator", "dict_reverseitemiterator", "odict_iterator", "itertools.zip_longest", "itertools.pairwise"].contains n=false) (hQ:Q () s):wpAny M A (letOwnedTupleGo tg (.ref it) u) Q E s:=by
  unfold letOwnedTupleGo
  cases tg <;> first
    | exact wpAny_pure hQ
    | (cases u <;> first
        | exact wpAny_pure hQ
        | (refine wpAny_bind (wpAny_load ho ?_)
           rw [hc,hd];show wpAny M A (if (["enumerate", "zip", "dict_itemiterator", "dict_reverseitemiterator", "odict_iterator", "itertools.zip_longest", "itertools.pairwise"].contains n && vs[0]? == some (rawInt _))=true then _ else _) Q E s
           rw [if_neg (by intro h; rw [hn,Bool.false_and] at h; cases h)];exact wpAny_pure hQ))
noncomputable def Itl (K:PySem.W.Frag) (a:Addr):It :=
 ⟨fun i H=>∃xs x,SqL K H a xs/\xs[i]? = some x,fun i H x H'=>H'=H/\∀xs,SqL K H a xs->xs[i]? = some x,fun i H=>∃xs,SqL K H a xs/\xs.length<=i⟩
noncomputable def Itt (K:PySem.W.Frag) (a:Addr):It :=
 ⟨fun i H=>∃xs x,SqT K H a xs/\xs[i]? = some x,fun i H x H'=>H'=H/\∀xs,SqT K H a xs->xs[i]? = some x,fun i H=>∃xs,SqT K H a xs/\xs.length<=i⟩
noncomputable def Itr (lo:Int) (n:Nat):It:=⟨fun i _=>i < n,fun i H x H'=>H'=H/\x=.int (lo + i),fun i _=>n<=i⟩
theorem gD' {P:Program} {w:World} {K:PySem.W.Frag} {tg:Expr} (a it:Addr):Turn P w K tg (Itl K a) [it] it (fun i h=>h.IsListIter it a i) where
 mem:=by simp
 obj:=fun i h st b hb=>by
  have e:b=it:=by simpa using hb
  subst e;obtain ⟨o,e,c,d⟩:=st;exact ⟨o,e,fun v z=>by rw [d] at z; cases z⟩
 keep:=fun i h h' st k=>st.at fun o e=>k it (by simp) o e
 item:=by
  intro X hP hw hK hc i pins s σ H E I hf st hg;subst hP hw hK;obtain ⟨xs,x,hq,hx⟩:=hg;obtain ⟨its,rv,p,hz⟩:=I.list hq;obtain ⟨u,hu,ru⟩:=rv.get hx;obtain ⟨f0,f1,f2,f3,f4,f5⟩:=hf it (by simp);refine wpAny_pyNext_list_item st p.isList (x:=u) (by simpa using hu) fun h' st' sb=>?_;have I1:Inv X pins σ H { s with heap:=h' }:=I.turned (t':=s.toks) (fun b o hb e=>(sb.2 b hb).trans e) f0 f1 f3 f4 f5
  obtain ⟨o,e,c,d⟩:=id st';exact ⟨u,rfl,ix' (s:={ s with heap:=h' }) e c d (by decide) ⟨x,H,I1,ru,⟨rfl,fun ys hy=>by rw [I.list_inj hy hq]; exact hx⟩,st',fun b hb=>(hf b hb).1⟩⟩
 done:=by
  intro X hP hw hK hc i pins s σ H E I hf st hg;subst hP hw hK;obtain ⟨xs,hq,hx⟩:=hg;obtain ⟨its,rv,p,hz⟩:=I.list hq;obtain ⟨f0,f1,f2,f3,f4,f5⟩:=hf it (by simp);have hl:=rv.length;exact wpAny_pyNext_list_end (I.ok.hd hc) st p.isList (by simp; omega) fun h' eb=>⟨rfl,I.turned (t':=s.toks) (fun b o hb e=>eb b o hb e) f0 f1 f3 f4 f5⟩
 self:=fun _ _ _ _ _ st h=>wpAny_pyIter_listiter st h
theorem fW' {P:Program} {w:World} {K:PySem.W.Frag} {tg:Expr} (a it:Addr):Turn P w K tg (Itt K a) [it] it (fun i h=>h.IsTupleIter it a i) where
 mem:=by simp
 obj:=fun i h st b hb=>by
  have e:b=it:=by simpa using hb
  subst e;obtain ⟨o,e,c,d⟩:=st;exact ⟨o,e,fun v z=>by rw [d] at z; cases z⟩
 keep:=fun i h h' st k=>st.at fun o e=>k it (by simp) o e
 item:=by
  intro X hP hw hK hc i pins s σ H E I hf st hg;subst hP hw hK;obtain ⟨xs,x,hq,hx⟩:=hg;obtain ⟨its,rv,p,hz⟩:=I.tuple hq;obtain ⟨u,hu,ru⟩:=rv.get hx;obtain ⟨f0,f1,f2,f3,f4,f5⟩:=hf it (by simp);refine wpAny_pyNext_tuple_item st (show s.heap.IsTuple a its.toArray from p) (x:=u) (by simpa using hu) fun h' st' sb=>?_
  have I1:Inv X pins σ H { s with heap:=h' }:=I.turned (t':=s.toks) (fun b o hb e=>(sb.2 b hb).trans e) f0 f1 f3 f4 f5
  obtain ⟨o,e,c,d⟩:=id st';exact ⟨u,rfl,ix' (s:={ s with heap:=h' }) e c d (by decide) ⟨x,H,I1,ru,⟨rfl,fun ys hy=>by rw [I.tuple_inj hy hq]; exact hx⟩,st',fun b hb=>(hf b hb).1⟩⟩
 done:=by
  intro X hP hw hK hc i pins s σ H E I hf st hg;subst hP hw hK;obtain ⟨xs,hq,hx⟩:=hg;obtain ⟨its,rv,p,hz⟩:=I.tuple hq;obtain ⟨f0,f1,f2,f3,f4,f5⟩:=hf it (by simp);have hl:=rv.length;exact wpAny_pyNext_tuple_end (I.ok.hd hc) st (show s.heap.IsTuple a its.toArray from p) (by simp; omega) fun h' eb=>⟨rfl,I.turned (t':=s.toks) (fun b o hb e=>eb b o hb e) f0 f1 f3 f4 f5⟩
 self:=fun _ _ _ _ _ st h=>wpAny_pyIter_tupleiter st h
theorem fX' {P:Program} {w:World} {K:PySem.W.Frag} {tg:Expr} (it:Addr) (lo:Int) (n:Nat):Turn P w K tg (Itr lo n) [it] it (fun i h=>IsRangeIter h it (lo + (i:Nat) * 1) ((n:Int) - (i:Nat)) 1) where
 mem:=by simp
 obj:=fun i h st b hb=>by
  have e:b=it:=by simpa using hb
  subst e;exact ⟨_,st,fun v z=>by
   have z':Data.fields _=Data.cell v:=z
   cases z'⟩
 keep:=fun i h h' st k=>k it (by simp) _ st
 item:=by
  intro X hP hw hK hc i pins s σ H E I hf st hg;subst hP hw hK;obtain ⟨f0,f1,f2,f3,f4,f5⟩:=hf it (by simp);have W:=Walks.range (prog:=X.prog) (w:=X.w) (I.ok.hd hc) it lo 1 n;refine W.item i s _ _ hg st fun v h' tk hv st' kk=>?_;obtain ⟨t,rfl⟩:=hv;have I1:Inv X pins σ H { s with heap:=h',toks:=tk }:=I.turned (fun b o hb e=>kk b o (by simpa using hb) e) f0 f1 f3 f4 f5
  refine ⟨_,rfl,ix' (s:={ s with heap:=h',toks:=tk }) (n:="range_iterator") st' rfl rfl (by decide) ⟨.int (lo + i),H,I1,⟨t,?_⟩,⟨rfl,rfl⟩,st',fun b hb=>(hf b hb).1⟩⟩
  rw [Int.mul_one]
 done:=by
  intro X hP hw hK hc i pins s σ H E I hf st hg;subst hP hw hK;obtain ⟨f0,f1,f2,f3,f4,f5⟩:=hf it (by simp);exact wpAny_pyNext_range_end (I.ok.hd hc) st (by have:n<=i:=hg; omega) fun h' eb=>⟨rfl,I.turned (t':=s.toks) (fun b o hb e=>eb b o hb e) f0 f1 f3 f4 f5⟩
 self:=fun _ _ _ _ _ st h=>wpAny_pyIter_rangeiter st h
section
variable {X:Cx} {tg:Expr}
theorem iy' {pins:List (Addr×Obj)} {σ:St} {H:Hp} {s:Shared} {R:It->Hp->Prop} {E:Value->Shared->Prop} {lo hi:Int} {t u v:Tok} {tk:Nat} (I:Inv X pins σ H s) (h1:-(2 ^ 62)<=lo) (h2:lo < 2 ^ 62) (h3:-(2 ^ 62)<=hi) (h4:hi < 2 ^ 62)
  (q:R (Itr lo (hi - lo).toNat) H):wpAny (model X.prog X.w) X.A (pyIter (.ref s.heap.objs.size)) (PIE X pins σ tg R) E { s with heap:=s.heap.push { cls:=.type "range",data:=.fields #[.int lo t,.int hi u,.int 1 v] },toks:=tk }:=by
 refine wpAny_pyIter_range (IsRange.new ..) (small_one h1 h2 h3 h4) ?_;have I1:Inv X pins σ H { s with heap:=s.heap.push { cls:=.type "range",data:=.fields #[.int lo t,.int hi u,.int 1 v] },toks:=tk }:=I.kept fun b o e=>Heap.get?_push_of_some _ e
 refine ⟨(s.heap.push { cls:=.type "range",data:=.fields #[.int lo t,.int hi u,.int 1 v] }).objs.size,[(s.heap.push { cls:=.type "range",data:=.fields #[.int lo t,.int hi u,.int 1 v] }).objs.size],_,_,H,rfl,
  I1.kept (t':=tk) fun b o e=>Heap.get?_push_of_some _ e,fX' _ lo (hi - lo).toNat,?_,fun b hb=>?_,q⟩
 ·have e1:lo + ((0:Nat):Int) * 1=lo:=by simp
  have e2:(((hi - lo).toNat:Nat):Int) - ((0:Nat):Int)=Builtin.Range.rangeSize lo hi 1:=by rw [rangeSize_one]; split <;> omega
  show IsRangeIter _ _ (lo + ((0:Nat):Int) * 1) ((((hi - lo).toNat:Nat):Int) - ((0:Nat):Int)) 1;rw [e1,e2];exact Heap.get?_push_size _ rfl
 ·have e:b=(s.heap.push { cls:=.type "range",data:=.fields #[.int lo t,.int hi u,.int 1 v] }).objs.size:=by simpa using hb
  subst e;exact I1.fpOk (Nat.le_refl _) (I1.hok.fresh (Nat.le_refl _))
noncomputable def tFor (wi:TI) (g:TG) (tb:TS):TS:=fun D σ H=>wi σ H fun J H1=>∃W:Nat->Nat->St->Hp->Prop,(∃m,W 0 m σ H1)/\∀i m σ H,W i m σ H ->
 (J.stop i H/\D.nx σ H)\/(J.go i H/\∃N:St->Hp->Prop,(∀σ' H',N σ' H'->∃m',m' < m/\W (i + 1) m' σ' H')/\∀x H',J.yld i H x H'->g x σ H' fun σ2 H2=>tb { D with nx:=N,ct:=N,bk:=D.nx } σ2 H2)
noncomputable def pinsAt (fp:List Addr) (h:Heap):List (Addr×Obj):=fp.filterMap fun b=>(h.get? b).map fun o=>(b,o)
theorem bN' {fp:List Addr} {h:Heap} {b:Addr} {o:Obj} (hb:b∈fp) (e:h.get? b=some o):(b,o)∈pinsAt fp h:=List.mem_filterMap.mpr ⟨b,hb,by rw [e]; rfl⟩
theorem gE' {fp:List Addr} {h:Heap} {p:Addr×Obj} (hp:p∈pinsAt fp h):p.1∈fp/\h.get? p.1=some p.2:=by
 obtain ⟨b,hb,e⟩:=List.mem_filterMap.mp hp
 cases q:h.get? b with
 | none=>rw [q] at e; cases e
 | some o =>
  rw [q] at e;have e':(b,o)=p:=Option.some.inj e;subst e';exact ⟨hb,q⟩
theorem Inv.pinned {pins:List (Addr×Obj)} {σ:St} {H:Hp} {s:Shared} {fp:List Addr} (I:Inv X pins σ H s) (hf:∀b∈fp,FpOk X pins H b) (ho:∀b∈fp,∃o,s.heap.get? b=some o/\∀v,o.data≠.cell v):Inv X (pins ++ pinsAt fp s.heap) σ H s :=
 I.pins_of fun p hp=>(List.mem_append.mp hp).elim (fun z=>I.pin p (List.mem_append_right _ z)) fun z=>by
  obtain ⟨hb,e⟩:=gE' z;obtain ⟨f0,f1,f2,_⟩:=hf p.1 hb;obtain ⟨o,e',d⟩:=ho p.1 hb;rw [e] at e'; cases e';exact ⟨e,f0,f1,f2,d⟩
theorem Inv.unpinned {pins pl:List (Addr×Obj)} {σ:St} {H:Hp} {s:Shared} (I:Inv X (pins ++ pl) σ H s):Inv X pins σ H s:=I.pins_of fun p hp=>I.pin p (List.mem_append_right _ (List.mem_append_left _ hp))
theorem jC' {iter:Expr} {body:List Stmt} {wi:TI} {g:TG} {tb:TS} {pos:Pos} (hp:PassesOwn (model X.prog X.w) X.A X.env X.xe) (hc:X.calm=true) (hi:PI X tg iter wi) (hg:PG X tg g) (hb:PSs X body tb)
  (hs:∀x,foldedSetIterable iter X.env x=pure x:=by intro _; rfl):PS X (.For tg iter body [] pos) (tFor wi g tb):=by
 intro pins s σ H D I h;refine wpAny_For (thn (hi pins s σ H _ I h) fun v s1 h1=>thn h1 fun itv s2 h2=>?_) hs;obtain ⟨it,fp,tn,J,H2,e,I2,T,st2,f2,W,⟨m0,w0⟩,turn⟩:=h2;subst e;have stat:∀{H':Hp},(∀b∈fp,H' b=none)->∀b∈fp,FpOk X pins H' b:=fun hn b hb=>⟨hn b hb,(f2 b hb).2⟩;refine codeAny_forLoop_any (fun n s'=>∃i σ' H',Inv X pins σ' H' s'/\tn i s'.heap/\(∀b∈fp,H' b=none)/\W i n σ' H') ?_ m0 ⟨0,σ,H2,I2,st2,fun b hb=>(f2 b hb).1,w0⟩
 rintro n s3 ⟨i,σ3,H3,I3,st3,fr3,w3⟩
 rcases turn i n σ3 H3 w3 with ⟨stop,qn⟩ | ⟨go,N,hN,step⟩
 ·refine wpAny_passesOwn hp (thn (T.done X rfl rfl rfl hc i pins s3 σ3 H3 X.xe I3 (stat fr3) st3 stop) fun r s4 ⟨hr,I4⟩=>?_)
  subst hr;exact wpAny_execs_nil ⟨σ3,H3,I4,qn⟩
 ·refine wpAny_passesOwn hp (thn (T.item X rfl rfl rfl hc i pins s3 σ3 H3 X.xe I3 (stat fr3) st3 go) fun r s4 ⟨u,hr,h4⟩=>?_);subst hr;refine wpAny_passesOwn hp (thn h4 fun _ s5 ⟨x,H5,I5,r5,y5,st5,fr5⟩=>?_);have I5':=I5.pinned (stat fr5) (T.obj _ _ st5);refine wpAny_passesOwn hp (thn (hg _ s5 σ3 H5 x u _ I5' r5 (step x H5 y5)) fun _ s6 ⟨σ6,H6,I6,q6⟩=>?_);refine wpAny_passesOwn hp (thn (hb _ s6 σ6 H6 _ I6 q6) fun f s7 q7=>?_);have again:∀{σ7:St} {H7:Hp},Inv X (pins ++ pinsAt fp s5.heap) σ7 H7 s7->N σ7 H7->∃m,m < n/\∃i σ' H',Inv X pins σ' H' s7/\tn i s7.heap/\(∀b∈fp,H' b=none)/\W i m σ' H':=fun {σ7 H7} I7 n7=>by
   obtain ⟨m',hm,w7⟩:=hN σ7 H7 n7;refine ⟨m',hm,i + 1,σ7,H7,I7.unpinned,T.keep _ _ _ st5 fun b hb o e=>(I7.pin (b,o) (List.mem_append_right _ (List.mem_append_right _ (bN' hb e)))).1,fun b hb=>?_,w7⟩;obtain ⟨o,e,d⟩:=T.obj _ _ st5 b hb;exact (I7.pin (b,o) (List.mem_append_right _ (List.mem_append_right _ (bN' hb e)))).2.1
  cases f with
  | next=>obtain ⟨σ7,H7,I7,n7⟩:=q7; exact again I7 n7
  | cont=>obtain ⟨σ7,H7,I7,n7⟩:=q7; exact again I7 n7
  | brk=>obtain ⟨σ7,H7,I7,q7⟩:=q7; exact ⟨σ7,H7,I7.unpinned,q7⟩
  | ret v=>obtain ⟨x7,σ7,H7,I7,r7,q7⟩:=q7; exact ⟨x7,σ7,H7,I7.unpinned,r7,q7⟩
end
abbrev R2:=V->V->Hp->VK->Prop
noncomputable def OpR (X:Cx) (f:Value->Value->Sem Value) (r:R2):Prop :=
 ∀(pins:List (Addr×Obj)) (s:Shared) (σ:St) (H:Hp) (x y:V) (v u:Value) (Q:VK),Inv X pins σ H s->RelV x v->RelV y u->r x y H Q ->
  wpAny (model X.prog X.w) X.A (f v u) (EP X pins σ Q) X.xe s
noncomputable def UnR (X:Cx) (f:Value->Sem Value) (r:V->Hp->VK->Prop):Prop :=
 ∀(pins:List (Addr×Obj)) (s:Shared) (σ:St) (H:Hp) (x:V) (v:Value) (Q:VK),Inv X pins σ H s->RelV x v->r x H Q ->
  wpAny (model X.prog X.w) X.A (f v) (EP X pins σ Q) X.xe s
noncomputable def CallR (X:Cx) (f:Value) (r:List V->Hp->VK->Prop):Prop :=
 ∀(pins:List (Addr×Obj)) (s:Shared) (σ:St) (H:Hp) (xs:List V) (us:List Value) (Q:VK),Inv X pins σ H s->Vals xs us->r xs H Q ->
  wpAny (model X.prog X.w) X.A (call f us) (EP X pins σ Q) X.xe s
noncomputable def TruR (X:Cx) (r:V->Hp->(Bool->Hp->Prop)->Prop):Prop :=
 ∀(pins:List (Addr×Obj)) (s:Shared) (σ:St) (H:Hp) (x:V) (v:Value) (Q:Bool->Hp->Prop),Inv X pins σ H s->RelV x v->r x H Q ->
  wpAny (model X.prog X.w) X.A (truthy v) (TP X pins σ Q) X.xe s
noncomputable def rI (C:Int->Int->Prop) (g:Int->Int->V):R2:=fun x y H Q=>∃i j,x=.int i/\y=.int j/\C i j/\Q (g i j) H
noncomputable def rI0 (g:Int->Int->V):R2:=fun x y H Q=>∃i j,x=.int i/\y=.int j/\Q (g i j) H
noncomputable def rU (g:Int->V):V->Hp->VK->Prop:=fun x H Q=>∃i,x=.int i/\Q (g i) H
section
variable {X:Cx} {a b c:Expr} {ta tb tc:TE} {pos:Pos}
theorem opI {f:Value->Value->Sem Value} {C:Int->Int->Prop} {g:Int->Int->Int}
  (rule:∀(i j:Int) (t u:Tok) (s:Shared) (Q:Value->Shared->Prop) (E:Value->Shared->Prop),C i j->Q (.int (g i j) s.toks) { s with toks:=s.toks + 1 }->wpAny (model X.prog X.w) X.A (f (.int i t) (.int j u)) Q E s) :
  OpR X f (rI C fun i j=>.int (g i j)):=by
 intro pins s σ H x y v u Q I rx ry h;obtain ⟨i,j,rfl,rfl,hc,q⟩:=h;obtain ⟨t,rfl⟩:=rx;obtain ⟨t',rfl⟩:=ry;exact rule i j t t' s _ _ hc ⟨.int (g i j),H,I.tok _,⟨_,rfl⟩,q⟩
theorem opI0 {f:Value->Value->Sem Value} {g:Int->Int->Int}
  (rule:∀(i j:Int) (t u:Tok) (s:Shared) (Q:Value->Shared->Prop) (E:Value->Shared->Prop),Q (.int (g i j) s.toks) { s with toks:=s.toks + 1 }->wpAny (model X.prog X.w) X.A (f (.int i t) (.int j u)) Q E s) :
  OpR X f (rI0 fun i j=>.int (g i j)):=by
 intro pins s σ H x y v u Q I rx ry h;obtain ⟨i,j,rfl,rfl,q⟩:=h;obtain ⟨t,rfl⟩:=rx;obtain ⟨t',rfl⟩:=ry;exact rule i j t t' s _ _ ⟨.int (g i j),H,I.tok _,⟨_,rfl⟩,q⟩
theorem opB0 {f:Value->Value->Sem Value} {g:Int->Int->Bool}
  (rule:∀(i j:Int) (t u:Tok) (s:Shared) (Q:Value->Shared->Prop) (E:Value->Shared->Prop),Q (.bool (g i j)) s->wpAny (model X.prog X.w) X.A (f (.int i t) (.int j u)) Q E s) :
  OpR X f (rI0 fun i j=>.bl (g i j)):=by
 intro pins s σ H x y v u Q I rx ry h;obtain ⟨i,j,rfl,rfl,q⟩:=h;obtain ⟨t,rfl⟩:=rx;obtain ⟨t',rfl⟩:=ry;exact rule i j t t' s _ _ ⟨.bl (g i j),H,I,rfl,q⟩
noncomputable def CPow (i j:Int):Prop:=0<=j/\j<=1000000/\i.natAbs < 2 ^ 64
noncomputable def CMul (i j:Int):Prop:=(-(2 ^ 64) < i/\i < 2 ^ 64)\/(-(2 ^ 64) < j/\j < 2 ^ 64)
theorem CMul.ok {i j:Int} (h:CMul i j):IntMulOk i j:=by
 rcases h with ⟨h1,h2⟩ | ⟨h1,h2⟩
 ·exact .of_left (intBits_le_64 h1 h2)
 ·exact .of_right (intBits_le_64 h1 h2)
theorem op_add:OpR X (binaryOp .Add) (rI0 fun i j=>.int (i + j)):=opI0 fun _ _ _ _ _ _ _ q=>add_int q
theorem lF':OpR X (binaryOp .Sub) (rI0 fun i j=>.int (i - j)):=opI0 fun _ _ _ _ _ _ _ q=>sub_int q
theorem kk':OpR X (binaryOp .Mod) (rI (fun _ j=>j≠0) fun i j=>.int (i.fmod j)):=opI fun _ _ _ _ _ _ _ hc q=>mod_int' hc q
theorem lG':OpR X (binaryOp .Pow) (rI CPow fun i j=>.int (i ^ j.toNat)):=opI fun _ _ _ _ _ _ _ hc q=>pow_int_small hc.1 hc.2.1 hc.2.2 q
theorem lH':OpR X (binaryOp .LShift) (rI CPow fun i j=>.int (i * 2 ^ j.toNat)):=opI fun _ _ _ _ _ _ _ hc q=>lshift_int_small hc.1 hc.2.1 hc.2.2 q
theorem unI {f:Value->Sem Value} {g:Int->Int}
  (rule:∀(i:Int) (t:Tok) (s:Shared) (Q:Value->Shared->Prop) (E:Value->Shared->Prop),Q (.int (g i) s.toks) { s with toks:=s.toks + 1 }->wpAny (model X.prog X.w) X.A (f (.int i t)) Q E s) :
  UnR X f (rU fun i=>.int (g i)):=by
 intro pins s σ H x v Q I rx h;obtain ⟨i,rfl,q⟩:=h;obtain ⟨t,rfl⟩:=rx;exact rule i t s _ _ ⟨.int (g i),H,I.tok _,⟨_,rfl⟩,q⟩
theorem lI':UnR X (unaryOp .USub) (rU fun i=>.int (-i)):=unI fun _ _ _ _ _ q=>neg_int q
end
section
variable {X:Cx} {a b c:Expr} {ta tb tc:TE} {pos:Pos}
theorem mR':OpR X (compareOp .Lt) (rI0 fun i j=>.bl (decide (i < j))):=opB0 fun _ _ _ _ _ _ _ q=>lt_int q
theorem mS':OpR X (compareOp .Gt) (rI0 fun i j=>.bl (decide (j < i))):=opB0 fun _ _ _ _ _ _ _ q=>gt_int q
theorem OpR.or {f:Value->Value->Sem Value} {r r':R2} (h:OpR X f r) (h':OpR X f r'):OpR X f (fun x y H Q=>r x y H Q\/r' x y H Q):=by
 intro pins s σ H x y v u Q I rx ry q;rcases q with q | q
 ·exact h pins s σ H x y v u Q I rx ry q
 ·exact h' pins s σ H x y v u Q I rx ry q
theorem aK' (b:Expr) {op:CmpOp} (h:op≠.In:=by decide) (h2:op≠.NotIn:=by decide):behindInMarks op b=false:=by
 have e1:(op == CmpOp.In)=false:=by cases op <;> first | rfl | exact absurd rfl h
 have e2:(op == CmpOp.NotIn)=false:=by cases op <;> first | rfl | exact absurd rfl h2
 cases b <;> simp [behindInMarks,e1,e2]
noncomputable def TruV (K:PySem.W.Frag) (x:V) (H:Hp) (k:Bool):Prop :=
 match x with
 | .non=>k=false
 | .bl b=>k=b
 | .int i=>k=(i != 0)
 | .str y=>y.length<=sizeLine/\k=((y.length:Int) != 0)
 | .byt y=>y.size<=sizeLine/\k=((y.size:Int) != 0)
 | .ref p=>(∃xs,SqL K H p xs/\k = !xs.isEmpty)\/(∃xs,SqT K H p xs/\k = !xs.isEmpty)\/∃kvs,H p=some (.dK kvs)/\k = !kvs.isEmpty
 | _=>False
theorem fY' {κ:Type} {kvs:List (κ×V)} {vs:List (κ×Value)} (r:KV kvs vs):(!vs.isEmpty) = !kvs.isEmpty:=by
 cases r <;> rfl
theorem de' {xs:List V} {its:List Value} (r:Vals xs its):(!its.toArray.isEmpty) = !xs.isEmpty:=by
 cases r <;> simp
theorem df':(sizeLine:Nat) < 2 ^ 63:=by rw [sizeLine_eq]; decide
theorem lJ':TruR X (fun x H Q=>∃k,TruV X.K x H k/\Q k H):=by
 intro pins s σ H x v Q I rx h;obtain ⟨k,e,q⟩:=h;have hl:=df';have hs:sizeLine=16777216:=sizeLine_eq
 cases x with
 | non =>
  cases rx
  have e':k=false:=e;subst e';exact truthy_none ⟨H,I,q⟩
 | bl b =>
  cases rx
  have e':k=b:=e;subst e';exact wpAny_truthy_bool ⟨H,I,q⟩
 | int i =>
  obtain ⟨t,rfl⟩:=rx;have e':k=(i != 0):=e;subst e';exact PySem.P.truthy_int ⟨H,I,q⟩
 | str y =>
  obtain ⟨t,rfl⟩:=rx;obtain ⟨hy,e'⟩:y.length<=sizeLine/\k=((y.length:Int) != 0):=e;subst e';exact PySem.P.truthy_str (by omega) ⟨H,I.tok _,q⟩
 | byt y =>
  obtain ⟨t,rfl⟩:=rx;obtain ⟨hy,e'⟩:y.size<=sizeLine/\k=((y.size:Int) != 0):=e;subst e';exact PySem.W.truthy_bytes (by omega) ⟨H,I.tok _,q⟩
 | ref p =>
  cases rx
  have e':(∃xs,SqL X.K H p xs/\k = !xs.isEmpty)\/(∃xs,SqT X.K H p xs/\k = !xs.isEmpty)\/∃kvs,H p=some (.dK kvs)/\k = !kvs.isEmpty:=e;rcases e' with ⟨xs,hx,e'⟩ | ⟨xs,hx,e'⟩ | ⟨kvs,hx,e'⟩
  ·subst e';obtain ⟨its,r,pl,hz⟩:=I.list hx;have hlen:=r.length;exact wpAny_truthy_list pl.isList (by simp only [List.size_toArray]; omega) ⟨H,I.tok _,by rw [de' r]; exact q⟩
  ·subst e';obtain ⟨its,r,pl,hz⟩:=I.tuple hx;have hlen:=r.length;exact truthy_tuple pl (by simp only [List.size_toArray]; omega) ⟨H,I.tok _,by rw [de' r]; exact q⟩
  ·subst e';obtain ⟨hz,hS,vs,r,m⟩:kvs.length<=sizeLine/\(p == sysModules)=false/\∃vs,KV kvs vs/\s.heap.DictOf (mixKind X.prog X.w) p vs:=I.hok p _ hx;have hlen:kvs.length=vs.length:=Paired.length r;exact wpAny_truthy_dict hS m (by omega) ⟨H,I.tok _,by rw [fY' r]; exact q⟩
 | _=>exact (show False from e).elim
theorem op_add_str:OpR X (binaryOp .Add) (fun x y H Q=>∃i j,x=.str i/\y=.str j/\i.length + j.length<=sizeLine/\Q (.str (i ++ j)) H):=by
 intro pins s σ H x y v u Q I rx ry h;obtain ⟨i,j,rfl,rfl,hz,q⟩:=h;obtain ⟨t,rfl⟩:=rx;obtain ⟨t',rfl⟩:=ry;exact add_str (fun t' tk=>⟨.str (i ++ j),H,I.tok _,⟨_,rfl⟩,q⟩) hz
theorem vals1 {x:V} {us:List Value} (r:Vals [x] us):∃u,us=[u]/\RelV x u:=by
 cases r with
 | cons r1 r2=>cases r2; exact ⟨_,rfl,r1⟩
theorem iz':CallR X (.builtin "abs") (fun xs H Q=>∃i,xs=[.int i]/\Q (.int (if i < 0 then -i else i)) H):=by
 intro pins s σ H xs us Q I r h;obtain ⟨i,rfl,q⟩:=h;obtain ⟨u,rfl,t,rfl⟩:=vals1 r;exact call_abs_int fun u tk=>⟨.int (if i < 0 then -i else i),H,I.tok _,⟨_,rfl⟩,q⟩
noncomputable def LenV (K:PySem.W.Frag) (x:V) (H:Hp) (n:Nat):Prop :=
 match x with
 | .str y=>y.length<=sizeLine/\n=y.length
 | .byt y=>y.size<=sizeLine/\n=y.size
 | .ref p=>(∃xs,SqL K H p xs/\n=xs.length)\/∃xs,SqT K H p xs/\n=xs.length
 | _=>False
theorem iA':CallR X (.builtin "len") (fun xs H Q=>∃x n,xs=[x]/\LenV X.K x H n/\Q (.int n) H):=by
 intro pins s σ H xs us Q I r h;obtain ⟨x,n,rfl,e,q⟩:=h;obtain ⟨u,rfl,rx⟩:=vals1 r;have hl:=df';have hs:sizeLine=16777216:=sizeLine_eq
 cases x with
 | str y =>
  obtain ⟨t,rfl⟩:=rx;obtain ⟨hy,e'⟩:y.length<=sizeLine/\n=y.length:=e;subst e';exact len_str (by omega) ⟨.int _,H,I.tok _,⟨_,rfl⟩,q⟩
 | byt y =>
  obtain ⟨t,rfl⟩:=rx;obtain ⟨hy,e'⟩:y.size<=sizeLine/\n=y.size:=e;subst e';exact PySem.W.len_bytes (by omega) ⟨.int _,H,I.tok _,⟨_,rfl⟩,q⟩
 | ref p =>
  cases rx
  have e':(∃xs,SqL X.K H p xs/\n=xs.length)\/∃xs,SqT X.K H p xs/\n=xs.length:=e;rcases e' with ⟨xs,hx,e'⟩ | ⟨xs,hx,e'⟩
  ·subst e';obtain ⟨its,r',pl,hz⟩:=I.list hx;have hlen:=r'.length;exact Calls.call_len_list pl.isList (by simp only [List.size_toArray]; omega) ⟨.int xs.length,H,I.tok _,⟨_,by simp only [List.size_toArray]; rw [hlen]⟩,q⟩
  ·subst e';obtain ⟨its,r',pl,hz⟩:=I.tuple hx;have hlen:=r'.length;exact len_tuple pl (by simp only [List.size_toArray]; omega) ⟨.int xs.length,H,I.tok _,⟨_,by simp only [List.size_toArray]; rw [hlen]⟩,q⟩
 | _=>exact (show False from e).elim
end
structure ObjM (h:Heap) (x dx C:Addr) (mA:Str->Option Value):Prop where
 obj:h.get? x=some (PySem.W.instObj C dx)
 ns:h.Ns1 dx mA
 ne:dx≠x
theorem gF' {h:Heap} {dx:Addr} {mA:Str->Option Value} (n:h.Ns1 dx mA):∃od,h.get? dx=some od/\∀name,PySem.W.lookIn name od=some (mA name):=by
 obtain ⟨o,es,ep,ho,hd,hk,_,hm⟩:=n;refine ⟨o,ho,fun name=>?_⟩;have e:=hm name;unfold nsFind findBy at e;rw [<- Array.find?_toList] at e;unfold PySem.W.lookIn;rw [hd];dsimp only
 split
 ·rename_i y q;rw [q] at e;exact congrArg some e
 ·rename_i q;rw [q] at e;have a:es.toList.any (·.refKey)=false:=by
   rw [List.any_eq_false];intro y hy;obtain ⟨z,t,hkey⟩:=hk y (Array.mem_toList_iff.mp hy);simp [DictEntry.refKey,hkey]
  have a':¬es.toList.any (·.refKey)=true:=by rw [a]; exact Bool.false_ne_true
  rw [if_neg a'];exact congrArg some e
theorem ObjM.look {h:Heap} {x dx C:Addr} {mA:Str->Option Value} (I:ObjM h x dx C mA):∃od,PySem.W.InstAt h x (PySem.W.instObj C dx) C (some od)/\∀name,PySem.W.lookIn name od=some (mA name) :=
 let ⟨od,ho,hl⟩:=gF' I.ns
 ⟨od,⟨I.obj,rfl,rfl,ho⟩,hl⟩
section
variable {prog:Program} {w:World} {A:Around} {E:Value->Shared->Prop} {s:Shared} {K:PySem.W.Frag} {x dx C f:Addr} {mA:Str->Option Value} {name:Str} {v:Value}
end
section
variable {P:Program} {w:World} {H H':Hp} {h h':Heap} {a C dx:Addr} {fs fs':List (Str×V)}
theorem kl' (hok:HOk P w H h) (e:H a=some (.ins C dx fs)):∃mA,ObjM h a dx C mA/\(∀f,RelO (fs.lookup f) (mA f))/\PySem.Within mA (fs.map (·.1))/\fs.length<=1000/\H dx=some (.own a):=by
 obtain ⟨d,z,ne,ob,mA,n,r,q⟩:=(show ObjOk P w H h a (.ins C dx fs) from hok a _ e)
 exact ⟨mA,⟨ob,n,ne⟩,r,q,z,d⟩
end
structure Cls (K:PySem.W.Frag) (C:Addr):Prop where
 pg:PySem.W.plainGet K C Str.empty=true
 hd:PySem.W.hasDictIn K C=true
 po:PySem.W.plainOver K C=true
 sa:PySem.W.findIn K (.ref C) "__setattr__" = some (some (.builtin "object.__setattr__"))
theorem Cls.get {K:PySem.W.Frag} {C:Addr} (c:Cls K C) (f:Str):PySem.W.plainGet K C f=true:=c.pg
structure Con (K:PySem.W.Frag) (C:Addr) (f:Str) (v:V) (u:Value):Prop where
 at_:PySem.W.findIn K (.ref C) f=some (some u)
 rel:RelV v u
 get:PySem.W.specialIn K u "__get__" = some none
 cp:PySem.W.copiedNames.contains f=false
structure Meth (K:PySem.W.Frag) (C:Addr) (m:Str) (f:Addr):Prop where
 at_:PySem.W.findIn K (.ref C) m=some (some (.ref f))
 fn:PySem.W.isFn K (.ref f)=true
 kp:PySem.W.keepIn K (.ref f)=true
section
variable {X:Cx} {pins:List (Addr×Obj)} {σ:St} {H:Hp} {s:Shared} {a C dx:Addr} {fs:List (Str×V)} {f:Str} {v:V} {A:Around} {E:Value->Shared->Prop}
theorem Inv.made (I:Inv X pins σ H s):Inv X pins σ (upd (upd H s.heap.objs.size (.own (s.heap.objs.size + 1))) (s.heap.objs.size + 1) (.ins C s.heap.objs.size []))
    { s with heap:=(s.heap.push PySem.W.emptyDict).push (PySem.W.instObj C s.heap.objs.size) }:=by
  have e1:(s.heap.push PySem.W.emptyDict).get? s.heap.objs.size=some PySem.W.emptyDict:=Heap.get?_push_size s.heap rfl;have e2:((s.heap.push PySem.W.emptyDict).push (PySem.W.instObj C s.heap.objs.size)).get? (s.heap.objs.size + 1)=some (PySem.W.instObj C s.heap.objs.size):=by
    have:=Heap.get?_push_size (s.heap.push PySem.W.emptyDict) (o:=PySem.W.instObj C s.heap.objs.size) rfl
    rwa [Heap.size_push] at this
  have e3:(s.heap.push PySem.W.emptyDict).Ns s.heap.objs.size (fun _=>none):=⟨PySem.W.emptyDict,#[],_,e1,rfl,(fun e he=>absurd he (by simp)),fun _=>rfl⟩;have I1:=I.laid (a:=s.heap.objs.size) (o:=.own (s.heap.objs.size + 1)) (h':=s.heap.push PySem.W.emptyDict) (t':=s.toks) (fun b u q=>Heap.get?_push_of_some _ q) (Nat.le_refl _) ⟨_,e1⟩;refine I1.laid (a:=s.heap.objs.size + 1) (o:=.ins C s.heap.objs.size []) (t':=s.toks) (fun b u q=>Heap.get?_push_of_some _ q) (Nat.le_of_eq (Heap.size_push _ _)) ?_;have ne:s.heap.objs.size≠s.heap.objs.size + 1:=Nat.ne_of_lt (Nat.lt_succ_self _);refine ⟨by rw [am' ne,aq'],Nat.zero_le _,ne,e2,fun _=>none,(Heap.Ns1.of_empty e3).at fun o q=>Heap.get?_push_of_some _ q,fun _=>True.intro,fun y hy=>absurd rfl hy⟩
end
section
variable {X:Cx} {o e value:Expr} {f:Str} {pos pos' tpos:Pos} {ta tv:TE}
end
section
variable {X:Cx} {pins:List (Addr×Obj)} {σ:St} {H:Hp} {s:Shared} {A:Around} {E:Value->Shared->Prop} {Q:Value->Shared->Prop} {c:Value} {b:Bool}
inductive TyOf (K:PySem.W.Frag) (H:Hp):V->Value->Prop where
 | non:TyOf K H .non (.type "NoneType")
 | bl (x:Bool):TyOf K H (.bl x) (.type "bool")
 | int (i:Int):TyOf K H (.int i) (.type "int")
 | str (x:Str):TyOf K H (.str x) (.type "str")
 | flt (x:UInt64):TyOf K H (.flt x) (.type "float")
 | lst {a:Addr} {xs:List V} (e:H a=some (.lst xs)):TyOf K H (.ref a) (.type "list")
 | frz {a:Addr} {o:Obj} {xs:List V} (e:H a=some (.frz o (.lst xs))):TyOf K H (.ref a) (.type "list")
 | tup {a:Addr} {xs:List V} (e:H a=some (.tup xs)):TyOf K H (.ref a) (.type "tuple")
 | dK {a:Addr} {kvs:List (Key×V)} (e:H a=some (.dK kvs)):TyOf K H (.ref a) (.type "dict")
 | dT {a:Addr} {kvs:List (List Key×V)} (e:H a=some (.dT kvs)):TyOf K H (.ref a) (.type "dict")
 | ins {a C dx:Addr} {fs:List (Str×V)} (e:H a=some (.ins C dx fs)) (cl:Cls K C) (ha:PySem.W.findIn K (.ref C) "__class__" = some (some (.builtin "object.__class__")))
   (hn:PySem.W.specialIn K (.builtin "object.__class__") "__get__" = some (some (.builtin "getset_descriptor.__get__"))) (htk:PySem.W.takesIn K (.builtin "object.__class__")=some true)
   (hm:PySem.W.mroIn K C (.type "object")=some true):TyOf K H (.ref a) (.ref C)
theorem ce' {x:V} {u t:Value} (I:Inv X pins σ H s) (rx:RelV x u) (ty:TyOf X.K H x t) (e:PySem.W.kitOne X.K t c=some b) (h:∀tk,Q (.bool b) { s with toks:=tk }) :
  wpAny (model X.prog X.w) A (call (.builtin "isinstance") [u,c]) Q E s:=by
 cases ty with
 | non=>cases (show u=Value.none from rx); exact PySem.W.kia_one PySem.W.kitx_none I.kIn True.intro e (fun z=>nomatch z) h
 | bl y=>cases (show u=Value.bool y from rx); exact PySem.W.kia_one PySem.W.kitx_bool I.kIn True.intro e (fun z=>nomatch z) h
 | int i=>obtain ⟨t,q⟩:=(show ∃t,u=Value.int i t from rx); cases q; exact PySem.W.kia_one PySem.W.kitx_int I.kIn True.intro e (fun z=>nomatch z) h
 | str y=>obtain ⟨t,q⟩:=(show ∃t,u=Value.str y t from rx); cases q; exact PySem.W.kia_one PySem.W.kitx_str I.kIn True.intro e (fun z=>nomatch z) h
 | flt y=>obtain ⟨t,q⟩:=(show ∃t,u=Value.float y t from rx); cases q; exact PySem.W.kia_one PySem.W.kitx_float I.kIn True.intro e (fun z=>nomatch z) h
 | @lst a xs ea =>
  cases (show u=Value.ref a from rx)
  obtain ⟨_,_,n,_,h1⟩:=(show ObjOk X.prog X.w H s.heap a (.lst xs) from I.hok a _ ea)
  exact PySem.W.kia_one PySem.W.kitx_list I.kIn ⟨_,h1,rfl⟩ e (fun z=>nomatch z) h
 | @frz a ob xs ea =>
  cases (show u=Value.ref a from rx)
  obtain ⟨_,_,_,n,_,h1⟩:=(show ObjOk X.prog X.w H s.heap a (.frz ob (.lst xs)) from I.hok a _ ea)
  exact PySem.W.kia_one PySem.W.kitx_list I.kIn ⟨_,h1,rfl⟩ e (fun z=>nomatch z) h
 | @tup a xs ea =>
  cases (show u=Value.ref a from rx)
  obtain ⟨_,_,_,p⟩:=(show ObjOk X.prog X.w H s.heap a (.tup xs) from I.hok a _ ea)
  obtain ⟨o,h1,h2,_⟩:=p;exact PySem.W.kia_one PySem.W.kitx_tuple I.kIn ⟨o,h1,h2⟩ e (fun z=>nomatch z) h
 | @dK a kvs ea =>
  cases (show u=Value.ref a from rx)
  obtain ⟨_,_,vs,_,p⟩:=(show ObjOk X.prog X.w H s.heap a (.dK kvs) from I.hok a _ ea)
  obtain ⟨o,es,ep,h1,h2,_⟩:=p;exact PySem.W.kia_one PySem.W.kitx_dict I.kIn ⟨o,h1,h2.1⟩ e (fun z=>nomatch z) h
 | @dT a kvs ea =>
  cases (show u=Value.ref a from rx)
  obtain ⟨_,_,xs,_,o,es,ep,h1,h2,_⟩:=(show ObjOk X.prog X.w H s.heap a (.dT kvs) from I.hok a _ ea)
  exact PySem.W.kia_one PySem.W.kitx_dict I.kIn ⟨o,h1,h2.1⟩ e (fun z=>nomatch z) h
 | @ins a C dx fs ea cl ha hn htk hm =>
  cases (show u=Value.ref a from rx)
  obtain ⟨mA,O,_⟩:=kl' I.hok ea;obtain ⟨od,J,_⟩:=O.look;exact PySem.W.kia_one (PySem.W.kitx_own (cl.get _) cl.hd ha hn htk hm) I.kIn J e (fun z=>nomatch z) h
end
structure Room (k:Nat) (A:Around):Prop where
 hd:A.handled=none
 dp:A.depth + 3 * k + 5 < recursionLimit
 un:A.units + 16 * k + 200 < cLine
theorem Room.mono {j k:Nat} {A:Around} (r:Room k A) (h:j<=k):Room j A:=⟨r.hd,by have:=r.dp; omega,by have:=r.un; omega⟩
theorem Room.deeper {k:Nat} {A:Around} (r:Room (k + 1) A) (env:Env):Room k (A.deeper env) :=
 ⟨r.hd,by have:=r.dp; show A.depth + 1 + 3 * k + 5 < _; omega,by have:=r.un; show A.units + 3 + 16 * k + 200 < _; omega⟩
theorem Room.in1 {k:Nat} {A:Around} (r:Room (k + 1) A):Room k A.in1 :=
 ⟨r.hd,by have:=r.dp; show A.depth + 3 * k + 5 < _; omega,by have:=r.un; show A.units + 1 + 16 * k + 200 < _; omega⟩
theorem Room.depth {k:Nat} {A:Around} (r:Room k A):A.depth < recursionLimit:=by have:=r.dp; omega
theorem Room.units {k:Nat} {A:Around} (r:Room k A):A.units + 64 < cLine:=by have:=r.un; omega
section
variable {X:Cx} {e:Expr} {es:List Expr} {te:TE} {t:TA} {pos:Pos}
end
abbrev Sp:=List V->Hp->VK->XK->Prop
abbrev CXT:=List Env->Hp->Shared->XK->Value->Shared->Prop
structure Env0 (P:Program) (w:World) (K:PySem.W.Frag) (mg:Str->Option Value) (base:Heap) (A:Around) (outer:List Env) (s:Shared) (H:Hp):Prop where
 frames:A.frames=some outer
 mod:Mod K mg base
 bs:∀b o,base.get? b=some o->s.heap.get? b=some o/\H b=none
 bsz:base.objs.size<=s.heap.objs.size
 funs:s.heap.FunFrames base outer
 frf:∀b∈frs outer,H b=none
 hok:HOk P w H s.heap
 bare:AllBare s.gens
noncomputable def CE (outer:List Env) (P:Program) (w:World) (H:Hp) (s:Shared) (Q:VK) (u:Value) (s':Shared):Prop :=
 ∃v H',s'.os=s.os/\AllBare s'.gens/\Un (frs outer) [] H H' s.heap s'.heap/\HOk P w H' s'.heap/\RelV v u/\Q v H'
noncomputable def CR (CX:CXT) (outer:List Env) (P:Program) (w:World) (H:Hp) (s:Shared) (Q:VK) (E:XK) (r:Result) (s':Shared):Prop :=
 match r with
 | .ok (.ret u)=>CE outer P w H s Q u s'
 | .ok _=>False
 | .error e=>CX outer H s E e s'
structure FnOk (P:Program) (w:World) (K:PySem.W.Frag) (mg:Str->Option Value) (base:Heap) (CX:CXT) (k:Nat) (f:Addr) (fd:FuncData) (ps:List Str) (sp:Sp):Prop where
 len:∀vs H Q E,sp vs H Q E->vs.length=ps.length
 run:∀(A:Around) (outer:List Env) (s:Shared) (H:Hp) (args:Args) (us:List Value) (vs:List V) (Q:VK) (E:XK),Room k A->Env0 P w K mg base A outer s H->BindsTo s fd args (ps.zip us)->Vals vs us->sp vs H Q E ->
  codeAny (model P w) A (.call (.ref f) args) (CR CX outer P w H s Q E) s
theorem FnOk.mono {P:Program} {w:World} {K:PySem.W.Frag} {mg:Str->Option Value} {base:Heap} {CX:CXT} {j k:Nat} {f:Addr} {fd:FuncData} {ps:List Str} {sp:Sp} (F:FnOk P w K mg base CX j f fd ps sp) (h:j<=k) :
  FnOk P w K mg base CX k f fd ps sp:=⟨F.len,fun A outer s H args us vs Q E hr=>F.run A outer s H args us vs Q E (hr.mono h)⟩
theorem FnOk.imp {P:Program} {w:World} {K:PySem.W.Frag} {mg:Str->Option Value} {base:Heap} {CX:CXT} {k:Nat} {f:Addr} {fd:FuncData} {ps:List Str} {sp sp':Sp} (F:FnOk P w K mg base CX k f fd ps sp)
  (h:∀vs H Q E,sp' vs H Q E->sp vs H Q E):FnOk P w K mg base CX k f fd ps sp' :=
 ⟨fun vs H Q E q=>F.len vs H Q E (h _ _ _ _ q),fun A outer s H args us vs Q E hr he hb hv hs=>F.run A outer s H args us vs Q E hr he hb hv (h _ _ _ _ hs)⟩
theorem Env0.in1 {P:Program} {w:World} {K:PySem.W.Frag} {mg:Str->Option Value} {base:Heap} {A:Around} {outer:List Env} {s:Shared} {H:Hp} (e:Env0 P w K mg base A outer s H) :
  Env0 P w K mg base A.in1 outer s H:=⟨e.frames,e.mod,e.bs,e.bsz,e.funs,e.frf,e.hok,e.bare⟩
section
variable {X:Cx} {pins:List (Addr×Obj)} {σ:St} {H:Hp} {s s':Shared}
theorem Inv.env0 (I:Inv X pins σ H s):Env0 X.prog X.w X.K X.mg X.base X.A X.stack s H :=
 ⟨I.ok.frames,I.ok.mod,I.bs,Nat.le_trans I.ok.bsz I.sz,I.stack,I.stkFree,I.hok,I.bare⟩
theorem Inv.after {Q:VK} {u:Value} (I:Inv X pins σ H s) (h:CE X.stack X.prog X.w H s Q u s'):EP X pins σ Q u s':=by
 obtain ⟨v,H',os,bare,un,hok,r,q⟩:=h;obtain ⟨hh,g,d,t,os'⟩:=s';obtain rfl:os'=s.os:=os;exact ⟨v,H',I.call (h':=hh) (g':=g) (d':=d) (t':=t) (ch:=[]) un hok bare (fun b z=>absurd z (by simp)),r,q⟩
end
noncomputable def Binds (K:PySem.W.Frag) (fd:FuncData) (ps:List Str) (ds:List Value):Prop :=
 ∀(s:Shared) (us:List Value),K.In s.heap->(us ++ ds).length=ps.length->BindsTo s fd ⟨us,[]⟩ (ps.zip (us ++ ds))
theorem Binds.all {K:PySem.W.Frag} {fd:FuncData} {ps:List Str} (h:∀us:List Value,us.length=ps.length->bindArgs fd ⟨us,[]⟩=pure (ps.zip us)):Binds K fd ps []:=fun s us _ hl=>by
 rw [List.append_nil] at hl ⊢;exact .of_eq (h us hl)
section
variable {X:Cx} {CX:CXT} {k:Nat} {f C:Addr} {fd:FuncData} {ps:List Str} {sp:Sp} {dvs:List V} {ds:List Value} {E:XK} {x m:Str} {p pos apos:Pos} {e o:Expr} {es:List Expr} {ta:TE} {t:TA}
structure Mk (K:PySem.W.Frag) (C f:Addr):Prop where
 makes:PySem.W.makesIn K C=true
 init:PySem.W.findIn K (.ref C) "__init__" = some (some (.ref f))
 fn:PySem.W.isFn K (.ref f)=true
 kp:PySem.W.keepIn K (.ref C)=true
end
section
variable {X:Cx} {CX:CXT} {k:Nat} {f C:Addr} {fd:FuncData} {ps ks:List Str} {sp:Sp} {E:XK} {x m:Str} {p pos apos kpos:Pos} {e o:Expr} {es:List Expr} {kws:List Keyword} {te ta:TE} {t tk:TA} {nm:Option Str}
structure KBinds (K:PySem.W.Frag) (fd:FuncData) (ps ks:List Str) (g:List Value->List Value->List Value) (gV:List V->List V->List V):Prop where
 to:∀(s:Shared) (us ws:List Value),K.In s.heap->(g us ws).length=ps.length->BindsTo s fd ⟨us,ks.zip ws⟩ (ps.zip (g us ws))
 rel:∀{vs:List V} {us:List Value} {zs:List V} {ws:List Value},Vals vs us->Vals zs ws->Vals (gV vs zs) (g us ws)
variable {g:List Value->List Value->List Value} {gV:List V->List V->List V}
end
structure FnScope (N P:List Str) (sc:Scope):Prop where
 kind:sc.kind=.function
 co:sc.isCoroutine=false
 gen:sc.isGenerator=false
 nd:N.Nodup
 pre:N.take P.length=P
 par:∀x∈P,sc.names.lookup x=some .local\/sc.names.lookup x=some .cell
 nofree:∀y∈sc.names,y.2≠.free
theorem dL' {kindOf:Str->Option NameKind} {x:Str}:∀{binds:List (Str×Value)} {m:Str->Option Value},(∀v,(x,v)∉binds)->bindL kindOf binds m x=m x
 | [],_,_=>rfl
 | (n,v) :: r,m,h=>by
  unfold bindL;rw [dL' fun w hw=>h w (List.mem_cons_of_mem _ hw)]
  split
  ·have:x≠n:=by rintro rfl; exact h v List.mem_cons_self
   simp [this]
  ·rfl
theorem dM' {kindOf:Str->Option NameKind} {x:Str}:∀{binds:List (Str×Value)} {m:Str->Option Value},(∀v,(x,v)∉binds)->bindC kindOf binds m x=m x
 | [],_,_=>rfl
 | (n,v) :: r,m,h=>by
  unfold bindC;rw [dM' fun w hw=>h w (List.mem_cons_of_mem _ hw)]
  split
  ·rfl
  ·have:x≠n:=by rintro rfl; exact h v List.mem_cons_self
   simp [this]
theorem dN' {kindOf:Str->Option NameKind} {x:Str} {v:Value}:∀{P:List Str} {vs:List Value} {i:Nat} {m:Str->Option Value},P.Nodup->P[i]? = some x->vs[i]? = some v->kindOf x=some .local ->
  bindL kindOf (P.zip vs) m x=some v
 | [],_,_,_,_,h,_,_=>by simp at h
 | _ :: _,[],_,_,_,_,h,_=>by simp at h
 | p :: P,w :: vs,0,m,nd,h1,h2,hk=>by
  simp at h1 h2; subst h1; subst h2;show bindL kindOf ((p,w) :: P.zip vs) m p=_;unfold bindL;rw [dL' fun v hv=>(List.nodup_cons.mp nd).1 (List.of_mem_zip hv).1,if_pos hk];simp
 | p :: P,w :: vs,i + 1,m,nd,h1,h2,hk=>by
  show bindL kindOf ((p,w) :: P.zip vs) m x=_;unfold bindL;exact dN' (i:=i) (List.nodup_cons.mp nd).2 (by simpa using h1) (by simpa using h2) hk
theorem dO' {kindOf:Str->Option NameKind} {x:Str} {v:Value}:∀{P:List Str} {vs:List Value} {i:Nat} {m:Str->Option Value},P.Nodup->P[i]? = some x->vs[i]? = some v->kindOf x≠some .local ->
  bindC kindOf (P.zip vs) m x=some v
 | [],_,_,_,_,h,_,_=>by simp at h
 | _ :: _,[],_,_,_,_,h,_=>by simp at h
 | p :: P,w :: vs,0,m,nd,h1,h2,hk=>by
  simp at h1 h2; subst h1; subst h2;show bindC kindOf ((p,w) :: P.zip vs) m p=_;unfold bindC;rw [dM' fun v hv=>(List.nodup_cons.mp nd).1 (List.of_mem_zip hv).1,if_neg hk];simp
 | p :: P,w :: vs,i + 1,m,nd,h1,h2,hk=>by
  show bindC kindOf ((p,w) :: P.zip vs) m x=_;unfold bindC;exact dO' (i:=i) (List.nodup_cons.mp nd).2 (by simpa using h1) (by simpa using h2) hk
noncomputable def start (N:List Str) (vs:List V):St:=vs.map some ++ List.replicate (N.length - vs.length) none
noncomputable def cxOf (CX:CXT) (P:Program) (w:World) (K:PySem.W.Frag) (mg:Str->Option Value) (base:Heap) (N:List Str) (qual:Str) (scope:Scope) (f:Addr) (cd:Value) (A:Around) (outer:List Env) (s:Shared) (H:Hp) (E:XK):Cx where
 prog:=P
 w:=w
 K:=K
 mg:=mg
 base:=base
 A:=A.deeper (envOfC qual scope s.heap.objs.size f cd)
 N:=N
 s₀:=s
 H₀:=H
 env:=envOfC qual scope s.heap.objs.size f cd
 outer:=outer
 stack:=envOfC qual scope s.heap.objs.size f cd :: outer
 ex:=[]
 calm:=true
 fn:=fun _=>true
 pn:=[]
 xe:=fun e s'=>wpAny (model P w) (A.deeper (envOfC qual scope s.heap.objs.size f cd)) (leaving (envOfC qual scope s.heap.objs.size f cd) e) (fun _ s''=>CX outer H s E e s'') (fun e' s''=>CX outer H s E e' s'') s'
theorem dp' {sc:Scope} {n:Nat} {x:Str} (h:sc.names.lookup x=some .cell):∃c,(cellsFrom n sc.names []).lookup x=some c:=by
 have q:=PySem.W.cellsFrom_some sc.names n [] (.inl h);exact Option.isSome_iff_exists.mp q
theorem gG' {CX:CXT} {P:Program} {w:World} {K:PySem.W.Frag} {mg:Str->Option Value} {base:Heap} {N ps:List Str} {qual:Str} {scope:Scope} {f:Addr} {cd:Value} {A:Around} {outer:List Env} {s s1:Shared} {H:Hp} {E:XK} {us:List Value} {vs:List V}
  (S:FnScope N ps scope) (hd:A.handled=none) (e0:Env0 P w K mg base A outer s H) (hl:vs.length=ps.length) (r:Vals vs us)
  (x:InCallC s s.heap.objs.size (bindL (envOfC qual scope s.heap.objs.size f cd).kindOf (ps.zip us) fun _=>none) (cellsFrom (s.heap.objs.size + 1) scope.names []) (bindC (envOfC qual scope s.heap.objs.size f cd).kindOf (ps.zip us) fun _=>none) s1) :
  Inv (cxOf CX P w K mg base N qual scope f cd A outer s H E) [] (start N vs) H s1:=by
 have hpl:ps.length<=N.length:=by have:=congrArg List.length S.pre; rw [List.length_take] at this; omega
 obtain ⟨h1,tk,rfl,hk⟩:=x.done
 have noA:∀b:Addr,b∉(cxOf CX P w K mg base N qual scope f cd A outer s H E).ex:=fun b z=>absurd (show b∈([]:List Addr) from z) (by simp)
 refine ⟨⟨e0.mod,S.kind,rfl,rfl,Nat.le_refl _,fun y z c h1 h2=>?_,fun y hy=>?_,fun y c _ h=>?_,fun _=>hd,Around.frames_deeper e0.frames,.inr ⟨rfl,rfl⟩,fun b z=>absurd z (noA b),e0.bs,e0.bsz,fun b _ _=>noA b,fun b z=>absurd z (noA b),e0.funs,e0.frf⟩,
  rfl,e0.bare,Un.kept hk,⟨_,x.toInCall.ns,fun i y v h1 h2 h3=>?_⟩,fun y c h=>⟨_,x.cell y c h⟩,e0.hok.fresh (Nat.le_refl _),fun y c h=>?_,fun p hp=>absurd (show p∈([]:List (Addr×Obj)) from hp) (by simp),e0.hok.kept hk,?_⟩
 ·exact name_of_addr x.apart (PySem.mem_of_lookup h1) (PySem.mem_of_lookup h2)
 ·have hy:scope.names.lookup y=some .cell\/scope.names.lookup y=some .free:=hy;rcases hy with hy | hy
  ·exact dp' hy
  ·exact absurd rfl (S.nofree _ (PySem.mem_of_lookup hy))
 ·exact Nat.le_of_lt (x.above y c (PySem.mem_of_lookup h))
 ·have hi:i < vs.length:=by
   unfold start at h2
   by_cases hi:i < vs.length
   ·exact hi
   ·rw [List.getElem?_append_right (by simpa using hi)] at h2;rw [List.getElem?_replicate] at h2
    split at h2 <;> cases h2
  have ha:vs[i]? = some v:=by
   unfold start at h2;rw [List.getElem?_append_left (by simpa using hi),List.getElem?_map] at h2
   cases e:vs[i]? with
   | none=>rw [e] at h2; cases h2
   | some a=>rw [e] at h2; cases h2; rfl
  obtain ⟨u,hu,rv⟩:=r.get ha;have hp:ps[i]? = some y:=by
   rw [<- S.pre,List.getElem?_take_of_lt (by omega)]; exact h1
  have ndP:ps.Nodup:=by rw [<- S.pre]; exact S.nd.sublist (List.take_sublist _ _)
  refine ⟨u,rv,?_⟩;rcases S.par y (List.mem_of_getElem? hp) with k | k
  ·exact .inl ⟨k,dN' ndP hp hu k⟩
  ·obtain ⟨c,e⟩:=dp' (n:=s.heap.objs.size + 1) k;refine .inr ⟨.inl k,c,e,?_⟩;have q:=x.cell y c e;rw [dO' ndP hp hu (by show scope.names.lookup y≠_; rw [k]; decide)] at q;exact q
 ·exact e0.hok.fresh (Nat.le_of_lt (x.above y c (PySem.mem_of_lookup h)))
 ·unfold start;show _=N.length;rw [List.length_append,List.length_map,List.length_replicate];omega
theorem lK' {CX:CXT} {P:Program} {w:World} {K:PySem.W.Frag} {mg:Str->Option Value} {base:Heap} {k:Nat} {f:Addr} {name qual:Str} {params:Arguments} {body:List Stmt} {scope:Scope} {dV kV doc pm cdv ct oc:Value} {an od:Option Addr}
  {osl:Array (Option Value)} {N ps:List Str} {sp:Sp} (lk:K.lookup f=some ⟨oc,od,.func (PySem.W.fnOf name qual params body scope dV kV doc pm an cdv ct),osl⟩) (hcd:PySem.W.codeIn K cdv qual=true) (S:FnScope N ps scope)
  (len:∀vs H Q E,sp vs H Q E->vs.length=ps.length)
  (hbody:∀(A:Around) (outer:List Env) (s:Shared) (H:Hp) (vs:List V) (Q:VK) (E:XK),Room k (A.deeper (envOfC qual scope s.heap.objs.size f cdv))->sp vs H Q E ->
   ∃t,PSs (cxOf CX P w K mg base N qual scope f cdv A outer s H E) body t/\t { nx:=fun _ H'=>Q .non H',rt:=Q } (start N vs) H) :
  FnOk P w K mg base CX (k + 1) f (PySem.W.fnOf name qual params body scope dV kV doc pm an cdv ct) ps sp:=by
 refine ⟨len,fun A outer s H args us vs Q E hr e0 hb r hsp=>?_⟩;have hl:=len _ _ _ _ hsp;have KX:K.In s.heap:=e0.mod.kin.keeps fun b o e=>(e0.bs b o e).1;have lim:s.heap.NoLimit:=e0.mod.nolimit.keeps fun b o e=>(e0.bs b o e).1;have hkind:∀y∈ps.zip us,scope.names.lookup y.1=some .local\/(scope.names.lookup y.1=some .cell/\((cellsFrom (s.heap.objs.size + 1) scope.names []).lookup y.1).isSome=true):=fun ⟨n,v⟩ hy=>by
  rcases S.par n (List.of_mem_zip hy).1 with q | q
  ·exact .inl q
  ·exact .inr ⟨q,PySem.W.cellsFrom_some _ _ _ (.inl q)⟩
 refine codeAny_call_function hr.depth (KX _ _ lk) rfl S.co S.gen rfl (PySem.W.codeRec_of KX hcd) (hb _ _ _ _ ?_);refine wpAny_newFunctionEnv_cells S.kind hkind fun env he s1 x=>?_;subst he;refine ⟨lim.keeps x.toInCall.keep,codeAny_func ?_⟩;obtain ⟨t,ht,hq⟩:=hbody A outer s H vs Q E (hr.deeper _) hsp;have I:Inv (cxOf CX P w K mg base N qual scope f cdv A outer s H E) [] (start N vs) H s1:=gG' S hr.hd e0 hl r x;refine wpAny_mono (ht [] s1 (start N vs) H _ I hq) (fun fl s' hs=>?_) fun e s' hs=>hs;have fin:∀{σ':St} {H':Hp} {v:V} {u:Value},Inv (cxOf CX P w K mg base N qual scope f cdv A outer s H E) [] σ' H' s'->RelV v u->Q v H'->CE outer P w H s Q u s' :=
  fun {σ' H' v u} J rv q=>⟨v,H',J.os,J.bare,J.base,J.hok,rv,q⟩
 cases fl with
 | ret u =>
  obtain ⟨v,σ',H',J,rv,q⟩:=hs;exact fin J rv q
 | next =>
  obtain ⟨σ',H',J,q⟩:=hs;exact fin (v:=V.non) (u:=Value.none) J rfl q
 | brk =>
  obtain ⟨_,_,_,q⟩:=hs;exact False.elim q
 | cont =>
  obtain ⟨_,_,_,q⟩:=hs;exact False.elim q
section
variable {X:Cx} {x:Str} {p pos:Pos} {e:Expr} {es:List Expr} {t:TA} {id T:String} {r:List V->Hp->VK->Prop}
end
end L2
namespace HT
open PySem PyProof.Rows
section
open PySem.SeqAt
open PySem.AutoSeq1 (wpAny_loadPart')
open PySem.MeetsSeq PySem.MeetsSeq2 PySem.MeetsSeq3
end
section
variable {prog:Program} {w:World} {A:Around} {E:Value->Shared->Prop} {s:Shared}
theorem cat_tup {t b:Addr} {vs ws:List Value} {Q:Value->Shared->Prop} (ht:IsTup s.heap t vs.toArray) (hb:IsTup s.heap b ws.toArray) (hv:vs≠[])
  (h1:ws=[]->Q (.ref t) s) (h2:ws≠[]->Q (.ref s.heap.objs.size) { s with heap:=s.heap.push { cls:=.type "tuple",data:=.seq (vs ++ ws).toArray } })
  (hsz:vs.length + ws.length<=sizeLine):wpAny (model prog w) A (binaryOp .Add (.ref t) (.ref b)) Q E s:=by
 obtain ⟨⟨cls,dd,data,sl⟩,ho,hc,n,hd⟩:=id ht;obtain ⟨⟨cls2,dd2,data2,sl2⟩,ho2,hc2,n2,hd2⟩:=id hb;simp only at hc hd hc2 hd2;subst hc hd hc2 hd2;have e:vs.toArray ++ ws.toArray=(vs ++ ws).toArray:=by simp
 by_cases hw:ws=[]
 ·exact concat_meets ⟨_,ho,rfl⟩ ⟨_,ho2,rfl⟩ noFill_tuple_add seq_tuple_add PySem.F.slot_tuple_add PySem.F.entry_tuple_add (PySem.F.args_tuple_add_2 _ _)
   (tuple_addW1 t b vs.toArray ws.toArray n n2 dd dd2 sl sl2 (by simpa using hv) (by simp [hw])) ⟨ho,ho2,h1 hw⟩
 ·refine concat_meets ⟨_,ho,rfl⟩ ⟨_,ho2,rfl⟩ noFill_tuple_add seq_tuple_add PySem.F.slot_tuple_add PySem.F.entry_tuple_add (PySem.F.args_tuple_add_2 _ _)
   (tuple_addW2 t b vs.toArray ws.toArray n n2 dd dd2 sl sl2 (by simpa using hv) (by simpa using hw) (by rw [List.size_toArray,List.size_toArray]; exact hsz)) ⟨ho,ho2,?_⟩
  rw [e];exact h2 hw
noncomputable def sIx (n d:Nat):Option Int->Nat
 | none=>d
 | some v=>if v < 0 then (v + (n:Int)).toNat else min v.toNat n
theorem sIx_none (n d:Nat):sIx n d none=d:=rfl
theorem sIx_nat (n d k:Nat):sIx n d (some (k:Int))=min k n:=by
 show (if (k:Int) < 0 then ((k:Int) + (n:Int)).toNat else min (k:Int).toNat n)=min k n
 rw [if_neg (by omega),Int.toNat_natCast]
theorem sIx_le (n d:Nat) (hd:d<=n) (o:Option Int):sIx n d o<=n:=by
 cases o with
 | none=>exact hd
 | some v =>
  show (if v < 0 then (v + (n:Int)).toNat else min v.toNat n)<=n
  by_cases hv:v < 0
  ·rw [if_pos hv]; omega
  ·rw [if_neg hv]; exact Nat.min_le_right _ _
theorem gH' (v:Int) (n d:Nat):(if v < 0 then max (v + (n:Int)) 0 else min v (n:Int))=((sIx n d (some v):Nat):Int):=by
 show (if v < 0 then max (v + (n:Int)) 0 else min v (n:Int))=(((if v < 0 then (v + (n:Int)).toNat else min v.toNat n):Nat):Int)
 by_cases hv:v < 0
 ·simp only [if_pos hv]; omega
 ·simp only [if_neg hv]; omega
theorem fZ' (lo hi:Option Int) (n:Nat):Builtin.Slice.sliceAdjust lo hi 1 (n:Int)=(((sIx n 0 lo:Nat):Int),((sIx n n hi:Nat):Int)):=by
 have h1:¬((1:Int) < 0):=by omega
 unfold Builtin.Slice.sliceAdjust;simp only [h1,if_false];refine Prod.ext ?_ ?_
 ·cases lo with
  | none=>rfl
  | some v=>exact gH' v n 0
 ·cases hi with
  | none=>rfl
  | some v=>exact gH' v n n
theorem ga' (i j:Nat):Builtin.Slice.slicePlaces (i:Int) (j:Int) 1=j - i:=by
 unfold Builtin.Slice.slicePlaces;have h1:(1:Int) > 0:=by omega
 simp only [h1,if_true,Int.ediv_one]
 split <;> omega
theorem dg' {v:Value} {o:Option Int} {Q:Option Int->Shared->Prop} (p:IsPart v o) (h:Q o s):wpAny (model prog w) A (Builtin.Slice.slicePartIndex v) Q E s:=by
 cases p with
 | none=>exact slicePart_none h
 | int i t=>exact slicePart_int h
theorem bC' {sl:Addr} {vl vu:Value} {lo hi:Option Int} {n:Nat} {Q:Int×Int×Nat->Shared->Prop} (hs:s.heap.IsSliceOf sl vl vu .none) (pl:IsPart vl lo) (pu:IsPart vu hi)
  (h:Q (((sIx n 0 lo:Nat):Int),1,sIx n n hi - sIx n 0 lo) s):wpAny (model prog w) A (Builtin.Slice.sliceApplied (.ref sl) (pure (n:Int))) Q E s:=by
 obtain ⟨os,hos,hcs,hds⟩:=id hs;unfold Builtin.Slice.sliceApplied Builtin.Slice.sliceFields;refine wpAny_bind (wpAny_bind (wpAny_field hos hds (x:=vl) rfl (wpAny_bind (wpAny_field hos hds (x:=vu) rfl (wpAny_bind (wpAny_field hos hds (x:=.none) rfl (wpAny_pure ?_)))))));refine wpAny_bind (slicePart_none ?_);show wpAny _ _ (if ((1:Int) == 0)=true then _ else _) _ _ s
 rw [if_neg (by decide)];refine wpAny_bind (dg' pl (wpAny_bind (dg' pu (wpAny_bind (wpAny_pure ?_)))));show wpAny _ _ (match Builtin.Slice.sliceAdjust lo hi 1 (n:Int) with | (lo,hi)=>pure (lo,(1:Int),Builtin.Slice.slicePlaces lo hi 1)) _ _ s
 rw [fZ' lo hi n];show wpAny _ _ (pure (((sIx n 0 lo:Nat):Int),(1:Int),Builtin.Slice.slicePlaces ((sIx n 0 lo:Nat):Int) ((sIx n n hi:Nat):Int) 1)) _ _ s;rw [ga'];exact wpAny_pure h
theorem iB' (xs:Array Value) (i k:Nat):((List.range k).filterMap fun (m:Nat)=>xs[((i:Int) + (m:Int) * 1).toNat]?).toArray=((xs.toList.drop i).take k).toArray:=by
 have e:(fun (m:Nat)=>xs[((i:Int) + (m:Int) * 1).toNat]?)=fun m=>xs[i + m]?:=by
  funext m
  have:((i:Int) + (m:Int) * 1).toNat=i + m:=by omega
  rw [this]
 rw [e];have:=pick_run xs i k;rw [List.filterMap_map] at this;have e2:((fun x=>xs[x]?) ∘ fun x=>i + x)=fun m=>xs[i + m]?:=rfl;rw [e2] at this;rw [this]
theorem getItem_tuple_cut {t sl:Addr} {items:Array Value} {vl vu:Value} {lo hi:Option Int} {Q:Value->Shared->Prop} (ht:IsTup s.heap t items) (hs:s.heap.IsSliceOf sl vl vu .none) (pl:IsPart vl lo) (pu:IsPart vu hi)
  (hw:¬(sIx items.size 0 lo=0/\sIx items.size items.size hi=items.size))
  (h:Q (.ref s.heap.objs.size) { s with heap:=s.heap.push { cls:=.type "tuple",data:=.seq ((items.toList.drop (sIx items.size 0 lo)).take (sIx items.size items.size hi - sIx items.size 0 lo)).toArray } })
  (hsz:items.size<=sizeLine):wpAny (model prog w) A (getItem (.ref t) (.ref sl)) Q E s:=by
 have htake:sizeOk (.seq ((items.toList.drop (sIx items.size 0 lo)).take (sIx items.size items.size hi - sIx items.size 0 lo)).toArray):=by
  show ((items.toList.drop (sIx items.size 0 lo)).take (sIx items.size items.size hi - sIx items.size 0 lo)).toArray.size<=sizeLine;rw [List.size_toArray,List.length_take,List.length_drop,Array.length_toList];omega
 have hj:sIx items.size items.size hi<=items.size:=sIx_le _ _ (Nat.le_refl _) hi;obtain ⟨os,hos,hcs,hds⟩:=id hs;have hTs:s.TypeIs (.ref sl) "slice":=⟨os,hos,hcs⟩;unfold getItem
 try with_reducible refine wpAny_holding ?_
 first | refine wpAny_bind (wpAny_pure ?_) | skip
 refine wpAny_bind (wpAny_sequenceKey ht.typeIs (by decide) ?_);refine wpAny_bind (wpAny_callSpecial?_slot (name:=Str.ofString "__getitem__") ht.typeIs PyProof.Rows.slot_tuple_getitem
  (wpAny_call_entry PyProof.Rows.slot_tuple_getitem ht.typeIs entry_tuple_getitem ?_ (args_tuple_getitem _ _)))
 show wpAny _ _ (Builtin.Tuple.tupleItemsOf (.ref t) >>= _) _ _ s;refine wpAny_bind (tupleItemsOf_ ht ?_);refine wpAny_bind (wpAny_typeOf hTs ?_);rw [if_pos (by decide)];refine wpAny_bind (bC' hs pl pu ?_);have hno:¬((((sIx items.size 0 lo:Nat):Int) == 0 && (1:Int) == 1 && (sIx items.size items.size hi - sIx items.size 0 lo) == items.size)=true):=by
  intro q;rw [Bool.and_eq_true,Bool.and_eq_true] at q;have q1:((sIx items.size 0 lo:Nat):Int)=0:=eq_of_beq q.1.1;have q2:sIx items.size items.size hi - sIx items.size 0 lo=items.size:=eq_of_beq q.2;exact hw ⟨by omega,by omega⟩
 show wpAny _ _ (if (((sIx items.size 0 lo:Nat):Int) == 0 && (1:Int) == 1 && (sIx items.size items.size hi - sIx items.size 0 lo) == items.size)=true then _ else _) _ _ s
 rw [if_neg hno,iB']
 first
  | exact wpAny_bind (m:=Builtin.Tuple.tupleExact _) (wpAny_newObj_type (wpAny_pure ⟨_,rfl,wpAny_pure h⟩) htake)
  | exact wpAny_bind (m:=Builtin.Tuple.tupleExact _) (wpAny_newObj_type (wpAny_bind (wpAny_pure (wpAny_pure ⟨_,rfl,wpAny_pure h⟩))) htake)
  | exact wpAny_bind (wpAny_bind (m:=Builtin.Tuple.tupleExact _) (wpAny_newObj_type (wpAny_pure (wpAny_pure ⟨_,rfl,wpAny_pure h⟩)) htake))
  | exact wpAny_bind (wpAny_bind (m:=Builtin.Tuple.tupleExact _) (wpAny_newObj_type (wpAny_pure ⟨_,rfl,wpAny_pure h⟩) htake))
end
end HT
namespace L2
open PySem PySem.Spec PyProof.Rows
abbrev TO:=St->Hp->(Option Int->Hp->Prop)->Prop
theorem intsAre_of {ns:List Int}:∀{us:List Value},Vals (ns.map V.int) us->IntsAre us ns:=by
 induction ns with
 | nil=>intro us r; rw [List.map_nil] at r; cases r; exact .nil
 | cons n ns ih =>
  intro us r;rw [List.map_cons] at r
  cases r with
  | cons r1 r2 =>
   obtain ⟨t,e⟩:=r1;subst e;exact .cons n t (ih r2)
section
variable {X:Cx} {e:Expr} {te:TE} {lo hi:Option Expr} {tl th:TO} {pos p2:Pos}
noncomputable def SlR (X:Cx) (r:V->Option Int->Option Int->Hp->VK->Prop):Prop :=
 ∀(pins:List (Addr×Obj)) (s:Shared) (σ:St) (H:Hp) (x:V) (v vl vu:Value) (lo hi:Option Int) (sl:Addr) (Q:VK),Inv X pins σ H s->RelV x v->s.heap.IsSliceOf sl vl vu .none->IsPart vl lo->IsPart vu hi->r x lo hi H Q ->
  ∃T id,typeLookup (.type T) "__getitem__" = pure (some (.builtin id))/\s.TypeIs v T/\wpAny (model X.prog X.w) X.A (getItem v (.ref sl)) (EP X pins σ Q) X.xe s
theorem SlR.or {r r':V->Option Int->Option Int->Hp->VK->Prop} (h:SlR X r) (h':SlR X r'):SlR X (fun x lo hi H Q=>r x lo hi H Q\/r' x lo hi H Q):=by
 intro pins s σ H x v vl vu lo hi sl Q I rx hs pl pu q;rcases q with q | q
 ·exact h pins s σ H x v vl vu lo hi sl Q I rx hs pl pu q
 ·exact h' pins s σ H x v vl vu lo hi sl Q I rx hs pl pu q
noncomputable def cutV (xs:List V) (lo hi:Option Int):List V:=(xs.drop (HT.sIx xs.length 0 lo)).take (HT.sIx xs.length xs.length hi - HT.sIx xs.length 0 lo)
theorem cH' (xs:List V) (lo hi:Option Int):(cutV xs lo hi).length<=xs.length:=by
 unfold cutV;rw [List.length_take,List.length_drop];omega
noncomputable def rSlT (K:PySem.W.Frag):V->Option Int->Option Int->Hp->VK->Prop:=fun x lo hi H Q=>∃a xs,x=.ref a/\SqT K H a xs /\
 ¬(HT.sIx xs.length 0 lo=0/\HT.sIx xs.length xs.length hi=xs.length)/\∀p,H p=none->Q (.ref p) (upd H p (.tup (cutV xs lo hi)))
theorem sl_tup:SlR X (rSlT X.K):=by
 intro pins s σ H x v vl vu lo hi sl Q I rx hs pl pu h;obtain ⟨a,xs,rfl,hx,hw,q⟩:=h
 cases rx
 obtain ⟨its,r,ht,hz⟩:=I.tuple hx;have hlen:its.toArray.size=xs.length:=by rw [List.size_toArray]; exact r.length.symm
 refine ⟨"tuple",_,PyProof.Rows.slot_tuple_getitem.lookup,ht.typeIs,?_⟩;refine HT.getItem_tuple_cut ht hs pl pu (by rw [hlen]; exact hw) ?_ (by rw [hlen]; exact hz);rw [hlen];refine ⟨.ref s.heap.objs.size,_,I.laid (t':=s.toks) (o:=.tup (cutV xs lo hi)) (fun b ob q=>Heap.get?_push_of_some _ q) (Nat.le_refl _) ?_,rfl,q _ (I.hok.fresh (Nat.le_refl _))⟩;exact ⟨Nat.le_trans (cH' xs lo hi) hz,_,(r.drop (HT.sIx xs.length 0 lo)).take (HT.sIx xs.length xs.length hi - HT.sIx xs.length 0 lo),IsTup.new _ _⟩
noncomputable def rCatT (K:PySem.W.Frag):R2:=fun x y H Q=>∃a b xs ys,x=.ref a/\y=.ref b/\SqT K H a xs/\SqT K H b ys/\xs≠[]/\xs.length + ys.length<=sizeLine /\
 (ys=[]->Q (.ref a) H)/\(ys≠[]->∀p,H p=none->Q (.ref p) (upd H p (.tup (xs ++ ys))))
theorem Vals.nil_iff {xs:List V} {us:List Value} (r:Vals xs us):us=[]↔xs=[]:=by
 cases r with
 | nil=>simp
 | cons _ _=>simp
theorem km':OpR X (binaryOp .Add) (rCatT X.K):=by
 intro pins s σ H x y v u Q I rx ry h;obtain ⟨a,b,xs,ys,rfl,rfl,ha,hb,hx,hz,q1,q2⟩:=h
 cases rx
 cases ry
 obtain ⟨its,r1,p1,_⟩:=I.tuple ha;obtain ⟨its2,r2,p2,_⟩:=I.tuple hb;refine HT.cat_tup p1 p2 (fun z=>hx (r1.nil_iff.mp z)) (fun z=>⟨.ref a,H,I,rfl,q1 (r2.nil_iff.mp z)⟩) (fun z=>?_) (by rw [<- r1.length,<- r2.length]; exact hz);refine ⟨.ref s.heap.objs.size,_,I.laid (t':=s.toks) (o:=.tup (xs ++ ys)) (fun b ob q=>Heap.get?_push_of_some _ q) (Nat.le_refl _) ?_,rfl,q2 (fun w=>z (r2.nil_iff.mpr w)) _ (I.hok.fresh (Nat.le_refl _))⟩;exact ⟨by rw [List.length_append]; exact hz,_,r1.append r2,IsTup.new _ _⟩
end
noncomputable def ixN (n:Nat) (i:Int):Option Nat:=if 0<=i then (if i < n then some i.toNat else none) else if -(n:Int)<=i then some (i + n).toNat else none
noncomputable def atI {α:Type} (xs:List α) (i:Int):Option α:=(ixN xs.length i).bind fun j=>xs[j]?
theorem gI' {n:Nat} {i:Int} {j:Nat} (h:ixN n i=some j):seqIndex? i n=some j/\j < n/\-(n:Int)<=i/\i < n:=by
 unfold ixN at h
 by_cases h0:0<=i
 ·rw [if_pos h0] at h
  by_cases h1:i < n
  ·rw [if_pos h1] at h;have e:i.toNat=j:=Option.some.inj h;exact ⟨by rw [seqIndex_of h0 h1,e],by omega,by omega,h1⟩
  ·rw [if_neg h1] at h; cases h
 ·rw [if_neg h0] at h
  by_cases h1:-(n:Int)<=i
  ·rw [if_pos h1] at h;have e:(i + n).toNat=j:=Option.some.inj h;exact ⟨by rw [seqIndex_neg (by omega) h1,e],by omega,h1,by omega⟩
  ·rw [if_neg h1] at h; cases h
theorem eK' {α:Type} {xs:List α} {i:Int} {v:α} (h:atI xs i=some v):∃j,seqIndex? i xs.length=some j/\xs[j]? = some v/\j < xs.length/\-(xs.length:Int)<=i/\i < xs.length:=by
 unfold atI at h
 cases e:ixN xs.length i with
 | none=>rw [e] at h; cases h
 | some j =>
  rw [e] at h;obtain ⟨h1,h2,h3,h4⟩:=gI' e;exact ⟨j,h1,h,h2,h3,h4⟩
noncomputable def PlainIx (b:Expr):Prop:=∀o i,subscripted b false o i=operate [o,i] (getItem o i)
noncomputable def IxR (X:Cx) (r:R2):Prop :=
 ∀(value slice:Expr) (pins:List (Addr×Obj)) (s:Shared) (σ:St) (H:Hp) (x y:V) (v u:Value) (Q:VK),Inv X pins σ H s->RelV x v->RelV y u->r x y H Q ->
  subscripted slice false v u=operate [v,u] (getItem v u)->wpAny (model X.prog X.w) X.A (subscriptTail value slice v u) (EP X pins σ Q) X.xe s
noncomputable def MtR (X:Cx) (id:String) (r:V->List V->Hp->VK->Prop):Prop :=
 ∀(pins:List (Addr×Obj)) (s:Shared) (σ:St) (H:Hp) (x:V) (xs:List V) (v:Value) (us:List Value) (Q:VK),Inv X pins σ H s->RelV x v->Vals xs us->r x xs H Q ->
  wpAny (model X.prog X.w) X.A (call (.builtin id) (v :: us)) (EP X pins σ Q) X.xe s
section
variable {X:Cx} {a b:Expr} {ta tb:TE} {pos:Pos}
theorem IxR.or {r r':R2} (h:IxR X r) (h':IxR X r'):IxR X (fun x y H Q=>r x y H Q\/r' x y H Q):=by
 intro value slice pins s σ H x y v u Q I rx ry q hs;rcases q with q | q
 ·exact h value slice pins s σ H x y v u Q I rx ry q hs
 ·exact h' value slice pins s σ H x y v u Q I rx ry q hs
theorem MtR.or {id:String} {r r':V->List V->Hp->VK->Prop} (h:MtR X id r) (h':MtR X id r'):MtR X id (fun x xs H Q=>r x xs H Q\/r' x xs H Q):=by
 intro pins s σ H x xs v us Q I rx rs q;rcases q with q | q
 ·exact h pins s σ H x xs v us Q I rx rs q
 ·exact h' pins s σ H x xs v us Q I rx rs q
noncomputable def rIxL (K:PySem.W.Frag):R2:=fun x y H Q=>∃p xs i v,x=.ref p/\y=.int i/\SqL K H p xs/\atI xs i=some v/\Q v H
noncomputable def rIxT (K:PySem.W.Frag):R2:=fun x y H Q=>∃p xs i v,x=.ref p/\y=.int i/\SqT K H p xs/\atI xs i=some v/\Q v H
noncomputable def rIxS:R2:=fun x y H Q=>∃z i c,x=.str z/\y=.int i/\z.length<=sizeLine/\atI z.cps.toList i=some c/\Q (.str ⟨#[c]⟩) H
theorem ix_list:IxR X (rIxL X.K):=by
 intro value slice pins s σ H x y v u Q I rx ry h hs;obtain ⟨p,xs,i,z,rfl,rfl,hq,he,q⟩:=h
 cases rx
 obtain ⟨t,rfl⟩:=ry;obtain ⟨its,r,pl,hz⟩:=I.list hq;obtain ⟨j,h1,h2,h3,h4,h5⟩:=eK' he;obtain ⟨w,ew,rw'⟩:=r.get h2;have hl:=r.length;have hn:=df';have fin:EP X pins σ Q w s:=⟨z,H,I,rw',q⟩
 by_cases h0:0<=i
 ·have hj:i.toNat=j:=by
   rw [seqIndex_of h0 h5] at h1;exact Option.some.inj h1
  exact item_listR pl.isList h0 (by omega) (by rw [hj]; simpa using ew) fin hs
 ·have hj:(i + (its.toArray.size:Int)).toNat=j:=by
   rw [seqIndex_neg (by omega) h4] at h1;rw [List.size_toArray,<- hl];exact Option.some.inj h1
  exact subscriptTail_builtinR (x:=w) pl.isList.typeIs slot_list_getitem.lookup
   (wpAny_getItem_list_neg (Q:=fun r s'=>r=w/\EP X pins σ Q r s') pl.isList (by omega) (by rw [List.size_toArray] <;> omega) (by omega) (by rw [hj]; simpa using ew) ⟨rfl,fin⟩) hs
theorem ix_tup:IxR X (rIxT X.K):=by
 intro value slice pins s σ H x y v u Q I rx ry h hs;obtain ⟨p,xs,i,z,rfl,rfl,hq,he,q⟩:=h
 cases rx
 obtain ⟨t,rfl⟩:=ry;obtain ⟨its,r,pl,hz⟩:=I.tuple hq;obtain ⟨j,h1,h2,h3,h4,h5⟩:=eK' he;obtain ⟨w,ew,rw'⟩:=r.get h2;have hl:=r.length;have hn:=df';have fin:EP X pins σ Q w s:=⟨z,H,I,rw',q⟩;exact subscriptTail_builtinR (x:=w) pl.typeIs slot_tuple_getitem.lookup
  (getItem_tuple (j:=j) (Q:=fun r s'=>r=w/\EP X pins σ Q r s') pl (by omega) (by omega) (by rw [List.size_toArray,<- hl]; exact h1) (by simpa using ew) ⟨rfl,fin⟩) hs
theorem lL':IxR X rIxS:=by
 intro value slice pins s σ H x y v u Q I rx ry h hs;obtain ⟨z,i,c,rfl,rfl,hz,he,q⟩:=h;obtain ⟨t,rfl⟩:=rx;obtain ⟨t',rfl⟩:=ry;obtain ⟨j,h1,h2,h3,h4,h5⟩:=eK' he;have hl:z.cps.toList.length=z.length:=by simp [Str.length]
 rw [hl] at h1 h4 h5;have hn:=df';exact tail_any (typeIs_str s z t) slot_str_getitem.lookup (getItem_str (c:=c) (by
  have e1:decide (i < -(2 ^ 63:Int))=false:=decide_eq_false (by omega);have e2:decide (i>=2 ^ 63)=false:=decide_eq_false (by omega);rw [e1,e2,Bool.or_false]) (by rw [h1]; simpa using h2) ⟨.str ⟨#[c]⟩,H,I.tok _,⟨_,rfl⟩,q⟩) hs
noncomputable def rIx (K:PySem.W.Frag):R2:=fun x y H Q=>rIxL K x y H Q\/rIxT K x y H Q\/rIxS x y H Q
theorem lM':IxR X (rIx X.K):=ix_list.or (ix_tup.or lL')
theorem gb' (its:List Value) (n j:Nat) (u:Value):Obj.mapSeq (·.setIfInBounds j u) { cls:=.type "list",data:=.seq its.toArray n }={ cls:=.type "list",data:=.seq (its.set j u).toArray n }:=by
 simp [Obj.mapSeq]
theorem Inv.lst {pins:List (Addr×Obj)} {σ:St} {H:Hp} {s:Shared} {p:Addr} {xs:List V} (I:Inv X pins σ H s) (h:H p=some (.lst xs)) :
  ∃(its:List Value) (n:Nat),Vals xs its/\s.heap.get? p=some { cls:=.type "list",data:=.seq its.toArray n }/\xs.length<=sizeLine:=by
 obtain ⟨z,its,n,r,e⟩:=I.hok p _ h;exact ⟨its,n,r,e,z⟩
theorem Inv.lstUpd {pins:List (Addr×Obj)} {σ:St} {H:Hp} {s:Shared} {p:Addr} {xs ys:List V} {its its':List Value} {n n':Nat} {f:Obj->Obj} (I:Inv X pins σ H s) (h:H p=some (.lst xs))
  (ho:s.heap.get? p=some { cls:=.type "list",data:=.seq its.toArray n }) (hf:f { cls:=.type "list",data:=.seq its.toArray n }={ cls:=.type "list",data:=.seq its'.toArray n' }) (r:Vals ys its') (hz:ys.length<=sizeLine) (t:Nat) :
  Inv X pins σ (upd H p (.lst ys)) { s with heap:=s.heap.update p f,toks:=t }:=by
 have e:(s.heap.update p f).get? p=some { cls:=.type "list",data:=.seq its'.toArray n' }:=by
  rw [Heap.get?_update_self f ho (by rw [hf] <;> rfl),hf]
 refine I.write (x:=p) (e:=p) (by rw [h]; trivial) (.inl rfl) (fun b u hb q=>(Heap.get?_update_other _ _ (Ne.symm hb)).trans q) ⟨_,e⟩ ?_;exact ⟨hz,its',n',r,e⟩
noncomputable def rSetL:V->V->V->Hp->(Hp->Prop)->Prop:=fun o i v H Q=>∃p xs k j,o=.ref p/\i=.int k/\H p=some (.lst xs)/\ixN xs.length k=some j/\Q (upd H p (.lst (xs.set j v)))
theorem set_list:PSet X rSetL:=by
 intro pins s σ H o i v ov iv u Q I ro ri rv h;obtain ⟨p,xs,k,j,rfl,rfl,hp,hj,q⟩:=h
 cases ro
 obtain ⟨t,rfl⟩:=ri;obtain ⟨its,n,r,ho,hz⟩:=I.lst hp;obtain ⟨h1,h2,h3,h4⟩:=gI' hj;have hl:=r.length;have hn:=df';have I':Inv X pins σ (upd H p (.lst (xs.set j v))) { s with heap:=s.heap.update p (Obj.mapSeq (·.setIfInBounds j u)) } :=
  I.lstUpd hp ho (gb' its n j u) (r.set rv j) (by rw [List.length_set]; exact hz) s.toks
 by_cases h0:0<=k
 ·have hk:k.toNat=j:=by
   rw [seqIndex_of h0 h4] at h1;exact Option.some.inj h1
  exact PySem.W.ki_setAt ho h0 (by omega) (by rw [List.size_toArray,<- hl]; exact h4) (by rw [hk]; exact ⟨_,I',q⟩)
 ·have hk:(k + (its.toArray.size:Int)).toNat=j:=by
   rw [seqIndex_neg (by omega) h3] at h1;rw [List.size_toArray,<- hl];exact Option.some.inj h1
  exact PySem.W.ki_setBack ho (by omega) (by rw [List.size_toArray,<- hl]; exact h3) (by omega) (by rw [hk]; exact ⟨_,I',q⟩)
theorem dP' (lo hi:Option Int) (n:Nat):(sliceBounds lo hi none n).1=((HT.sIx n 0 lo:Nat):Int)/\(sliceBounds lo hi none n).2.1=((HT.sIx n n hi:Nat):Int)/\(sliceBounds lo hi none n).2.2=1:=by
 refine ⟨?_,?_,rfl⟩
 ·cases lo with
  | none=>simp [sliceBounds,HT.sIx]
  | some i =>
   simp only [sliceBounds,HT.sIx,Option.getD_none,show (1:Int) > 0 by decide,if_true]
   by_cases h:i < 0
   ·simp only [h,if_true] <;> omega
   ·simp only [h,if_false] <;> omega
 ·cases hi with
  | none=>simp [sliceBounds,HT.sIx]
  | some i =>
   simp only [sliceBounds,HT.sIx,Option.getD_none,show (1:Int) > 0 by decide,if_true]
   by_cases h:i < 0
   ·simp only [h,if_true] <;> omega
   ·simp only [h,if_false] <;> omega
theorem dq' (its:List Value) (lo hi:Option Int):slicePick its.toArray lo hi none=((its.drop (HT.sIx its.length 0 lo)).take (HT.sIx its.length its.length hi - HT.sIx its.length 0 lo)).toArray:=by
 obtain ⟨h1,h2,h3⟩:=dP' lo hi its.toArray.size;unfold slicePick;rw [h1,h2,h3];simp only [sliceRange_one,pick_run,List.size_toArray] <;> rfl
noncomputable def rSlL (K:PySem.W.Frag):V->Option Int->Option Int->Hp->VK->Prop:=fun x lo hi H Q=>∃a xs,x=.ref a/\SqL K H a xs/\∀p,H p=none->Q (.ref p) (upd H p (.lst (cutV xs lo hi)))
theorem sl_list:SlR X (rSlL X.K):=by
 intro pins s σ H x v vl vu lo hi sl Q I rx hs pl pu h;obtain ⟨a,xs,rfl,hx,q⟩:=h
 cases rx
 obtain ⟨its,r,ht,hz⟩:=I.list hx;have hlen:=r.length;refine ⟨"list",_,slot_list_getitem.lookup,ht.isList.typeIs,?_⟩;refine wpAny_getItem_list_slice ht.isList hs pl pu .none (by simp) ?_ (by rw [List.size_toArray] <;> omega)
 rw [dq',<- hlen];refine ⟨.ref s.heap.objs.size,_,I.laid (t':=s.toks) (o:=.lst (cutV xs lo hi)) (fun b ob q=>Heap.get?_push_of_some _ q) (Nat.le_refl _) ?_,rfl,q _ (I.hok.fresh (Nat.le_refl _))⟩;exact ⟨Nat.le_trans (cH' xs lo hi) hz,_,0,(r.drop (HT.sIx xs.length 0 lo)).take (HT.sIx xs.length xs.length hi - HT.sIx xs.length 0 lo),Heap.get?_push_size _ rfl⟩
noncomputable def flatV:V->Bool
 | .non=>true
 | .bl _=>true
 | .int _=>true
 | .str _=>true
 | _=>false
noncomputable def eqV:V->V->Bool
 | .non,.non=>true
 | .bl a,.bl b=>a == b
 | .bl a,.int b=>(if a then 1 else 0) == b
 | .int a,.bl b=>a == (if b then 1 else 0)
 | .int a,.int b=>a == b
 | .str a,.str b=>a == b
 | _,_=>false
theorem lN' {A:Around} {s:Shared} {y x:V} {u v:Value} (ry:RelV y u) (rx:RelV x v) (fy:flatV y=true) (fx:flatV x=true):SeqAt.EqAt A s u v (eqV y x):=by
 cases y with
 | non =>
  cases ry
  cases x with
  | non=>cases rx; exact SeqAt.EqAt.same _
  | bl b=>cases rx; exact SeqAt.EqAt.none_bool b
  | int b=>obtain ⟨t,rfl⟩:=rx; exact SeqAt.EqAt.none_int b t
  | str b=>obtain ⟨t,rfl⟩:=rx; exact SeqAt.EqAt.none_str b t
  | _=>exact absurd (show false=true from fx) Bool.false_ne_true
 | bl a =>
  cases ry
  cases x with
  | non=>cases rx; exact SeqAt.EqAt.bool_none a
  | bl b=>cases rx; exact SeqAt.EqAt.bool_bool a b
  | int b=>obtain ⟨t,rfl⟩:=rx; exact SeqAt.EqAt.bool_int a b t
  | str b=>obtain ⟨t,rfl⟩:=rx; exact SeqAt.EqAt.bool_str a b t
  | _=>exact absurd (show false=true from fx) Bool.false_ne_true
 | int a =>
  obtain ⟨t',rfl⟩:=ry
  cases x with
  | non=>cases rx; exact SeqAt.EqAt.int_none a t'
  | bl b=>cases rx; exact SeqAt.EqAt.int_bool a t' b
  | int b=>obtain ⟨t,rfl⟩:=rx; exact SeqAt.EqAt.int_int a t' b t
  | str b=>obtain ⟨t,rfl⟩:=rx; exact SeqAt.EqAt.int_str a t' b t
  | _=>exact absurd (show false=true from fx) Bool.false_ne_true
 | str a =>
  obtain ⟨t',rfl⟩:=ry
  cases x with
  | non=>cases rx; exact SeqAt.EqAt.str_none a t'
  | bl b=>cases rx; exact SeqAt.EqAt.str_bool a t' b
  | int b=>obtain ⟨t,rfl⟩:=rx; exact SeqAt.EqAt.str_int a t' b t
  | str b=>obtain ⟨t,rfl⟩:=rx; exact SeqAt.EqAt.str_str a t' b t
  | _=>exact absurd (show false=true from fx) Bool.false_ne_true
 | _=>exact absurd (show false=true from fy) Bool.false_ne_true
noncomputable def eqU (x:V) (u:Value):Bool:=match u with
 | .none=>eqV .non x
 | .bool b=>eqV (.bl b) x
 | .int i _=>eqV (.int i) x
 | .str z _=>eqV (.str z) x
 | _=>false
theorem jD' {x y:V} {u:Value} (r:RelV y u) (f:flatV y=true):eqU x u=eqV y x:=by
 cases y with
 | non=>cases r; rfl
 | bl b=>cases r; rfl
 | int i=>obtain ⟨t,rfl⟩:=r; rfl
 | str z=>obtain ⟨t,rfl⟩:=r; rfl
 | _=>exact absurd (show false=true from f) Bool.false_ne_true
theorem eL' {x:V}:∀{xs:List V} {us:List Value},Vals xs us->xs.all flatV=true->us.any (eqU x)=xs.any fun y=>eqV y x
 | _,_,.nil,_=>rfl
 | y :: xs,u :: us,.cons r t,f=>by
  rw [List.all_cons,Bool.and_eq_true] at f;rw [List.any_cons,List.any_cons,jD' r f.1,eL' t f.2]
theorem dr' {A:Around} {s:Shared} {x:V} {v:Value} (rx:RelV x v) (fx:flatV x=true):∀{xs:List V} {us:List Value},Vals xs us->xs.all flatV=true->∀u∈us,SeqAt.EqAt A s u v (eqU x u)
 | _,_,.nil,_=>fun u hu=>by cases hu
 | y :: xs,u :: us,.cons r t,f=>fun u' hu=>by
  rw [List.all_cons,Bool.and_eq_true] at f;rcases List.mem_cons.mp hu with rfl | hu
  ·rw [jD' r f.1]; exact lN' r rx f.1 fx
  ·exact dr' rx fx t f.2 u' hu
noncomputable def inV (x:V) (xs:List V):Bool:=xs.any fun y=>eqV y x
noncomputable def rIn (K:PySem.W.Frag) (neg:Bool):R2:=fun x y H Q=>∃p xs,y=.ref p/\(SqL K H p xs\/SqT K H p xs)/\flatV x=true/\xs.all flatV=true/\Q (.bl (if neg then !inV x xs else inV x xs)) H
theorem dQ':OpR X (compareOp .NotIn) (rIn X.K true):=by
 intro pins s σ H x y v u Q I rx ry h;obtain ⟨p,xs,rfl,hq,fx,fs,q⟩:=h
 cases ry
 rcases hq with hq | hq
 ·obtain ⟨its,r,pl,hz⟩:=I.list hq;refine SeqAt.notIn_listAt (eqU x) pl.isList (fun w hw=>dr' rx fx r fs w (by simpa using hw)) ⟨.bl _,H,I,rfl,?_⟩;rw [show its.toArray.any (eqU x)=its.any (eqU x) by simp,eL' r fs];exact q
 ·obtain ⟨its,r,pl,hz⟩:=I.tuple hq;refine SeqAt.notIn_tupleAt (eqU x) pl (fun w hw=>dr' rx fx r fs w (by simpa using hw)) ⟨.bl _,H,I,rfl,?_⟩;rw [show its.toArray.any (eqU x)=its.any (eqU x) by simp,eL' r fs];exact q
theorem CallR.or {f:Value} {r r':List V->Hp->VK->Prop} (h:CallR X f r) (h':CallR X f r'):CallR X f (fun xs H Q=>r xs H Q\/r' xs H Q):=by
 intro pins s σ H xs us Q I rs q;rcases q with q | q
 ·exact h pins s σ H xs us Q I rs q
 ·exact h' pins s σ H xs us Q I rs q
theorem dt':CallR X (.type "tuple") (fun xs H Q=>∃p ys,xs=[.ref p]/\((SqL X.K H p ys/\∀l,H l=none->Q (.ref l) (upd H l (.tup ys)))\/(SqT X.K H p ys/\Q (.ref p) H))):=by
 intro pins s σ H xs us Q I r h;obtain ⟨p,ys,rfl,h⟩:=h;obtain ⟨u,rfl,rx⟩:=vals1 r
 cases rx
 rcases h with ⟨hq,q⟩ | ⟨hq,q⟩
 ·obtain ⟨its,r',pl,hz⟩:=I.list hq;have hlen:=r'.length;refine call_tuple_list pl.isList (fun h' kp=>?_) (by simp only [List.size_toArray] <;> omega)
  have I1:Inv X pins σ H { s with heap:=h' }:=I.kept (t':=s.toks) kp
  have I2:Inv X pins σ (upd H h'.objs.size (.tup ys)) { s with heap:=h'.push { cls:=.type "tuple",data:=.seq its.toArray } } :=
   I1.laid (t':=s.toks) (fun b o e=>Heap.get?_push_of_some _ e) (Nat.le_refl _) (show ObjOk X.prog X.w _ _ _ (.tup ys) from ⟨hz,its,r',IsTup.new _ _⟩)
  exact ⟨.ref h'.objs.size,_,I2,rfl,q _ (I1.hok.fresh (Nat.le_refl _))⟩
 ·obtain ⟨its,r',pl,hz⟩:=I.tuple hq;exact call_tuple_same pl ⟨.ref p,H,I,rfl,q⟩
variable {o e:Expr} {es:List Expr} {to:TE} {t:TA} {name:Str} {apos cpos:Pos} {T id:String} {r:V->List V->Hp->VK->Prop}
end
theorem Vals.one:∀{x:V} {us:List Value},Vals [x] us->∃u,us=[u]/\RelV x u
 | _,_,.cons r .nil=>⟨_,rfl,r⟩
theorem Vals.two:∀{x y:V} {us:List Value},Vals [x,y] us->∃u v,us=[u,v]/\RelV x u/\RelV y v
 | _,_,_,.cons r (.cons q .nil)=>⟨_,_,rfl,r,q⟩
theorem Vals.zero:∀{us:List Value},Vals [] us->us=[]
 | _,.nil=>rfl
theorem Vals.dropLast {xs:List V} {us:List Value} (h:Vals xs us):Vals xs.dropLast us.dropLast:=by
 induction h with
 | nil=>exact .nil
 | cons r t ih =>
  cases t with
  | nil=>exact .nil
  | cons q t'=>exact .cons r ih
theorem Vals.reverse {xs:List V} {us:List Value} (h:Vals xs us):Vals xs.reverse us.reverse:=by
 induction h with
 | nil=>exact .nil
 | cons r t ih=>rw [List.reverse_cons,List.reverse_cons]; exact Vals.append ih (.cons r .nil)
theorem Vals.rep {xs:List V} {us:List Value} (h:Vals xs us):∀k:Nat,Vals (List.replicate k xs).flatten (List.replicate k us).flatten
 | 0=>.nil
 | k + 1=>by
  rw [List.replicate_succ,List.replicate_succ,List.flatten_cons,List.flatten_cons];exact Vals.append h (Vals.rep h k)
theorem foldl_rep (its:List Value):∀(k:Nat) (acc:List Value),
  List.foldl (fun x1 x2=>x1 ++ x2) acc.toArray (List.replicate k its.toArray)=(acc ++ (List.replicate k its).flatten).toArray
 | 0,acc=>by simp
 | k + 1,acc=>by
  have e:acc.toArray ++ its.toArray=(acc ++ its).toArray:=by simp
  have e2:(acc ++ its) ++ (List.replicate k its).flatten=acc ++ (List.replicate (k + 1) its).flatten:=by
   rw [List.replicate_succ,List.flatten_cons,List.append_assoc]
  rw [<- e2,<- foldl_rep its k (acc ++ its),<- e,List.replicate_succ,List.foldl_cons]
section
variable {X:Cx} {pins:List (Addr×Obj)} {σ:St} {H:Hp} {s:Shared} {l b:Addr} {xs ys zs:List V}
theorem Inv.lset {its its':List Value} {n:Nat} {f:Array Value->Array Value} {t':Nat} (I:Inv X pins σ H s) (hH:H l=some (.lst xs))
  (e:s.heap.get? l=some { cls:=.type "list",data:=.seq its.toArray n }) (hf:f its.toArray=its'.toArray) (hv:Vals ys its') (hz:ys.length<=sizeLine) :
  Inv X pins σ (upd H l (.lst ys)) { s with heap:=s.heap.update l (Obj.mapSeq f),toks:=t' }:=by
 have q:=PySem.IsL.update e f;rw [hf] at q;refine I.write (x:=l) (e:=l) (by rw [hH]; exact trivial) (.inl rfl) (fun b' u hb hu=>(Heap.get?_update_other s.heap (Obj.mapSeq f) (Ne.symm hb)).trans hu) ⟨_,q⟩ ?_;exact ⟨hz,its',_,hv,q⟩
theorem Inv.lnew {its:List Value} {t':Nat} (I:Inv X pins σ H s) (hv:Vals ys its) (hz:ys.length<=sizeLine) :
  Inv X pins σ (upd H s.heap.objs.size (.lst ys)) { s with heap:=s.heap.push { cls:=.type "list",data:=.seq its.toArray },toks:=t' } :=
 I.laid (fun _ _ q=>Heap.get?_push_of_some _ q) (Nat.le_refl _) ⟨hz,its,0,hv,Heap.get?_push_size _ rfl⟩
theorem Inv.fresh (I:Inv X pins σ H s):H s.heap.objs.size=none:=I.hok.fresh (Nat.le_refl _)
theorem Inv.lstM (I:Inv X pins σ H s) (hH:H l=some (.lst xs)):xs.length<=sizeLine/\∃(its:List Value) (n:Nat),Vals xs its/\xs.length=its.length/\s.heap.get? l=some { cls:=.type "list",data:=.seq its.toArray n }:=by
 obtain ⟨z,its,n,r,e⟩:=I.hok l _ hH;exact ⟨z,its,n,r,r.length,e⟩
theorem iC' {n:Nat} (h:n<=sizeLine):Builtin.List.listTooLong n=false:=by
 unfold Builtin.List.listTooLong;exact decide_eq_false (by omega)
end
section
variable {X:Cx}
noncomputable def rRep:R2:=fun x y H Q=>∃l k xs,x=.ref l/\y=.int k/\H l=some (.lst xs)/\-(2 ^ 63)<=k/\k < 2 ^ 63/\xs.length * k.toNat<=sizeLine /\
 ∀p,H p=none->Q (.ref p) (upd H p (.lst (List.replicate k.toNat xs).flatten))
theorem len_rep {α:Type} (xs:List α) (k:Nat):(List.replicate k xs).flatten.length=k * xs.length:=by
 induction k with
 | zero=>simp
 | succ k ih=>rw [List.replicate_succ,List.flatten_cons,List.length_append,ih,Nat.succ_mul,Nat.add_comm]
theorem jE':OpR X (binaryOp .Mult) rRep:=by
 intro pins s σ H x y v u Q I rx ry h;obtain ⟨l,k,xs,rfl,rfl,hH,h1,h2,hz,q⟩:=h
 cases rx
 obtain ⟨t,rfl⟩:=ry;obtain ⟨z,its,n,r,hl,e⟩:=I.lstM hH;have hlen:its.toArray.size * k.toNat<=sizeLine:=by rw [List.size_toArray,<- hl]; exact hz
 have hcap:¬its.toArray.size * k.toNat > (2 ^ 63 - 1) / 8:=by
  have:(sizeLine:Nat)<=(2 ^ 63 - 1) / 8:=by decide
  omega
 have hfit:¬(!Builtin.List.listFitsIndex k)=true:=by
  rw [fitsIndex_both h1 h2];exact Bool.false_ne_true
 have hlong:¬Builtin.List.listTooLong (its.toArray.size * k.toNat)=true:=by
  rw [iC' hlen];exact Bool.false_ne_true
 have hnew:List.foldl (fun x1 x2=>x1 ++ x2) #[] (List.replicate (if its.toArray.isEmpty=true then 0 else k.toNat) its.toArray)=(List.replicate k.toNat its).flatten.toArray:=by
  have f0:∀m:Nat,List.foldl (fun x1 x2=>x1 ++ x2) #[] (List.replicate m its.toArray)=(List.replicate m its).flatten.toArray:=fun m=>by
   have:=foldl_rep its m [];rw [List.nil_append] at this;exact this
  rw [f0]
  cases its with
  | nil=>simp
  | cons a r'=>rw [if_neg (by simp)]
 refine wpAny_binaryOp_repeat_ref (T:="list") (U:="int") (by decide) ⟨_,e,rfl⟩ (fun s'=>typeIs_int s' k t) noFill_list_mul F.fills_int_mul F.slot_int_rmul repeat_list F.slot_int_index.lookup
  (call_meets F.slot_int_rmul (typeIs_int s k t) F.entry_int_rmul (F.args_int_rmul_2 _ _) (int___rmul___int_list k t l its.toArray n)
   ⟨e,rfl,⟨_,e,rfl⟩,call_meets F.slot_list_mul ⟨_,e,rfl⟩ F.entry_list_mul (F.args_list_mul_2 _ _) (AutoListH.list___mul___list_int_3 l its.toArray n k t hfit hcap hlong) ⟨e,?_⟩⟩)
 rw [hnew];exact ⟨.ref _,_,I.lnew (t':=s.toks) (r.rep k.toNat) (by rw [len_rep,Nat.mul_comm]; exact hz),rfl,q _ I.fresh⟩
end
section
variable {prog:Program} {w:World} {A:Around} {E:Value->Shared->Prop} {s:Shared}
end
section
variable {X:Cx}
end
end L2
namespace Att
open PySem PySem.W PySem.Calls PyProof.Rows
theorem cI' {P:Params} {h:Heap}:∀(ns:List Int) (vs:List Value),WellAll P h vs (ns.map WData.int)->IntsAre vs ns:=by
 intro ns
 induction ns with
 | nil =>
  intro vs w;rw [List.map_nil] at w
  cases w
  exact .nil
 | cons n ns ih =>
  intro vs w;rw [List.map_cons] at w
  cases w with
  | cons a b =>
   cases a
   exact .cons _ _ (ih _ b)
theorem gJ' {l:OpenLaw} {n:Nat} (hn:l.most=some n) {P:Params} {h:Heap} {args:List WData} {vals:List Value}
  (hpre:l.row.toRowW.claim.pre args=true) (hwl:WellAll P h vals args) :
  ∃a vs ns,vals=[Value.ref a]/\args=[WData.list (ns.map WData.int)]/\h.get? a=some { cls:=.type "list",data:=.seq vs.toArray }/\IntsAre vs ns/\ns.length<=n:=by
 have hsh:WShape.hasAll [] args [.list .int]=true:=(pre_splitW hpre).1;have hc:l.pre.holds [] { args:=args }=true:=(pre_splitW hpre).2;obtain ⟨d,r,rfl,h1,h2⟩:=hasAllW_cons hsh;obtain rfl:=hasAllW_nil h2;obtain ⟨xs,rfl,h3⟩:=hasW_list h1;obtain ⟨ns,rfl⟩:=items_int h3;have hlen:ns.length<=n:=by
  unfold OpenLaw.pre at hc;have h4:(WTm.not (.lt (.lit (.int (n:Int))) (.len (.arg 0)))).holds [] { args:=[.list (ns.map .int)] }=true:=by
   have h4:=(holds_andW hc).1;rw [hn] at h4;exact h4
  have h5:=condW_of h4 (w_not (w_lt w_lit (w_len_list (w_arg rfl))));rw [List.length_map] at h5;refine Nat.le_of_not_lt fun q=>?_;have q':(n:Int) < ((ns.length:Nat):Int):=by omega
  first
   | (rw [decide_eq_true q'] at h5; exact absurd h5 (by decide))
   | (simp at h5; omega)
 cases hwl with
 | cons w1 w2 =>
  cases w2
  cases w1 with
  | list ho hall=>exact ⟨_,_,ns,rfl,rfl,ho,cI' ns _ hall,hlen⟩
theorem gK' (l:OpenLaw) (args:List WData):l.row.toRowW.claim.post args (.bool true) args=true :=
 postW_of (r:=l.row.toRowW) (X:=(true == true))
  (show WShape.has [] (.bool true) .bool=true by first | rfl | decide | simp [WShape.has,WShape.arms,WShape.armsAll])
  (show (WTm.eq .res (.lit (.bool true))).value [] { args:=args,res:=some (.bool true),after:=args }=some (.bool (true == true)) from w_eq_bool (w_res rfl) w_lit) rfl
theorem attach_call {l:OpenLaw} {n:Nat} {q:Program} {loose:List Str} {XP:(Str->Option Value)->Heap->Prop} {YP:World->Heap->Prop} {d:DefRec}
  (hn:l.most=some n) (hdf:d.params.defaults=[])
  (call:∀(w:World) (s₀ s₁:Shared) (mg mb:Str->Option Value) (fa:Addr) (o:Obj) (pm cd doc:Value) (a:Addr) (vs:List Value) (ns:List Int),
   Ground q loose [] XP w s₀ mg mb s₁.heap->YP w s₁.heap ->
   s₁.heap.get? fa=some o->o.data=.func (docDef d.name d.params d.body d.scope pm cd doc)->s₁.heap.CodeRec cd d.name->mg d.name=some (.ref fa) ->
   s₁.heap.get? a=some { cls:=.type "list",data:=.seq vs.toArray }->IntsAre vs ns->ns.length<=n->s₁.gens = #[] ->
   codeAny (model l.prog w) callerA (.call (.ref fa) ⟨[.ref a],[]⟩) (fun r s'=>r=.ok (.ret (.bool true))/\OldK s₁.heap s'.heap/\s'.os=s₁.os/\AllBare s'.gens) s₁) :
  WalkO q loose XP YP l.row.toRowW d [] (fun f vs=>PySem.call f vs):=by
 intro w s₀ s₁ mg mb G Y fa o pm cd doc dV kV ho hd hcd hD hmg hg args vals as hpre hlay hrd hwl hlo;obtain rfl:dV=.none:=Dflts.none hD hdf;obtain rfl:kV=.none:=Dflts.noKw hD;obtain ⟨a,vs,ns,rfl,rfl,hobj,hints,hlen⟩:=gJ' hn hpre hwl;refine enter_call (codeAny_mono (call w s₀ s₁ mg mb fa o pm cd doc a vs ns G Y ho (fd_plain hd) hcd hmg hobj hints hlen hg) fun r s' hq=>?_);obtain ⟨rfl,h2,h3,h4⟩:=hq;exact ⟨.inl ⟨.bool true,.bool true,[],rfl,fun _=>rfl,.bool true,gK' l _,fun _=>⟨List.Pairwise.nil,fun _ hm=>(nomatch hm)⟩⟩,h2,h3,h4⟩
section
variable {prog:Program} {w:World} {A:Around} {E:Value->Shared->Prop} {s:Shared} {K:Frag}
end
end Att
namespace L2
open PySem PySem.Spec PyProof.Rows
theorem dR':∀{vs:List Value} {ns:List Int},IntsAre vs ns->Vals (ns.map V.int) vs
 | _,_,.nil=>.nil
 | _,_,.cons n t h=>.cons ⟨t,rfl⟩ (dR' h)
noncomputable def Only (H:Hp):Prop:=∀b,H b=none\/∃o xs,H b=some (.frz o (.lst xs))
theorem iD' {P:Program} {w:World} {K:PySem.W.Frag} {mg mb:Str->Option Value} {CX:CXT} {k:Nat} {fa a:Addr} {fd:FuncData} {x:Str} {sp:Sp} {s₁:Shared} {vs:List Value} {ns:List Int}
  (KX:K.In s₁.heap) (hns:s₁.heap.Ns mainGlobals mg) (hb:s₁.heap.Ns builtinsNs mb) (hbb:∀x:Str,x≠"__name__"->mb x=bootBuiltins x) (hlim:s₁.heap.NoLimit) (hg:s₁.gens = #[])
  (ha:s₁.heap.get? a=some { cls:=.type "list",data:=.seq vs.toArray }) (hi:IntsAre vs ns) (hl:ns.length<=sizeLine) (hr:Room k callerA)
  (F:∀base:Heap,K.In base->base.Ns mainGlobals mg->FnOk P w K mg base CX k fa fd [x] sp) (hbind:∀(s:Shared) (u:Value),BindsTo s fd ⟨[u],[]⟩ [(x,u)])
  (hsp:∀H:Hp,Only H->SqL K H a (ns.map V.int)->sp [.ref a] H (fun v _=>v=.bl true) fun _ _ _=>False)
  (hCX:∀H e s',CX [] H s₁ (fun _ _ _=>False) e s'->False) :
  codeAny (model P w) callerA (.call (.ref fa) ⟨[.ref a],[]⟩) (fun r s'=>r=.ok (.ret (.bool true))/\OldK s₁.heap s'.heap/\s'.os=s₁.os/\AllBare s'.gens) s₁:=by
 have rv:=dR' hi;have lenV:=hi.length;have core:∀H:Hp,Only H->SqL K H a (ns.map V.int)->HOk P w H s₁.heap->(∀b,H b≠none->b=a)->(H a≠none->K.lookup a=none) ->
   codeAny (model P w) callerA (.call (.ref fa) ⟨[.ref a],[]⟩) (fun r s'=>r=.ok (.ret (.bool true))/\OldK s₁.heap s'.heap/\s'.os=s₁.os/\AllBare s'.gens) s₁:=by
  intro H hO hS hok hA hK;have base_of:∀{b:Addr} {o:Obj},s₁.heap.get? b=some o->H b=none->(hidT s₁.heap H).get? b=some o:=fun e n=>iu' e n;have noA:∀{b:Addr} {o:Obj} {es:Array DictEntry} {ep:Nat},s₁.heap.get? b=some o->o.data=.dict es ep->H b=none:=fun {b o es ep} e d=>by
   cases q:H b with
   | none=>rfl
   | some u =>
    have e':b=a:=hA b (by rw [q]; simp);subst e';rw [ha] at e; cases e;have d':Data.seq vs.toArray _=Data.dict es ep:=d
    cases d'
  have nsK:∀{b:Addr} {m:Str->Option Value},s₁.heap.Ns b m->(hidT s₁.heap H).Ns b m:=fun {b m} ⟨o,es,ep,e,d,r⟩=>⟨o,es,ep,base_of e (noA e d),d,r⟩;have hKb:K.In (hidT s₁.heap H):=fun b o e=>base_of (KX b o e) (by
   cases q:H b with
   | none=>rfl
   | some u =>
    have e':b=a:=hA b (by rw [q]; simp);subst e';rw [hK (by rw [q]; simp)] at e; cases e)
  have hM:Mod K mg (hidT s₁.heap H):=⟨hKb,nsK hns,⟨mb,nsK hb,hbb⟩,let ⟨mc,h1,h2⟩:=hlim; ⟨mc,nsK h1,h2⟩⟩;have e0:Env0 P w K mg (hidT s₁.heap H) callerA [] s₁ H:=⟨rfl,hM,fun b o e=>ki' e,Nat.le_of_eq (gz' _ _),trivial,fun b hb=>absurd (show b∈([]:List Addr) from hb) (by simp),hok,.of_eq hg⟩
  refine codeAny_mono ((F _ hKb (nsK hns)).run callerA [] s₁ H ⟨[.ref a],[]⟩ [.ref a] [.ref a] _ _ hr e0 (hbind s₁ (.ref a)) (.cons rfl .nil) (hsp H hO hS)) fun r s' h=>?_
  cases r with
  | error e=>exact (hCX H e s' h).elim
  | ok fl =>
   cases fl with
   | next=>exact False.elim h
   | brk=>exact False.elim h
   | cont=>exact False.elim h
   | ret u =>
    obtain ⟨v,H',os,bare,un,hok',r',q⟩:=h;have q':v=.bl true:=q;subst q';obtain rfl:u=Value.bool true:=r';refine ⟨rfl,OldK.of_keep fun b o e=>?_,os,bare⟩
    cases q:H b with
    | none=>exact un.keep b o e q (by intro z; exact absurd (show b∈([]:List Addr) from z) (by simp)) (by simp)
    | some u =>
     rcases hO b with z | ⟨ob,xs,z⟩
     ·rw [q] at z; cases z
     ·have z2:=un.frzs b ob _ z;obtain ⟨e1,_⟩:=hok b _ z;obtain ⟨e2,_⟩:=hok' b _ z2;rw [e] at e1; cases e1;exact e2
 cases hk:K.lookup a with
 | some o =>
  have e:=KX a o hk;rw [ha] at e
  cases e
  refine core (fun _=>none) (fun _=>.inl rfl) (.inr ⟨_,vs.toArray,_,hk,rfl,rfl,rfl,by rw [List.size_toArray,lenV]; exact hl,by simpa using rv⟩) (fun b u z=>by have z':(none:Option HO)=some u:=z; cases z') (fun b z=>absurd rfl z) fun z=>absurd rfl z
 | none =>
  refine core (fun b=>if b=a then some (.frz { cls:=.type "list",data:=.seq vs.toArray } (.lst (ns.map V.int))) else none) (fun b=>?_) (.inl (.inr ⟨{ cls:=.type "list",data:=.seq vs.toArray },if_pos rfl⟩)) (fun b u z=>?_) (fun b z=>?_) fun _=>hk
  ·by_cases hb:b=a
   ·exact .inr ⟨_,_,if_pos hb⟩
   ·exact .inl (if_neg hb)
  ·by_cases hb:b=a
   ·have z':=(if_pos hb).symm.trans z
    cases z'
    subst hb;exact ⟨ha,by rw [List.length_map]; exact hl,vs,_,rv,ha⟩
   ·have z':=(if_neg hb).symm.trans z
    cases z'
  ·by_cases hb:b=a
   ·exact hb
   ·exact absurd (if_neg hb) z
abbrev KOf {K:PySem.W.Frag} {h:Heap} (_:K.In h):PySem.W.Frag:=K
theorem walk_of {l:PySem.W.OpenLaw} {n k:Nat} {q:Program} {loose:List Str} {XP:(Str->Option Value)->Heap->Prop} {YP:World->Heap->Prop} {d:DefRec} {K:Params->PySem.W.Frag} {CX:World->CXT} {sp:World->Sp} {x:Str}
  (hn:l.most=some n) (hn2:n<=sizeLine) (hdf:d.params.defaults=[]) (hr:Room k callerA)
  (hY:∀(w:World) (h:Heap),YP w h->(K w.params).In h)
  (F:∀(w:World) (mg:Str->Option Value) (fa:Addr) (h:Heap),(K w.params).In h->h.Ns mainGlobals mg->mg d.name=some (.ref fa) ->
   ∃fd:FuncData,(∀(s:Shared) (u:Value),BindsTo s fd ⟨[u],[]⟩ [(x,u)]) /\
    ∀base:Heap,(K w.params).In base->base.Ns mainGlobals mg->FnOk l.prog w (K w.params) mg base (CX w) k fa fd [x] (sp w))
  (hsp:∀(w:World) (H:Hp) (a:Addr) (ns:List Int),ns.length<=n->Only H->SqL (K w.params) H a (ns.map V.int)->sp w [.ref a] H (fun v _=>v=.bl true) fun _ _ _=>False)
  (hCX:∀(w:World) (H:Hp) (s:Shared) (e:Value) (s':Shared),CX w [] H s (fun _ _ _=>False) e s'->False) :
  PySem.W.WalkO q loose XP YP l.row.toRowW d [] (fun f vs=>PySem.call f vs):=by
 refine Att.attach_call hn hdf fun w s₀ s₁ mg mb fa o pm cd doc a vs ns G Y ho hd hcd hmg hobj hints hlen hg=>?_;have KX:=hY w _ Y;obtain ⟨fd,hb,hF⟩:=F w mg fa _ KX G.T.g hmg;exact iD' KX G.T.g G.T.b G.T.builtins G.T.nolimit hg hobj hints (Nat.le_trans hlen hn2) hr hF hb (fun H hO hS=>hsp w H a ns hlen hO hS) fun H e s'=>hCX w H s₁ e s'
noncomputable def defArgs (s:Stmt):Arguments:=match s with
 | .FunctionDef _ a _ _ _ _ _ _ _ _=>a
 | _=>{ posonlyargs:=[],args:=[],vararg:=none,kwonlyargs:=[],kw_defaults:=[],kwarg:=none,defaults:=[] }
noncomputable def defBody (s:Stmt):List Stmt:=match s with
 | .FunctionDef _ _ b _ _ _ _ _ _ _=>b
 | _=>[]
noncomputable def defScope (s:Stmt):Scope:=match s with
 | .FunctionDef _ _ _ _ _ _ sc _ _ _=>sc
 | _=>{ kind:=.function,names:=[],isGenerator:=false,isCoroutine:=false }
abbrev CX0:CXT:=fun _ _ _ _ _ _=>False
abbrev E0:XK:=fun _ _ _=>False
structure Fun (K:PySem.W.Frag) (x qual:Str) (st:Stmt) (f:Addr) (fd:FuncData):Prop where
 ex:∃(oc:Value) (od:Option Addr) (kV doc pm:Value) (an:Option Addr) (cdv ct:Value) (osl:Array (Option Value)),
  fd=PySem.W.fnOf x qual (defArgs st) (defBody st) (defScope st) .none kV doc pm an cdv ct/\K.lookup f=some ⟨oc,od,.func fd,osl⟩/\PySem.W.codeIn K cdv qual=true
 kp:PySem.W.keepIn K (.ref f)=true
section
variable {P:Program} {w:World} {K:PySem.W.Frag} {mg:Str->Option Value} {base:Heap}
theorem Fun.ok {x qual:Str} {st:Stmt} {f:Addr} {fd:FuncData} {N ps:List Str} {k:Nat} {sp:Sp} (F:Fun K x qual st f fd) (S:FnScope N ps (defScope st)) (len:∀vs H Q E,sp vs H Q E->vs.length=ps.length)
  (hbody:∀(cdv:Value) (A:Around) (outer:List Env) (s:Shared) (H:Hp) (vs:List V) (Q:VK) (E:XK),Room k (A.deeper (envOfC qual (defScope st) s.heap.objs.size f cdv))->sp vs H Q E ->
   ∃t,PSs (cxOf CX0 P w K mg base N qual (defScope st) f cdv A outer s H E).nox (defBody st) t/\t { nx:=fun _ H'=>Q .non H',rt:=Q } (start N vs) H):FnOk P w K mg base CX0 (k + 1) f fd ps sp:=by
 obtain ⟨oc,od,kV,doc,pm,an,cdv,ct,osl,rfl,lk,hcd⟩:=F.ex;refine lK' lk hcd S len fun A outer s H vs Q E hr hsp=>?_;obtain ⟨t,h,q⟩:=hbody cdv A outer s H vs Q E hr hsp;exact ⟨t,h.nox,q⟩
theorem Fun.binds {x qual:Str} {st:Stmt} {f:Addr} {fd:FuncData} {ps:List Str} (F:Fun K x qual st f fd)
  (h:∀(kV doc pm:Value) (an:Option Addr) (cdv ct:Value) (us:List Value),us.length=ps.length->bindArgs (PySem.W.fnOf x qual (defArgs st) (defBody st) (defScope st) .none kV doc pm an cdv ct) ⟨us,[]⟩=pure (ps.zip us)):Binds K fd ps []:=by
 obtain ⟨oc,od,kV,doc,pm,an,cdv,ct,osl,rfl,lk,hcd⟩:=F.ex;exact .all (h kV doc pm an cdv ct)
theorem jF' {x qual:Str} {st:Stmt} {f:Addr} {oc:Value} {od an:Option Addr} {osl:Array (Option Value)} {kV doc pm cdv ct:Value} (l:K.lookup f=some ⟨oc,od,.func (PySem.W.fnOf x qual (defArgs st) (defBody st) (defScope st) .none kV doc pm an cdv ct),osl⟩)
  (c:PySem.W.codeIn K cdv qual=true) (k:PySem.W.keepIn K (.ref f)=true):Fun K x qual st f (PySem.W.fnOf x qual (defArgs st) (defBody st) (defScope st) .none kV doc pm an cdv ct):=⟨⟨oc,od,kV,doc,pm,an,cdv,ct,osl,rfl,l,c⟩,k⟩
end
section
variable {X:Cx}
end
noncomputable def Same (H H':Hp):Prop:=∀b o,H b=some o->H' b=some o
theorem Same.refl (H:Hp):Same H H:=fun _ _ h=>h
theorem Same.trans {H H1 H2:Hp} (a:Same H H1) (b:Same H1 H2):Same H H2:=fun c o h=>b c o (a c o h)
theorem Same.free {H H':Hp} (e:Same H H') {l:Addr} (h:H' l=Option.none):H l=Option.none:=by
 cases q:H l with
 | none=>rfl
 | some o =>
  rw [e l o q] at h
  cases h
theorem Same.seq {K:PySem.W.Frag} {H H':Hp} {a:Addr} {xs:List V} (e:Same H H') (h:SqL K H a xs):SqL K H' a xs:=by
 rcases h with (h | ⟨o,h⟩) | h
 ·exact .inl (.inl (e _ _ h))
 ·exact .inl (.inr ⟨o,e _ _ h⟩)
 ·exact .inr h
end L2
namespace DL
open PySem PySem.Spec PyProof.Rows L2
abbrev St:=L2.St
inductive D where
 | non
 | bl (b:Bool)
 | int (i:Int)
 | str (x:Str)
 | tup (ds:List D)
 | lst (ds:List D)
 | exc (c:Str)
 | excf (c f:Str) (d:D)
 | dct
structure Exn where
 cls:Str
 pay:Option (Str×D):=none
inductive Res (α:Type) where
 | stuck
 | ok (a:α)
 | err (x:Exn)
noncomputable def Res.bind {α β:Type} (r:Res α) (f:α->Res β):Res β:=match r with
 | .stuck=>.stuck
 | .ok a=>f a
 | .err x=>.err x
@[simp] theorem Res.bind_ok {α β:Type} (a:α) (f:α->Res β):(Res.ok a).bind f=f a:=rfl
@[simp] theorem Res.bind_stuck {α β:Type} (f:α->Res β):(Res.stuck).bind f=.stuck:=rfl
@[simp] theorem Res.bind_err {α β:Type} (x:Exn) (f:α->Res β):(Res.err x).bind f=.err x:=rfl
noncomputable def excAt (a C:Addr) (dd:Option Addr) (h:Heap):Prop:=∃o vs,h.get? a=some o/\o.cls=.ref C/\o.dict=dd/\o.data=.fields vs
section
variable (K:PySem.W.Frag)
mutual
noncomputable def Rep (H:Hp):D->V->Prop
 | .non,v=>v=.non
 | .bl b,v=>v=.bl b
 | .int i,v=>v=.int i
 | .str x,v=>v=.str x
 | .tup ds,v=>∃a xs,v=.ref a/\SqT K H a xs/\Reps H ds xs
 | .lst ds,v=>∃a xs,v=.ref a/\SqL K H a xs/\Reps H ds xs
 | .exc c,v=>∃a C,v=.ref a/\PySem.W.nsIn K mainGlobals c=some (some (.ref C))/\H a=some (.ext (excAt a C none))
 | .excf c f d,v=>∃a C dx u,v=.ref a/\PySem.W.nsIn K mainGlobals c=some (some (.ref C))/\H a=some (.ext (excAt a C (some dx)))/\H dx=some (.xd [(f,u)])/\Rep H d u
 | .dct,v=>∃a,v=.ref a/\H a=some (.ext (PySem.W.KitAt a "dict"))
noncomputable def Reps (H:Hp):List D->List V->Prop
 | [],xs=>xs=[]
 | d :: ds,xs=>∃v vs,xs=v :: vs/\Rep H d v/\Reps H ds vs
end
end
theorem cf' {K:PySem.W.Frag} {H H':Hp} {a:Addr} {xs:List V} (e:Same H H') (h:SqT K H a xs):SqT K H' a xs:=by
 rcases h with (h | ⟨o,h⟩) | h
 ·exact .inl (.inl (e _ _ h))
 ·exact .inl (.inr ⟨o,e _ _ h⟩)
 ·exact .inr h
mutual
theorem Rep.mono {K:PySem.W.Frag} {H H':Hp} (e:Same H H'):∀{d:D} {v:V},Rep K H d v->Rep K H' d v
 | .non,_,h=>by rw [Rep] at h ⊢; exact h
 | .bl _,_,h=>by rw [Rep] at h ⊢; exact h
 | .int _,_,h=>by rw [Rep] at h ⊢; exact h
 | .str _,_,h=>by rw [Rep] at h ⊢; exact h
 | .tup ds,_,h=>by
  rw [Rep] at h ⊢;obtain ⟨a,xs,e1,e2,e3⟩:=h;exact ⟨a,xs,e1,cf' e e2,Reps.mono e e3⟩
 | .lst ds,_,h=>by
  rw [Rep] at h ⊢;obtain ⟨a,xs,e1,e2,e3⟩:=h;exact ⟨a,xs,e1,e.seq e2,Reps.mono e e3⟩
 | .exc _,_,h=>by
  rw [Rep] at h ⊢;obtain ⟨a,C,e1,e2,e3⟩:=h;exact ⟨a,C,e1,e2,e _ _ e3⟩
 | .excf _ _ d,_,h=>by
  rw [Rep] at h ⊢;obtain ⟨a,C,dx,u,e1,e2,e3,e4,e5⟩:=h;exact ⟨a,C,dx,u,e1,e2,e _ _ e3,e _ _ e4,Rep.mono e e5⟩
 | .dct,_,h=>by
  rw [Rep] at h ⊢;obtain ⟨a,e1,e2⟩:=h;exact ⟨a,e1,e _ _ e2⟩
theorem Reps.mono {K:PySem.W.Frag} {H H':Hp} (e:Same H H'):∀{ds:List D} {vs:List V},Reps K H ds vs->Reps K H' ds vs
 | [],_,h=>by rw [Reps] at h ⊢; exact h
 | d :: ds,_,h=>by
  rw [Reps] at h ⊢;obtain ⟨v,vs,e1,e2,e3⟩:=h;exact ⟨v,vs,e1,Rep.mono e e2,Reps.mono e e3⟩
end
theorem Reps.nil {K:PySem.W.Frag} {H:Hp}:Reps K H [] []:=by rw [Reps]
theorem Reps.cons {K:PySem.W.Frag} {H:Hp} {d:D} {v:V} {ds:List D} {vs:List V} (h:Rep K H d v) (t:Reps K H ds vs):Reps K H (d :: ds) (v :: vs):=by
 rw [Reps]; exact ⟨v,vs,rfl,h,t⟩
theorem Reps.nil_of {K:PySem.W.Frag} {H:Hp} {xs:List V} (h:Reps K H [] xs):xs=[]:=by rw [Reps] at h; exact h
theorem Reps.cons_of {K:PySem.W.Frag} {H:Hp} {d:D} {ds:List D} {xs:List V} (h:Reps K H (d :: ds) xs):∃v vs,xs=v :: vs/\Rep K H d v/\Reps K H ds vs:=by rw [Reps] at h; exact h
theorem Reps.length {K:PySem.W.Frag} {H:Hp}:∀{ds:List D} {vs:List V},Reps K H ds vs->vs.length=ds.length
 | [],_,h=>by rw [h.nil_of]; rfl
 | d :: ds,_,h=>by
  obtain ⟨v,vs,rfl,_,t⟩:=h.cons_of;simp [Reps.length t]
theorem Reps.isEmpty {K:PySem.W.Frag} {H:Hp} {ds:List D} {vs:List V} (h:Reps K H ds vs):vs.isEmpty=ds.isEmpty:=by
 cases ds with
 | nil=>rw [h.nil_of]; rfl
 | cons d ds=>obtain ⟨v,vs,rfl,_,_⟩:=h.cons_of; rfl
theorem Reps.get {K:PySem.W.Frag} {H:Hp}:∀{ds:List D} {vs:List V} {i:Nat} {d:D},Reps K H ds vs->ds[i]? = some d->∃v,vs[i]? = some v/\Rep K H d v
 | [],_,i,d,h,e=>by simp at e
 | d' :: ds,_,0,d,h,e=>by
  obtain ⟨v,vs,rfl,r,t⟩:=h.cons_of;simp at e; subst e;exact ⟨v,by simp,r⟩
 | d' :: ds,_,i + 1,d,h,e=>by
  obtain ⟨v,vs,rfl,r,t⟩:=h.cons_of;simp at e;obtain ⟨u,e1,e2⟩:=Reps.get t e;exact ⟨u,by simpa using e1,e2⟩
theorem Reps.get' {K:PySem.W.Frag} {H:Hp}:∀{ds:List D} {vs:List V} {i:Nat} {v:V},Reps K H ds vs->vs[i]? = some v->∃d,ds[i]? = some d/\Rep K H d v
 | [],_,i,v,h,e=>by rw [h.nil_of] at e; simp at e
 | d' :: ds,_,0,v,h,e=>by
  obtain ⟨v',vs,rfl,r,t⟩:=h.cons_of;simp at e; subst e;exact ⟨d',by simp,r⟩
 | d' :: ds,_,i + 1,v,h,e=>by
  obtain ⟨v',vs,rfl,r,t⟩:=h.cons_of;simp at e;obtain ⟨u,e1,e2⟩:=Reps.get' t e;exact ⟨u,by simpa using e1,e2⟩
theorem Reps.append {K:PySem.W.Frag} {H:Hp}:∀{ds es:List D} {vs ws:List V},Reps K H ds vs->Reps K H es ws->Reps K H (ds ++ es) (vs ++ ws)
 | [],_,_,_,h,t=>by rw [h.nil_of]; exact t
 | d :: ds,_,_,_,h,t=>by
  obtain ⟨v,vs,rfl,r,q⟩:=h.cons_of;exact Reps.cons r (Reps.append q t)
theorem Reps.take {K:PySem.W.Frag} {H:Hp}:∀(n:Nat) {ds:List D} {vs:List V},Reps K H ds vs->Reps K H (ds.take n) (vs.take n)
 | 0,_,_,_=>by simpa using Reps.nil
 | n + 1,[],_,h=>by rw [h.nil_of]; simpa using Reps.nil
 | n + 1,d :: ds,_,h=>by
  obtain ⟨v,vs,rfl,r,q⟩:=h.cons_of;simpa using Reps.cons r (Reps.take n q)
theorem Reps.drop {K:PySem.W.Frag} {H:Hp}:∀(n:Nat) {ds:List D} {vs:List V},Reps K H ds vs->Reps K H (ds.drop n) (vs.drop n)
 | 0,_,_,h=>by simpa using h
 | n + 1,[],_,h=>by rw [h.nil_of]; simpa using Reps.nil
 | n + 1,d :: ds,_,h=>by
  obtain ⟨v,vs,rfl,r,q⟩:=h.cons_of;simpa using Reps.drop n q
inductive SV where
 | val (d:D)
 | arg (d:D)
 | own (ds:List D)
abbrev DS:=List (Option SV)
noncomputable def SV.view:SV->D
 | .val d=>d
 | .arg d=>d
 | .own ds=>.lst ds
noncomputable def RepSV (K:PySem.W.Frag) (G H:Hp):SV->V->Prop
 | .val d,v=>Rep K H d v
 | .arg d,v=>Rep K G d v
 | .own ds,v=>∃a xs,v=.ref a/\H a=some (.lst xs)/\Reps K H ds xs/\G a=none
structure RepSt (K:PySem.W.Frag) (G H:Hp) (σ:St) (δ:DS):Prop where
 same:Same G H
 len:σ.length=δ.length
 at_:∀(i:Nat) (sv:SV),δ[i]? = some (some sv)->∃v,σ[i]? = some (some v)/\RepSV K G H sv v
 sep:∀(i j:Nat) (ds es:List D) (v:V),i≠j->δ[i]? = some (some (.own ds))->δ[j]? = some (some (.own es))->σ[i]? = some (some v)->σ[j]?≠some (some v)
structure TK (H H':Hp):Prop where
 tup:∀b xs,H b=some (.tup xs)->H' b=some (.tup xs)
 frz:∀b o u,H b=some (.frz o u)->H' b=some (.frz o u)
 trk:∀b,H' b=none->H b=none
theorem _root_.L2.Same.tk {H H':Hp} (e:Same H H'):TK H H':=⟨fun b xs h=>e b _ h,fun b o u h=>e b _ h,fun b h=>e.free h⟩
theorem TK.refl (H:Hp):TK H H:=⟨fun _ _ h=>h,fun _ _ _ h=>h,fun _ h=>h⟩
theorem TK.trans {H H1 H2:Hp} (a:TK H H1) (b:TK H1 H2):TK H H2:=⟨fun c xs h=>b.tup c xs (a.tup c xs h),fun c o u h=>b.frz c o u (a.frz c o u h),fun c h=>a.trk c (b.trk c h)⟩
theorem RepSt.mono {K:PySem.W.Frag} {G H H':Hp} {σ:St} {δ:DS} (R:RepSt K G H σ δ) (e:Same H H'):RepSt K G H' σ δ where
 same:=R.same.trans e
 len:=R.len
 at_:=fun i sv h=>by
  obtain ⟨v,e1,e2⟩:=R.at_ i sv h;refine ⟨v,e1,?_⟩
  cases sv with
  | val d=>exact Rep.mono e e2
  | arg d=>exact e2
  | own ds =>
   obtain ⟨a,xs,q1,q2,q3,q4⟩:=e2;exact ⟨a,xs,q1,e _ _ q2,q3.mono e,q4⟩
 sep:=R.sep
theorem RepSt.view {K:PySem.W.Frag} {G H:Hp} {σ:St} {δ:DS} (R:RepSt K G H σ δ) {i:Nat} {sv:SV} (h:δ[i]? = some (some sv)):∃v,σ[i]? = some (some v)/\Rep K H sv.view v:=by
 obtain ⟨v,e1,e2⟩:=R.at_ i sv h;refine ⟨v,e1,?_⟩
 cases sv with
 | val d=>exact e2
 | arg d=>exact Rep.mono R.same e2
 | own ds =>
  obtain ⟨a,xs,rfl,q2,q3,q4⟩:=e2;show Rep K H (.lst ds) _;rw [Rep];exact ⟨a,xs,rfl,SqL.of q2,q3⟩
theorem RepSt.set {K:PySem.W.Frag} {G H:Hp} {σ:St} {δ:DS} (R:RepSt K G H σ δ) (i:Nat) {d:D} {v:V} (h:Rep K H d v):RepSt K G H (σ.set i (some v)) (δ.set i (some (.val d))) where
 same:=R.same
 len:=by simpa using R.len
 at_:=fun j sv e=>by
  by_cases hj:i=j
  ·subst hj;have hl:i < δ.length:=by
    rw [List.getElem?_set] at e
    by_cases q:i < δ.length
    ·exact q
    ·simp [q] at e
   rw [List.getElem?_set_self hl] at e
   cases e
   exact ⟨v,by rw [List.getElem?_set_self (by rw [R.len]; exact hl)],h⟩
  ·rw [List.getElem?_set_ne hj] at e;obtain ⟨u,e1,e2⟩:=R.at_ j sv e;exact ⟨u,by rw [List.getElem?_set_ne hj]; exact e1,e2⟩
 sep:=fun j k ds es u hjk e1 e2 e3=>by
  have n1:i≠j:=by
   rintro rfl
   rw [List.getElem?_set] at e1
   split at e1
   ·split at e1 <;> cases e1
   ·omega
  have n2:i≠k:=by
   rintro rfl
   rw [List.getElem?_set] at e2
   split at e2
   ·split at e2 <;> cases e2
   ·omega
  rw [List.getElem?_set_ne n1] at e1 e3;rw [List.getElem?_set_ne n2] at e2;rw [List.getElem?_set_ne n2];exact R.sep j k ds es u hjk e1 e2 e3
theorem RepSt.setOwn {K:PySem.W.Frag} {G H H':Hp} {σ:St} {δ:DS} (R:RepSt K G H σ δ) (e:Same H H') (i:Nat) {ds:List D} {a:Addr} {xs:List V} (hn:H a=none) (h:H' a=some (.lst xs)) (r:Reps K H' ds xs) :
  RepSt K G H' (σ.set i (some (.ref a))) (δ.set i (some (.own ds))) where
 same:=R.same.trans e
 len:=by simpa using R.len
 at_:=fun j sv q=>by
  have R':=R.mono e
  by_cases hj:i=j
  ·subst hj;have hl:i < δ.length:=by
    rw [List.getElem?_set] at q
    by_cases z:i < δ.length
    ·exact z
    ·simp [z] at q
   rw [List.getElem?_set_self hl] at q
   cases q
   exact ⟨.ref a,by rw [List.getElem?_set_self (by rw [R.len]; exact hl)],a,xs,rfl,h,r,R.same.free hn⟩
  ·rw [List.getElem?_set_ne hj] at q;obtain ⟨u,e1,e2⟩:=R'.at_ j sv q;exact ⟨u,by rw [List.getElem?_set_ne hj]; exact e1,e2⟩
 sep:=fun j k ds' es u hjk e1 e2 e3=>by
  have old:∀(m:Nat) (fs:List D) (z:V),δ[m]? = some (some (.own fs))->σ[m]? = some (some z)->z≠.ref a:=fun m fs z q1 q2 q3=>by
   obtain ⟨v,w1,b,ys,w2,w3,_⟩:=R.at_ m _ q1;rw [q2] at w1
   cases w1
   rw [q3] at w2
   cases w2
   rw [hn] at w3
   cases w3
  by_cases hj:i=j
  ·subst hj;have nk:i≠k:=hjk;rw [List.getElem?_set_ne nk] at e2;rw [List.getElem?_set_ne nk];intro q;have ev:u=.ref a:=by
    rw [List.getElem?_set] at e3
    split at e3
    ·split at e3
     ·cases e3; rfl
     ·cases e3
    ·omega
   exact old k es u e2 q ev
  ·rw [List.getElem?_set_ne hj] at e1 e3
   by_cases hk:i=k
   ·subst hk;intro q;have ev:u=.ref a:=by
     rw [List.getElem?_set] at q
     split at q
     ·split at q
      ·cases q; rfl
      ·cases q
     ·omega
    exact old j ds' u e1 e3 ev
   ·rw [List.getElem?_set_ne hk] at e2;rw [List.getElem?_set_ne hk];exact R.sep j k ds' es u hjk e1 e2 e3
theorem obj_some {P:Program} {w:World} {H:Hp} {h:Heap} {a:Addr} {o:HO} (x:ObjOk P w H h a o):∃ob,h.get? a=some ob:=by
 cases o with
 | lst xs=>obtain ⟨_,_,_,_,e⟩:=x; exact ⟨_,e⟩
 | tup xs=>obtain ⟨_,_,_,o,e,_⟩:=x; exact ⟨o,e⟩
 | dK kvs=>obtain ⟨_,_,_,_,o,_,_,e,_⟩:=x; exact ⟨o,e⟩
 | dT kvs=>obtain ⟨_,_,_,_,o,_,_,e,_⟩:=x; exact ⟨o,e⟩
 | set S n=>obtain ⟨o,_,_,_,e,_⟩:=x; exact ⟨o,e⟩
 | ins C dx fs=>obtain ⟨_,_,_,e,_⟩:=x; exact ⟨_,e⟩
 | own y=>obtain ⟨o,e⟩:=x; exact ⟨o,e⟩
 | xd fs=>obtain ⟨_,⟨o,_,_,e,_⟩,_⟩:=x; exact ⟨o,e⟩
 | rng lo hi=>obtain ⟨_,_,_,e⟩:=x; exact ⟨_,e⟩
 | frz ob u=>obtain ⟨e,_⟩:=x; exact ⟨_,e⟩
 | tbl ps=>exact ⟨_,show h.get? a=some _ from x⟩
 | met f y=>exact ⟨_,show h.get? a=some _ from x⟩
 | ext φ=>obtain ⟨_,⟨o,e⟩,_⟩:=x; exact ⟨o,e⟩
noncomputable def NoRec (h:Heap) (e:Addr):Prop:=∀o vs,h.get? e=some o->o.data≠.fields vs
noncomputable def Back (H:Hp) (h h1:Heap):Prop:=∀e,H e=none->NoRec h1 e->NoRec h e
theorem Back.refl (H:Hp) (h:Heap):Back H h h:=fun _ _ q=>q
theorem Back.trans {H H1:Hp} {h h1 h2:Heap} (a:Back H h h1) (b:Back H1 h1 h2) (k:∀e,H e=none->NoRec h2 e->H1 e=none):Back H h h2:=fun e n q=>a e n (b e (k e n q) q)
noncomputable def Fly (h0:Heap) (H:Hp) (h:Heap) (e:Addr) (cls:Value×Option Addr):Prop :=
 NoRec h0 e/\H e=none/\∃oe vs a0,h.get? e=some oe/\(oe.cls=cls.1/\oe.dict=cls.2)/\oe.data=.fields vs/\vs[0]? = some a0 /\
  (vs[1]? = some .none\/∃T oT ts,vs[1]? = some (.ref T)/\NoRec h0 T/\H T=none/\T≠e/\h.get? T=some oT/\oT.data=.fields ts/\ts[3]? = some .none)
theorem Fly.back {h0 h1 h:Heap} {H0 H1 H:Hp} {e:Addr} {cls:Value×Option Addr} (f:Fly h1 H h e cls) (e1:TK H0 H1) (e2:TK H1 H) (b:Back H0 h0 h1):Fly h0 H h e cls:=by
 obtain ⟨n,he,oe,vs,a0,q1,q2,q3,q4,q5⟩:=f;refine ⟨b e (e1.trk e (e2.trk e he)) n,he,oe,vs,a0,q1,q2,q3,q4,?_⟩;rcases q5 with q5 | ⟨T,oT,ts,w1,w2,w3,w4⟩
 ·exact .inl q5
 ·exact .inr ⟨T,oT,ts,w1,b T (e1.trk T (e2.trk T w3)) w2,w3,w4⟩
noncomputable def Pay (K:PySem.W.Frag) (H:Hp) (x:Exn) (dd:Option Addr):Prop:=match x.pay with
 | none=>dd=none
 | some (f,d)=>∃dx u,dd=some dx/\H dx=some (.xd [(f,u)])/\Rep K H d u
noncomputable def FlyX (K:PySem.W.Frag) (x:Exn) (h0:Heap) (H:Hp) (h:Heap) (e C:Addr):Prop:=∃dd,Pay K H x dd/\Fly h0 H h e (.ref C,dd)
theorem FlyX.back {K:PySem.W.Frag} {x:Exn} {h0 h1 h:Heap} {H0 H1 H:Hp} {e C:Addr} (f:FlyX K x h1 H h e C) (e1:TK H0 H1) (e2:TK H1 H) (b:Back H0 h0 h1):FlyX K x h0 H h e C:=by
 obtain ⟨dd,p,f⟩:=f;exact ⟨dd,p,f.back e1 e2 b⟩
noncomputable def EPost (X:Cx) (pins:List (Addr×Obj)) (σ:St) (H:Hp) (r:Res D) (u:Value) (s1:Shared):Prop:=∃d v H1,r=.ok d/\Inv X pins σ H1 s1/\RelV v u/\Same H H1/\Rep X.K H1 d v
noncomputable def XPost {α:Type} (X:Cx) (pins:List (Addr×Obj)) (σ:St) (H:Hp) (h0:Heap) (r:Res α) (e:Value) (s1:Shared):Prop :=
 ∃x a C H1,r=.err x/\e=.ref a/\Inv X pins σ H1 s1/\Same H H1/\PySem.W.nsIn X.K mainGlobals x.cls=some (some (.ref C))/\FlyX X.K x h0 H1 s1.heap a C
theorem XPost.back {α β:Type} {X:Cx} {pins:List (Addr×Obj)} {σ:St} {H H1:Hp} {h h1:Heap} {r:Res α} {r':Res β} {e:Value} {s1:Shared} (p:XPost X pins σ H1 h1 r e s1) (e1:Same H H1) (b:Back H h h1) (hr:∀x,r=.err x->r'=.err x):XPost X pins σ H h r' e s1:=by
 obtain ⟨x,a,C,H2,q1,q2,q3,q4,q5,q6⟩:=p;exact ⟨x,a,C,H2,hr x q1,q2,q3,e1.trans q4,q5,q6.back e1.tk q4.tk b⟩
theorem XPost.same {α β:Type} {X:Cx} {pins:List (Addr×Obj)} {σ:St} {H:Hp} {h:Heap} {r:Res α} {r':Res β} {e:Value} {s1:Shared} (p:XPost X pins σ H h r e s1) (hr:∀x,r=.err x->r'=.err x):XPost X pins σ H h r' e s1:=p.back (Same.refl H) (Back.refl H h) hr
theorem XPost.none {α:Type} {X:Cx} {pins:List (Addr×Obj)} {σ:St} {H:Hp} {h0:Heap} {a:α} {e:Value} {s1:Shared} (p:XPost X pins σ H h0 (.ok a) e s1):False:=by
 obtain ⟨x,_,_,_,q,_⟩:=p; cases q
noncomputable def PD (X:Cx) (e:Expr) (f:DS->Res D):Prop :=
 ∀(pins:List (Addr×Obj)) (s:Shared) (σ:St) (G H:Hp) (δ:DS),Inv X pins σ H s->RepSt X.K G H σ δ->f δ≠.stuck ->
  wpAny (model X.prog X.w) X.A (eval e X.env) (EPost X pins σ H (f δ)) (XPost X pins σ H s.heap (f δ)) s
open Classical in
noncomputable def allP (X:Cx) (H:Hp) (h:Heap):List (Addr×Obj) :=
 (List.range h.objs.size).filterMap fun a=>(h.get? a).bind fun o=>if H a=none/\a≠X.env.locals/\a∉X.fs/\(∀v,o.data≠.cell v) then some (a,o) else none
theorem kn' {X:Cx} {H:Hp} {h:Heap} {p:Addr×Obj} (hp:p∈allP X H h):h.get? p.1=some p.2/\H p.1=none/\p.1≠X.env.locals/\p.1∉X.fs/\∀v,p.2.data≠.cell v:=by
 obtain ⟨a,_,e⟩:=List.mem_filterMap.mp hp
 cases q:h.get? a with
 | none=>rw [q] at e; cases e
 | some o =>
  rw [q] at e;simp only [Option.bind_some] at e
  split at e
  ·rename_i c
   cases e
   exact ⟨q,c⟩
  ·cases e
theorem iE' {X:Cx} {H:Hp} {h:Heap} {a:Addr} {o:Obj} (e:h.get? a=some o) (c:H a=none/\a≠X.env.locals/\a∉X.fs/\∀v,o.data≠.cell v):(a,o)∈allP X H h:=by
 refine List.mem_filterMap.mpr ⟨a,List.mem_range.mpr (Heap.lt_size e),?_⟩;rw [e];simp only [Option.bind_some];rw [if_pos c]
section
variable {X:Cx} {pins:List (Addr×Obj)} {s:Shared} {σ:St} {G H:Hp} {δ:DS}
theorem _root_.L2.Inv.all (I:Inv X pins σ H s):Inv X (pins ++ allP X H s.heap) σ H s :=
 I.pins_of fun p hp=>(List.mem_append.mp hp).elim (fun z=>I.pin p (List.mem_append_right _ z)) kn'
theorem _root_.L2.Inv.locals_dict (I:Inv X pins σ H s) {o:Obj} {vs:Array Value} (e:s.heap.get? X.env.locals=some o):o.data≠.fields vs:=by
 obtain ⟨m,⟨o',es,ep,ho,hd,_⟩,_⟩:=I.loc;rw [e] at ho; cases ho;rw [hd]; intro z; cases z
theorem _root_.L2.Inv.fs_rec (I:Inv X pins σ H s) {b:Addr} (hb:b∈X.fs) {o:Obj} {vs:Array Value} (e:s.heap.get? b=some o):o.data≠.fields vs:=by
 obtain ⟨_,o',ho,hd⟩:=I.funs.mem hb;rw [e] at ho; cases ho;exact hd vs
theorem _root_.L2.Inv.backTo {σ1:St} {H1:Hp} {s1:Shared} (I:Inv X pins σ H s) (J:Inv X (pins ++ allP X H s.heap) σ1 H1 s1):Back H s.heap s1.heap:=by
 intro e n q o vs ho hd;have hm:(e,o)∈allP X H s.heap:=iE' ho ⟨n,fun z=>by subst z; exact I.locals_dict ho hd,fun z=>I.fs_rec z ho hd,fun v z=>by rw [hd] at z; cases z⟩;exact q o vs (J.pin (e,o) (List.mem_append_right _ (List.mem_append_right _ hm))).1 hd
theorem PD.use {e:Expr} {f:DS->Res D} (h:PD X e f) (I:Inv X pins σ H s) (R:RepSt X.K G H σ δ) (hs:f δ≠.stuck) {P E:Value->Shared->Prop}
  (k:∀d u s1 v H1,f δ=.ok d->Inv X pins σ H1 s1->RelV v u->Same H H1->Back H s.heap s1.heap->Rep X.K H1 d v->P u s1)
  (kx:∀e s1,XPost X pins σ H s.heap (f δ) e s1->E e s1):wpAny (model X.prog X.w) X.A (eval e X.env) P E s:=by
 refine wpAny_mono (h (pins ++ allP X H s.heap) s σ G H δ I.all R hs) (fun u s1 ⟨d,v,H1,q1,q2,q3,q4,q5⟩=>k d u s1 v H1 q1 q2.unpinned q3 q4 (I.backTo q2) q5) fun e s1 ⟨x,a,C,H1,q1,q2,q3,q4,q5,q6⟩=>kx e s1 ⟨x,a,C,H1,q1,q2,q3.unpinned,q4,q5,q6⟩
end
section
variable {X:Cx} {e:Expr} {pos:Pos}
theorem eM' {d:D} {v:V} (h:∀E,PE (X.wish E) e (tC v)) (hr:∀H,Rep X.K H d v):PD X e (fun _=>.ok d):=by
 intro pins s σ G H δ I R _;refine wpAny_mono (h (fun _ _=>False) pins s σ H (fun v' H'=>v'=v/\H'=H) (I.wish _) ⟨rfl,rfl⟩) (fun u s1 q=>?_) fun _ _ z=>z.elim;obtain ⟨v',H',I',r',e1,e2⟩:=q;subst e1 e2;exact ⟨d,v',H',rfl,I'.unwish,r',Same.refl _,hr _⟩
theorem ac' {i:Int} {j}:PD X (.Constant (.int i) j pos) (fun _=>.ok (.int i)):=eM' (fun _=>lC') (fun _=>by rw [Rep])
theorem gc' {k:Bool} {j}:PD X (.Constant (.bool k) j pos) (fun _=>.ok (.bl k)):=eM' (fun _=>mQ') (fun _=>by rw [Rep])
theorem lO' {x:Str} {j}:PD X (.Constant (.str x) j pos) (fun _=>.ok (.str x)):=eM' (fun _=>lD') (fun _=>by rw [Rep])
noncomputable def slotD (i:Nat):DS->Res D:=fun δ=>match δ[i]? with | some (some sv)=>.ok sv.view | _=>.stuck
theorem ab' (i:Nat) {x:Str} (hN:X.N[i]? = some x:=by rfl) (hv:Vis X.env.scope x:=by first | exact Or.inl rfl | exact Or.inr (Or.inl rfl) | exact Or.inr (Or.inr rfl)) (hd:(x == ("__debug__" : Str))=false:=by decide)
  (hcd:(x == ("__classdict__" : Str))=false:=by decide):PD X (.Name x pos) (slotD i):=by
 intro pins s σ G H δ I R hs
 try dsimp only at hs ⊢
 unfold slotD at hs ⊢
 split at hs
 ·rename_i sv e;obtain ⟨v,e1,e2⟩:=R.view e;refine wpAny_mono (gA' (X:=X.wish fun _ _=>False) hN hv hd hcd pins s σ H (fun v' H'=>v'=v/\H'=H) (I.wish _) ⟨v,e1,rfl,rfl⟩) (fun u s1 q=>?_) fun _ _ z=>z.elim;obtain ⟨v',H',I',r',e3,e4⟩:=q;subst e3 e4;exact ⟨_,v',H',rfl,I'.unwish,r',Same.refl _,e2⟩
 ·exact (hs rfl).elim
end
noncomputable def OpD (X:Cx) (f:Value->Value->Sem Value) (g:D->D->Res D):Prop :=
 ∀(E:Value->Shared->Prop) (pins:List (Addr×Obj)) (s:Shared) (σ:St) (H:Hp) (x y:V) (v u:Value) (a b d:D),Inv X pins σ H s->RelV x v->RelV y u->Rep X.K H a x->Rep X.K H b y->g a b=.ok d ->
  wpAny (model X.prog X.w) X.A (f v u) (EPost X pins σ H (.ok d)) E s
noncomputable def NoErr {α:Type} (r:Res α):Prop:=∀x,r≠.err x
noncomputable def two (fa fb:DS->Res D) (g:D->D->Res D):DS->Res D:=fun δ=>(fa δ).bind fun x=>(fb δ).bind fun y=>g x y
theorem mT' {fa fb:DS->Res D} {g:D->D->Res D} {δ:DS} (h:two fa fb g δ≠.stuck):fa δ≠.stuck:=fun q=>h (by unfold two; rw [q]; rfl)
theorem mU' {fa fb:DS->Res D} {g:D->D->Res D} {δ:DS} {x:D} (h:two fa fb g δ≠.stuck) (q1:fa δ=.ok x):fb δ≠.stuck:=fun q=>h (by unfold two; rw [q1,Res.bind_ok,q]; rfl)
theorem mV' {fa fb:DS->Res D} {g:D->D->Res D} {δ:DS} {x y:D} (q1:fa δ=.ok x) (q2:fb δ=.ok y):two fa fb g δ=g x y:=by unfold two; rw [q1,Res.bind_ok,q2,Res.bind_ok]
theorem mW' {fa fb:DS->Res D} {g:D->D->Res D} {δ:DS} {x:Exn} (q1:fa δ=.err x):two fa fb g δ=.err x:=by unfold two; rw [q1]; rfl
theorem mX' {fa fb:DS->Res D} {g:D->D->Res D} {δ:DS} {x:D} {y:Exn} (q1:fa δ=.ok x) (q2:fb δ=.err y):two fa fb g δ=.err y:=by unfold two; rw [q1,Res.bind_ok,q2]; rfl
section
variable {X:Cx} {a b:Expr} {fa fb:DS->Res D} {pos:Pos}
theorem gL' {g:D->D->Res D} {pins:List (Addr×Obj)} {s:Shared} {σ:St} {G H:Hp} {δ:DS} (ha:PD X a fa) (hb:PD X b fb) (I:Inv X pins σ H s) (R:RepSt X.K G H σ δ) (hs:two fa fb g δ≠.stuck) {P:Value->Value->Shared->Prop} {E:Value->Shared->Prop}
  (k:∀x y v u s2 vx vy H2,two fa fb g δ=g x y->Inv X pins σ H2 s2->RelV vx v->RelV vy u->Same H H2->Rep X.K H2 x vx->Rep X.K H2 y vy->P v u s2)
  (kx:∀e s1,XPost X pins σ H s.heap (two fa fb g δ) e s1->E e s1) :
  wpAny (model X.prog X.w) X.A (eval a X.env) (fun v s1=>wpAny (model X.prog X.w) X.A (eval b X.env) (fun u s2=>P v u s2) E s1) E s:=by
 refine ha.use I R (mT' hs) (fun x u s1 v H1 qa I1 r1 e1 b1 p1=>?_) fun e s1 q=>kx e s1 (q.same fun x z=>mW' z);refine hb.use I1 (R.mono e1) (mU' hs qa) (fun y u2 s2 v2 H2 qb I2 r2 e2 b2 p2=>?_) fun e s2 q=>kx e s2 (q.back e1 b1 fun x z=>mX' qa z);exact k x y u u2 s2 v v2 H2 (mV' qa qb) I2 r1 r2 (e1.trans e2) (p1.mono e2) p2
theorem EPost.from {X:Cx} {pins:List (Addr×Obj)} {σ:St} {H H1:Hp} {r r':Res D} {u:Value} {s1:Shared} (p:EPost X pins σ H1 r u s1) (e:Same H H1) (q:r=r'):EPost X pins σ H r' u s1:=by
 obtain ⟨d,v,H2,q1,q2,q3,q4,q5⟩:=p;exact ⟨d,v,H2,q ▸ q1,q2,q3,e.trans q4,q5⟩
theorem gM' {g:D->D->Res D} {pins:List (Addr×Obj)} {s:Shared} {σ:St} {G H:Hp} {δ:DS} {f:Value->Value->Sem Value} (ho:OpD X f g) (hg:∀x y,NoErr (g x y)) (ha:PD X a fa) (hb:PD X b fb) (I:Inv X pins σ H s) (R:RepSt X.K G H σ δ) (hs:two fa fb g δ≠.stuck) {E:Value->Shared->Prop}
  (kx:∀e s1,XPost X pins σ H s.heap (two fa fb g δ) e s1->E e s1) :
  wpAny (model X.prog X.w) X.A (eval a X.env) (fun v s1=>wpAny (model X.prog X.w) X.A (eval b X.env) (fun u s2=>wpAny (model X.prog X.w) X.A (f v u) (EPost X pins σ H (two fa fb g δ)) E s2) E s1) E s:=by
 refine gL' ha hb I R hs (fun x y v u s2 vx vy H2 q I2 r1 r2 e2 p1 p2=>?_) kx
 cases qg:g x y with
 | stuck=>exact (hs (q.trans qg)).elim
 | err z=>exact (hg x y z qg).elim
 | ok d=>exact thn (ho E pins s2 σ H2 vx vy v u x y d I2 r1 r2 p1 p2 qg) fun w s3 p=>p.from e2 (qg.symm.trans q.symm)
theorem aj' {op:Operator} {g:D->D->Res D} (ho:OpD X (binaryOp op) g) (hg:∀x y,NoErr (g x y)) (ha:PD X a fa) (hb:PD X b fb):PD X (.BinOp a op b pos) (two fa fb g) :=
 fun pins s σ G H δ I R hs=>wpAny_BinOp (gM' ho hg ha hb I R hs fun _ _ q=>q)
theorem dS' {op:CmpOp} {g:D->D->Res D} (ho:OpD X (compareOp op) g) (hg:∀x y,NoErr (g x y)) (ha:PD X a fa) (hb:PD X b fb) (hm:behindInMarks op b=false):PD X (.Compare a [op] [b] pos) (two fa fb g) :=
 fun pins s σ G H δ I R hs=>wpAny_Compare1 (gM' ho hg ha hb I R hs fun _ _ q=>q) hm
theorem OpD.of {f:Value->Value->Sem Value} {r:R2} {g:D->D->Res D} (ho:∀E,OpR (X.wish E) f r)
  (h:∀(H:Hp) (x y:V) (a b d:D) (Q:VK),Rep X.K H a x->Rep X.K H b y->g a b=.ok d->(∀z H',Same H H'->Rep X.K H' d z->Q z H')->r x y H Q):OpD X f g :=
 fun E pins s σ H x y v u a b d I r1 r2 p1 p2 e=>thn (ho E pins s σ H x y v u (fun z H'=>Same H H'/\Rep X.K H' d z) (I.wish _) r1 r2 (h H x y a b d _ p1 p2 e fun z H' a b=>⟨a,b⟩)) fun w s1 ⟨z,H1,I1,r3,e1,p3⟩=>⟨d,z,H1,rfl,I1.unwish,r3,e1,p3⟩
end
noncomputable def TPost (X:Cx) (pins:List (Addr×Obj)) (σ:St) (H:Hp) (r:Res Bool) (u:Bool) (s1:Shared):Prop:=∃H1,r=.ok u/\Inv X pins σ H1 s1/\Same H H1
noncomputable def PTD (X:Cx) (e:Expr) (f:DS->Res Bool):Prop :=
 ∀(pins:List (Addr×Obj)) (s:Shared) (σ:St) (G H:Hp) (δ:DS),Inv X pins σ H s->RepSt X.K G H σ δ->f δ≠.stuck ->
  wpAny (model X.prog X.w) X.A (isTrue e X.env (eval e X.env)) (TPost X pins σ H (f δ)) (XPost X pins σ H s.heap (f δ)) s
noncomputable def PWD (X:Cx) (e:Expr) (f:DS->Res Bool):Prop :=
 ∀(wh:Sem Value) (pins:List (Addr×Obj)) (s:Shared) (σ:St) (G H:Hp) (δ:DS),Inv X pins σ H s->RepSt X.K G H σ δ->f δ≠.stuck ->
  wpAny (model X.prog X.w) X.A (isTrue e X.env wh) (TPost X pins σ H (f δ)) (XPost X pins σ H s.heap (f δ)) s
theorem PWD.pt {X:Cx} {e:Expr} {f:DS->Res Bool} (h:PWD X e f):PTD X e f:=h _
section
variable {X:Cx} {pins:List (Addr×Obj)} {s:Shared} {σ:St} {G H:Hp} {δ:DS}
theorem ko' {t:Sem Bool} {f:DS->Res Bool} (h:∀pins,Inv X pins σ H s->wpAny (model X.prog X.w) X.A t (TPost X pins σ H (f δ)) (XPost X pins σ H s.heap (f δ)) s) (I:Inv X pins σ H s) {P:Bool->Shared->Prop} {E:Value->Shared->Prop}
  (k:∀d s1 H1,f δ=.ok d->Inv X pins σ H1 s1->Same H H1->Back H s.heap s1.heap->P d s1) (kx:∀e s1,XPost X pins σ H s.heap (f δ) e s1->E e s1):wpAny (model X.prog X.w) X.A t P E s:=by
 refine wpAny_mono (h (pins ++ allP X H s.heap) I.all) (fun d s1 ⟨H1,q1,q2,q3⟩=>k d s1 H1 q1 q2.unpinned q3 (I.backTo q2)) fun e s1 ⟨x,a,C,H1,q1,q2,q3,q4,q5,q6⟩=>kx e s1 ⟨x,a,C,H1,q1,q2,q3.unpinned,q4,q5,q6⟩
theorem PTD.use {e:Expr} {f:DS->Res Bool} (h:PTD X e f) (I:Inv X pins σ H s) (R:RepSt X.K G H σ δ) (hs:f δ≠.stuck) {P:Bool->Shared->Prop} {E:Value->Shared->Prop}
  (k:∀d s1 H1,f δ=.ok d->Inv X pins σ H1 s1->Same H H1->Back H s.heap s1.heap->P d s1) (kx:∀e s1,XPost X pins σ H s.heap (f δ) e s1->E e s1):wpAny (model X.prog X.w) X.A (isTrue e X.env (eval e X.env)) P E s :=
 ko' (f:=f) (δ:=δ) (fun pins I=>h pins s σ G H δ I R hs) I k kx
theorem PWD.use {e:Expr} {f:DS->Res Bool} (h:PWD X e f) (wh:Sem Value) (I:Inv X pins σ H s) (R:RepSt X.K G H σ δ) (hs:f δ≠.stuck) {P:Bool->Shared->Prop} {E:Value->Shared->Prop}
  (k:∀d s1 H1,f δ=.ok d->Inv X pins σ H1 s1->Same H H1->Back H s.heap s1.heap->P d s1) (kx:∀e s1,XPost X pins σ H s.heap (f δ) e s1->E e s1):wpAny (model X.prog X.w) X.A (isTrue e X.env wh) P E s :=
 ko' (f:=f) (δ:=δ) (fun pins I=>h wh pins s σ G H δ I R hs) I k kx
end
noncomputable def truthD:D->Res Bool
 | .non=>.ok false
 | .bl b=>.ok b
 | .int i=>.ok (i != 0)
 | .str x=>if x.length<=sizeLine then .ok ((x.length:Int) != 0) else .stuck
 | .tup ds=>.ok (!ds.isEmpty)
 | .lst ds=>.ok (!ds.isEmpty)
 | _=>.stuck
noncomputable def boolD:D->Res Bool
 | .bl b=>.ok b
 | _=>.stuck
theorem du' {d:D} (h:boolD d≠.stuck):∃b,d=.bl b:=by
 cases d with
 | bl b=>exact ⟨b,rfl⟩
 | _=>exact (h rfl).elim
theorem at' {α β:Type} {r:Res α} {f:α->Res β} (h:r.bind f≠.stuck):r≠.stuck:=fun q=>h (by rw [q]; rfl)
theorem av' {α β:Type} {r:Res α} {f:α->Res β} {a:α} (h:r.bind f≠.stuck) (e:r=.ok a):f a≠.stuck:=fun q=>h (by rw [e,Res.bind_ok,q])
theorem aw' {α β:Type} {r:Res α} {f:α->Res β} {x:Exn} (e:r=.err x):r.bind f=.err x:=by rw [e]; rfl
section
variable {X:Cx} {a b:Expr} {rest:List Expr} {fa:DS->Res D} {ta tb:DS->Res Bool} {pos:Pos}
theorem ay' {op:CmpOp} {fb:DS->Res D} {g:D->D->Res D} (ho:OpD X (compareOp op) g) (hg:∀x y,NoErr (g x y)) (ha:PD X a fa) (hb:PD X b fb) (hm:behindInMarks op b=false):PTD X (.Compare a [op] [b] pos) (fun δ=>(two fa fb g δ).bind boolD):=by
 intro pins s σ G H δ I R hs
 try dsimp only at hs ⊢
 refine wpAny_isTrue_Compare1 (thn (gM' ho hg ha hb I R (at' hs) (fun _ _ q=>q.same fun x z=>aw' z)) fun v s1 h1=>thn h1 fun u s2 h2=>thn h2 fun c s3 ⟨d,x,H1,q1,I1,r1,e1,p1⟩=>?_) hm;obtain ⟨k,rfl⟩:=du' (av' hs q1);rw [Rep] at p1;subst p1
 cases r1
 exact wpAny_truthy_bool ⟨H1,by rw [q1]; rfl,I1,e1⟩
theorem bj' (ha:PD X a fa) (he:∀whole,isTrue a X.env whole=(do let v <- whole; standAt a.pos; holding [v] (truthy v)):=by intro _; rfl):PTD X a (fun δ=>(fa δ).bind truthD):=by
 intro pins s σ G H δ I R hs
 try dsimp only at hs ⊢
 refine isTrue_plain (ha.use I R (at' hs) (fun d u s1 v H1 q I1 r1 e1 b1 p1=>?_) fun e s1 q=>q.same fun x z=>aw' z) (he _);have hd:=av' hs q;refine wpAny_mono (lJ' (X:=X.wish fun _ _=>False) pins s1 σ H1 v u (fun k H2=>truthD d=.ok k/\H2=H1) (I1.wish _) r1 ?_) (fun k s2 ⟨H2,I2,q2,e2⟩=>⟨H2,by rw [q,Res.bind_ok]; exact q2,I2.unwish,by rw [e2]; exact e1⟩) fun _ _ z=>z.elim
 cases d with
 | non=>rw [Rep] at p1; subst p1; exact ⟨false,rfl,rfl,rfl⟩
 | bl b=>rw [Rep] at p1; subst p1; exact ⟨b,rfl,rfl,rfl⟩
 | int i=>rw [Rep] at p1; subst p1; exact ⟨_,rfl,rfl,rfl⟩
 | str x =>
  rw [Rep] at p1; subst p1
  by_cases hz:x.length<=sizeLine
  ·exact ⟨_,⟨hz,rfl⟩,by simp only [truthD,if_pos hz],rfl⟩
  ·simp only [truthD,if_neg hz] at hd; exact (hd rfl).elim
 | tup ds =>
  rw [Rep] at p1;obtain ⟨b,xs,rfl,w1,w2⟩:=p1;exact ⟨!ds.isEmpty,.inr (.inl ⟨xs,w1,by rw [w2.isEmpty]⟩),rfl,rfl⟩
 | lst ds =>
  rw [Rep] at p1;obtain ⟨b,xs,rfl,w1,w2⟩:=p1;exact ⟨!ds.isEmpty,.inl ⟨xs,w1,by rw [w2.isEmpty]⟩,rfl,rfl⟩
 | exc c=>exact (hd rfl).elim
 | excf c f d=>exact (hd rfl).elim
 | dct=>exact (hd rfl).elim
theorem co' (ha:PTD X a ta):PTD X (.UnaryOp .Not a pos) (fun δ=>(ta δ).bind fun c=>.ok (!c)):=by
 intro pins s σ G H δ I R hs
 try dsimp only at hs ⊢
 exact isTrue_not (ha.use I R (at' hs) (fun d s1 H1 q I1 e1 b1=>⟨H1,by rw [q]; rfl,I1,e1⟩) fun e s1 q=>q.same fun x z=>aw' z)
noncomputable def andT (ta tb:DS->Res Bool):DS->Res Bool:=fun δ=>(ta δ).bind fun c=>if c=true then tb δ else .ok false
noncomputable def orT (ta tb:DS->Res Bool):DS->Res Bool:=fun δ=>(ta δ).bind fun c=>if c=true then .ok true else tb δ
theorem cB' (ha:PTD X a ta):PWD X (.BoolOp .And [a] pos) ta:=by
 intro wh pins s σ G H δ I R hs
 try dsimp only at hs ⊢
 refine isTrue_and (ha.use I R hs (fun c s1 H1 q I1 e1 b1=>?_) fun e s1 q=>q)
 cases c with
 | true=>exact isTrue_and_nil ⟨H1,q,I1,e1⟩
 | false=>exact ⟨H1,q,I1,e1⟩
theorem gN' (ha:PTD X a ta):PWD X (.BoolOp .Or [a] pos) ta:=by
 intro wh pins s σ G H δ I R hs
 try dsimp only at hs ⊢
 refine isTrue_or (ha.use I R hs (fun c s1 H1 q I1 e1 b1=>?_) fun e s1 q=>q)
 cases c with
 | false=>exact isTrue_or_nil ⟨H1,q,I1,e1⟩
 | true=>exact ⟨H1,q,I1,e1⟩
theorem cJ' (ha:PTD X a ta) (hb:PWD X (.BoolOp .And (b :: rest) pos) tb):PWD X (.BoolOp .And (a :: b :: rest) pos) (andT ta tb):=by
 intro wh pins s σ G H δ I R hs
 try dsimp only at hs ⊢
 have hs':(ta δ).bind (fun c=>if c=true then tb δ else .ok false)≠.stuck:=hs
 refine isTrue_and (ha.use I R (at' hs') (fun c s1 H1 q I1 e1 b1=>?_) fun e s1 q=>q.same fun x z=>aw' z);have hc:=av' hs' q;have ev:andT ta tb δ=if c=true then tb δ else .ok false:=by unfold andT; rw [q]; rfl
 cases c with
 | false=>exact ⟨H1,ev,I1,e1⟩
 | true =>
  rw [if_pos rfl] at ev hc;exact hb.use wh I1 (R.mono e1) hc (fun d s2 H2 q2 I2 e2 b2=>⟨H2,ev.trans q2,I2,e1.trans e2⟩) fun e s2 q2=>q2.back e1 b1 fun x z=>ev.trans z
theorem fr' (ha:PTD X a ta) (hb:PWD X (.BoolOp .Or (b :: rest) pos) tb):PWD X (.BoolOp .Or (a :: b :: rest) pos) (orT ta tb):=by
 intro wh pins s σ G H δ I R hs
 try dsimp only at hs ⊢
 have hs':(ta δ).bind (fun c=>if c=true then .ok true else tb δ)≠.stuck:=hs
 refine isTrue_or (ha.use I R (at' hs') (fun c s1 H1 q I1 e1 b1=>?_) fun e s1 q=>q.same fun x z=>aw' z);have hc:=av' hs' q;have ev:orT ta tb δ=if c=true then .ok true else tb δ:=by unfold orT; rw [q]; rfl
 cases c with
 | true=>exact ⟨H1,ev,I1,e1⟩
 | false =>
  rw [if_neg Bool.false_ne_true] at ev hc;exact hb.use wh I1 (R.mono e1) hc (fun d s2 H2 q2 I2 e2 b2=>⟨H2,ev.trans q2,I2,e1.trans e2⟩) fun e s2 q2=>q2.back e1 b1 fun x z=>ev.trans z
noncomputable def andV (fa fb:DS->Res D):DS->Res D:=fun δ=>(fa δ).bind fun x=>(boolD x).bind fun c=>if c=true then fb δ else .ok (.bl false)
noncomputable def notV (fa:DS->Res D):DS->Res D:=fun δ=>(fa δ).bind fun x=>(boolD x).bind fun c=>.ok (.bl (!c))
theorem jG' {op} (h:PD X a fa):PD X (.BoolOp op [a] pos) fa:=fun pins s σ G H δ I R hs=>BoolOp_one (h pins s σ G H δ I R hs)
theorem jH' {fb:DS->Res D} (ha:PD X a fa) (hb:PD X (.BoolOp .And (b :: rest) pos) fb):PD X (.BoolOp .And (a :: b :: rest) pos) (andV fa fb):=by
 intro pins s σ G H δ I R hs
 try dsimp only at hs ⊢
 have hs':(fa δ).bind (fun x=>(boolD x).bind fun c=>if c=true then fb δ else .ok (.bl false))≠.stuck:=hs
 refine BoolOp_and (ha.use I R (at' hs') (fun d u s1 v H1 q I1 r1 e1 b1 p1=>?_) fun e s1 q=>q.same fun x z=>aw' z);have h2:=av' hs' q;obtain ⟨k,rfl⟩:=du' (at' h2);rw [Rep] at p1;subst p1
 cases r1
 have ev:andV fa fb δ=if k=true then fb δ else .ok (.bl false):=by unfold andV; rw [q]; rfl
 refine wpAny_truthy_bool ?_
 cases k with
 | false=>exact ⟨_,.bl false,H1,ev,I1,rfl,e1,by rw [Rep]⟩
 | true =>
  rw [if_pos rfl] at ev;exact hb.use I1 (R.mono e1) (fun z=>hs (ev.trans z)) (fun d2 u2 s2 v2 H2 q2 I2 r2 e2 b2 p2=>⟨d2,v2,H2,ev.trans q2,I2,r2,e1.trans e2,p2⟩) fun e s2 q2=>q2.back e1 b1 fun x z=>ev.trans z
theorem jI' (ha:PD X a fa):PD X (.UnaryOp .Not a pos) (notV fa):=by
 intro pins s σ G H δ I R hs
 try dsimp only at hs ⊢
 have hs':(fa δ).bind (fun x=>(boolD x).bind fun c=>Res.ok (D.bl (!c)))≠.stuck:=hs;refine UnaryOp_ (ha.use I R (at' hs') (fun d u s1 v H1 q I1 r1 e1 b1 p1=>?_) fun e s1 q=>q.same fun x z=>aw' z);have h2:=av' hs' q;obtain ⟨k,rfl⟩:=du' (at' h2);rw [Rep] at p1;subst p1
 cases r1
 exact not_of (wpAny_truthy_bool ⟨_,.bl (!k),H1,by unfold notV; rw [q]; rfl,I1,rfl,e1,by rw [Rep]⟩)
theorem mY' {op:UnaryOp} {g:D->Res D} (ho:∀(E:Value->Shared->Prop) (pins:List (Addr×Obj)) (s:Shared) (σ:St) (H:Hp) (x:V) (v:Value) (d r:D),Inv X pins σ H s->RelV x v->Rep X.K H d x->g d=.ok r->wpAny (model X.prog X.w) X.A (unaryOp op v) (EPost X pins σ H (.ok r)) E s)
  (hg:∀x,NoErr (g x)) (ha:PD X a fa):PD X (.UnaryOp op a pos) (fun δ=>(fa δ).bind g):=by
 intro pins s σ G H δ I R hs
 try dsimp only at hs ⊢
 refine UnaryOp_ (ha.use I R (at' hs) (fun d u s1 v H1 q I1 r1 e1 b1 p1=>?_) fun e s1 q=>q.same fun x z=>aw' z);have h2:=av' hs q
 cases qg:g d with
 | stuck=>exact (h2 qg).elim
 | err z=>exact (hg d z qg).elim
 | ok r=>exact thn (ho _ pins s1 σ H1 v u d r I1 r1 p1 qg) fun w s2 p=>p.from e1 (by rw [q,Res.bind_ok,qg])
end
end DL
namespace DL
open PySem PySem.Spec PyProof.Rows L2
noncomputable def intBits' (i:Int):Nat:=Builtin.Int.intBits i
noncomputable def addD:D->D->Res D
 | .int i,.int j=>.ok (.int (i + j))
 | .str x,.str y=>if x.length + y.length<=sizeLine then .ok (.str (x ++ y)) else .stuck
 | .tup xs,.tup ys=>if xs.length + ys.length<=sizeLine then .ok (.tup (xs ++ ys)) else .stuck
 | .lst xs,.lst ys=>if xs.length + ys.length<=sizeLine then .ok (.lst (xs ++ ys)) else .stuck
 | _,_=>.stuck
noncomputable def subD:D->D->Res D
 | .int i,.int j=>.ok (.int (i - j))
 | _,_=>.stuck
noncomputable def mulD:D->D->Res D
 | .int i,.int j=>if (intBits' i<=2 ^ 20/\intBits' j<=2 ^ 20)\/intBits' i<=64\/intBits' j<=64 then .ok (.int (i * j)) else .stuck
 | _,_=>.stuck
noncomputable def fdivD:D->D->Res D
 | .int i,.int j=>if j≠0/\Builtin.divisionGoesByPylong i j=false then .ok (.int (Int.fdiv i j)) else .stuck
 | _,_=>.stuck
noncomputable def modD:D->D->Res D
 | .int i,.int j=>if j≠0 then .ok (.int (Int.fmod i j)) else .stuck
 | _,_=>.stuck
noncomputable def powD:D->D->Res D
 | .int i,.int j=>if 0<=j/\j<=1000000/\i.natAbs < 2 ^ 64 then .ok (.int (i ^ j.toNat)) else .stuck
 | _,_=>.stuck
noncomputable def shlD:D->D->Res D
 | .int i,.int j=>if 0<=j/\j<=1000000/\i.natAbs < 2 ^ 64 then .ok (.int (i * 2 ^ j.toNat)) else .stuck
 | _,_=>.stuck
noncomputable def cmpD (p:Int->Int->Bool):D->D->Res D
 | .int i,.int j=>.ok (.bl (p i j))
 | _,_=>.stuck
theorem az' {α:Type} {c:Prop} [Decidable c] {r r':Res α} (h:NoErr r) (h':NoErr r'):NoErr (if c then r else r'):=by
 intro x; by_cases hc:c
 ·rw [if_pos hc]; exact h x
 ·rw [if_neg hc]; exact h' x
theorem ak' {α:Type} {a:α}:NoErr (Res.ok a):=fun _ h=>nomatch h
theorem af' {α:Type}:NoErr (Res.stuck:Res α):=fun _ h=>nomatch h
theorem aC' (x y:D):NoErr (addD x y):=by cases x <;> cases y <;> first | exact af' | exact ak' | exact az' ak' af'
theorem dT' (x y:D):NoErr (subD x y):=by cases x <;> cases y <;> first | exact af' | exact ak' | exact az' ak' af'
theorem lP' (x y:D):NoErr (mulD x y):=by cases x <;> cases y <;> first | exact af' | exact ak' | exact az' ak' af'
theorem aM' (x y:D):NoErr (fdivD x y):=by cases x <;> cases y <;> first | exact af' | exact ak' | exact az' ak' af'
theorem bf' (x y:D):NoErr (modD x y):=by cases x <;> cases y <;> first | exact af' | exact ak' | exact az' ak' af'
theorem gO' (x y:D):NoErr (powD x y):=by cases x <;> cases y <;> first | exact af' | exact ak' | exact az' ak' af'
theorem lQ' (x y:D):NoErr (shlD x y):=by cases x <;> cases y <;> first | exact af' | exact ak' | exact az' ak' af'
theorem cK' (p:Int->Int->Bool) (x y:D):NoErr (cmpD p x y):=by cases x <;> cases y <;> first | exact af' | exact ak' | exact az' ak' af'
section
variable {X:Cx} {a b:Expr} {fa fb:DS->Res D} {pos:Pos}
theorem repI {K:PySem.W.Frag} {H:Hp} {i:Int} {v:V} (h:Rep K H (.int i) v):v=.int i:=by rw [Rep] at h; exact h
theorem repS {K:PySem.W.Frag} {H:Hp} {i:Str} {v:V} (h:Rep K H (.str i) v):v=.str i:=by rw [Rep] at h; exact h
theorem repB {K:PySem.W.Frag} {H:Hp} {i:Bool} {v:V} (h:Rep K H (.bl i) v):v=.bl i:=by rw [Rep] at h; exact h
theorem repT {K:PySem.W.Frag} {H:Hp} {ds:List D} {v:V} (h:Rep K H (.tup ds) v):∃a xs,v=.ref a/\SqT K H a xs/\Reps K H ds xs:=by rw [Rep] at h; exact h
theorem repL {K:PySem.W.Frag} {H:Hp} {ds:List D} {v:V} (h:Rep K H (.lst ds) v):∃a xs,v=.ref a/\SqL K H a xs/\Reps K H ds xs:=by rw [Rep] at h; exact h
theorem mkI {K:PySem.W.Frag} {H:Hp} {i:Int}:Rep K H (.int i) (.int i):=by rw [Rep]
theorem mkS {K:PySem.W.Frag} {H:Hp} {i:Str}:Rep K H (.str i) (.str i):=by rw [Rep]
theorem mkB {K:PySem.W.Frag} {H:Hp} {i:Bool}:Rep K H (.bl i) (.bl i):=by rw [Rep]
theorem mkN {K:PySem.W.Frag} {H:Hp}:Rep K H .non .non:=by rw [Rep]
theorem mkT {K:PySem.W.Frag} {H:Hp} {a:Addr} {xs:List V} {ds:List D} (h:SqT K H a xs) (r:Reps K H ds xs):Rep K H (.tup ds) (.ref a):=by rw [Rep]; exact ⟨a,xs,rfl,h,r⟩
theorem mkL {K:PySem.W.Frag} {H:Hp} {a:Addr} {xs:List V} {ds:List D} (h:SqL K H a xs) (r:Reps K H ds xs):Rep K H (.lst ds) (.ref a):=by rw [Rep]; exact ⟨a,xs,rfl,h,r⟩
theorem an' {H:Hp} {p:Addr} (h:H p=none) (o:HO):Same H (upd H p o):=fun b u q=>by rw [am' (aO' q h)]; exact q
theorem kp' {f:Value->Value->Sem Value} {C:Int->Int->Prop} [∀i j,Decidable (C i j)] {h:Int->Int->D} {k:Int->Int->V} {g:D->D->Res D} (ho:∀E,OpR (X.wish E) f (rI C k)) (hk:∀H i j,Rep X.K H (h i j) (k i j))
  (hg:∀x y d,g x y=.ok d->∃i j,x=.int i/\y=.int j/\C i j/\d=h i j):OpD X f g :=
 .of ho fun H x y a b d Q p1 p2 e q=>by
  obtain ⟨i,j,rfl,rfl,c,rfl⟩:=hg a b d e;exact ⟨i,j,repI p1,repI p2,c,q _ H (Same.refl H) (hk H i j)⟩
theorem jJ' {f:Value->Value->Sem Value} {h:Int->Int->D} {k:Int->Int->V} {g:D->D->Res D} (ho:∀E,OpR (X.wish E) f (rI0 k)) (hk:∀H i j,Rep X.K H (h i j) (k i j))
  (hg:∀x y d,g x y=.ok d->∃i j,x=.int i/\y=.int j/\d=h i j):OpD X f g :=
 .of ho fun H x y a b d Q p1 p2 e q=>by
  obtain ⟨i,j,rfl,rfl,rfl⟩:=hg a b d e;exact ⟨i,j,repI p1,repI p2,q _ H (Same.refl H) (hk H i j)⟩
theorem dU':OpD X (binaryOp .Sub) subD:=jJ' (fun _=>lF') (fun _ _ _=>mkI) fun x y d e=>by
 cases x <;> cases y <;> first | (simp [subD] at e; done) | (simp only [subD,Res.ok.injEq] at e; exact ⟨_,_,rfl,rfl,e.symm⟩)
theorem jK' {p:Int->Int->Bool} {op:CmpOp} (ho:∀E,OpR (X.wish E) (compareOp op) (rI0 fun i j=>.bl (p i j))):OpD X (compareOp op) (cmpD p):=jJ' ho (fun _ _ _=>mkB) fun x y d e=>by
 cases x <;> cases y <;> first | (simp [cmpD] at e; done) | (simp only [cmpD,Res.ok.injEq] at e; exact ⟨_,_,rfl,rfl,e.symm⟩)
theorem kq':OpD X (compareOp .Lt) (cmpD fun i j=>decide (i < j)):=jK' fun _=>mR'
theorem iF':OpD X (compareOp .Gt) (cmpD fun i j=>decide (j < i)):=jK' fun _=>mS'
theorem kr':OpR X (binaryOp .Mult) (rI (fun i j=>(intBits' i<=2 ^ 20/\intBits' j<=2 ^ 20)\/intBits' i<=64\/intBits' j<=64) fun i j=>.int (i * j)):=opI fun _ _ _ _ _ _ _ hc q=>mul_int q (by
 rcases hc with hc | hc | hc
 ·exact PySem.IntMulOk.of_bits hc.1 hc.2
 ·exact PySem.IntMulOk.of_left hc
 ·exact PySem.IntMulOk.of_right hc)
theorem lR':OpD X (binaryOp .Mult) mulD:=kp' (h:=fun i j=>.int (i * j)) (fun _=>kr') (fun _ _ _=>mkI) fun x y d e=>by
 cases x <;> cases y <;> first | (simp [mulD] at e; done) | skip
 rename_i i j;simp only [mulD] at e
 split at e
 ·rename_i c; cases e; exact ⟨_,_,rfl,rfl,c,rfl⟩
 ·cases e
theorem iG':OpR X (binaryOp .FloorDiv) (rI (fun i j=>j≠0/\Builtin.divisionGoesByPylong i j=false) fun i j=>.int (i.fdiv j)):=opI fun _ _ _ _ _ _ _ hc q=>floordiv_int hc.1 q (.inl hc.2)
theorem aN':OpD X (binaryOp .FloorDiv) fdivD:=kp' (h:=fun i j=>.int (i.fdiv j)) (fun _=>iG') (fun _ _ _=>mkI) fun x y d e=>by
 cases x <;> cases y <;> first | (simp [fdivD] at e; done) | skip
 rename_i i j;simp only [fdivD] at e
 split at e
 ·rename_i c; cases e; exact ⟨_,_,rfl,rfl,c,rfl⟩
 ·cases e
theorem bg':OpD X (binaryOp .Mod) modD:=kp' (h:=fun i j=>.int (i.fmod j)) (fun _=>kk') (fun _ _ _=>mkI) fun x y d e=>by
 cases x <;> cases y <;> first | (simp [modD] at e; done) | skip
 rename_i i j;simp only [modD] at e
 split at e
 ·rename_i c; cases e; exact ⟨_,_,rfl,rfl,c,rfl⟩
 ·cases e
theorem gP':OpD X (binaryOp .Pow) powD:=.of (fun _=>lG') fun H x y a b d Q p1 p2 e q=>by
 cases a <;> cases b <;> first | (simp [powD] at e; done) | skip
 rename_i i j;simp only [powD] at e
 split at e
 ·rename_i c; cases e; exact ⟨i,j,repI p1,repI p2,c,q _ H (Same.refl H) mkI⟩
 ·cases e
theorem lS':OpD X (binaryOp .LShift) shlD:=.of (fun _=>lH') fun H x y a b d Q p1 p2 e q=>by
 cases a <;> cases b <;> first | (simp [shlD] at e; done) | skip
 rename_i i j;simp only [shlD] at e
 split at e
 ·rename_i c; cases e; exact ⟨i,j,repI p1,repI p2,c,q _ H (Same.refl H) mkI⟩
 ·cases e
theorem iH' (E:Value->Shared->Prop):OpR (X.wish E) (binaryOp .Add) (rCatT X.K):=km'
noncomputable def rCatN (K:PySem.W.Frag):R2:=fun x y H Q=>∃a b ys,x=.ref a/\y=.ref b/\SqT K H a []/\SqT K H b ys/\Q (.ref b) H
theorem ks':OpR X (binaryOp .Add) (rCatN X.K):=by
 intro pins s σ H x y v u Q I rx ry h;obtain ⟨a,b,ys,rfl,rfl,h1,h2,q⟩:=h
 cases rx
 cases ry
 obtain ⟨its,r,ht,_⟩:=I.tuple h1;obtain ⟨its2,r2,ht2,_⟩:=I.tuple h2
 cases r
 obtain ⟨⟨cls,dd,data,sl⟩,ho,hc,n,hd⟩:=id ht;obtain ⟨⟨cls2,dd2,data2,sl2⟩,ho2,hc2,n2,hd2⟩:=id ht2;simp only at hc hd hc2 hd2;subst hc hd hc2 hd2;exact concat_meets ⟨_,ho,rfl⟩ ⟨_,ho2,rfl⟩ noFill_tuple_add seq_tuple_add PySem.F.slot_tuple_add PySem.F.entry_tuple_add (PySem.F.args_tuple_add_2 _ _) (tuple_addW0 a b _ its2.toArray n n2 dd dd2 sl sl2 rfl) ⟨ho,ho2,.ref b,H,I,rfl,q⟩
theorem iI' (E:Value->Shared->Prop):OpR (X.wish E) (binaryOp .Add) (rCatN X.K):=ks'
noncomputable def rCatL (K:PySem.W.Frag):R2:=fun x y H Q=>∃a b xs ys,x=.ref a/\y=.ref b/\SqL K H a xs/\SqL K H b ys/\xs.length + ys.length<=sizeLine/\∀p,H p=none->Q (.ref p) (upd H p (.lst (xs ++ ys)))
theorem kt':OpR X (binaryOp .Add) (rCatL X.K):=by
 intro pins s σ H x y v u Q I rx ry h;obtain ⟨a,b,xs,ys,rfl,rfl,h1,h2,hz,q⟩:=h
 cases rx
 cases ry
 obtain ⟨its,r,⟨⟨cls,dd,data,sl⟩,n,ho,hc,hdd,hd⟩,_⟩:=I.list h1;obtain ⟨its2,r2,⟨⟨cls2,dd2,data2,sl2⟩,n2,ho2,hc2,hdd2,hd2⟩,_⟩:=I.list h2;simp only at hc hd hc2 hd2;subst hc hd hc2 hd2;have l1:=r.length;have l2:=r2.length;refine concat_meets ⟨_,ho,rfl⟩ ⟨_,ho2,rfl⟩ noFill_list_add seq_list_add PySem.F.slot_list_add PySem.F.entry_list_add (PySem.F.args_list_add_2 _ _) (list_addW a b its.toArray its2.toArray n n2 dd dd2 sl sl2 (by simp only [List.size_toArray]; omega)) ⟨ho,ho2,?_⟩;have ea:its.toArray ++ its2.toArray=(its ++ its2).toArray:=by simp
 rw [ea];refine ⟨.ref s.heap.objs.size,_,I.laid (t':=s.toks) (o:=.lst (xs ++ ys)) (fun b ob q=>Heap.get?_push_of_some _ q) (Nat.le_refl _) ?_,rfl,q _ (I.hok.fresh (Nat.le_refl _))⟩;exact ⟨by rw [List.length_append]; omega,its ++ its2,0,r.append r2,Heap.get?_push_size _ rfl⟩
theorem iJ' (E:Value->Shared->Prop):OpR (X.wish E) (binaryOp .Add) (rCatL X.K):=kt'
theorem aD':OpD X (binaryOp .Add) addD:=.of (fun E=>op_add.or (op_add_str.or ((iH' E).or ((iJ' E).or (iI' E))))) fun H x y a b d Q p1 p2 e q=>by
 cases a <;> cases b <;> first | (simp [addD] at e; done) | skip
 ·rename_i i j;simp only [addD,Res.ok.injEq] at e;subst e;exact .inl ⟨i,j,repI p1,repI p2,q _ H (Same.refl H) mkI⟩
 ·rename_i i j;simp only [addD] at e
  split at e
  ·rename_i c; cases e; exact .inr (.inl ⟨i,j,repS p1,repS p2,c,q _ H (Same.refl H) mkS⟩)
  ·cases e
 ·rename_i xs ys;simp only [addD] at e
  split at e
  ·rename_i c
   cases e
   obtain ⟨p,us,rfl,s1,t1⟩:=repT p1;obtain ⟨p',ws,rfl,s2,t2⟩:=repT p2
   by_cases hn:us=[]
   ·subst hn;have hx:xs=[]:=by
     have:=t1.length; exact List.eq_nil_of_length_eq_zero this.symm
    subst hx;exact .inr (.inr (.inr (.inr ⟨p,p',ws,rfl,rfl,s1,s2,q _ H (Same.refl H) (mkT s2 t2)⟩)))
   refine .inr (.inr (.inl ⟨p,p',us,ws,rfl,rfl,s1,s2,hn,?_,fun z=>?_,fun _ z hz=>?_⟩))
   ·rw [t1.length,t2.length]; exact c
   ·have hy:ys=[]:=by
     have:=t2.length; rw [z] at this; exact List.eq_nil_of_length_eq_zero this.symm
    subst hy;exact q _ H (Same.refl H) (mkT s1 (by simpa using t1))
   ·exact q _ _ (an' hz _) (mkT (SqT.of aq') ((t1.append t2).mono (an' hz _)))
  ·cases e
 ·rename_i xs ys;simp only [addD] at e
  split at e
  ·rename_i c
   cases e
   obtain ⟨p,us,rfl,s1,t1⟩:=repL p1;obtain ⟨p',ws,rfl,s2,t2⟩:=repL p2;exact .inr (.inr (.inr (.inl ⟨p,p',us,ws,rfl,rfl,s1,s2,by rw [t1.length,t2.length]; exact c,fun z hz=>q _ _ (an' hz _) (mkL (SqL.of aq') ((t1.append t2).mono (an' hz _)))⟩)))
  ·cases e
end
noncomputable def APost (X:Cx) (pins:List (Addr×Obj)) (σ:St) (H:Hp) (r:Res (List D)) (us:List Value) (s1:Shared):Prop:=∃ds vs H1,r=.ok ds/\Inv X pins σ H1 s1/\Vals vs us/\Same H H1/\Reps X.K H1 ds vs
noncomputable def PAD (X:Cx) (es:List Expr) (f:DS->Res (List D)):Prop :=
 ∀(pos:Pos) (pins:List (Addr×Obj)) (s:Shared) (σ:St) (G H:Hp) (δ:DS),Inv X pins σ H s->RepSt X.K G H σ δ->f δ≠.stuck ->
  wpAny (model X.prog X.w) X.A (spliced (backTo pos (starEach es X.env))) (APost X pins σ H (f δ)) (XPost X pins σ H s.heap (f δ)) s
noncomputable def consD (f:DS->Res D) (fs:DS->Res (List D)):DS->Res (List D):=fun δ=>(f δ).bind fun d=>(fs δ).bind fun ds=>.ok (d :: ds)
section
variable {X:Cx} {e:Expr} {es:List Expr} {f:DS->Res D} {fs:DS->Res (List D)} {pos:Pos}
theorem PAD.use {pins:List (Addr×Obj)} {s:Shared} {σ:St} {G H:Hp} {δ:DS} (h:PAD X es fs) (I:Inv X pins σ H s) (R:RepSt X.K G H σ δ) (hs:fs δ≠.stuck) {P:List Value->Shared->Prop} {E:Value->Shared->Prop}
  (k:∀ds us s1 vs H1,fs δ=.ok ds->Inv X pins σ H1 s1->Vals vs us->Same H H1->Back H s.heap s1.heap->Reps X.K H1 ds vs->P us s1) (kx:∀e s1,XPost X pins σ H s.heap (fs δ) e s1->E e s1) :
  wpAny (model X.prog X.w) X.A (spliced (backTo pos (starEach es X.env))) P E s:=by
 refine wpAny_mono (h pos (pins ++ allP X H s.heap) s σ G H δ I.all R hs) (fun us s1 ⟨ds,vs,H1,q1,q2,q3,q4,q5⟩=>k ds us s1 vs H1 q1 q2.unpinned q3 q4 (I.backTo q2) q5) fun e s1 ⟨x,a,C,H1,q1,q2,q3,q4,q5,q6⟩=>kx e s1 ⟨x,a,C,H1,q1,q2,q3.unpinned,q4,q5,q6⟩
theorem ad':PAD X [] (fun _=>.ok []):=fun pos pins s σ G H δ I R _=>Calls.spliced_nil ⟨[],[],H,rfl,I,.nil,Same.refl H,Reps.nil⟩
theorem aa' (ha:PD X e f) (hr:PAD X es fs) (hs:starEach (e :: es) X.env=(false,eval e X.env) :: starEach es X.env:=by rfl):PAD X (e :: es) (consD f fs):=by
 intro pos pins s σ G H δ I R hn;have hn':(f δ).bind (fun d=>(fs δ).bind fun ds=>.ok (d :: ds))≠.stuck:=hn;rw [hs];show wpAny _ _ (spliced ((false,eval e X.env) :: backTo pos (starEach es X.env))) _ _ s;refine Calls.spliced_cons (ha.use I R (at' hn') (fun d u s1 v H1 q I1 r1 e1 b1 p1=>?_) fun e s1 q=>q.same fun x z=>aw' z);have hn2:=av' hn' q;refine hr.use I1 (R.mono e1) (at' hn2) (fun ds us s2 vs H2 q2 I2 r2 e2 b2 p2=>⟨d :: ds,v :: vs,H2,by unfold consD; rw [q,Res.bind_ok,q2]; rfl,I2,.cons r1 r2,e1.trans e2,Reps.cons (p1.mono e2) p2⟩) fun e s2 q2=>q2.back e1 b1 fun x z=>by unfold consD; rw [q,Res.bind_ok,z]; rfl
noncomputable def tupD (r:Res (List D)):Res D:=r.bind fun ds=>if ds.length<=sizeLine then .ok (.tup ds) else .stuck
noncomputable def lstD (r:Res (List D)):Res D:=r.bind fun ds=>if ds.length<=sizeLine then .ok (.lst ds) else .stuck
theorem aL' {x1} (h:PAD X es fs):PD X (.Tuple es x1 pos) (fun δ=>tupD (fs δ)):=by
 intro pins s σ G H δ I R hs
 try dsimp only at hs ⊢
 have hs':(fs δ).bind (fun ds=>if ds.length<=sizeLine then Res.ok (D.tup ds) else .stuck)≠.stuck:=hs
 refine wpAny_Tuple_spliced (h.use I R (at' hs') (fun ds us s1 vs H1 q I1 r1 e1 b1 p1=>?_) fun e s1 q=>q.same fun x z=>aw' z);have h2:=av' hs' q;have hz:ds.length<=sizeLine:=by
  by_cases c:ds.length<=sizeLine
  ·exact c
  ·rw [if_neg c] at h2; exact (h2 rfl).elim
 refine ⟨by rw [<- r1.length,p1.length]; exact hz,?_⟩;have hf:H1 s1.heap.objs.size=none:=I1.hok.fresh (Nat.le_refl _);refine ⟨.tup ds,.ref s1.heap.objs.size,upd H1 s1.heap.objs.size (.tup vs),by unfold tupD; rw [q,Res.bind_ok,if_pos hz],I1.laid (t':=s1.toks) (fun b u e=>Heap.get?_push_of_some _ e) (Nat.le_refl _) ?_,rfl,e1.trans (an' hf _),mkT (SqT.of aq') (p1.mono (an' hf _))⟩;exact ⟨by rw [p1.length]; exact hz,us,r1,⟨_,Heap.get?_push_size _ rfl,rfl,_,rfl⟩⟩
theorem cg' (h:PAD X es fs):PD X (.List es pos) (fun δ=>lstD (fs δ)):=by
 intro pins s σ G H δ I R hs
 try dsimp only at hs ⊢
 have hs':(fs δ).bind (fun ds=>if ds.length<=sizeLine then Res.ok (D.lst ds) else .stuck)≠.stuck:=hs
 refine wpAny_List_spliced (h.use I R (at' hs') (fun ds us s1 vs H1 q I1 r1 e1 b1 p1=>?_) fun e s1 q=>q.same fun x z=>aw' z);have h2:=av' hs' q;have hz:ds.length<=sizeLine:=by
  by_cases c:ds.length<=sizeLine
  ·exact c
  ·rw [if_neg c] at h2; exact (h2 rfl).elim
 refine ⟨by rw [<- r1.length,p1.length]; exact hz,?_⟩;have hf:H1 s1.heap.objs.size=none:=I1.hok.fresh (Nat.le_refl _);refine ⟨.lst ds,.ref s1.heap.objs.size,upd H1 s1.heap.objs.size (.lst vs),by unfold lstD; rw [q,Res.bind_ok,if_pos hz],I1.laid (t':=s1.toks) (fun b u e=>Heap.get?_push_of_some _ e) (Nat.le_refl _) ?_,rfl,e1.trans (an' hf _),mkL (SqL.of aq') (p1.mono (an' hf _))⟩;exact ⟨by rw [p1.length]; exact hz,us,0,r1,Heap.get?_push_size _ rfl⟩
noncomputable def ixD:D->D->Res D
 | .tup ds,.int i=>match atI ds i with | some d=>.ok d | none=>.stuck
 | .lst ds,.int i=>match atI ds i with | some d=>.ok d | none=>.stuck
 | .str z,.int i=>if z.length<=sizeLine then (match atI z.cps.toList i with | some c=>.ok (.str ⟨#[c]⟩) | none=>.stuck) else .stuck
 | _,_=>.stuck
theorem mZ' (x y:D):NoErr (ixD x y):=by
 cases x <;> cases y <;> first | exact af' | skip
 ·simp only [ixD]; split <;> first | (split <;> first | exact ak' | exact af') | exact af'
 ·simp only [ixD]; split <;> first | exact ak' | exact af'
 ·simp only [ixD]; split <;> first | exact ak' | exact af'
theorem gQ' {K:PySem.W.Frag} {H:Hp} {ds:List D} {vs:List V} {i:Int} {d:D} (r:Reps K H ds vs) (e:atI ds i=some d):∃v,atI vs i=some v/\Rep K H d v:=by
 unfold atI at e ⊢;rw [r.length]
 cases q:ixN ds.length i with
 | none=>rw [q] at e; cases e
 | some j =>
  rw [q] at e;exact r.get e
theorem au' {o i:Expr} {fo fi:DS->Res D} (ho:PD X o fo) (hi:PD X i fi) (hp:PlainIx i:=by intro _ _; rfl):PD X (.Subscript o i pos) (two fo fi ixD):=by
 intro pins s σ G H δ I R hs
 try dsimp only at hs ⊢
 refine Subscript_ (gL' ho hi I R hs (fun x y v u s2 vx vy H2 q I2 r1 r2 e2 p1 p2=>?_) fun _ _ q=>q);have hd:ixD x y≠.stuck:=fun z=>hs (q.trans z)
 cases qg:ixD x y with
 | stuck=>exact (hd qg).elim
 | err z=>exact (mZ' x y z qg).elim
 | ok d =>
  refine wpAny_mono (lM' (X:=X.wish fun _ _=>False) o i pins s2 σ H2 vx vy v u (fun z H'=>H'=H2/\Rep X.K H2 d z) (I2.wish _) r1 r2 ?_ (hp _ _)) (fun w s3 q3=>?_) fun _ _ z=>z.elim
  rotate_left
  ·obtain ⟨z,H3,I3,r3,e3,p3⟩:=q3;subst e3;exact ⟨d,z,H3,q.trans qg,I3.unwish,r3,e2,p3⟩
  cases x with
  | tup ds =>
   cases y with
   | int k =>
    simp only [ixD] at qg
    split at qg
    ·rename_i d' e
     cases qg
     obtain ⟨b,xs,rfl,w1,w2⟩:=repT p1;obtain ⟨z,z1,z2⟩:=gQ' w2 e;exact .inr (.inl ⟨b,xs,k,z,rfl,repI p2,w1,z1,rfl,z2⟩)
    ·cases qg
   | _=>cases qg
  | lst ds =>
   cases y with
   | int k =>
    simp only [ixD] at qg
    split at qg
    ·rename_i d' e
     cases qg
     obtain ⟨b,xs,rfl,w1,w2⟩:=repL p1;obtain ⟨z,z1,z2⟩:=gQ' w2 e;exact .inl ⟨b,xs,k,z,rfl,repI p2,w1,z1,rfl,z2⟩
    ·cases qg
   | _=>cases qg
  | str z =>
   cases y with
   | int k =>
    simp only [ixD] at qg
    split at qg
    ·rename_i hz
     split at qg
     ·rename_i c e
      cases qg
      exact .inr (.inr ⟨z,k,c,repS p1,repI p2,hz,e,rfl,mkS⟩)
     ·cases qg
    ·cases qg
   | _=>cases qg
  | _=>cases qg
end
noncomputable def CallD (X:Cx) (f:Value) (g:List D->Res D):Prop :=
 ∀(E:Value->Shared->Prop) (pins:List (Addr×Obj)) (s:Shared) (σ:St) (H:Hp) (xs:List V) (us:List Value) (ds:List D) (d:D),Inv X pins σ H s->Vals xs us->Reps X.K H ds xs->g ds=.ok d ->
  wpAny (model X.prog X.w) X.A (call f us) (EPost X pins σ H (.ok d)) E s
theorem CallD.of {X:Cx} {f:Value} {r:List V->Hp->VK->Prop} {g:List D->Res D} (hc:∀E,CallR (X.wish E) f r) (h:∀(H:Hp) (xs:List V) (ds:List D) (d:D) (Q:VK),Reps X.K H ds xs->g ds=.ok d->(∀z H',Same H H'->Rep X.K H' d z->Q z H')->r xs H Q):CallD X f g :=
 fun E pins s σ H xs us ds d I r1 p e=>thn (hc E pins s σ H xs us (fun z H'=>Same H H'/\Rep X.K H' d z) (I.wish _) r1 (h H xs ds d _ p e fun z H' a b=>⟨a,b⟩)) fun w s1 ⟨z,H1,I1,r3,e1,p3⟩=>⟨d,z,H1,rfl,I1.unwish,r3,e1,p3⟩
section
variable {X:Cx} {e:Expr} {es:List Expr} {fs:DS->Res (List D)} {x:Str} {p pos:Pos} {id T:String} {g:List D->Res D}
theorem dV' {pins:List (Addr×Obj)} {s:Shared} {σ:St} {G H:Hp} {δ:DS} {f:Value} (hc:CallD X f g) (hg:∀ds,NoErr (g ds)) (ha:PAD X es fs) (I:Inv X pins σ H s) (R:RepSt X.K G H σ δ) (hs:(fs δ).bind g≠.stuck) :
  wpAny (model X.prog X.w) X.A (spliced (backTo pos (starEach es X.env))) (fun us s1=>wpAny (model X.prog X.w) X.A (call f us) (EPost X pins σ H ((fs δ).bind g)) (XPost X pins σ H s.heap ((fs δ).bind g)) s1) (XPost X pins σ H s.heap ((fs δ).bind g)) s:=by
 refine ha.use I R (at' hs) (fun ds us s1 vs H1 q I1 r1 e1 b1 p1=>?_) fun e s1 q=>q.same fun x z=>aw' z;have h2:=av' hs q
 cases qg:g ds with
 | stuck=>exact (h2 qg).elim
 | err z=>exact (hg ds z qg).elim
 | ok d=>exact thn (hc _ pins s1 σ H1 vs us ds d I1 r1 p1 qg) fun w s2 p=>p.from e1 (by rw [q,Res.bind_ok,qg])
theorem ao' (hc:CallD X (.builtin id) g) (hne:∀ds,NoErr (g ds)) (hg:Gl X x) (hm:X.mg x=none) (hv:bootBuiltins x=some (.builtin id)) (ha:PAD X (e :: es) fs) (hn:x≠"__name__":=by decide) (hdb:(x == ("__debug__" : Str))=false:=by decide)
  (he:starEach (e :: es) X.env=(false,eval e X.env) :: starEach es X.env:=by rfl) (hpl:(backTo pos (starEach es X.env)).any (·.1)=false:=by rfl):PD X (.Call (.Name x p) (e :: es) [] pos) (fun δ=>(fs δ).bind g):=by
 intro pins s σ G H δ I R hs
 try dsimp only at hs ⊢
 refine wpAny_Call_Name_kw (bG' I hg hm hv ?_ hn hdb);exact PyProof.Rows.callWith_builtin1 (dV' hc hne ha I R hs) he hpl
theorem aS' (hc:CallD X (.type T) g) (hne:∀ds,NoErr (g ds)) (hg:Gl X x) (hm:X.mg x=none) (hv:bootBuiltins x=some (.type T)) (ha:PAD X (e :: es) fs) (hn:x≠"__name__":=by decide) (hdb:(x == ("__debug__" : Str))=false:=by decide)
  (he:starEach (e :: es) X.env=(false,eval e X.env) :: starEach es X.env:=by rfl) (hpl:(backTo pos (starEach es X.env)).any (·.1)=false:=by rfl):PD X (.Call (.Name x p) (e :: es) [] pos) (fun δ=>(fs δ).bind g):=by
 intro pins s σ G H δ I R hs
 try dsimp only at hs ⊢
 refine wpAny_Call_Name_kw (bG' I hg hm hv ?_ hn hdb);exact PyProof.Rows.callWith_type1 (dV' hc hne ha I R hs) he hpl
end
noncomputable def absG:List D->Res D
 | [.int i]=>.ok (.int (if i < 0 then -i else i))
 | _=>.stuck
theorem gR' {X:Cx}:CallD X (.builtin "abs") absG:=.of (fun _=>iz') fun H xs ds d Q r e q=>by
 unfold absG at e
 split at e
 ·rename_i i
  cases e
  obtain ⟨v,vs,rfl,p1,t⟩:=r.cons_of
  cases t.nil_of
  exact ⟨i,by rw [repI p1],q _ H (Same.refl H) mkI⟩
 ·cases e
theorem gS' (ds:List D):NoErr (absG ds):=by
 unfold absG
 split
 ·exact ak'
 ·exact af'
noncomputable def lenG:List D->Res D
 | [.tup ds]=>.ok (.int ds.length)
 | [.lst ds]=>.ok (.int ds.length)
 | [.str z]=>if z.length<=sizeLine then .ok (.int z.length) else .stuck
 | _=>.stuck
theorem aZ' (ds:List D):NoErr (lenG ds):=by
 unfold lenG
 split <;> first | exact ak' | exact af' | exact az' ak' af'
theorem gT' {X:Cx} (E:Value->Shared->Prop):CallR (X.wish E) (.builtin "len") (fun xs H Q=>∃x n,xs=[x]/\LenV X.K x H n/\Q (.int n) H):=iA'
theorem ba' {X:Cx}:CallD X (.builtin "len") lenG:=.of gT' fun H xs ds d Q r e q=>by
 unfold lenG at e
 split at e
 ·rename_i es
  cases e
  obtain ⟨v,vs,rfl,p1,t⟩:=r.cons_of
  cases t.nil_of
  obtain ⟨a,ys,rfl,w1,w2⟩:=repT p1;exact ⟨_,es.length,rfl,.inr ⟨ys,w1,w2.length.symm⟩,q _ H (Same.refl H) mkI⟩
 ·rename_i es
  cases e
  obtain ⟨v,vs,rfl,p1,t⟩:=r.cons_of
  cases t.nil_of
  obtain ⟨a,ys,rfl,w1,w2⟩:=repL p1;exact ⟨_,es.length,rfl,.inl ⟨ys,w1,w2.length.symm⟩,q _ H (Same.refl H) mkI⟩
 ·rename_i z
  split at e
  ·rename_i hz
   cases e
   obtain ⟨v,vs,rfl,p1,t⟩:=r.cons_of
   cases t.nil_of
   cases repS p1
   exact ⟨_,z.length,rfl,⟨hz,rfl⟩,q _ H (Same.refl H) mkI⟩
  ·cases e
 ·cases e
inductive Out where
 | stuck
 | nxt (δ:DS)
 | ret (d:D)
 | brk (δ:DS)
 | cnt (δ:DS)
 | err (x:Exn) (δ:DS)
noncomputable def Out.seq (o:Out) (g:DS->Out):Out:=match o with
 | .nxt δ=>g δ
 | o=>o
noncomputable def SPost (X:Cx) (pins:List (Addr×Obj)) (G H:Hp) (o:Out) (fl:Flow) (s1:Shared):Prop:=match fl with
 | .next=>∃δ' σ' H',o=.nxt δ'/\Inv X pins σ' H' s1/\TK H H'/\RepSt X.K G H' σ' δ'
 | .brk=>∃δ' σ' H',o=.brk δ'/\Inv X pins σ' H' s1/\TK H H'/\RepSt X.K G H' σ' δ'
 | .cont=>∃δ' σ' H',o=.cnt δ'/\Inv X pins σ' H' s1/\TK H H'/\RepSt X.K G H' σ' δ'
 | .ret u=>∃d v σ' H',o=.ret d/\Inv X pins σ' H' s1/\TK H H'/\Same G H'/\RelV v u/\Rep X.K H' d v
noncomputable def SX (X:Cx) (pins:List (Addr×Obj)) (G H:Hp) (h0:Heap) (o:Out) (e:Value) (s1:Shared):Prop :=
 ∃x δ' a C σ' H',o=.err x δ'/\e=.ref a/\Inv X pins σ' H' s1/\TK H H'/\RepSt X.K G H' σ' δ'/\PySem.W.nsIn X.K mainGlobals x.cls=some (some (.ref C))/\FlyX X.K x h0 H' s1.heap a C
noncomputable def PSD (X:Cx) (st:Stmt) (f:DS->Out):Prop :=
 ∀(pins:List (Addr×Obj)) (s:Shared) (σ:St) (G H:Hp) (δ:DS),Inv X pins σ H s->RepSt X.K G H σ δ->f δ≠.stuck ->
  wpAny (model X.prog X.w) X.A (exec st X.env) (SPost X pins G H (f δ)) (SX X pins G H s.heap (f δ)) s
noncomputable def PSDs (X:Cx) (st:List Stmt) (f:DS->Out):Prop :=
 ∀(pins:List (Addr×Obj)) (s:Shared) (σ:St) (G H:Hp) (δ:DS),Inv X pins σ H s->RepSt X.K G H σ δ->f δ≠.stuck ->
  wpAny (model X.prog X.w) X.A (execs st X.env) (SPost X pins G H (f δ)) (SX X pins G H s.heap (f δ)) s
noncomputable def onD (r:Res D) (δ:DS) (k:D->Out):Out:=match r with
 | .stuck=>.stuck
 | .ok d=>k d
 | .err x=>.err x δ
noncomputable def onT (r:Res Bool) (δ:DS) (k:Bool->Out):Out:=match r with
 | .stuck=>.stuck
 | .ok d=>k d
 | .err x=>.err x δ
theorem gd' {r:Res D} {δ:DS} {k:D->Out} (h:onD r δ k≠.stuck):r≠.stuck:=fun q=>h (by rw [q]; rfl)
theorem na' {r:Res Bool} {δ:DS} {k:Bool->Out} (h:onT r δ k≠.stuck):r≠.stuck:=fun q=>h (by rw [q]; rfl)
section
variable {X:Cx} {pins:List (Addr×Obj)} {G H H1:Hp} {h0 h1:Heap} {s1:Shared} {fl:Flow} {o o':Out} {e:Value}
theorem SPost.from (p:SPost X pins G H1 o fl s1) (t:TK H H1) (q:o=o'):SPost X pins G H o' fl s1:=by
 subst q
 cases fl with
 | next=>obtain ⟨δ',σ',H',q1,q2,q3,q4⟩:=p; exact ⟨δ',σ',H',q1,q2,t.trans q3,q4⟩
 | brk=>obtain ⟨δ',σ',H',q1,q2,q3,q4⟩:=p; exact ⟨δ',σ',H',q1,q2,t.trans q3,q4⟩
 | cont=>obtain ⟨δ',σ',H',q1,q2,q3,q4⟩:=p; exact ⟨δ',σ',H',q1,q2,t.trans q3,q4⟩
 | ret u=>obtain ⟨d,v,σ',H',q1,q2,q3,q4,q5,q6⟩:=p; exact ⟨d,v,σ',H',q1,q2,t.trans q3,q4,q5,q6⟩
theorem SX.from (p:SX X pins G H1 h1 o e s1) (t:TK H H1) (b:Back H h0 h1) (q:o=o'):SX X pins G H h0 o' e s1:=by
 subst q;obtain ⟨x,δ',a,C,σ',H',q1,q2,q3,q4,q5,q6,q7⟩:=p;exact ⟨x,δ',a,C,σ',H',q1,q2,q3,t.trans q4,q5,q6,q7.back t q4 b⟩
theorem XPost.sx {α:Type} {σ:St} {δ:DS} {r:Res α} (p:XPost X pins σ H h0 r e s1) (R:RepSt X.K G H σ δ) (q:∀x,r=.err x->o=.err x δ):SX X pins G H h0 o e s1:=by
 obtain ⟨x,a,C,H1,q1,q2,q3,q4,q5,q6⟩:=p;exact ⟨x,δ,a,C,σ,H1,q x q1,q2,q3,q4.tk,R.mono q4,q5,q6⟩
theorem nb' {t:Sem Flow} {s:Shared} {σ:St} (h:∀pins,Inv X pins σ H s->wpAny (model X.prog X.w) X.A t (SPost X pins G H o) (SX X pins G H s.heap o) s) (I:Inv X pins σ H s) {P:Flow->Shared->Prop} {E:Value->Shared->Prop}
  (k:∀fl s1,SPost X pins G H o fl s1->Back H s.heap s1.heap->P fl s1) (kx:∀e s1,SX X pins G H s.heap o e s1->E e s1):wpAny (model X.prog X.w) X.A t P E s:=by
 refine wpAny_mono (h (pins ++ allP X H s.heap) I.all) (fun fl s1 p=>?_) fun e s1 ⟨x,δ',a,C,σ',H',q1,q2,q3,q4,q5,q6,q7⟩=>kx e s1 ⟨x,δ',a,C,σ',H',q1,q2,q3.unpinned,q4,q5,q6,q7⟩
 cases fl with
 | next=>obtain ⟨δ',σ',H',q1,q2,q3,q4⟩:=p; exact k .next s1 ⟨δ',σ',H',q1,q2.unpinned,q3,q4⟩ (I.backTo q2)
 | brk=>obtain ⟨δ',σ',H',q1,q2,q3,q4⟩:=p; exact k .brk s1 ⟨δ',σ',H',q1,q2.unpinned,q3,q4⟩ (I.backTo q2)
 | cont=>obtain ⟨δ',σ',H',q1,q2,q3,q4⟩:=p; exact k .cont s1 ⟨δ',σ',H',q1,q2.unpinned,q3,q4⟩ (I.backTo q2)
 | ret u=>obtain ⟨d,v,σ',H',q1,q2,q3,q4,q5,q6⟩:=p; exact k (.ret u) s1 ⟨d,v,σ',H',q1,q2.unpinned,q3,q4,q5,q6⟩ (I.backTo q2)
end
section
variable {X:Cx} {st:Stmt} {rest:List Stmt} {f g:DS->Out} {e:Expr} {fe:DS->Res D} {pos:Pos}
theorem aR':PSDs X [] Out.nxt:=fun pins s σ G H δ I R _=>wpAny_execs_nil ⟨δ,σ,H,rfl,I,TK.refl H,R⟩
noncomputable def seqD (f g:DS->Out):DS->Out:=fun δ=>(f δ).seq g
theorem ae' (h1:PSD X st f) (h2:PSDs X rest g):PSDs X (st :: rest) (seqD f g):=by
 intro pins s σ G H δ I R hs
 try dsimp only at hs ⊢
 have hf:f δ≠.stuck:=fun q=>hs (by unfold seqD; rw [q]; rfl);refine wpAny_execs_cons (nb' (fun pins I=>h1 pins s σ G H δ I R hf) I (fun fl s1 p b=>?_) fun e s1 p=>?_)
 ·cases fl with
  | next =>
   obtain ⟨δ',σ',H',q1,q2,q3,q4⟩:=p;have ev:seqD f g δ=g δ':=by unfold seqD; rw [q1]; rfl
   exact wpAny_mono (h2 pins s1 σ' G H' δ' q2 q4 fun z=>hs (ev.trans z)) (fun fl s2 p2=>p2.from q3 ev.symm) fun e s2 p2=>p2.from q3 b ev.symm
  | brk=>obtain ⟨δ',σ',H',q1,q2,q3,q4⟩:=p; exact ⟨δ',σ',H',by unfold seqD; rw [q1]; rfl,q2,q3,q4⟩
  | cont=>obtain ⟨δ',σ',H',q1,q2,q3,q4⟩:=p; exact ⟨δ',σ',H',by unfold seqD; rw [q1]; rfl,q2,q3,q4⟩
  | ret u=>obtain ⟨d,v,σ',H',q1,q2⟩:=p; exact ⟨d,v,σ',H',by unfold seqD; rw [q1]; rfl,q2⟩
 ·obtain ⟨x,δ',a,C,σ',H',q1,q2⟩:=p;exact ⟨x,δ',a,C,σ',H',by unfold seqD; rw [q1]; rfl,q2⟩
theorem ag' (h1:PSD X st f):PSDs X [st] f:=by
 intro pins s σ G H δ I R hs
 try dsimp only at hs ⊢
 refine wpAny_execs_cons (wpAny_mono (h1 pins s σ G H δ I R hs) (fun fl s1 p=>?_) fun e s1 p=>p)
 cases fl with
 | next=>exact wpAny_execs_nil p
 | brk=>exact p
 | cont=>exact p
 | ret u=>exact p
noncomputable def NOut (X:Cx) (G H:Hp) (o:Out) (E:Ends):Prop:=match o with
 | .stuck=>False
 | .nxt δ=>∀σ' H',TK H H'->RepSt X.K G H' σ' δ->E.nx σ' H'
 | .ret d=>∀v H',TK H H'->Same G H'->Rep X.K H' d v->E.rt v H'
 | .brk δ=>∀σ' H',TK H H'->RepSt X.K G H' σ' δ->E.bk σ' H'
 | .cnt δ=>∀σ' H',TK H H'->RepSt X.K G H' σ' δ->E.ct σ' H'
 | .err _ _=>False
noncomputable def sD (X:Cx) (f:DS->Out):TS:=fun E σ H=>∃G δ,RepSt X.K G H σ δ/\NOut X G H (f δ) E
theorem NOut.tk {X:Cx} {G H H1:Hp} {o:Out} {E:Ends} (h:NOut X G H o E) (t:TK H H1):NOut X G H1 o E:=by
 cases o with
 | stuck=>exact h
 | nxt δ=>exact fun σ' H' t' r=>h σ' H' (t.trans t') r
 | ret d=>exact fun v H' t' r=>h v H' (t.trans t') r
 | brk δ=>exact fun σ' H' t' r=>h σ' H' (t.trans t') r
 | cnt δ=>exact fun σ' H' t' r=>h σ' H' (t.trans t') r
 | err x δ=>exact h
theorem gU' {pins:List (Addr×Obj)} {G H:Hp} {o:Out} {E:Ends} {fl:Flow} {s1:Shared} {W:Value->Shared->Prop} (h:NOut X G H o E) (p:SPost X pins G H o fl s1):SP (X.wish W) pins E fl s1:=by
 cases fl with
 | next=>obtain ⟨δ',σ',H',q1,q2,q3,q4⟩:=p; subst q1; exact ⟨σ',H',q2.wish _,h σ' H' q3 q4⟩
 | brk=>obtain ⟨δ',σ',H',q1,q2,q3,q4⟩:=p; subst q1; exact ⟨σ',H',q2.wish _,h σ' H' q3 q4⟩
 | cont=>obtain ⟨δ',σ',H',q1,q2,q3,q4⟩:=p; subst q1; exact ⟨σ',H',q2.wish _,h σ' H' q3 q4⟩
 | ret u=>obtain ⟨d,v,σ',H',q1,q2,q3,q4,q5,q6⟩:=p; subst q1; exact ⟨v,σ',H',q2.wish _,q5,h v H' q3 q4 q6⟩
theorem NOut.ns {G H:Hp} {o:Out} {E:Ends} (h:NOut X G H o E):o≠.stuck:=fun q=>by subst q; exact h
theorem NOut.sx {pins:List (Addr×Obj)} {G H:Hp} {h0:Heap} {o:Out} {E:Ends} {e:Value} {s1:Shared} (h:NOut X G H o E) (p:SX X pins G H h0 o e s1):False:=by
 obtain ⟨x,δ',_,_,_,_,q,_⟩:=p; subst q; exact h
theorem PSDs.ps (h:PSDs X rest f):PSs X.nox rest (sD X f):=by
 intro pins s σ H E I ⟨G,δ,R,n⟩;exact wpAny_mono (h pins s σ G H δ I.unwish R n.ns) (fun fl s1 p=>gU' n p) fun e s1 p=>n.sx p
theorem PSD.ps (h:PSD X st f):PS X.nox st (sD X f):=by
 intro pins s σ H E I ⟨G,δ,R,n⟩;exact wpAny_mono (h pins s σ G H δ I.unwish R n.ns) (fun fl s1 p=>gU' n p) fun e s1 p=>n.sx p
theorem PTD.pt {c:Expr} {tc:DS->Res Bool} (h:PTD X c tc):PT X.nox c (fun σ H Q=>∃G δ d,RepSt X.K G H σ δ/\tc δ=.ok d/\∀H',Same H H'->Q d H'):=by
 intro pins s σ H Q I ⟨G,δ,d,R,q,n⟩;refine wpAny_mono (h pins s σ G H δ I.unwish R (by rw [q]; intro z; cases z)) (fun b s1 ⟨H1,q1,I1,e1⟩=>?_) fun e s1 p=>?_
 ·rw [q] at q1; cases q1;exact ⟨H1,I1.wish _,n H1 e1⟩
 ·rw [q] at p; exact p.none
theorem PAD.pa {es:List Expr} {fs:DS->Res (List D)} (h:PAD X es fs):PA X.nox es (fun σ H Q=>∃G δ ds,RepSt X.K G H σ δ/\fs δ=.ok ds/\∀vs H',Same H H'->Reps X.K H' ds vs->Q vs H'):=by
 intro pos pins s σ H Q I ⟨G,δ,d,R,q,n⟩;refine wpAny_mono (h pos pins s σ G H δ I.unwish R (by rw [q]; intro z; cases z)) (fun b s1 ⟨d',v,H1,q1,I1,r1,e1,p1⟩=>?_) fun e s1 p=>?_
 ·rw [q] at q1; cases q1;exact ⟨v,H1,I1.wish _,r1,n v H1 e1 p1⟩
 ·rw [q] at p; exact p.none
theorem gV' (hne:∀δ x δ',f δ≠.err x δ') (h:PS X.nox st (sD X f)):PSD X st f:=by
 intro pins s σ G H δ I R hs
 try dsimp only at hs ⊢
 let E:Ends:={ nx:=fun σ' H'=>∃δ',f δ=.nxt δ'/\TK H H'/\RepSt X.K G H' σ' δ',rt:=fun v H'=>∃d,f δ=.ret d/\TK H H'/\Same G H'/\Rep X.K H' d v,bk:=fun σ' H'=>∃δ',f δ=.brk δ'/\TK H H'/\RepSt X.K G H' σ' δ',ct:=fun σ' H'=>∃δ',f δ=.cnt δ'/\TK H H'/\RepSt X.K G H' σ' δ' }
 have n:NOut X G H (f δ) E:=by
  cases q:f δ with
  | stuck=>exact (hs q).elim
  | nxt δ'=>exact fun σ' H' t r=>⟨δ',q,t,r⟩
  | brk δ'=>exact fun σ' H' t r=>⟨δ',q,t,r⟩
  | cnt δ'=>exact fun σ' H' t r=>⟨δ',q,t,r⟩
  | ret d=>exact fun v H' t g r=>⟨d,q,t,g,r⟩
  | err x δ'=>exact (hne δ x δ' q).elim
 refine wpAny_mono (h pins s σ H E (I.wish _) ⟨G,δ,R,n⟩) (fun fl s1 p=>?_) fun e s1 p=>p.elim
 cases fl with
 | next=>obtain ⟨σ',H',q2,δ',q1,q3,q4⟩:=p; exact ⟨δ',σ',H',q1,q2.unwish,q3,q4⟩
 | brk=>obtain ⟨σ',H',q2,δ',q1,q3,q4⟩:=p; exact ⟨δ',σ',H',q1,q2.unwish,q3,q4⟩
 | cont=>obtain ⟨σ',H',q2,δ',q1,q3,q4⟩:=p; exact ⟨δ',σ',H',q1,q2.unwish,q3,q4⟩
 | ret u=>obtain ⟨v,σ',H',q2,q5,d,q1,q3,q4,q6⟩:=p; exact ⟨d,v,σ',H',q1,q2.unwish,q3,q4,q5,q6⟩
theorem al' (he:PD X e fe):PSD X (.Return (some e) pos) (fun δ=>onD (fe δ) δ Out.ret):=by
 intro pins s σ G H δ I R hs
 try dsimp only at hs ⊢
 refine wpAny_Return_some (he.use I R (gd' hs) (fun d u s1 v H1 q I1 r1 e1 b1 p1=>⟨d,v,σ,H1,by rw [q]; rfl,I1,e1.tk,R.same.trans e1,r1,p1⟩) fun e s1 q=>q.sx R fun x z=>by rw [z]; rfl)
theorem bc' {c:Expr} {a b:List Stmt} {tc:DS->Res Bool} {fa fb:DS->Out} (hc:PTD X c tc) (ha:PSDs X a fa) (hb:PSDs X b fb):PSD X (.If c a b pos) (fun δ=>onT (tc δ) δ fun k=>if k=true then fa δ else fb δ):=by
 intro pins s σ G H δ I R hs
 try dsimp only at hs ⊢
 refine wpAny_If (hc.use I R (na' hs) (fun k s1 H1 q I1 e1 b1=>?_) fun e s1 q=>q.sx R fun x z=>by rw [z]; rfl)
 cases k with
 | true =>
  have ev:onT (tc δ) δ (fun k=>if k=true then fa δ else fb δ)=fa δ:=by rw [q]; rfl
  exact wpAny_mono (ha pins s1 σ G H1 δ I1 (R.mono e1) fun z=>hs (ev.trans z)) (fun fl s2 p=>p.from e1.tk ev.symm) fun e s2 p=>p.from e1.tk b1 ev.symm
 | false =>
  have ev:onT (tc δ) δ (fun k=>if k=true then fa δ else fb δ)=fb δ:=by rw [q]; rfl
  exact wpAny_mono (hb pins s1 σ G H1 δ I1 (R.mono e1) fun z=>hs (ev.trans z)) (fun fl s2 p=>p.from e1.tk ev.symm) fun e s2 p=>p.from e1.tk b1 ev.symm
noncomputable def setD (i:Nat) (fe:DS->Res D):DS->Out:=fun δ=>onD (fe δ) δ fun d=>.nxt (δ.set i (some (.val d)))
theorem ah' (i:Nat) {x:Str} {pos':Pos} (he:PD X e fe) (hN:X.N.Nodup) (hi:X.N[i]? = some x:=by rfl) (hx:Loc X.env.scope x:=by first | exact Or.inl rfl | exact Or.inr rfl) (hw:swapsWith e (some (.Name x pos')) pos.line X.env=pure false:=by rfl)
  (hf:X.fn x=true\/X.env.scope.names.lookup x=some .local:=by first | exact .inl rfl | exact .inr rfl | assumption):PSD X (.Assign [.Name x pos'] e pos) (setD i fe):=by
 intro pins s σ G H δ I R hs
 try dsimp only at hs ⊢
 refine wpAny_Assign_Name (he.use I R (gd' hs) (fun d u s1 v H1 q I1 r1 e1 b1 p1=>?_) fun e s1 q=>q.sx R fun x z=>by unfold setD; rw [z]; rfl) hw;exact do' I1 hN hi hx r1 (fun s2 I2=>⟨_,_,H1,by unfold setD; rw [q]; rfl,I2,e1.tk,(R.mono e1).set i p1⟩) hf
abbrev TGD:=D->DS->Option DS
noncomputable def PGD (X:Cx) (tg:Expr) (t:TGD):Prop :=
 ∀(E:Value->Shared->Prop) (pins:List (Addr×Obj)) (s:Shared) (σ:St) (G H:Hp) (δ δ':DS) (d:D) (v:V) (u:Value),Inv X pins σ H s->RelV v u->RepSt X.K G H σ δ->Rep X.K H d v->t d δ=some δ' ->
  wpAny (model X.prog X.w) X.A (assign tg X.env u) (fun _ s1=>∃σ',Inv X pins σ' H s1/\RepSt X.K G H σ' δ') E s
theorem aA' (i:Nat) {x:Str} (hN:X.N.Nodup) (hi:X.N[i]? = some x:=by rfl) (hx:Loc X.env.scope x:=by first | exact Or.inl rfl | exact Or.inr rfl) (hf:X.fn x=true\/X.env.scope.names.lookup x=some .local:=by first | exact .inl rfl | exact .inr rfl | assumption) :
  PGD X (.Name x pos) (fun d δ=>some (δ.set i (some (.val d)))):=by
 intro E pins s σ G H δ δ' d v u I r R p e
 cases e
 exact thn (gC' (X:=X.wish E) hN hi hx hf pins s σ H v u (fun σ' H'=>σ'=σ.set i (some v)/\H'=H) (I.wish _) r ⟨rfl,rfl⟩) fun _ s1 ⟨σ',H',I',e1,e2⟩=>by
  subst e1 e2;exact ⟨_,I'.unwish,R.set i p⟩
noncomputable def namesD:List Nat->List D->DS->Option DS
 | [],[],δ=>some δ
 | i :: is,d :: ds,δ=>namesD is ds (δ.set i (some (.val d)))
 | _,_,_=>none
theorem dh':∀{is:List Nat} {ds:List D} {δ δ':DS},namesD is ds δ=some δ'->ds.length=is.length
 | [],[],_,_,_=>rfl
 | [],_ :: _,_,_,h=>by simp [namesD] at h
 | _ :: _,[],_,_,h=>by simp [namesD] at h
 | i :: is,d :: ds,δ,δ',h=>by
  have:=dh' (is:=is) (ds:=ds) (by simpa [namesD] using h);simp [this]
noncomputable def gsD (X:Cx) (is:List Nat):TGs:=fun vs σ H Q=>∃G δ ds δ',RepSt X.K G H σ δ/\Reps X.K H ds vs/\namesD is ds δ=some δ'/\∀σ',RepSt X.K G H σ' δ'->Q σ' H
theorem aE':PGs X [] (gsD X []):=by
 intro pins s σ H vs us Q I r h;obtain ⟨G,δ,ds,δ',R,p,e,q⟩:=h
 cases ds with
 | nil =>
  cases e
  exact kj' pins s σ H vs us Q I r ⟨p.nil_of,q σ R⟩
 | cons d ds=>cases e
theorem ai' (i:Nat) {is:List Nat} {x:Str} {es:List Expr} (hN:X.N.Nodup) (h2:PGs X es (gsD X is)) (hi:X.N[i]? = some x:=by rfl) (hx:Loc X.env.scope x:=by first | exact Or.inl rfl | exact Or.inr rfl)
  (hf:X.fn x=true\/X.env.scope.names.lookup x=some .local:=by first | exact .inl rfl | exact .inr rfl | assumption) (hs:(assignEach (.Name x pos :: es) X.env).map (·.2)=assign (.Name x pos) X.env :: (assignEach es X.env).map (·.2):=by rfl) :
  PGs X (.Name x pos :: es) (gsD X (i :: is)):=by
 intro pins s σ H vs us Q I r h;obtain ⟨G,δ,ds,δ',R,p,e,q⟩:=h
 cases ds with
 | nil=>cases e
 | cons d ds =>
  obtain ⟨v,ws,rfl,p1,p2⟩:=p.cons_of;exact iv' (gC' hN hi hx hf) h2 hs pins s σ H _ us Q I r ⟨v,ws,rfl,G,_,ds,δ',R.set i p1,p2,e,q⟩
noncomputable def tupTgt (is:List Nat):TGD:=fun d δ=>match d with
 | .tup ds=>namesD is ds δ
 | _=>none
theorem bt' {es:List Expr} {k:Nat} {is:List Nat} (hc:X.calm=true) (h:∀E,PGs (X.wish E) es (gsD X is)) (hn:(assignEach es X.env).length=is.length:=by rfl) (hst:(assignEach es X.env).findIdx? (·.1)=none:=by rfl):PGD X (.Tuple es k pos) (tupTgt is):=by
 intro E pins s σ G H δ δ' d v u I r R p e
 cases d with
 | tup ds =>
  obtain ⟨a,xs,rfl,w1,w2⟩:=repT p;exact thn (lE' (X:=X.wish E) hc (h E) hn hst pins s σ H _ u (fun σ' H'=>H'=H/\RepSt X.K G H σ' δ') (I.wish _) r ⟨a,xs,rfl,w1,by rw [w2.length]; exact dh' e,G,δ,ds,δ',R,w2,e,fun σ' R'=>⟨rfl,R'⟩⟩) fun _ s1 ⟨σ',H',I',e1,e2⟩=>by
   subst e1;exact ⟨σ',I'.unwish,e2⟩
 | _=>cases e
noncomputable def asgD (t:TGD) (fe:DS->Res D):DS->Out:=fun δ=>onD (fe δ) δ fun d=>match t d δ with | some δ'=>.nxt δ' | none=>.stuck
theorem ku' {tg:Expr} {t:TGD} (he:PD X e fe) (hg:PGD X tg t) (hw1:swapsWithSole [tg] e pos.line X.env=pure false:=by rfl) (hw:swappedStores [tg] e X.env=pure none:=by rfl) (h1:(assignEach [tg] X.env).map (·.2)=[assign tg X.env]:=by rfl) :
  PSD X (.Assign [tg] e pos) (asgD t fe):=by
 intro pins s σ G H δ I R hs
 try dsimp only at hs ⊢
 refine wpAny_Assign_stores (he.use I R (gd' hs) (fun d u s1 v H1 q I1 r1 e1 b1 p1=>?_) fun e s1 q=>q.sx R fun x z=>by unfold asgD; rw [z]; rfl) hw1 hw;rw [h1]
 cases z:t d δ with
 | none=>exact (hs (by unfold asgD; rw [q]; show (match t d δ with | some δ'=>Out.nxt δ' | none=>.stuck)=_; rw [z])).elim
 | some δ'=>exact thn (hg _ pins s1 σ G H1 δ δ' d v u I1 r1 (R.mono e1) p1 z) fun _ s2 ⟨σ',I2,R2⟩=>⟨δ',σ',H1,by unfold asgD; rw [q]; show (match t d δ with | some δ'=>Out.nxt δ' | none=>.stuck)=_; rw [z],I2,e1.tk,R2⟩
end
noncomputable def whileD (c:DS->Res Bool) (b:DS->Out):Nat->DS->Out
 | 0,_=>.stuck
 | n + 1,δ=>match c δ with
  | .ok true=>(match b δ with
   | .nxt δ'=>whileD c b n δ'
   | .cnt δ'=>whileD c b n δ'
   | .brk δ'=>.nxt δ'
   | .ret d=>.ret d
   | _=>.stuck)
  | .ok false=>.nxt δ
  | _=>.stuck
theorem dW' (c:DS->Res Bool) (b:DS->Out):∀(n:Nat) (δ:DS) (x:Exn) (δ':DS),whileD c b n δ≠.err x δ'
 | 0,_,_,_,h=>by simp [whileD] at h
 | n + 1,δ,x,δ',h=>by
  rw [whileD] at h
  split at h
  ·split at h <;> first | exact dW' c b n _ x δ' h | cases h
  ·cases h
  ·cases h
theorem ch' {X:Cx} {c:Expr} {body:List Stmt} {tc:DS->Res Bool} {fb:DS->Out} {pos:Pos} (fuel:DS->Nat) (hc:PTD X c tc) (hb:PSDs X body fb) :
  PSD X (.While c body [] pos) (fun δ=>whileD tc fb (fuel δ) δ):=by
 refine gV' (fun δ=>dW' tc fb (fuel δ) δ) fun pins s σ H E I h=>?_;obtain ⟨G,δ,R,h⟩:=h;refine iw' PassesOwn.never hc.pt hb.ps pins s σ H E I ⟨fun m σ' H'=>∃δ',RepSt X.K G H' σ' δ'/\NOut X G H' (whileD tc fb m δ') E,⟨fuel δ,δ,R,h⟩,?_⟩
 rintro m σ1 H1 ⟨δ1,R1,h1⟩
 cases m with
 | zero=>exact h1.elim
 | succ m =>
  rw [whileD] at h1
  cases q:tc δ1 with
  | stuck=>simp only [q] at h1; exact h1.elim
  | err x=>simp only [q] at h1; exact h1.elim
  | ok k =>
   refine ⟨G,δ1,k,R1,q,fun H2 e2=>?_⟩
   cases k with
   | false =>
    simp only [q] at h1;rw [if_neg Bool.false_ne_true];exact h1 σ1 H2 e2.tk (R1.mono e2)
   | true =>
    simp only [q] at h1;rw [if_pos rfl];refine ⟨fun σ' H'=>∃δ',RepSt X.K G H' σ' δ'/\NOut X G H' (whileD tc fb m δ') E,fun σ' H' z=>⟨m,Nat.lt_succ_self m,z⟩,G,δ1,R1.mono e2,?_⟩
    cases z:fb δ1 with
    | stuck=>rw [z] at h1; exact h1
    | err x δ'=>rw [z] at h1; exact h1
    | nxt δ'=>rw [z] at h1; exact fun σ' H' t r=>⟨δ',r,h1.tk (e2.tk.trans t)⟩
    | cnt δ'=>rw [z] at h1; exact fun σ' H' t r=>⟨δ',r,h1.tk (e2.tk.trans t)⟩
    | brk δ'=>rw [z] at h1; exact fun σ' H' t r=>h1 σ' H' (e2.tk.trans t) r
    | ret d=>rw [z] at h1; exact fun v H' t g r=>h1 v H' (e2.tk.trans t) g r
noncomputable def forD (t:TGD) (b:DS->Out):List D->DS->Out
 | [],δ=>.nxt δ
 | d :: ds,δ=>match t d δ with
  | none=>.stuck
  | some δ1=>match b δ1 with
   | .nxt δ'=>forD t b ds δ'
   | .cnt δ'=>forD t b ds δ'
   | .brk δ'=>.nxt δ'
   | .ret d=>.ret d
   | _=>.stuck
theorem eN' (t:TGD) (b:DS->Out):∀(ds:List D) (δ:DS) (x:Exn) (δ':DS),forD t b ds δ≠.err x δ'
 | [],_,_,_,h=>by simp [forD] at h
 | d :: ds,δ,x,δ',h=>by
  rw [forD] at h
  split at h
  ·cases h
  ·split at h <;> first | exact eN' t b ds _ x δ' h | cases h
noncomputable def rangeD (lo:Int):Nat->List D
 | 0=>[]
 | n + 1=>.int lo :: rangeD (lo + 1) n
theorem eO' (lo:Int) (n i:Nat) (h:i < n):(rangeD lo n).drop i=.int (lo + i) :: (rangeD lo n).drop (i + 1):=by
 induction i generalizing lo n with
 | zero =>
  cases n with
  | zero=>omega
  | succ n=>simp [rangeD]
 | succ i ih =>
  cases n with
  | zero=>omega
  | succ n =>
   have q:=ih (lo + 1) n (by omega);simp only [rangeD,List.drop_succ_cons];rw [q];have:lo + 1 + (i:Int)=lo + ((i + 1:Nat):Int):=by omega
   rw [this]
theorem ci' (lo:Int) (n:Nat):(rangeD lo n).length=n:=by
 induction n generalizing lo with
 | zero=>rfl
 | succ n ih=>simp [rangeD,ih]
noncomputable def gD (X:Cx) (t:TGD):TG:=fun v σ H Q=>∃G δ d δ',RepSt X.K G H σ δ/\Rep X.K H d v/\t d δ=some δ'/\∀σ',RepSt X.K G H σ' δ'->Q σ' H
noncomputable def onL (r:Res (List D)) (k:List D->Out):Out:=match r with
 | .ok d=>k d
 | _=>.stuck
theorem lT' {r:Res (List D)} {k:List D->Out} (h:∀ds x δ',k ds≠.err x δ') (x:Exn) (δ':DS):onL r k≠.err x δ':=by
 cases r with
 | ok d=>exact h d x δ'
 | stuck=>intro z; cases z
 | err _=>intro z; cases z
section
variable {X:Cx} {tg iter:Expr} {body:List Stmt} {t:TGD} {fb:DS->Out} {pos:Pos} {G H:Hp} {E:Ends}
theorem PGD.pg (h:PGD X tg t):PG X.nox tg (gD X t):=by
 intro pins s σ H v u Q I r hq;obtain ⟨G,δ,d,δ',R,p,e,q⟩:=hq;exact thn (h _ pins s σ G H δ δ' d v u I.unwish r R p e) fun _ s1 ⟨σ',I',R'⟩=>⟨σ',H,I'.wish _,q σ' R'⟩
theorem ft' {ds:List D} {d:D} {δ:DS} {v:V} {σ:St} {N:St->Hp->Prop} (R:RepSt X.K G H σ δ) (p:Rep X.K H d v) (h:NOut X G H (forD t fb (d :: ds) δ) E)
  (hN:∀δ' σ' H',TK H H'->RepSt X.K G H' σ' δ'->NOut X G H' (forD t fb ds δ') E->N σ' H'):gD X t v σ H fun σ2 H2=>sD X fb { E with nx:=N,ct:=N,bk:=E.nx } σ2 H2:=by
 rw [forD] at h
 cases z:t d δ with
 | none=>rw [z] at h; exact h.elim
 | some δ1 =>
  rw [z] at h;refine ⟨G,δ,d,δ1,R,p,z,fun σ' R'=>⟨G,δ1,R',?_⟩⟩;simp only at h
  cases q:fb δ1 with
  | stuck=>rw [q] at h; exact h
  | err x δ'=>rw [q] at h; exact h
  | nxt δ'=>rw [q] at h; exact fun σ2 H2 t2 r2=>hN δ' σ2 H2 t2 r2 (h.tk t2)
  | cnt δ'=>rw [q] at h; exact fun σ2 H2 t2 r2=>hN δ' σ2 H2 t2 r2 (h.tk t2)
  | brk δ'=>rw [q] at h; exact fun σ2 H2 t2 r2=>h σ2 H2 t2 r2
  | ret d=>rw [q] at h; exact fun v H2 t2 g r2=>h v H2 t2 g r2
noncomputable def rng1:List D->Res (List D)
 | [.int j]=>if -(2 ^ 62)<=j/\j < 2 ^ 62 then .ok (rangeD 0 j.toNat) else .stuck
 | _=>.stuck
end
theorem db' (o:Obj) (f):(o.mapFields f).dict=o.dict:=by
 obtain ⟨c,d,dt,sl⟩:=o; cases dt <;> rfl
noncomputable def FlyT (h0:Heap) (H:Hp) (h:Heap) (e:Addr) (cls:Value×Option Addr) (fl:Value):Prop :=
 NoRec h0 e/\H e=none/\∃oe vs a0 T oT ts,h.get? e=some oe/\(oe.cls=cls.1/\oe.dict=cls.2)/\oe.data=.fields vs/\vs[0]? = some a0/\vs[1]? = some (.ref T)/\NoRec h0 T/\H T=none/\T≠e/\h.get? T=some oT/\oT.data=.fields ts/\ts[3]? = some fl
theorem FlyT.fly {h0:Heap} {H:Hp} {h:Heap} {e:Addr} {cls:Value×Option Addr} (f:FlyT h0 H h e cls .none):Fly h0 H h e cls:=by
 obtain ⟨n,he,oe,vs,a0,T,oT,ts,q1,q2,q3,q4,q5,q6⟩:=f;exact ⟨n,he,oe,vs,a0,q1,q2,q3,q4,.inr ⟨T,oT,ts,q5,q6⟩⟩
noncomputable def InEx (h:Heap) (e b:Addr):Prop:=b=e\/∃oe vs,h.get? e=some oe/\oe.data=.fields vs/\vs[1]? = some (.ref b)
structure KF (e:Addr) (fs:List Addr) (h h':Heap):Prop where
 keep:∀b o,h.get? b=some o->b∉fs->¬InEx h e b->h'.get? b=some o
 slot:∀b o,h.get? b=some o->b∈fs->¬InEx h e b->∃sl,h'.get? b=some { o with slots:=sl }
 there:∀b o,h.get? b=some o->∃o',h'.get? b=some o'
theorem Fly.ex {h0 h:Heap} {H:Hp} {e b:Addr} {cls:Value×Option Addr} (f:Fly h0 H h e cls) (x:InEx h e b):NoRec h0 b/\H b=none/\∃o vs,h.get? b=some o/\o.data=.fields vs:=by
 obtain ⟨n,he,oe,vs,a0,q1,q2,q3,q4,q5⟩:=f;rcases x with rfl | ⟨oe',vs',w1,w2,w3⟩
 ·exact ⟨n,he,oe,vs,q1,q3⟩
 ·rw [q1] at w1; cases w1;rw [q3] at w2; cases w2;rcases q5 with q5 | ⟨T,oT,ts,z1,z2,z3,z4,z5,z6,z7⟩
  ·rw [q5] at w3; cases w3
  ·rw [z1] at w3; cases w3;exact ⟨z2,z3,oT,ts,z5,z6⟩
theorem FlyT.ex {h0 h:Heap} {H:Hp} {e b:Addr} {cls:Value×Option Addr} {fl:Value} (f:FlyT h0 H h e cls fl) (x:InEx h e b):NoRec h0 b/\H b=none/\∃o vs,h.get? b=some o/\o.data=.fields vs:=by
 obtain ⟨n,he,oe,vs,a0,T,oT,ts,q1,q2,q3,q4,z1,z2,z3,z4,z5,z6,z7⟩:=f;rcases x with rfl | ⟨oe',vs',w1,w2,w3⟩
 ·exact ⟨n,he,oe,vs,q1,q3⟩
 ·rw [q1] at w1; cases w1;rw [q3] at w2; cases w2;rw [z1] at w3; cases w3;exact ⟨z2,z3,oT,ts,z5,z6⟩
section
variable {M:Model} {A:Around} {E:Value->Shared->Prop} {s:Shared} {base h0:Heap} {H:Hp} {env:Env} {outer:List Env} {L e:Addr} {Q:Unit->Shared->Prop}
theorem dX' {oe:Obj} {vs:Array Value} {head a0:Value} {hadNext:Bool}
  (hfr:A.frames=some (env :: outer)) (hl:s.heap.FunFrames base (env :: outer)) (hf:env.frame=some L) (hz:h0.objs.size<=s.heap.objs.size) (hn:∀b,s.heap.objs.size<=b->H b=none)
  (nr:NoRec h0 e) (hH:H e=none) (he:s.heap.get? e=some oe) (hd:oe.data=.fields vs) (hsz:1 < vs.size) (h0':vs[0]? = some a0)
  (h:∀h',(∀b o,b≠e->s.heap.get? b=some o->b∉(env :: outer).filterMap (·.frame)->h'.get? b=some o)->(∀b o,b≠e->s.heap.get? b=some o->∃sl,h'.get? b=some { o with slots:=sl })->FlyT h0 H h' e (oe.cls,oe.dict) (rawInt L)->(∀b,InEx h' e b->b=e\/s.heap.objs.size<=b)->Q () { s with heap:=h' }) :
  wpAny M A (do let a <- frameOf env; let pl <- entryPlaceOf L hadNext; let b <- EntryCells.newEntry head a .none (rawInt L) .none pl; setField (.ref e) 1 b) Q E s:=by
 have hene:e∉(env :: outer).filterMap (·.frame):=fun hm=>by
  obtain ⟨_,o,ho,hnf⟩:=hl.mem hm;rw [he] at ho; injection ho with ho; subst ho; exact hnf vs hd
 refine wpAny_bind (wpAny_frameOf_fun hfr hl hf fun h₁ hs₁=>?_);refine wpAny_bind (wpAny_entryPlaceOf fun pl hpl=>?_);unfold EntryCells.newEntry newFields;refine wpAny_bind (wpAny_newObj_type ?_ (hpl.sizeOk5 _ _ _ _ _));have he₁:h₁.get? e=some oe:=(hs₁.2.1 e hene).trans he;generalize hob:({ cls:=.type "traceback",dict:=none,data:=.fields ([head,.ref L,.none,rawInt L,.none] ++ (if pl.isEmpty then List.replicate 6 Value.none else pl)).toArray }:Obj)=ob
 have hobd:ob.data=.fields ([head,.ref L,.none,rawInt L,.none] ++ (if pl.isEmpty then List.replicate 6 Value.none else pl)).toArray:=by rw [<- hob]
 have hobf:ob.isFreed=false:=Obj.isFreed_of_fields hobd;have he₂:=Heap.get?_push_of_some (h:=h₁) ob he₁;refine wpAny_setField he₂ hd hsz ?_;have hTe:h₁.objs.size≠e:=Nat.ne_of_gt (Heap.lt_size he₁);have hd₃:=Obj.data_mapFields hd (·.setIfInBounds 1 (Value.ref h₁.objs.size));have he₃:=Heap.get?_update_self (Obj.mapFields (·.setIfInBounds 1 (Value.ref h₁.objs.size))) he₂ (Obj.isFreed_of_fields hd₃);have hT₃:=(Heap.get?_update_other (h₁.push ob) (Obj.mapFields (·.setIfInBounds 1 (Value.ref h₁.objs.size))) (Ne.symm hTe)).trans (Heap.get?_push_size h₁ hobf);have keep:∀b o,b≠e->h₁.get? b=some o->((h₁.push ob).update e (Obj.mapFields (·.setIfInBounds 1 (Value.ref h₁.objs.size)))).get? b=some o:=fun b o hbe hb=>by
  rw [Heap.get?_update_other _ _ (Ne.symm hbe)];exact Heap.get?_push_of_some _ hb
 refine h _ (fun b o hbe hb hbf=>keep b o hbe ((hs₁.2.1 b hbf).trans hb)) (fun b o hbe hb=>?_) ⟨nr,hH,_,_,a0,h₁.objs.size,_,_,he₃,⟨Obj.cls_mapFields _ _,db' _ _⟩,hd₃,?_,?_,?_,?_,hTe,hT₃,hobd,?_⟩ fun b hx=>?_
 ·obtain ⟨sl,hs⟩:=hs₁.2.2 b o hb;exact ⟨sl,keep b _ hbe hs⟩
 ·rw [Array.getElem?_setIfInBounds_ne (by decide)]; exact h0'
 ·simp [hsz]
 ·intro o vs' ho;have:=Heap.lt_size ho;rw [hs₁.1] at this;exact absurd this (Nat.not_lt.mpr hz)
 ·exact hn _ (by rw [hs₁.1]; exact Nat.le_refl _)
 ·simp
 ·rcases hx with z | ⟨oe',vs',w1,w2,w3⟩
  ·exact .inl z
  ·rw [he₃] at w1; cases w1;rw [hd₃] at w2; cases w2;have w4:(vs.setIfInBounds 1 (Value.ref h₁.objs.size))[1]? = some (.ref h₁.objs.size):=by simp [hsz]
   rw [w4] at w3; cases w3;exact .inr (by rw [hs₁.1]; exact Nat.le_refl _)
theorem iK' {cls:Value×Option Addr} {fl:Value} (f:FlyT h0 H s.heap e cls fl) (h:∀h',(∀b o,s.heap.get? b=some o->¬InEx s.heap e b->h'.get? b=some o)->(∀b o,s.heap.get? b=some o->∃o',h'.get? b=some o')->FlyT h0 H h' e cls .none->(∀b,InEx h' e b->InEx s.heap e b)->Q () { s with heap:=h' }):wpAny M A (setFlight (.ref e) none) Q E s:=by
 obtain ⟨nr,hH,oe,vs,a0,T,oT,ts,he,hc,hd,h0',h1,nT,hT,hTe,gT,dT,h3⟩:=f;have hsz:=(Array.getElem?_eq_some_iff.mp h3).1;refine wpAny_setFlight_none he hd h1 gT dT hsz ?_;have other:∀b,b≠T->(s.heap.update T (Obj.mapFields (·.setIfInBounds 3 Value.none))).get? b=s.heap.get? b:=fun b hb=>Heap.get?_update_other _ _ (Ne.symm hb);have hd₃:=Obj.data_mapFields dT (·.setIfInBounds 3 Value.none);have hT₃:=Heap.get?_update_self (Obj.mapFields (·.setIfInBounds 3 Value.none)) gT (Obj.isFreed_of_fields hd₃);refine h _ (fun b o hb hk=>(other b ?_).trans hb) (fun b o hb=>?_) ⟨nr,hH,oe,vs,a0,T,_,_,(other e (Ne.symm hTe)).trans he,hc,hd,h0',h1,nT,hT,hTe,hT₃,hd₃,by simp [hsz]⟩ fun b hx=>?_
 ·rintro rfl
  exact hk (.inr ⟨oe,vs,he,hd,h1⟩)
 ·by_cases hbT:b=T
  ·subst hbT; exact ⟨_,hT₃⟩
  ·exact ⟨o,(other b hbT).trans hb⟩
 ·rcases hx with z | ⟨oe',vs',w1,w2,w3⟩
  ·exact .inl z
  ·exact .inr ⟨oe',vs',(other e (Ne.symm hTe)).symm.trans w1,w2,w3⟩
theorem gW' {cls:Value×Option Addr} (hfr:A.frames=some (env :: outer)) (hl:s.heap.FunFrames base (env :: outer)) (hf:env.frame=some L) (hz:h0.objs.size<=s.heap.objs.size) (hn:∀b,s.heap.objs.size<=b->H b=none)
  (fl:Fly h0 H s.heap e cls) (h:∀h',KF e ((env :: outer).filterMap (·.frame)) s.heap h'->FlyT h0 H h' e cls .none->(∀b,InEx h' e b->b=e\/s.heap.objs.size<=b)->Q () { s with heap:=h' }):wpAny M A (noteFrame (.ref e) env) (fun _ s'=>wpAny M A (setFlight (.ref e) none) Q E s') E s:=by
 have hex:=fun {b}=>fl.ex (b:=b);obtain ⟨nr,hH,oe,vs,a0,he,⟨hc,hdd⟩,hd,h0',q⟩:=fl;obtain ⟨c1,c2⟩:=cls;dsimp only at hc hdd;subst hc hdd;unfold noteFrame;simp only [hf];have fin:∀(hm:Heap),(∀b o,s.heap.get? b=some o->¬InEx s.heap e b->hm.get? b=some o)->(∀b o,b≠e->s.heap.get? b=some o->∃o',hm.get? b=some o') ->
   ∀h1,(∀b o,b≠e->hm.get? b=some o->b∉(env :: outer).filterMap (·.frame)->h1.get? b=some o)->(∀b o,b≠e->hm.get? b=some o->∃sl,h1.get? b=some { o with slots:=sl })->FlyT h0 H h1 e (oe.cls,oe.dict) (rawInt L)->(∀b,InEx h1 e b->b=e\/s.heap.objs.size<=b) ->
   wpAny M A (setFlight (.ref e) none) Q E { s with heap:=h1 }:=by
  intro hm k1 k2 h1 k4 k5 f1 k6;have nx:∀b o,s.heap.get? b=some o->b≠e->¬InEx h1 e b:=fun b o hb hbe hx=>by
   rcases k6 b hx with z | z
   ·exact hbe z
   ·exact absurd (Heap.lt_size hb) (Nat.not_lt.mpr z)
  refine iK' (s:={ s with heap:=h1 }) f1 fun h2 k7 k8 f2 k9=>h h2 ⟨fun b o hb hbf hx=>?_,fun b o hb hbf hx=>?_,fun b o hb=>?_⟩ f2 fun b hx=>k6 b (k9 b hx)
  ·have hbe:b≠e:=fun z=>hx (.inl z);exact k7 b o (k4 b o hbe (k1 b o hb hx) hbf) (nx b o hb hbe)
  ·have hbe:b≠e:=fun z=>hx (.inl z);obtain ⟨sl,q1⟩:=k5 b o hbe (k1 b o hb hx);exact ⟨sl,k7 b _ q1 (nx b o hb hbe)⟩
  ·by_cases hbe:b=e
   ·subst hbe;obtain ⟨_,_,oe',_,_,_,_,_,q1,_⟩:=f1;exact k8 b oe' q1
   ·obtain ⟨o',q1⟩:=k2 b o hbe hb;obtain ⟨sl,q2⟩:=k5 b o' hbe q1;exact k8 b _ q2
 rcases q with h1 | ⟨T,oT,ts,h1,nT,hT,hTe,gT,dT,h3⟩
 ·refine wpAny_bind (wpAny_field he hd h1 ?_);rw [if_neg (by decide)];exact dX' hfr hl hf hz hn nr hH he hd (Array.getElem?_eq_some_iff.mp h1).1 h0' fun h1 k4 k5 f1 k6=>fin s.heap (fun b o hb _=>hb) (fun b o _ hb=>⟨o,hb⟩) h1 k4 k5 f1 k6
 ·refine wpAny_bind (wpAny_field he hd h1 ?_);rw [if_pos (show (Value.ref T != Value.none)=true from by simp)]
  refine wpAny_bind (wpAny_field gT dT h3 ?_);rw [if_neg (show ¬((Value.none == rawInt L)=true) from by simp [rawInt])]
  refine wpAny_bind (wpAny_setField gT dT (Array.getElem?_eq_some_iff.mp h3).1 ?_);have other:∀b,b≠T->(s.heap.update T (Obj.mapFields (·.setIfInBounds 3 Value.none))).get? b=s.heap.get? b:=fun b hb=>Heap.get?_update_other _ _ (Ne.symm hb);have noRecord:∀b o,s.heap.get? b=some o->(∀vs,o.data≠.fields vs)->b≠T:=fun b o hb hnf q=>by
   rw [q,gT] at hb; injection hb with hb; subst hb; exact hnf ts dT
  have hsize:(s.heap.update T (Obj.mapFields (·.setIfInBounds 3 Value.none))).objs.size=s.heap.objs.size:=by simp [Heap.update]
  have hl':(s.heap.update T (Obj.mapFields (·.setIfInBounds 3 Value.none))).FunFrames base (env :: outer):=hl.of_keeps fun b o hb hnf=>⟨o,(other b (noRecord b o hb hnf)).trans hb,rfl⟩;refine dX' (s:={ s with heap:=s.heap.update T (Obj.mapFields (·.setIfInBounds 3 Value.none)) }) hfr hl' hf (by rw [hsize]; exact hz) (fun b hb=>hn b (by rw [hsize] at hb; exact hb)) nr hH ((other e (Ne.symm hTe)).trans he) hd (Array.getElem?_eq_some_iff.mp h1).1 h0' fun h1' k4 k5 f1 k6=>fin _ (fun b o hb hx=>(other b fun z=>?_).trans hb) (fun b o hbe hb=>?_) h1' k4 k5 f1 (by rw [hsize] at k6; exact k6)
  ·subst z; exact hx (.inr ⟨oe,vs,he,hd,h1⟩)
  ·by_cases hbT:b=T
   ·subst hbT; exact ⟨_,Heap.get?_update_self _ gT (Obj.isFreed_of_fields (Obj.data_mapFields dT (·.setIfInBounds 3 Value.none)))⟩
   ·exact ⟨o,(other b hbT).trans hb⟩
end
theorem KF.plain {e:Addr} {fs:List Addr} {h h':Heap} (k:KF e fs h h') {b:Addr} {o:Obj} (q:h.get? b=some o) (n:¬InEx h e b):∃sl,h'.get? b=some { o with slots:=sl }:=by
 by_cases hb:b∈fs
 ·exact k.slot b o q hb n
 ·exact ⟨o.slots,k.keep b o q hb n⟩
theorem _root_.L2.Inv.kf {X:Cx} {pins:List (Addr×Obj)} {σ:St} {H:Hp} {s:Shared} {h':Heap} {t':Nat} {a:Addr} (I:Inv X pins σ H s) (k:KF a (frs X.stack) s.heap h')
  (hr:∀b,InEx s.heap a b->(∀o vs,X.s₀.heap.get? b=some o->X.H₀ b=none->b∉X.fs->b∉X.ex->o.data≠.fields vs)/\H b=none/\(∃o vs,s.heap.get? b=some o/\o.data=.fields vs)/\∀p∈X.pn ++ pins,p.1≠b):Inv X pins σ H { s with heap:=h',toks:=t' }:=by
 have old:∀b,b < X.s₀.heap.objs.size->b∉X.fs->b∉frs X.stack:=fun b hb hf hs=>by
  rcases List.mem_cons.mp (I.stkSub b hs) with z | z
  ·subst z; exact absurd hb (Nat.not_lt.mpr I.ok.above)
  ·exact hf z
 have insub:∀b,b∈X.fs->b∈frs X.stack:=fun b hb=>by
  rcases I.ok.stk with z | ⟨z,hf⟩
  ·rw [z]; exact hb
  ·rw [z]; unfold frs; rw [List.filterMap_cons,hf]; exact List.mem_cons_of_mem _ hb
 have norec:∀b o,s.heap.get? b=some o->(∀vs,o.data≠.fields vs)->¬InEx s.heap a b:=fun b o hb hd hx=>by
  obtain ⟨_,_,⟨o',vs,e1,e2⟩,_⟩:=hr b hx;rw [hb] at e1; cases e1;exact hd vs e2
 have cellk:∀{c:Addr} {v:Option Value},s.heap.IsCell c v->h'.IsCell c v:=fun {c v} ⟨o,e,d⟩=>by
  obtain ⟨sl,e1⟩:=k.plain e (norec c o e fun vs z=>by rw [d] at z; cases z);exact ⟨_,e1,d⟩
 refine ⟨I.ok,I.os,I.bare,⟨fun b o e n hb hx=>?_,fun b o e n hb hx=>?_,I.base.free,fun b o e hx=>?_,I.base.tups,I.base.frzs,I.base.tbls⟩,?_,fun x c e=>?_,I.free,I.freeC,fun p hpp=>?_,fun b u q=>?_,I.len⟩
 ·have q:=I.base.keep b o e n hb hx;refine k.keep b o q (old b (Heap.lt_size e) hb) fun z=>?_;obtain ⟨n1,_,⟨o',vs,e1,e2⟩,_⟩:=hr b z;rw [q] at e1; cases e1;exact n1 o vs e n hb hx e2
 ·obtain ⟨sl,q⟩:=I.base.slot b o e n hb hx;obtain ⟨_,o',ho,hd⟩:=I.funs.mem hb;rw [q] at ho; cases ho;obtain ⟨sl2,q2⟩:=k.slot b _ q (insub b hb) (norec b _ q hd);exact ⟨sl2,q2⟩
 ·obtain ⟨o',q⟩:=I.base.there b o e hx;exact k.there b o' q
 ·obtain ⟨m,⟨o,es,ep,ho,hd,r⟩,hl⟩:=I.loc;obtain ⟨sl,e1⟩:=k.plain ho (norec _ o ho fun vs z=>by rw [hd] at z; cases z);refine ⟨m,⟨_,es,ep,e1,hd,r⟩,fun i x v h1 h2 h3=>?_⟩;obtain ⟨u,r1,l⟩:=hl i x v h1 h2 h3;refine ⟨u,r1,?_⟩;rcases l with l | ⟨l1,c,l2,l3⟩
  ·exact .inl l
  ·exact .inr ⟨l1,c,l2,cellk l3⟩
 ·obtain ⟨v,q⟩:=I.cell x c e;exact ⟨v,cellk q⟩
 ·obtain ⟨e,n,ne,nf,d⟩:=I.pin p hpp;refine ⟨k.keep p.1 p.2 e (fun z=>?_) (fun z=>(hr p.1 z).2.2.2 p hpp rfl),n,ne,nf,d⟩;rcases List.mem_cons.mp (I.stkSub _ z) with w | w
  ·exact ne w
  ·exact nf w
 ·refine (I.hok b u q).stay (fun c v hc e=>?_) (fun _ z=>z) fun _ _ z=>z;have hH:H c≠none:=by
   rcases hc with rfl | hc
   ·rw [q]; intro z; cases z
   ·rw [hc]; intro z; cases z
  exact k.keep c v e (fun z=>hH (I.stkFree c z)) fun z=>hH (hr c z).2.1
noncomputable def CX1 (P:Program) (w:World):CXT:=fun outer H s E e s'=>∃a Cv H',e=.ref a/\s'.os=s.os/\AllBare s'.gens/\Un (frs outer) [] H H' s.heap s'.heap/\HOk P w H' s'.heap/\∃dd,Fly s.heap H' s'.heap a (Cv,dd)/\E Cv dd H'
noncomputable def spD (K:PySem.W.Frag) (F:List D->Res D):Sp:=fun vs H Q E=>∃ds,Reps K H ds vs/\match F ds with
 | .stuck=>False
 | .ok d=>∀v H',Same H H'->Rep K H' d v->Q v H'
 | .err x=>∀C H' dd,PySem.W.nsIn K mainGlobals x.cls=some (some (.ref C))->Same H H'->Pay K H' x dd->E (.ref C) dd H'
section
variable {X:Cx} {k:Nat} {f:Addr} {fd:FuncData} {ps:List Str} {F:List D->Res D} {x:Str} {p pos:Pos} {e:Expr} {es:List Expr} {fs:DS->Res (List D)}
theorem kv' (Fn:FnOk X.prog X.w X.K X.mg X.base (CX1 X.prog X.w) k f fd ps (spD X.K F)) (hr:Room k X.A) (hg:Gl X x) (hm:X.mg x=some (.ref f)) (hk:PySem.W.keepIn X.K (.ref f)=true) (hb:Binds X.K fd ps []) (ha:PAD X (e :: es) fs)
  (hdb:(x == ("__debug__" : Str))=false:=by decide) (he:starEach (e :: es) X.env=(false,eval e X.env) :: starEach es X.env:=by rfl) (hpl:(backTo pos (starEach es X.env)).any (·.1)=false:=by rfl) :
  PD X (.Call (.Name x p) (e :: es) [] pos) (fun δ=>(fs δ).bind F):=by
 intro pins s σ G H δ I R hs
 try dsimp only at hs ⊢
 refine wpAny_Call_Name_kw (gB' I hg hm ?_ hdb);refine PySem.W.callWith_K (h₀:=X.base) I.ok.mod.kin hk (ha.use I R (at' hs) (fun ds us s1 vs H1 q I1 r1 e1 b1 p1=>⟨I1.kIn,?_⟩) fun e s1 q=>q.same fun x z=>aw' z) he hpl;have h2:=av' hs q;have ev:(fs δ).bind F=F ds:=by rw [q]; rfl
 cases qg:F ds with
 | stuck=>exact (h2 qg).elim
 | ok d =>
  have hsp:spD X.K F vs H1 (fun v H'=>Same H1 H'/\Rep X.K H' d v) (fun _ _ _=>False):=⟨ds,p1,by rw [qg]; exact fun v H' a b=>⟨a,b⟩⟩;have hl:us.length=ps.length:=by rw [<- r1.length]; exact Fn.len _ _ _ _ hsp
  refine wpAny_call (codeAny_mono (Fn.run X.A X.stack s1 H1 ⟨us,[]⟩ us vs _ _ hr I1.env0 (by simpa using hb s1 us I1.kIn (by simpa using hl)) r1 hsp) fun r s' hq=>?_)
  cases r with
  | error e=>obtain ⟨_,_,_,_,_,_,_,_,_,_,z⟩:=hq; exact z.elim
  | ok fl =>
   cases fl with
   | ret u =>
    obtain ⟨v,H',I',r',e',p'⟩:=I1.after hq;exact ⟨d,v,H',ev.trans qg,I',r',e1.trans e',p'⟩
   | next=>exact False.elim hq
   | brk=>exact False.elim hq
   | cont=>exact False.elim hq
 | err z =>
  have hsp:spD X.K F vs H1 (fun v H'=>False) (fun Cv dd H'=>∃C,Cv=.ref C/\PySem.W.nsIn X.K mainGlobals z.cls=some (some (.ref C))/\Same H1 H'/\Pay X.K H' z dd):=⟨ds,p1,by rw [qg]; exact fun C H' dd a b c=>⟨C,rfl,a,b,c⟩⟩;have hl:us.length=ps.length:=by rw [<- r1.length]; exact Fn.len _ _ _ _ hsp
  refine wpAny_call (codeAny_mono (Fn.run X.A X.stack s1 H1 ⟨us,[]⟩ us vs _ _ hr I1.env0 (by simpa using hb s1 us I1.kIn (by simpa using hl)) r1 hsp) fun r s' hq=>?_)
  cases r with
  | error e =>
   obtain ⟨a,Cv,H',rfl,os,bare,un,hok,dd,fly,C,rfl,hC,sm,pay⟩:=hq;exact ⟨z,a,C,H',ev.trans qg,rfl,I1.call' (ch:=[]) os un hok bare (fun b z=>absurd z (by simp)),e1.trans sm,hC,dd,pay,fly.back e1.tk sm.tk b1⟩
  | ok fl =>
   cases fl with
   | ret u =>
    obtain ⟨v,H',_,_,_,_,_,z⟩:=hq;exact z.elim
   | next=>exact False.elim hq
   | brk=>exact False.elim hq
   | cont=>exact False.elim hq
end
noncomputable def startD (n N:Nat) (ds:List D):DS:=ds.map (fun d=>some (.arg d)) ++ List.replicate (N - n) none
noncomputable def outD:Out->Res D
 | .ret d=>.ok d
 | .nxt _=>.ok .non
 | .err x _=>.err x
 | _=>.stuck
noncomputable def fnD (n N:Nat) (body:DS->Out):List D->Res D:=fun ds=>if ds.length=n then outD (body (startD n N ds)) else .stuck
theorem gX' {K:PySem.W.Frag} {H:Hp} {ds:List D} {vs:List V} (N:List Str) (r:Reps K H ds vs):RepSt K H H (start N vs) (startD ds.length N.length ds):=by
 have hl:=r.length;refine ⟨Same.refl H,?_,fun i sv e=>?_,fun i j as es v hij e1 e2=>?_⟩
 ·unfold L2.start startD;simp [hl]
 ·unfold startD at e
  by_cases hi:i < ds.length
  ·rw [List.getElem?_append_left (by simpa using hi),List.getElem?_map] at e
   cases q:ds[i]? with
   | none=>rw [q] at e; cases e
   | some d =>
    rw [q] at e;simp only [Option.map_some,Option.some.injEq] at e;subst e;obtain ⟨v,e1,e2⟩:=r.get q;refine ⟨v,?_,e2⟩;unfold L2.start;rw [List.getElem?_append_left (by simpa [hl] using hi),List.getElem?_map,e1];rfl
  ·rw [List.getElem?_append_right (by simpa using hi),List.getElem?_replicate] at e
   split at e <;> cases e
 ·exfalso;unfold startD at e1
  by_cases hi:i < ds.length
  ·rw [List.getElem?_append_left (by simpa using hi),List.getElem?_map] at e1
   cases q:ds[i]? with
   | none=>rw [q] at e1; cases e1
   | some d=>rw [q] at e1; cases e1
  ·rw [List.getElem?_append_right (by simpa using hi),List.getElem?_replicate] at e1
   split at e1 <;> cases e1
section
variable {P:Program} {w:World} {K:PySem.W.Frag} {mg:Str->Option Value} {base:Heap}
theorem gY' {N:List Str} {qual:Str} {scope:Scope} {f:Addr} {cdv:Value} {A:Around} {outer:List Env} {s:Shared} {H:Hp} {E:XK} {pins:List (Addr×Obj)} {σ':St} {H':Hp} {s':Shared} {a:Addr} {Cv:Value}
  (I:Inv (cxOf (CX1 P w) P w K mg base N qual scope f cdv A outer s H E) pins σ' H' s') {dd:Option Addr} (fl:Fly s.heap H' s'.heap a (Cv,dd)) (hE:E Cv dd H') :
  (cxOf (CX1 P w) P w K mg base N qual scope f cdv A outer s H E).xe (.ref a) s':=by
 show wpAny (model P w) (A.deeper (envOfC qual scope s.heap.objs.size f cdv)) (leaving (envOfC qual scope s.heap.objs.size f cdv) (.ref a)) (fun _ s''=>CX1 P w outer H s E (.ref a) s'') _ s';have hz:s.heap.objs.size<=s'.heap.objs.size:=I.sz;have hn:∀b,s'.heap.objs.size<=b->H' b=none:=fun b hb=>I.hok.fresh hb;unfold leaving;refine wpAny_bind (gW' (base:=base) I.ok.frames I.stack rfl hz hn fl fun h2 k2 f2 _=>?_);have I0:Inv (cxOf (CX1 P w) P w K mg base N qual scope f cdv A outer s H E) [] σ' H' s':=I.pins_of fun p hp=>absurd hp (by simp);have J:=I0.kf (h':=h2) (t':=s'.toks) k2 fun b hx=>by
  obtain ⟨n1,n2,n3⟩:=fl.ex hx;exact ⟨fun o vs e _ _ _=>n1 o vs e,n2,n3,fun p hp=>absurd (show p∈([]:List (Addr×Obj)) ++ [] from hp) (by simp)⟩
 exact ⟨a,Cv,H',rfl,I.os,I.bare,J.base,J.hok,dd,f2.fly,hE⟩
noncomputable def tB (X:Cx) (f:DS->Out):TS:=fun D σ H=>∃G δ,RepSt X.K G H σ δ/\f δ≠.stuck/\(∀pins fl s1,SPost X pins G H (f δ) fl s1->SP X pins D fl s1)/\∀pins s2 e s1,Inv X pins σ H s2->SX X pins G H s2.heap (f δ) e s1->X.xe e s1
theorem PSDs.tb {X:Cx} {st:List Stmt} {f:DS->Out} (h:PSDs X st f):PSs X st (tB X f):=by
 intro pins s σ H D I ⟨G,δ,R,n,k1,k2⟩;exact wpAny_mono (h pins s σ G H δ I R n) (fun fl s1 p=>k1 pins fl s1 p) fun e s1 p=>k2 pins s e s1 I p
theorem lU' {x qual:Str} {st:Stmt} {f:Addr} {fd:FuncData} {N ps:List Str} {k:Nat} {body:DS->Out} (F:Fun K x qual st f fd) (S:FnScope N ps (defScope st))
  (hb:∀(cdv:Value) (A:Around) (outer:List Env) (s:Shared) (H:Hp) (E:XK),Room k (A.deeper (envOfC qual (defScope st) s.heap.objs.size f cdv))->PSDs (cxOf (CX1 P w) P w K mg base N qual (defScope st) f cdv A outer s H E) (defBody st) body) :
  FnOk P w K mg base (CX1 P w) (k + 1) f fd ps (spD K (fnD ps.length N.length body)):=by
 obtain ⟨oc,od,kV,doc,pm,an,cdv,ct,osl,rfl,lk,hcd⟩:=F.ex;refine lK' lk hcd S (fun vs H Q E ⟨ds,r,h⟩=>?_) fun A outer s H vs Q E hr hsp=>?_
 ·rw [r.length];unfold fnD at h
  by_cases c:ds.length=ps.length
  ·exact c
  ·rw [if_neg c] at h; exact h.elim
 ·obtain ⟨ds,r,h⟩:=hsp;have c:ds.length=ps.length:=by
   unfold fnD at h
   by_cases c:ds.length=ps.length
   ·exact c
   ·rw [if_neg c] at h; exact h.elim
  have ev:fnD ps.length N.length body ds=outD (body (startD ds.length N.length ds)):=by unfold fnD; rw [if_pos c,c]
  rw [ev] at h;refine ⟨_,(hb cdv A outer s H E hr).tb,H,startD ds.length N.length ds,gX' N r,fun z=>?_,fun pins fl s1 p=>?_,fun pins s2 e s1 I p=>?_⟩
  ·rw [z] at h; exact h
  ·cases fl with
   | next =>
    obtain ⟨δ',σ',H',q1,q2,q3,q4⟩:=p;rw [q1] at h;exact ⟨σ',H',q2,h .non H' q4.same mkN⟩
   | brk=>obtain ⟨δ',σ',H',q1,_⟩:=p; rw [q1] at h; exact h.elim
   | cont=>obtain ⟨δ',σ',H',q1,_⟩:=p; rw [q1] at h; exact h.elim
   | ret u =>
    obtain ⟨d,v,σ',H',q1,q2,q3,q4,q5,q6⟩:=p;rw [q1] at h;exact ⟨v,σ',H',q2,q5,h v H' q4 q6⟩
  ·obtain ⟨x,δ',a,C,σ',H',q1,rfl,q3,q4,q5,q6,dd,pay,q7⟩:=p;rw [q1] at h;refine gY' q3 ?_ (h C H' dd q6 q5.same pay);refine q7.back (h0:=s.heap) (H0:=H) (H1:=H) (TK.refl H) q4 fun e n z o vs ho hd=>?_
   by_cases hf:e∈frs outer
   ·obtain ⟨_,o',ho',hd'⟩:=I.ok.funs.mem hf;have ho2:s.heap.get? e=some o':=ho';rw [ho] at ho2
    cases ho2
    exact hd' vs hd
   ·exact z o vs (I.base.keep e o ho n hf (by intro z; exact absurd z (by show e∉([]:List Addr); simp))) hd
end
theorem kw' {K:PySem.W.Frag} {h₀:Heap} {mg:Str->Option Value} {x:Str} {C:Addr} {bmB:List Value} {newId:String} (X:K.In h₀) (hm:mg x=some (.ref C)) (q:PySem.W.excIn K C bmB newId=true):OwnCls x C bmB newId mg h₀:=by
 refine ⟨hm,?_⟩;unfold PySem.W.excIn at q
 split at q
 ·rename_i dd cd sl ho
  split at q
  ·rename_i C' bm k0 k1 k2 k3 n k5 hm hs;simp only [Bool.and_eq_true,beq_iff_eq,Bool.not_eq_true'] at q;obtain ⟨⟨⟨⟨⟨rfl,rfl⟩,hdel⟩,ht⟩,hok⟩,hni⟩:=q;obtain ⟨nm,bs,mro,ns,qn,hd,sn,sub,ab,col,del⟩:=cd;dsimp only at hm hdel hok hni;subst hm hdel;have hsl:sl = #[k0,k1,k2,k3,some (.builtin n),k5]:=by
    obtain ⟨l⟩:=sl;simp only at hs;rw [hs]
   subst hsl;exact ⟨bm,ns,nm,qn,bs,hd,sn,sub,ab,col,dd,k0,k1,k2,k3,k5,_,X _ _ ho,.of_isNs (PySem.W.isNs_of_in X hok),PySem.W.nsMap_none_of_in X hok hni,PySem.W.tail_of_in X ht⟩
  ·cases q
 ·cases q
noncomputable def raiseD (x:Str) (fs:DS->Res (List D)):DS->Out:=fun δ=>match fs δ with
 | .ok _=>.err ⟨x,none⟩ δ
 | .err y=>.err y δ
 | .stuck=>.stuck
section
variable {X:Cx} {e:Expr} {es:List Expr} {fs:DS->Res (List D)} {np cpos pos:Pos} {x:Str} {C:Addr} {B newId initId:String} {bmB:List Value}
theorem gZ' (hc:X.calm=true) (FB:ExcBaseFacts B newId initId bmB) (hx:PySem.W.nsIn X.K mainGlobals x=some (some (.ref C))) (q:PySem.W.excIn X.K C bmB newId=true) (hg:Gl X x) (hm:X.mg x=some (.ref C)) (ha:PAD X (e :: es) fs) (hsz:(e :: es).length<=100)
  (hdb:(x == ("__debug__" : Str))=false:=by decide) (he:starEach (e :: es) X.env=(false,eval e X.env) :: starEach es X.env:=by rfl) (hplain:(backTo cpos (starEach es X.env)).any (·.1)=false:=by rfl) (hlen:∀δ ds,fs δ=.ok ds->ds.length<=sizeLine) :
  PSD X (.Raise (some (.Call (.Name x np) (e :: es) [] cpos)) none pos) (raiseD x fs):=by
 intro pins s σ G H δ I R hs
 try dsimp only at hs ⊢
 have hs':fs δ≠.stuck:=fun z=>hs (by unfold raiseD; rw [z]);obtain ⟨tl,N,nm,qn,bs,hdct,sn,sub,ab,col,dd,k0,k1,k2,k3,k5,mN,hC,hN,hni,T⟩:=(kw' I.ok.mod.kin hm q).obj;refine wpAny_Raise_call_subT (C:=C) (nm:=nm) (q:=qn) (N:=N) (bs:=bs) (bm:=tl) (hdct:=hdct) (sn:=sn) (sub:=sub) (ab:=ab) (col:=col) (dd:=dd) (k0:=k0) (k1:=k1) (k2:=k2) (k3:=k3) (k5:=k5)
  FB (mN:=mN) (T.hasType FB.hasBase) (I.ok.hd hc) (by rw [he]; show (false || (backTo cpos (starEach es X.env)).any (·.1))=false; rw [hplain]; rfl) hni (gB' I hg hm ⟨rfl,?_⟩ hdb)
 have ha':=fun {P:List Value->Shared->Prop} {E:Value->Shared->Prop} k kx=>PAD.use (pos:=cpos) (P:=P) (E:=E) ha I R hs' k kx;rw [he] at ha' ⊢;refine Calls.evalArgs_plain (ha' (fun ds us s1 vs H1 q1 I1 r1 e1 b1 p1=>⟨rfl,?_,I1.bk _ _ hC,hN.keeps I1.bk,T.keeps I1.bk,fun h' a hme=>?_⟩) fun e s1 p=>?_)
 ·rw [<- r1.length,p1.length]; exact hlen δ ds q1
 ·obtain ⟨t,ht,ht2,ht3⟩:=hme.there;have hn:H1 a=none:=by
   cases z:H1 a with
   | none=>rfl
   | some u =>
    obtain ⟨ob,q⟩:=obj_some (I1.hok a u z);rw [hme.new] at q; cases q
  refine ⟨⟨x,none⟩,δ,a,C,σ,H1,by unfold raiseD; rw [q1],rfl,I1.kept (t':=s1.toks) hme.keeps,e1.tk,R.mono e1,hx,?_⟩;refine ⟨none,rfl,b1 a (e1.free hn) (fun o vs ho=>by rw [hme.new] at ho; cases ho),hn,_,_,_,ht,⟨rfl,rfl⟩,rfl,rfl,.inl rfl⟩
 ·exact p.sx R fun x z=>by unfold raiseD; rw [z]
end
theorem RepSt.clear {K:PySem.W.Frag} {G H:Hp} {σ:St} {δ:DS} (R:RepSt K G H σ δ) (i:Nat):RepSt K G H (σ.set i none) (δ.set i none) where
 same:=R.same
 len:=by simpa using R.len
 at_:=fun j sv e=>by
  by_cases hj:i=j
  ·subst hj;rw [List.getElem?_set] at e
   split at e
   ·split at e <;> cases e
   ·rename_i z; exact absurd rfl z
  ·rw [List.getElem?_set_ne hj] at e;obtain ⟨u,e1,e2⟩:=R.at_ j sv e;exact ⟨u,by rw [List.getElem?_set_ne hj]; exact e1,e2⟩
 sep:=fun j k ds es u hjk e1 e2 e3=>by
  have n1:i≠j:=by
   rintro rfl
   rw [List.getElem?_set] at e1
   split at e1
   ·split at e1 <;> cases e1
   ·omega
  have n2:i≠k:=by
   rintro rfl
   rw [List.getElem?_set] at e2
   split at e2
   ·split at e2 <;> cases e2
   ·omega
  rw [List.getElem?_set_ne n1] at e1 e3;rw [List.getElem?_set_ne n2] at e2;rw [List.getElem?_set_ne n2];exact R.sep j k ds es u hjk e1 e2 e3
abbrev _root_.L2.Cx.marked (X:Cx) (a:Addr):Cx:={ X with A:=X.A.mark (some (.ref a)),calm:=false }
theorem _root_.L2.Inv.marked {X:Cx} {pins:List (Addr×Obj)} {σ:St} {H:Hp} {s:Shared} (I:Inv X pins σ H s) (a:Addr):Inv (X.marked a) pins σ H s :=
 ⟨⟨I.ok.mod,I.ok.kind,I.ok.glob,I.ok.blt,I.ok.above,I.ok.inj,I.ok.has,I.ok.cab,fun z=>(by cases z),I.ok.frames,I.ok.stk,I.ok.exf,I.ok.bs,I.ok.bsz,I.ok.noex,I.ok.exfs,I.ok.funs,I.ok.frf⟩,I.os,I.bare,I.base,I.loc,I.cell,I.free,I.freeC,I.pin,I.hok,I.len⟩
theorem _root_.L2.Inv.track {X:Cx} {pins:List (Addr×Obj)} {σ:St} {H:Hp} {s:Shared} {a:Addr} {o:HO} (I:Inv X pins σ H s) (hn:H a=none) (h0:∀ob,X.s₀.heap.get? a=some ob->X.H₀ a=none->a∈X.ex) (hl:a≠X.env.locals) (hc:∀x c,X.env.cells.lookup x=some c->c≠a) (hp:∀p∈X.pn ++ pins,p.1≠a)
  (new:ObjOk X.prog X.w (upd H a o) s.heap a o):Inv X pins σ (upd H a o) s:=by
 refine ⟨I.ok,I.os,I.bare,⟨I.base.keep,I.base.slot,fun b ob e n hx=>?_,I.base.there,fun b xs e=>?_,fun b ob u e=>?_,fun b ps e=>?_⟩,I.loc,I.cell,?_,fun x c e=>?_,fun p hpp=>?_,fun b u q=>?_,I.len⟩
 ·rw [am' (fun z=>?_)]
  ·exact I.base.free b ob e n hx
  ·subst z;exact hx (h0 ob e n)
 ·rw [am' (aO' (I.base.tups b xs e) hn)]; exact I.base.tups b xs e
 ·rw [am' (aO' (I.base.frzs b ob u e) hn)]; exact I.base.frzs b ob u e
 ·obtain ⟨more,q⟩:=I.base.tbls b ps e;exact ⟨more,by rw [am' (aO' q hn)]; exact q⟩
 ·rw [am' (Ne.symm hl)]; exact I.free
 ·rw [am' (hc x c e)]; exact I.freeC x c e
 ·obtain ⟨e,n,ne,nf,d⟩:=I.pin p hpp;exact ⟨e,by rw [am' (hp p hpp)]; exact n,ne,nf,d⟩
 ·by_cases hb:b=a
  ·subst hb; rw [aq'] at q; cases q; exact new
  ·rw [am' hb] at q;refine (I.hok b u q).stay (fun c v _ e=>e) (fun c z=>?_) fun c xs z=>?_
   ·rw [am' (aO' z hn)]; exact z
   ·rw [am' (aO' z hn)]; exact z
section
variable {X:Cx} {body suite:List Stmt} {b₀:Stmt} {fb fsu:DS->Out} {sub:Str->Option Bool} {n c:Str} {C':Addr} {cp hpos pos:Pos}
end
noncomputable def compX (X:Cx) (N':List Str) (scope:Scope) (cl:List (Str×Addr)) (C:Addr) (s:Shared) (H:Hp) (fp:List Addr):Cx where
 prog:=X.prog
 w:=X.w
 K:=X.K
 mg:=X.mg
 base:=X.base
 A:=X.A
 N:=N'
 s₀:=s
 H₀:=H
 env:=compEnvC scope cl C X.env
 outer:=X.stack
 stack:=X.stack
 ex:=fp
 fn:=fun _=>false
 calm:=X.calm
 pn:=[]
 xe:=fun _ _=>False
section
variable {X:Cx} {N':List Str} {scope:Scope} {cl:List (Str×Addr)} {C:Addr} {s:Shared} {H:Hp} {fp:List Addr} {pins:List (Addr×Obj)} {σ:St}
theorem iL' (I:Inv X pins σ H s) (hk:scope.kind=.function) (hC:s.heap.objs.size<=C) (hc:∀x c,cl.lookup x=some c->X.env.cells.lookup x=some c)
  (has:∀x,((relabel scope X.env).names.lookup x=some .cell\/(relabel scope X.env).names.lookup x=some .free)->∃c,cl.lookup x=some c) (hf:∀b∈fp,FpOk X pins H b/\b < s.heap.objs.size):(compX X N' scope cl C s H fp).Ok where
 mod:=I.ok.mod
 kind:=hk
 glob:=I.ok.glob
 blt:=I.ok.blt
 above:=hC
 inj:=fun x y c h1 h2=>I.ok.inj x y c (hc x c h1) (hc y c h2)
 has:=has
 cab:=fun x c h=>by cases h
 hd:=I.ok.hd
 frames:=I.ok.frames
 stk:=.inl rfl
 exf:=fun b hb=>⟨Nat.ne_of_lt (Nat.lt_of_lt_of_le (hf b hb).2 hC),fun x c h=>(hf b hb).1.2.2.2.2.1 x c (hc x c h)⟩
 bs:=I.bs
 bsz:=Nat.le_trans I.ok.bsz I.sz
 noex:=fun b o e hb=>by
  obtain ⟨_,h1,h2,h3,_⟩:=(hf b hb).1;rcases h3 with z | z
  ·exact I.ok.noex b o e z
  ·exact absurd (Nat.lt_of_lt_of_le (Heap.lt_size e) (Nat.le_trans I.ok.bsz z)) (Nat.lt_irrefl _)
 exfs:=fun b hb z=>by
  obtain ⟨_,h1,h2,_⟩:=(hf b hb).1;rcases List.mem_cons.mp (I.stkSub b z) with w | w
  ·exact h1 w
  ·exact h2 w
 funs:=I.stack
 frf:=I.stkFree
end
noncomputable def Yields (K:PySem.W.Frag) (J:It) (H:Hp) (ds:List D):Prop :=
 ∀H',Same H H'->(∀i d,ds[i]? = some d->J.go i H'/\∀x H'',J.yld i H' x H''->Same H' H''/\Rep K H'' d x)/\J.stop ds.length H'
noncomputable def IPost (X:Cx) (pins:List (Addr×Obj)) (σ:St) (H:Hp) (tg:Expr) (r:Res (List D)) (itv:Value) (s2:Shared):Prop :=
 ∃(ds:List D) (it:Addr) (fp:List Addr) (tn:Nat->Heap->Prop) (J:It) (H':Hp),r=.ok ds/\itv=.ref it/\Inv X pins σ H' s2/\Turn X.prog X.w X.K tg J fp it tn/\tn 0 s2.heap/\(∀b∈fp,FpOk X pins H' b)/\Same H H'/\Yields X.K J H' ds
noncomputable def PID (X:Cx) (tg iter:Expr) (f:DS->Res (List D)):Prop :=
 ∀(pins:List (Addr×Obj)) (s:Shared) (σ:St) (G H:Hp) (δ:DS),Inv X pins σ H s->RepSt X.K G H σ δ->f δ≠.stuck ->
  wpAny (model X.prog X.w) X.A (eval iter X.env) (fun v s1=>wpAny (model X.prog X.w) X.A (pyIter v) (IPost X pins σ H tg (f δ)) (XPost X pins σ H s.heap (f δ)) s1) (XPost X pins σ H s.heap (f δ)) s
noncomputable def signsD (x:Str):List D:=x.cps.toList.map fun c=>.str ⟨#[c]⟩
noncomputable def Its (x:Str):It :=
 ⟨fun i _=>i < x.cps.size,fun i H v H'=>H'=H/\∃c,x.cps[i]? = some c/\v=.str ⟨#[c]⟩,fun i _=>x.cps.size<=i⟩
theorem ge' {P:Program} {w:World} {K:PySem.W.Frag} {tg:Expr} (x:Str) (t:Tok) (it:Addr):Turn P w K tg (Its x) [it] it (fun i h=>h.IsStrIter it "str_ascii_iterator" x t i) where
 mem:=by simp
 obj:=fun i h st b hb=>by
  have e:b=it:=by simpa using hb
  subst e;obtain ⟨o,e,c,d⟩:=st;exact ⟨o,e,fun v z=>by rw [d] at z; cases z⟩
 keep:=fun i h h' st k=>by
  obtain ⟨o,e,c,d⟩:=st;exact ⟨o,k it (by simp) o e,c,d⟩
 item:=by
  intro X hP hw hK hc i pins s σ H E I hf st hg;subst hP hw hK;have hx:x.cps[i]? = some x.cps[i]:=Array.getElem?_eq_getElem hg;obtain ⟨f0,f1,f2,f3,f4,f5⟩:=hf it (by simp);refine wpAny_pyNext_ascii_item st hx fun h' st' sb=>?_;have I1:Inv X pins σ H { s with heap:=h',toks:=s.toks + 1 }:=I.turned (t':=s.toks + 1) (fun b o hb e=>(sb.2 b hb).trans e) f0 f1 f3 f4 f5
  obtain ⟨o,e,c,d⟩:=id st';exact ⟨_,rfl,ix' (s:={ s with heap:=h',toks:=s.toks + 1 }) e c d (by decide) ⟨.str ⟨#[x.cps[i]]⟩,H,I1,⟨_,rfl⟩,⟨rfl,_,hx,rfl⟩,st',fun b hb=>(hf b hb).1⟩⟩
 done:=by
  intro X hP hw hK hc i pins s σ H E I hf st hg;subst hP hw hK;obtain ⟨f0,f1,f2,f3,f4,f5⟩:=hf it (by simp);exact wpAny_pyNext_ascii_end (I.ok.hd hc) st (Array.getElem?_eq_none hg) fun h' eb=>⟨rfl,I.turned (t':=s.toks) (fun b o hb e=>eb b o hb e) f0 f1 f3 f4 f5⟩
 self:=fun _ _ _ _ _ st h=>wpAny_pyIter_striter_ascii st h
theorem gf' {K:PySem.W.Frag} {H:Hp} {x:Str}:Yields K (Its x) H (signsD x):=by
 intro H' e;refine ⟨fun i d hd=>?_,by unfold signsD; simp [Its]⟩;unfold signsD at hd;rw [List.getElem?_map] at hd
 cases z:x.cps.toList[i]? with
 | none=>rw [z] at hd; cases hd
 | some c =>
  rw [z] at hd
  cases hd
  have hl:i < x.cps.size:=by
   have:=List.getElem?_eq_some_iff.mp z;obtain ⟨q,_⟩:=this;simpa using q
  have hc:x.cps[i]? = some c:=by simpa using z
  refine ⟨hl,fun v H'' y=>?_⟩;obtain ⟨rfl,c',h1,rfl⟩:=y;rw [hc] at h1
  cases h1
  exact ⟨Same.refl _,by rw [Rep]⟩
noncomputable def seqItems:D->Res (List D)
 | .tup ds=>.ok ds
 | .lst ds=>.ok ds
 | .str x=>if x.cps.all (· < 128)=true then .ok (signsD x) else .stuck
 | _=>.stuck
theorem eP' {K:PySem.W.Frag} {H:Hp} {a:Addr} {xs:List V} {ds:List D} {X:Cx} {pins:List (Addr×Obj)} {σ:St} {s:Shared} (hq:SqL K H a xs) (r:Reps K H ds xs):Yields K (Itl K a) H ds:=by
 intro H' e;have hq':=e.seq hq;have r':=r.mono e;refine ⟨fun i d hd=>?_,xs,hq',by rw [r.length]; exact Nat.le_refl _⟩;obtain ⟨v,e1,e2⟩:=r'.get hd;refine ⟨⟨xs,v,hq',e1⟩,fun x H'' y=>?_⟩;obtain ⟨rfl,y⟩:=y;have:=y xs hq';rw [e1] at this
 cases this
 exact ⟨Same.refl _,e2⟩
theorem gg' {K:PySem.W.Frag} {H:Hp} {a:Addr} {xs:List V} {ds:List D} (hq:SqT K H a xs) (r:Reps K H ds xs):Yields K (Itt K a) H ds:=by
 intro H' e;have hq':=cf' e hq;have r':=r.mono e;refine ⟨fun i d hd=>?_,xs,hq',by rw [r.length]; exact Nat.le_refl _⟩;obtain ⟨v,e1,e2⟩:=r'.get hd;refine ⟨⟨xs,v,hq',e1⟩,fun x H'' y=>?_⟩;obtain ⟨rfl,y⟩:=y;have:=y xs hq';rw [e1] at this
 cases this
 exact ⟨Same.refl _,e2⟩
theorem aT' {X:Cx} {tg iter:Expr} {f:DS->Res D} (h:PD X iter f):PID X tg iter (fun δ=>(f δ).bind seqItems):=by
 intro pins s σ G H δ I R hs
 try dsimp only at hs ⊢
 refine h.use I R (at' hs) (fun d u s1 v H1 q I1 r1 e1 b1 p1=>?_) fun e s1 q=>q.same fun x z=>aw' z;have h2:=av' hs q
 cases d with
 | lst ds =>
  obtain ⟨a,xs,rfl,hq,r⟩:=repL p1
  cases r1
  obtain ⟨its,rv,p,hz⟩:=I1.list hq;refine wpAny_pyIter_list p.isList ?_;refine ⟨ds,s1.heap.objs.size,[s1.heap.objs.size],_,_,H1,by rw [q]; rfl,rfl,I1.kept (t':=s1.toks) fun b o e=>Heap.get?_push_of_some _ e,gD' a _,⟨_,Heap.get?_push_size _ rfl,rfl,rfl⟩,fun b hb=>?_,e1,eP' (X:=X) (pins:=pins) (σ:=σ) (s:=s1) hq r⟩;have e:b=s1.heap.objs.size:=by simpa using hb
  subst e;exact I1.fpOk (Nat.le_refl _) (I1.hok.fresh (Nat.le_refl _))
 | tup ds =>
  obtain ⟨a,xs,rfl,hq,r⟩:=repT p1
  cases r1
  obtain ⟨its,rv,p,hz⟩:=I1.tuple hq;refine wpAny_pyIter_tuple p ?_;refine ⟨ds,s1.heap.objs.size,[s1.heap.objs.size],_,_,H1,by rw [q]; rfl,rfl,I1.kept (t':=s1.toks) fun b o e=>Heap.get?_push_of_some _ e,fW' a _,⟨_,Heap.get?_push_size _ rfl,rfl,rfl⟩,fun b hb=>?_,e1,gg' hq r⟩;have e:b=s1.heap.objs.size:=by simpa using hb
  subst e;exact I1.fpOk (Nat.le_refl _) (I1.hok.fresh (Nat.le_refl _))
 | str x =>
  rw [repS p1] at r1;obtain ⟨t,rfl⟩:=r1;have ha:x.cps.all (· < 128)=true:=by
   cases z:x.cps.all (· < 128) with
   | true=>rfl
   | false =>
    have h3:(if (x.cps.all fun c=>decide (c < 128))=true then Res.ok (signsD x) else Res.stuck)≠.stuck:=h2
    rw [z] at h3; exact (h3 rfl).elim
  refine wpAny_pyIter_ascii ha ?_;refine ⟨signsD x,s1.heap.objs.size,[s1.heap.objs.size],_,_,H1,by rw [q]; unfold seqItems; rw [Res.bind_ok]; simp only [ha,if_true],rfl,I1.kept (t':=s1.toks) fun b o e=>Heap.get?_push_of_some _ e,ge' x t _,⟨_,Heap.get?_push_size _ rfl,rfl,rfl⟩,fun b hb=>?_,e1,gf'⟩;have e:b=s1.heap.objs.size:=by simpa using hb
  subst e;exact I1.fpOk (Nat.le_refl _) (I1.hok.fresh (Nat.le_refl _))
 | _=>exact (h2 rfl).elim
noncomputable def frz1:Option SV->Option SV
 | some sv=>some (.arg sv.view)
 | none=>none
noncomputable def compS (m:Nat) (fr:List Nat) (δ:DS):DS:=List.replicate m none ++ fr.map fun i=>(δ[i]?).elim none frz1
noncomputable def mapR (g:D->Res D):List D->Res (List D)
 | []=>.ok []
 | d :: ds=>(g d).bind fun x=>(mapR g ds).bind fun xs=>.ok (x :: xs)
noncomputable def eltD (t:TGD) (fe:DS->Res D) (δ':DS) (d:D):Res D:=match t d δ' with
 | some δ1=>(match fe δ1 with | .ok x=>.ok x | _=>.stuck)
 | none=>.stuck
noncomputable def compD (m:Nat) (fr:List Nat) (t:TGD) (fe:DS->Res D) (fi:DS->Res (List D)):DS->Res D:=fun δ=>(fi δ).bind fun ds=>lstD (mapR (eltD t fe (compS m fr δ)) ds)
noncomputable def KeepsT (m:Nat) (t:TGD):Prop:=∀d δ δ1,t d δ=some δ1->δ1.length=δ.length/\∀i,m<=i->δ1[i]? = δ[i]?
theorem RepSt.weak {K:PySem.W.Frag} {G H:Hp} {σ:St} {δ δ1:DS} {m:Nat} (R:RepSt K G H σ δ1) (hl:δ1.length=δ.length) (hm:∀i,m<=i->δ1[i]? = δ[i]?) (hn:∀i,i < m->∀sv,δ[i]?≠some (some sv)):RepSt K G H σ δ where
 same:=R.same
 len:=R.len.trans hl
 at_:=fun i sv e=>by
  by_cases h:i < m
  ·exact (hn i h sv e).elim
  ·exact R.at_ i sv (by rw [hm i (by omega)]; exact e)
 sep:=fun i j ds es v hij e1 e2 e3=>by
  by_cases h1:i < m
  ·exact (hn i h1 _ e1).elim
  ·by_cases h2:j < m
   ·exact (hn j h2 _ e2).elim
   ·exact R.sep i j ds es v hij (by rw [hm i (by omega)]; exact e1) (by rw [hm j (by omega)]; exact e2) e3
theorem cL' {m:Nat} {fr:List Nat} {δ:DS} (i:Nat) (h:i < m) (sv:SV):(compS m fr δ)[i]?≠some (some sv):=by
 unfold compS;rw [List.getElem?_append_left (by simpa using h),List.getElem?_replicate,if_pos h];intro z; cases z
noncomputable def compV (m:Nat) (fr:List Nat) (σ:St):St:=List.replicate m none ++ fr.map fun i=>(σ[i]?).elim none id
theorem iM' {K:PySem.W.Frag} {G H:Hp} {σ:St} {δ:DS} (m:Nat) (fr:List Nat) (R:RepSt K G H σ δ):RepSt K H H (compV m fr σ) (compS m fr δ) where
 same:=Same.refl H
 len:=by simp [compV,compS]
 at_:=fun i sv e=>by
  by_cases h:i < m
  ·exact (cL' i h sv e).elim
  ·unfold compS at e;unfold compV;rw [List.getElem?_append_right (by simpa using h),List.getElem?_map] at e;rw [List.getElem?_append_right (by simpa using h),List.getElem?_map];simp only [List.length_replicate] at e ⊢
   cases q:fr[i - m]? with
   | none=>rw [q] at e; cases e
   | some k =>
    rw [q] at e;simp only [Option.map_some,Option.some.injEq] at e
    cases q2:δ[k]? with
    | none=>rw [q2] at e; cases e
    | some o =>
     rw [q2] at e
     cases o with
     | none=>cases e
     | some sv' =>
      simp only [Option.elim_some,frz1,Option.some.injEq] at e;subst e;obtain ⟨v,e1,e2⟩:=R.view q2;exact ⟨v,by simp [e1],e2⟩
 sep:=fun i j ds es v hij e1 e2 e3=>by
  exfalso
  by_cases h:i < m
  ·exact (cL' i h _ e1).elim
  ·unfold compS at e1;rw [List.getElem?_append_right (by simpa using h),List.getElem?_map] at e1;simp only [List.length_replicate] at e1
   cases q:fr[i - m]? with
   | none=>rw [q] at e1; cases e1
   | some k =>
    rw [q] at e1;simp only [Option.map_some,Option.some.injEq] at e1
    cases q2:δ[k]? with
    | none=>rw [q2] at e1; cases e1
    | some o =>
     rw [q2] at e1
     cases o with
     | none=>cases e1
     | some sv'=>simp [frz1] at e1
theorem dv' {g:D->Res D}:∀{ds rs:List D},mapR g ds=.ok rs->rs.length=ds.length
 | [],rs,h=>by simp only [mapR,Res.ok.injEq] at h; subst h; rfl
 | d :: ds,rs,h=>by
  simp only [mapR] at h
  cases q:g d with
  | stuck=>rw [q] at h; cases h
  | err x=>rw [q] at h; cases h
  | ok x =>
   rw [q,Res.bind_ok] at h
   cases q2:mapR g ds with
   | stuck=>rw [q2] at h; cases h
   | err x=>rw [q2] at h; cases h
   | ok xs =>
    rw [q2,Res.bind_ok] at h
    cases h
    simp [dv' q2]
theorem fu' {g:D->Res D}:∀{ds rs:List D} {i:Nat} {d:D},mapR g ds=.ok rs->ds[i]? = some d->∃r,g d=.ok r/\rs[i]? = some r
 | [],rs,i,d,h,e=>by simp at e
 | d' :: ds,rs,i,d,h,e=>by
  simp only [mapR] at h
  cases q:g d' with
  | stuck=>rw [q] at h; cases h
  | err x=>rw [q] at h; cases h
  | ok x =>
   rw [q,Res.bind_ok] at h
   cases q2:mapR g ds with
   | stuck=>rw [q2] at h; cases h
   | err x=>rw [q2] at h; cases h
   | ok xs =>
    rw [q2,Res.bind_ok] at h
    cases h
    cases i with
    | zero=>simp at e; subst e; exact ⟨x,q,by simp⟩
    | succ i =>
     simp at e;obtain ⟨r,e1,e2⟩:=fu' q2 e;exact ⟨r,e1,by simpa using e2⟩
theorem eQ' {g:D->Res D} (hg:∀d,NoErr (g d)):∀ds,NoErr (mapR g ds)
 | []=>ak'
 | d :: ds=>by
  intro x h;simp only [mapR] at h
  cases q:g d with
  | stuck=>rw [q] at h; cases h
  | err y=>exact hg d y q
  | ok y =>
   rw [q,Res.bind_ok] at h
   cases q2:mapR g ds with
   | stuck=>rw [q2] at h; cases h
   | err z=>exact eQ' hg ds z q2
   | ok xs=>rw [q2,Res.bind_ok] at h; cases h
theorem kx' {t:TGD} {fe:DS->Res D} {δ':DS} (d:D):NoErr (eltD t fe δ' d):=by
 intro x h;unfold eltD at h
 split at h
 ·split at h <;> cases h
 ·cases h
noncomputable def condM (cs:List Expr) (env:Env):Sem Bool:=match cs with
 | c :: _=>isTrue c env (eval c env)
 | []=>pure true
theorem eR' (elt target iter:Expr) (cs:List Expr) (scope:Scope) (pos:Pos) (it acc:Value) (env:Env) (hcs:cs.length<=1) :
  compTurn (.ListComp elt [⟨target,iter,cs,0⟩] scope pos) 0 it acc env=(standAt iter.pos >>= fun _=>pyNext it >>= fun r=>match r with
   | none=>pure (.done .next)
   | some v=>letOwnedTupleGo target it v >>= fun _=>assign target env v >>= fun _ =>
    condM cs env >>= fun ok=>(if ok=true then (eval elt env >>= fun x=>call (.builtin "list.append") [acc,x] >>= fun _=>pure ()) else pure ()) >>= fun _ =>
     again (.compLoop (.ListComp elt [⟨target,iter,cs,0⟩] scope pos) 0 it acc env)):=by
 match cs,hcs with
 | [],_=>rfl
 | [c],_ =>
  rw [compTurn_list];simp only [List.forIn_cons,List.forIn_nil,if_true,bind_assoc,pure_bind]
  congr 1
  funext _
  congr 1
  funext r
  cases r with
  | none=>rfl
  | some v =>
   dsimp only
   congr 1
   funext _
   congr 1
   funext _
   congr 1
   funext ok
   cases ok with
   | false=>rfl
   | true=>simp only [if_true,bind_assoc,pure_bind]
noncomputable def eltI (t:TGD) (fc:DS->Res Bool) (fe:DS->Res D) (δ':DS) (d:D):Res D:=match t d δ' with
 | some δ1=>(match fc δ1 with
  | .ok true=>(match fe δ1 with | .ok x=>.ok (.tup [x]) | _=>.stuck)
  | .ok false=>.ok (.tup [])
  | _=>.stuck)
 | none=>.stuck
noncomputable def unI:D->List D
 | .tup xs=>xs
 | _=>[]
noncomputable def compK (t:TGD) (fc:DS->Res Bool) (fe:DS->Res D) (δ':DS) (ds:List D):Res D:=if ds.length<=sizeLine then (mapR (eltI t fc fe δ') ds).bind (fun rs=>Res.ok (D.lst (rs.flatMap unI))) else .stuck
noncomputable def compI (m:Nat) (fr:List Nat) (t:TGD) (fc:DS->Res Bool) (fe:DS->Res D) (fi:DS->Res (List D)):DS->Res D:=fun δ=>(fi δ).bind (compK t fc fe (compS m fr δ))
theorem hg' {t:TGD} {fc:DS->Res Bool} {fe:DS->Res D} {δ':DS} {d r:D} (h:eltI t fc fe δ' d=.ok r):∃δ1,t d δ'=some δ1/\((∃x,fc δ1=.ok true/\fe δ1=.ok x/\r=.tup [x])\/(fc δ1=.ok false/\r=.tup [])):=by
 unfold eltI at h
 split at h
 ·rename_i δ1 e
  split at h
  ·rename_i q
   split at h
   ·rename_i x q2
    cases h
    exact ⟨δ1,e,.inl ⟨x,q,q2,rfl⟩⟩
   ·cases h
  ·rename_i q
   cases h
   exact ⟨δ1,e,.inr ⟨q,rfl⟩⟩
  ·cases h
 ·cases h
theorem ky' {t:TGD} {fc:DS->Res Bool} {fe:DS->Res D} {δ':DS} (d:D):NoErr (eltI t fc fe δ' d):=by
 intro x h;unfold eltI at h
 split at h
 ·split at h
  ·split at h <;> cases h
  ·cases h
  ·cases h
 ·cases h
theorem hh' {t:TGD} {fc:DS->Res Bool} {fe:DS->Res D} {δ':DS}:∀{ds rs:List D},mapR (eltI t fc fe δ') ds=.ok rs->(rs.flatMap unI).length<=ds.length
 | [],rs,h=>by simp only [mapR,Res.ok.injEq] at h; subst h; exact Nat.le_refl _
 | d :: ds,rs,h=>by
  simp only [mapR] at h
  cases q:eltI t fc fe δ' d with
  | stuck=>rw [q] at h; cases h
  | err x=>rw [q] at h; cases h
  | ok x =>
   rw [q,Res.bind_ok] at h
   cases q2:mapR (eltI t fc fe δ') ds with
   | stuck=>rw [q2] at h; cases h
   | err x=>rw [q2] at h; cases h
   | ok xs =>
    rw [q2,Res.bind_ok] at h
    cases h
    have ih:=hh' q2;obtain ⟨δ1,_,w⟩:=hg' q;have hx:(unI x).length<=1:=by rcases w with ⟨y,_,_,rfl⟩ | ⟨_,rfl⟩ <;> simp [unI]
    rw [List.flatMap_cons,List.length_append,List.length_cons];omega
noncomputable def CTD (X:Cx) (cs:List Expr) (f:DS->Res Bool):Prop :=
 ∀(pins:List (Addr×Obj)) (s:Shared) (σ:St) (G H:Hp) (δ:DS),Inv X pins σ H s->RepSt X.K G H σ δ->f δ≠.stuck ->
  wpAny (model X.prog X.w) X.A (condM cs X.env) (TPost X pins σ H (f δ)) (XPost X pins σ H s.heap (f δ)) s
section
variable {X:Cx} {m:Nat} {fr:List Nat} {N':List Str} {scope:Scope} {cl:List (Str×Addr)} {tg iter elt:Expr} {cs:List Expr} {pos:Pos} {t:TGD} {fc:DS->Res Bool} {fe:DS->Res D} {fi:DS->Res (List D)}
theorem gh' {C:Addr} {s3:Shared} {H2:Hp} {fp:List Addr} {it:Addr} {tn:Nat->Heap->Prop} {J:It} {ds rs:List D} {δ':DS} {acc:Addr} {RR:Result->Shared->Prop} (hcalm:X.calm=true)
  (T:Turn X.prog X.w X.K tg J fp it tn) (Y:Yields X.K J H2 ds) (hR:mapR (eltI t fc fe δ') ds=.ok rs) (hz:ds.length<=sizeLine) (hkt:KeepsT m t) (hlow:∀i,i < m->∀sv,δ'[i]?≠some (some sv))
  (ht:PGD (compX X N' scope cl C s3 H2 (acc :: fp)) tg t) (hcs:cs.length<=1) (hc:CTD (compX X N' scope cl C s3 H2 (acc :: fp)) cs fc) (he:PD (compX X N' scope cl C s3 H2 (acc :: fp)) elt fe)
  (hacc:acc∉fp) (hfp:∀b∈acc :: fp,b≠C/\b∉frs X.stack/\∀x c,cl.lookup x=some c->c≠b)
  (fin:∀s' σ' H' ys its,Inv (compX X N' scope cl C s3 H2 (acc :: fp)) [] σ' H' s'->Same H2 H'->H' acc=none->(∀b∈fp,H' b=none)->s'.heap.PlainList acc its->Vals ys its.toList->Reps X.K H' (rs.flatMap unI) ys->RR (.ok .next) s')
  {s4:Shared} {σ0:St} {its0:Array Value} (I4:Inv (compX X N' scope cl C s3 H2 (acc :: fp)) [] σ0 H2 s4) (R4:RepSt X.K H2 H2 σ0 δ') (st4:tn 0 s4.heap) (f4:∀b∈acc :: fp,H2 b=none) (p4:s4.heap.PlainList acc #[]) :
  codeAny (model X.prog X.w) X.A (.compLoop (.ListComp elt [⟨tg,iter,cs,0⟩] scope pos) 0 (.ref it) (.ref acc) (compEnvC scope cl C X.env)) RR s4:=by
 let X':=compX X N' scope cl C s3 H2 (acc :: fp)
 have fpok:∀{H':Hp} {pn:List (Addr×Obj)},(∀b∈fp,H' b=none)->(∀b∈fp,∀p∈pn,p.1≠b)->∀b∈fp,FpOk X' pn H' b:=fun hn hp b hb =>
  ⟨hn b hb,(hfp b (List.mem_cons_of_mem _ hb)).1,(hfp b (List.mem_cons_of_mem _ hb)).2.1,.inl (List.mem_cons_of_mem _ hb),(hfp b (List.mem_cons_of_mem _ hb)).2.2,fun p hpp=>hp b hb p (by simpa [X',compX] using hpp)⟩
 refine codeAny_loop rfl (fun n s=>∃i σ' H' ys its,n=ds.length - i/\i<=ds.length/\Inv X' [] σ' H' s/\Same H2 H'/\RepSt X.K H2 H' σ' δ'/\tn i s.heap/\H' acc=none/\(∀b∈fp,H' b=none)/\s.heap.PlainList acc its/\Vals ys its.toList/\Reps X.K H' ((rs.take i).flatMap unI) ys/\ys.length<=i) (fun n s hI=>?_) ds.length
  ⟨0,σ0,H2,[],#[],by simp,Nat.zero_le _,I4,Same.refl _,R4,st4,f4 acc (by simp),fun b hb=>f4 b (List.mem_cons_of_mem _ hb),p4,.nil,by simpa using Reps.nil,Nat.le_refl _⟩
 obtain ⟨i,σ1,H1,ys,its,rfl,hi,I1,e1,R1,st1,ha1,fr1,p1,v1,r1,hyl⟩:=hI;show wpAny _ _ ((compTurn (.ListComp elt [⟨tg,iter,cs,0⟩] scope pos) 0 (.ref it) (.ref acc) (compEnvC scope cl C X.env)).onRaise (fun x=>do noteFrame x (compEnvC scope cl C X.env); theTreesLotGoes x)) _ _ s
 refine wpAny_noted ?_;rw [eR' _ _ _ _ _ _ _ _ _ hcs];refine wpAny_bind (wpAny_standAt (wpAny_bind ?_));have pk:∀{b:Addr} {o:Obj},True:=trivial
 by_cases hlt:i < ds.length
 ·obtain ⟨d,hd⟩:∃d,ds[i]? = some d:=⟨ds[i],by simp [hlt]⟩;obtain ⟨go,yl⟩:=(Y H1 e1).1 i d hd;obtain ⟨r,hg,hr⟩:=fu' hR hd;obtain ⟨δ1,ht1,hf1⟩:=hg' hg;obtain ⟨na,oa⟩:=p1;have pin1:Inv X' [(acc,({ cls:=.type "list",data:=.seq its na }:Obj))] σ1 H1 s:=I1.pins_of fun p hp=>by
   have:p=(acc,({ cls:=.type "list",data:=.seq its na }:Obj)):=by simpa using hp
   subst this;exact ⟨oa,ha1,(hfp acc (by simp)).1,(hfp acc (by simp)).2.1,fun v z=>(by cases z)⟩
  refine wpAny_mono (T.item X' rfl rfl rfl hcalm i _ s σ1 H1 _ pin1 (fpok fr1 fun b hb p hp z=>by
   have:p=(acc,({ cls:=.type "list",data:=.seq its na }:Obj)):=by simpa using hp
   subst this; exact hacc (by rw [show acc=b from z]; exact hb)) st1 go) (fun rv s5 ⟨u,hrv,h5⟩=>?_) fun _ _ z=>z
  subst hrv;refine wpAny_bind (wpAny_mono h5 (fun _ s6 ⟨x,H6,I6,rx,y6,st6,fr6⟩=>?_) fun _ _ z=>z);obtain ⟨e6,px⟩:=yl x H6 y6;have I6':=I6.pinned (fpok fr6 fun b hb p hp z=>by
   have:p=(acc,({ cls:=.type "list",data:=.seq its na }:Obj)):=by simpa using hp
   subst this; exact hacc (by rw [show acc=b from z]; exact hb)) (T.obj _ _ st6)
  have R6:=R1.mono e6;refine wpAny_bind (wpAny_mono (ht _ _ s6 σ1 H2 H6 δ' δ1 d x u I6' rx R6 px ht1) (fun _ s7 ⟨σ7,I7,R7⟩=>?_) fun _ _ z=>z);obtain ⟨hl1,hm1⟩:=hkt d δ' δ1 ht1;have R7':RepSt X.K H2 H6 σ7 δ':=R7.weak hl1 hm1 hlow;have e9:(rs.take (i + 1)).flatMap unI=(rs.take i).flatMap unI ++ unI r:=by rw [List.take_succ,hr]; simp
  have hfc:fc δ1≠.stuck:=by rcases hf1 with ⟨x,q,_⟩ | ⟨q,_⟩ <;> (rw [q]; intro z; cases z)
  have hfe:∀y,fc δ1≠.err y:=by rcases hf1 with ⟨x,q,_⟩ | ⟨q,_⟩ <;> (intro y; rw [q]; intro z; cases z)
  refine wpAny_bind (ko' (f:=fc) (δ:=δ1) (fun pins I=>hc pins _ _ _ _ _ I R7 hfc) I7 (fun k sk Hk qk Ik ek bk=>?_) fun e s8 q=>by obtain ⟨y,_,_,_,z,_⟩:=q; exact (hfe y z).elim);have oak:=(Ik.pin (acc,({ cls:=.type "list",data:=.seq its na }:Obj)) (by simp)).1;have hak:=(Ik.pin (acc,({ cls:=.type "list",data:=.seq its na }:Obj)) (by simp)).2.1;have fpk:∀b∈fp,∀o,s6.heap.get? b=some o->sk.heap.get? b=some o/\Hk b=none:=fun b hb o e=>by
   have q:=Ik.pin (b,o) (List.mem_append_right _ (List.mem_append_right _ (bN' hb e)));exact ⟨q.1,q.2.1⟩
  cases k with
  | false =>
   have hu:unI r=[]:=by
    rcases hf1 with ⟨x,q,_⟩ | ⟨q,rfl⟩
    ·rw [q] at qk; cases qk
    ·rfl
   have Ik':Inv X' [] σ7 Hk sk:=Ik.pins_of fun p hp=>absurd hp (by simp);refine wpAny_bind (wpAny_pure (wpAny_pure ⟨rfl,ds.length - (i + 1),by omega,i + 1,σ7,Hk,ys,its,rfl,hlt,Ik',e1.trans (e6.trans ek),R7'.mono ek,?_,hak,fun b hb=>?_,⟨na,oak⟩,v1,?_,by omega⟩))
   ·refine T.keep _ _ _ st6 fun b hb o e=>(fpk b hb o e).1
   ·obtain ⟨o,e,_⟩:=T.obj _ _ st6 b hb;exact (fpk b hb o e).2
   ·rw [e9,hu,List.append_nil]; exact r1.mono (e6.trans ek)
  | true =>
   obtain ⟨xk,hfx,hrx⟩:∃x,fe δ1=.ok x/\r=.tup [x]:=by
    rcases hf1 with ⟨x,_,q2,q3⟩ | ⟨q,_⟩
    ·exact ⟨x,q2,q3⟩
    ·rw [q] at qk; cases qk
   subst hrx;refine wpAny_bind (wpAny_bind (he.use Ik (R7.mono ek) (by rw [hfx]; intro z; cases z) (fun d8 u8 s8 v8 H8 q8 I8 r8 e8 b8 p8=>?_) fun e s8 q=>by rw [hfx] at q; exact q.none.elim));rw [hfx] at q8; cases q8;have oa8:=(I8.pin (acc,({ cls:=.type "list",data:=.seq its na }:Obj)) (by simp)).1;have ha8:=(I8.pin (acc,({ cls:=.type "list",data:=.seq its na }:Obj)) (by simp)).2.1;have hsz:its.size<=i:=by have:=v1.length; simp only [Array.length_toList] at this; omega
   refine wpAny_bind (wpAny_list_append_plain (show s8.heap.PlainList acc its from ⟨na,oa8⟩) (fun h9 p9 sb9=>?_) (by omega))
   have I8':Inv X' [] σ7 H8 s8:=I8.pins_of fun p hp=>absurd hp (by simp);have fp8:∀b∈fp,∀o,s6.heap.get? b=some o->s8.heap.get? b=some o/\H8 b=none:=fun b hb o e=>by
    have q:=I8.pin (b,o) (List.mem_append_right _ (List.mem_append_right _ (bN' hb e)));exact ⟨q.1,q.2.1⟩
   have nacc:∀b,H8 b≠none->b≠acc:=fun b hb z=>hb (by rw [z]; exact ha8);have I9:Inv X' [] σ7 H8 { s8 with heap:=h9 }:=I8'.call' (ch:=[acc]) rfl
    ⟨fun b o e n hb hx=>(sb9.2 b (by simpa using hx)).trans e,fun b o e n hb hx=>⟨o.slots,(sb9.2 b (by simpa using hx)).trans e⟩,fun b o e n _=>n,fun b o e hx=>⟨o,(sb9.2 b (by simpa using hx)).trans e⟩,fun b xs e=>e,fun b o u e=>e,fun b ps e=>⟨#[],by simpa using e⟩⟩
    (fun b u q=>(I8'.hok b u q).stay (fun c v hc e=>(sb9.2 c (by
     rcases hc with rfl | hc
     ·exact nacc c (by rw [q]; intro z; cases z)
     ·exact nacc c (by rw [hc]; intro z; cases z))).trans e) (fun _ z=>z) fun _ _ z=>z) I8'.bare
    fun b hb=>by
     have e:b=acc:=by simpa using hb
     subst e;exact ⟨.inl (by show b∈b :: fp; simp),(hfp b (by simp)).1,fun x c e=>(hfp b (by simp)).2.2 x c e,fun p hp=>absurd hp (by show p∉([]:List (Addr×Obj)) ++ []; simp)⟩
   refine wpAny_pure (wpAny_pure ⟨rfl,ds.length - (i + 1),by omega,i + 1,σ7,H8,ys ++ [v8],its.push u8,rfl,hlt,I9,e1.trans (e6.trans (ek.trans e8)),R7'.mono (ek.trans e8),?_,ha8,fun b hb=>?_,p9,?_,?_,by rw [List.length_append]; show _ + 1<=_; omega⟩)
   ·refine T.keep _ _ _ st6 fun b hb o e=>(sb9.2 b (fun z=>hacc (by rw [<- z]; exact hb))).trans (fp8 b hb o e).1
   ·obtain ⟨o,e,_⟩:=T.obj _ _ st6 b hb;exact (fp8 b hb o e).2
   ·rw [Array.toList_push]; exact v1.append (.cons r8 .nil)
   ·rw [e9];exact (r1.mono (e6.trans (ek.trans e8))).append (Reps.cons p8 Reps.nil)
 ·have e:i=ds.length:=by omega
  subst e;obtain ⟨na,oa⟩:=p1;have pin1:Inv X' [(acc,({ cls:=.type "list",data:=.seq its na }:Obj))] σ1 H1 s:=I1.pins_of fun p hp=>by
   have:p=(acc,({ cls:=.type "list",data:=.seq its na }:Obj)):=by simpa using hp
   subst this;exact ⟨oa,ha1,(hfp acc (by simp)).1,(hfp acc (by simp)).2.1,fun v z=>(by cases z)⟩
  refine wpAny_mono (T.done X' rfl rfl rfl hcalm ds.length _ s σ1 H1 _ pin1 (fpok fr1 fun b hb p hp z=>by
   have:p=(acc,({ cls:=.type "list",data:=.seq its na }:Obj)):=by simpa using hp
   subst this; exact hacc (by rw [show acc=b from z]; exact hb)) st1 (Y H1 e1).2) (fun rv s5 ⟨hrv,I5⟩=>?_) fun _ _ z=>z
  subst hrv;refine wpAny_pure ?_;have h:=dv' hR;rw [<- h,List.take_length] at r1;have oa5:=(I5.pin (acc,({ cls:=.type "list",data:=.seq its na }:Obj)) (by simp)).1;exact fin s5 σ1 H1 ys its (I5.pins_of fun p hp=>absurd hp (by simp)) e1 ha1 fr1 ⟨na,oa5⟩ v1 r1
end
theorem _root_.L2.Inv.but {X:Cx} {pins:List (Addr×Obj)} {σ:St} {H:Hp} {s:Shared} {C:Addr} {h':Heap} {t':Nat} (J:Inv X pins σ H s) (hC:H C=none) (hC0:X.s₀.heap.objs.size<=C) (hCl:C≠X.env.locals) (hCc:∀x c,X.env.cells.lookup x=some c->c≠C)
  (hCp:∀p∈X.pn ++ pins,p.1≠C) (hs:Heap.SameBut C s.heap h'):Inv X pins σ H { s with heap:=h',toks:=t' }:=by
 have nC:∀b,H b≠none->b≠C:=fun b hb z=>hb (by rw [z]; exact hC);refine J.call' (ch:=[C]) (s':={ s with heap:=h',toks:=t' }) rfl
   ⟨fun b o e n hb hx=>(hs.2 b (by simpa using hx)).trans e,fun b o e n hb hx=>⟨o.slots,(hs.2 b (by simpa using hx)).trans e⟩,fun b o e n _=>n,fun b o e hx=>⟨o,(hs.2 b (by simpa using hx)).trans e⟩,fun b xs e=>e,fun b o u e=>e,fun b ps e=>⟨#[],by simpa using e⟩⟩
   (fun b u q=>(J.hok b u q).stay (fun c v hc e=>(hs.2 c (by
    rcases hc with rfl | hc
    ·exact nC c (by rw [q]; intro z; cases z)
    ·exact nC c (by rw [hc]; intro z; cases z))).trans e) (fun _ z=>z) fun _ _ z=>z) J.bare
   fun b hb=>by
    have e:b=C:=by simpa using hb
    subst e;exact ⟨.inr hC0,hCl,hCc,hCp⟩
section
variable {X:Cx} {m:Nat} {fr:List Nat} {N':List Str} {scope:Scope} {cl:List (Str×Addr)} {tg iter elt:Expr} {cs:List Expr} {fc:DS->Res Bool} {pos:Pos} {t:TGD} {fe:DS->Res D} {fi:DS->Res (List D)}
structure Around' (X:Cx) (m:Nat) (fr:List Nat) (N':List Str) (scope:Scope) (cl:List (Str×Addr)):Prop where
 clos:closureFor scope X.env=pure cl
 nocell:∀y∈scope.names,y.2≠.cell
 kind:scope.kind=.function
 names:∀x∈scope.names,x.2=.local->scope.names.lookup x.1=some .local
 sub:∀x c,cl.lookup x=some c->X.env.cells.lookup x=some c
 has:∀x,((relabel scope X.env).names.lookup x=some .cell\/(relabel scope X.env).names.lookup x=some .free)->∃c,cl.lookup x=some c
 len:N'.length=m + fr.length
 free:∀j i,fr[j]? = some i->∃x c,N'[m + j]? = some x/\X.N[i]? = some x/\Vis X.env.scope x/\(X.env.kindOf x=some .cell\/X.env.kindOf x=some .free)/\cl.lookup x=some c/\((compEnvC scope cl 0 X.env).kindOf x=some .cell\/(compEnvC scope cl 0 X.env).kindOf x=some .free)
theorem dY' (W:Around' X m fr N' scope cl) (hcalm:X.calm=true) (hkt:KeepsT m t) (hi:PID X tg iter fi) (ht:∀C s H fp,PGD (compX X N' scope cl C s H fp) tg t) (hcs:cs.length<=1) (hc:∀C s H fp,CTD (compX X N' scope cl C s H fp) cs fc) (he:∀C s H fp,PD (compX X N' scope cl C s H fp) elt fe)
  {pins:List (Addr×Obj)} {s:Shared} {σ:St} {G H:Hp} {δ:DS} (I:Inv X pins σ H s) (R:RepSt X.K G H σ δ) (hs:compI m fr t fc fe fi δ≠.stuck) {E:Value->Shared->Prop} (hE:∀e s1,XPost X pins σ H s.heap (compI m fr t fc fe fi δ) e s1->E e s1)
  {RR:Value->Addr->Result->Shared->Prop}
  (fin:∀a C s' H' ds xs mC,compI m fr t fc fe fi δ=.ok (.lst ds)->Inv X pins σ H' s'->Same H H'->H a=none->H' a=some (.lst xs)->Reps X.K H' ds xs->s'.heap.Ns C mC->H' C=none->C≠a->X.s₀.heap.objs.size<=C->C∉X.fs->C≠X.env.locals->(∀x c,X.env.cells.lookup x=some c->c≠C)->(∀p∈X.pn ++ pins,p.1≠C)->RR (.ref a) C (.ok .next) s') :
  wpAny (model X.prog X.w) X.A (eval iter X.env) (fun x s₁=>wpAny (model X.prog X.w) X.A (pyIter x) (fun itv s₂=>wpAny (model X.prog X.w) X.A (newList []) (fun acc s₃ =>
   wpAny (model X.prog X.w) X.A (newFunctionEnv scope X.env.globals cl [] X.env.qual none .none (some X.env)) (fun cenv s₄ =>
    codeAny (model X.prog X.w) X.A (.compStart (.ListComp elt [⟨tg,iter,cs,0⟩] scope pos) 0 itv acc { cenv with scope:=relabel scope X.env }) (RR acc cenv.locals) s₄) E s₃) E s₂) E s₁) E s:=by
 have hs':(fi δ).bind (compK t fc fe (compS m fr δ))≠.stuck:=hs;refine wpAny_mono (hi pins s σ G H δ I R (at' hs')) (fun v s1 h1=>wpAny_mono h1 (fun itv s2 h2=>?_) fun e s2 q=>hE e s2 (q.same fun x z=>aw' z)) fun e s2 q=>hE e s2 (q.same fun x z=>aw' z);obtain ⟨ds,it,fp,tn,J,H2,q,rfl,I2,T,st2,f2,e2,Y⟩:=h2;have h3:compK t fc fe (compS m fr δ) ds≠.stuck:=av' hs' q;have hz':ds.length<=sizeLine:=by
  by_cases z:ds.length<=sizeLine
  ·exact z
  ·exact (h3 (by unfold compK; rw [if_neg z])).elim
 have h4:(mapR (eltI t fc fe (compS m fr δ)) ds).bind (fun rs=>Res.ok (D.lst (rs.flatMap unI)))≠.stuck:=by unfold compK at h3; rw [if_pos hz'] at h3; exact h3
 have hm:mapR (eltI t fc fe (compS m fr δ)) ds≠.stuck:=at' h4
 cases hR:mapR (eltI t fc fe (compS m fr δ)) ds with
 | stuck=>exact (hm hR).elim
 | err x=>exact (eQ' (fun d=>ky' d) ds x hR).elim
 | ok rs =>
 have hz:(rs.flatMap unI).length<=sizeLine:=Nat.le_trans (hh' hR) hz';have ev:compI m fr t fc fe fi δ=.ok (.lst (rs.flatMap unI)):=by unfold compI; rw [q,Res.bind_ok]; unfold compK; rw [if_pos hz',hR]; rfl
 have R2:=R.mono e2;refine wpAny_newObj_type (wpAny_newFunctionEnv W.nocell (by intro y hy; simp at hy) (fun h₁ hns₁ hsb₁=>?_) W.kind);dsimp only at hns₁ hsb₁ ⊢;generalize hA:s2.heap.objs.size=acc at *;generalize hH3:s2.heap.push { cls:=.type "list",dict:=none,data:=.seq ([]:List Value).toArray }=h3' at hns₁ hsb₁ ⊢;have hC:h3'.objs.size=acc + 1:=by rw [<- hH3,Heap.size_push,hA]
 generalize hCC:h3'.objs.size=C at *;have k3:∀b o,s2.heap.get? b=some o->h3'.get? b=some o:=fun b o e=>by rw [<- hH3]; exact Heap.get?_push_of_some _ e
 have a3:h3'.get? acc=some { cls:=.type "list",dict:=none,data:=.seq ([]:List Value).toArray }:=by rw [<- hH3,<- hA]; exact Heap.get?_push_size _ rfl
 have k4:∀b o,h3'.get? b=some o->h₁.get? b=some o:=fun b o e=>hsb₁.extBut b o (fun z=>by have:=Heap.lt_size e; rw [hCC,z] at this; exact Nat.lt_irrefl _ this) (Heap.get?_push_of_some _ e);have hacc2:H2 acc=none:=I2.hok.fresh (by rw [hA]; exact Nat.le_refl _);have I3:Inv X pins σ H2 { s2 with heap:=h3',toks:=s2.toks }:=I2.kept k3
 have fp2:∀b∈fp,b < acc:=fun b hb=>by
  obtain ⟨o,e,_⟩:=T.obj _ _ st2 b hb;have:=Heap.lt_size e;rw [hA] at this; exact this
 have f3:∀b∈acc :: fp,FpOk X pins H2 b/\b < ({ s2 with heap:=h3',toks:=s2.toks }:Shared).heap.objs.size:=fun b hb=>by
  rcases List.mem_cons.mp hb with z | z
  ·subst z;exact ⟨I2.fpOk (by rw [hA]; exact Nat.le_refl _) hacc2,by show _ < h3'.objs.size; rw [hCC,hC]; exact Nat.lt_succ_self _⟩
  ·exact ⟨f2 b z,by show _ < h3'.objs.size; rw [hCC,hC]; exact Nat.lt_succ_of_lt (fp2 b z)⟩
 have hacc:acc∉fp:=fun z=>Nat.lt_irrefl _ (fp2 acc z);have okX:(compX X N' scope cl C { s2 with heap:=h3',toks:=s2.toks } H2 (acc :: fp)).Ok:=iL' I3 W.kind (by show h3'.objs.size<=C; rw [hCC]; exact Nat.le_refl _) W.sub W.has f3
 have hC2:H2 C=none:=I2.hok.fresh (by rw [hA,hC]; exact Nat.le_succ _);have hcells:∀x c,cl.lookup x=some c->∃v,h₁.IsCell c v:=fun x c e=>by
  obtain ⟨v,o,g,d⟩:=I2.cell x c (W.sub x c e);exact ⟨v,o,k4 _ _ (k3 _ _ g),d⟩
 have hos:s2.os=({ s2 with heap:=h3',toks:=s2.toks }:Shared).os:=rfl
 have I4:∀tk,Inv (compX X N' scope cl C { s2 with heap:=h3',toks:=s2.toks } H2 (acc :: fp)) [] (compV m fr σ) H2 { s2 with heap:=h₁,toks:=tk }:=fun tk=>by
  refine ⟨okX,rfl,I2.bare,Un.kept k4,⟨_,hns₁,fun i x v e1 e2 e3=>?_⟩,hcells,hC2,fun x c e=>I2.freeC x c (W.sub x c e),fun p hp=>absurd hp (by show p∉([]:List (Addr×Obj)) ++ []; simp),I3.hok.kept k4,by show _=N'.length; rw [W.len]; simp [compV]⟩;unfold compV at e2
  by_cases hm':i < m
  ·rw [List.getElem?_append_left (by simpa using hm'),List.getElem?_replicate,if_pos hm'] at e2
   cases e2
  ·rw [List.getElem?_append_right (by simpa using hm'),List.getElem?_map] at e2;simp only [List.length_replicate] at e2
   cases qf:fr[i - m]? with
   | none=>rw [qf] at e2; cases e2
   | some k =>
    rw [qf] at e2;simp only [Option.map_some,Option.some.injEq] at e2;have e2':σ[k]? = some (some v):=by
     cases qk:σ[k]? with
     | none=>rw [qk] at e2; cases e2
     | some w=>rw [qk] at e2; simp only [Option.elim_some,id] at e2; rw [e2]
    obtain ⟨x',c,w1,w2,w3,w4,w5,w6⟩:=W.free (i - m) k qf;have hx:x'=x:=by
     have:m + (i - m)=i:=by omega
     rw [this] at w1;have e1':N'[i]? = some x:=e1;rw [e1'] at w1; cases w1; rfl
    subst hx;obtain ⟨m0,hn0,hl0⟩:=I2.loc;obtain ⟨u,r,l⟩:=hl0 k x' v w2 e2' w3;refine ⟨u,r,?_⟩;rcases l with ⟨l1,_⟩ | ⟨l1,c',l2,o,g,d⟩
    ·rcases w4 with z | z <;> (rw [z] at l1; cases l1)
    ·have hcc:c'=c:=by
      have:=W.sub x' c w5;rw [l2] at this; cases this; rfl
     subst hcc;exact .inr ⟨w6,c',w5,o,k4 _ _ (k3 _ _ g),d⟩
 have R4:=iM' m fr R2;have st4:tn 0 h₁:=T.keep 0 _ _ st2 fun b hb o e=>k4 _ _ (k3 _ _ e);have hfp:∀b∈acc :: fp,b≠C/\b∉frs X.stack/\∀x c,cl.lookup x=some c->c≠b:=fun b hb=>by
  obtain ⟨⟨g1,g2,g3,g4,g5,g6⟩,g7⟩:=f3 b hb;refine ⟨Nat.ne_of_lt (by rw [<- hCC]; exact g7),fun z=>?_,fun x c e=>g5 x c (W.sub x c e)⟩;rcases List.mem_cons.mp (I2.stkSub b z) with w | w
  ·exact g2 w
  ·exact g3 w
 have hCs:s2.heap.objs.size<=C:=by rw [hA,hC]; exact Nat.le_succ _
 have loop:∀tk,codeAny (model X.prog X.w) X.A (.compLoop (.ListComp elt [⟨tg,iter,cs,0⟩] scope pos) 0 (.ref it) (.ref acc) (compEnvC scope cl C X.env)) (RR (.ref acc) C) { s2 with heap:=h₁,toks:=tk }:=fun tk=>by
  refine gh' (m:=m) (its0:=#[]) hcalm T Y hR hz' hkt (fun i h sv=>cL' i h sv) (ht C _ H2 (acc :: fp)) hcs (hc C _ H2 (acc :: fp)) (he C _ H2 (acc :: fp)) hacc hfp ?_ (I4 tk) R4 st4 (fun b hb=>(f3 b hb).1.1) ⟨0,k4 _ _ a3⟩;intro s' σ' H' ys its J e' ha' hf' p' v' r';have K1:Inv X pins σ H' s':=I3.call' (ch:=acc :: fp) J.os J.base J.hok J.bare fun b hb=>by
   obtain ⟨⟨g1,g2,g3,g4,g5,g6⟩,g7⟩:=f3 b hb;exact ⟨g4,g2,g5,g6⟩
  obtain ⟨⟨g1,g2,g3,g4,g5,g6⟩,g7⟩:=f3 acc (by simp);obtain ⟨n',o'⟩:=p';have K2:=K1.track (o:=.lst ys) ha' (fun ob e _=>absurd (Nat.lt_of_lt_of_le (Heap.lt_size e) (by rw [<- hA]; exact I2.sz)) (Nat.lt_irrefl _)) g2 g5 g6
   ⟨by rw [r'.length]; exact hz,its.toList,n',v',by simpa using o'⟩
  obtain ⟨mC,hmC,_⟩:=J.loc;have sm:=an' ha' (.lst ys);have hCa:C≠acc:=by omega
  refine fin acc C s' (upd H' acc (.lst ys)) (rs.flatMap unI) ys mC ev K2 (e2.trans (e'.trans sm)) (e2.free hacc2) aq' (r'.mono sm) hmC (by rw [am' hCa]; exact J.free) hCa (Nat.le_trans I2.sz hCs) (I2.nofs hCs) (Nat.ne_of_gt (Nat.lt_of_lt_of_le I2.lt hCs)) (fun x c e z=>?_) fun p hp z=>?_
  ·obtain ⟨v,q⟩:=I2.cell x c e;exact absurd (Nat.lt_of_lt_of_le q.lt (by rw [z]; exact hCs)) (Nat.lt_irrefl _)
  ·exact absurd (Nat.lt_of_lt_of_le (Heap.lt_size (I2.pin p hp).1) (by rw [z]; exact hCs)) (Nat.lt_irrefl _)
 exact codeAny_compStart_list (loop _) (T.self X.A 0 _ _ _ st4 (loop _))
theorem compI_true {δ:DS}:compI m fr t (fun _=>.ok true) fe fi δ=compD m fr t fe fi δ:=by
 have el:∀(δ':DS) (d:D),eltI t (fun _=>.ok true) fe δ' d=(eltD t fe δ' d).bind fun x=>.ok (.tup [x]):=fun δ' d=>by
  unfold eltI eltD
  cases t d δ' with
  | none=>rfl
  | some δ1=>cases h:fe δ1 <;> simp only [h] <;> rfl
 have mr:∀(δ':DS) (ds:List D),mapR (eltI t (fun _=>.ok true) fe δ') ds=(mapR (eltD t fe δ') ds).bind fun rs=>.ok (rs.map fun x=>.tup [x]):=fun δ' ds=>by
  induction ds with
  | nil=>rfl
  | cons d ds ih =>
   simp only [mapR,el,ih]
   cases eltD t fe δ' d with
   | stuck=>rfl
   | err x=>rfl
   | ok x=>cases mapR (eltD t fe δ') ds <;> rfl
 have un:∀rs:List D,(rs.map fun x=>D.tup [x]).flatMap unI=rs:=fun rs=>by
  induction rs with
  | nil=>rfl
  | cons r rs ih=>rw [List.map_cons,List.flatMap_cons,ih]; rfl
 unfold compI compD
 cases fi δ with
 | stuck=>rfl
 | err x=>rfl
 | ok ds =>
  show compK t (fun _=>.ok true) fe (compS m fr δ) ds=lstD (mapR (eltD t fe (compS m fr δ)) ds);unfold compK lstD;rw [mr]
  cases hR:mapR (eltD t fe (compS m fr δ)) ds with
  | stuck=>split <;> rfl
  | err x=>exact (eQ' (fun d=>kx' d) ds x hR).elim
  | ok rs =>
   have h:=dv' hR;show (if ds.length<=sizeLine then Res.ok (D.lst ((rs.map fun x=>D.tup [x]).flatMap unI)) else .stuck)=if rs.length<=sizeLine then Res.ok (D.lst rs) else .stuck
   rw [un,h]
theorem dw' (W:Around' X m fr N' scope cl) (hcalm:X.calm=true) (hkt:KeepsT m t) (hi:PID X tg iter fi) (ht:∀C s H fp,PGD (compX X N' scope cl C s H fp) tg t) (he:∀C s H fp,PD (compX X N' scope cl C s H fp) elt fe)
  {pins:List (Addr×Obj)} {s:Shared} {σ:St} {G H:Hp} {δ:DS} (I:Inv X pins σ H s) (R:RepSt X.K G H σ δ) (hs:compD m fr t fe fi δ≠.stuck) {E:Value->Shared->Prop} (hE:∀e s1,XPost X pins σ H s.heap (compD m fr t fe fi δ) e s1->E e s1)
  {RR:Value->Addr->Result->Shared->Prop}
  (fin:∀a C s' H' ds xs mC,compD m fr t fe fi δ=.ok (.lst ds)->Inv X pins σ H' s'->Same H H'->H a=none->H' a=some (.lst xs)->Reps X.K H' ds xs->s'.heap.Ns C mC->H' C=none->C≠a->X.s₀.heap.objs.size<=C->C∉X.fs->C≠X.env.locals->(∀x c,X.env.cells.lookup x=some c->c≠C)->(∀p∈X.pn ++ pins,p.1≠C)->RR (.ref a) C (.ok .next) s') :
  wpAny (model X.prog X.w) X.A (eval iter X.env) (fun x s₁=>wpAny (model X.prog X.w) X.A (pyIter x) (fun itv s₂=>wpAny (model X.prog X.w) X.A (newList []) (fun acc s₃ =>
   wpAny (model X.prog X.w) X.A (newFunctionEnv scope X.env.globals cl [] X.env.qual none .none (some X.env)) (fun cenv s₄ =>
    codeAny (model X.prog X.w) X.A (.compStart (.ListComp elt [⟨tg,iter,[],0⟩] scope pos) 0 itv acc { cenv with scope:=relabel scope X.env }) (RR acc cenv.locals) s₄) E s₃) E s₂) E s₁) E s:=by
 have e:compD m fr t fe fi δ=compI m fr t (fun _=>.ok true) fe fi δ:=compI_true.symm;rw [e] at hs hE;exact dY' (cs:=[]) W hcalm hkt hi ht (Nat.zero_le 1) (fun C s H fp pins s' σ G H' δ I R _=>wpAny_pure ⟨H',rfl,I,Same.refl _⟩) he I R hs hE fun a C s' H' ds xs mC ev=>fin a C s' H' ds xs mC (e.trans ev)
theorem bp' (W:Around' X m fr N' scope cl) (hcalm:X.calm=true) (hkt:KeepsT m t) (hi:PID X tg iter fi) (ht:∀C s H fp,PGD (compX X N' scope cl C s H fp) tg t) (he:∀C s H fp,PD (compX X N' scope cl C s H fp) elt fe)
  (hf:∀x,foldedSetIterable iter X.env x=pure x:=by intro _; rfl):PD X (.ListComp elt [⟨tg,iter,[],0⟩] scope pos) (compD m fr t fe fi):=by
 intro pins s σ G H δ I R hs;rw [eval_ListComp];refine wpAny_comprehension_free (use:=none) rfl hf W.clos W.kind W.names (dw' W hcalm hkt hi ht he I R hs (fun _ _ q=>q) (RR:=fun acc C=>compPost _ _ _ none _ acc C) ?_);intro a C s' H' ds xs mC ev J e' ha hx hr hns hC hCa hC0 hCf hCl hCc hCp;refine ⟨mC,hns,fun h' hs'=>?_⟩;exact ⟨.lst ds,.ref a,H',ev,J.but (t':=s'.toks) hC hC0 hCl hCc hCp hs',rfl,e',mkL (SqL.of hx) hr⟩
theorem bX' (i:Nat) {y:Str} {py spos:Pos} (W:Around' X m fr N' scope cl) (hcalm:X.calm=true) (hkt:KeepsT m t) (hi:PID X tg iter fi) (ht:∀C s H fp,PGD (compX X N' scope cl C s H fp) tg t) (he:∀C s H fp,PD (compX X N' scope cl C s H fp) elt fe)
  (hN:X.N.Nodup) (hsw:swapsWith (.ListComp elt [⟨tg,iter,[],0⟩] scope pos) (some (.Name y py)) spos.line X.env=pure true:=by rfl) (hy:X.N[i]? = some y:=by rfl) (hx:Loc X.env.scope y:=by first | exact Or.inl rfl | exact Or.inr rfl)
  (hfn:X.fn y=true\/X.env.scope.names.lookup y=some .local:=by first | exact .inl rfl | exact .inr rfl | assumption) (hf:∀x,foldedSetIterable iter X.env x=pure x:=by intro _; rfl) :
  PSD X (.Assign [.Name y py] (.ListComp elt [⟨tg,iter,[],0⟩] scope pos) spos) (setD i (compD m fr t fe fi)):=by
 intro pins s σ G H δ I R hs;have hs':compD m fr t fe fi δ≠.stuck:=gd' hs;rw [exec_Assign_Name_used _ _ _ _ hsw];refine wpAny_bind (wpAny_standAt (wpAny_bind ?_));show wpAny _ X.A (do let _ <- comprehension (.ListComp elt [⟨tg,iter,[],0⟩] scope pos) scope X.env _ (newList []) false (eval iter X.env) (some (assign (.Name y py) X.env))) _ _ s
 refine wpAny_bind (wpAny_mono (wpAny_comprehension_free (use:=some (assign (.Name y py) X.env)) (Q:=fun _ s'=>SPost X pins G H (setD i (compD m fr t fe fi) δ) .next s') rfl hf W.clos W.kind W.names
  (dw' W hcalm hkt hi ht he I R hs' (fun e s1 q=>q.sx R fun x z=>by unfold setD; rw [z]; rfl) (RR:=fun acc C=>compPost _ _ _ (some (assign (.Name y py) X.env)) _ acc C) ?_)) (fun _ s' hq=>wpAny_pure (wpAny_pure hq)) fun _ _ e=>e)
 intro a C s' H' ds xs mC ev J e' ha hx' hr hns hC hCa hC0 hCf hCl hCc hCp;show wpAny _ X.A (assign (.Name y py) X.env (.ref a)) _ _ _;refine wpAny_assign_Name (cG' J hN hy hx (v:=.ref a) (u:=.ref a) rfl (fun s2 I2 ⟨b,sb,hb⟩=>?_) hfn);have hbC:C≠b:=by
  rcases hb with z | z
  ·rw [z]; exact hCl
  ·exact fun w=>hCc _ _ z w.symm
 refine ⟨mC,hns.sameBut sb hbC,fun h' hs'=>?_⟩;refine ⟨_,_,H',by unfold setD; rw [ev]; rfl,I2.but (t':=s2.toks) hC hC0 hCl hCc hCp hs',e'.tk,(R.mono e').set i (mkL (SqL.of hx') hr)⟩
end
mutual
noncomputable def toP:D->PyData
 | .non=>.none
 | .bl b=>.bool b
 | .int i=>.int i
 | .str x=>.str x
 | .tup ds=>.tuple (toPs ds)
 | .lst ds=>.list (toPs ds)
 | _=>.none
noncomputable def toPs:List D->List PyData
 | []=>[]
 | d :: ds=>toP d :: toPs ds
end
noncomputable def okD:Nat->D->Bool
 | _,.non=>true
 | _,.bl _=>true
 | _,.int _=>true
 | _,.str x=>PyData.strOk x
 | n + 1,.tup ds=>ds.all (okD n)
 | n + 1,.lst ds=>ds.all (okD n)
 | _,_=>false
theorem kz':∀(n:Nat) (d:D),okD n d=true->(toP d).canLay0=true/\(toP d).depth<=n:=by
 intro n;have all:∀n,(∀d,okD n d=true->(toP d).canLay0=true/\(toP d).depth<=n)->∀ds:List D,(∀d∈ds,okD n d=true)->PyData.canLayAll0 (toPs ds)=true/\PyData.depthAll (toPs ds)<=n:=by
  intro n ih ds
  induction ds with
  | nil=>intro _; simp [toPs,PyData.canLayAll0,PyData.depthAll]
  | cons d ds hi =>
   intro h;have q1:=ih d (h d (.head _));have q2:=hi fun x hx=>h x (.tail _ hx);simp only [toPs,PyData.canLayAll0,PyData.depthAll,Bool.and_eq_true];exact ⟨⟨q1.1,q2.1⟩,by omega⟩
 induction n with
 | zero =>
  intro d h
  cases d <;> simp_all [okD,toP,PyData.canLay0,PyData.depth]
 | succ n ih =>
  intro d h
  cases d with
  | tup ds =>
   have:=all n ih ds (by simpa [okD] using h);simp only [toP,PyData.canLay0,PyData.depth];exact ⟨this.1,by omega⟩
  | lst ds =>
   have:=all n ih ds (by simpa [okD] using h);simp only [toP,PyData.canLay0,PyData.depth];exact ⟨this.1,by omega⟩
  | _=>simp_all [okD,toP,PyData.canLay0,PyData.depth]
section
variable {X:Cx} {pins:List (Addr×Obj)} {σ:St} {H:Hp} {s:Shared}
mutual
theorem cj' (I:Inv X pins σ H s):∀(n:Nat) {d:D} {v:V} {u:Value},okD n d=true->Rep X.K H d v->RelV v u->∃as,Reads s.heap u (toP d) as
 | n,.non,v,u,_,p,r=>by rw [Rep] at p; subst p; cases r; rw [toP]; exact ⟨_,Reads.none⟩
 | n,.bl b,v,u,_,p,r=>by rw [Rep] at p; subst p; cases r; rw [toP]; exact ⟨_,Reads.bool b⟩
 | n,.int i,v,u,_,p,r=>by rw [Rep] at p; subst p; obtain ⟨t,rfl⟩:=r; rw [toP]; exact ⟨_,Reads.int i t⟩
 | n,.str x,v,u,_,p,r=>by rw [Rep] at p; subst p; obtain ⟨t,rfl⟩:=r; rw [toP]; exact ⟨_,Reads.str x t⟩
 | n + 1,.tup ds,v,u,h,p,r=>by
  obtain ⟨a,xs,rfl,hq,rs⟩:=repT p
  cases r
  obtain ⟨its,rv,⟨o,g,c,k,d⟩,hz⟩:=I.tuple hq;obtain ⟨as,q⟩:=cM' I n (by simpa [okD] using h) rs rv;rw [toP];exact ⟨as,reads_tuple_at g c d (by simpa using q)⟩
 | n + 1,.lst ds,v,u,h,p,r=>by
  obtain ⟨a,xs,rfl,hq,rs⟩:=repL p
  cases r
  obtain ⟨its,rv,⟨o,k,g,c,_,d⟩,hz⟩:=I.list hq;obtain ⟨as,q⟩:=cM' I n (by simpa [okD] using h) rs rv;rw [toP];exact ⟨_,reads_list_at g c d (by simpa using q)⟩
 | 0,.tup ds,v,u,h,p,r=>by simp [okD] at h
 | 0,.lst ds,v,u,h,p,r=>by simp [okD] at h
 | n,.exc c,v,u,h,p,r=>by cases n <;> simp [okD] at h
 | n,.excf c f d,v,u,h,p,r=>by cases n <;> simp [okD] at h
 | n,.dct,v,u,h,p,r=>by cases n <;> simp [okD] at h
theorem cM' (I:Inv X pins σ H s):∀(n:Nat) {ds:List D} {vs:List V} {us:List Value},(∀d∈ds,okD n d=true)->Reps X.K H ds vs->Vals vs us->∃as,ReadsAll s.heap us (toPs ds) as
 | n,[],vs,us,_,p,r=>by
  cases p.nil_of
  cases r
  rw [toPs];exact ⟨_,ReadsAll.nil⟩
 | n,d :: ds,vs,us,h,p,r=>by
  obtain ⟨v,ws,rfl,p1,p2⟩:=p.cons_of
  cases r with
  | cons r1 r2 =>
   obtain ⟨as,q⟩:=cj' I n (h d (.head _)) p1 r1;obtain ⟨bs,q2⟩:=cM' I n (fun x hx=>h x (.tail _ hx)) p2 r2;rw [toPs];exact ⟨_,ReadsAll.cons q q2⟩
end
end
noncomputable def eqD (a b:D):Res D:=if okD 8 a=true/\okD 8 b=true then .ok (.bl (PyData.eqv (toP a) (toP b))) else .stuck
noncomputable def neD (a b:D):Res D:=if okD 8 a=true/\okD 8 b=true then .ok (.bl (!PyData.eqv (toP a) (toP b))) else .stuck
theorem bk' (x y:D):NoErr (eqD x y):=az' ak' af'
theorem dZ' (x y:D):NoErr (neD x y):=az' ak' af'
theorem ck' {d:D} (h:okD 8 d=true):SeqAt.shaped (toP d)=true:=by
 have:=kz' 8 d h;unfold SeqAt.shaped;rw [this.1,Bool.true_and];exact decide_eq_true (Nat.le_trans this.2 (by decide))
theorem bH' {X:Cx} (hu:X.A.units + 64 < cLine):OpD X (compareOp .Eq) eqD:=by
 intro E pins s σ H x y v u a b d I r1 r2 p1 p2 e;unfold eqD at e
 split at e
 ·rename_i c
  cases e
  obtain ⟨as,ra⟩:=cj' I 8 c.1 p1 r1;obtain ⟨bs,rb⟩:=cj' I 8 c.2 p2 r2;exact SeqAt.compareEq_shaped ra rb (ck' c.1) (ck' c.2) hu ⟨_,.bl _,H,rfl,I,rfl,Same.refl H,mkB⟩
 ·cases e
theorem hp' {X:Cx} (hu:X.A.units + 64 < cLine):OpD X (compareOp .NotEq) neD:=by
 intro E pins s σ H x y v u a b d I r1 r2 p1 p2 e;unfold neD at e
 split at e
 ·rename_i c
  cases e
  obtain ⟨as,ra⟩:=cj' I 8 c.1 p1 r1;obtain ⟨bs,rb⟩:=cj' I 8 c.2 p2 r2;exact SeqAt.compareNe_shaped ra rb (ck' c.1) (ck' c.2) hu ⟨_,.bl _,H,rfl,I,rfl,Same.refl H,mkB⟩
 ·cases e
noncomputable def tyName:D->String
 | .non=>"NoneType"
 | .bl _=>"bool"
 | .int _=>"int"
 | .str _=>"str"
 | .tup _=>"tuple"
 | .lst _=>"list"
 | .dct=>"dict"
 | _=>""
theorem lV' {K:PySem.W.Frag} {prog:Program} {w:World} {A:Around} {s:Shared} {x D:Addr} {ox:Obj} {tk:Tok} {R:Result->Shared->Prop}
  (hdct:PySem.W.hasDictIn K D=true) (ha:PySem.W.findIn K (.ref D) "__class__" = some (some (.builtin "object.__class__")))
  (hn:PySem.W.specialIn K (.builtin "object.__class__") "__get__" = some (some (.builtin "getset_descriptor.__get__"))) (htk:PySem.W.takesIn K (.builtin "object.__class__")=some true) (hm:PySem.W.mroIn K D (.type "object")=some true) (hB:PySem.W.mroIn K D (.type "BaseException")=some true)
  {od:Option Obj} (X:K.In s.heap) (I:PySem.W.InstAt s.heap x ox D od) (h:R (.ok (.ret (.ref D))) s) :
  codeAny (model prog w) A (.call (.builtin "BaseException.__getattribute__") ⟨[.ref x,.str "__class__" tk],[]⟩) R s:=by
 have hf:PySem.W.findObj K D od "__class__" = some (.bind (.builtin "getset_descriptor.__get__") (.builtin "object.__class__")):=by
  obtain ⟨cd,hc,_⟩:=PySem.W.any_some hdct;unfold PySem.W.findObj;rw [hc,Option.bind_some,ha,Option.bind_some];simp [hn,htk]
 have hk:builtinKind "BaseException.__getattribute__" = some .slot:=by decide +kernel
 have hsplit:splitId "BaseException.__getattribute__" = some ("BaseException", "__getattribute__"):=by decide +kernel
 have L0:=I.type (M:=model prog w);have L1:=PySem.W.looks_find (M:=model prog w) X I hf;have L2:=PySem.W.looks_mroIn (M:=model prog w) X hB;have har:=F.args_bexc_ga (.ref x) (.str "__class__" tk);refine codeAny_call_builtin (by decide +kernel) F.entry_bexc_ga ?_;simp only [checkBuiltinCall,hk,hsplit];refine wpAny_bind ?_;unfold isInstance;refine wpAny_bind (L0.at (L2.at ?_));simp only [Bool.not_true,Bool.false_eq_true,if_false]
 repeat (first | with_reducible refine wpAny_pure ?_ | with_reducible refine wpAny_bind ?_ | wp_step)
 obtain ⟨hh,g,dr,t,os⟩:=s;refine wpAny_loadPart I.at_ (wpAny_pure ?_);rw [I.cls];refine wpAny_bind (L1.at ?_);show wpAny _ _ (Builtin.ObjectAttr.bindTo _ _ _ _) _ _ _;unfold Builtin.ObjectAttr.bindTo;refine wpAny_bind (wpAny_holding (wpAny_call (PySem.W.class_get (s:=⟨hh,g,dr,t,os⟩) (ox:=ox) (od:=od) X I hm ?_)));exact wpAny_pure h
theorem ea' {K:PySem.W.Frag} {prog:Program} {w:World} {A:Around} {E:Value->Shared->Prop} {s:Shared} {x D:Addr} {ox:Obj} {Q:Option Value->Shared->Prop}
  (hga:PySem.W.findIn K (.ref D) "__getattribute__" = some (some (.builtin "BaseException.__getattribute__"))) (hgk:PySem.W.findIn K (.ref D) "__getattr__" = some none)
  (hdct:PySem.W.hasDictIn K D=true) (ha:PySem.W.findIn K (.ref D) "__class__" = some (some (.builtin "object.__class__")))
  (hn:PySem.W.specialIn K (.builtin "object.__class__") "__get__" = some (some (.builtin "getset_descriptor.__get__"))) (htk:PySem.W.takesIn K (.builtin "object.__class__")=some true) (hm:PySem.W.mroIn K D (.type "object")=some true) (hB:PySem.W.mroIn K D (.type "BaseException")=some true)
  {od:Option Obj} (X:K.In s.heap) (I:PySem.W.InstAt s.heap x ox D od) (h:Q (some (.ref D)) { s with toks:=s.toks + 1 }):wpAny (model prog w) A (getAttr? (.ref x) "__class__") Q E s:=by
 obtain ⟨hh,g,d,t,os⟩:=s;have L0:=I.type (M:=model prog w);have L1:=PySem.W.looks_findIn (M:=model prog w) X hga;have Lk:=PySem.W.looks_findIn (M:=model prog w) X hgk;unfold getAttr? getAttrBy? getAttrBy;refine wpAny_bind (wpAny_mkText (wpAny_bind (wpAny_attempt (wpAny_holding (wpAny_bind (L0.at (wpAny_bind (L1.at ?_))))))));show wpAny _ _ (getAttrByItsOwn _ _ _ _ _ _) _ _ _;unfold getAttrByItsOwn hookBefore;refine wpAny_bind (Lk.at ?_);refine wpAny_bind (wpAny_attempt (wpAny_holding ?_));show wpAny _ _ (boundAndCalled _ _ _) _ _ _;unfold boundAndCalled;rw [PySem.F.attrBase_ValueError.ga.bind];refine wpAny_bind (wpAny_pure (wpAny_call (lV' (s:=⟨hh,g,d,t + 1,os⟩) hdct ha hn htk hm hB X I ?_)));exact PySem.W.handed_on rfl (wpAny_pure h)
structure ExcCls (K:PySem.W.Frag) (C:Addr):Prop where
 hga:PySem.W.findIn K (.ref C) "__getattribute__" = some (some (.builtin "BaseException.__getattribute__"))
 hgk:PySem.W.findIn K (.ref C) "__getattr__" = some none
 hdct:PySem.W.hasDictIn K C=true
 ha:PySem.W.findIn K (.ref C) "__class__" = some (some (.builtin "object.__class__"))
 hn:PySem.W.specialIn K (.builtin "object.__class__") "__get__" = some (some (.builtin "getset_descriptor.__get__"))
 htk:PySem.W.takesIn K (.builtin "object.__class__")=some true
 hm:PySem.W.mroIn K C (.type "object")=some true
 hB:PySem.W.mroIn K C (.type "BaseException")=some true
theorem fv' {K:PySem.W.Frag} {a C:Addr} {dd:Option Addr} (W:ExcCls K C):PySem.W.KitX K (.ref a) (.ref C) (fun h=>excAt a C dd h/\match dd with | none=>True | some dx=>∃o,h.get? dx=some o) where
 ty:=fun M h _ ⟨⟨o,vs,g,c,_⟩,_⟩=>by rw [<- c]; exact (PySem.W.Looks.ld g).andThen .now
 it:=fun _ _ X _=>by
  obtain ⟨cdD,hcD,_⟩:=PySem.W.any_some W.hdct;unfold PySem.W.clsIn at hcD
  split at hcD
  ·rename_i c' d' cd' sl' ho;intro A' Q' E' s' k q;unfold isType loadHead;exact wpAny_bind (wpAny_loadPart (k _ _ (X _ _ ho)) (wpAny_pure q))
  ·cases hcD
 ne:=fun h tp dd its n sl X htp=>by
  obtain ⟨cdD,hcD,_⟩:=PySem.W.any_some W.hdct;refine Bool.eq_false_iff.mpr fun q=>?_;have e:C=tp:=Value.ref.inj (beq_iff_eq.mp q);subst e;unfold PySem.W.clsIn at hcD
  split at hcD
  ·rename_i c' d' cd' sl' ho;have z:=(X _ _ ho).symm.trans htp
   cases z
  ·cases hcD
 ca:=fun X ⟨⟨o,vs,g,c,d,hd⟩,w⟩ k=>by
  cases dd with
  | none=>exact ea' (od:=none) W.hga W.hgk W.hdct W.ha W.hn W.htk W.hm W.hB X ⟨g,c,by unfold PySem.W.notCls; rw [hd],by rw [d]; trivial⟩ k
  | some dx =>
   obtain ⟨od,ho⟩:=w;exact ea' (od:=some od) W.hga W.hgk W.hdct W.ha W.hn W.htk W.hm W.hB X ⟨g,c,by unfold PySem.W.notCls; rw [hd],by rw [d]; exact ho⟩ k
noncomputable def IsOk (K:PySem.W.Frag) (cv:Value) (b:Bool):D->Prop
 | .exc n=>∀C,PySem.W.nsIn K mainGlobals n=some (some (.ref C))->ExcCls K C/\PySem.W.kitOne K (.ref C) cv=some b
 | .excf n _ _=>∀C,PySem.W.nsIn K mainGlobals n=some (some (.ref C))->ExcCls K C/\PySem.W.kitOne K (.ref C) cv=some b
 | d=>PySem.W.kitOne K (.type (tyName d)) cv=some b
theorem iN' {X:Cx} {pins:List (Addr×Obj)} {σ:St} {H:Hp} {s:Shared} {A:Around} {E:Value->Shared->Prop} {Q:Value->Shared->Prop} {cv u:Value} {v:V} {d:D} {b:Bool} (I:Inv X pins σ H s) (p:Rep X.K H d v) (r:RelV v u) (ok:IsOk X.K cv b d)
  (h:∀tk,Q (.bool b) { s with toks:=tk }):wpAny (model X.prog X.w) A (call (.builtin "isinstance") [u,cv]) Q E s:=by
 cases d with
 | non=>rw [Rep] at p; subst p; exact ce' I r .non ok h
 | bl k=>rw [Rep] at p; subst p; exact ce' I r (.bl k) ok h
 | int k=>rw [Rep] at p; subst p; exact ce' I r (.int k) ok h
 | str k=>rw [Rep] at p; subst p; exact ce' I r (.str k) ok h
 | tup ds =>
  obtain ⟨a,xs,rfl,hq,_⟩:=repT p
  cases r
  obtain ⟨its,_,⟨o,g,c,_⟩,_⟩:=I.tuple hq;exact PySem.W.kia_one PySem.W.kitx_tuple I.kIn ⟨o,g,c⟩ ok (fun z=>nomatch z) h
 | lst ds =>
  obtain ⟨a,xs,rfl,hq,_⟩:=repL p
  cases r
  obtain ⟨its,_,⟨o,_,g,c,_⟩,_⟩:=I.list hq;exact PySem.W.kia_one PySem.W.kitx_list I.kIn ⟨o,g,c⟩ ok (fun z=>nomatch z) h
 | exc n =>
  rw [Rep] at p;obtain ⟨a,C,rfl,hC,hH⟩:=p
  cases r
  obtain ⟨W,ok⟩:=ok C hC;exact PySem.W.kia_one (fv' (dd:=none) W) I.kIn ⟨(I.hok a _ hH).1,trivial⟩ ok (fun z=>nomatch z) h
 | excf n f d =>
  rw [Rep] at p;obtain ⟨a,C,dx,w,rfl,hC,hH,hx,_⟩:=p
  cases r
  obtain ⟨W,ok⟩:=ok C hC;obtain ⟨mA,⟨o,_,_,g,_⟩,_⟩:=I.hok dx _ hx;exact PySem.W.kia_one (fv' (dd:=some dx) W) I.kIn ⟨(I.hok a _ hH).1,o,g⟩ ok (fun z=>nomatch z) h
 | dct =>
  rw [Rep] at p;obtain ⟨a,rfl,hH⟩:=p
  cases r
  exact PySem.W.kia_one PySem.W.kitx_dict I.kIn (I.hok a _ hH).1 ok (fun z=>nomatch z) h
theorem iO':bootBuiltins "isinstance" = some (.builtin "isinstance"):=by decide +kernel
noncomputable def isG (isF:D->Option Bool) (d:D):Res D:=match isF d with | some b=>.ok (.bl b) | none=>.stuck
section
variable {X:Cx} {e:Expr} {f:DS->Res D} {c:Str} {p cp pos:Pos} {cv:Value} {isF:D->Option Bool}
theorem cN' (hI:∀d b,isF d=some b->IsOk X.K cv b d) (ha:PD X e f) (hc:∀(pins:List (Addr×Obj)) (σ:St) (H:Hp) (s:Shared) (E:Value->Shared->Prop) (Q:Value->Shared->Prop),Inv X pins σ H s->Q cv s->wpAny (model X.prog X.w) X.A (eval (.Name c cp) X.env) Q E s)
  (hg:Gl X "isinstance") (hm:X.mg "isinstance" = none) (he:starEach [e,.Name c cp] X.env=(false,eval e X.env) :: starEach [.Name c cp] X.env:=by rfl) (he2:starEach [.Name c cp] X.env=[(false,eval (.Name c cp) X.env)]:=by rfl) :
  PD X (.Call (.Name "isinstance" p) [e,.Name c cp] [] pos) (fun δ=>(f δ).bind (isG isF)):=by
 intro pins s σ G H δ I R hs
 try dsimp only at hs ⊢
 refine wpAny_Call_Name_kw (bG' I hg hm (u:=.builtin "isinstance") iO' ?_ (by decide) (by decide));refine PyProof.Rows.callWith_builtin1 ?_ he (by rw [he2]; rfl);rw [he];show wpAny _ _ (spliced ((false,eval e X.env) :: backTo pos (starEach [.Name c cp] X.env))) _ _ s;refine Calls.spliced_cons (ha.use I R (at' hs) (fun d u s1 v H1 q I1 r1 e1 b1 p1=>?_) fun e s1 q=>q.same fun x z=>aw' z);rw [he2];show wpAny _ _ (spliced ((false,eval (.Name c cp) X.env) :: backTo pos [])) _ _ s1;refine Calls.spliced_cons (hc pins σ H1 s1 _ _ I1 (Calls.spliced_nil ?_));have h2:=av' hs q
 cases z:isF d with
 | none=>exact (h2 (by unfold isG; rw [z])).elim
 | some b=>exact iN' I1 p1 r1 (hI d b z) fun tk=>⟨.bl b,.bl b,H1,by rw [q,Res.bind_ok]; unfold isG; rw [z],I1.tok tk,rfl,e1,mkB⟩
theorem eS' {T:String} (hg:Gl X c) (hm:X.mg c=none) (hv:bootBuiltins c=some (.type T)) (hn:c≠"__name__":=by decide) (hd:(c == ("__debug__" : Str))=false:=by decide) (pins:List (Addr×Obj)) (σ:St) (H:Hp) (s:Shared) (E:Value->Shared->Prop) (Q:Value->Shared->Prop) (I:Inv X pins σ H s) (h:Q (.type T) s) :
  wpAny (model X.prog X.w) X.A (eval (.Name c cp) X.env) Q E s:=bG' I hg hm hv h hn hd
end
end DL
namespace DL
open PySem PySem.Spec PyProof.Rows L2
noncomputable def bools:List D->Option (List Bool)
 | []=>some []
 | .bl b :: ds=>(bools ds).map (b :: ·)
 | _=>none
theorem eb':∀{ds:List D} {bs:List Bool} {i:Nat} {d:D},bools ds=some bs->ds[i]? = some d->∃b,d=.bl b/\bs[i]? = some b
 | [],_,_,_,_,e=>by simp at e
 | .bl b :: ds,bs,i,d,h,e=>by
  simp only [bools] at h
  cases q:bools ds with
  | none=>rw [q] at h; cases h
  | some cs =>
   rw [q] at h;simp only [Option.map_some,Option.some.injEq] at h;subst h
   cases i with
   | zero=>simp at e; subst e; exact ⟨b,rfl,by simp⟩
   | succ i =>
    simp at e;obtain ⟨b',e1,e2⟩:=eb' q e;exact ⟨b',e1,by simpa using e2⟩
 | .non :: ds,bs,i,d,h,e=>by simp [bools] at h
 | .int _ :: ds,bs,i,d,h,e=>by simp [bools] at h
 | .str _ :: ds,bs,i,d,h,e=>by simp [bools] at h
 | .tup _ :: ds,bs,i,d,h,e=>by simp [bools] at h
 | .lst _ :: ds,bs,i,d,h,e=>by simp [bools] at h
 | .exc _ :: ds,bs,i,d,h,e=>by simp [bools] at h
 | .excf _ _ _ :: ds,bs,i,d,h,e=>by simp [bools] at h
 | .dct :: ds,bs,i,d,h,e=>by simp [bools] at h
theorem cO':∀{ds:List D} {bs:List Bool},bools ds=some bs->bs.length=ds.length
 | [],bs,h=>by simp [bools] at h; subst h; rfl
 | .bl b :: ds,bs,h=>by
  simp only [bools] at h
  cases q:bools ds with
  | none=>rw [q] at h; cases h
  | some cs =>
   rw [q] at h;simp only [Option.map_some,Option.some.injEq] at h;subst h;simp [cO' q]
 | .non :: ds,bs,h=>by simp [bools] at h
 | .int _ :: ds,bs,h=>by simp [bools] at h
 | .str _ :: ds,bs,h=>by simp [bools] at h
 | .tup _ :: ds,bs,h=>by simp [bools] at h
 | .lst _ :: ds,bs,h=>by simp [bools] at h
 | .exc _ :: ds,bs,h=>by simp [bools] at h
 | .excf _ _ _ :: ds,bs,h=>by simp [bools] at h
 | .dct :: ds,bs,h=>by simp [bools] at h
theorem range_all (bs:List Bool):(List.range bs.length).all (fun i=>bs.getD i true)=bs.all id:=by
 rw [Bool.eq_iff_iff];simp only [List.all_eq_true,List.mem_range,id]
 constructor
 ·intro h b hb;obtain ⟨i,hi,rfl⟩:=List.mem_iff_getElem.mp hb;have:=h i hi;simpa [List.getD,hi] using this
 ·intro h i hi;have:=h bs[i] (List.getElem_mem hi);simpa [List.getD,hi] using this
theorem range_any (bs:List Bool):(List.range bs.length).any (fun i=>bs.getD i true)=bs.any id:=by
 rw [Bool.eq_iff_iff];simp only [List.any_eq_true,List.mem_range,id]
 constructor
 ·rintro ⟨i,hi,h⟩
  refine ⟨bs[i],List.getElem_mem hi,?_⟩;simpa [List.getD,hi] using h
 ·rintro ⟨b,hb,h⟩
  obtain ⟨i,hi,rfl⟩:=List.mem_iff_getElem.mp hb;exact ⟨i,hi,by simpa [List.getD,hi] using h⟩
noncomputable def allG:List D->Res D
 | [.lst ds]=>match bools ds with | some bs=>.ok (.bl (bs.all id)) | none=>.stuck
 | _=>.stuck
noncomputable def anyG:List D->Res D
 | [.lst ds]=>match bools ds with | some bs=>.ok (.bl (bs.any id)) | none=>.stuck
 | _=>.stuck
theorem ht' (ds:List D):NoErr (allG ds):=by
 unfold allG
 split
 ·split
  ·exact ak'
  ·exact af'
 ·exact af'
theorem kA' (ds:List D):NoErr (anyG ds):=by
 unfold anyG
 split
 ·split
  ·exact ak'
  ·exact af'
 ·exact af'
theorem ec' {X:Cx} {pins:List (Addr×Obj)} {s:Shared} {σ:St} {H:Hp} {a:Addr} {xs:List V} {ds:List D} {bs:List Bool} {its:List Value} (rv:Vals xs its) (r:Reps X.K H ds xs) (hb:bools ds=some bs) {A:Around} :
  TruthOf X.prog X.w A (fun i v=>its.toArray[i]? = some v) (fun i=>bs.getD i true):=by
 intro i v s Q E hP hQ;have hP':its[i]? = some v:=by simpa using hP
 have hl:i < xs.length:=by rw [rv.length]; exact (List.getElem?_eq_some_iff.mp hP').1
 obtain ⟨d,e1,e2⟩:=r.get' (i:=i) (v:=xs[i]) (by simp [hl]);obtain ⟨b,rfl,e3⟩:=eb' hb e1;obtain ⟨u,e4,e5⟩:=rv.get (i:=i) (x:=xs[i]) (by simp [hl]);rw [hP'] at e4; cases e4;rw [repB e2] at e5
 cases e5
 refine wpAny_truthy_bool ?_;simpa [List.getD,e3] using hQ
theorem jL' {X:Cx} (hcalm:X.calm=true):CallD X (.builtin "all") allG:=by
 intro E pins s σ H xs us ds d I r p e;unfold allG at e
 split at e
 ·rename_i es
  split at e
  ·rename_i bs hb
   cases e
   obtain ⟨v,vs,rfl,p1,t⟩:=p.cons_of
   cases t.nil_of
   obtain ⟨u,rfl,rx⟩:=vals1 r;obtain ⟨a,ys,rfl,hq,rs⟩:=repL p1
   cases rx
   obtain ⟨its,rv,pl,hz⟩:=I.list hq;refine call_all_walk (wpAny_pyIter_list pl.isList ?_);have hax:a≠s.heap.objs.size:=by
    obtain ⟨o,_,g,_⟩:=pl;exact Nat.ne_of_lt (Heap.lt_size g)
   have hn:its.toArray.size=bs.length:=by rw [List.size_toArray,<- rv.length,rs.length,cO' hb]
   refine ⟨_,_,_,_,_,_,fun i=>bs.getD i true,rfl,Walks.list (A:=X.A.in1) (show X.A.in1.handled=none from I.ok.hd hcalm) s.heap.objs.size a hax its.toArray,⟨⟨_,Heap.get?_push_size _ rfl,rfl,rfl⟩,(let ⟨o,g,r⟩:=pl.isList; ⟨o,Heap.get?_push_of_some _ g,r⟩)⟩,ec' (X:=X) (pins:=pins) (s:=s) (σ:=σ) (H:=H) (a:=a) rv rs hb,fun h' tk hk=>?_⟩
   rw [hn,range_all];have k:∀b o,s.heap.get? b=some o->h'.get? b=some o:=fun b o e=>hk b o (by
    intro z;have:b=s.heap.objs.size:=by simpa using z
    exact absurd (Heap.lt_size e) (by rw [this]; exact Nat.lt_irrefl _)) (Heap.get?_push_of_some _ e)
   exact ⟨_,.bl _,H,rfl,I.kept (t':=tk) k,rfl,Same.refl H,mkB⟩
  ·cases e
 ·cases e
theorem lW' {X:Cx} (hcalm:X.calm=true):CallD X (.builtin "any") anyG:=by
 intro E pins s σ H xs us ds d I r p e;unfold anyG at e
 split at e
 ·rename_i es
  split at e
  ·rename_i bs hb
   cases e
   obtain ⟨v,vs,rfl,p1,t⟩:=p.cons_of
   cases t.nil_of
   obtain ⟨u,rfl,rx⟩:=vals1 r;obtain ⟨a,ys,rfl,hq,rs⟩:=repL p1
   cases rx
   obtain ⟨its,rv,pl,hz⟩:=I.list hq;refine call_any_walk (wpAny_pyIter_list pl.isList ?_);have hax:a≠s.heap.objs.size:=by
    obtain ⟨o,_,g,_⟩:=pl;exact Nat.ne_of_lt (Heap.lt_size g)
   have hn:its.toArray.size=bs.length:=by rw [List.size_toArray,<- rv.length,rs.length,cO' hb]
   refine ⟨_,_,_,_,_,_,fun i=>bs.getD i true,rfl,Walks.list (A:=X.A.in1) (show X.A.in1.handled=none from I.ok.hd hcalm) s.heap.objs.size a hax its.toArray,⟨⟨_,Heap.get?_push_size _ rfl,rfl,rfl⟩,(let ⟨o,g,r⟩:=pl.isList; ⟨o,Heap.get?_push_of_some _ g,r⟩)⟩,ec' (X:=X) (pins:=pins) (s:=s) (σ:=σ) (H:=H) (a:=a) rv rs hb,fun h' tk hk=>?_⟩
   rw [hn,range_any];have k:∀b o,s.heap.get? b=some o->h'.get? b=some o:=fun b o e=>hk b o (by
    intro z;have:b=s.heap.objs.size:=by simpa using z
    exact absurd (Heap.lt_size e) (by rw [this]; exact Nat.lt_irrefl _)) (Heap.get?_push_of_some _ e)
   exact ⟨_,.bl _,H,rfl,I.kept (t':=tk) k,rfl,Same.refl H,mkB⟩
  ·cases e
 ·cases e
section
variable {X:Cx} {o e:Expr} {es:List Expr} {fo:DS->Res D} {fs:DS->Res (List D)} {name:Str} {apos cpos:Pos} {T id:String} {g:D->List D->Res D}
end
noncomputable def bindF {α:Type} (f:DS->Res α) (g:α->Res D):DS->Res D:=fun δ=>(f δ).bind g
noncomputable def bindL (f:DS->Res D) (g:D->Res (List D)):DS->Res (List D):=fun δ=>(f δ).bind g
noncomputable def bindT (f:DS->Res D) (g:D->Res Bool):DS->Res Bool:=fun δ=>(f δ).bind g
noncomputable def notT (t:DS->Res Bool):DS->Res Bool:=fun δ=>(t δ).bind fun c=>.ok (!c)
noncomputable def tupF (f:DS->Res (List D)):DS->Res D:=fun δ=>tupD (f δ)
noncomputable def lstF (f:DS->Res (List D)):DS->Res D:=fun δ=>lstD (f δ)
noncomputable def negG:D->Res D
 | .int i=>.ok (.int (-i))
 | _=>.stuck
noncomputable def negF (f:DS->Res D):DS->Res D:=fun δ=>(f δ).bind negG
noncomputable def retD (f:DS->Res D):DS->Out:=fun δ=>onD (f δ) δ Out.ret
noncomputable def ifS (t:DS->Res Bool) (a b:DS->Out):DS->Out:=fun δ=>onT (t δ) δ fun k=>if k=true then a δ else b δ
noncomputable def whileF (fuel:DS->Nat) (c:DS->Res Bool) (b:DS->Out):DS->Out:=fun δ=>whileD c b (fuel δ) δ
noncomputable def tgtN (i:Nat):TGD:=fun d δ=>some (δ.set i (some (.val d)))
theorem bz' {X:Cx} {a:Expr} {fa:DS->Res D} {pos:Pos} (ha:PD X a fa):PD X (.UnaryOp .USub a pos) (negF fa) :=
 mY' (g:=negG) (fun E pins s σ H x v d r I r1 p1 e=>by
  cases d with
  | int i =>
   simp only [negG,Res.ok.injEq] at e;subst e;exact wpAny_mono (lI' (X:=X.wish fun _ _=>False) pins s σ H x v (fun z H'=>z=.int (-i)/\H'=H) (I.wish _) r1 ⟨i,repI p1,rfl,rfl⟩) (fun u s1 ⟨z,H1,I1,r2,e1,e2⟩=>by
    subst e1 e2;exact ⟨_,_,_,rfl,I1.unwish,r2,Same.refl _,mkI⟩) fun _ _ z=>z.elim
  | _=>simp [negG] at e) (fun x=>by cases x <;> first | exact af' | exact ak') ha
theorem aF' {m i:Nat} (h:i < m):KeepsT m (tgtN i):=by
 intro d δ δ1 e;simp only [tgtN,Option.some.injEq] at e;subst e;exact ⟨by simp,fun j hj=>by rw [List.getElem?_set_ne (by omega)]⟩
theorem hu' {f:DS->Res D} {δ:DS} {ds:List D} (h:consD f (fun _=>.ok []) δ=.ok ds):ds.length<=sizeLine:=by
 unfold consD at h
 cases q:f δ with
 | stuck=>rw [q] at h; cases h
 | err x=>rw [q] at h; cases h
 | ok d=>rw [q] at h; cases h; show 1<=sizeLine; decide
theorem gi' {scope:Scope} {env:Env} (hf:∀y∈scope.names,y.2≠.free):relabel scope env=scope:=by
 unfold relabel;have:(scope.names.map fun x=>match x with | (n,k)=>if (k == .free && env.scope.kind == .function && env.kindOf n == some .cell)=true then (n,NameKind.cell) else (n,k))=scope.names:=by
  refine map_eq_self fun x hx=>?_;obtain ⟨n,k⟩:=x;have:(k == NameKind.free)=false:=by simpa using hf _ hx
  simp [this]
 show { scope with names:=_ }=scope
 rw [this]
theorem bY' {X:Cx} {m:Nat} {N':List Str} {scope:Scope} (hf:∀y∈scope.names,y.2≠.free:=by decide +kernel) (hc:∀y∈scope.names,y.2≠.cell:=by decide +kernel) (hk:scope.kind=.function:=by rfl)
  (hn:∀x∈scope.names,x.2=.local->scope.names.lookup x.1=some .local:=by decide +kernel) (hl:N'.length=m:=by rfl):Around' X m [] N' scope [] where
 clos:=closureFor_none hf
 nocell:=hc
 kind:=hk
 names:=hn
 sub:=fun x c h=>by simp at h
 has:=fun x h=>by
  exfalso;rw [gi' hf] at h;rcases h with h | h
  ·exact hc _ (PySem.mem_of_lookup h) rfl
  ·exact hf _ (PySem.mem_of_lookup h) rfl
 len:=by simpa using hl
 free:=fun j i h=>by simp at h
theorem mkS' {K:PySem.W.Frag} {H:Hp} {i:Str}:Rep K H (.str i) (.str i):=by rw [Rep]
noncomputable def intG:List D->Res D
 | [.int i]=>.ok (.int i)
 | [.bl k]=>.ok (.int (if k then 1 else 0))
 | [.str x]=>if x.length<=640 then (match PySem.intText? x with | some n=>.ok (.int n) | none=>.stuck) else .stuck
 | _=>.stuck
theorem ne_int (ds:List D):NoErr (intG ds):=by
 unfold intG
 split <;> first | exact ak' | exact af' | skip
 refine az' ?_ af'
 split <;> first | exact ak' | exact af'
section
variable {X:Cx}
theorem jM':CallD X (.type "int") intG:=by
 intro E pins s σ H xs us ds d I r p e;unfold intG at e
 split at e
 ·rename_i i
  cases e
  obtain ⟨v,vs,rfl,p1,t⟩:=p.cons_of
  cases t.nil_of
  rw [repI p1] at r;obtain ⟨u,rfl,t,rfl⟩:=vals1 r;exact call_int_int ⟨_,.int i,H,rfl,I,⟨_,rfl⟩,Same.refl H,mkI⟩
 ·rename_i k
  cases e
  obtain ⟨v,vs,rfl,p1,t⟩:=p.cons_of
  cases t.nil_of
  rw [Rep] at p1;subst p1;obtain ⟨u,rfl,r1⟩:=vals1 r
  cases r1
  exact call_int_bool ⟨_,.int (if k then 1 else 0),H,rfl,I.tok _,⟨_,rfl⟩,Same.refl H,mkI⟩
 ·rename_i x
  split at e
  ·rename_i hl
   split at e
   ·rename_i n hn
    cases e
    obtain ⟨v,vs,rfl,p1,t⟩:=p.cons_of
    cases t.nil_of
    rw [repS p1] at r;obtain ⟨u,rfl,t,rfl⟩:=vals1 r;exact PySem.W.KIN.call_text hn hl ⟨_,.int n,H,rfl,I.tok _,⟨_,rfl⟩,Same.refl H,mkI⟩
   ·cases e
  ·cases e
 ·cases e
end
noncomputable def thaw1:SV->SV
 | .val d=>.val d
 | .arg d=>.val d
 | .own ds=>.val (.lst ds)
noncomputable def thaw2:SV->SV
 | .val d=>.val d
 | .arg d=>.val d
 | .own ds=>.own ds
noncomputable def thaw (δ:DS):DS:=δ.map (Option.map thaw1)
noncomputable def thawO:Out->Out
 | .nxt δ=>.nxt (δ.map (Option.map thaw2))
 | .brk δ=>.brk (δ.map (Option.map thaw2))
 | .cnt δ=>.cnt (δ.map (Option.map thaw2))
 | .ret d=>.ret d
 | .err x δ=>.err x δ
 | .stuck=>.stuck
theorem RepSt.thaw {K:PySem.W.Frag} {G H:Hp} {σ:St} {δ:DS} (R:RepSt K G H σ δ):RepSt K H H σ (thaw δ) where
 same:=Same.refl H
 len:=by unfold DL.thaw; rw [List.length_map]; exact R.len
 at_:=fun i sv h=>by
  unfold DL.thaw at h;rw [List.getElem?_map] at h
  cases z:δ[i]? with
  | none=>rw [z] at h; cases h
  | some o =>
   cases o with
   | none=>rw [z] at h; cases h
   | some sv0 =>
    rw [z] at h
    cases h
    obtain ⟨v,e1,e2⟩:=R.view z;refine ⟨v,e1,?_⟩
    cases sv0 <;> exact e2
 sep:=fun i j ds es v _ h=>by
  unfold DL.thaw at h;rw [List.getElem?_map] at h
  cases z:δ[i]? with
  | none=>rw [z] at h; cases h
  | some o =>
   cases o with
   | none=>rw [z] at h; cases h
   | some sv0=>rw [z] at h; cases sv0 <;> cases h
theorem RepSt.thaw2 {K:PySem.W.Frag} {G G' H:Hp} {σ:St} {δ:DS} (R:RepSt K G' H σ δ) (e:Same G G'):RepSt K G H σ (δ.map (Option.map thaw2)) where
 same:=e.trans R.same
 len:=by rw [List.length_map]; exact R.len
 at_:=fun i sv h=>by
  rw [List.getElem?_map] at h
  cases z:δ[i]? with
  | none=>rw [z] at h; cases h
  | some o =>
   cases o with
   | none=>rw [z] at h; cases h
   | some sv0 =>
    rw [z] at h
    cases h
    cases sv0 with
    | val d=>exact R.at_ i _ z
    | arg d =>
     obtain ⟨v,e1,e2⟩:=R.at_ i _ z;exact ⟨v,e1,Rep.mono R.same e2⟩
    | own ds =>
     obtain ⟨v,e1,a,xs,q1,q2,q3,q4⟩:=R.at_ i _ z;exact ⟨v,e1,a,xs,q1,q2,q3,e.free q4⟩
 sep:=fun i j ds es v hij h1 h2 h3=>by
  have get:∀(k:Nat) (fs:List D),(δ.map (Option.map DL.thaw2))[k]? = some (some (.own fs))->δ[k]? = some (some (.own fs)):=fun k fs h=>by
   rw [List.getElem?_map] at h
   cases z:δ[k]? with
   | none=>rw [z] at h; cases h
   | some o =>
    cases o with
    | none=>rw [z] at h; cases h
    | some sv0 =>
     rw [z] at h
     cases sv0 <;> cases h
     rfl
  exact R.sep i j ds es v hij (get i ds h1) (get j es h2) h3
theorem NOut.thaw {X:Cx} {G H:Hp} {o:Out} {E:Ends} (e:Same G H) (h:NOut X G H (thawO o) E):NOut X H H o E:=by
 cases o with
 | stuck=>exact h
 | nxt δ=>exact fun σ' H' t r=>h σ' H' t (r.thaw2 e)
 | brk δ=>exact fun σ' H' t r=>h σ' H' t (r.thaw2 e)
 | cnt δ=>exact fun σ' H' t r=>h σ' H' t (r.thaw2 e)
 | ret d=>exact fun v H' t g r=>h v H' t (e.trans g) r
 | err x δ=>exact h
theorem PID.pi {X:Cx} {tg iter:Expr} {f:DS->Res (List D)} (h:PID X tg iter f):PI X.nox tg iter (fun σ H R=>∃G δ ds,RepSt X.K G H σ δ/\f δ=.ok ds/\∀J H',Same H H'->Yields X.K J H' ds->R J H'):=by
 intro pins s σ H R I ⟨G,δ,ds,RR,q,n⟩;refine wpAny_mono (h pins s σ G H δ I.unwish RR (by rw [q]; intro z; cases z)) (fun v s1 p=>?_) fun e s1 p=>?_
 ·refine wpAny_mono p (fun itv s2 ⟨ds',it,fp,tn,J,H',q1,q2,I2,T,t0,hf,e2,y⟩=>?_) fun e s2 p=>?_
  ·rw [q] at q1; cases q1;exact ⟨it,fp,tn,J,H',q2,I2.wish _,T,t0,hf,n J H' e2 y⟩
  ·rw [q] at p; exact p.none
 ·rw [q] at p; exact p.none
noncomputable def forS (t:TGD) (fi:DS->Res (List D)) (b:DS->Out):DS->Out:=fun δ=>onL (fi δ) fun ds=>thawO (forD t b ds (thaw δ))
section
variable {X:Cx} {tg iter:Expr} {body:List Stmt} {t:TGD} {fb:DS->Out} {pos:Pos}
theorem gj' {J:It} {ds:List D} {H0:Hp} {E:Ends} (y:Yields X.K J H0 ds) {δ:DS} {σ:St} (R:RepSt X.K H0 H0 σ δ) (h:NOut X H0 H0 (forD t fb ds δ) E) :
  ∃W:Nat->Nat->St->Hp->Prop,(∃m,W 0 m σ H0)/\∀i m σ H,W i m σ H ->
   (J.stop i H/\E.nx σ H)\/(J.go i H/\∃N:St->Hp->Prop,(∀σ' H',N σ' H'->∃m',m' < m/\W (i + 1) m' σ' H')/\∀x H',J.yld i H x H'->gD X t x σ H' fun σ2 H2=>sD X fb { E with nx:=N,ct:=N,bk:=E.nx } σ2 H2):=by
 refine ⟨fun i m σ H=>i + m=ds.length/\∃δ',RepSt X.K H0 H σ δ'/\NOut X H0 H (forD t fb (ds.drop i) δ') E,⟨ds.length,by omega,δ,R,by simpa using h⟩,?_⟩
 rintro i m σ1 H1 ⟨hm,δ1,R1,h1⟩
 obtain ⟨y1,y2⟩:=y H1 R1.same
 by_cases hi:i < ds.length
 ·right
  have hd:ds[i]? = some ds[i]:=List.getElem?_eq_getElem hi;obtain ⟨go,yl⟩:=y1 i ds[i] hd;refine ⟨go,fun σ' H'=>(i + 1) + (m - 1)=ds.length/\∃δ',RepSt X.K H0 H' σ' δ'/\NOut X H0 H' (forD t fb (ds.drop (i + 1)) δ') E,fun σ' H' n=>⟨m - 1,by omega,n⟩,fun x H' yx=>?_⟩;obtain ⟨e,p⟩:=yl x H' yx;rw [List.drop_eq_getElem_cons hi] at h1;exact ft' (R1.mono e) p (h1.tk e.tk) fun δ' σ' H'' _ r z=>⟨by omega,δ',r,z⟩
 ·left
  have e:i=ds.length:=by omega
  subst e;rw [List.drop_eq_nil_of_le (Nat.le_refl _)] at h1;exact ⟨y2,h1 σ1 H1 (TK.refl H1) R1⟩
theorem iP' {o:Out} (h:∀x δ',o≠.err x δ') (x:Exn) (δ':DS):thawO o≠.err x δ':=by
 cases o with
 | err y δ=>exact (h y δ rfl).elim
 | _=>intro z; cases z
theorem bI' {fi:DS->Res (List D)} (hc:X.calm=true) (hi:PID X tg iter fi) (hg:PGD X tg t) (hb:PSDs X body fb) (hf:∀x,foldedSetIterable iter X.env x=pure x:=by intro _; rfl) :
  PSD X (.For tg iter body [] pos) (forS t fi fb):=by
 refine gV' (fun δ=>lT' fun ds=>iP' (eN' t fb ds (thaw δ))) fun pins s σ H E I h=>?_;obtain ⟨G,δ,R,h⟩:=h;refine jC' (X:=X.nox) PassesOwn.never hc hi.pi hg.pg hb.ps hf pins s σ H E I ?_;unfold forS at h
 cases q:fi δ with
 | stuck=>simp only [q] at h; exact h.elim
 | err x=>simp only [q] at h; exact h.elim
 | ok ds =>
  simp only [q] at h;refine ⟨G,δ,ds,R,q,fun J H1 e1 y=>?_⟩;have R1:=(R.mono e1);exact gj' y R1.thaw (NOut.thaw R1.same (h.tk e1.tk))
end
section
open HT
variable {prog:Program} {w:World} {A:Around} {E:Value->Shared->Prop} {s:Shared}
theorem hv' {t sl:Addr} {items:Array Value} {vl vu:Value} {lo hi:Option Int} {Q:Value->Shared->Prop} (ht:IsTup s.heap t items) (hs:s.heap.IsSliceOf sl vl vu .none) (pl:IsPart vl lo) (pu:IsPart vu hi)
  (hw:sIx items.size 0 lo=0/\sIx items.size items.size hi=items.size) (h:Q (.ref t) s):wpAny (model prog w) A (getItem (.ref t) (.ref sl)) Q E s:=by
 obtain ⟨os,hos,hcs,hds⟩:=id hs;unfold getItem;refine wpAny_holding (wpAny_bind (wpAny_sequenceKey ht.typeIs (by decide) ?_));refine wpAny_bind (wpAny_callSpecial?_slot (name:=Str.ofString "__getitem__") ht.typeIs PyProof.Rows.slot_tuple_getitem (wpAny_call_entry PyProof.Rows.slot_tuple_getitem ht.typeIs entry_tuple_getitem ?_ (args_tuple_getitem _ _)));show wpAny _ _ (Builtin.Tuple.tupleItemsOf (.ref t) >>= _) _ _ s;refine wpAny_bind (tupleItemsOf_ ht (wpAny_bind (wpAny_typeOf ⟨os,hos,hcs⟩ ?_)));rw [if_pos (by decide)];refine wpAny_bind (bC' hs pl pu ?_);obtain ⟨w1,w2⟩:=hw;have hc:(((sIx items.size 0 lo:Nat):Int) == 0 && (1:Int) == 1 && (sIx items.size items.size hi - sIx items.size 0 lo) == items.size)=true:=by
  rw [w1,w2]; simp
 show wpAny _ _ (if (((sIx items.size 0 lo:Nat):Int) == 0 && (1:Int) == 1 && (sIx items.size items.size hi - sIx items.size 0 lo) == items.size)=true then _ else _) _ _ s
 rw [if_pos hc];refine wpAny_bind (m:=Builtin.Tuple.tupleIsExact _) (wpAny_bind (wpAny_typeOf ht.typeIs (wpAny_pure ?_)));rw [if_pos (by decide)];exact wpAny_bind (wpAny_rule (wpAny_pure ⟨_,rfl,wpAny_pure h⟩))
end
noncomputable def rSlW (K:PySem.W.Frag):V->Option Int->Option Int->Hp->VK->Prop:=fun x lo hi H Q=>∃a xs,x=.ref a/\SqT K H a xs/\(HT.sIx xs.length 0 lo=0/\HT.sIx xs.length xs.length hi=xs.length)/\Q (.ref a) H
theorem iQ' {X:Cx}:SlR X (rSlW X.K):=by
 intro pins s σ H x v vl vu lo hi sl Q I rx hs pl pu h;obtain ⟨a,xs,rfl,hx,hw,q⟩:=h
 cases rx
 obtain ⟨its,r,ht,hz⟩:=I.tuple hx;have hlen:its.toArray.size=xs.length:=by rw [List.size_toArray]; exact r.length.symm
 exact ⟨"tuple",_,PyProof.Rows.slot_tuple_getitem.lookup,ht.typeIs,hv' ht hs pl pu (by rw [hlen]; exact hw) ⟨.ref a,H,I,rfl,q⟩⟩
noncomputable def OPost (X:Cx) (pins:List (Addr×Obj)) (σ:St) (H:Hp) (r:Res (Option Int)) (u:Value) (s1:Shared):Prop:=∃o H1,r=.ok o/\Inv X pins σ H1 s1/\IsPart u o/\Same H H1
noncomputable def POD (X:Cx) (e:Option Expr) (f:DS->Res (Option Int)):Prop :=
 ∀(pins:List (Addr×Obj)) (s:Shared) (σ:St) (G H:Hp) (δ:DS),Inv X pins σ H s->RepSt X.K G H σ δ->f δ≠.stuck ->
  wpAny (model X.prog X.w) X.A (evalPart e X.env) (OPost X pins σ H (f δ)) (XPost X pins σ H s.heap (f δ)) s
noncomputable def partG:D->Res (Option Int)
 | .int i=>.ok (some i)
 | _=>.stuck
noncomputable def noPart:DS->Res (Option Int):=fun _=>.ok none
noncomputable def partF (f:DS->Res D):DS->Res (Option Int):=fun δ=>(f δ).bind partG
noncomputable def cutL (ds:List D) (lo hi:Option Int):List D:=(ds.drop (HT.sIx ds.length 0 lo)).take (HT.sIx ds.length ds.length hi - HT.sIx ds.length 0 lo)
noncomputable def cutD (d:D) (lo hi:Option Int):Res D:=match d with
 | .str z=>if z.length<=sizeLine then .ok (.str (Txt.slice z lo hi)) else .stuck
 | .lst ds=>.ok (.lst (cutL ds lo hi))
 | .tup ds=>.ok (.tup (cutL ds lo hi))
 | _=>.stuck
noncomputable def sliceF (fe:DS->Res D) (fl fu:DS->Res (Option Int)):DS->Res D:=fun δ=>(fe δ).bind fun d=>(fl δ).bind fun l=>(fu δ).bind fun u=>cutD d l u
theorem lX' (d:D) (lo hi:Option Int):NoErr (cutD d lo hi):=by
 unfold cutD; split <;> first | exact ak' | exact af' | exact az' ak' af'
theorem Reps.take' {K:PySem.W.Frag} {H:Hp}:∀(n:Nat) {ds:List D} {vs:List V},Reps K H ds vs->Reps K H (ds.take n) (vs.take n)
 | 0,_,_,_=>by simp only [List.take_zero]; exact Reps.nil
 | n + 1,[],_,h=>by cases h.nil_of; exact Reps.nil
 | n + 1,d :: ds,_,h=>by
  obtain ⟨v,vs,rfl,r,q⟩:=h.cons_of;exact Reps.cons r (Reps.take' n q)
theorem Reps.cut {K:PySem.W.Frag} {H:Hp} {ds:List D} {vs:List V} (h:Reps K H ds vs) (lo hi:Option Int):Reps K H (cutL ds lo hi) (cutV vs lo hi):=by
 unfold cutL cutV;rw [h.length];exact Reps.take' _ (Reps.drop _ h)
section
variable {X:Cx} {e:Expr} {fe:DS->Res D} {lo hi:Option Expr} {fl fu:DS->Res (Option Int)} {pos p2:Pos}
theorem ax':POD X none noPart:=by
 intro pins s σ G H δ I R _;rw [evalPart_none];exact wpAny_pure ⟨none,H,rfl,I,.none,Same.refl H⟩
theorem ar' (h:PD X e fe):POD X (some e) (partF fe):=by
 intro pins s σ G H δ I R hs;unfold partF at hs ⊢;rw [evalPart_some];refine h.use I R (at' hs) (fun d u s1 v H1 q I1 r1 e1 b1 p1=>?_) fun e s1 q=>q.same fun x z=>aw' z;have h2:=av' hs q
 cases d with
 | int i =>
  rw [repI p1] at r1;obtain ⟨t,rfl⟩:=r1;exact ⟨some i,H1,by rw [q]; rfl,I1,.int i t,e1⟩
 | _=>exact (h2 rfl).elim
theorem POD.use {pins:List (Addr×Obj)} {s:Shared} {σ:St} {G H:Hp} {δ:DS} (h:POD X lo fl) (I:Inv X pins σ H s) (R:RepSt X.K G H σ δ) (hs:fl δ≠.stuck) {P E:Value->Shared->Prop}
  (k:∀o u s1 H1,fl δ=.ok o->Inv X pins σ H1 s1->IsPart u o->Same H H1->Back H s.heap s1.heap->P u s1)
  (kx:∀e s1,XPost X pins σ H s.heap (fl δ) e s1->E e s1):wpAny (model X.prog X.w) X.A (evalPart lo X.env) P E s:=by
 refine wpAny_mono (h (pins ++ allP X H s.heap) s σ G H δ I.all R hs) (fun u s1 ⟨o,H1,q1,q2,q3,q4⟩=>k o u s1 H1 q1 q2.unpinned q3 q4 (I.backTo q2)) fun e s1 ⟨x,a,C,H1,q1,q2,q3,q4,q5,q6⟩=>kx e s1 ⟨x,a,C,H1,q1,q2,q3.unpinned,q4,q5,q6⟩
noncomputable def rSlS:V->Option Int->Option Int->Hp->VK->Prop:=fun x lo hi H Q=>∃z,x=.str z/\z.length<=sizeLine/\Q (.str (Txt.slice z lo hi)) H
theorem sl_str:SlR X rSlS:=by
 intro pins s σ H x v vl vu lo hi sl Q I rx hs pl pu h;obtain ⟨z,rfl,hz,q⟩:=h;obtain ⟨t,rfl⟩:=rx;refine ⟨"str",_,PySem.F.slot_str_getitem.lookup,typeIs_str _ _ _,?_⟩;have hl:∃l:Option (Int×Tok),vl=partValue l/\l.map (·.1)=lo:=by
  cases pl with
  | none=>exact ⟨none,rfl,rfl⟩
  | int i t=>exact ⟨some (i,t),rfl,rfl⟩
 have hu:∃u:Option (Int×Tok),vu=partValue u/\u.map (·.1)=hi:=by
  cases pu with
  | none=>exact ⟨none,rfl,rfl⟩
  | int i t=>exact ⟨some (i,t),rfl,rfl⟩
 obtain ⟨l,rfl,rfl⟩:=hl;obtain ⟨u,rfl,rfl⟩:=hu;refine wpAny_getItem_str_slice (l:=l) (u:=u) (st:=none) hs rfl ?_;exact post_val_or_str ⟨Nat.le_trans (Txt.slice_le z _ _) hz,fun t' k=>⟨.str _,H,I.tok _,⟨_,rfl⟩,q⟩⟩
theorem lY' {H:Hp} {d r:D} {v:V} {lo hi:Option Int} (p:Rep X.K H d v) (e:cutD d lo hi=.ok r):(fun x lo hi H Q=>rSlS x lo hi H Q\/rSlL X.K x lo hi H Q\/rSlT X.K x lo hi H Q\/rSlW X.K x lo hi H Q) v lo hi H (fun z H'=>Same H H'/\Rep X.K H' r z):=by
 unfold cutD at e
 split at e
 ·rename_i z
  split at e
  ·rename_i hz
   cases e
   exact .inl ⟨z,repS p,hz,Same.refl H,mkS'⟩
  ·cases e
 ·rename_i ds
  cases e
  obtain ⟨a,xs,rfl,hq,rr⟩:=repL p;exact .inr (.inl ⟨a,xs,rfl,hq,fun p hp=>⟨an' hp _,mkL (SqL.of aq') ((rr.cut _ _).mono (an' hp _))⟩⟩)
 ·rename_i ds
  cases e
  obtain ⟨a,xs,rfl,hq,rr⟩:=repT p
  by_cases hw:HT.sIx ds.length 0 lo=0/\HT.sIx ds.length ds.length hi=ds.length
  ·have ec:cutL ds lo hi=ds:=by unfold cutL; rw [hw.1,hw.2]; simp
   exact .inr (.inr (.inr ⟨a,xs,rfl,hq,by rw [rr.length]; exact hw,Same.refl H,by rw [ec]; exact mkT hq rr⟩))
  ·exact .inr (.inr (.inl ⟨a,xs,rfl,hq,by rw [rr.length]; exact hw,fun p hp=>⟨an' hp _,mkT (SqT.of aq') ((rr.cut _ _).mono (an' hp _))⟩⟩))
 ·cases e
theorem aB' (he:PD X e fe) (hl:POD X lo fl) (hu:POD X hi fu):PD X (.Subscript e (.Slice lo hi none p2) pos) (sliceF fe fl fu):=by
 intro pins s σ G H δ I R hs;unfold sliceF at hs ⊢;refine Subscript_ (he.use I R (at' hs) (fun d v s1 x H1 q I1 r1 e1 b1 p1=>?_) fun e s1 q=>q.same fun x z=>aw' z);have h2:=av' hs q;rw [q,Res.bind_ok];refine wpAny_Slice (hl.use I1 (R.mono e1) (at' h2) (fun l vl s2 H2 q2 I2 pl e2 b2=>?_) fun e s2 p=>p.back e1 b1 fun x z=>aw' z);have h3:=av' h2 q2;rw [q2,Res.bind_ok];refine hu.use I2 ((R.mono e1).mono e2) (at' h3) (fun u vu s3 H3 q3 I3 pu e3 b3=>?_) fun e s3 p=>(p.back e2 b2 (r':=(fu δ).bind fun u=>cutD d l u) fun x z=>aw' z).back e1 b1 fun x z=>z;have h4:=av' h3 q3;rw [q3,Res.bind_ok,evalPart_none];refine wpAny_pure ?_;have I4:Inv X pins σ H3 { s3 with heap:=s3.heap.push { cls:=.type "slice",data:=.fields #[vl,vu,.none] } }:=I3.kept (t':=s3.toks) fun b ob q=>Heap.get?_push_of_some _ q
 cases qg:cutD d l u with
 | stuck=>exact (h4 qg).elim
 | err z=>exact (lX' d l u z qg).elim
 | ok r =>
  obtain ⟨T,id,hT,ht,hg⟩:=(sl_str.or (sl_list.or (sl_tup.or iQ')):SlR X.nox _) pins { s3 with heap:=s3.heap.push { cls:=.type "slice",data:=.fields #[vl,vu,.none] } } σ H3 x v vl vu l u s3.heap.objs.size _ (I4.wish _) r1 (Heap.IsSliceOf.new ..) pl pu (lY' (X:=X) ((p1.mono e2).mono e3) qg)
  show wpAny (model X.prog X.w) X.A (subscriptTail e (.Slice lo hi none p2) v (.ref s3.heap.objs.size)) _ _ { s3 with heap:=s3.heap.push { cls:=.type "slice",data:=.fields #[vl,vu,.none] } }
  refine wpAny_mono (tail_any (ops:=[.ref s3.heap.objs.size,v]) ht hT hg (by with_unfolding_all rfl)) (fun w s4 q4=>?_) fun _ _ z=>z.elim;obtain ⟨z,H4,I5,r5,e5,p5⟩:=q4;exact ⟨r,z,H4,rfl,I5.unwish,r5,((e1.trans e2).trans e3).trans e5,p5⟩
end
mutual
noncomputable def flatD:D->Bool
 | .tup ds=>flatDs ds
 | .lst _=>false
 | .excf _ _ _=>false
 | _=>true
noncomputable def flatDs:List D->Bool
 | []=>true
 | d :: ds=>flatD d && flatDs ds
end
mutual
theorem Rep.lset {K:PySem.W.Frag} {H:Hp} {a:Addr} {xs ys:List V} (hH:H a=some (.lst xs)):∀{d:D} {v:V},flatD d=true->Rep K H d v->Rep K (upd H a (.lst ys)) d v
 | .non,v,_,h=>by rw [Rep] at h ⊢; exact h
 | .bl _,v,_,h=>by rw [Rep] at h ⊢; exact h
 | .int _,v,_,h=>by rw [Rep] at h ⊢; exact h
 | .str _,v,_,h=>by rw [Rep] at h ⊢; exact h
 | .lst _,v,hf,_=>by rw [flatD] at hf; cases hf
 | .tup ds,v,hf,h=>by
  obtain ⟨b,zs,rfl,hq,r⟩:=repT h;rw [flatD] at hf;refine mkT ?_ (Reps.lset hH hf r);rcases hq with (hq | ⟨o,hq⟩) | hq
  ·exact .inl (.inl (by rw [am' (fun z=>by subst z; rw [hH] at hq; cases hq)]; exact hq))
  ·exact .inl (.inr ⟨o,by rw [am' (fun z=>by subst z; rw [hH] at hq; cases hq)]; exact hq⟩)
  ·exact .inr hq
 | .exc n,v,_,h=>by
  rw [Rep] at h ⊢;obtain ⟨b,C,rfl,hC,hb⟩:=h;exact ⟨b,C,rfl,hC,by rw [am' (fun z=>by subst z; rw [hH] at hb; cases hb)]; exact hb⟩
 | .excf n f d,v,hf,h=>by rw [flatD] at hf; cases hf
 | .dct,v,_,h=>by
  rw [Rep] at h ⊢;obtain ⟨b,rfl,hb⟩:=h;exact ⟨b,rfl,by rw [am' (fun z=>by subst z; rw [hH] at hb; cases hb)]; exact hb⟩
theorem Reps.lset {K:PySem.W.Frag} {H:Hp} {a:Addr} {xs ys:List V} (hH:H a=some (.lst xs)):∀{ds:List D} {vs:List V},flatDs ds=true->Reps K H ds vs->Reps K (upd H a (.lst ys)) ds vs
 | [],_,_,h=>by cases h.nil_of; exact Reps.nil
 | d :: ds,_,hf,h=>by
  rw [flatDs,Bool.and_eq_true] at hf;obtain ⟨v,vs,rfl,r,q⟩:=h.cons_of;exact Reps.cons (Rep.lset hH hf.1 r) (Reps.lset hH hf.2 q)
end
noncomputable def keepSV:SV->Option SV
 | .val d=>if flatD d=true then some (.val d) else none
 | .arg d=>some (.arg d)
 | .own ds=>if flatDs ds=true then some (.own ds) else none
noncomputable def appS (i:Nat) (ds:List D) (d:D) (δ:DS):DS:=(δ.map fun o=>o.bind keepSV).set i (some (.own (ds ++ [d])))
theorem cC' {δ:DS} {j:Nat} {sv:SV} (h:(δ.map fun o=>o.bind keepSV)[j]? = some (some sv)):∃sv0,δ[j]? = some (some sv0)/\keepSV sv0=some sv:=by
 rw [List.getElem?_map] at h
 cases z:δ[j]? with
 | none=>rw [z] at h; cases h
 | some o =>
  cases o with
  | none=>rw [z] at h; cases h
  | some sv0=>rw [z] at h; exact ⟨sv0,rfl,by simpa using h⟩
theorem fw' {sv:SV} {ds:List D} (h:keepSV sv=some (.own ds)):sv=.own ds/\flatDs ds=true:=by
 cases sv with
 | val d=>simp only [keepSV] at h; split at h <;> cases h
 | arg d=>cases h
 | own es =>
  simp only [keepSV] at h
  split at h
  ·rename_i c; cases h; exact ⟨rfl,c⟩
  ·cases h
theorem RepSt.app {K:PySem.W.Frag} {G H:Hp} {σ:St} {δ:DS} {i:Nat} {ds:List D} {d:D} {a:Addr} {xs:List V} {v:V} (R:RepSt K G H σ δ) (hδ:δ[i]? = some (some (.own ds))) (hσ:σ[i]? = some (some (.ref a))) (hH:H a=some (.lst xs)) (r:Reps K H ds xs) (hG:G a=none) (hf:flatDs ds=true) (hd:flatD d=true) (p:Rep K H d v) :
  RepSt K G (upd H a (.lst (xs ++ [v]))) σ (appS i ds d δ) where
 same:=fun b o e=>by
  have hb:b≠a:=fun z=>by subst z; rw [hG] at e; cases e
  rw [am' hb]; exact R.same b o e
 len:=by unfold appS; rw [List.length_set,List.length_map]; exact R.len
 at_:=fun j sv h=>by
  unfold appS at h;have hl:i < δ.length:=(List.getElem?_eq_some_iff.mp hδ).1
  by_cases hj:i=j
  ·subst hj;rw [List.getElem?_set_self (by rw [List.length_map]; exact hl)] at h
   cases h
   exact ⟨.ref a,hσ,a,xs ++ [v],rfl,aq',(Reps.lset hH hf r).append (Reps.cons (Rep.lset hH hd p) Reps.nil),hG⟩
  ·rw [List.getElem?_set_ne hj] at h;obtain ⟨sv0,q1,q2⟩:=cC' h;obtain ⟨u,e1,e2⟩:=R.at_ j sv0 q1;refine ⟨u,e1,?_⟩
   cases sv0 with
   | val d' =>
    simp only [keepSV] at q2
    split at q2
    ·rename_i c; cases q2; exact Rep.lset hH c e2
    ·cases q2
   | arg d'=>cases q2; exact e2
   | own es =>
    simp only [keepSV] at q2
    split at q2
    ·rename_i c
     cases q2
     obtain ⟨b,ys,rfl,w2,w3,w4⟩:=e2;have hb:b≠a:=fun z=>by subst z; exact R.sep i j ds es (.ref b) hj hδ q1 hσ e1
     exact ⟨b,ys,rfl,by rw [am' hb]; exact w2,Reps.lset hH c w3,w4⟩
    ·cases q2
 sep:=fun j k es fs u hjk h1 h2 h3=>by
  have get:∀(m:Nat) (gs:List D),(appS i ds d δ)[m]? = some (some (.own gs))->∃gs',δ[m]? = some (some (.own gs')):=fun m gs h=>by
   unfold appS at h
   by_cases hm:i=m
   ·subst hm; exact ⟨ds,hδ⟩
   ·rw [List.getElem?_set_ne hm] at h;obtain ⟨sv0,q1,q2⟩:=cC' h;obtain ⟨rfl,_⟩:=fw' q2;exact ⟨gs,q1⟩
  obtain ⟨es',g1⟩:=get j es h1;obtain ⟨fs',g2⟩:=get k fs h2;exact R.sep j k es' fs' u hjk g1 g2 h3
section
variable {X:Cx} {e:Expr} {es:List Expr} {fe:DS->Res D} {fs:DS->Res (List D)} {x:Str} {pos pos' lp np apos cpos:Pos}
end
end DL
namespace DL
open PySem PySem.Spec PyProof.Rows L2
section
variable {prog:Program} {w:World} {A:Around} {E:Value->Shared->Prop} {s:Shared} {I:Addr} {fp wr:List Addr} {G:Array GenState->Array GenState->Prop} {n:Nat} {P:Nat->Value->Prop} {St:Nat->Shared->Prop}
end
section
variable {prog:Program} {w:World} {A:Around} {E:Value->Shared->Prop} {s:Shared} {x:Str} {t:Tok} {Q:Value->Shared->Prop}
end
section
variable {X:Cx} {e:Expr} {fe:DS->Res D} {sep:Str} {p0 apos np rp cpos:Pos}
end
noncomputable def closL (cells:List (Str×Addr)):List (Str×NameKind)->List (Str×Addr)->List (Str×Addr)
 | [],acc=>acc
 | y :: r,acc=>if (y.2 == NameKind.free)=true then closL cells r ((y.1,(cells.lookup y.1).getD 0) :: acc) else closL cells r acc
theorem gk' {scope:Scope} {env:Env} (h:∀y∈scope.names,y.2=.free->∃c,env.cells.lookup y.1=some c):closureFor scope env=pure (closL env.cells scope.names []):=by
 unfold closureFor;generalize scope.names=ns at h;show (forIn ns ([]:List (Str×Addr)) _ >>= fun r=>pure r)=_;have key:∀(ns:List (Str×NameKind)) (acc:List (Str×Addr)),(∀y∈ns,y.2=.free->∃c,env.cells.lookup y.1=some c) ->
   (forIn ns acc (fun (x:Str×NameKind) (cs:List (Str×Addr))=>(match x with
    | (name,kind)=>if (kind == NameKind.free)=true then do
      let c <- cellOf env name
      pure (ForInStep.yield ((name,c) :: cs))
     else pure (ForInStep.yield cs):Sem _)))=pure (closL env.cells ns acc):=by
  intro ns
  induction ns with
  | nil=>intro acc _; rfl
  | cons y r ih =>
   intro acc hy;obtain ⟨n,k⟩:=y;rw [List.forIn_cons]
   by_cases c:(k == NameKind.free)=true
   ·obtain ⟨a,ha⟩:=hy (n,k) (by simp) (by simpa using c);have ha':env.cells.lookup n=some a:=ha;simp only [c,if_true,closL,ha',Option.getD_some];have:cellOf env n=pure a:=by unfold cellOf; rw [ha']
    rw [this];exact ih _ fun z hz=>hy z (List.mem_cons_of_mem _ hz)
   ·simp only [c,if_false,closL];exact ih _ fun z hz=>hy z (List.mem_cons_of_mem _ hz)
 exact congrArg (fun z=>z >>= fun r=>pure r) (key ns [] h)
theorem cP' {cells:List (Str×Addr)}:∀(ns:List (Str×NameKind)) (acc:List (Str×Addr)),(∀y∈ns,y.2=.free->∃c,cells.lookup y.1=some c)->(∀x c,acc.lookup x=some c->cells.lookup x=some c) ->
  ∀x c,(closL cells ns acc).lookup x=some c->cells.lookup x=some c
 | [],acc,_,ha,x,c,h=>ha x c h
 | y :: r,acc,hn,ha,x,c,h=>by
  unfold closL at h
  split at h
  ·rename_i q;refine cP' r _ (fun z hz=>hn z (List.mem_cons_of_mem _ hz)) (fun x' c' h'=>?_) x c h;obtain ⟨a,e⟩:=hn y (by simp) (by simpa using q);rw [List.lookup_cons] at h'
   split at h'
   ·rename_i q2;have:x'=y.1:=by simpa using q2
    subst this;rw [e] at h' ⊢;simpa using h'
   ·exact ha x' c' h'
  ·exact cP' r _ (fun z hz=>hn z (List.mem_cons_of_mem _ hz)) ha x c h
theorem cl' {cells:List (Str×Addr)} {x:Str}:∀(ns:List (Str×NameKind)) (acc:List (Str×Addr)),((x,NameKind.free)∈ns\/∃c,acc.lookup x=some c)->∃c,(closL cells ns acc).lookup x=some c
 | [],acc,h=>by
  rcases h with h | h
  ·cases h
  ·exact h
 | y :: r,acc,h=>by
  unfold closL
  split
  ·rename_i q;refine cl' r _ ?_;rcases h with h | ⟨c,h⟩
   ·rcases List.mem_cons.mp h with z | z
    ·subst z;exact .inr ⟨(cells.lookup x).getD 0,by rw [List.lookup_cons]; simp⟩
    ·exact .inl z
   ·refine .inr ?_;rw [List.lookup_cons]
    split
    ·exact ⟨_,rfl⟩
    ·exact ⟨c,h⟩
  ·rename_i q;refine cl' r _ ?_;rcases h with h | h
   ·rcases List.mem_cons.mp h with z | z
    ·subst z; exact (q rfl).elim
    ·exact .inl z
   ·exact .inr h
theorem lookup_map2 {f:Str×NameKind->Str×NameKind} (hf:∀y,(f y).1=y.1) (x:Str):∀(ns:List (Str×NameKind)),(ns.map f).lookup x=(ns.lookup x).map fun k=>(f (x,k)).2
 | []=>rfl
 | y :: r=>by
  obtain ⟨n,k⟩:=y;rw [List.map_cons,show f (n,k)=(n,(f (n,k)).2) from Prod.ext (hf _) rfl,List.lookup_cons,List.lookup_cons,lookup_map2 hf x r]
  by_cases c:x=n
  ·subst c; simp
  ·have:(x == n)=false:=by simpa using c
   simp [this]
theorem bR' {scope:Scope} {env:Env} (x:Str):(relabel scope env).names.lookup x=(scope.names.lookup x).map fun k=>if (k == .free && env.scope.kind == .function && env.kindOf x == some .cell)=true then NameKind.cell else k:=by
 show List.lookup x (List.map _ scope.names)=_;rw [lookup_map2 (fun y=>by obtain ⟨n,k⟩:=y; dsimp only; split <;> rfl)]
 cases scope.names.lookup x with
 | none=>rfl
 | some k =>
  simp only [Option.map_some]
  split <;> rfl
theorem kB' {X:Cx} {m:Nat} {fr:List Nat} {N':List Str} {scope:Scope} {n:Nat} (sc:Scope) (N:List Str) (hsc:X.env.scope=sc) (hcl:X.env.cells=cellsFrom n sc.names []) (hN:X.N=N)
  (hf:∀y∈scope.names,y.2=.free->sc.names.lookup y.1=some .cell) (hc:∀y∈scope.names,y.2≠.cell) (hk:scope.kind=.function) (hks:sc.kind=.function)
  (hn:∀x∈scope.names,x.2=.local->scope.names.lookup x.1=some .local) (hl:N'.length=m + fr.length)
  (hfr:∀j,j < fr.length->∃x,N'[m + j]? = some x/\N[fr.getD j 0]? = some x/\scope.names.lookup x=some .free/\sc.names.lookup x=some .cell):Around' X m fr N' scope (closL X.env.cells scope.names []):=by
 have hs:∀y∈scope.names,y.2=.free->∃c,X.env.cells.lookup y.1=some c:=fun y hy e=>by
  rw [hcl]; exact dp' (hf y hy e)
 have hfree:∀x k,scope.names.lookup x=some k->k≠.cell:=fun x k h=>hc _ (PySem.mem_of_lookup h);refine { clos:=gk' hs,nocell:=hc,kind:=hk,names:=hn,sub:=cP' _ _ hs (fun x c h=>by simp at h),has:=fun x h=>?_,len:=hl,free:=fun j i h=>?_ }
 ·rw [bR'] at h
  cases q:scope.names.lookup x with
  | none=>rw [q] at h; rcases h with h | h <;> cases h
  | some k =>
   rw [q] at h;have:k=.free:=by
    have h2:=hfree x k q
    cases k <;> first | rfl | exact (h2 rfl).elim | (rcases h with h | h <;> simp at h)
   subst this;exact cl' _ _ (.inl (PySem.mem_of_lookup q))
 ·have hj:j < fr.length:=by
   rcases Nat.lt_or_ge j fr.length with z | z
   ·exact z
   ·rw [List.getElem?_eq_none z] at h; cases h
  obtain ⟨x,e1,e2,e3,e4⟩:=hfr j hj;have hi:fr.getD j 0=i:=by rw [List.getD_eq_getElem?_getD,h]; rfl
  rw [hi] at e2;obtain ⟨c,e5⟩:=cl' (cells:=X.env.cells) scope.names [] (.inl (PySem.mem_of_lookup e3));refine ⟨x,c,e1,by rw [hN]; exact e2,by rw [hsc]; exact .inr (.inl e4),.inl (by unfold Env.kindOf; rw [hsc]; exact e4),e5,.inl ?_⟩;show (relabel scope X.env).names.lookup x=_;rw [bR',e3];have:X.env.kindOf x=some .cell:=by unfold Env.kindOf; rw [hsc]; exact e4
  simp [this,hsc,hks]
noncomputable def frOk (sc scope:Scope) (N N':List Str) (m:Nat) (fr:List Nat):Bool :=
 scope.names.all (fun y=>decide (y.2≠.cell) && (!(decide (y.2=.free)) || decide (sc.names.lookup y.1=some .cell)) && (!(decide (y.2=.local)) || decide (scope.names.lookup y.1=some .local))) &&
 decide (N'.length=m + fr.length) && (List.range fr.length).all fun j=>match N'[m + j]? with
  | some x=>decide (N[fr.getD j 0]? = some x) && decide (scope.names.lookup x=some .free) && decide (sc.names.lookup x=some .cell)
  | none=>false
theorem bq' {X:Cx} {m:Nat} {fr:List Nat} {N':List Str} {scope:Scope} {n:Nat} (sc:Scope) (N:List Str) (hsc:X.env.scope=sc) (hcl:X.env.cells=cellsFrom n sc.names []) (hN:X.N=N) (hk:scope.kind=.function) (hks:sc.kind=.function)
  (h:frOk sc scope N N' m fr=true):Around' X m fr N' scope (closL X.env.cells scope.names []):=by
 unfold frOk at h;simp only [Bool.and_eq_true,List.all_eq_true,decide_eq_true_eq] at h;obtain ⟨⟨h1,h2⟩,h3⟩:=h;refine kB' sc N hsc hcl hN (fun y hy e=>?_) (fun y hy=>(h1 y hy).1.1) hk hks (fun y hy e=>?_) h2 fun j hj=>?_
 ·have:=(h1 y hy).1.2;simpa [e] using this
 ·have:=(h1 y hy).2;simpa [e] using this
 ·have:=h3 j (by simpa using hj)
  split at this
  ·rename_i x q;simp only [Bool.and_eq_true,decide_eq_true_eq] at this;exact ⟨x,q,this.1.1,this.1.2,this.2⟩
  ·cases this
theorem ed' {K:PySem.W.Frag} {H:Hp} {lo:Int} {n:Nat}:Yields K (Itr lo n) H (rangeD lo n):=by
 intro H' e;refine ⟨fun i d hd=>?_,by rw [ci']; exact Nat.le_refl _⟩;have hi:i < n:=by
  rcases Nat.lt_or_ge i (rangeD lo n).length with z | z
  ·rwa [ci'] at z
  ·rw [List.getElem?_eq_none z] at hd; cases hd
 refine ⟨hi,fun x H'' y=>?_⟩;obtain ⟨rfl,rfl⟩:=y;have e1:(rangeD lo n)[i]? = some (.int (lo + i)):=by
  have:=eO' lo n i hi;have h2:((rangeD lo n).drop i)[0]? = some (.int (lo + i)):=by rw [this]; rfl
  simpa using h2
 rw [e1] at hd
 cases hd
 exact ⟨Same.refl _,mkI⟩
theorem iR' {X:Cx} {tg:Expr} {pins:List (Addr×Obj)} {σ:St} {H H1:Hp} {lo:Int} {n:Nat} {r:Res (List D)} (e:Same H H1) (hr:r=.ok (rangeD lo n)) {itv:Value} {s2:Shared} (p:PIE X pins σ tg (fun J H'=>J=Itr lo n/\H'=H1) itv s2):IPost X pins σ H tg r itv s2:=by
 obtain ⟨it,fp,tn,J,H',q1,q2,q3,q4,q5,rfl,rfl⟩:=p;exact ⟨_,it,fp,tn,_,_,hr,q1,q2,q3,q4,q5,e,ed'⟩
theorem di' {X:Cx} {tg a:Expr} {fa:DS->Res (List D)} {p pos:Pos} (hg:Gl X "range") (hm:X.mg "range" = none) (ha:PAD X [a] fa) (hs:starEach [a] X.env=[(false,eval a X.env)]:=by rfl) :
  PID X tg (.Call (.Name "range" p) [a] [] pos) (fun δ=>(fa δ).bind rng1):=by
 intro pins s σ G H δ I R hn
 try dsimp only at hn ⊢
 refine Call_ (bG' I hg hm boot_range (PyProof.Rows.callWith_type1 (ha.use I R (at' hn) (fun ds us s1 vs H1 q I1 r1 e1 b1 p1=>?_) fun e s1 q=>q.same fun x z=>aw' z) hs rfl));have h2:=av' hn q;unfold rng1 at h2
 split at h2
 ·rename_i j;obtain ⟨v,ws,rfl,w1,w2⟩:=p1.cons_of
  cases w2.nil_of
  cases repI w1
  split at h2
  ·rename_i hj
   cases r1 with
   | cons r rr =>
    cases rr
    obtain ⟨t,rfl⟩:=r;refine call_range_1 ?_;refine wpAny_mono (iy' (R:=fun J H'=>J=Itr 0 j.toNat/\H'=H1) I1 (by omega) (by omega) hj.1 hj.2 ⟨by simp,rfl⟩) (fun itv s2 z=>iR' e1 (by rw [q,Res.bind_ok]; unfold rng1; simp only [hj,and_self,if_true]) z) fun _ _ z=>z
  ·exact (h2 rfl).elim
 ·exact (h2 rfl).elim
noncomputable def bindRg (f:DS->Res (List D)) (g:List D->Res (List D)):DS->Res (List D):=fun δ=>(f δ).bind g
noncomputable def tupleG:List D->Res D
 | [.lst ds]=>.ok (.tup ds)
 | [.tup ds]=>.ok (.tup ds)
 | _=>.stuck
theorem bd' (ds:List D):NoErr (tupleG ds):=by
 unfold tupleG
 split <;> first | exact ak' | exact af'
theorem eT' {X:Cx} (E:Value->Shared->Prop):CallR (X.wish E) (.type "tuple") (fun xs H Q=>∃p ys,xs=[.ref p]/\((SqL X.K H p ys/\∀l,H l=none->Q (.ref l) (upd H l (.tup ys)))\/(SqT X.K H p ys/\Q (.ref p) H))):=dt'
theorem bo' {X:Cx}:CallD X (.type "tuple") tupleG:=.of eT' fun H xs ds d Q r e q=>by
 unfold tupleG at e
 split at e
 ·rename_i es
  cases e
  obtain ⟨v,vs,rfl,p1,t⟩:=r.cons_of
  cases t.nil_of
  obtain ⟨a,ys,rfl,w1,w2⟩:=repL p1;exact ⟨a,ys,rfl,.inl ⟨w1,fun l hl=>q _ _ (an' hl _) (mkT (SqT.of aq') (w2.mono (an' hl _)))⟩⟩
 ·rename_i es
  cases e
  obtain ⟨v,vs,rfl,p1,t⟩:=r.cons_of
  cases t.nil_of
  obtain ⟨a,ys,rfl,w1,w2⟩:=repT p1;exact ⟨a,ys,rfl,.inr ⟨w1,q _ _ (Same.refl H) (mkT w1 w2)⟩⟩
 ·cases e
section
variable {prog:Program} {w:World} {A:Around} {E:Value->Shared->Prop} {s:Shared}
theorem aV' {it t:Addr} {i:Nat} {items:Array Value} {x:Value} {Q:Value->Shared->Prop} (hi:s.heap.IsTupleIter it t i) (ht:s.heap.IsTuple t items) (hx:items[i]? = some x)
  (h:∀h':Heap,h'.IsTupleIter it t (i + 1)->Heap.SameBut it s.heap h'->Q x { s with heap:=h' }):wpAny (model prog w) A (Builtin.SmallTypes.nextOf (.ref it)) Q E s:=by
 unfold Builtin.SmallTypes.nextOf;refine wpAny_bind (wpAny_callSpecial?_slot hi.typeIs slot_tupleiter_next ?_);refine wpAny_call (codeAny_call_builtin slot_tupleiter_next.plain entry_tupleiter_next (slot_tupleiter_next.check _ _ _ _ _ _ _ _ hi.typeIs (args_tupleiter_next _) ?_));obtain ⟨o,g,hc,hd⟩:=id hi;obtain ⟨ot,gt,htc,n,htd⟩:=id ht;refine wpAny_bind (m:=slotArgs _ _ _) (wpAny_pure ?_);refine wpAny_bind (m:=field _ _) (wpAny_field g hd rfl ?_);refine wpAny_bind (m:=field _ _) (wpAny_field g hd rfl ?_);refine wpAny_bind (m:=seqItems? _) (wpAny_seqItems gt htd ?_);simp only [Int.toNat_natCast,hx];refine wpAny_bind (wpAny_setField g hd (show 1 < 2 by decide) (wpAny_pure ?_));have d2:=Obj.data_mapFields hd (fun v=>v.setIfInBounds 1 (rawInt ((i:Int) + 1)));have g2:=Heap.get?_update_self (Obj.mapFields fun v=>v.setIfInBounds 1 (rawInt ((i:Int) + 1))) g (Obj.isFreed_of_fields d2);exact wpAny_pure (h _ ⟨_,g2,(by unfold Obj.mapFields; split <;> exact hc),d2⟩ (Heap.SameBut.update _ _ _))
theorem gl' {α:Type} {Q:α->Shared->Prop} (hh:A.handled=none) (h:∀(h':Heap) (e:Addr),(∀b o,s.heap.get? b=some o->h'.get? b=some o)->(∃o,h'.get? e=some o/\o.cls=.type "StopIteration")->E (.ref e) { s with heap:=h' }) :
  wpAny (model prog w) A (Builtin.SmallTypes.stopIteration:Sem α) Q E s:=by
 unfold Builtin.SmallTypes.stopIteration;refine wpAny_bind (m:=newExc _ _) ?_;rw [newExc.eq_1];refine wpAny_bind (wpAny_newTuple ?_ (by decide));rw [firstArgMember.eq_1];refine wpAny_bind (wpAny_bind (wpAny_pure (wpAny_pure ?_)));refine wpAny_newObj_type ?_;refine wpAny_raiseNew_none hh (h _ _ (fun b o e=>Heap.get?_push_of_some _ (Heap.get?_push_of_some _ e)) ⟨_,Heap.get?_push_size _ rfl,rfl⟩)
theorem aY' {it t:Addr} {i:Nat} {items:Array Value} {Q:Value->Shared->Prop} (hh:A.handled=none) (hi:s.heap.IsTupleIter it t i) (ht:s.heap.IsTuple t items) (hx:items[i]? = none)
  (h:∀(h':Heap) (e:Addr),Heap.ExtBut it s.heap h'->(∃o,h'.get? e=some o/\o.cls=.type "StopIteration")->E (.ref e) { s with heap:=h' }):wpAny (model prog w) A (Builtin.SmallTypes.nextOf (.ref it)) Q E s:=by
 unfold Builtin.SmallTypes.nextOf;refine wpAny_bind (wpAny_callSpecial?_slot hi.typeIs slot_tupleiter_next ?_);refine wpAny_call (codeAny_call_builtin slot_tupleiter_next.plain entry_tupleiter_next (slot_tupleiter_next.check _ _ _ _ _ _ _ _ hi.typeIs (args_tupleiter_next _) ?_));obtain ⟨o,g,hc,hd⟩:=id hi;obtain ⟨ot,gt,htc,n,htd⟩:=id ht;refine wpAny_bind (m:=slotArgs _ _ _) (wpAny_pure ?_);refine wpAny_bind (m:=field _ _) (wpAny_field g hd rfl ?_);refine wpAny_bind (m:=field _ _) (wpAny_field g hd rfl ?_);refine wpAny_bind (m:=seqItems? _) (wpAny_seqItems gt htd ?_);simp only [Int.toNat_natCast,hx];refine wpAny_bind (wpAny_rule (wpAny_bind (wpAny_setField g hd (show 0 < 2 by decide) ?_)));refine gl' hh fun h' e kp ex=>h h' e (fun b o' hb e'=>kp b o' ?_) ex;rw [Heap.get?_update_other _ _ (Ne.symm hb)]; exact e'
structure ZipT (h:Heap) (z TI TO i1 i2 t1 t2:Addr) (f0:Value) (i:Nat):Prop where
 zip:IsZip h z TI TO f0
 ti:IsPair h TI (.ref i1) (.ref i2)
 to:∃a b,IsPair h TO a b
 j1:h.IsTupleIter i1 t1 i
 j2:h.IsTupleIter i2 t2 i
theorem iS' {z TI TO i1 i2 t1 t2:Addr} {i:Nat} {xs ys:Array Value} {x y:Value} {Q:Option Value->Shared->Prop} (ap:List.Nodup [z,TI,TO,i1,i2]) (n1:t1∉[z,TI,TO,i1,i2]) (n2:t2∉[z,TI,TO,i1,i2])
  (Z:ZipT s.heap z TI TO i1 i2 t1 t2 .none i) (h1:s.heap.IsTuple t1 xs) (h2:s.heap.IsTuple t2 ys) (hx:xs[i]? = some x) (hy:ys[i]? = some y)
  (hQ:∀h':Heap,ZipT h' z TI TO i1 i2 t1 t2 (rawInt (s.heap.objs.size:Nat)) (i + 1)->IsPair h' s.heap.objs.size x y->(∀b o,b∉[z,TI,TO,i1,i2]->s.heap.get? b=some o->h'.get? b=some o)->Q (some (.ref s.heap.objs.size)) { s with heap:=h' }) :
  wpAny (model prog w) A (pyNext (.ref z)) Q E s:=by
 obtain ⟨gz,gti,⟨a,b,gto⟩,j1,j2⟩:=Z;have tz:s.TypeIs (.ref z) "zip":=⟨_,gz,rfl⟩;unfold pyNext;refine wpAny_bind (wpAny_attempt ?_);refine wpAny_callSpecial?_slot tz F.slot_zip_next ?_;refine wpAny_call (codeAny_call_builtin F.slot_zip_next.plain F.entry_zip_next (F.slot_zip_next.check _ _ _ _ _ _ _ _ tz (F.args_zip_next_1 _) ?_));unfold Builtin.«zip.__next__»;refine wpAny_bind (m:=slotArgs _ _ _) (wpAny_pure ?_);refine wpAny_bind (m:=field _ _) (wpAny_field gz rfl rfl ?_);refine wpAny_bind (m:=field _ _) (wpAny_field gz rfl rfl ?_);refine wpAny_bind (m:=seqItems? _) (wpAny_seqItems gti rfl ?_);dsimp only;refine wpAny_bind (m:=Builtin.SmallTypes.ownedTupleIsFree _) ?_;unfold Builtin.SmallTypes.ownedTupleIsFree;refine wpAny_bind (m:=field _ _) (wpAny_field gz rfl rfl ?_);refine wpAny_pure ?_;rw [if_pos rfl];refine wpAny_bind (wpAny_rule (wpAny_bind (m:=field _ _) (wpAny_field gz rfl rfl ?_)))
 try dsimp only
 refine wpAny_bind (wpAny_setField gz rfl (show 0 < 5 by decide) ?_);have hst:(#[Value.none,Value.bool false,Value.bool false,Value.ref TI,Value.ref TO][2] == Value.bool true)=false:=rfl;have dz0:=Obj.data_mapFields (o:={ cls:=Value.type "zip",data:=Data.fields #[Value.none,Value.bool false,Value.bool false,Value.ref TI,Value.ref TO] }) rfl (fun v=>v.setIfInBounds 0 Value.ellipsis);have gz0:=Heap.get?_update_self (Obj.mapFields fun v=>v.setIfInBounds 0 Value.ellipsis) gz (Obj.isFreed_of_fields dz0);have sb0:=Heap.SameBut.update s.heap z (Obj.mapFields fun v=>v.setIfInBounds 0 Value.ellipsis);generalize s.heap.update z (Obj.mapFields fun v=>v.setIfInBounds 0 Value.ellipsis)=h0 at gz0 sb0 ⊢;simp only [List.nodup_cons,List.mem_cons,List.not_mem_nil,or_false,not_or,List.nodup_nil,and_true,not_false_eq_true] at ap n1 n2;obtain ⟨⟨az1,az2,az3,az4⟩,⟨ai1,ai2,ai3⟩,⟨ao1,ao2⟩,a12⟩:=ap;obtain ⟨m1,m2,m3,m4,m5⟩:=n1;obtain ⟨q1,q2,q3,q4,q5⟩:=n2;have k0:∀b,b≠z->h0.get? b=s.heap.get? b:=sb0.2;have mvT:∀{h h':Heap} {c t:Addr} {xs:Array Value},(∀b,b≠c->h'.get? b=h.get? b)->t≠c->h.IsTuple t xs->h'.IsTuple t xs:=fun k n ⟨o,g,r⟩=>⟨o,(k _ n).trans g,r⟩;have mvI:∀{h h':Heap} {c t j:Addr} {n:Nat},(∀b,b≠c->h'.get? b=h.get? b)->j≠c->h.IsTupleIter j t n->h'.IsTupleIter j t n:=fun k n ⟨o,g,r⟩=>⟨o,(k _ n).trans g,r⟩;simp only [show [Value.ref i1,Value.ref i2].zipIdx=[(Value.ref i1,0),(Value.ref i2,1)] from rfl,List.forIn_cons,hst]
 refine wpAny_bind (wpAny_bind ?_);refine wpAny_bind (wpAny_onRaise ?_);refine wpAny_bind (m:=Builtin.SmallTypes.nextOf (.ref i1)) (aV' (mvI k0 (Ne.symm az3) j1) (mvT k0 m1 h1) hx fun h1' ji1 sb1=>?_);have k1:∀b,b≠i1->h1'.get? b=h0.get? b:=sb1.2;refine wpAny_pure ?_;have gto1:h1'.get? TO=some { cls:=Value.type "tuple",data:=Data.seq #[a,b] }:=(k1 _ ao1).trans ((k0 _ (Ne.symm az2)).trans gto);refine wpAny_bind (wpAny_seqItems gto1 rfl ?_);refine wpAny_bind (wpAny_updateSeq gto1 rfl ?_ (show 2<=sizeLine by decide) (show 2<=sizeLine + 1 by decide));have gto2:(h1'.update TO (Obj.mapSeq fun v=>v.setIfInBounds 0 x)).get? TO=some { cls:=Value.type "tuple",data:=Data.seq #[x,b] }:=(Heap.get?_update_self _ gto1 rfl).trans rfl;have k2:∀b,b≠TO->(h1'.update TO (Obj.mapSeq fun v=>v.setIfInBounds 0 x)).get? b=h1'.get? b:=(Heap.SameBut.update _ _ _).2;have z2:(h1'.update TO (Obj.mapSeq fun v=>v.setIfInBounds 0 x)).objs.size=h1'.objs.size:=(Heap.SameBut.update _ _ _).1;dsimp only;generalize h1'.update TO (Obj.mapSeq fun v=>v.setIfInBounds 0 x)=h2' at gto2 k2 z2 ⊢;refine wpAny_bind (wpAny_letGo (wpAny_pure ?_));refine wpAny_bind (wpAny_bind (wpAny_onRaise ?_));refine wpAny_bind (m:=Builtin.SmallTypes.nextOf (.ref i2)) (aV' (mvI k2 (Ne.symm ao2) (mvI k1 (Ne.symm a12) (mvI k0 (Ne.symm az4) j2))) (mvT k2 q3 (mvT k1 q4 (mvT k0 q1 h2))) hy fun h3' ji2 sb3=>?_);have k3:∀b,b≠i2->h3'.get? b=h2'.get? b:=sb3.2;refine wpAny_pure ?_;have gto3:h3'.get? TO=some { cls:=Value.type "tuple",data:=Data.seq #[x,b] }:=(k3 _ ao2).trans gto2;refine wpAny_bind (wpAny_seqItems gto3 rfl ?_);refine wpAny_bind (wpAny_updateSeq gto3 rfl ?_ (show 2<=sizeLine by decide) (show 2<=sizeLine + 1 by decide));have gto4:(h3'.update TO (Obj.mapSeq fun v=>v.setIfInBounds 1 y)).get? TO=some { cls:=Value.type "tuple",data:=Data.seq #[x,y] }:=(Heap.get?_update_self _ gto3 rfl).trans rfl;have k4:∀b,b≠TO->(h3'.update TO (Obj.mapSeq fun v=>v.setIfInBounds 1 y)).get? b=h3'.get? b:=(Heap.SameBut.update _ _ _).2;have z4:(h3'.update TO (Obj.mapSeq fun v=>v.setIfInBounds 1 y)).objs.size=h3'.objs.size:=(Heap.SameBut.update _ _ _).1;dsimp only;generalize h3'.update TO (Obj.mapSeq fun v=>v.setIfInBounds 1 y)=h4' at gto4 k4 z4 ⊢;refine wpAny_bind (wpAny_letGo (wpAny_pure ?_));refine wpAny_pure ?_;refine wpAny_bind (wpAny_seqItems gto4 rfl ?_);have hT:h4'.objs.size=s.heap.objs.size:=by rw [z4,sb3.1,z2,sb1.1,sb0.1]
 refine wpAny_bind (wpAny_newTuple ?_ (show 2<=sizeLine by decide));dsimp only;rw [hT];have zi:z≠s.heap.objs.size:=fun e=>by have:=Heap.lt_size gz; rw [e] at this; exact Nat.lt_irrefl _ this
 have gT:(h4'.push { cls:=Value.type "tuple",data:=Data.seq #[x,y] }).get? s.heap.objs.size=some { cls:=Value.type "tuple",data:=Data.seq #[x,y] }:=by rw [<- hT]; exact Heap.get?_push_size _ rfl
 have k5:∀b o,h4'.get? b=some o->(h4'.push { cls:=Value.type "tuple",data:=Data.seq #[x,y] }).get? b=some o:=fun b o e=>Heap.get?_push_of_some _ e;show wpAny _ _ (do Builtin.SmallTypes.ownedTupleHandOut (Value.ref z) (Value.ref s.heap.objs.size); ret _) _ _ { s with heap:=h4'.push { cls:=Value.type "tuple",data:=Data.seq #[x,y] } }
 generalize h4'.push { cls:=Value.type "tuple",data:=Data.seq #[x,y] }=h5' at gT k5 ⊢;have gz4:h4'.get? z=some { cls:=Value.type "zip",data:=Data.fields #[Value.ellipsis,Value.bool false,Value.bool false,Value.ref TI,Value.ref TO] } :=
  (k4 _ az2).trans ((k3 _ az4).trans ((k2 _ az2).trans ((k1 _ az3).trans (gz0.trans rfl))))
 have gz5:=k5 _ _ gz4;have gti4:h4'.get? TI=some { cls:=Value.type "tuple",data:=Data.seq #[.ref i1,.ref i2] }:=(k4 _ ai1).trans ((k3 _ ai3).trans ((k2 _ ai1).trans ((k1 _ ai2).trans ((k0 _ (Ne.symm az1)).trans gti))));obtain ⟨oj1,gj1,rj1⟩:=ji1;obtain ⟨oj2,gj2,rj2⟩:=ji2;have gj1':h4'.get? i1=some oj1:=(k4 _ (Ne.symm ao1)).trans ((k3 _ a12).trans ((k2 _ (Ne.symm ao1)).trans gj1));have gj2':h4'.get? i2=some oj2:=(k4 _ (Ne.symm ao2)).trans gj2;refine wpAny_bind (m:=Builtin.SmallTypes.ownedTupleHandOut _ _) ?_;unfold Builtin.SmallTypes.ownedTupleHandOut;refine wpAny_bind (wpAny_setField gz5 rfl (show 0 < 5 by decide) ?_);have gz6:(h5'.update z (Obj.mapFields fun v=>v.setIfInBounds 0 (rawInt (s.heap.objs.size:Nat)))).get? z=some { cls:=Value.type "zip",data:=Data.fields #[rawInt (s.heap.objs.size:Nat),Value.bool false,Value.bool false,Value.ref TI,Value.ref TO] }:=(Heap.get?_update_self _ gz5 rfl).trans rfl;have k6:∀b,b≠z->(h5'.update z (Obj.mapFields fun v=>v.setIfInBounds 0 (rawInt (s.heap.objs.size:Nat)))).get? b=h5'.get? b:=(Heap.SameBut.update _ _ _).2;dsimp only;generalize h5'.update z (Obj.mapFields fun v=>v.setIfInBounds 0 (rawInt (s.heap.objs.size:Nat)))=h6' at gz6 k6 ⊢;refine wpAny_setField gz6 rfl (show 1 < 5 by decide) ?_;have gz7:(h6'.update z (Obj.mapFields fun v=>v.setIfInBounds 1 (Value.bool false))).get? z=some { cls:=Value.type "zip",data:=Data.fields #[rawInt (s.heap.objs.size:Nat),Value.bool false,Value.bool false,Value.ref TI,Value.ref TO] }:=(Heap.get?_update_self _ gz6 rfl).trans rfl;have k7:∀b,b≠z->(h6'.update z (Obj.mapFields fun v=>v.setIfInBounds 1 (Value.bool false))).get? b=h6'.get? b:=(Heap.SameBut.update _ _ _).2;dsimp only;generalize h6'.update z (Obj.mapFields fun v=>v.setIfInBounds 1 (Value.bool false))=h7' at gz7 k7 ⊢;refine wpAny_pure (wpAny_pure ?_);have kk:∀b o,b≠z->h4'.get? b=some o->h7'.get? b=some o:=fun b o n e=>(k7 _ n).trans ((k6 _ n).trans (k5 _ _ e));refine hQ h7' ⟨gz7,kk _ _ (Ne.symm az1) gti4,⟨_,_,kk _ _ (Ne.symm az2) gto4⟩,⟨_,kk _ _ (Ne.symm az3) gj1',rj1⟩,⟨_,kk _ _ (Ne.symm az4) gj2',rj2⟩⟩ ((k7 _ (Ne.symm zi)).trans ((k6 _ (Ne.symm zi)).trans gT)) fun b o n e=>?_;simp only [List.mem_cons,List.not_mem_nil,or_false,not_or] at n;obtain ⟨p1,p2,p3,p4,p5⟩:=n;exact kk b o p1 ((k4 _ p3).trans ((k3 _ p5).trans ((k2 _ p3).trans ((k1 _ p4).trans ((k0 _ p1).trans e)))))
end
theorem iT':isSubtype (.type "StopIteration") (.type "StopIteration")=pure true:=by rw [isSubtype_type]; kernel_rfl
section
variable {prog:Program} {w:World} {A:Around} {E:Value->Shared->Prop} {s:Shared}
theorem fx' {z:Addr} {vs:Array Value} {h':Heap} {e:Addr} {Q:Option Value->Shared->Prop} (hz:h'.get? z=some { cls:=Value.type "zip",data:=Data.fields vs }) (hv:0 < vs.size) (he:∃o,h'.get? e=some o/\o.cls=.type "StopIteration")
  (hQ:Q none { s with heap:=h'.update z (Obj.mapFields fun v=>v.setIfInBounds 0 Value.none) }) :
  wpAny (model prog w) A.in1 (setField (Value.ref z) 0 Value.none) (fun _ s''=>wpAny (model prog w) A (do
   let b <- isInstance (.ref e) (Value.type "StopIteration")
   if b=true then pure none else throw (.ref e)) Q E s'') (fun e s''=>wpAny (model prog w) A (do
   let b <- isInstance e (Value.type "StopIteration")
   if b=true then pure none else throw e) Q E s'') { s with heap:=h' }:=by
 refine wpAny_setField hz rfl hv ?_;obtain ⟨o,g,c⟩:=he;have n:e≠z:=fun q=>by
  rw [q,hz] at g;have g':=Option.some.inj g;rw [<- g'] at c;injection c with c'
  exact absurd c' (by decide)
 refine wpAny_bind (wpAny_isInstance (b:=true) (T:="StopIteration") ⟨o,(by show (h'.update z _).get? e=_; rw [Heap.get?_update_other _ _ (Ne.symm n)]; exact g),c⟩ iT' (wpAny_pure hQ))
theorem kC' {z TI TO i1 i2 t1 t2:Addr} {i:Nat} {xs ys:Array Value} {Q:Option Value->Shared->Prop} (hh:A.handled=none) (ap:List.Nodup [z,TI,TO,i1,i2]) (n1:t1∉[z,TI,TO,i1,i2]) (n2:t2∉[z,TI,TO,i1,i2])
  (Z:ZipT s.heap z TI TO i1 i2 t1 t2 .none i) (h1:s.heap.IsTuple t1 xs) (h2:s.heap.IsTuple t2 ys) (hx:xs[i]? = none\/ys[i]? = none)
  (hQ:∀h':Heap,(∀b o,b∉[z,TI,TO,i1,i2]->s.heap.get? b=some o->h'.get? b=some o)->Q none { s with heap:=h' }) :
  wpAny (model prog w) A (pyNext (.ref z)) Q E s:=by
 obtain ⟨gz,gti,⟨a,b,gto⟩,j1,j2⟩:=Z;have tz:s.TypeIs (.ref z) "zip":=⟨_,gz,rfl⟩;unfold pyNext;refine wpAny_bind (wpAny_attempt ?_);refine wpAny_callSpecial?_slot tz F.slot_zip_next ?_;refine wpAny_call (codeAny_call_builtin F.slot_zip_next.plain F.entry_zip_next (F.slot_zip_next.check _ _ _ _ _ _ _ _ tz (F.args_zip_next_1 _) ?_));unfold Builtin.«zip.__next__»;refine wpAny_bind (m:=slotArgs _ _ _) (wpAny_pure ?_);refine wpAny_bind (m:=field _ _) (wpAny_field gz rfl rfl ?_);refine wpAny_bind (m:=field _ _) (wpAny_field gz rfl rfl ?_);refine wpAny_bind (m:=seqItems? _) (wpAny_seqItems gti rfl ?_);dsimp only;refine wpAny_bind (m:=Builtin.SmallTypes.ownedTupleIsFree _) ?_;unfold Builtin.SmallTypes.ownedTupleIsFree;refine wpAny_bind (m:=field _ _) (wpAny_field gz rfl rfl ?_);refine wpAny_pure ?_;rw [if_pos rfl];refine wpAny_bind (wpAny_rule (wpAny_bind (m:=field _ _) (wpAny_field gz rfl rfl ?_)))
 try dsimp only
 refine wpAny_bind (wpAny_setField gz rfl (show 0 < 5 by decide) ?_);have hst:(#[Value.none,Value.bool false,Value.bool false,Value.ref TI,Value.ref TO][2] == Value.bool true)=false:=rfl;have dz0:=Obj.data_mapFields (o:={ cls:=Value.type "zip",data:=Data.fields #[Value.none,Value.bool false,Value.bool false,Value.ref TI,Value.ref TO] }) rfl (fun v=>v.setIfInBounds 0 Value.ellipsis);have gz0:=Heap.get?_update_self (Obj.mapFields fun v=>v.setIfInBounds 0 Value.ellipsis) gz (Obj.isFreed_of_fields dz0);have sb0:=Heap.SameBut.update s.heap z (Obj.mapFields fun v=>v.setIfInBounds 0 Value.ellipsis);generalize s.heap.update z (Obj.mapFields fun v=>v.setIfInBounds 0 Value.ellipsis)=h0 at gz0 sb0 ⊢;simp only [List.nodup_cons,List.mem_cons,List.not_mem_nil,or_false,not_or,List.nodup_nil,and_true,not_false_eq_true] at ap n1 n2;obtain ⟨⟨az1,az2,az3,az4⟩,⟨ai1,ai2,ai3⟩,⟨ao1,ao2⟩,a12⟩:=ap;obtain ⟨m1,m2,m3,m4,m5⟩:=n1;obtain ⟨q1,q2,q3,q4,q5⟩:=n2;have k0:∀b,b≠z->h0.get? b=s.heap.get? b:=sb0.2;have mvT:∀{h h':Heap} {c t:Addr} {xs:Array Value},(∀b,b≠c->h'.get? b=h.get? b)->t≠c->h.IsTuple t xs->h'.IsTuple t xs:=fun k n ⟨o,g,r⟩=>⟨o,(k _ n).trans g,r⟩;have mvI:∀{h h':Heap} {c t j:Addr} {n:Nat},(∀b,b≠c->h'.get? b=h.get? b)->j≠c->h.IsTupleIter j t n->h'.IsTupleIter j t n:=fun k n ⟨o,g,r⟩=>⟨o,(k _ n).trans g,r⟩;simp only [show [Value.ref i1,Value.ref i2].zipIdx=[(Value.ref i1,0),(Value.ref i2,1)] from rfl,List.forIn_cons,hst]
 have gz0':h0.get? z=some { cls:=Value.type "zip",data:=Data.fields #[Value.ellipsis,Value.bool false,Value.bool false,Value.ref TI,Value.ref TO] }:=gz0.trans rfl;refine wpAny_bind (wpAny_bind ?_);refine wpAny_bind (wpAny_onRaise ?_)
 cases hx1:xs[i]? with
 | none =>
  refine wpAny_bind (m:=Builtin.SmallTypes.nextOf (.ref i1)) (aY' hh (mvI k0 (Ne.symm az3) j1) (mvT k0 m1 h1) hx1 fun h1' e xb he=>?_);have gz1:h1'.get? z=_:=xb z _ az3 gz0';refine fx' gz1 (show 0 < 5 by decide) he (hQ _ fun b o n ee=>?_);simp only [List.mem_cons,List.not_mem_nil,or_false,not_or] at n;obtain ⟨p1,p2,p3,p4,p5⟩:=n;rw [Heap.get?_update_other _ _ (Ne.symm p1)];exact xb b o p4 ((k0 _ p1).trans ee)
 | some x =>
 have hy:ys[i]? = none:=by
  rcases hx with q | q
  ·rw [hx1] at q; cases q
  ·exact q
 refine wpAny_bind (m:=Builtin.SmallTypes.nextOf (.ref i1)) (aV' (mvI k0 (Ne.symm az3) j1) (mvT k0 m1 h1) hx1 fun h1' ji1 sb1=>?_);have k1:∀b,b≠i1->h1'.get? b=h0.get? b:=sb1.2;refine wpAny_pure ?_;have gto1:h1'.get? TO=some { cls:=Value.type "tuple",data:=Data.seq #[a,b] }:=(k1 _ ao1).trans ((k0 _ (Ne.symm az2)).trans gto);refine wpAny_bind (wpAny_seqItems gto1 rfl ?_);refine wpAny_bind (wpAny_updateSeq gto1 rfl ?_ (show 2<=sizeLine by decide) (show 2<=sizeLine + 1 by decide));have gto2:(h1'.update TO (Obj.mapSeq fun v=>v.setIfInBounds 0 x)).get? TO=some { cls:=Value.type "tuple",data:=Data.seq #[x,b] }:=(Heap.get?_update_self _ gto1 rfl).trans rfl;have k2:∀b,b≠TO->(h1'.update TO (Obj.mapSeq fun v=>v.setIfInBounds 0 x)).get? b=h1'.get? b:=(Heap.SameBut.update _ _ _).2;have z2:(h1'.update TO (Obj.mapSeq fun v=>v.setIfInBounds 0 x)).objs.size=h1'.objs.size:=(Heap.SameBut.update _ _ _).1;dsimp only;generalize h1'.update TO (Obj.mapSeq fun v=>v.setIfInBounds 0 x)=h2' at gto2 k2 z2 ⊢;refine wpAny_bind (wpAny_letGo (wpAny_pure ?_));refine wpAny_bind (wpAny_bind (wpAny_onRaise ?_));refine wpAny_bind (m:=Builtin.SmallTypes.nextOf (.ref i2)) (aY' hh (mvI k2 (Ne.symm ao2) (mvI k1 (Ne.symm a12) (mvI k0 (Ne.symm az4) j2))) (mvT k2 q3 (mvT k1 q4 (mvT k0 q1 h2))) hy fun h3' e xb he=>?_);have gz3:h3'.get? z=_:=xb z _ az4 ((k2 _ az2).trans ((k1 _ az3).trans gz0'));refine fx' gz3 (show 0 < 5 by decide) he (hQ _ fun b o n ee=>?_);simp only [List.mem_cons,List.not_mem_nil,or_false,not_or] at n;obtain ⟨p1,p2,p3,p4,p5⟩:=n;rw [Heap.get?_update_other _ _ (Ne.symm p1)];exact xb b o p5 ((k2 _ p3).trans ((k1 _ p4).trans ((k0 _ p1).trans ee)))
end
theorem gm' (t1 t2:Addr) (xs ys:Array Value):Meets (Builtin.«zip.__new__» ⟨[.type "zip",.ref t1,.ref t2],[]⟩) (fun _ R s=>s.heap.IsTuple t1 xs/\s.heap.IsTuple t2 ys /\
  ∀h':Heap,ZipT h' (s.heap.objs.size + 4) (s.heap.objs.size + 2) (s.heap.objs.size + 3) s.heap.objs.size (s.heap.objs.size + 1) t1 t2 .none 0->(∀b o,s.heap.get? b=some o->h'.get? b=some o)->h'.objs.size=s.heap.objs.size + 5->R (.ok (.ret (.ref (s.heap.objs.size + 4)))) { s with heap:=h' }):=by
 intro prog w A R s ⟨h1,h2,hR⟩;unfold Builtin.«zip.__new__»;refine wpAny_bind (m:=Builtin.SmallTypes.newClass _ _) ?_;unfold Builtin.SmallTypes.newClass;refine wpAny_bind (m:=isType _) (wpAny_pure ?_);show wpAny _ _ (do let b <- isSubtype (Value.type "zip") (Value.type "zip"); _) _ _ _
 rw [sub_zip];refine wpAny_pure ?_;show wpAny _ _ (do let its <- Builtin.SmallTypes.iterAll [.ref t1,.ref t2]; _) _ _ _
 refine wpAny_bind ?_;unfold Builtin.SmallTypes.iterAll;simp only [List.forIn_cons];refine wpAny_bind (wpAny_bind (wpAny_bind (wpAny_holding (wpAny_pyIter_tuple h1 (wpAny_pure ?_)))));have h2':(s.heap.push { cls:=Value.type "tuple_iterator",data:=Data.fields #[Value.ref t1,Value.int 0 0] }).IsTuple t2 ys:=by
  obtain ⟨o,g,r⟩:=h2;exact ⟨o,Heap.get?_push_of_some _ g,r⟩
 refine wpAny_bind (wpAny_bind (wpAny_holding (wpAny_pyIter_tuple h2' (wpAny_pure ?_))));refine wpAny_pure (wpAny_pure ?_);refine wpAny_bind (wpAny_newTuple ?_ (show 2<=sizeLine by decide));refine wpAny_bind (wpAny_newTuple ?_ (show 2<=sizeLine by decide));refine wpAny_bind (m:=Builtin.SmallTypes.newRecord _ _) ?_;unfold Builtin.SmallTypes.newRecord;refine wpAny_newObj_type (wpAny_pure ?_) (show 5<=sizeLine + 2 by decide);dsimp only
 let S:=s.heap.objs.size
 let A1:=s.heap.push { cls:=Value.type "tuple_iterator",data:=Data.fields #[Value.ref t1,Value.int 0 0] }
 let A2:=A1.push { cls:=Value.type "tuple_iterator",data:=Data.fields #[Value.ref t2,Value.int 0 0] }
 let A3:=A2.push { cls:=Value.type "tuple",data:=Data.seq #[Value.ref S,Value.ref A1.objs.size] }
 let A4:=A3.push { cls:=Value.type "tuple",data:=Data.seq #[Value.none,Value.none] }
 let A5:=A4.push { cls:=Value.type "zip",data:=Data.fields #[Value.none,Value.bool false,Value.bool false,Value.ref A2.objs.size,Value.ref A3.objs.size] }
 have e1:A1.objs.size=S + 1:=Heap.size_push _ _;have e2:A2.objs.size=S + 2:=(Heap.size_push _ _).trans (by rw [e1]);have e3:A3.objs.size=S + 3:=(Heap.size_push _ _).trans (by rw [e2]);have e4:A4.objs.size=S + 4:=(Heap.size_push _ _).trans (by rw [e3]);have e5:A5.objs.size=S + 5:=(Heap.size_push _ _).trans (by rw [e4]);have p1:A1.get? S=some { cls:=Value.type "tuple_iterator",data:=Data.fields #[Value.ref t1,Value.int 0 0] }:=Heap.get?_push_size _ rfl;have p2:A2.get? (S + 1)=some { cls:=Value.type "tuple_iterator",data:=Data.fields #[Value.ref t2,Value.int 0 0] }:=by rw [<- e1]; exact Heap.get?_push_size _ rfl
 have p3:A3.get? (S + 2)=some { cls:=Value.type "tuple",data:=Data.seq #[Value.ref S,Value.ref A1.objs.size] }:=by rw [<- e2]; exact Heap.get?_push_size _ rfl
 have p4:A4.get? (S + 3)=some { cls:=Value.type "tuple",data:=Data.seq #[Value.none,Value.none] }:=by rw [<- e3]; exact Heap.get?_push_size _ rfl
 have p5:A5.get? (S + 4)=some { cls:=Value.type "zip",data:=Data.fields #[Value.none,Value.bool false,Value.bool false,Value.ref A2.objs.size,Value.ref A3.objs.size] }:=by rw [<- e4]; exact Heap.get?_push_size _ rfl
 have u2:∀b o,A1.get? b=some o->A2.get? b=some o:=fun b o e=>Heap.get?_push_of_some _ e;have u3:∀b o,A2.get? b=some o->A3.get? b=some o:=fun b o e=>Heap.get?_push_of_some _ e;have u4:∀b o,A3.get? b=some o->A4.get? b=some o:=fun b o e=>Heap.get?_push_of_some _ e;have u5:∀b o,A4.get? b=some o->A5.get? b=some o:=fun b o e=>Heap.get?_push_of_some _ e;have fin:=hR A5 ⟨by rw [e2,e3] at p5; exact p5,by rw [e1] at p3; exact u5 _ _ (u4 _ _ p3),⟨_,_,u5 _ _ p4⟩,⟨_,u5 _ _ (u4 _ _ (u3 _ _ (u2 _ _ p1))),rfl,rfl⟩,⟨_,u5 _ _ (u4 _ _ (u3 _ _ p2)),rfl,rfl⟩⟩
  (fun b o e=>u5 _ _ (u4 _ _ (u3 _ _ (u2 _ _ (Heap.get?_push_of_some _ e))))) e5
 have e4':s.heap.objs.size + 4=A4.objs.size:=e4.symm;rw [e4'] at fin;exact fin
theorem hw' {prog:Program} {w:World} {A:Around} {E:Value->Shared->Prop} {s:Shared} {t1 t2:Addr} {xs ys:Array Value} {Q:Value->Shared->Prop} (h1:s.heap.IsTuple t1 xs) (h2:s.heap.IsTuple t2 ys)
  (hQ:∀h':Heap,ZipT h' (s.heap.objs.size + 4) (s.heap.objs.size + 2) (s.heap.objs.size + 3) s.heap.objs.size (s.heap.objs.size + 1) t1 t2 .none 0->(∀b o,s.heap.get? b=some o->h'.get? b=some o)->h'.objs.size=s.heap.objs.size + 5->Q (.ref (s.heap.objs.size + 4)) { s with heap:=h' }) :
  wpAny (model prog w) A (call (.type "zip") [.ref t1,.ref t2]) Q E s :=
 callType_new F.called_zip (by decide) (F.typeCall_zip_2 _ _) (F.newCall_zip_2 _ _) (fun obj=>F.args_object_init_3 _ _ _) F.entry_zip_new (gm' t1 t2 xs ys) ⟨h1,h2,fun h' Z k e=>⟨⟨_,Z.zip,rfl⟩,hQ h' Z k e⟩⟩
theorem _root_.L2.Inv.butL {X:Cx} {pins:List (Addr×Obj)} {σ:St} {H:Hp} {s:Shared} {fp:List Addr} {h':Heap} {t':Nat} (J:Inv X pins σ H s) (hf:∀b∈fp,FpOk X pins H b) (hk:∀b o,b∉fp->s.heap.get? b=some o->h'.get? b=some o) :
  Inv X pins σ H { s with heap:=h',toks:=t' }:=by
 have nC:∀b,H b≠none->b∉fp:=fun b hb z=>hb (hf b z).1;refine J.call' (ch:=fp) (s':={ s with heap:=h',toks:=t' }) rfl
   ⟨fun b o e n hb hx=>hk b o hx e,fun b o e n hb hx=>⟨o.slots,hk b o hx e⟩,fun b o e n _=>n,fun b o e hx=>⟨o,hk b o hx e⟩,fun b xs e=>e,fun b o u e=>e,fun b ps e=>⟨#[],by simpa using e⟩⟩
   (fun b u q=>(J.hok b u q).stay (fun c v hc e=>hk c v (by
    rcases hc with rfl | hc
    ·exact nC c (by rw [q]; intro z; cases z)
    ·exact nC c (by rw [hc]; intro z; cases z)) e) (fun _ z=>z) fun _ _ z=>z) J.bare
   fun b hb=>by
    obtain ⟨f0,f1,f2,f3,f4,f5⟩:=hf b hb;exact ⟨f3,f1,f4,f5⟩
noncomputable def Itz (K:PySem.W.Frag) (t1 t2:Addr):It :=
  ⟨fun i H=>∃xs ys v u,SqT K H t1 xs/\SqT K H t2 ys/\xs[i]? = some v/\ys[i]? = some u,
   fun i H x H'=>∃T,H T=none/\x=.ref T/\∃v u,(∀xs,SqT K H t1 xs->xs[i]? = some v)/\(∀ys,SqT K H t2 ys->ys[i]? = some u)/\H'=upd H T (.tup [v,u]),
   fun i H=>∃xs ys,SqT K H t1 xs/\SqT K H t2 ys/\(xs.length<=i\/ys.length<=i)⟩
theorem iU' {P:Program} {w:World} {K:PySem.W.Frag} {elts:List Expr} {x1:Nat} {pos:Pos} {z TI TO i1 i2 t1 t2:Addr} (ap:List.Nodup [z,TI,TO,i1,i2]) (n1:t1∉[z,TI,TO,i1,i2]) (n2:t2∉[z,TI,TO,i1,i2]) :
  Turn P w K (.Tuple elts x1 pos) (Itz K t1 t2) [z,TI,TO,i1,i2] z (fun i h=>ZipT h z TI TO i1 i2 t1 t2 .none i) where
 mem:=by simp
 obj:=fun i h st b hb=>by
  obtain ⟨gz,gti,⟨a,c,gto⟩,⟨o1,g1,_,d1⟩,⟨o2,g2,_,d2⟩⟩:=st;simp only [List.mem_cons,List.not_mem_nil,or_false] at hb;rcases hb with rfl | rfl | rfl | rfl | rfl
  ·exact ⟨_,gz,fun v q=>by cases q⟩
  ·exact ⟨_,gti,fun v q=>by cases q⟩
  ·exact ⟨_,gto,fun v q=>by cases q⟩
  ·exact ⟨_,g1,fun v q=>by rw [d1] at q; cases q⟩
  ·exact ⟨_,g2,fun v q=>by rw [d2] at q; cases q⟩
 keep:=fun i h h' st k=>by
  obtain ⟨gz,gti,⟨a,c,gto⟩,⟨o1,g1,r1⟩,⟨o2,g2,r2⟩⟩:=st;exact ⟨k z (by simp) _ gz,k TI (by simp) _ gti,⟨a,c,k TO (by simp) _ gto⟩,⟨o1,k i1 (by simp) _ g1,r1⟩,⟨o2,k i2 (by simp) _ g2,r2⟩⟩
 item:=by
  intro X hP hw hK hc i pins s σ H E I hf st hg;subst hP hw hK;obtain ⟨xs,ys,v,u,hq1,hq2,hx,hy⟩:=hg;obtain ⟨its1,rv1,p1,hz1⟩:=I.tuple hq1;obtain ⟨its2,rv2,p2,hz2⟩:=I.tuple hq2;obtain ⟨u1,hu1,ru1⟩:=rv1.get hx;obtain ⟨u2,hu2,ru2⟩:=rv2.get hy;refine iS' ap n1 n2 st (show s.heap.IsTuple t1 its1.toArray from p1) (show s.heap.IsTuple t2 its2.toArray from p2) (x:=u1) (y:=u2) (by simpa using hu1) (by simpa using hu2) fun h' Z gT kk=>?_
  refine ⟨_,rfl,wpAny_letOwnedTupleGo_zip (T:=s.heap.objs.size) Z.zip fun h'' gz'' sb=>?_⟩;have fT:FpOk X pins H s.heap.objs.size:=I.fpOk (Nat.le_refl _) (I.hok.fresh (Nat.le_refl _));have zs:s.heap.objs.size≠z:=fun e=>by
   have:=Heap.lt_size st.zip; rw [<- e] at this; exact Nat.lt_irrefl _ this
  have kk2:∀b o,b∉[z,TI,TO,i1,i2]->s.heap.get? b=some o->h''.get? b=some o:=fun b o n e=>(sb.2 b (fun q=>n (by rw [q]; simp))).trans (kk b o n e);have I1:Inv X pins σ H { s with heap:=h'' }:=I.butL (t':=s.toks) hf kk2
  have gT2:h''.get? s.heap.objs.size=some { cls:=Value.type "tuple",data:=Data.seq #[u1,u2] }:=(sb.2 _ zs).trans gT;obtain ⟨f0,f1,f2,f3,f4,f5⟩:=fT;have I2:Inv X pins σ (upd H s.heap.objs.size (.tup [v,u])) { s with heap:=h'' }:=I1.track f0 (fun ob e _=>absurd (Nat.lt_of_lt_of_le (Heap.lt_size e) I.sz) (Nat.lt_irrefl _)) f1 f4 f5
   ⟨show 2<=sizeLine by decide,[u1,u2],.cons ru1 (.cons ru2 .nil),⟨_,gT2,rfl,_,rfl⟩⟩
  have nz:∀b,b≠z->h''.get? b=h'.get? b:=sb.2;refine ⟨.ref s.heap.objs.size,_,I2,rfl,⟨_,f0,rfl,v,u,fun xs' h=>?_,fun ys' h=>?_,rfl⟩,?_,fun b hb=>?_⟩
  ·rw [I.tuple_inj h hq1]; exact hx
  ·rw [I.tuple_inj h hq2]; exact hy
  ·have ap':=ap;simp only [List.nodup_cons,List.mem_cons,List.not_mem_nil,or_false,not_or,List.nodup_nil,and_true,not_false_eq_true] at ap';obtain ⟨⟨az1,az2,az3,az4⟩,_⟩:=ap';obtain ⟨_,gti,⟨a,c,gto⟩,⟨o1,g1,r1⟩,⟨o2,g2,r2⟩⟩:=Z;exact ⟨gz'',(nz _ (Ne.symm az1)).trans gti,⟨a,c,(nz _ (Ne.symm az2)).trans gto⟩,⟨o1,(nz _ (Ne.symm az3)).trans g1,r1⟩,⟨o2,(nz _ (Ne.symm az4)).trans g2,r2⟩⟩
  ·have hb2:b≠s.heap.objs.size:=fun e=>by
    obtain ⟨o,g,_⟩:=(show ∃o,s.heap.get? b=some o/\True from by
     obtain ⟨gz,gti,⟨a,c,gto⟩,⟨o1,g1,_⟩,⟨o2,g2,_⟩⟩:=st;simp only [List.mem_cons,List.not_mem_nil,or_false] at hb;rcases hb with rfl | rfl | rfl | rfl | rfl
     ·exact ⟨_,gz,trivial⟩
     ·exact ⟨_,gti,trivial⟩
     ·exact ⟨_,gto,trivial⟩
     ·exact ⟨_,g1,trivial⟩
     ·exact ⟨_,g2,trivial⟩)
    have:=Heap.lt_size g;rw [e] at this; exact Nat.lt_irrefl _ this
   rw [am' hb2]; exact (hf b hb).1
 done:=by
  intro X hP hw hK hc i pins s σ H E I hf st hg;subst hP hw hK;obtain ⟨xs,ys,hq1,hq2,hx⟩:=hg;obtain ⟨its1,rv1,p1,hz1⟩:=I.tuple hq1;obtain ⟨its2,rv2,p2,hz2⟩:=I.tuple hq2;have l1:=rv1.length;have l2:=rv2.length;refine kC' (I.ok.hd hc) ap n1 n2 st (show s.heap.IsTuple t1 its1.toArray from p1) (show s.heap.IsTuple t2 its2.toArray from p2) ?_ fun h' kk=>⟨rfl,I.butL (t':=s.toks) hf kk⟩
  rcases hx with q | q
  ·exact .inl (by simp; omega)
  ·exact .inr (by simp; omega)
 self:=fun _ _ _ _ _ st h=>wpAny_pyIter_zip st.zip h
noncomputable def zipD (xs ys:List D):List D:=List.zipWith (fun x y=>D.tup [x,y]) xs ys
noncomputable def zipG:List D->Res (List D)
 | [.tup xs,.tup ys]=>.ok (zipD xs ys)
 | _=>.stuck
theorem gn' {K:PySem.W.Frag} {H:Hp} {t1 t2:Addr} {xs ys:List V} {ds es:List D} (h1:SqT K H t1 xs) (h2:SqT K H t2 ys) (r1:Reps K H ds xs) (r2:Reps K H es ys):Yields K (Itz K t1 t2) H (zipD ds es):=by
 intro H' e;have q1:=cf' e h1;have q2:=cf' e h2;have p1:=r1.mono e;have p2:=r2.mono e;refine ⟨fun i d hd=>?_,xs,ys,q1,q2,?_⟩
 ·unfold zipD at hd;rw [List.getElem?_zipWith] at hd
  cases z1:ds[i]? with
  | none=>rw [z1] at hd; simp at hd
  | some x =>
   cases z2:es[i]? with
   | none=>rw [z1,z2] at hd; simp at hd
   | some y =>
    rw [z1,z2] at hd;simp only [Option.some.injEq] at hd;subst hd;obtain ⟨v,e1,s1⟩:=p1.get z1;obtain ⟨u,e2,s2⟩:=p2.get z2;refine ⟨⟨xs,ys,v,u,q1,q2,e1,e2⟩,fun a H'' yl=>?_⟩;obtain ⟨T,hT,rfl,v',u',k1,k2,rfl⟩:=yl;have w1:=k1 xs q1;have w2:=k2 ys q2;rw [e1] at w1; rw [e2] at w2
    cases w1; cases w2
    have sm:=an' hT (.tup [v,u]);exact ⟨sm,mkT (SqT.of aq') (.cons (s1.mono sm) (.cons (s2.mono sm) .nil))⟩
 ·unfold zipD;rw [List.length_zipWith,r1.length,r2.length];omega
theorem iV' (S:Nat):List.Nodup [S + 4,S + 2,S + 3,S,S + 1]:=by
 simp only [List.nodup_cons,List.mem_cons,List.not_mem_nil,or_false,not_or,List.nodup_nil,and_true,not_false_eq_true];omega
theorem fy' {S t:Nat} (h:t < S):t∉[S + 4,S + 2,S + 3,S,S + 1]:=by
 simp only [List.mem_cons,List.not_mem_nil,or_false,not_or];omega
theorem lZ' {S b:Nat} (h:b∈[S + 4,S + 2,S + 3,S,S + 1]):S<=b:=by
 simp only [List.mem_cons,List.not_mem_nil,or_false] at h;omega
theorem eU' {X:Cx} {a b:Expr} {fa:DS->Res (List D)} {p pos tp:Pos} {elts:List Expr} {x1:Nat} (hg:Gl X "zip") (hm:X.mg "zip" = none) (ha:PAD X [a,b] fa) (hs:starEach [a,b] X.env=[(false,eval a X.env),(false,eval b X.env)]:=by rfl) (hs2:starEach [b] X.env=[(false,eval b X.env)]:=by rfl) :
  PID X (.Tuple elts x1 tp) (.Call (.Name "zip" p) [a,b] [] pos) (fun δ=>(fa δ).bind zipG):=by
 intro pins s σ G H δ I R hn
 try dsimp only at hn ⊢
 refine Call_ (bG' I hg hm boot_zip (PyProof.Rows.callWith_type1 (ha.use I R (at' hn) (fun ds us s1 vs H1 q I1 r1 e1 b1 p1=>?_) fun e s1 q=>q.same fun x z=>aw' z) (by rw [hs,hs2]) (by rw [hs2]; rfl)));have h2:=av' hn q;unfold zipG at h2
 split at h2
 ·rename_i ds1 ds2;obtain ⟨v,ws,rfl,w1,w2⟩:=p1.cons_of;obtain ⟨v',ws,rfl,w3,w4⟩:=w2.cons_of
  cases w4.nil_of
  obtain ⟨t1,xs,rfl,s1',t1'⟩:=repT w1;obtain ⟨t2,ys,rfl,s2',t2'⟩:=repT w3
  cases r1 with
  | cons ra rr =>
   cases rr with
   | cons rb rr =>
    cases rr
    cases ra
    cases rb
    obtain ⟨its1,rv1,pp1,hz1⟩:=I1.tuple s1';obtain ⟨its2,rv2,pp2,hz2⟩:=I1.tuple s2';refine hw' (show s1.heap.IsTuple t1 its1.toArray from pp1) (show s1.heap.IsTuple t2 its2.toArray from pp2) fun h' Z kk sz=>?_
    have I2:Inv X pins σ H1 { s1 with heap:=h' }:=I1.kept (t':=s1.toks) kk
    obtain ⟨o1,g1,_⟩:=id pp1;obtain ⟨o2,g2,_⟩:=id pp2;have l1:=Heap.lt_size g1;have l2:=Heap.lt_size g2;refine wpAny_pyIter_zip Z.zip ?_;refine ⟨_,s1.heap.objs.size + 4,[s1.heap.objs.size + 4,s1.heap.objs.size + 2,s1.heap.objs.size + 3,s1.heap.objs.size,s1.heap.objs.size + 1],_,_,H1,by rw [q]; rfl,rfl,I2,iU' ?_ ?_ ?_,Z,fun b hb=>?_,e1,gn' s1' s2' t1' t2'⟩
    ·exact iV' _
    ·exact fy' l1
    ·exact fy' l2
    ·exact I1.fpOk (lZ' hb) (I1.hok.fresh (lZ' hb))
 ·exact (h2 rfl).elim
theorem bJ' {m i j:Nat} (h:i < m) (h':j < m):KeepsT m (tupTgt [i,j]):=by
 intro d δ δ1 e
 cases d with
 | tup ds =>
  match ds,e with
  | [x,y],e =>
   simp only [tupTgt,namesD,Option.some.injEq] at e;subst e;exact ⟨by simp,fun k hk=>by rw [List.getElem?_set_ne (by omega),List.getElem?_set_ne (by omega)]⟩
  | [],e=>simp [tupTgt,namesD] at e
  | [x],e=>simp [tupTgt,namesD] at e
  | _ :: _ :: _ :: _,e=>simp [tupTgt,namesD] at e
 | _=>simp [tupTgt] at e
section
variable {X:Cx} {e:Expr} {fe:DS->Res D} {pos:Pos} {op:Operator} {g:D->D->Res D}
end
theorem cq':fillsNumberSlot (.type "tuple") "mul" = pure false:=by first | exact noFill_tuple_mul | (unfold fillsNumberSlot; kernel_rfl)
theorem dx':seqRepeat? (.type "tuple")=pure (some (.builtin "tuple.__mul__")):=by first | exact repeat_tuple | (unfold seqRepeat?; kernel_rfl)
section
variable {prog:Program} {w:World} {A:Around} {E:Value->Shared->Prop} {s:Shared}
theorem iW' {t:Addr} {items:Array Value} {k:Int} {tok:Tok} {Q:Value->Shared->Prop} (ht:IsTup s.heap t items) (h:Q .notImplemented s):wpAny (model prog w) A (call (.builtin "int.__rmul__") [.int k tok,.ref t]) Q E s:=by
 obtain ⟨o,g,hc,n,hd⟩:=id ht;refine wpAny_call (codeAny_call_builtin F.slot_int_rmul.plain F.entry_int_rmul (F.slot_int_rmul.check _ _ _ _ _ _ _ _ (typeIs_int s k tok) (F.args_int_rmul_2 _ _) ?_));refine wpAny_bind (m:=slotArgs _ _ _) (wpAny_pure ?_);refine wpAny_bind (m:=Builtin.Int.intOfSelf _) (wpAny_bind (m:=asInt? _) (wpAny_pure (wpAny_pure ?_)));refine wpAny_bind (m:=asInt? _) (wpAny_bind (m:=load _) (wpAny_load g ?_));simp only [hd];refine wpAny_pure ?_;exact wpAny_bind (wpAny_rule (wpAny_pure h))
theorem kD' {t:Addr} {items:Array Value} {k:Nat} {tok:Tok} {Q:Value->Shared->Prop} (ht:IsTup s.heap t items) (hne:items.isEmpty=false) (hk:items.size * k<=1000) (h1:k=1->Q (.ref t) s)
  (h2:k≠1->Q (.ref s.heap.objs.size) { s with heap:=s.heap.push { cls:=.type "tuple",data:=.seq (List.replicate k items.toList).flatten.toArray } }):wpAny (model prog w) A (call (.builtin "tuple.__mul__") [.ref t,.int k tok]) Q E s:=by
 refine wpAny_call (codeAny_call_builtin F.slot_tuple_mul.plain F.entry_tuple_mul (F.slot_tuple_mul.check _ _ _ _ _ _ _ _ ht.typeIs (F.args_tuple_mul_2 _ _) ?_));refine wpAny_bind (m:=asIndex _) (wpAny_bind (m:=asInt? _) (wpAny_pure (wpAny_pure ?_)));have p1:1<=items.size:=by
  rcases Nat.eq_zero_or_pos items.size with z | z
  ·rw [Array.isEmpty_eq_false_iff,<- Array.size_pos_iff] at hne; omega
  ·exact z
 have kk:k<=1000:=Nat.le_trans (Nat.le_mul_of_pos_left k p1) hk;have hfit:(decide ((k:Int) < -2 ^ 63) || decide ((k:Int)>=2 ^ 63))=false:=by
  rw [Bool.or_eq_false_iff];exact ⟨decide_eq_false (by omega),decide_eq_false (by omega)⟩
 dsimp only;rw [hfit,if_neg Bool.false_ne_true];refine wpAny_bind (tupleItemsOf_ ht ?_)
 by_cases c:k=1
 ·have hc:(items.isEmpty || ((k:Nat):Int) == 1)=true:=by rw [c]; simp
  rw [if_pos hc];refine wpAny_bind (m:=Builtin.Tuple.tupleIsExact _) (wpAny_bind (wpAny_typeOf ht.typeIs (wpAny_pure ?_)));rw [if_pos (by decide)];exact wpAny_bind (wpAny_rule (wpAny_pure (h1 c)))
 ·have hc:¬((items.isEmpty || ((k:Nat):Int) == 1)=true):=by
   rw [hne]; simp; omega
  rw [if_neg hc];have q:=h2 c
  by_cases z:k=0
  ·have hz:(decide (((k:Nat):Int)<=0) || items.isEmpty)=true:=by rw [z]; simp
   rw [if_pos hz];rw [z] at q;exact wpAny_bind (m:=Builtin.Tuple.tupleExact _) (wpAny_newObj_type (wpAny_pure q) (show 0<=sizeLine from Nat.zero_le _))
  ·have hz:¬((decide (((k:Nat):Int)<=0) || items.isEmpty)=true):=by
    rw [hne]; simp; omega
   rw [if_neg hz];have e0:((items.size:Int) * (k:Int))=((items.size * k:Nat):Int):=by simp
   have hs:(1000:Nat)<=sizeLine:=by decide
   have hm:¬((items.size:Int) * (k:Int) > (2 ^ 63 - 1) / 8):=by
    rw [e0];have:((2:Int) ^ 63 - 1) / 8=1152921504606846975:=by decide
    omega
   rw [if_neg hm];have ht2:¬(Builtin.Tuple.tupleTooMany ((items.size:Int) * (k:Int))=true):=by
    unfold Builtin.Tuple.tupleTooMany;rw [e0]; simp only [decide_eq_true_eq]; omega
   rw [if_neg ht2];have hf:List.foldl (fun x1 x2=>x1 ++ x2) #[] (List.replicate ((k:Nat):Int).toNat items)=(List.replicate k items.toList).flatten.toArray:=by
    have:=foldl_rep items.toList k [];rw [List.nil_append] at this;rw [Int.toNat_natCast];simpa using this
   rw [hf];exact wpAny_bind (m:=Builtin.Tuple.tupleExact _) (wpAny_newObj_type (wpAny_pure q) (by show _<=sizeLine; rw [List.size_toArray,len_rep,Array.length_toList,Nat.mul_comm]; omega))
end
noncomputable def rRepT (K:PySem.W.Frag):R2:=fun x y H Q=>∃a k xs,x=.ref a/\y=.int ((k:Nat):Int)/\SqT K H a xs/\xs≠[]/\xs.length * k<=1000/\(k=1->Q (.ref a) H)/\(k≠1->∀p,H p=none->Q (.ref p) (upd H p (.tup (List.replicate k xs).flatten)))
theorem kE' {X:Cx}:OpR X (binaryOp .Mult) (rRepT X.K):=by
 intro pins s σ H x y v u Q I rx ry h;obtain ⟨a,k,xs,rfl,rfl,hq,hne,hz,q1,q2⟩:=h
 cases rx
 obtain ⟨t,rfl⟩:=ry;obtain ⟨its,r,ht,hzz⟩:=I.tuple hq;have hl:=r.length;refine wpAny_binaryOp_repeat_ref (T:="tuple") (U:="int") (by decide) ht.typeIs (fun s'=>typeIs_int s' k t) cq' F.fills_int_mul F.slot_int_rmul dx' F.slot_int_index.lookup
  (iW' ht ⟨rfl,ht.typeIs,?_⟩)
 refine kD' ht ?_ (by rw [List.size_toArray,<- hl]; exact hz) (fun e=>⟨.ref a,H,I,rfl,q1 e⟩) fun e=>?_
 ·cases its with
  | nil=>exact (hne (List.eq_nil_of_length_eq_zero hl)).elim
  | cons b l=>simp
 ·have hb:(List.replicate k xs).flatten.length<=sizeLine:=by
   rw [len_rep,Nat.mul_comm]; exact Nat.le_trans hz (by decide)
  exact ⟨.ref s.heap.objs.size,_,I.laid (t':=s.toks) (o:=.tup (List.replicate k xs).flatten) (fun b ob q=>Heap.get?_push_of_some _ q) (Nat.le_refl _) ⟨hb,_,r.rep k,IsTup.new _ _⟩,rfl,q2 e _ (I.hok.fresh (Nat.le_refl _))⟩
theorem Reps.rep {K:PySem.W.Frag} {H:Hp} {ds:List D} {vs:List V} (h:Reps K H ds vs):∀k:Nat,Reps K H (List.replicate k ds).flatten (List.replicate k vs).flatten
 | 0=>Reps.nil
 | k + 1=>by
  rw [List.replicate_succ,List.replicate_succ,List.flatten_cons,List.flatten_cons];exact h.append (Reps.rep h k)
noncomputable def repD (ds:List D) (k:Int):Res D:=if ds.isEmpty=false/\0<=k/\ds.length * k.toNat<=1000 then .ok (.tup (List.replicate k.toNat ds).flatten) else .stuck
noncomputable def mulE:D->D->Res D
 | .tup ds,.int k=>repD ds k
 | a,b=>mulD a b
theorem aH' (x y:D):NoErr (mulE x y):=by
 unfold mulE
 split
 ·unfold repD; exact az' ak' af'
 ·exact lP' _ _
theorem iX' {X:Cx} (E:Value->Shared->Prop):OpR (X.wish E) (binaryOp .Mult) (rRepT X.K):=kE'
theorem aI' {X:Cx}:OpD X (binaryOp .Mult) mulE:=by
 intro E pins s σ H x y v u a b d I r1 r2 p1 p2 e;unfold mulE at e
 split at e
 ·rename_i ds k;unfold repD at e
  split at e
  ·rename_i c
   cases e
   obtain ⟨p,us,rfl,s1,t1⟩:=repT p1;have hy:=repI p2;subst hy;have hk:((k.toNat:Nat):Int)=k:=by omega
   refine thn (iX' E pins s σ H (.ref p) (.int k) v u (fun z H'=>Same H H'/\Rep X.K H' (.tup (List.replicate k.toNat ds).flatten) z) (I.wish _) r1 r2 ⟨p,k.toNat,us,rfl,by rw [hk],s1,?_,by rw [t1.length]; exact c.2.2,fun e1=>⟨Same.refl H,?_⟩,fun _ z hz=>⟨an' hz _,mkT (SqT.of aq') ((t1.rep _).mono (an' hz _))⟩⟩) fun w s2 ⟨z,H1,I1,r3,e1,p3⟩=>⟨_,z,H1,rfl,I1.unwish,r3,e1,p3⟩
   ·intro z; rw [z] at t1; have:=t1.isEmpty; rw [c.1] at this; cases this
   ·rw [e1,List.replicate_one,List.flatten_cons,List.flatten_nil,List.append_nil]; exact mkT s1 t1
  ·cases e
 ·exact lR' E pins s σ H x y v u a b d I r1 r2 p1 p2 e
noncomputable def intsOf:List D->Option (List Int)
 | []=>some []
 | .int i :: ds=>(intsOf ds).map (i :: ·)
 | _=>none
theorem dj':∀(ns:List Int),intsOf (ns.map .int)=some ns
 | []=>rfl
 | n :: ns=>by rw [List.map_cons,intsOf,dj' ns]; rfl
theorem bK':∀{ds:List D} {ns:List Int},intsOf ds=some ns->ds=ns.map .int
 | [],ns,h=>by cases h; rfl
 | d :: ds,ns,h=>by
  cases d <;> first | (simp [intsOf] at h; done) | skip
  rename_i i;simp only [intsOf] at h
  cases q:intsOf ds with
  | none=>rw [q] at h; cases h
  | some ms=>rw [q] at h; cases h; rw [bK' q]; rfl
theorem go' {f:Int->Bool} (ns:List Int):(List.range ns.length).any (fun i=>f (ns.getD i 0))=ns.any f:=by
 rw [Bool.eq_iff_iff];simp only [List.any_eq_true,List.mem_range]
 constructor
 ·rintro ⟨i,hi,h⟩
  refine ⟨ns[i],List.getElem_mem hi,?_⟩;simpa [List.getD,hi] using h
 ·rintro ⟨b,hb,h⟩
  obtain ⟨i,hi,rfl⟩:=List.mem_iff_getElem.mp hb;exact ⟨i,hi,by simpa [List.getD,hi] using h⟩
noncomputable def anyT:List D->Res D
 | [.tup ds]=>match intsOf ds with | some ns=>.ok (.bl (ns.any (· != 0))) | none=>.stuck
 | x=>anyG x
theorem eV' (ds:List D):NoErr (anyT ds):=by
 unfold anyT
 split
 ·split
  ·exact ak'
  ·exact af'
 ·exact kA' _
theorem iY' {K:PySem.W.Frag} {H:Hp} {ns:List Int} {xs:List V} {its:List Value} (r:Reps K H (ns.map .int) xs) (rv:Vals xs its) {i:Nat} {v:Value} (h:its[i]? = some v):∃t,v=.int (ns.getD i 0) t:=by
 have hl:i < xs.length:=by rw [rv.length]; exact (List.getElem?_eq_some_iff.mp h).1
 obtain ⟨d,e1,e2⟩:=r.get' (i:=i) (v:=xs[i]) (by simp [hl]);obtain ⟨u,e4,e5⟩:=rv.get (i:=i) (x:=xs[i]) (by simp [hl]);rw [h] at e4; cases e4;rw [List.getElem?_map] at e1
 cases q:ns[i]? with
 | none=>rw [q] at e1; cases e1
 | some n =>
  rw [q] at e1
  cases e1
  rw [repI e2] at e5;obtain ⟨t,rfl⟩:=e5;exact ⟨t,by rw [List.getD_eq_getElem?_getD,q]; rfl⟩
theorem eW' {X:Cx} (hcalm:X.calm=true):CallD X (.builtin "any") anyT:=by
 intro E pins s σ H xs us ds d I r p e;unfold anyT at e
 split at e
 ·rename_i es
  split at e
  ·rename_i ns hb
   cases e
   obtain ⟨v,vs,rfl,p1,t⟩:=p.cons_of
   cases t.nil_of
   obtain ⟨u,rfl,rx⟩:=vals1 r;obtain ⟨a,ys,rfl,hq,rs⟩:=repT p1
   cases rx
   obtain ⟨its,rv,pl,hz⟩:=I.tuple hq;rw [bK' hb] at rs;refine call_any_walk (wpAny_pyIter_tuple (show s.heap.IsTuple a its.toArray from pl) ?_)
   obtain ⟨o,g,oc⟩:=id pl;have hax:a≠s.heap.objs.size:=Nat.ne_of_lt (Heap.lt_size g);have hn:its.toArray.size=ns.length:=by rw [List.size_toArray,<- rv.length,rs.length,List.length_map]
   refine ⟨_,_,_,_,_,_,fun i=>(ns.getD i 0) != 0,rfl,Walks.tuple (A:=X.A.in1) (show X.A.in1.handled=none from I.ok.hd hcalm) s.heap.objs.size a hax its.toArray,⟨⟨_,Heap.get?_push_size _ rfl,rfl,rfl⟩,⟨o,Heap.get?_push_of_some _ g,oc⟩⟩,fun i v s' Q E' hP hQ=>?_,fun h' tk hk=>?_⟩
   ·obtain ⟨t,rfl⟩:=iY' rs rv (i:=i) (v:=v) (by simpa using hP);exact truthy_int hQ
   ·rw [hn,go' (f:=fun x=>x != 0)];have k:∀b o,s.heap.get? b=some o->h'.get? b=some o:=fun b o e=>hk b o (by
     intro z;have:b=s.heap.objs.size:=by simpa using z
     exact absurd (Heap.lt_size e) (by rw [this]; exact Nat.lt_irrefl _)) (Heap.get?_push_of_some _ e)
    exact ⟨_,.bl _,H,rfl,I.kept (t':=tk) k,rfl,Same.refl H,mkB⟩
  ·cases e
 ·exact lW' hcalm E pins s σ H xs us ds d I r p e
section
variable {X:Cx}
end
structure FunV (K:PySem.W.Frag) (x qual:Str) (st:Stmt) (f:Addr) (fd:FuncData):Prop where
 ex:∃(oc:Value) (od:Option Addr) (dV kV doc pm:Value) (an:Option Addr) (cdv ct:Value) (osl:Array (Option Value)),
  fd=PySem.W.fnOf x qual (defArgs st) (defBody st) (defScope st) dV kV doc pm an cdv ct/\K.lookup f=some ⟨oc,od,.func fd,osl⟩/\PySem.W.codeIn K cdv qual=true
 kp:PySem.W.keepIn K (.ref f)=true
section
variable {P:Program} {w:World} {K:PySem.W.Frag} {mg:Str->Option Value} {base:Heap}
theorem FunV.binds {x qual:Str} {st:Stmt} {f:Addr} {fd:FuncData} {ps:List Str} (F:FunV K x qual st f fd)
  (h:∀(dV kV doc pm:Value) (an:Option Addr) (cdv ct:Value) (us:List Value),us.length=ps.length->bindArgs (PySem.W.fnOf x qual (defArgs st) (defBody st) (defScope st) dV kV doc pm an cdv ct) ⟨us,[]⟩=pure (ps.zip us)):Binds K fd ps []:=by
 obtain ⟨oc,od,dV,kV,doc,pm,an,cdv,ct,osl,rfl,lk,hcd⟩:=F.ex;exact .all (h dV kV doc pm an cdv ct)
end
noncomputable def Ite (K:PySem.W.Frag) (l:Addr):It :=
  ⟨fun i H=>∃xs v,SqL K H l xs/\xs[i]? = some v,
   fun i H x H'=>∃T,H T=none/\x=.ref T/\∃v,(∀xs,SqL K H l xs->xs[i]? = some v)/\H'=upd H T (.tup [.int (i:Int),v]),
   fun i H=>∃xs,SqL K H l xs/\xs.length<=i⟩
theorem ee' {P:Program} {w:World} {K:PySem.W.Frag} {elts:List Expr} {x1:Nat} {pos:Pos} {e it l:Addr} (hei:e≠it) :
  Turn P w K (.Tuple elts x1 pos) (Ite K l) [e,it] e (fun i h=>(∃old,IsEnum h e it ((i:Nat):Int) old)/\h.IsListIter it l i) where
 mem:=by simp
 obj:=fun i h st b hb=>by
  obtain ⟨⟨old,g1⟩,⟨o,g2,_,d2⟩⟩:=st;simp only [List.mem_cons,List.not_mem_nil,or_false] at hb;rcases hb with rfl | rfl
  ·exact ⟨_,g1,fun v q=>by cases q⟩
  ·exact ⟨_,g2,fun v q=>by rw [d2] at q; cases q⟩
 keep:=fun i h h' st k=>by
  obtain ⟨⟨old,g1⟩,⟨o,g2,r2⟩⟩:=st;exact ⟨⟨old,k e (by simp) _ g1⟩,⟨o,k it (by simp) _ g2,r2⟩⟩
 item:=by
  intro X hP hw hK hc i pins s σ H E I hf st hg;subst hP hw hK;obtain ⟨xs,v,hq,hx⟩:=hg;obtain ⟨its,rv,p,hz⟩:=I.list hq;obtain ⟨u,hu,ru⟩:=rv.get hx;obtain ⟨⟨old,g1⟩,g2⟩:=st;refine wpAny_pyNext_enum_item g1 g2 p.isList (x:=u) (by simpa using hu) hei fun h' eo it' gT sz kk=>?_;refine ⟨_,rfl,wpAny_letOwnedTupleGo_enum eo fun h'' ge'' sb=>?_⟩;have fT:FpOk X pins H s.heap.objs.size:=I.fpOk (Nat.le_refl _) (I.hok.fresh (Nat.le_refl _));have el:e < s.heap.objs.size:=Heap.lt_size g1;obtain ⟨oi,gi,ri⟩:=id g2;have il:it < s.heap.objs.size:=Heap.lt_size gi;have ze:s.heap.objs.size≠e:=Nat.ne_of_gt el;have kk2:∀b o,b∉[e,it]->s.heap.get? b=some o->h''.get? b=some o:=fun b o n q=>by
   simp only [List.mem_cons,List.not_mem_nil,or_false,not_or] at n;exact (sb.2 b n.1).trans (kk b o n.1 n.2 q)
  have I1:Inv X pins σ H { s with heap:=h'',toks:=s.toks + 1 }:=I.butL (t':=s.toks + 1) hf kk2
  have gT2:h''.get? s.heap.objs.size=some { cls:=Value.type "tuple",data:=Data.seq #[.int i s.toks,u] }:=(sb.2 _ ze).trans gT;obtain ⟨f0,f1,f2,f3,f4,f5⟩:=fT;have I2:Inv X pins σ (upd H s.heap.objs.size (.tup [.int (i:Int),v])) { s with heap:=h'',toks:=s.toks + 1 }:=I1.track f0 (fun ob q _=>absurd (Nat.lt_of_lt_of_le (Heap.lt_size q) I.sz) (Nat.lt_irrefl _)) f1 f4 f5
   ⟨show 2<=sizeLine by decide,[.int i s.toks,u],.cons ⟨_,rfl⟩ (.cons ru .nil),⟨_,gT2,rfl,_,rfl⟩⟩
  refine ⟨.ref s.heap.objs.size,_,I2,rfl,⟨_,f0,rfl,v,fun xs' h=>by rw [I.list_inj h hq]; exact hx,rfl⟩,⟨⟨u,?_⟩,?_⟩,fun b hb=>?_⟩
  ·have:(((i + 1:Nat)):Int)=(i:Int) + 1:=by omega
   rw [this]; exact ge''
  ·obtain ⟨o',g',r'⟩:=it';exact ⟨o',(sb.2 _ (Ne.symm hei)).trans g',r'⟩
  ·have hb2:b≠s.heap.objs.size:=fun q=>by
    simp only [List.mem_cons,List.not_mem_nil,or_false] at hb;rcases hb with rfl | rfl
    ·rw [q] at el; exact Nat.lt_irrefl _ el
    ·rw [q] at il; exact Nat.lt_irrefl _ il
   rw [am' hb2]; exact (hf b hb).1
 done:=by
  intro X hP hw hK hc i pins s σ H E I hf st hg;subst hP hw hK;obtain ⟨xs,hq,hx⟩:=hg;obtain ⟨its,rv,p,hz⟩:=I.list hq;have l1:=rv.length;obtain ⟨⟨old,g1⟩,g2⟩:=st;refine wpAny_pyNext_enum_end (I.ok.hd hc) g1 g2 p.isList (by simp; omega) fun h' kk=>⟨rfl,I.butL (t':=s.toks) hf fun b o n q=>kk b o (fun z=>n (by simp [z])) q⟩
 self:=fun _ _ _ _ _ st h=>by
  obtain ⟨⟨old,g1⟩,_⟩:=st;exact wpAny_pyIter_enum g1 h
noncomputable def enumD (xs:List D):List D:=xs.zipIdx.map fun p=>D.tup [.int ((p.2:Nat):Int),p.1]
theorem cQ' (xs:List D) (i:Nat):(enumD xs)[i]? = xs[i]?.map fun x=>D.tup [.int ((i:Nat):Int),x]:=by
 unfold enumD;rw [List.getElem?_map,List.getElem?_zipIdx]
 cases xs[i]? <;> simp
noncomputable def enumG:List D->Res (List D)
 | [.lst xs]=>.ok (enumD xs)
 | _=>.stuck
theorem cR' {K:PySem.W.Frag} {H:Hp} {l:Addr} {xs:List V} {ds:List D} (h1:SqL K H l xs) (r1:Reps K H ds xs):Yields K (Ite K l) H (enumD ds):=by
 intro H' e;have q1:=e.seq h1;have p1:=r1.mono e;refine ⟨fun i d hd=>?_,xs,q1,?_⟩
 ·rw [cQ'] at hd
  cases z1:ds[i]? with
  | none=>rw [z1] at hd; simp at hd
  | some x =>
   rw [z1] at hd;simp only [Option.map_some,Option.some.injEq] at hd;subst hd;obtain ⟨v,e1,s1⟩:=p1.get z1;refine ⟨⟨xs,v,q1,e1⟩,fun a H'' yl=>?_⟩;obtain ⟨T,hT,rfl,v',k1,rfl⟩:=yl;have w1:=k1 xs q1;rw [e1] at w1
   cases w1
   have sm:=an' hT (.tup [.int (i:Int),v]);exact ⟨sm,mkT (SqT.of aq') (.cons mkI (.cons (s1.mono sm) .nil))⟩
 ·unfold enumD;rw [List.length_map,List.length_zipIdx,r1.length];exact Nat.le_refl _
theorem dy' {X:Cx} {a:Expr} {fa:DS->Res (List D)} {p pos tp:Pos} {elts:List Expr} {x1:Nat} (hg:Gl X "enumerate") (hm:X.mg "enumerate" = none) (ha:PAD X [a] fa) (hs:starEach [a] X.env=[(false,eval a X.env)]:=by rfl) :
  PID X (.Tuple elts x1 tp) (.Call (.Name "enumerate" p) [a] [] pos) (fun δ=>(fa δ).bind enumG):=by
 intro pins s σ G H δ I R hn
 try dsimp only at hn ⊢
 refine Call_ (bG' I hg hm boot_enumerate (PyProof.Rows.callWith_type1 (ha.use I R (at' hn) (fun ds us s1 vs H1 q I1 r1 e1 b1 p1=>?_) fun e s1 q=>q.same fun x z=>aw' z) (by rw [hs]; rfl) rfl));have h2:=av' hn q;unfold enumG at h2
 split at h2
 ·rename_i ds1;obtain ⟨v,ws,rfl,w1,w2⟩:=p1.cons_of
  cases w2.nil_of
  obtain ⟨t1,xs,rfl,s1',t1'⟩:=repL w1
  cases r1 with
  | cons ra rr =>
   cases rr
   cases ra
   obtain ⟨its1,rv1,pp1,hz1⟩:=I1.list s1';refine call_enumerate_list pp1.isList fun h' Z Zi sz kk=>?_;have I2:Inv X pins σ H1 { s1 with heap:=h' }:=I1.kept (t':=s1.toks) kk
   refine wpAny_pyIter_enum Z ?_;refine ⟨_,s1.heap.objs.size + 1,[s1.heap.objs.size + 1,s1.heap.objs.size],_,_,H1,by rw [q]; rfl,rfl,I2,ee' (Nat.succ_ne_self _),⟨⟨.none,Z⟩,Zi⟩,fun b hb=>?_,e1,cR' s1' t1'⟩;have ge:s1.heap.objs.size<=b:=by
    simp only [List.mem_cons,List.not_mem_nil,or_false] at hb;rcases hb with rfl | rfl
    ·exact Nat.le_succ _
    ·exact Nat.le_refl _
   exact I1.fpOk ge (I1.hok.fresh ge)
 ·exact (h2 rfl).elim
noncomputable def ownC (i:Nat) (f:DS->Res D):DS->Out:=fun δ=>match f δ with
 | .ok (.lst ds)=>.nxt (δ.set i (some (.own ds)))
 | .ok _=>.stuck
 | .err x=>.err x δ
 | .stuck=>.stuck
section
variable {X:Cx} {m:Nat} {fr:List Nat} {N':List Str} {scope:Scope} {cl:List (Str×Addr)} {tg iter elt:Expr} {pos:Pos} {t:TGD} {fe:DS->Res D} {fi:DS->Res (List D)}
theorem bZ' (i:Nat) {y:Str} {py spos:Pos} (W:Around' X m fr N' scope cl) (hcalm:X.calm=true) (hkt:KeepsT m t) (hi:PID X tg iter fi) (ht:∀C s H fp,PGD (compX X N' scope cl C s H fp) tg t) (he:∀C s H fp,PD (compX X N' scope cl C s H fp) elt fe)
  (hN:X.N.Nodup) (hsw:swapsWith (.ListComp elt [⟨tg,iter,[],0⟩] scope pos) (some (.Name y py)) spos.line X.env=pure true:=by rfl) (hy:X.N[i]? = some y:=by rfl) (hx:Loc X.env.scope y:=by first | exact Or.inl rfl | exact Or.inr rfl)
  (hfn:X.fn y=true\/X.env.scope.names.lookup y=some .local:=by first | exact .inl rfl | exact .inr rfl | assumption) (hf:∀x,foldedSetIterable iter X.env x=pure x:=by intro _; rfl) :
  PSD X (.Assign [.Name y py] (.ListComp elt [⟨tg,iter,[],0⟩] scope pos) spos) (ownC i (compD m fr t fe fi)):=by
 intro pins s σ G H δ I R hs;have hs':compD m fr t fe fi δ≠.stuck:=fun z=>hs (by unfold ownC; rw [z]);rw [exec_Assign_Name_used _ _ _ _ hsw];refine wpAny_bind (wpAny_standAt (wpAny_bind ?_));show wpAny _ X.A (do let _ <- comprehension (.ListComp elt [⟨tg,iter,[],0⟩] scope pos) scope X.env _ (newList []) false (eval iter X.env) (some (assign (.Name y py) X.env))) _ _ s
 refine wpAny_bind (wpAny_mono (wpAny_comprehension_free (use:=some (assign (.Name y py) X.env)) (Q:=fun _ s'=>SPost X pins G H (ownC i (compD m fr t fe fi) δ) .next s') rfl hf W.clos W.kind W.names
  (dw' W hcalm hkt hi ht he I R hs' (fun e s1 q=>q.sx R fun x z=>by unfold ownC; rw [z]) (RR:=fun acc C=>compPost _ _ _ (some (assign (.Name y py) X.env)) _ acc C) ?_)) (fun _ s' hq=>wpAny_pure (wpAny_pure hq)) fun _ _ e=>e)
 intro a C s' H' ds xs mC ev J e' ha hx' hr hns hC hCa hC0 hCf hCl hCc hCp;show wpAny _ X.A (assign (.Name y py) X.env (.ref a)) _ _ _;refine wpAny_assign_Name (cG' J hN hy hx (v:=.ref a) (u:=.ref a) rfl (fun s2 I2 ⟨b,sb,hb⟩=>?_) hfn);have hbC:C≠b:=by
  rcases hb with z | z
  ·rw [z]; exact hCl
  ·exact fun w=>hCc _ _ z w.symm
 refine ⟨mC,hns.sameBut sb hbC,fun h' hs'=>?_⟩;refine ⟨_,_,H',by unfold ownC; rw [ev],I2.but (t':=s2.toks) hC hC0 hCl hCc hCp hs',e'.tk,R.setOwn e' i ha hx' hr⟩
end
noncomputable def setS (i:Nat) (ds:List D) (j:Nat) (d:D) (δ:DS):DS:=(δ.map fun o=>o.bind keepSV).set i (some (.own (ds.set j d)))
theorem Reps.setAt {K:PySem.W.Frag} {H:Hp}:∀{ds:List D} {vs:List V} (j:Nat) {d:D} {v:V},Reps K H ds vs->Rep K H d v->Reps K H (ds.set j d) (vs.set j v)
 | [],_,_,_,_,h,_=>by cases h.nil_of; exact Reps.nil
 | a :: ds,_,0,_,_,h,p=>by
  obtain ⟨v,vs,rfl,_,q⟩:=h.cons_of;exact Reps.cons p q
 | a :: ds,_,j + 1,_,_,h,p=>by
  obtain ⟨v,vs,rfl,r,q⟩:=h.cons_of;exact Reps.cons r (Reps.setAt j q p)
theorem RepSt.put {K:PySem.W.Frag} {G H:Hp} {σ:St} {δ:DS} {i:Nat} {ds:List D} {j:Nat} {d:D} {a:Addr} {xs:List V} {v:V} (R:RepSt K G H σ δ) (hδ:δ[i]? = some (some (.own ds))) (hσ:σ[i]? = some (some (.ref a))) (hH:H a=some (.lst xs)) (r:Reps K H ds xs) (hG:G a=none) (hf:flatDs ds=true) (hd:flatD d=true) (p:Rep K H d v) :
  RepSt K G (upd H a (.lst (xs.set j v))) σ (setS i ds j d δ) where
 same:=fun b o e=>by
  have hb:b≠a:=fun z=>by subst z; rw [hG] at e; cases e
  rw [am' hb]; exact R.same b o e
 len:=by unfold setS; rw [List.length_set,List.length_map]; exact R.len
 at_:=fun k sv h=>by
  unfold setS at h;have hl:i < δ.length:=(List.getElem?_eq_some_iff.mp hδ).1
  by_cases hj:i=k
  ·subst hj;rw [List.getElem?_set_self (by rw [List.length_map]; exact hl)] at h
   cases h
   exact ⟨.ref a,hσ,a,xs.set j v,rfl,aq',(Reps.lset hH hf r).setAt j (Rep.lset hH hd p),hG⟩
  ·rw [List.getElem?_set_ne hj] at h;obtain ⟨sv0,q1,q2⟩:=cC' h;obtain ⟨u,e1,e2⟩:=R.at_ k sv0 q1;refine ⟨u,e1,?_⟩
   cases sv0 with
   | val d' =>
    simp only [keepSV] at q2
    split at q2
    ·rename_i c; cases q2; exact Rep.lset hH c e2
    ·cases q2
   | arg d'=>cases q2; exact e2
   | own es =>
    simp only [keepSV] at q2
    split at q2
    ·rename_i c
     cases q2
     obtain ⟨b,ys,rfl,w2,w3,w4⟩:=e2;have hb:b≠a:=fun z=>by subst z; exact R.sep i k ds es (.ref b) hj hδ q1 hσ e1
     exact ⟨b,ys,rfl,by rw [am' hb]; exact w2,Reps.lset hH c w3,w4⟩
    ·cases q2
 sep:=fun k l es fs u hjk h1 h2 h3=>by
  have get:∀(m:Nat) (gs:List D),(setS i ds j d δ)[m]? = some (some (.own gs))->∃gs',δ[m]? = some (some (.own gs')):=fun m gs h=>by
   unfold setS at h
   by_cases hm:i=m
   ·subst hm; exact ⟨ds,hδ⟩
   ·rw [List.getElem?_set_ne hm] at h;obtain ⟨sv0,q1,q2⟩:=cC' h;obtain ⟨rfl,_⟩:=fw' q2;exact ⟨gs,q1⟩
  obtain ⟨es',g1⟩:=get k es h1;obtain ⟨fs',g2⟩:=get l fs h2;exact R.sep k l es' fs' u hjk g1 g2 h3
noncomputable def putD (i:Nat) (fi fe:DS->Res D):DS->Out:=fun δ=>match δ[i]? with
 | some (some (.own ds))=>onD (fe δ) δ fun d=>onD (fi δ) δ fun k=>match k with
  | .int z=>(match ixN ds.length z with
   | some j=>if flatDs ds=true/\flatD d=true then .nxt (setS i ds j d δ) else .stuck
   | none=>.stuck)
  | _=>.stuck
 | _=>.stuck
section
variable {X:Cx} {e ix:Expr} {fe fi:DS->Res D} {x:Str} {pos np sp:Pos}
theorem hy' (i:Nat) (he:PD X e fe) (hi:PD X ix fi) (hne:∀δ,NoErr (fi δ)) (hN:X.N[i]? = some x:=by rfl) (hv:Vis X.env.scope x:=by first | exact Or.inl rfl | exact Or.inr (Or.inl rfl) | exact Or.inr (Or.inr rfl)) (hd:(x == ("__debug__" : Str))=false:=by decide)
  (hcd:(x == ("__classdict__" : Str))=false:=by decide)
  (ha:∀v,assign (.Subscript (.Name x np) ix sp) X.env v=(do
   let ov <- holding [v] (eval (.Name x np) X.env)
   let iv <- holding [v,ov] (eval ix X.env)
   standAt sp
   holding [v,ov,iv] (setItem ov iv v)
   release [v,ov,iv] []):=by intro _; rfl)
  (hw1:swapsWithSole [(.Subscript (.Name x np) ix sp)] e pos.line X.env=pure false:=by rfl) (hw:swappedStores [(.Subscript (.Name x np) ix sp)] e X.env=pure none:=by rfl) (h1:(assignEach [(.Subscript (.Name x np) ix sp)] X.env).map (·.2)=[assign (.Subscript (.Name x np) ix sp) X.env]:=by rfl) :
  PSD X (.Assign [.Subscript (.Name x np) ix sp] e pos) (putD i fi fe):=by
 intro pins s σ G H δ I R hs;unfold putD at hs ⊢
 split at hs
 ·rename_i ds hδ;obtain ⟨v0,hσ,a,xs,rfl,hH,r,hG⟩:=R.at_ i _ hδ;refine wpAny_Assign_stores (he.use I R (gd' hs) (fun d u s1 w H1 q I1 r1 e1 b1 p1=>?_) fun e s1 q=>q.sx R fun x z=>by rw [z]; rfl) hw1 hw;rw [h1];rw [q] at hs ⊢;have hs2:onD (fi δ) δ (fun k=>match k with
   | .int z=>(match ixN ds.length z with
    | some j=>if flatDs ds=true/\flatD d=true then Out.nxt (setS i ds j d δ) else .stuck
    | none=>.stuck)
   | _=>.stuck)≠.stuck:=hs
  show wpAny _ _ (assign (.Subscript (.Name x np) ix sp) X.env u) _ _ _;rw [ha];have hH1:=e1 a _ hH;refine wpAny_bind (wpAny_holding (wpAny_mono (gA' (X:=X.wish fun _ _=>False) hN hv hd hcd pins s1 σ H1 (fun v' H'=>v'=.ref a/\H'=H1) (I1.wish _) ⟨.ref a,hσ,rfl,rfl⟩) (fun ov s2 q2=>?_) fun _ _ z=>z.elim));obtain ⟨v',H',I2,r2,rfl,rfl⟩:=q2;have I2':=I2.unwish;have R1:=R.mono e1;refine wpAny_bind (wpAny_holding (hi.use I2' R1 (gd' hs2) (fun k u3 s3 w3 H3 q3 I3 r3 e3 b3 p3=>?_) fun e s1 q=>?_))
  ·rw [q3] at hs2 ⊢
   cases k with
   | int z =>
    have hs3:(match ixN ds.length z with
     | some j=>if flatDs ds=true/\flatD d=true then Out.nxt (setS i ds j d δ) else .stuck
     | none=>.stuck)≠.stuck:=hs2
    cases hj:ixN ds.length z with
    | none=>rw [hj] at hs3; exact (hs3 rfl).elim
    | some j =>
     rw [hj] at hs3;have hc:flatDs ds=true/\flatD d=true:=by
      by_cases c:flatDs ds=true/\flatD d=true
      ·exact c
      ·dsimp only at hs3; rw [if_neg c] at hs3; exact (hs3 rfl).elim
     have hH3:=e3 a _ hH1;rw [repI p3] at r3;refine wpAny_bind (wpAny_standAt (wpAny_bind (wpAny_holding (wpAny_mono (set_list (X:=X.wish fun _ _=>False) pins s3 σ H3 (.ref a) (.int z) w ov u3 u (fun H4=>H4=upd H3 a (.lst (xs.set j w))) (I3.wish _) r2 r3 r1 ⟨a,xs,z,j,rfl,rfl,hH3,by rw [r.length]; exact hj,rfl⟩) (fun _ s4 q4=>?_) fun _ _ z=>z.elim))));obtain ⟨H4,I4,rfl⟩:=q4;refine wpAny_release ?_;have e13:=e1.trans e3;have ev:(onD (Res.ok d) δ fun d=>onD (Res.ok (D.int z)) δ fun k=>match k with
      | .int z=>(match ixN ds.length z with
       | some j=>if flatDs ds=true/\flatD d=true then Out.nxt (setS i ds j d δ) else .stuck
       | none=>.stuck)
      | _=>.stuck)=Out.nxt (setS i ds j d δ):=by
      show (match ixN ds.length z with
       | some j=>if flatDs ds=true/\flatD d=true then Out.nxt (setS i ds j d δ) else .stuck
       | none=>.stuck)=_
      rw [hj]; dsimp only; rw [if_pos hc]
     rw [ev];refine ⟨_,σ,_,rfl,I4.unwish,⟨fun b ys h=>?_,fun b o u h=>?_,fun b h=>?_⟩,(R.mono e13).put hδ hσ hH3 (r.mono e13) hG hc.1 hc.2 (p1.mono e3)⟩
     ·have hb:b≠a:=fun z=>by subst z; rw [hH] at h; cases h
      rw [am' hb]; exact e13 b _ h
     ·have hb:b≠a:=fun z=>by subst z; rw [hH] at h; cases h
      rw [am' hb]; exact e13 b _ h
     ·by_cases hb:b=a
      ·subst hb; rw [aq'] at h; cases h
      ·rw [am' hb] at h; exact e13.free h
   | _=>exact (hs2 rfl).elim
  ·obtain ⟨y,_,_,_,q1,_⟩:=q;exact (hne δ y q1).elim
 ·exact (hs rfl).elim
end
noncomputable def noX (f:DS->Res D):DS->Res D:=fun δ=>match f δ with
 | .err _=>.stuck
 | r=>r
theorem dk' (f:DS->Res D):∀δ,NoErr (noX f δ):=fun δ x h=>by
 unfold noX at h
 split at h
 ·cases h
 ·rename_i hn; exact hn x h
theorem ma' {f:DS->Res D} {δ:DS} {d:D} (h:f δ=.ok d):noX f δ=.ok d:=by unfold noX; rw [h]
theorem fz' {X:Cx} {e:Expr} {f:DS->Res D} (h:PD X e f):PD X e (noX f):=by
 intro pins s σ G H δ I R hs;have h1:noX f δ=f δ:=by
  unfold noX at hs ⊢
  split
  ·rename_i x hx; rw [hx] at hs; exact (hs rfl).elim
  ·rfl
 rw [h1] at hs ⊢;exact h pins s σ G H δ I R hs
noncomputable def notInD:D->D->Res D
 | .int i,.tup ds=>(match intsOf ds with | some ns=>.ok (.bl (!ns.contains i)) | none=>.stuck)
 | .int i,.lst ds=>(match intsOf ds with | some ns=>.ok (.bl (!ns.contains i)) | none=>.stuck)
 | _,_=>.stuck
theorem iZ' (x y:D):NoErr (notInD x y):=by
 unfold notInD
 split
 ·split
  ·exact ak'
  ·exact af'
 ·split
  ·exact ak'
  ·exact af'
 ·exact af'
theorem bO' {K:PySem.W.Frag} {H:Hp}:∀{ns:List Int} {xs:List V},Reps K H (ns.map .int) xs->xs=ns.map V.int
 | [],_,h=>h.nil_of
 | n :: ns,_,h=>by
  obtain ⟨v,vs,rfl,p,t⟩:=h.cons_of;rw [repI p,bO' t]; rfl
theorem fA' (i:Int) (ns:List Int):inV (.int i) (ns.map V.int)=ns.contains i:=by
 unfold inV
 induction ns with
 | nil=>rfl
 | cons n ns ih =>
  rw [List.map_cons,List.any_cons,ih,List.contains_cons]
  congr 1
  show (n == i)=(i == n);exact Bool.eq_iff_iff.mpr ⟨fun h=>beq_iff_eq.mpr (beq_iff_eq.mp h).symm,fun h=>beq_iff_eq.mpr (beq_iff_eq.mp h).symm⟩
theorem ef' (ns:List Int):(ns.map V.int).all flatV=true:=by
 induction ns with
 | nil=>rfl
 | cons n ns ih=>rw [List.map_cons,List.all_cons,ih]; rfl
section
variable {X:Cx}
theorem ja':OpD X (compareOp .NotIn) notInD:=OpD.of (r:=rIn X.K true) (fun E=>dQ' (X:=X.wish E)) fun H x y a b d Q p1 p2 e q=>by
 unfold notInD at e
 split at e
 ·rename_i i ds
  split at e
  ·rename_i ns hn
   cases e
   have:=bK' hn;subst this;obtain ⟨t,xs,rfl,hq,r⟩:=repT p2;have:=bO' r;subst this;rw [repI p1];refine ⟨t,_,rfl,.inr hq,rfl,ef' ns,?_⟩;rw [if_pos rfl,fA'];exact q _ H (Same.refl H) mkB
  ·cases e
 ·rename_i i ds
  split at e
  ·rename_i ns hn
   cases e
   have:=bK' hn;subst this;obtain ⟨t,xs,rfl,hq,r⟩:=repL p2;have:=bO' r;subst this;rw [repI p1];refine ⟨t,_,rfl,.inl hq,rfl,ef' ns,?_⟩;rw [if_pos rfl,fA'];exact q _ H (Same.refl H) mkB
  ·cases e
 ·cases e
end
noncomputable def repLG (ds:List D):D->Res D
 | .int k=>if 0<=k/\k<=1000/\ds.length<=1000/\ds.length * k.toNat<=1000 then .ok (.lst (List.replicate k.toNat ds).flatten) else .stuck
 | _=>.stuck
noncomputable def lstRep (fs:DS->Res (List D)) (fb:DS->Res D):DS->Res D:=fun δ=>(fs δ).bind fun ds=>(noX fb δ).bind (repLG ds)
theorem fB' {ds:List D} {b r:D} (h:repLG ds b=.ok r):∃k:Int,b=.int k/\0<=k/\k<=1000/\ds.length<=1000/\ds.length * k.toNat<=1000/\r=.lst (List.replicate k.toNat ds).flatten:=by
 cases b <;> first | (simp [repLG] at h; done) | skip
 rename_i k;simp only [repLG] at h
 split at h
 ·rename_i c; cases h; exact ⟨k,rfl,c.1,c.2.1,c.2.2.1,c.2.2.2,rfl⟩
 ·cases h
theorem fC' (ds:List D) (b:D):NoErr (repLG ds b):=by
 cases b <;> first | exact af' | exact az' ak' af'
theorem hA' {X:Cx} {es:List Expr} {b:Expr} {fs:DS->Res (List D)} {fb:DS->Res D} {lp pos:Pos} (ha:PAD X es fs) (hb:PD X b fb):PD X (.BinOp (.List es lp) .Mult b pos) (lstRep fs fb):=by
 intro pins s σ G H δ I R hs;unfold lstRep at hs ⊢;refine wpAny_BinOp (wpAny_List_spliced (ha.use I R (at' hs) (fun ds us s1 vs H1 q I1 r1 e1 b1 p1=>?_) fun e s1 q=>q.same fun x z=>aw' z));have h2:=av' hs q;have hn:noX fb δ≠.stuck:=at' h2
 cases qb:noX fb δ with
 | stuck=>exact (hn qb).elim
 | err x=>exact (dk' fb δ x qb).elim
 | ok k0 =>
  have h3:repLG ds k0≠.stuck:=av' h2 qb
  cases qr:repLG ds k0 with
  | stuck=>exact (h3 qr).elim
  | err x=>exact (fC' _ _ x qr).elim
  | ok r =>
   obtain ⟨k,rfl,c1,c2,c3,c4,rfl⟩:=fB' qr;have big:(1000:Nat)<=sizeLine:=by decide
   have hz:ds.length<=sizeLine:=Nat.le_trans c3 big;refine ⟨by rw [<- r1.length,p1.length]; exact hz,?_⟩;have hf':H1 s1.heap.objs.size=none:=I1.hok.fresh (Nat.le_refl _);have sm:=an' hf' (.lst vs);have I2:Inv X pins σ (upd H1 s1.heap.objs.size (.lst vs)) { s1 with heap:=s1.heap.push { cls:=.type "list",data:=.seq us.toArray } }:=I1.laid (t':=s1.toks) (fun b u e=>Heap.get?_push_of_some _ e) (Nat.le_refl _) ⟨by rw [p1.length]; exact hz,us,0,r1,Heap.get?_push_size _ rfl⟩
   refine (fz' hb).use I2 ((R.mono e1).mono sm) hn (fun d3 u3 s3 v3 H3 q3 I3 r3 e3 b3 p3=>?_) fun e s1 ⟨x,_,_,_,q,_⟩=>(dk' fb δ x q).elim;rw [qb] at q3
   cases q3
   rw [repI p3] at r3;have hH3:=e3 _ _ (aq' (H:=H1) (a:=s1.heap.objs.size) (o:=.lst vs));refine wpAny_mono (jE' (X:=X.wish fun _ _=>False) pins s3 σ H3 (.ref s1.heap.objs.size) (.int k) (.ref s1.heap.objs.size) u3 (fun z H4=>∃p,H3 p=none/\z=.ref p/\H4=upd H3 p (.lst (List.replicate k.toNat vs).flatten)) (I3.wish _) rfl r3
    ⟨_,k,vs,rfl,rfl,hH3,by omega,by omega,by rw [p1.length]; omega,fun p hp=>⟨p,hp,rfl,rfl⟩⟩) (fun w s4 q4=>?_) fun _ _ z=>z.elim
   obtain ⟨z,H4,I4,r4,p,hp,rfl,rfl⟩:=q4;have sm4:=an' hp (.lst (List.replicate k.toNat vs).flatten);have ev:(fs δ).bind (fun ds=>(Res.ok (D.int k)).bind (repLG ds))=.ok (.lst (List.replicate k.toNat ds).flatten):=by rw [q,Res.bind_ok,Res.bind_ok]; exact qr
   rw [qb] at *;exact ⟨_,.ref p,_,ev,I4.unwish,r4,((e1.trans sm).trans e3).trans sm4,mkL (SqL.of aq') ((((p1.mono sm).mono e3).mono sm4).rep k.toNat)⟩
section
variable {X:Cx} {a b:Expr} {fa fb:DS->Res D} {x:Str} {pos pos' bp:Pos}
end
noncomputable def stepIx (n:Nat) (lo hi:Option Int) (k:Nat):List Nat :=
 (List.range ((HT.sIx n n hi - HT.sIx n 0 lo + (k - 1)) / k)).map fun j=>HT.sIx n 0 lo + j * k
noncomputable def stepL {α:Type} (xs:List α) (lo hi:Option Int) (k:Nat):List α:=(stepIx xs.length lo hi k).filterMap (xs[·]?)
noncomputable def stepD (d:D) (lo hi st:Option Int):Res D:=match d,st with
 | .lst ds,some k=>if 1<=k then .ok (.lst (stepL ds lo hi k.toNat)) else .stuck
 | _,_=>.stuck
noncomputable def stepF (fe:DS->Res D) (fl fu fs:DS->Res (Option Int)):DS->Res D:=fun δ=>(fe δ).bind fun d=>(fl δ).bind fun l=>(fu δ).bind fun u=>(fs δ).bind fun st=>stepD d l u st
theorem kF' (d:D) (lo hi st:Option Int):NoErr (stepD d lo hi st):=by
 unfold stepD; split <;> first | exact az' ak' af' | exact af'
theorem gp' {a b k:Nat} (hk:1<=k):sliceRange (a:Int) (b:Int) (k:Int)=(List.range ((b - a + (k - 1)) / k)).map fun j=>a + j * k:=by
 unfold sliceRange;have h1:(k:Int) > 0:=by omega
 simp only [h1,if_true];have e:((if (a:Int) < (b:Int) then ((b:Int) - a + k - 1) / k else 0):Int).toNat=(b - a + (k - 1)) / k:=by
  by_cases c:(a:Int) < b
  ·rw [if_pos c];have:(b:Int) - a + k - 1=((b - a + (k - 1):Nat):Int):=by omega
   rw [this,<- Int.natCast_ediv,Int.toNat_natCast]
  ·rw [if_neg c];have:b - a + (k - 1)=k - 1:=by omega
   rw [this,Nat.div_eq_of_lt (by omega)]; rfl
 rw [e];refine List.map_congr_left fun j _=>?_;exact Eq.trans (congrArg Int.toNat (show _=((a + j * k:Nat):Int) from by rw [Int.mul_comm]; simp)) (Int.toNat_natCast _)
theorem eX' (lo hi:Option Int) (n:Nat) {k:Nat} (hk:1<=k):sliceBounds lo hi (some (k:Int)) n=(((HT.sIx n 0 lo:Nat):Int),((HT.sIx n n hi:Nat):Int),(k:Int)):=by
 have h1:(k:Int) > 0:=by omega
 unfold sliceBounds;simp only [Option.getD_some,h1,if_true];refine Prod.ext ?_ (Prod.ext ?_ rfl)
 ·cases lo with
  | none=>rfl
  | some i =>
   simp only [HT.sIx]
   by_cases h:i < 0
   ·simp only [h,if_true]; omega
   ·simp only [h,if_false]; omega
 ·cases hi with
  | none=>rfl
  | some i =>
   simp only [HT.sIx]
   by_cases h:i < 0
   ·simp only [h,if_true]; omega
   ·simp only [h,if_false]; omega
theorem hB' (its:List Value) (lo hi:Option Int) {k:Nat} (hk:1<=k):slicePick its.toArray lo hi (some (k:Int))=(stepL its lo hi k).toArray:=by
 unfold slicePick stepL stepIx;rw [List.size_toArray,eX' lo hi _ hk];simp only [];rw [gp' hk]
 congr 1
 simp only [List.getElem?_toArray]
theorem eg' {K:PySem.W.Frag} {H:Hp} {ds:List D} {vs:List V} (h:Reps K H ds vs):∀is:List Nat,Reps K H (is.filterMap (ds[·]?)) (is.filterMap (vs[·]?))
 | []=>.nil
 | i :: is=>by
  have ih:=eg' h is
  cases e:ds[i]? with
  | none =>
   have hv:vs[i]? = none:=by
    rw [List.getElem?_eq_none_iff] at e ⊢;rw [h.length]; exact e
   rw [List.filterMap_cons_none e,List.filterMap_cons_none hv]; exact ih
  | some d =>
   obtain ⟨v,e1,s1⟩:=h.get e;rw [List.filterMap_cons_some e,List.filterMap_cons_some e1];exact .cons s1 ih
theorem eh' {vs:List V} {us:List Value} (h:Vals vs us):∀is:List Nat,Vals (is.filterMap (vs[·]?)) (is.filterMap (us[·]?))
 | []=>.nil
 | i :: is=>by
  have ih:=eh' h is
  cases e:vs[i]? with
  | none =>
   have hv:us[i]? = none:=by
    rw [List.getElem?_eq_none_iff] at e ⊢;rw [<- h.length]; exact e
   rw [List.filterMap_cons_none e,List.filterMap_cons_none hv]; exact ih
  | some v =>
   obtain ⟨u,e1,s1⟩:=h.get e;rw [List.filterMap_cons_some e,List.filterMap_cons_some e1];exact .cons s1 ih
theorem ei' {α:Type} (xs:List α) (lo hi:Option Int) {k:Nat} (hk:1<=k):(stepL xs lo hi k).length<=xs.length:=by
 unfold stepL;refine Nat.le_trans (List.length_filterMap_le _ _) ?_;unfold stepIx;rw [List.length_map,List.length_range];have h:=HT.sIx_le xs.length xs.length (Nat.le_refl _) hi;have:(HT.sIx xs.length xs.length hi - HT.sIx xs.length 0 lo + (k - 1)) / k<=HT.sIx xs.length xs.length hi - HT.sIx xs.length 0 lo:=by
  generalize HT.sIx xs.length xs.length hi - HT.sIx xs.length 0 lo=m;rcases Nat.eq_zero_or_pos m with z | z
  ·rw [z,Nat.zero_add,Nat.div_eq_of_lt (by omega)]; exact Nat.le_refl _
  ·refine Nat.div_le_of_le_mul ?_;have h5:m * 1 + 1 * (k - 1)<=k * m + 0:=by
    have h6:(m - 1) * (k - 1) + m + k=m * k + 1:=by
     obtain ⟨a,rfl⟩:∃a,m=a + 1:=⟨m - 1,by omega⟩;obtain ⟨b,rfl⟩:∃b,k=b + 1:=⟨k - 1,by omega⟩;simp only [Nat.add_sub_cancel]
     grind
    have h7:k * m=m * k:=Nat.mul_comm ..;omega
   omega
 omega
section
variable {X:Cx} {e:Expr} {fe:DS->Res D} {lo hi:Option Expr} {st:Expr} {fl fu fs:DS->Res (Option Int)} {pos p2:Pos}
theorem kG' (he:PD X e fe) (hl:POD X lo fl) (hu:POD X hi fu) (ht:POD X (some st) fs):PD X (.Subscript e (.Slice lo hi (some st) p2) pos) (stepF fe fl fu fs):=by
 intro pins s σ G H δ I R hs;unfold stepF at hs ⊢;refine Subscript_ (he.use I R (at' hs) (fun d v s1 x H1 q I1 r1 e1 b1 p1=>?_) fun e s1 q=>q.same fun x z=>aw' z);have h2:=av' hs q;rw [q,Res.bind_ok];refine wpAny_Slice (hl.use I1 (R.mono e1) (at' h2) (fun l vl s2 H2 q2 I2 pl e2 b2=>?_) fun e s2 p=>p.back e1 b1 fun x z=>aw' z);have h3:=av' h2 q2;rw [q2,Res.bind_ok];refine hu.use I2 ((R.mono e1).mono e2) (at' h3) (fun u vu s3 H3 q3 I3 pu e3 b3=>?_) fun e s3 p=>(p.back e2 b2 (r':=(fu δ).bind fun u=>(fs δ).bind fun st=>stepD d l u st) fun x z=>aw' z).back e1 b1 fun x z=>z;have h4:=av' h3 q3;rw [q3,Res.bind_ok];refine ht.use I3 (((R.mono e1).mono e2).mono e3) (at' h4) (fun k vk s4 H4 q4 I4 pk e4 b4=>?_) fun e s4 p=>((p.back e3 b3 (r':=(fs δ).bind fun st=>stepD d l u st) fun x z=>aw' z).back e2 b2 (r':=(fs δ).bind fun st=>stepD d l u st) fun x z=>z).back e1 b1 fun x z=>z;have h5:=av' h4 q4;rw [q4,Res.bind_ok];have I5:Inv X pins σ H4 { s4 with heap:=s4.heap.push { cls:=.type "slice",data:=.fields #[vl,vu,vk] } }:=I4.kept (t':=s4.toks) fun b ob q=>Heap.get?_push_of_some _ q
 cases qg:stepD d l u k with
 | stuck=>exact (h5 qg).elim
 | err z=>exact (kF' d l u k z qg).elim
 | ok r =>
  unfold stepD at qg
  split at qg
  ·rename_i ds kk
   split at qg
   ·rename_i k1
    cases qg
    obtain ⟨n,rfl⟩:=Int.eq_ofNat_of_zero_le (show 0<=kk by omega);have n1:1<=n:=by omega
    obtain ⟨a,xs,rfl,hq,rr⟩:=repL (((p1.mono e2).mono e3).mono e4)
    cases r1
    obtain ⟨its,r,hti,hz⟩:=I5.list hq;have hlen:=r.length;show wpAny (model X.prog X.w) X.A (subscriptTail e (.Slice lo hi (some st) p2) (.ref a) (.ref s4.heap.objs.size)) _ _ { s4 with heap:=s4.heap.push { cls:=.type "slice",data:=.fields #[vl,vu,vk] } }
    refine tail_any (ops:=[.ref a,.ref s4.heap.objs.size]) hti.isList.typeIs slot_list_getitem.lookup ?_ (by with_unfolding_all rfl);refine wpAny_getItem_list_slice hti.isList (Heap.IsSliceOf.new ..) pl pu pk (by simp; omega) ?_ (by rw [List.size_toArray] <;> omega)
    rw [hB' its l u n1];have hf:=I5.hok.fresh (Nat.le_refl _);refine ⟨.lst (stepL ds l u n),.ref _,_,rfl,I5.laid (t':=s4.toks) (o:=.lst (stepL xs l u n)) (fun b ob q=>Heap.get?_push_of_some _ q) (Nat.le_refl _) ?_,rfl,(((e1.trans e2).trans e3).trans e4).trans (an' hf _),?_⟩
    ·refine ⟨Nat.le_trans (ei' xs l u n1) hz,_,0,?_,Heap.get?_push_size _ rfl⟩;unfold stepL;rw [hlen];exact eh' r _
    ·have:Reps X.K H4 (stepL ds l u n) (stepL xs l u n):=by
      unfold stepL;rw [rr.length];exact eg' rr _
     exact mkL (SqL.of aq') (this.mono (an' hf _))
   ·cases qg
  ·cases qg
end
noncomputable def sumG:List D->Res D
 | [.lst ds]=>(match intsOf ds with | some ns=>.ok (.int ns.sum) | none=>.stuck)
 | _=>.stuck
theorem mb' (ds:List D):NoErr (sumG ds):=by
 unfold sumG
 split
 ·split
  ·exact ak'
  ·exact af'
 ·exact af'
theorem mc' {X:Cx} (hc:X.calm=true):CallD X (.builtin "sum") sumG:=by
 intro E pins s σ H xs us ds d I r1 p e;unfold sumG at e
 split at e
 ·rename_i ds'
  split at e
  ·rename_i ns hn
   cases e
   have:=bK' hn;subst this;obtain ⟨v,vs,rfl,p1,p2⟩:=p.cons_of
   cases p2.nil_of
   obtain ⟨a,xs,rfl,hq,rr⟩:=repL p1;have:=bO' rr;subst this;obtain ⟨u,rfl,ru⟩:=vals1 r1
   cases ru
   obtain ⟨its,r,hti,hz⟩:=I.list hq;have hi:IntsAre its ns:=intsAre_of r;have hl:=hti.isList;have hs:(numsOf its.toArray.toList).sum=ns.sum:=by rw [show its.toArray.toList=its from rfl,hi.numsOf]
   obtain ⟨xs',exs⟩:=hi.allInts.items;rw [exs] at hs hl;rw [nums_intItems] at hs;refine sum_intListG (I.ok.hd hc) hl fun h' tk t' k=>?_;rw [preSum_eq,List.take_of_length_le (by simp),hs];exact ⟨.int _,.int _,H,rfl,I.kept k,⟨_,rfl⟩,Same.refl H,mkI⟩
  ·cases e
 ·cases e
section
variable {X:Cx} {tg:Expr}
end
section
variable {X:Cx} {tg:Expr} {t:TGD} {body:List Stmt} {fb:DS->Out} {pos:Pos} {G H:Hp} {E:Ends}
end
noncomputable def INew (X:Cx) (pins:List (Addr×Obj)) (σ:St) (H:Hp) (tg:Expr) (r:Res (List D)) (itv:Value) (s2:Shared):Prop :=
 ∃(ds:List D) (it:Addr) (fp:List Addr) (tn:Nat->Heap->Prop) (J:It) (H':Hp) (a:Addr) (ob:Obj) (u:HO),r=.ok ds/\itv=.ref it/\Inv X pins σ H' s2/\Turn X.prog X.w X.K tg J fp it tn/\tn 0 s2.heap/\(∀b∈fp,FpOk X pins H' b)/\Same H H'/\H' a=some (.frz ob u) /\
  ∀G:Hp,G a=some (.frz ob u)->Yields X.K J G ds
noncomputable def PIN (X:Cx) (tg iter:Expr) (f:DS->Res (List D)):Prop :=
 ∀(pins:List (Addr×Obj)) (s:Shared) (σ:St) (G H:Hp) (δ:DS),Inv X pins σ H s->RepSt X.K G H σ δ->f δ≠.stuck ->
  wpAny (model X.prog X.w) X.A (eval iter X.env) (fun v s1=>wpAny (model X.prog X.w) X.A (pyIter v) (INew X pins σ H tg (f δ)) (XPost X pins σ H s.heap (f δ)) s1) (XPost X pins σ H s.heap (f δ)) s
section
variable {X:Cx} {e:Expr} {fe:DS->Res D} {lo hi:Option Expr} {st:Expr} {fl fu fs:DS->Res (Option Int)} {pos p2:Pos}
end
theorem PIN.pi {X:Cx} {tg iter:Expr} {f:DS->Res (List D)} (h:PIN X tg iter f):PI X.nox tg iter (fun σ H R=>∃G δ ds,RepSt X.K G H σ δ/\f δ=.ok ds/\∀J H' a ob u,Same H H'->H' a=some (.frz ob u)->(∀G:Hp,G a=some (.frz ob u)->Yields X.K J G ds)->R J H'):=by
 intro pins s σ H R I ⟨G,δ,ds,RR,q,n⟩;refine wpAny_mono (h pins s σ G H δ I.unwish RR (by rw [q]; intro z; cases z)) (fun v s1 p=>?_) fun e s1 p=>?_
 ·refine wpAny_mono p (fun itv s2 ⟨ds',it,fp,tn,J,H',a,ob,u,q1,q2,I2,T,t0,hf,e2,w2,y⟩=>?_) fun e s2 p=>?_
  ·rw [q] at q1; cases q1;exact ⟨it,fp,tn,J,H',q2,I2.wish _,T,t0,hf,n J H' a ob u e2 w2 y⟩
  ·rw [q] at p; exact p.none
 ·rw [q] at p; exact p.none
section
variable {X:Cx} {tg iter:Expr} {body:List Stmt} {t:TGD} {fb:DS->Out} {pos:Pos}
end
section
variable {X:Cx} {e:Expr} {es:List Expr} {fs:DS->Res (List D)} {F:List D->Res D} {k:Nat} {f:Addr} {fd:FuncData} {ps:List Str} {x:Str} {p pos:Pos}
end
noncomputable def Okf (P:Program) (w:World) (K:PySem.W.Frag) (mg:Str->Option Value) (base:Heap) (k:Nat) (x:Str) (F:List D->Res D):Prop :=
 ∃(f:Addr) (fd:FuncData) (ps:List Str),FnOk P w K mg base (CX1 P w) k f fd ps (spD K F)/\mg x=some (.ref f)/\PySem.W.keepIn K (.ref f)=true/\Binds K fd ps []
noncomputable def Ent (K:PySem.W.Frag) (mg:Str->Option Value) (x:Str) (st:Stmt) (ps:List Str):Prop :=
 ∃(f:Addr) (fd:FuncData),mg x=some (.ref f)/\Fun K x x st f fd/\Binds K fd ps []
noncomputable def Lk (K:PySem.W.Frag) (x:Str) (st:Stmt):Prop :=
 ∃(f:Addr) (fd:FuncData),PySem.W.nsIn K mainGlobals x=some (some (.ref f))/\Fun K x x st f fd
section
variable {K:PySem.W.Frag} {x:Str} {st:Stmt}
theorem lk_mk {f:Addr} {oc:Value} {od an:Option Addr} {osl:Array (Option Value)} {kV doc pm cdv ct:Value} (n:PySem.W.nsIn K mainGlobals x=some (some (.ref f))) (l:K.lookup f=some ⟨oc,od,.func (PySem.W.fnOf x x (defArgs st) (defBody st) (defScope st) .none kV doc pm an cdv ct),osl⟩)
  (c:PySem.W.codeIn K cdv x=true) (k:PySem.W.keepIn K (.ref f)=true):Lk K x st:=⟨f,_,n,jF' l c k⟩
variable {h:Heap} {mg:Str->Option Value}
theorem ent1 (X:K.In h) (G:h.Ns mainGlobals mg) (L:Lk K x st) {p:Str} (hb:∀(kV doc pm:Value) (an:Option Addr) (cdv ct a:Value),bindArgs (PySem.W.fnOf x x (defArgs st) (defBody st) (defScope st) .none kV doc pm an cdv ct) ⟨[a],[]⟩=pure [(p,a)]:=by intros; rfl):Ent K mg x st [p]:=by
 obtain ⟨f,fd,n,F⟩:=L;exact ⟨f,fd,PySem.W.mg_of X G n,F,F.binds fun _ _ _ _ _ _ us hl=>match us,hl with | [_],_=>hb _ _ _ _ _ _ _⟩
theorem ent2 (X:K.In h) (G:h.Ns mainGlobals mg) (L:Lk K x st) {p q:Str} (hb:∀(kV doc pm:Value) (an:Option Addr) (cdv ct a b:Value),bindArgs (PySem.W.fnOf x x (defArgs st) (defBody st) (defScope st) .none kV doc pm an cdv ct) ⟨[a,b],[]⟩=pure [(p,a),(q,b)]:=by intros; rfl):Ent K mg x st [p,q]:=by
 obtain ⟨f,fd,n,F⟩:=L;exact ⟨f,fd,PySem.W.mg_of X G n,F,F.binds fun _ _ _ _ _ _ us hl=>match us,hl with | [_,_],_=>hb _ _ _ _ _ _ _ _⟩
theorem ent3 (X:K.In h) (G:h.Ns mainGlobals mg) (L:Lk K x st) {p q r:Str} (hb:∀(kV doc pm:Value) (an:Option Addr) (cdv ct a b c:Value),bindArgs (PySem.W.fnOf x x (defArgs st) (defBody st) (defScope st) .none kV doc pm an cdv ct) ⟨[a,b,c],[]⟩=pure [(p,a),(q,b),(r,c)]:=by intros; rfl):Ent K mg x st [p,q,r]:=by
 obtain ⟨f,fd,n,F⟩:=L;exact ⟨f,fd,PySem.W.mg_of X G n,F,F.binds fun _ _ _ _ _ _ us hl=>match us,hl with | [_,_,_],_=>hb _ _ _ _ _ _ _ _ _⟩
variable (P:Program) (w:World) (base:Heap)
theorem okf0 {P:Program} {w:World} {base:Heap} {ps:List Str} (F:Ent K mg x st ps) (k:Nat):Okf P w K mg base k x fun _=>.stuck:=by
 obtain ⟨f,fd,m,F,B⟩:=F;exact ⟨f,fd,ps,⟨fun _ _ _ _ q=>by obtain ⟨_,_,z⟩:=q; exact z.elim,fun _ _ _ _ _ _ _ _ _ _ _ _ _ q=>by obtain ⟨_,_,z⟩:=q; exact z.elim⟩,m,F.kp,B⟩
theorem fnO {N ps:List Str} (k:Nat) (body:DS->Out) (F:Ent K mg x st ps) (S:FnScope N ps (defScope st))
  (hb:∀(f:Addr) (cdv:Value) (A:Around) (outer:List Env) (s:Shared) (H:Hp) (E:XK),Room k (A.deeper (envOfC x (defScope st) s.heap.objs.size f cdv))->PSDs (cxOf (CX1 P w) P w K mg base N x (defScope st) f cdv A outer s H E) (defBody st) body) :
  Okf P w K mg base (k + 1) x (fnD ps.length N.length body):=by
 obtain ⟨f,fd,m,F,B⟩:=F;exact ⟨f,fd,ps,lU' F S (hb f),m,F.kp,B⟩
end
theorem cl {X:Cx} {j k:Nat} {F:List D->Res D} {x:Str} {p pos:Pos} {e:Expr} {es:List Expr} {fs:DS->Res (List D)} (Fn:Okf X.prog X.w X.K X.mg X.base j x F) (hr:Room k X.A) (ha:PAD X (e :: es) fs)
  (hj:j<=k:=by first | decide | omega) (hg:Gl X x:=by exact rfl) (hdb:(x == ("__debug__" : Str))=false:=by decide) (he:starEach (e :: es) X.env=(false,eval e X.env) :: starEach es X.env:=by rfl) (hpl:(backTo pos (starEach es X.env)).any (·.1)=false:=by rfl) :
  PD X (.Call (.Name x p) (e :: es) [] pos) (fun δ=>(fs δ).bind F):=by
 obtain ⟨f,fd,ps,a,b,c,d⟩:=Fn;exact kv' (a.mono hj) hr hg b c d ha hdb he hpl
section
variable {X:Cx}
end
mutual
noncomputable def flatN (n:Nat):D->Bool
 | .tup ds=>flatNs n ds
 | .lst ds=>(ds.length != n) && flatNs n ds
 | .excf _ _ _=>false
 | _=>true
noncomputable def flatNs (n:Nat):List D->Bool
 | []=>true
 | d :: ds=>flatN n d && flatNs n ds
end
mutual
theorem Rep.lsetN {K:PySem.W.Frag} {H:Hp} {a:Addr} {xs ys:List V} {n:Nat} (hH:H a=some (.lst xs)) (hn:xs.length=n):∀{d:D} {v:V},flatN n d=true->Rep K H d v->Rep K (upd H a (.lst ys)) d v
 | .non,v,_,h=>by rw [Rep] at h ⊢; exact h
 | .bl _,v,_,h=>by rw [Rep] at h ⊢; exact h
 | .int _,v,_,h=>by rw [Rep] at h ⊢; exact h
 | .str _,v,_,h=>by rw [Rep] at h ⊢; exact h
 | .lst ds,v,hf,h=>by
  obtain ⟨b,zs,rfl,hq,r⟩:=repL h;rw [flatN,Bool.and_eq_true,bne_iff_ne] at hf;refine mkL ?_ (Reps.lsetN hH hn hf.2 r);rcases hq with (hq | ⟨o,hq⟩) | hq
  ·refine .inl (.inl ?_);rw [am' (fun z=>by subst z; rw [hH] at hq; cases hq; exact hf.1 (r.length.symm.trans hn))]; exact hq
  ·exact .inl (.inr ⟨o,by rw [am' (fun z=>by subst z; rw [hH] at hq; cases hq)]; exact hq⟩)
  ·exact .inr hq
 | .tup ds,v,hf,h=>by
  obtain ⟨b,zs,rfl,hq,r⟩:=repT h;rw [flatN] at hf;refine mkT ?_ (Reps.lsetN hH hn hf r);rcases hq with (hq | ⟨o,hq⟩) | hq
  ·exact .inl (.inl (by rw [am' (fun z=>by subst z; rw [hH] at hq; cases hq)]; exact hq))
  ·exact .inl (.inr ⟨o,by rw [am' (fun z=>by subst z; rw [hH] at hq; cases hq)]; exact hq⟩)
  ·exact .inr hq
 | .exc n,v,_,h=>by
  rw [Rep] at h ⊢;obtain ⟨b,C,rfl,hC,hb⟩:=h;exact ⟨b,C,rfl,hC,by rw [am' (fun z=>by subst z; rw [hH] at hb; cases hb)]; exact hb⟩
 | .excf n f d,v,hf,h=>by rw [flatN] at hf; cases hf
 | .dct,v,_,h=>by
  rw [Rep] at h ⊢;obtain ⟨b,rfl,hb⟩:=h;exact ⟨b,rfl,by rw [am' (fun z=>by subst z; rw [hH] at hb; cases hb)]; exact hb⟩
theorem Reps.lsetN {K:PySem.W.Frag} {H:Hp} {a:Addr} {xs ys:List V} {n:Nat} (hH:H a=some (.lst xs)) (hn:xs.length=n):∀{ds:List D} {vs:List V},flatNs n ds=true->Reps K H ds vs->Reps K (upd H a (.lst ys)) ds vs
 | [],_,_,h=>by cases h.nil_of; exact Reps.nil
 | d :: ds,_,hf,h=>by
  rw [flatNs,Bool.and_eq_true] at hf;obtain ⟨v,vs,rfl,r,q⟩:=h.cons_of;exact Reps.cons (Rep.lsetN hH hn hf.1 r) (Reps.lsetN hH hn hf.2 q)
end
section
variable {X:Cx} {e:Expr} {es:List Expr} {fe:DS->Res D} {fs:DS->Res (List D)} {x:Str} {pos pos' lp np apos cpos:Pos}
end
end DL
namespace DL
open PySem PySem.Spec PyProof.Rows L2
section
variable {K:PySem.W.Frag} {prog:Program} {w:World} {A:Around} {s:Shared} {x D:Addr} {ox od:Obj} {name:Str} {v:Value}
end
section
variable {X:Cx} {e:Expr} {f:DS->Res D} {name:Str} {pos:Pos} {isA:Str->Bool}
end
section
variable {X:Cx} {m:Nat} {fr:List Nat} {N':List Str} {scope:Scope} {cl:List (Str×Addr)} {tg iter elt c:Expr} {pos:Pos} {t:TGD} {fc:DS->Res Bool} {fe:DS->Res D} {fi:DS->Res (List D)}
theorem jb' (W:Around' X m fr N' scope cl) (hcalm:X.calm=true) (hkt:KeepsT m t) (hi:PID X tg iter fi) (ht:∀C s H fp,PGD (compX X N' scope cl C s H fp) tg t) (hc:∀C s H fp,PTD (compX X N' scope cl C s H fp) c fc) (he:∀C s H fp,PD (compX X N' scope cl C s H fp) elt fe)
  (hf:∀x,foldedSetIterable iter X.env x=pure x:=by intro _; rfl):PD X (.ListComp elt [⟨tg,iter,[c],0⟩] scope pos) (compI m fr t fc fe fi):=by
 intro pins s σ G H δ I R hs;rw [eval_ListComp];refine wpAny_comprehension_free (use:=none) rfl hf W.clos W.kind W.names (dY' (cs:=[c]) W hcalm hkt hi ht (Nat.le_refl 1) hc he I R hs (fun _ _ q=>q) (RR:=fun acc C=>compPost _ _ _ none _ acc C) ?_);intro a C s' H' ds xs mC ev J e' ha hx hr hns hC hCa hC0 hCf hCl hCc hCp;refine ⟨mC,hns,fun h' hs'=>?_⟩;exact ⟨.lst ds,.ref a,H',ev,J.but (t':=s'.toks) hC hC0 hCl hCc hCp hs',rfl,e',mkL (SqL.of hx) hr⟩
end
noncomputable def newExc (h:Heap) (C:Addr) (rest:List Value):Heap:=(h.push { cls:=.type "tuple",data:=.seq rest.toArray }).push { cls:=.ref C,data:=.fields #[.ref h.objs.size,.none,.none,.none,.bool false,.none] }
section
variable {prog:Program} {w:World} {A:Around} {R:Result->Shared->Prop} {h:Heap} {g:Array GenState} {d:Drawn} {t:Nat} {os:OsState}
variable {nm q:Str} {C N:Addr} {bs bm bmB:List Value} {hdct:Bool} {sn:List Str} {sub:List Value} {ab:Bool} {col:Option Bool} {dd:Option Addr} {k0 k1 k2 k3 k5:Option Value} {B newId initId:String}
end
abbrev excO (C:Addr) (dd:Option Addr) (t0:Addr):Obj:={ cls:=.ref C,dict:=dd,data:=.fields #[.ref t0,.none,.none,.none,.bool false,.none] }
section
open Builtin Builtin.ObjectAttr
variable {prog:Program} {w:World} {A:Around} {E:Value->Shared->Prop} {h:Heap} {g:Array GenState} {d:Drawn} {t:Nat} {os:OsState} {K:PySem.W.Frag}
variable {nm q:Str} {C N x:Addr} {bs bm bmB:List Value} {sn:List Str} {sub:List Value} {ab:Bool} {col:Option Bool} {dd:Option Addr} {k0 k1 k2 k3 k5:Option Value} {B newId initId:String} {name:Str} {v:Value} {t0:Addr}
end
abbrev VM:List Value:=[.type "ValueError",.type "Exception",.type "BaseException",.type "object"]
section
variable {prog:Program} {w:World} {A:Around} {E:Value->Shared->Prop} {h:Heap} {g:Array GenState} {d:Drawn} {t:Nat} {os:OsState}
variable {nm q:Str} {C N x:Addr} {bs bm bmB:List Value} {hdct:Bool} {sn:List Str} {sub:List Value} {ab:Bool} {col:Option Bool} {dd:Option Addr} {k0 k1 k2 k3 k5:Option Value} {B newId initId:String} {t0:Addr}
end
noncomputable def XCls (K:PySem.W.Frag) (C:Addr):Prop:=∃(nm q:Str) (N:Addr) (bs bm:List Value) (sn:List Str) (sub:List Value) (ab:Bool) (col:Option Bool) (dd:Option Addr) (k0 k1 k2 k3 k5:Option Value),
 K.lookup C=some (excClassObj nm q C N bs bm true sn sub ab col dd k0 k1 k2 k3 k5 "ValueError.__new__")/\∀h,K.In h->OwnTail h VM bm
structure XI (K:PySem.W.Frag) (C Y f:Addr) (fld:Str):Prop where
 cls:XCls K C
 set:PySem.W.findIn K (.ref C) "__setattr__" = some (some (.builtin "object.__setattr__"))
 no:PySem.W.findIn K (.ref C) fld=some none
 init:PySem.W.findIn K (.ref C) "__init__" = some (some (.ref f))
 fn:PySem.W.typeIn K (.ref f)=some (.type "function")
 y1:PySem.W.specialIn K (.ref Y) "__getattribute__" = some (some (.builtin "type.__getattribute__"))
 y2:PySem.W.readsIn K Y (.type "type")=true
 y3:PySem.W.findCls K (.ref Y) (.type "type") "__init__" = some (.val (.builtin "ValueError.__init__"))
section
variable {X:Cx} {C Y f:Addr} {fld y:Str} {np apos pos pos':Pos} {a:Expr} {es:List Expr} {ta:TA}
end
section
variable {M:Model} {A:Around} {E:Value->Shared->Prop} {env:Env}
variable {nm q:Str} {C N:Addr} {bs bm:List Value} {hdct:Bool} {sn:List Str} {sub:List Value} {ab:Bool} {col:Option Bool} {dd:Option Addr} {k0 k1 k2 k3 k5:Option Value} {newId:String}
end
section
variable {X:Cx} {e:Expr} {fe:DS->Res D} {np cpos pos:Pos} {x fld:Str} {C Y f:Addr} {fd:FuncData} {k:Nat} {okv:V->Prop}
end
mutual
theorem Rep.frz {K:PySem.W.Frag} {H:Hp} {a:Addr} {xs:List V} {ob:Obj} (hH:H a=some (.lst xs)):∀{d:D} {v:V},Rep K H d v->Rep K (upd H a (.frz ob (.lst xs))) d v
 | .non,_,h=>by rw [Rep] at h ⊢; exact h
 | .bl _,_,h=>by rw [Rep] at h ⊢; exact h
 | .int _,_,h=>by rw [Rep] at h ⊢; exact h
 | .str _,_,h=>by rw [Rep] at h ⊢; exact h
 | .tup ds,_,h=>by
  rw [Rep] at h ⊢;obtain ⟨b,ys,e1,e2,e3⟩:=h;refine ⟨b,ys,e1,?_,Reps.frz hH e3⟩;rcases e2 with (h | ⟨o,h⟩) | h
  ·exact .inl (.inl (by rw [am' (fun z=>by subst z; rw [hH] at h; cases h)]; exact h))
  ·exact .inl (.inr ⟨o,by rw [am' (fun z=>by subst z; rw [hH] at h; cases h)]; exact h⟩)
  ·exact .inr h
 | .lst ds,_,h=>by
  rw [Rep] at h ⊢;obtain ⟨b,ys,e1,e2,e3⟩:=h;refine ⟨b,ys,e1,?_,Reps.frz hH e3⟩
  by_cases z:b=a
  ·subst z;rcases e2 with (h | ⟨o,h⟩) | h
   ·rw [hH] at h; cases h; exact .inl (.inr ⟨ob,aq'⟩)
   ·rw [hH] at h; cases h
   ·exact .inr h
  ·rcases e2 with (h | ⟨o,h⟩) | h
   ·exact .inl (.inl (by rw [am' z]; exact h))
   ·exact .inl (.inr ⟨o,by rw [am' z]; exact h⟩)
   ·exact .inr h
 | .exc _,_,h=>by
  rw [Rep] at h ⊢;obtain ⟨b,C,e1,e2,e3⟩:=h;exact ⟨b,C,e1,e2,by rw [am' (fun z=>by subst z; rw [hH] at e3; cases e3)]; exact e3⟩
 | .excf _ _ d,_,h=>by
  rw [Rep] at h ⊢;obtain ⟨b,C,dx,u,e1,e2,e3,e4,e5⟩:=h;exact ⟨b,C,dx,u,e1,e2,by rw [am' (fun z=>by subst z; rw [hH] at e3; cases e3)]; exact e3,by rw [am' (fun z=>by subst z; rw [hH] at e4; cases e4)]; exact e4,Rep.frz hH e5⟩
 | .dct,_,h=>by
  rw [Rep] at h ⊢;obtain ⟨b,e1,e2⟩:=h;exact ⟨b,e1,by rw [am' (fun z=>by subst z; rw [hH] at e2; cases e2)]; exact e2⟩
theorem Reps.frz {K:PySem.W.Frag} {H:Hp} {a:Addr} {xs:List V} {ob:Obj} (hH:H a=some (.lst xs)):∀{ds:List D} {vs:List V},Reps K H ds vs->Reps K (upd H a (.frz ob (.lst xs))) ds vs
 | [],_,h=>by rw [Reps] at h ⊢; exact h
 | d :: ds,_,h=>by
  rw [Reps] at h ⊢;obtain ⟨v,vs,e1,e2,e3⟩:=h;exact ⟨v,vs,e1,Rep.frz hH e2,Reps.frz hH e3⟩
end
noncomputable def LPost (X:Cx) (pins:List (Addr×Obj)) (σ:St) (H:Hp) (r:Res D) (u:Value) (s1:Shared):Prop :=
 ∃ds a xs H1,r=.ok (.lst ds)/\Inv X pins σ H1 s1/\u=.ref a/\Same H H1/\H a=none/\H1 a=some (.lst xs)/\Reps X.K H1 ds xs
noncomputable def PDL (X:Cx) (e:Expr) (f:DS->Res D):Prop :=
 ∀(pins:List (Addr×Obj)) (s:Shared) (σ:St) (G H:Hp) (δ:DS),Inv X pins σ H s->RepSt X.K G H σ δ->f δ≠.stuck ->
  wpAny (model X.prog X.w) X.A (eval e X.env) (LPost X pins σ H (f δ)) (XPost X pins σ H s.heap (f δ)) s
theorem PDL.pd {X:Cx} {e:Expr} {f:DS->Res D} (h:PDL X e f):PD X e f:=fun pins s σ G H δ I R hs =>
 wpAny_mono (h pins s σ G H δ I R hs) (fun u s1 ⟨ds,a,xs,H1,q1,q2,q3,q4,q5,q6,q7⟩=>⟨_,.ref a,H1,q1,q2,by rw [q3]; rfl,q4,mkL (SqL.of q6) q7⟩) fun _ _ z=>z
theorem jc' {X:Cx} {e:Expr} {f:DS->Res D} {x:Str} {pos pos':Pos} (i:Nat) (h:PDL X e f) (hN:X.N.Nodup) (hi:X.N[i]? = some x:=by rfl) (hx:Loc X.env.scope x:=by first | exact Or.inl rfl | exact Or.inr rfl) (hw:swapsWith e (some (.Name x pos')) pos.line X.env=pure false:=by rfl)
  (hf:X.fn x=true\/X.env.scope.names.lookup x=some .local:=by first | exact .inl rfl | exact .inr rfl | assumption):PSD X (.Assign [.Name x pos'] e pos) (ownC i f):=by
 intro pins s σ G H δ I R hs;have hs':f δ≠.stuck:=fun z=>hs (by unfold ownC; rw [z]);refine wpAny_Assign_Name (wpAny_mono (h pins s σ G H δ I R hs') (fun u s1 ⟨ds,a,xs,H1,q1,q2,q3,q4,q5,q6,q7⟩=>?_) fun e s1 q=>q.sx R fun x z=>by unfold ownC; rw [z]) hw;subst q3;exact do' q2 hN hi hx (v:=.ref a) rfl (fun s4 I4=>⟨_,_,_,by unfold ownC; rw [q1],I4,q4.tk,R.setOwn q4 i q5 q6 q7⟩) hf
theorem dz' {α β:Type} {f g:α->Option β}:∀{l:List α},(∀k∈l,f k=g k)->l.filterMap f=l.filterMap g
 | [],_=>rfl
 | a :: l,h=>by
  have ih:=dz' (l:=l) fun k hk=>h k (List.mem_cons_of_mem _ hk);rw [List.filterMap_cons,List.filterMap_cons,h a (by simp),ih]
theorem jN' {α:Type}:∀(ys:List α),(List.range ys.length).filterMap (fun k=>ys[k]?)=ys
 | []=>rfl
 | y :: ys=>by
  rw [List.length_cons,List.range_succ_eq_map,List.filterMap_cons,List.filterMap_map];show y :: _=_
  congr 1
  exact jN' ys
theorem md' {α:Type} (xs:List α):((List.range xs.length).map fun k=>xs.length - 1 - k).filterMap (xs[·]?)=xs.reverse:=by
 have h:=jN' xs.reverse;rw [List.length_reverse] at h;rw [List.filterMap_map];refine Eq.trans (dz' fun k hk=>?_) h;have hk:=List.mem_range.mp hk;show xs[xs.length - 1 - k]? = _;rw [List.getElem?_reverse hk]
theorem jd' (its:List Value):slicePick its.toArray none none (some (-1))=its.reverse.toArray:=by
 unfold slicePick sliceBounds;simp only [Option.getD_some,List.size_toArray];have c:¬((-1:Int) > 0):=by decide
 simp only [if_neg c];unfold sliceRange;simp only [if_neg c];have e:((if ((its.length:Int) - 1 > -1) then ((its.length:Int) - 1 - -1 - -1 - 1) / - -1 else 0):Int).toNat=its.length:=by
  have:(- -1:Int)=1:=rfl;rw [this,Int.ediv_one]
  split <;> omega
 rw [e];have e2:((List.range its.length).map fun (k:Nat)=>((its.length:Int) - 1 + -1 * (k:Int)).toNat)=(List.range its.length).map fun k=>its.length - 1 - k:=by
  refine List.map_congr_left fun k hk=>?_;omega
 rw [e2]
 congr 1
 rw [<- md' its];refine dz' fun k _=>?_;simp
noncomputable def revD (d:D) (st:Option Int):Res D:=match d,st with
 | .lst ds,some k=>if k=-1 then .ok (.lst ds.reverse) else .stuck
 | _,_=>.stuck
noncomputable def revF (fe:DS->Res D) (fs:DS->Res (Option Int)):DS->Res D:=fun δ=>(fe δ).bind fun d=>(fs δ).bind fun st=>revD d st
theorem Reps.reverse {K:PySem.W.Frag} {H:Hp}:∀{ds:List D} {vs:List V},Reps K H ds vs->Reps K H ds.reverse vs.reverse
 | [],_,h=>by rw [h.nil_of]; exact Reps.nil
 | d :: ds,_,h=>by
  obtain ⟨v,vs,rfl,r,t⟩:=h.cons_of;rw [List.reverse_cons,List.reverse_cons];exact (Reps.reverse t).append (Reps.cons r Reps.nil)
theorem Vals.reverse':∀{vs:List V} {us:List Value},Vals vs us->Vals vs.reverse us.reverse
 | _,_,.nil=>.nil
 | _,_,.cons r t=>by
  rw [List.reverse_cons,List.reverse_cons];exact (Vals.reverse' t).append (.cons r .nil)
section
variable {X:Cx} {e:Expr} {fe:DS->Res D} {st:Expr} {fs:DS->Res (Option Int)} {pos p2:Pos}
theorem kH' (he:PD X e fe) (ht:POD X (some st) fs):PDL X (.Subscript e (.Slice none none (some st) p2) pos) (revF fe fs):=by
 intro pins s σ G H δ I R hs;unfold revF at hs ⊢;refine Subscript_ (he.use I R (at' hs) (fun d v s1 x H1 q I1 r1 e1 b1 p1=>?_) fun e s1 q=>q.same fun x z=>aw' z);have h2:=av' hs q;rw [q,Res.bind_ok];refine wpAny_Slice ((ax' (X:=X)).use I1 (R.mono e1) (fun z=>by cases z) (fun l vl s2 H2 q2 I2 pl e2 b2=>?_) fun e s2 p=>(p.none).elim)
 cases q2
 refine (ax' (X:=X)).use I2 ((R.mono e1).mono e2) (fun z=>by cases z) (fun u vu s3 H3 q3 I3 pu e3 b3=>?_) fun e s3 p=>(p.none).elim
 cases q3
 refine ht.use I3 (((R.mono e1).mono e2).mono e3) (at' h2) (fun k vk s4 H4 q4 I4 pk e4 b4=>?_) fun e s4 p=>((p.back e3 b3 (r':=(fs δ).bind fun st=>revD d st) fun x z=>aw' z).back e2 b2 (r':=(fs δ).bind fun st=>revD d st) fun x z=>z).back e1 b1 fun x z=>z;have h5:=av' h2 q4;rw [q4,Res.bind_ok];have I5:Inv X pins σ H4 { s4 with heap:=s4.heap.push { cls:=.type "slice",data:=.fields #[vl,vu,vk] } }:=I4.kept (t':=s4.toks) fun b ob q=>Heap.get?_push_of_some _ q
 unfold revD at h5 ⊢
 split at h5
 ·rename_i ds kk;have hk:kk=-1:=by
   by_cases z:kk=-1
   ·exact z
   ·rw [if_neg z] at h5; exact (h5 rfl).elim
  subst hk;obtain ⟨a,xs,rfl,hq,rr⟩:=repL (((p1.mono e2).mono e3).mono e4)
  cases r1
  obtain ⟨its,r,hti,hz⟩:=I5.list hq;have hlen:=r.length;show wpAny (model X.prog X.w) X.A (subscriptTail e (.Slice none none (some st) p2) (.ref a) (.ref s4.heap.objs.size)) _ _ { s4 with heap:=s4.heap.push { cls:=.type "slice",data:=.fields #[vl,vu,vk] } }
  refine tail_any (ops:=[.ref a,.ref s4.heap.objs.size]) hti.isList.typeIs slot_list_getitem.lookup ?_ (by with_unfolding_all rfl);refine wpAny_getItem_list_slice hti.isList (Heap.IsSliceOf.new ..) pl pu pk (by simp) ?_ (by rw [List.size_toArray] <;> omega)
  rw [jd' its];have hf:=I5.hok.fresh (Nat.le_refl _);have e14:=((e1.trans e2).trans e3).trans e4;refine ⟨ds.reverse,_,xs.reverse,_,rfl,I5.laid (t':=s4.toks) (o:=.lst xs.reverse) (fun b ob q=>Heap.get?_push_of_some _ q) (Nat.le_refl _) ?_,rfl,e14.trans (an' hf _),e14.free hf,aq',(rr.reverse).mono (an' hf _)⟩;exact ⟨by rw [List.length_reverse]; exact hz,_,0,Vals.reverse' r,Heap.get?_push_size _ rfl⟩
 ·exact (h5 rfl).elim
end
end DL
namespace DL
open PySem PySem.Spec PyProof.Rows L2
theorem kI' {X:Cx} {es:List Expr} {b:Expr} {fs:DS->Res (List D)} {fb:DS->Res D} {lp pos:Pos} (ha:PAD X es fs) (hb:PD X b fb):PDL X (.BinOp (.List es lp) .Mult b pos) (lstRep fs fb):=by
 intro pins s σ G H δ I R hs;unfold lstRep at hs ⊢;refine wpAny_BinOp (wpAny_List_spliced (ha.use I R (at' hs) (fun ds us s1 vs H1 q I1 r1 e1 b1 p1=>?_) fun e s1 q=>q.same fun x z=>aw' z));have h2:=av' hs q;have hn:noX fb δ≠.stuck:=at' h2
 cases qb:noX fb δ with
 | stuck=>exact (hn qb).elim
 | err x=>exact (dk' fb δ x qb).elim
 | ok k0 =>
  have h3:repLG ds k0≠.stuck:=av' h2 qb
  cases qr:repLG ds k0 with
  | stuck=>exact (h3 qr).elim
  | err x=>exact (fC' _ _ x qr).elim
  | ok r =>
   obtain ⟨k,rfl,c1,c2,c3,c4,rfl⟩:=fB' qr;have big:(1000:Nat)<=sizeLine:=by decide
   have hz:ds.length<=sizeLine:=Nat.le_trans c3 big;refine ⟨by rw [<- r1.length,p1.length]; exact hz,?_⟩;have hf':H1 s1.heap.objs.size=none:=I1.hok.fresh (Nat.le_refl _);have sm:=an' hf' (.lst vs);have I2:Inv X pins σ (upd H1 s1.heap.objs.size (.lst vs)) { s1 with heap:=s1.heap.push { cls:=.type "list",data:=.seq us.toArray } }:=I1.laid (t':=s1.toks) (fun b u e=>Heap.get?_push_of_some _ e) (Nat.le_refl _) ⟨by rw [p1.length]; exact hz,us,0,r1,Heap.get?_push_size _ rfl⟩
   refine (fz' hb).use I2 ((R.mono e1).mono sm) hn (fun d3 u3 s3 v3 H3 q3 I3 r3 e3 b3 p3=>?_) fun e s1 ⟨x,_,_,_,q,_⟩=>(dk' fb δ x q).elim;rw [qb] at q3
   cases q3
   rw [repI p3] at r3;have hH3:=e3 _ _ (aq' (H:=H1) (a:=s1.heap.objs.size) (o:=.lst vs));refine wpAny_mono (jE' (X:=X.wish fun _ _=>False) pins s3 σ H3 (.ref s1.heap.objs.size) (.int k) (.ref s1.heap.objs.size) u3 (fun z H4=>∃p,H3 p=none/\z=.ref p/\H4=upd H3 p (.lst (List.replicate k.toNat vs).flatten)) (I3.wish _) rfl r3
    ⟨_,k,vs,rfl,rfl,hH3,by omega,by omega,by rw [p1.length]; omega,fun p hp=>⟨p,hp,rfl,rfl⟩⟩) (fun w s4 q4=>?_) fun _ _ z=>z.elim
   obtain ⟨z,H4,I4,r4,p,hp,rfl,rfl⟩:=q4;have sm4:=an' hp (.lst (List.replicate k.toNat vs).flatten);have ev:(fs δ).bind (fun ds=>(Res.ok (D.int k)).bind (repLG ds))=.ok (.lst (List.replicate k.toNat ds).flatten):=by rw [q,Res.bind_ok,Res.bind_ok]; exact qr
   rw [qb] at *
   cases r4
   exact ⟨_,p,_,_,ev,I4.unwish,rfl,((e1.trans sm).trans e3).trans sm4,((e1.trans sm).trans e3).free hp,aq',(((p1.mono sm).mono e3).mono sm4).rep k.toNat⟩
noncomputable def forA (i:Nat) (t:TGD) (b:DS->Out):DS->Out:=fun δ=>match δ[i]? with
 | some (some (.arg (.lst ds)))=>forD t b (enumD ds) δ
 | _=>.stuck
section
variable {X:Cx} {tg iter:Expr} {body:List Stmt} {t:TGD} {fb:DS->Out} {pos:Pos}
theorem eY' {J:It} {ds:List D} {G H0:Hp} {E:Ends} (y:Yields X.K J G ds) {δ:DS} {σ:St} (R:RepSt X.K G H0 σ δ) (h:NOut X G H0 (forD t fb ds δ) E) :
  ∃W:Nat->Nat->St->Hp->Prop,(∃m,W 0 m σ H0)/\∀i m σ H,W i m σ H ->
   (J.stop i H/\E.nx σ H)\/(J.go i H/\∃N:St->Hp->Prop,(∀σ' H',N σ' H'->∃m',m' < m/\W (i + 1) m' σ' H')/\∀x H',J.yld i H x H'->gD X t x σ H' fun σ2 H2=>sD X fb { E with nx:=N,ct:=N,bk:=E.nx } σ2 H2):=by
 refine ⟨fun i m σ H=>i + m=ds.length/\∃δ',RepSt X.K G H σ δ'/\NOut X G H (forD t fb (ds.drop i) δ') E,⟨ds.length,by omega,δ,R,by simpa using h⟩,?_⟩
 rintro i m σ1 H1 ⟨hm,δ1,R1,h1⟩
 obtain ⟨y1,y2⟩:=y H1 R1.same
 by_cases hi:i < ds.length
 ·right
  have hd:ds[i]? = some ds[i]:=List.getElem?_eq_getElem hi;obtain ⟨go,yl⟩:=y1 i ds[i] hd;refine ⟨go,fun σ' H'=>(i + 1) + (m - 1)=ds.length/\∃δ',RepSt X.K G H' σ' δ'/\NOut X G H' (forD t fb (ds.drop (i + 1)) δ') E,fun σ' H' n=>⟨m - 1,by omega,n⟩,fun x H' yx=>?_⟩;obtain ⟨e,p⟩:=yl x H' yx;rw [List.drop_eq_getElem_cons hi] at h1;exact ft' (R1.mono e) p (h1.tk e.tk) fun δ' σ' H'' _ r z=>⟨by omega,δ',r,z⟩
 ·left
  have e:i=ds.length:=by omega
  subst e;rw [List.drop_eq_nil_of_le (Nat.le_refl _)] at h1;exact ⟨y2,h1 σ1 H1 (TK.refl H1) R1⟩
variable {x:Str} {np p cp tp:Pos} {elts:List Expr} {x1:Nat}
theorem fD' (i:Nat) (hc:X.calm=true) (hgE:Gl X "enumerate") (hmE:X.mg "enumerate" = none) (hg:PGD X (.Tuple elts x1 tp) t) (hb:PSDs X body fb) (hN:X.N[i]? = some x:=by rfl) (hv:Vis X.env.scope x:=by first | exact Or.inl rfl | exact Or.inr (Or.inl rfl) | exact Or.inr (Or.inr rfl)) (hd:(x == ("__debug__" : Str))=false:=by decide)
  (hcd:(x == ("__classdict__" : Str))=false:=by decide) (hs:starEach [.Name x np] X.env=[(false,eval (.Name x np) X.env)]:=by rfl) (hf:∀z,foldedSetIterable (.Call (.Name "enumerate" p) [.Name x np] [] cp) X.env z=pure z:=by intro _; rfl) :
  PSD X (.For (.Tuple elts x1 tp) (.Call (.Name "enumerate" p) [.Name x np] [] cp) body [] pos) (forA i t fb):=by
 refine gV' (fun δ=>by unfold forA; split <;> first | exact eN' t fb _ δ | (intro _ _ z; cases z)) fun pins s σ H E I h=>?_
 obtain ⟨G,δ,R,h⟩:=h;have hpi:PI X.nox (.Tuple elts x1 tp) (.Call (.Name "enumerate" p) [.Name x np] [] cp) (fun σ H RR=>∃G δ ds,RepSt X.K G H σ δ/\δ[i]? = some (some (.arg (.lst ds)))/\∀J,Yields X.K J G (enumD ds)->RR J H):=by
  intro pins s σ H RR I ⟨G,δ,ds,R,hδ,n⟩;obtain ⟨v,hσ,rv⟩:=R.at_ i _ hδ;obtain ⟨a,xs,rfl,sq,rr⟩:=repL (show Rep X.K G (.lst ds) v from rv)
  refine Call_ (bG' (X:=X.nox) I hgE hmE boot_enumerate (PyProof.Rows.callWith_type1 ?_ (by rw [show starEach [.Name x np] X.nox.env=[(false,eval (.Name x np) X.env)] from hs]; rfl) rfl))
  rw [show starEach [.Name x np] X.nox.env=[(false,eval (.Name x np) X.env)] from hs]
  refine Calls.spliced_cons (wpAny_mono (gA' (X:=X.nox) hN hv hd hcd pins s σ H (fun v' H'=>v'=.ref a/\H'=H) I ⟨.ref a,hσ,rfl,rfl⟩) (fun u s1 q=>Calls.spliced_nil ?_) fun _ _ z=>z);obtain ⟨v',H',I1,r1,rfl,rfl⟩:=q
  cases r1
  obtain ⟨its1,rv1,pp1,hz1⟩:=I1.list (R.same.seq sq);refine call_enumerate_list pp1.isList fun h' Z Zi sz kk=>?_;have I2:Inv X.nox pins σ H' { s1 with heap:=h' }:=I1.kept (t':=s1.toks) kk
  refine wpAny_pyIter_enum Z ?_;refine ⟨s1.heap.objs.size + 1,[s1.heap.objs.size + 1,s1.heap.objs.size],_,_,H',rfl,I2,ee' (Nat.succ_ne_self _),⟨⟨.none,Z⟩,Zi⟩,fun b hb=>?_,n _ (cR' sq rr)⟩;have ge:s1.heap.objs.size<=b:=by
   simp only [List.mem_cons,List.not_mem_nil,or_false] at hb;rcases hb with rfl | rfl
   ·exact Nat.le_succ _
   ·exact Nat.le_refl _
  exact I1.fpOk ge (I1.hok.fresh ge)
 refine jC' (X:=X.nox) PassesOwn.never hc hpi hg.pg hb.ps hf pins s σ H E I ?_;unfold forA at h
 split at h
 ·rename_i ds hδ;exact ⟨G,δ,ds,R,hδ,fun J y=>eY' y R h⟩
 ·exact h.elim
end
section
variable {X:Cx} {body:List Stmt} {t:TGD} {fb:DS->Out} {pos:Pos} {x:Str} {np p cp tp:Pos} {elts:List Expr} {x1:Nat}
end
section
variable {X:Cx} {x y:Str} {pos pos' np apos cpos:Pos}
theorem Reps.dropLast {K:PySem.W.Frag} {H:Hp} {ds:List D} {vs:List V} (h:Reps K H ds vs):Reps K H ds.dropLast vs.dropLast:=by
 rw [List.dropLast_eq_take,List.dropLast_eq_take,h.length];exact h.take _
end
noncomputable def lrG:List D->Res D
 | [.int j]=>if 0<=j/\j<=8 then .ok (.lst (rangeD 0 j.toNat)) else .stuck
 | _=>.stuck
theorem dl':∀(n:Nat) (lo:Int) (us:List Value),us.length=n->(∀(j:Nat) (v:Value),us[j]? = some v->∃t:Tok,v=.int (lo + (j:Int)) t)->∃vs:List V,Vals vs us/\∀(K:PySem.W.Frag) (H:Hp),Reps K H (rangeD lo n) vs
 | 0,lo,us,hl,_=>⟨[],by rw [List.length_eq_zero_iff.mp hl]; exact .nil,fun K H=>Reps.nil⟩
 | n + 1,lo,u :: us,hl,h=>by
  obtain ⟨t,ht⟩:=h 0 u rfl;obtain ⟨vs,h1,h2⟩:=dl' n (lo + 1) us (by simpa using hl) fun j v e=>by
   obtain ⟨t,ht⟩:=h (j + 1) v (by simpa using e);exact ⟨t,by rw [ht]; congr 1; omega⟩
  refine ⟨.int lo :: vs,.cons ⟨t,by rw [ht]; congr 1; simp⟩ h1,fun K H=>Reps.cons (by rw [Rep]) (h2 K H)⟩
theorem ej' {X:Cx} {a:Expr} {fa:DS->Res (List D)} {p q pos pos2:Pos} (hc:X.calm=true) (hgl:Gl X "list") (hml:X.mg "list" = none) (hg:Gl X "range") (hm:X.mg "range" = none) (ha:PAD X [a] fa) (hs:starEach [a] X.env=[(false,eval a X.env)]:=by rfl)
  (hs2:starEach [.Call (.Name "range" p) [a] [] pos2] X.env=[(false,eval (.Call (.Name "range" p) [a] [] pos2) X.env)]:=by rfl) :
  PD X (.Call (.Name "list" q) [.Call (.Name "range" p) [a] [] pos2] [] pos) (fun δ=>(fa δ).bind lrG):=by
 intro pins s σ G H δ I R hn
 try dsimp only at hn ⊢
 refine Call_ (bG' I hgl hml boot_list (PyProof.Rows.callWith_type1 ?_ (by rw [hs2]; rfl) rfl));rw [hs2];refine Calls.spliced_cons (Call_ (bG' I hg hm boot_range (PyProof.Rows.callWith_type1 (ha.use I R (at' hn) (fun ds us s1 vs H1 q I1 r1 e1 b1 p1=>?_) fun e s1 q=>q.same fun x z=>aw' z) hs rfl)));have h2:=av' hn q;unfold lrG at h2
 split at h2
 ·rename_i j;obtain ⟨v,ws,rfl,w1,w2⟩:=p1.cons_of
  cases w2.nil_of
  cases repI w1
  split at h2
  ·rename_i hj
   cases r1 with
   | cons r rr =>
    cases rr
    obtain ⟨t,rfl⟩:=r;refine call_range_1 (Calls.spliced_nil ?_);obtain ⟨n,rfl⟩:=Int.eq_ofNat_of_zero_le hj.1;have n8:n<=8:=by omega
    have hsm:Builtin.Range.small 0 (n:Int) 1=true/\Builtin.Range.rangeSize 0 (n:Int) 1=n:=by
     have:n=0\/n=1\/n=2\/n=3\/n=4\/n=5\/n=6\/n=7\/n=8:=by omega
     rcases this with z | z | z | z | z | z | z | z | z <;> subst z <;> exact ⟨by decide,by decide⟩
    refine call_list_range (n:=n) (I1.ok.hd hc) (Heap.get?_push_size _ rfl) hsm.1 hsm.2 (Nat.le_trans n8 (by decide)) fun h' tk acc' c' k g it=>?_;have kk:∀b o,s1.heap.get? b=some o->h'.get? b=some o:=fun b o e=>k b o (Heap.get?_push_of_some _ e);obtain ⟨vs,v1,v2⟩:=dl' n 0 acc'.toList (by rw [Array.length_toList]; exact it.1) fun j v e=>by
     obtain ⟨t,ht⟩:=it.2 j v (by rw [<- Array.getElem?_toList]; exact e);exact ⟨t,by rw [ht]; congr 1; omega⟩
    have hf:=I1.hok.fresh (show s1.heap.objs.size<=s1.heap.objs.size + 1 from Nat.le_succ _)
    have g':h'.get? (s1.heap.objs.size + 1)=some { cls:=.type "list",dict:=none,data:=.seq acc' c',slots:=#[] }:=by
     rw [Heap.size_push] at g; exact g
    have I2:=I1.laid (a:=s1.heap.objs.size + 1) (o:=.lst vs) (h':=h') (t':=tk) kk (Nat.le_succ _) ⟨by rw [v1.length,Array.length_toList,it.1]; exact Nat.le_trans n8 (by decide),acc'.toList,c',v1,by rw [Array.toArray_toList]; exact g'⟩;refine ⟨_,.ref (s1.heap.objs.size + 1),_,by rw [q,Res.bind_ok]; exact if_pos hj,I2,?_,e1.trans (an' hf _),mkL (SqL.of aq') (v2 _ _)⟩;show Value.ref _=Value.ref _;rw [Heap.size_push]
  ·exact (h2 rfl).elim
 ·exact (h2 rfl).elim
end DL
namespace DL
open PySem PySem.Spec PyProof.Rows L2
open AutoSeq1 (wpAny_loadPart')
theorem eZ' (l:Addr) (items:Array Value) (n:Nat) (dct:Option Addr) (sl:Array (Option Value)) :
    Meets (Builtin.«enumerate.__new__» ⟨[.type "enumerate",.ref l],[]⟩) (fun _ R s=>s.heap.get? l=some { cls:=.type "tuple",dict:=dct,data:=.seq items n,slots:=sl } /\
      R (.ok (.ret (.ref (s.heap.push { cls:=.type "tuple_iterator",data:=.fields #[.ref l,.int 0 0] }).objs.size)))
        { s with heap:=(s.heap.push { cls:=.type "tuple_iterator",data:=.fields #[.ref l,.int 0 0] }).push { cls:=.type "enumerate",data:=.fields #[.none,.bool false,.ref s.heap.objs.size,rawInt 0,.none,.none] } }) :=
  .of_wp fun prog w A R s h=>by
    obtain ⟨hp,g,d,tk,os⟩:=s; obtain ⟨hl,h⟩:=h;have hsub:=sub_enumerate;have hL:Heap.IsTuple (Shared.heap ⟨hp,g,d,tk,os⟩) l items:=⟨_,hl,rfl,n,rfl⟩
    wp_walk using wpAny_loadPart' hl
    refine wpAny_stack_any fun st=>wpAny_pure ?_
    split
    · rename_i c _ _ _ _ _
      cases (c == Value.type "enumerate")
      · wp_walk using wpAny_loadPart' hl,wpAny_pyIter_tuple hL
        exact ⟨_,rfl,h⟩
      · wp_walk using wpAny_loadPart' hl,wpAny_pyIter_tuple hL
        exact ⟨_,rfl,h⟩
    · wp_walk using wpAny_loadPart' hl,wpAny_pyIter_tuple hL
      exact ⟨_,rfl,h⟩
theorem gq' {prog:Program} {w:World} {A:Around} {E:Value->Shared->Prop} {s:Shared} {l:Addr} {items:Array Value} {Q:Value->Shared->Prop} (hL:s.heap.IsTuple l items)
    (h:∀h',IsEnum h' (s.heap.objs.size + 1) s.heap.objs.size 0 .none->h'.IsTupleIter s.heap.objs.size l 0->h'.objs.size=s.heap.objs.size + 2 ->
      (∀b o,s.heap.get? b=some o->h'.get? b=some o)->Q (.ref (s.heap.objs.size + 1)) { s with heap:=h' }) :
    wpAny (model prog w) A (call (.type "enumerate") [.ref l]) Q E s:=by
  obtain ⟨⟨c,dct,dt,sl⟩,hl,hc,n,hd⟩:=hL
  replace hc:c=.type "tuple":=hc
  replace hd:dt=.seq items n:=hd
  subst hc hd;refine callType_new F.called_enumerate (by decide) (F.typeCall_enumerate_1 _) (F.newCall_enumerate_1 _) (fun obj=>F.args_object_init_2 obj _) F.entry_enumerate_new
    (eZ' l items n dct sl) ⟨hl,?_⟩
  have hz:(s.heap.push { cls:=.type "tuple_iterator",data:=.fields #[.ref l,.int 0 0] }).objs.size=s.heap.objs.size + 1:=Heap.size_push ..;show _/\_;rw [hz];have he:IsEnum ((s.heap.push { cls:=.type "tuple_iterator",data:=.fields #[.ref l,.int 0 0] }).push
      { cls:=.type "enumerate",data:=.fields #[.none,.bool false,.ref s.heap.objs.size,rawInt 0,.none,.none] }) (s.heap.objs.size + 1) s.heap.objs.size 0 .none:=by
    have:=Heap.get?_push_size (s.heap.push { cls:=.type "tuple_iterator",data:=.fields #[.ref l,.int 0 0] })
      (o:={ cls:=.type "enumerate",data:=.fields #[.none,.bool false,.ref s.heap.objs.size,rawInt 0,.none,.none] }) rfl
    rw [hz] at this; exact this
  refine ⟨⟨_,he,rfl⟩,h _ he ⟨_,Heap.get?_push_of_some _ (Heap.get?_push_size _ rfl),rfl,rfl⟩ (by rw [Heap.size_push,hz]) fun b o x=>Heap.get?_push_of_some _ (Heap.get?_push_of_some _ x)⟩
theorem fa' {prog:Program} {w:World} {A:Around} (hh:A.handled=none) (it l:Addr) (hne:l≠it) (items:Array Value) :
  Draws prog w A it [it,l] items.size (fun i v=>items[i]? = some v) (fun i h=>h.IsTupleIter it l i/\h.IsTuple l items) where
 live:=fun _ _ st=>let ⟨o,ho,_⟩:=st.1; ⟨o,ho⟩
 frame:=fun _ _ _ st hk=>⟨st.1.at fun o e=>hk it (by simp) o e,st.2.at fun o e=>hk l (by simp) o e⟩
 item:=fun i s Q E hi st hQ=>by
  refine aV' st.1 st.2 (x:=items[i]) (by simp [hi]) fun h' hit' hs'=>?_;exact hQ _ h' s.toks (by simp [hi]) ⟨hit',st.2.extBut hs'.extBut hne⟩ hs'
 done:=fun s Q E st hE=>aY' hh st.1 st.2 (by simp) hE
noncomputable def Itf (K:PySem.W.Frag) (l:Addr):It :=
  ⟨fun i H=>∃xs v,SqT K H l xs/\xs[i]? = some v,
   fun i H x H'=>∃T,H T=none/\x=.ref T/\∃v,(∀xs,SqT K H l xs->xs[i]? = some v)/\H'=upd H T (.tup [.int (i:Int),v]),
   fun i H=>∃xs,SqT K H l xs/\xs.length<=i⟩
theorem gr' {P:Program} {w:World} {K:PySem.W.Frag} {elts:List Expr} {x1:Nat} {pos:Pos} {e it l:Addr} (hei:e≠it) (hli:l≠it) (hle:l≠e) :
  Turn P w K (.Tuple elts x1 pos) (Itf K l) [e,it] e (fun i h=>(∃old,IsEnum h e it ((i:Nat):Int) old)/\h.IsTupleIter it l i) where
 mem:=by simp
 obj:=fun i h st b hb=>by
  obtain ⟨⟨old,g1⟩,⟨o,g2,_,d2⟩⟩:=st;simp only [List.mem_cons,List.not_mem_nil,or_false] at hb;rcases hb with rfl | rfl
  ·exact ⟨_,g1,fun v q=>by cases q⟩
  ·exact ⟨_,g2,fun v q=>by rw [d2] at q; cases q⟩
 keep:=fun i h h' st k=>by
  obtain ⟨⟨old,g1⟩,⟨o,g2,r2⟩⟩:=st;exact ⟨⟨old,k e (by simp) _ g1⟩,⟨o,k it (by simp) _ g2,r2⟩⟩
 item:=by
  intro X hP hw hK hc i pins s σ H E I hf st hg;subst hP hw hK;obtain ⟨xs,v,hq,hx⟩:=hg;obtain ⟨its,rv,p,hz⟩:=I.tuple hq;obtain ⟨u,hu,ru⟩:=rv.get hx;obtain ⟨⟨old,g1⟩,g2⟩:=st;have hlt:i < its.toArray.size:=by
   have:=(List.getElem?_eq_some_iff.mp hu).1;simpa using this
  refine wpAny_pyNext_enum_itemD (fa' (show X.A.in1.handled=none from I.ok.hd hc) it l hli its.toArray) g1 ⟨g2,p⟩ hlt hei (by simp [hei,Ne.symm hle]) fun x h' tk pz eo it' gT sz kk=>?_
  have xu:x=u:=by
   have:its.toArray[i]? = some u:=by simpa using hu
   rw [this] at pz; injection pz with pz; exact pz.symm
  subst xu;refine ⟨_,rfl,wpAny_letOwnedTupleGo_enum eo fun h'' ge'' sb=>?_⟩;have fT:FpOk X pins H s.heap.objs.size:=I.fpOk (Nat.le_refl _) (I.hok.fresh (Nat.le_refl _));have el:e < s.heap.objs.size:=Heap.lt_size g1;obtain ⟨oi,gi,ri⟩:=id g2;have il:it < s.heap.objs.size:=Heap.lt_size gi;have ze:s.heap.objs.size≠e:=Nat.ne_of_gt el;have kk2:∀b o,b∉[e,it]->s.heap.get? b=some o->h''.get? b=some o:=fun b o n q=>by
   simp only [List.mem_cons,List.not_mem_nil,or_false,not_or] at n;exact (sb.2 b n.1).trans (kk b o n.1 n.2 q)
  have I1:Inv X pins σ H { s with heap:=h'',toks:=tk + 1 }:=I.butL (t':=tk + 1) hf kk2
  have gT2:h''.get? s.heap.objs.size=some { cls:=Value.type "tuple",data:=Data.seq #[.int i tk,x] }:=(sb.2 _ ze).trans gT;obtain ⟨f0,f1,f2,f3,f4,f5⟩:=fT;have I2:Inv X pins σ (upd H s.heap.objs.size (.tup [.int (i:Int),v])) { s with heap:=h'',toks:=tk + 1 }:=I1.track f0 (fun ob q _=>absurd (Nat.lt_of_lt_of_le (Heap.lt_size q) I.sz) (Nat.lt_irrefl _)) f1 f4 f5
   ⟨show 2<=sizeLine by decide,[.int i tk,x],.cons ⟨_,rfl⟩ (.cons ru .nil),⟨_,gT2,rfl,_,rfl⟩⟩
  refine ⟨.ref s.heap.objs.size,_,I2,rfl,⟨_,f0,rfl,v,fun xs' h=>by rw [I.tuple_inj h hq]; exact hx,rfl⟩,⟨⟨x,?_⟩,?_⟩,fun b hb=>?_⟩
  ·have:(((i + 1:Nat)):Int)=(i:Int) + 1:=by omega
   rw [this]; exact ge''
  ·obtain ⟨o',g',r'⟩:=it'.1;exact ⟨o',(sb.2 _ (Ne.symm hei)).trans g',r'⟩
  ·have hb2:b≠s.heap.objs.size:=fun q=>by
    simp only [List.mem_cons,List.not_mem_nil,or_false] at hb;rcases hb with rfl | rfl
    ·rw [q] at el; exact Nat.lt_irrefl _ el
    ·rw [q] at il; exact Nat.lt_irrefl _ il
   rw [am' hb2]; exact (hf b hb).1
 done:=by
  intro X hP hw hK hc i pins s σ H E I hf st hg;subst hP hw hK;obtain ⟨xs,hq,hx⟩:=hg;obtain ⟨its,rv,p,hz⟩:=I.tuple hq;have l1:=rv.length;obtain ⟨⟨old,g1⟩,g2⟩:=st;have hT:s.TypeIs (.ref e) "enumerate":=⟨_,g1,rfl⟩;unfold pyNext;refine wpAny_bind (wpAny_attempt (wpAny_callSpecial?_slot (name:=Str.ofString "__next__") hT F.slot_enumerate_next
   (wpAny_call_entry F.slot_enumerate_next hT F.entry_enumerate_next ?_ (F.args_enumerate_next_1 _))))
  show wpAny _ _ (field (.ref e) 2 >>= _) _ _ _;refine wpAny_bind (wpAny_field g1 rfl (x:=.ref it) rfl ?_);refine wpAny_bind (aY' (I.ok.hd hc) g2 (show s.heap.IsTuple l its.toArray from p) (by simp; omega) fun h' x he' hx'=>?_)
  obtain ⟨o,ho,hc'⟩:=hx';refine wpAny_bind (wpAny_isInstance (T:="StopIteration") (b:=true) ⟨o,ho,hc'⟩ isSubtype_stop ?_);exact wpAny_pure ⟨rfl,I.butL (t':=s.toks) hf fun b o n q=>he' b o (fun z=>n (by simp [z])) q⟩
 self:=fun _ _ _ _ _ st h=>by
  obtain ⟨⟨old,g1⟩,_⟩:=st;exact wpAny_pyIter_enum g1 h
noncomputable def enumT:List D->Res (List D)
 | [.tup xs]=>.ok (enumD xs)
 | _=>.stuck
theorem ek' {K:PySem.W.Frag} {H:Hp} {l:Addr} {xs:List V} {ds:List D} (h1:SqT K H l xs) (r1:Reps K H ds xs):Yields K (Itf K l) H (enumD ds):=by
 intro H' e;have q1:=cf' e h1;have p1:=r1.mono e;refine ⟨fun i d hd=>?_,xs,q1,?_⟩
 ·rw [cQ'] at hd
  cases z1:ds[i]? with
  | none=>rw [z1] at hd; simp at hd
  | some x =>
   rw [z1] at hd;simp only [Option.map_some,Option.some.injEq] at hd;subst hd;obtain ⟨v,e1,s1⟩:=p1.get z1;refine ⟨⟨xs,v,q1,e1⟩,fun a H'' yl=>?_⟩;obtain ⟨T,hT,rfl,v',k1,rfl⟩:=yl;have w1:=k1 xs q1;rw [e1] at w1
   cases w1
   have sm:=an' hT (.tup [.int (i:Int),v]);exact ⟨sm,mkT (SqT.of aq') (.cons mkI (.cons (s1.mono sm) .nil))⟩
 ·unfold enumD;rw [List.length_map,List.length_zipIdx,r1.length];exact Nat.le_refl _
theorem hC' {X:Cx} {a:Expr} {fa:DS->Res (List D)} {p pos tp:Pos} {elts:List Expr} {x1:Nat} (hg:Gl X "enumerate") (hm:X.mg "enumerate" = none) (ha:PAD X [a] fa) (hs:starEach [a] X.env=[(false,eval a X.env)]:=by rfl) :
  PID X (.Tuple elts x1 tp) (.Call (.Name "enumerate" p) [a] [] pos) (fun δ=>(fa δ).bind enumT):=by
 intro pins s σ G H δ I R hn
 try dsimp only at hn ⊢
 refine Call_ (bG' I hg hm boot_enumerate (PyProof.Rows.callWith_type1 (ha.use I R (at' hn) (fun ds us s1 vs H1 q I1 r1 e1 b1 p1=>?_) fun e s1 q=>q.same fun x z=>aw' z) (by rw [hs]; rfl) rfl));have h2:=av' hn q;unfold enumT at h2
 split at h2
 ·rename_i ds1;obtain ⟨v,ws,rfl,w1,w2⟩:=p1.cons_of
  cases w2.nil_of
  obtain ⟨t1,xs,rfl,s1',t1'⟩:=repT w1
  cases r1 with
  | cons ra rr =>
   cases rr
   cases ra
   obtain ⟨its1,rv1,pp1,hz1⟩:=I1.tuple s1';have tl:t1 < s1.heap.objs.size:=by obtain ⟨o,g,_⟩:=pp1; exact Heap.lt_size g
   refine gq' pp1 fun h' Z Zi sz kk=>?_;have I2:Inv X pins σ H1 { s1 with heap:=h' }:=I1.kept (t':=s1.toks) kk
   refine wpAny_pyIter_enum Z ?_;refine ⟨_,s1.heap.objs.size + 1,[s1.heap.objs.size + 1,s1.heap.objs.size],_,_,H1,by rw [q]; rfl,rfl,I2,gr' (Nat.succ_ne_self _) (Nat.ne_of_lt tl) (Nat.ne_of_lt (Nat.lt_succ_of_lt tl)),⟨⟨.none,Z⟩,Zi⟩,fun b hb=>?_,e1,ek' s1' t1'⟩;have ge:s1.heap.objs.size<=b:=by
    simp only [List.mem_cons,List.not_mem_nil,or_false] at hb;rcases hb with rfl | rfl
    ·exact Nat.le_succ _
    ·exact Nat.le_refl _
   exact I1.fpOk ge (I1.hok.fresh ge)
 ·exact (h2 rfl).elim
end DL
namespace DL
open PySem PySem.Spec PyProof.Rows L2
section
variable {X:Cx} {e:Expr} {fe:DS->Res D} {x y:Str} {pos np apos cpos np2 apos2 cpos2:Pos}
end
abbrev okSm:V->Prop:=fun v=>∃k:Int,v=.int k/\0<=k/\k<=3
end DL
namespace Mine
noncomputable def cm (a b:Int):Int:=(Int.gcd a b:Nat)
theorem kJ' {a b:Int} (ha:0<=a) (hb:0<=b):cm b (Int.fmod a b)=cm a b:=by
 unfold cm;rw [Int.fmod_eq_emod_of_nonneg a hb]
 congr 1
 obtain ⟨x,rfl⟩:=Int.eq_ofNat_of_zero_le ha;obtain ⟨y,rfl⟩:=Int.eq_ofNat_of_zero_le hb;rw [<- Int.natCast_emod];simp only [Int.gcd,Int.natAbs_natCast];rw [Nat.gcd_comm y (x % y),<- Nat.gcd_rec,Nat.gcd_comm]
theorem kK' {a:Int} (ha:0<=a):cm a 0=a:=by
 unfold cm; rw [Int.gcd_zero_right]; omega
theorem me' (a b:Int):cm (a.natAbs:Int) (b.natAbs:Int)=cm a b:=by
 unfold cm; simp [Int.gcd]
end Mine
namespace DL
open PySem PySem.Spec PyProof.Rows L2
theorem ap_seq (a b:DS->Out) (δ:DS):seqD a b δ=(a δ).seq b:=Eq.trans rfl rfl
theorem bnd_ok {α β:Type} (a:α) (f:α->Res β):(Res.ok a).bind f=f a:=Eq.trans rfl rfl
theorem sq_nxt (δ:DS) (g:DS->Out):(Out.nxt δ).seq g=g δ:=Eq.trans rfl rfl
theorem sq_ret (d:D) (g:DS->Out):(Out.ret d).seq g=.ret d:=Eq.trans rfl rfl
theorem ap_set (i:Nat) (f:DS->Res D) (δ:DS):setD i f δ=onD (f δ) δ fun d=>.nxt (δ.set i (some (.val d))):=Eq.trans rfl rfl
theorem on_ok (d:D) (δ:DS) (k:D->Out):onD (.ok d) δ k=k d:=Eq.trans rfl rfl
theorem ont_ok (c:Bool) (δ:DS) (k:Bool->Out):onT (.ok c) δ k=k c:=Eq.trans rfl rfl
theorem onl_ok (ds:List D) (k:List D->Out):onL (.ok ds) k=k ds:=Eq.trans rfl rfl
theorem ap_if (t:DS->Res Bool) (a b:DS->Out) (δ:DS):ifS t a b δ=onT (t δ) δ fun k=>if k=true then a δ else b δ:=Eq.trans rfl rfl
theorem ap_two (fa fb:DS->Res D) (g:D->D->Res D) (δ:DS):two fa fb g δ=(fa δ).bind fun x=>(fb δ).bind fun y=>g x y:=Eq.trans rfl rfl
theorem ap_bF {α:Type} (f:DS->Res α) (g:α->Res D) (δ:DS):bindF f g δ=(f δ).bind g:=Eq.trans rfl rfl
theorem ap_bT (f:DS->Res D) (g:D->Res Bool) (δ:DS):bindT f g δ=(f δ).bind g:=Eq.trans rfl rfl
theorem ap_bL (f:DS->Res D) (g:D->Res (List D)) (δ:DS):bindL f g δ=(f δ).bind g:=Eq.trans rfl rfl
theorem ap_bR (f:DS->Res (List D)) (g:List D->Res (List D)) (δ:DS):bindRg f g δ=(f δ).bind g:=Eq.trans rfl rfl
theorem ap_cons (f:DS->Res D) (fs:DS->Res (List D)) (δ:DS):consD f fs δ=(f δ).bind fun d=>(fs δ).bind fun ds=>.ok (d :: ds):=Eq.trans rfl rfl
theorem ap_tup (f:DS->Res (List D)) (δ:DS):tupF f δ=tupD (f δ):=Eq.trans rfl rfl
theorem ap_lst (f:DS->Res (List D)) (δ:DS):lstF f δ=lstD (f δ):=Eq.trans rfl rfl
theorem ap_ret (f:DS->Res D) (δ:DS):retD f δ=onD (f δ) δ Out.ret:=Eq.trans rfl rfl
theorem ap_neg (f:DS->Res D) (δ:DS):negF f δ=(f δ).bind negG:=Eq.trans rfl rfl
theorem neg_ok (i:Int):negG (.int i)=.ok (.int (-i)):=Eq.trans rfl rfl
theorem ap_notT (f:DS->Res Bool) (δ:DS):notT f δ=(f δ).bind fun c=>.ok (!c):=Eq.trans rfl rfl
theorem ap_andT (f g:DS->Res Bool) (δ:DS):andT f g δ=(f δ).bind fun c=>if c=true then g δ else .ok false:=Eq.trans rfl rfl
theorem ap_orT (f g:DS->Res Bool) (δ:DS):orT f g δ=(f δ).bind fun c=>if c=true then .ok true else g δ:=Eq.trans rfl rfl
theorem ap_andV (f g:DS->Res D) (δ:DS):andV f g δ=(f δ).bind fun x=>(boolD x).bind fun c=>if c=true then g δ else .ok (.bl false):=Eq.trans rfl rfl
theorem ap_notV (f:DS->Res D) (δ:DS):notV f δ=(f δ).bind fun x=>(boolD x).bind fun c=>.ok (.bl (!c)):=Eq.trans rfl rfl
theorem ap_for (t:TGD) (fi:DS->Res (List D)) (b:DS->Out) (δ:DS):forS t fi b δ=onL (fi δ) fun ds=>thawO (forD t b ds (thaw δ)):=Eq.trans rfl rfl
theorem ap_slice (fe:DS->Res D) (fl fu:DS->Res (Option Int)) (δ:DS):sliceF fe fl fu δ=(fe δ).bind fun d=>(fl δ).bind fun l=>(fu δ).bind fun u=>cutD d l u:=Eq.trans rfl rfl
theorem ap_part (f:DS->Res D) (δ:DS):partF f δ=(f δ).bind partG:=Eq.trans rfl rfl
theorem ap_noPart (δ:DS):noPart δ=.ok none:=Eq.trans rfl rfl
theorem part_int (i:Int):partG (.int i)=.ok (some i):=Eq.trans rfl rfl
theorem out_ret (d:D):outD (.ret d)=.ok d:=Eq.trans rfl rfl
theorem cmp_ok (p:Int->Int->Bool) (i j:Int):cmpD p (.int i) (.int j)=.ok (.bl (p i j)):=Eq.trans rfl rfl
theorem add_ok (i j:Int):addD (.int i) (.int j)=.ok (.int (i + j)):=Eq.trans rfl rfl
theorem sub_ok (i j:Int):subD (.int i) (.int j)=.ok (.int (i - j)):=Eq.trans rfl rfl
theorem bool_ok (b:Bool):boolD (.bl b)=.ok b:=Eq.trans rfl rfl
theorem truth_bl (b:Bool):truthD (.bl b)=.ok b:=Eq.trans rfl rfl
theorem abs_ok (i:Int):absG [.int i]=.ok (.int (i.natAbs:Nat)):=by
 show Res.ok (D.int _)=_
 congr 2
 split <;> omega
theorem len_tup (ds:List D):lenG [.tup ds]=.ok (.int ds.length):=Eq.trans rfl rfl
theorem len_lst (ds:List D):lenG [.lst ds]=.ok (.int ds.length):=Eq.trans rfl rfl
theorem tuple_lst (ds:List D):tupleG [.lst ds]=.ok (.tup ds):=Eq.trans rfl rfl
theorem seq_tup (ds:List D):seqItems (.tup ds)=.ok ds:=Eq.trans rfl rfl
theorem seq_lst (ds:List D):seqItems (.lst ds)=.ok ds:=Eq.trans rfl rfl
theorem vw_val (d:D):SV.view (.val d)=d:=Eq.trans rfl rfl
theorem vw_arg (d:D):SV.view (.arg d)=d:=Eq.trans rfl rfl
theorem eqI (a b:Int):eqD (.int a) (.int b)=.ok (.bl (decide (a=b))):=Eq.trans rfl rfl
theorem neI (a b:Int):neD (.int a) (.int b)=.ok (.bl (!decide (a=b))):=Eq.trans rfl rfl
theorem modI {a b:Int} (h:b≠0):modD (.int a) (.int b)=.ok (.int (Int.fmod a b)):=by unfold modD; exact if_pos h
theorem mulI {a b:Int} (h:a.natAbs < 2 ^ 1000) (h2:b.natAbs < 2 ^ 1000):mulD (.int a) (.int b)=.ok (.int (a * b)):=by
 unfold mulD;have e:1000<=2 ^ 20:=by decide
 exact if_pos (.inl ⟨Nat.le_trans (intBits_le h) e,Nat.le_trans (intBits_le h2) e⟩)
theorem mulR {a b:Int} (h:b.natAbs < 2 ^ 64):mulD (.int a) (.int b)=.ok (.int (a * b)):=by
 unfold mulD;exact if_pos (.inr (.inr (intBits_le h)))
theorem mulE_i (a b:Int):mulE (.int a) (.int b)=mulD (.int a) (.int b):=Eq.trans rfl rfl
theorem fE' (fuel:DS->Nat) (c:DS->Res Bool) (b:DS->Out) (δ:DS):whileF fuel c b δ=whileD c b (fuel δ) δ:=Eq.trans rfl rfl
theorem mf' {y:Int} (h:y.natAbs < 2 ^ 8000):y.natAbs.log2 < 9000:=by
 by_cases c:y.natAbs=0
 ·rw [c]; decide
 ·have:=(Nat.log2_lt c).mpr h; omega
theorem cs' {a b:Int} (h:b≠0) (h2:b.natAbs < 2 ^ 8000):fdivD (.int a) (.int b)=.ok (.int (Int.fdiv a b)):=by
 unfold fdivD; exact if_pos ⟨h,PyProof.noPylong_of_log2 (mf' h2)⟩
theorem je' {a b:Int} (h:a.natAbs < 2 ^ 8000) (h2:b.natAbs < 2 ^ 8000):mulD (.int a) (.int b)=.ok (.int (a * b)):=by
 unfold mulD;have e:8000<=2 ^ 20:=by decide
 exact if_pos (.inl ⟨Nat.le_trans (intBits_le h) e,Nat.le_trans (intBits_le h2) e⟩)
theorem cN0:((0:Nat):Int)=0:=Eq.trans rfl rfl
theorem cN1:((1:Nat):Int)=1:=Eq.trans rfl rfl
theorem cN2:((2:Nat):Int)=2:=Eq.trans rfl rfl
theorem sl0 (sv:SV) (r:DS):slotD 0 (some sv :: r)=.ok sv.view:=Eq.trans rfl rfl
theorem st0 (y x:Option SV) (r:DS):List.set (y :: r) 0 x=x :: r:=Eq.trans rfl rfl
theorem sl1 (a0:Option SV) (sv:SV) (r:DS):slotD 1 (a0 :: some sv :: r)=.ok sv.view:=Eq.trans rfl rfl
theorem st1 (a0:Option SV) (y x:Option SV) (r:DS):List.set (a0 :: y :: r) 1 x=a0 :: x :: r:=Eq.trans rfl rfl
theorem sl2 (a0 a1:Option SV) (sv:SV) (r:DS):slotD 2 (a0 :: a1 :: some sv :: r)=.ok sv.view:=Eq.trans rfl rfl
theorem st2 (a0 a1:Option SV) (y x:Option SV) (r:DS):List.set (a0 :: a1 :: y :: r) 2 x=a0 :: a1 :: x :: r:=Eq.trans rfl rfl
theorem sl3 (a0 a1 a2:Option SV) (sv:SV) (r:DS):slotD 3 (a0 :: a1 :: a2 :: some sv :: r)=.ok sv.view:=Eq.trans rfl rfl
theorem st3 (a0 a1 a2:Option SV) (y x:Option SV) (r:DS):List.set (a0 :: a1 :: a2 :: y :: r) 3 x=a0 :: a1 :: a2 :: x :: r:=Eq.trans rfl rfl
theorem sl4 (a0 a1 a2 a3:Option SV) (sv:SV) (r:DS):slotD 4 (a0 :: a1 :: a2 :: a3 :: some sv :: r)=.ok sv.view:=Eq.trans rfl rfl
theorem st4 (a0 a1 a2 a3:Option SV) (y x:Option SV) (r:DS):List.set (a0 :: a1 :: a2 :: a3 :: y :: r) 4 x=a0 :: a1 :: a2 :: a3 :: x :: r:=Eq.trans rfl rfl
theorem sl5 (a0 a1 a2 a3 a4:Option SV) (sv:SV) (r:DS):slotD 5 (a0 :: a1 :: a2 :: a3 :: a4 :: some sv :: r)=.ok sv.view:=Eq.trans rfl rfl
theorem st5 (a0 a1 a2 a3 a4:Option SV) (y x:Option SV) (r:DS):List.set (a0 :: a1 :: a2 :: a3 :: a4 :: y :: r) 5 x=a0 :: a1 :: a2 :: a3 :: a4 :: x :: r:=Eq.trans rfl rfl
theorem sl6 (a0 a1 a2 a3 a4 a5:Option SV) (sv:SV) (r:DS):slotD 6 (a0 :: a1 :: a2 :: a3 :: a4 :: a5 :: some sv :: r)=.ok sv.view:=Eq.trans rfl rfl
theorem st6 (a0 a1 a2 a3 a4 a5:Option SV) (y x:Option SV) (r:DS):List.set (a0 :: a1 :: a2 :: a3 :: a4 :: a5 :: y :: r) 6 x=a0 :: a1 :: a2 :: a3 :: a4 :: a5 :: x :: r:=Eq.trans rfl rfl
theorem sl7 (a0 a1 a2 a3 a4 a5 a6:Option SV) (sv:SV) (r:DS):slotD 7 (a0 :: a1 :: a2 :: a3 :: a4 :: a5 :: a6 :: some sv :: r)=.ok sv.view:=Eq.trans rfl rfl
theorem st7 (a0 a1 a2 a3 a4 a5 a6:Option SV) (y x:Option SV) (r:DS):List.set (a0 :: a1 :: a2 :: a3 :: a4 :: a5 :: a6 :: y :: r) 7 x=a0 :: a1 :: a2 :: a3 :: a4 :: a5 :: a6 :: x :: r:=Eq.trans rfl rfl
theorem sl8 (a0 a1 a2 a3 a4 a5 a6 a7:Option SV) (sv:SV) (r:DS):slotD 8 (a0 :: a1 :: a2 :: a3 :: a4 :: a5 :: a6 :: a7 :: some sv :: r)=.ok sv.view:=Eq.trans rfl rfl
theorem st8 (a0 a1 a2 a3 a4 a5 a6 a7:Option SV) (y x:Option SV) (r:DS):List.set (a0 :: a1 :: a2 :: a3 :: a4 :: a5 :: a6 :: a7 :: y :: r) 8 x=a0 :: a1 :: a2 :: a3 :: a4 :: a5 :: a6 :: a7 :: x :: r:=Eq.trans rfl rfl
theorem sl9 (a0 a1 a2 a3 a4 a5 a6 a7 a8:Option SV) (sv:SV) (r:DS):slotD 9 (a0 :: a1 :: a2 :: a3 :: a4 :: a5 :: a6 :: a7 :: a8 :: some sv :: r)=.ok sv.view:=Eq.trans rfl rfl
theorem st9 (a0 a1 a2 a3 a4 a5 a6 a7 a8:Option SV) (y x:Option SV) (r:DS):List.set (a0 :: a1 :: a2 :: a3 :: a4 :: a5 :: a6 :: a7 :: a8 :: y :: r) 9 x=a0 :: a1 :: a2 :: a3 :: a4 :: a5 :: a6 :: a7 :: a8 :: x :: r:=Eq.trans rfl rfl
theorem sl10 (a0 a1 a2 a3 a4 a5 a6 a7 a8 a9:Option SV) (sv:SV) (r:DS):slotD 10 (a0 :: a1 :: a2 :: a3 :: a4 :: a5 :: a6 :: a7 :: a8 :: a9 :: some sv :: r)=.ok sv.view:=Eq.trans rfl rfl
theorem st10 (a0 a1 a2 a3 a4 a5 a6 a7 a8 a9:Option SV) (y x:Option SV) (r:DS):List.set (a0 :: a1 :: a2 :: a3 :: a4 :: a5 :: a6 :: a7 :: a8 :: a9 :: y :: r) 10 x=a0 :: a1 :: a2 :: a3 :: a4 :: a5 :: a6 :: a7 :: a8 :: a9 :: x :: r:=Eq.trans rfl rfl
theorem sl11 (a0 a1 a2 a3 a4 a5 a6 a7 a8 a9 a10:Option SV) (sv:SV) (r:DS):slotD 11 (a0 :: a1 :: a2 :: a3 :: a4 :: a5 :: a6 :: a7 :: a8 :: a9 :: a10 :: some sv :: r)=.ok sv.view:=Eq.trans rfl rfl
theorem st11 (a0 a1 a2 a3 a4 a5 a6 a7 a8 a9 a10:Option SV) (y x:Option SV) (r:DS):List.set (a0 :: a1 :: a2 :: a3 :: a4 :: a5 :: a6 :: a7 :: a8 :: a9 :: a10 :: y :: r) 11 x=a0 :: a1 :: a2 :: a3 :: a4 :: a5 :: a6 :: a7 :: a8 :: a9 :: a10 :: x :: r:=Eq.trans rfl rfl
theorem tup1 (x0:D):tupD (.ok [x0])=.ok (.tup [x0]):=Eq.trans rfl rfl
theorem tup2 (x0 x1:D):tupD (.ok [x0,x1])=.ok (.tup [x0,x1]):=Eq.trans rfl rfl
theorem lst2 (x0 x1:D):lstD (.ok [x0,x1])=.ok (.lst [x0,x1]):=Eq.trans rfl rfl
theorem tup3 (x0 x1 x2:D):tupD (.ok [x0,x1,x2])=.ok (.tup [x0,x1,x2]):=Eq.trans rfl rfl
theorem tup4 (x0 x1 x2 x3:D):tupD (.ok [x0,x1,x2,x3])=.ok (.tup [x0,x1,x2,x3]):=Eq.trans rfl rfl
theorem lst4 (x0 x1 x2 x3:D):lstD (.ok [x0,x1,x2,x3])=.ok (.lst [x0,x1,x2,x3]):=Eq.trans rfl rfl
theorem lst5 (x0 x1 x2 x3 x4:D):lstD (.ok [x0,x1,x2,x3,x4])=.ok (.lst [x0,x1,x2,x3,x4]):=Eq.trans rfl rfl
theorem lst6 (x0 x1 x2 x3 x4 x5:D):lstD (.ok [x0,x1,x2,x3,x4,x5])=.ok (.lst [x0,x1,x2,x3,x4,x5]):=Eq.trans rfl rfl
theorem ix_tup (ds:List D) (k:Nat) (d:D) (h:ds[k]? = some d):ixD (.tup ds) (.int (k:Int))=.ok d:=by
 have hk:k < ds.length:=by
  rcases Nat.lt_or_ge k ds.length with z | z
  ·exact z
  ·rw [List.getElem?_eq_none z] at h; cases h
 have e:atI ds (k:Int)=some d:=by
  unfold atI ixN;rw [if_pos (Int.natCast_nonneg k),if_pos (by omega)];simpa using h
 show (match atI ds (k:Int) with | some d=>Res.ok d | none=>.stuck)=_
 rw [e]
theorem ix_tup0 (x0:D) (r:List D):ixD (.tup (x0 :: r)) (.int 0)=.ok x0:=ix_tup _ 0 _ rfl
theorem ix_tup1 (x0 x1:D) (r:List D):ixD (.tup (x0 :: x1 :: r)) (.int 1)=.ok x1:=ix_tup _ 1 _ rfl
theorem cS' (ds:List D) (k:Nat) (d:D) (h:ds[k]? = some d):ixD (.lst ds) (.int (k:Int))=.ok d:=by
 have hk:k < ds.length:=by
  rcases Nat.lt_or_ge k ds.length with z | z
  ·exact z
  ·rw [List.getElem?_eq_none z] at h; cases h
 have e:atI ds (k:Int)=some d:=by
  unfold atI ixN;rw [if_pos (Int.natCast_nonneg k),if_pos (by omega)];simpa using h
 show (match atI ds (k:Int) with | some d=>Res.ok d | none=>.stuck)=_
 rw [e]
theorem ix_lst0 (x0:D) (r:List D):ixD (.lst (x0 :: r)) (.int 0)=.ok x0:=cS' _ 0 _ rfl
theorem ix_lst1 (x0 x1:D) (r:List D):ixD (.lst (x0 :: x1 :: r)) (.int 1)=.ok x1:=cS' _ 1 _ rfl
theorem ix_lst2 (x0 x1 x2:D) (r:List D):ixD (.lst (x0 :: x1 :: x2 :: r)) (.int 2)=.ok x2:=cS' _ 2 _ rfl
theorem ix_lst3 (x0 x1 x2 x3:D) (r:List D):ixD (.lst (x0 :: x1 :: x2 :: x3 :: r)) (.int 3)=.ok x3:=cS' _ 3 _ rfl
theorem el' {fe:DS->Res D} {rest:DS} {g:Int->D}:∀(ts:List Int),(∀t∈ts,fe (some (.val (.int t)) :: rest)=.ok (g t))->mapR (eltD (tgtN 0) fe (none :: rest)) (ts.map .int)=.ok (ts.map g)
 | [],_=>rfl
 | t :: ts,h=>by
  have e:eltD (tgtN 0) fe (none :: rest) (.int t)=.ok (g t):=by
   show (match fe (some (.val (.int t)) :: rest) with | .ok x=>Res.ok x | _=>.stuck)=_
   rw [h t (by simp)]
  rw [List.map_cons,mapR,e,Res.bind_ok,el' ts (fun u hu=>h u (List.mem_cons_of_mem _ hu)),Res.bind_ok]; rfl
theorem bl' {fe:DS->Res D} {fi:DS->Res (List D)} {fr:List Nat} {δ rest:DS} {ts:List Int} {g:Int->D} (hi:fi δ=.ok (ts.map .int)) (hr:compS 1 fr δ=none :: rest) (hl:ts.length<=sizeLine) (h:∀t∈ts,fe (some (.val (.int t)) :: rest)=.ok (g t)) :
  compD 1 fr (tgtN 0) fe fi δ=.ok (.lst (ts.map g)):=by
 unfold compD;rw [hi,Res.bind_ok,hr,el' ts h];unfold lstD;rw [Res.bind_ok,if_pos (by simpa using hl)]
theorem em' (lo:Int):∀(n:Nat),rangeD lo n=((List.range n).map fun k=>D.int (lo + (k:Nat)))
 | 0=>rfl
 | n + 1=>by
  rw [rangeD,em' (lo + 1) n,List.range_succ_eq_map,List.map_cons,List.map_map]
  congr 1
  ·simp
  ·refine List.map_congr_left fun k _=>?_;simp only [Function.comp,D.int.injEq]; omega
theorem cD' {b:DS->Out} {i:Nat} {f:Int->Int->Int} (st:Int->Option SV->DS) (h:∀acc z t,b ((st acc z).set i (some (.val (.int t))))=.nxt (st (f acc t) (some (.val (.int t))))) :
  ∀(ts:List Int) (acc:Int) (z:Option SV),∃z',forD (tgtN i) b (ts.map .int) (st acc z)=.nxt (st (ts.foldl f acc) z')
 | [],acc,z=>⟨z,rfl⟩
 | t :: ts,acc,z=>by
  obtain ⟨z',e⟩:=cD' st h ts (f acc t) (some (.val (.int t)));refine ⟨z',?_⟩;rw [List.map_cons,forD];show (match b ((st acc z).set i (some (.val (.int t)))) with | .nxt δ'=>_ | .cnt δ'=>_ | .brk δ'=>_ | .ret d=>_ | _=>_)=_
  rw [h];exact e
end DL
namespace Mine
open PySem DL
noncomputable def gN (n:Nat) (ts:List Int):Nat:=ts.foldl (fun s t=>Nat.gcd s t.natAbs) n
theorem bA' (n:Nat) (t:Int) (ts:List Int):gN n (t :: ts)=gN (Nat.gcd n t.natAbs) ts:=rfl
theorem fb':∀(ts:List Int) (n:Nat),ts.foldl cm (n:Int)=(gN n ts:Nat)
 | [],_=>rfl
 | t :: ts,n=>by
  rw [List.foldl_cons,bA',<- fb' ts (Nat.gcd n t.natAbs)]
  congr 1
theorem jf' (ts:List Int) (b:Int) (h:ts≠[]):ts.foldl cm b=(gN b.natAbs ts:Nat):=by
 cases ts with
 | nil=>exact (h rfl).elim
 | cons t ts=>rw [List.foldl_cons,bA',<- fb' ts]; congr 1
theorem en' (K:Int):∀(ts:List Int) (n:Nat),gN (K.natAbs * n) (ts.map (K * ·))=K.natAbs * gN n ts
 | [],_=>rfl
 | t :: ts,n=>by
  rw [List.map_cons,bA',bA',Int.natAbs_mul,Nat.gcd_mul_left,en' K ts]
theorem fF':∀(ts:List Int) (n:Nat),gN n ts ∣ n/\∀t∈ts,gN n ts ∣ t.natAbs
 | [],n=>⟨Nat.dvd_refl n,fun t h=>by cases h⟩
 | t :: ts,n=>by
  obtain ⟨a,b⟩:=fF' ts (Nat.gcd n t.natAbs);rw [bA'];refine ⟨Nat.dvd_trans a (Nat.gcd_dvd_left _ _),fun u hu=>?_⟩;rcases List.mem_cons.mp hu with z | z
  ·subst z; exact Nat.dvd_trans a (Nat.gcd_dvd_right _ _)
  ·exact b u z
theorem mg' {n:Nat} (ts:List Int) (h:0 < n):0 < gN n ts:=Nat.pos_of_dvd_of_pos (fF' ts n).1 h
structure Nf (ts:List Int) (b:Int):Prop where
 pos:0 < b
 one:gN b.natAbs ts=1
theorem nc' (ts:List Int) {b:Int} (hb:b≠0):∃(K:Int) (ts':List Int) (b':Int),K≠0/\ts=ts'.map (K * ·)/\b=K * b'/\Nf ts' b'/\ts'.length=ts.length:=by
 have hp:0 < gN b.natAbs ts:=mg' ts (by omega);obtain ⟨d1,d2⟩:=fF' ts b.natAbs;generalize hg:gN b.natAbs ts=g at *;have hK:∃K:Int,K.natAbs=g/\0 < K * b:=by
  rcases Int.lt_or_gt_of_ne hb with c | c
  ·refine ⟨-(g:Int),by omega,?_⟩;exact Int.mul_pos_of_neg_of_neg (by omega) c
  ·exact ⟨(g:Int),by omega,Int.mul_pos (by omega) c⟩
 obtain ⟨K,k1,k2⟩:=hK;have k0:K≠0:=by omega
 have kd:∀t:Int,g ∣ t.natAbs->K * (t / K)=t:=fun t h=>Int.mul_ediv_cancel' (by rw [<- Int.natAbs_dvd_natAbs,k1]; exact h);have eb:K * (b / K)=b:=kd b d1;have et:(ts.map (· / K)).map (K * ·)=ts:=by
  rw [List.map_map];have:∀t∈ts,((K * ·) ∘ (· / K)) t=t:=fun t ht=>kd t (d2 t ht);rw [List.map_congr_left this]; simp
 refine ⟨K,ts.map (· / K),b / K,k0,et.symm,eb.symm,⟨?_,?_⟩,by simp⟩
 ·rcases Int.lt_or_le 0 (b / K) with c | c
  ·exact c
  ·exfalso;have:K * b=K * K * (b / K):=by rw [Int.mul_assoc,eb]
   have h2:0<=K * K:=by
    rcases Int.le_total 0 K with z | z
    ·exact Int.mul_nonneg z z
    ·exact Int.mul_nonneg_of_nonpos_of_nonpos z z
   have:=Int.mul_nonpos_of_nonneg_of_nonpos h2 c;omega
 ·have e:=en' K (ts.map (· / K)) (b / K).natAbs;rw [et,<- Int.natAbs_mul,eb,hg,k1] at e;have:g * gN (b / K).natAbs (ts.map (· / K))=g * 1:=by omega
  exact Nat.eq_of_mul_eq_mul_left hp this
theorem ct' (K t:Int) (h:K≠0):Int.fdiv (K * t) K=t:=Int.mul_fdiv_cancel_left t h
theorem eo' {ts:List Int} {b K:Int} (h:Nf ts b) (hK:K≠0) (hts:ts≠[]):(ts.map (K * ·)).foldl cm (K * b)=(K.natAbs:Nat):=by
 rw [jf' _ _ (by simpa using hts),Int.natAbs_mul,en',h.one,Nat.mul_one]
theorem gt' (n:Nat):Nf (List.replicate n 0) 1:=by
 refine ⟨by decide,?_⟩;have:∀n,gN 1 (List.replicate n 0)=1:=by
  intro n
  induction n with
  | zero=>rfl
  | succ n ih=>rw [List.replicate_succ,bA']; exact ih
 exact this n
abbrev num (ts:List Int) (b:Int):D:=.tup [.tup (ts.map .int),.int b]
theorem gu' (x:Int) {y:Int} (h:y≠0):(Int.fmod x y).natAbs < y.natAbs:=by
 rw [Int.fmod_eq_emod];have a:=Int.emod_nonneg x h;have b:=Int.emod_lt_of_pos x (show 0 < (y.natAbs:Int) by omega);have e:x % (y.natAbs:Int)=x % y:=by
  rcases Int.natAbs_eq y with q | q
  ·rw [<- q]
  ·conv=>rhs; rw [q]
   rw [Int.emod_neg]
 rw [e] at b
 split
 ·omega
 ·rename_i c;have c1:¬(0<=y):=fun z=>c (.inl z);have c2:x % y≠0:=fun z=>c (.inr (Int.dvd_of_emod_eq_zero z));omega
theorem jg' (x y:Int):Int.gcd y (Int.fmod x y)=Int.gcd x y:=by
 have e:x=y * Int.fdiv x y + Int.fmod x y:=(Int.mul_fdiv_add_fmod x y).symm;refine Nat.dvd_antisymm ?_ ?_
 ·refine Int.dvd_gcd ?_ (Int.gcd_dvd_left y _);rw (config:={occs:=.pos [2]}) [e];exact Int.dvd_add (Int.dvd_trans (Int.gcd_dvd_left y _) (Int.dvd_mul_right ..)) (Int.gcd_dvd_right y _)
 ·refine Int.dvd_gcd (Int.gcd_dvd_right x y) ?_;have e2:Int.fmod x y=x - y * Int.fdiv x y:=by omega
  rw [e2];exact Int.dvd_sub (Int.gcd_dvd_left x y) (Int.dvd_trans (Int.gcd_dvd_right x y) (Int.dvd_mul_right ..))
theorem hD' (n:Nat) (h:n<=1000):rng1 [.int n]=.ok (((List.range n).map fun (k:Nat)=>(k:Int)).map .int):=by
 unfold rng1;have h1:-(2 ^ 62)<=(n:Int)/\(n:Int) < 2 ^ 62:=⟨by omega,by omega⟩;simp only [h1,and_self,if_true,Int.toNat_natCast,em',List.map_map,Function.comp_def,Int.zero_add]
theorem rngF {f:DS->Res (List D)} {δ:DS} {ds rs:List D} {g:List D->Res (List D)} (h:f δ=.ok ds) (h2:g ds=.ok rs):bindRg f g δ=.ok rs:=by
 unfold bindRg; rw [h,Res.bind_ok,h2]
theorem mh' {α β:Type} (c:β):∀l:List α,l.map (fun _=>c)=List.replicate l.length c
 | []=>rfl
 | _ :: l=>by rw [List.map_cons,mh' c l]; rfl
end Mine
namespace Mine
open PySem DL L2
abbrev TI (l:List Int):D:=.tup (l.map .int)
abbrev RT (rs:List (List Int)):D:=.tup (rs.reverse.map TI)
noncomputable def addL (a b:List Int):List Int:=List.zipWith (fun x y=>x + y) a b
noncomputable def frH (x:List Int):List Int:=x.take (x.length / 2)
noncomputable def bhH (x:List Int):List Int:=x.drop (x.length / 2)
noncomputable def pt:List (List Int)->List Int->List Int->List Int
 | [],x,y=>[x.headD 0 * y.headD 0]
 | r :: rs,x,y=>addL (pt rs (frH x) (frH y)) (pt rs (pt rs (bhH x) (bhH y)) r) ++ addL (pt rs (frH x) (bhH y)) (pt rs (bhH x) (frH y))
noncomputable def lt:List (List Int)->List Int->List Int->List Int
 | [],x,y=>[x.headD 0 * y.headD 0]
 | r :: rs,x,y=>addL (lt rs (frH x) (frH y)) (lt rs r (lt rs (bhH x) (bhH y))) ++ addL (lt rs (frH x) (bhH y)) (lt rs (bhH x) (frH y))
noncomputable def Sc:List (List Int)->Prop
 | []=>True
 | r :: rs=>r.length=2 ^ rs.length/\Sc rs
theorem eq':∀(a b:List Int),addL a b=addL b a
 | [],[]=>rfl
 | [],_ :: _=>rfl
 | _ :: _,[]=>rfl
 | x :: a,y :: b=>by
  have:=eq' a b;unfold addL at this ⊢;rw [List.zipWith_cons_cons,List.zipWith_cons_cons,this,Int.add_comm]
theorem bi' {a b:List Int} {n:Nat} (h1:a.length=n) (h2:b.length=n):(addL a b).length=n:=by unfold addL; rw [List.length_zipWith]; omega
theorem aU' {x:List Int} {k:Nat} (h:x.length=2 ^ (k + 1)):(frH x).length=2 ^ k:=by
 unfold frH; rw [List.length_take]; have:2 ^ (k + 1)=2 ^ k * 2:=Nat.pow_succ ..; omega
theorem aX' {x:List Int} {k:Nat} (h:x.length=2 ^ (k + 1)):(bhH x).length=2 ^ k:=by
 unfold bhH; rw [List.length_drop]; have:2 ^ (k + 1)=2 ^ k * 2:=Nat.pow_succ ..; omega
theorem aP':∀(rs:List (List Int)) (x y:List Int),Sc rs->x.length=2 ^ rs.length->y.length=2 ^ rs.length->(pt rs x y).length=2 ^ rs.length
 | [],_,_,_,_,_=>rfl
 | r :: rs,x,y,S,hx,hy=>by
  obtain ⟨hr,S⟩:=S;have a:=aU' hx;have b:=aX' hx;have c:=aU' hy;have d:=aX' hy;rw [pt,List.length_append,bi' (aP' rs _ _ S a c) (aP' rs _ _ S (aP' rs _ _ S b d) hr),bi' (aP' rs _ _ S a d) (aP' rs _ _ S b c)];show _=2 ^ (rs.length + 1);rw [Nat.pow_succ]; omega
theorem cT':∀(rs:List (List Int)) (x y:List Int),pt rs x y=pt rs y x
 | [],x,y=>by rw [pt,pt,Int.mul_comm]
 | r :: rs,x,y=>by
  rw [pt,pt,cT' rs (frH x) (frH y),cT' rs (bhH x) (bhH y),cT' rs (frH x) (bhH y),cT' rs (bhH x) (frH y),eq' (pt rs (bhH y) (frH x))]
theorem cu':∀(rs:List (List Int)) (x y:List Int),lt rs x y=pt rs x y
 | [],x,y=>rfl
 | r :: rs,x,y=>by
  rw [lt,pt,cu' rs (frH x) (frH y),cu' rs (bhH x) (bhH y),cu' rs r,cu' rs (frH x) (bhH y),cu' rs (bhH x) (frH y),cT' rs r]
noncomputable def Bd (n:Nat) (l:List Int):Prop:=∀t∈l,t.natAbs < 2 ^ n
theorem Bd.mono {n m:Nat} {l:List Int} (h:Bd n l) (e:n<=m):Bd m l:=fun t ht=>Nat.lt_of_lt_of_le (h t ht) (Nat.pow_le_pow_right (by decide) e)
theorem Bd.fr {n:Nat} {l:List Int} (h:Bd n l):Bd n (frH l):=fun t ht=>h t (List.mem_of_mem_take ht)
theorem Bd.bh {n:Nat} {l:List Int} (h:Bd n l):Bd n (bhH l):=fun t ht=>h t (List.mem_of_mem_drop ht)
theorem Bd.head {n:Nat} {l:List Int} (h:Bd n l):(l.headD 0).natAbs < 2 ^ n:=by
 cases l with
 | nil=>exact Nat.two_pow_pos n
 | cons a l=>exact h a (by simp)
theorem fG' {a b:Int} {p q:Nat} (h1:a.natAbs < 2 ^ p) (h2:b.natAbs < 2 ^ q):(a * b).natAbs < 2 ^ (p + q):=by
 rw [Int.natAbs_mul,Nat.pow_add];exact Nat.mul_lt_mul'' h1 h2
theorem Bd.add {n:Nat}:∀{a b:List Int},Bd n a->Bd n b->Bd (n + 1) (addL a b)
 | [],_,_,_=>fun t ht=>by simp [addL] at ht
 | _ :: _,[],_,_=>fun t ht=>by simp [addL] at ht
 | x :: a,y :: b,h1,h2=>fun t ht=>by
  unfold addL at ht;rw [List.zipWith_cons_cons] at ht;rcases List.mem_cons.mp ht with z | z
  ·have e1:=h1 x (by simp);have e2:=h2 y (by simp);rw [z,Nat.pow_succ]; omega
  ·exact Bd.add (fun t ht=>h1 t (List.mem_cons_of_mem _ ht)) (fun t ht=>h2 t (List.mem_cons_of_mem _ ht)) t z
theorem Bd.app {n:Nat} {a b:List Int} (h1:Bd n a) (h2:Bd n b):Bd n (a ++ b):=fun t ht=>(List.mem_append.mp ht).elim (h1 t) (h2 t)
theorem dA' (ds:List D) (k:Nat):cutD (.tup ds) none (some (k:Int))=.ok (.tup (ds.take k)):=by
 show Res.ok (D.tup (cutL ds none (some (k:Int))))=_;unfold cutL;rw [HT.sIx_nat,HT.sIx_none,List.drop_zero,Nat.sub_zero]
 congr 2
 rcases Nat.le_total k ds.length with h | h
 ·rw [Nat.min_eq_left h]
 ·rw [Nat.min_eq_right h,List.take_of_length_le h,List.take_length]
theorem jh' (ds:List D) (k:Nat):cutD (.tup ds) (some (k:Int)) none=.ok (.tup (ds.drop k)):=by
 show Res.ok (D.tup (cutL ds (some (k:Int)) none))=_;unfold cutL;rw [HT.sIx_nat,HT.sIx_none]
 congr 2
 rcases Nat.le_total k ds.length with h | h
 ·rw [Nat.min_eq_left h,List.take_of_length_le (by rw [List.length_drop]; exact Nat.le_refl _)]
 ·rw [Nat.min_eq_right h,List.drop_length,List.drop_eq_nil_of_le h]; simp
theorem dB' (r:List Int) (rs:List (List Int)):cutD (RT (r :: rs)) none (some (-1))=.ok (RT rs):=by
 show Res.ok (D.tup (cutL ((r :: rs).reverse.map TI) none (some (-1))))=_;unfold cutL;have e:HT.sIx ((r :: rs).reverse.map TI).length ((r :: rs).reverse.map TI).length (some (-1))=rs.length:=by
  have hl:((r :: rs).reverse.map TI).length=rs.length + 1:=by simp
  rw [hl];unfold HT.sIx;dsimp only;rw [if_pos (by decide)]; omega
 rw [e,HT.sIx_none,List.drop_zero,Nat.sub_zero,List.reverse_cons,List.map_append]
 congr 2
 rw [List.take_append_of_le_length (by simp),List.take_of_length_le (by simp)]
theorem hE' (r:List Int) (rs:List (List Int)):ixD (RT (r :: rs)) (.int (-1))=.ok (TI r):=by
 have e:atI ((r :: rs).reverse.map TI) (-1)=some (TI r):=by
  unfold atI ixN;have hl:((r :: rs).reverse.map TI).length=rs.length + 1:=by simp
  rw [hl,if_neg (by decide),if_pos (by omega)];have e2:((-1:Int) + ((rs.length + 1:Nat):Int)).toNat=rs.length:=by omega
  rw [e2];simp
 show (match atI ((r :: rs).reverse.map TI) (-1) with | some d=>Res.ok d | none=>.stuck)=_
 rw [e]
theorem cU' (rs:List (List Int)):lenG [RT rs]=.ok (.int rs.length):=by
 rw [len_tup]; simp
theorem dC' (n:Nat):fdivD (.int (n:Int)) (.int 2)=.ok (.int ((n / 2:Nat):Int)):=by
 rw [cs' (by decide) (Nat.lt_of_lt_of_le (show Int.natAbs 2 < 2 ^ 2 by decide) (Nat.pow_le_pow_right (by decide) (by decide)))]
 congr 2
 rw [Int.fdiv_eq_ediv_of_nonneg _ (by decide)]; omega
theorem hF' (l:List Int) (k:Nat):cutD (TI l) none (some (k:Int))=.ok (TI (l.take k)):=by rw [dA',<- List.map_take]
theorem hG' (l:List Int) (k:Nat):cutD (TI l) (some (k:Int)) none=.ok (TI (l.drop k)):=by rw [jh',<- List.map_drop]
theorem dm' {fe:DS->Res D} {rest:DS} {g:Int->Int->D}:∀(xs ys:List Int),(∀x∈xs,∀y∈ys,fe (some (.val (.int x)) :: some (.val (.int y)) :: rest)=.ok (g x y)) ->
  mapR (eltD (tupTgt [0,1]) fe (none :: none :: rest)) (zipD (xs.map .int) (ys.map .int))=.ok (List.zipWith g xs ys)
 | [],_,_=>rfl
 | _ :: _,[],_=>rfl
 | x :: xs,y :: ys,h=>by
  have e:eltD (tupTgt [0,1]) fe (none :: none :: rest) (.tup [.int x,.int y])=.ok (g x y):=by
   show (match fe (some (.val (.int x)) :: some (.val (.int y)) :: rest) with | .ok z=>Res.ok z | _=>.stuck)=_
   rw [h x (by simp) y (by simp)]
  have ih:=dm' xs ys fun u hu v hv=>h u (List.mem_cons_of_mem _ hu) v (List.mem_cons_of_mem _ hv);show mapR _ (D.tup [.int x,.int y] :: zipD (xs.map .int) (ys.map .int))=_;rw [mapR,e,Res.bind_ok,ih,Res.bind_ok]; rfl
theorem cv' {fe:DS->Res D} {fi:DS->Res (List D)} {fr:List Nat} {δ rest:DS} {xs ys:List Int} {g:Int->Int->D} (hi:fi δ=.ok (zipD (xs.map .int) (ys.map .int))) (hr:compS 2 fr δ=none :: none :: rest) (hl:xs.length<=sizeLine)
  (h:∀x∈xs,∀y∈ys,fe (some (.val (.int x)) :: some (.val (.int y)) :: rest)=.ok (g x y)):compD 2 fr (tupTgt [0,1]) fe fi δ=.ok (.lst (List.zipWith g xs ys)):=by
 unfold compD;rw [hi,Res.bind_ok,hr,dm' xs ys h];unfold lstD;rw [Res.bind_ok,if_pos (by rw [List.length_zipWith]; omega)]
theorem zipI (xs ys:List Int):(List.zipWith (fun x y=>D.int (x + y)) xs ys)=(addL xs ys).map .int:=by
 unfold addL; rw [List.map_zipWith]
theorem fH' {l:List Int} (h:l≠[]):ixD (TI l) (.int 0)=.ok (.int (l.headD 0)):=by
 cases l with
 | nil=>exact (h rfl).elim
 | cons a l=>exact ix_tup0 _ _
theorem be' {l:List Int} {k:Nat} (h:l.length=2 ^ k):l≠[]:=fun z=>by rw [z] at h; have:=Nat.two_pow_pos k; simp at h; omega
theorem fI' {a b:List Int} (h:a≠[]) (h2:a.length + b.length<=1000):addD (TI a) (TI b)=.ok (TI (a ++ b)):=by
 show (if (a.map D.int).length + (b.map D.int).length<=sizeLine then Res.ok (D.tup (a.map D.int ++ b.map D.int)) else Res.stuck)=_
 have e:1000<=sizeLine:=by decide
 rw [if_pos (by rw [List.length_map,List.length_map]; omega),<- List.map_append]
theorem ji' (k:Int) (l:List Int):(l.map fun t=>D.int (k * t))=(l.map (k * ·)).map .int:=by rw [List.map_map]; rfl
noncomputable def sumL (x y:List Int) (bx b_y:Int):List Int:=List.zipWith (fun a c=>a * b_y + c * bx) x y
theorem dn' (x y:List Int) (bx b_y:Int):addL (x.map (b_y * ·)) (y.map (bx * ·))=sumL x y bx b_y:=by
 unfold addL sumL;rw [List.zipWith_map]
 congr 1
 funext a c
 rw [Int.mul_comm b_y,Int.mul_comm bx]
theorem kL' {x y:List Int} {n:Nat} (h1:x.length=n) (h2:y.length=n) (bx b_y:Int):(sumL x y bx b_y).length=n:=by unfold sumL; rw [List.length_zipWith]; omega
theorem er' {x:List Int} {n p:Nat} {k:Int} (h:Bd n x) (hk:k.natAbs < 2 ^ p):Bd (p + n) (x.map (k * ·)):=fun t ht=>by
 obtain ⟨u,hu,rfl⟩:=List.mem_map.mp ht;exact fG' hk (h u hu)
theorem jO':∀(ts:List Int),gN 1 ts=1
 | []=>rfl
 | t :: ts=>by rw [bA',Nat.gcd_one_left]; exact jO' ts
theorem mi' (ts:List Int):Nf ts 1:=⟨by decide,jO' ts⟩
theorem hH':∀(ts:List Int) (n:Nat),gN n (ts.map fun t=>-t)=gN n ts
 | [],_=>rfl
 | t :: ts,n=>by rw [List.map_cons,bA',bA',Int.natAbs_neg,hH' ts]
theorem mj' {ts:List Int} {b:Int} (h:Nf ts b):Nf (ts.map fun t=>-t) b:=⟨h.pos,by rw [hH']; exact h.one⟩
theorem fJ' {x:List Int} {n:Nat} (h:Bd n x):Bd n (x.map fun t=>-t):=fun t ht=>by
 obtain ⟨u,hu,rfl⟩:=List.mem_map.mp ht;rw [Int.natAbs_neg]; exact h u hu
theorem kM' (x:List Int):x.map ((-1:Int) * ·)=x.map fun t=>-t:=List.map_congr_left fun t _=>by omega
theorem fK' {t:TGD} {b:DS->Out} {P:DS->Prop}:∀(ds:List D),(∀d∈ds,∀δ,P δ->∃δ1 δ2,t d δ=some δ1/\b δ1=.nxt δ2/\P δ2)->∀δ,P δ->∃δ',forD t b ds δ=.nxt δ'/\P δ'
 | [],_,δ,h=>⟨δ,rfl,h⟩
 | d :: ds,hs,δ,h=>by
  obtain ⟨δ1,δ2,e1,e2,h2⟩:=hs d (by simp) δ h;obtain ⟨δ',e3,h3⟩:=fK' ds (fun u hu=>hs u (List.mem_cons_of_mem _ hu)) δ2 h2;refine ⟨δ',?_,h3⟩;rw [forD,e1];dsimp only;rw [e2];exact e3
theorem et':∀(bs:List Bool),bools (bs.map .bl)=some bs
 | []=>rfl
 | b :: bs=>by rw [List.map_cons,bools,et' bs]; rfl
theorem jP' (bs:List Bool):allG [.lst (bs.map .bl)]=.ok (.bl (bs.all id)):=by
 show (match bools (bs.map .bl) with | some bs=>Res.ok (D.bl (bs.all id)) | none=>.stuck)=_
 rw [et']
noncomputable def zA (ns:List Int):Bool:=ns.all fun t=>decide (t=0)
theorem fL' {r m:Int} (hr:0<=r) (h1:r * r < m) (h2:m < (r + 1) * (r + 1)):∀(n:Nat) (a b:Int),0<=a->0<=b->b.toNat<=n->a * a=b * b * m->b=0
 | 0,a,b,_,hb,hn,_=>by omega
 | n + 1,a,b,ha,hb,hn,e=>by
  by_cases c:b=0
  ·exact c
  exfalso;have bp:0 < b:=by omega
  have bb:0 < b * b:=Int.mul_pos bp bp;have lo:r * b < a:=by
   rcases Int.lt_or_le (r * b) a with z | z
   ·exact z
   ·exfalso;have q:=Int.mul_le_mul z z ha (Int.mul_nonneg hr hb);have e1:r * b * (r * b)=b * b * (r * r):=by rw [Int.mul_assoc,Int.mul_left_comm b r b,<- Int.mul_assoc,Int.mul_comm]
    have:=Int.mul_lt_mul_of_pos_left h1 bb;omega
  have hi:a < (r + 1) * b:=by
   rcases Int.lt_or_le a ((r + 1) * b) with z | z
   ·exact z
   ·exfalso;have q:=Int.mul_le_mul z z (Int.mul_nonneg (by omega) hb) ha;have e1:(r + 1) * b * ((r + 1) * b)=b * b * ((r + 1) * (r + 1)):=by rw [Int.mul_assoc,Int.mul_left_comm b (r + 1) b,<- Int.mul_assoc,Int.mul_comm]
    have:=Int.mul_lt_mul_of_pos_left h2 bb;omega
  have hi':a < r * b + b:=by rw [Int.add_mul,Int.one_mul] at hi; exact hi
  have ma:r * a < m * b:=by
   rcases Int.lt_or_le (r * a) (m * b) with z | z
   ·exact z
   ·exfalso;have ap:0 < a:=by
     have:=Int.mul_nonneg hr hb; omega
    have q1:=Int.mul_le_mul_of_nonneg_right z hb;have q2:=Int.mul_lt_mul_of_pos_left lo ap;have e1:m * b * b=b * b * m:=by rw [Int.mul_assoc,Int.mul_comm]
    have e2:r * a * b=a * (r * b):=by rw [Int.mul_comm r a,Int.mul_assoc]
    omega
  have step:(m * b - r * a) * (m * b - r * a)=(a - r * b) * (a - r * b) * m:=by
   have x1:(m * b - r * a) * (m * b - r * a)=m * (b * b * m) - 2 * (m * (r * (a * b))) + r * (r * (a * a)):=by
    simp only [Int.sub_mul,Int.mul_sub];have t1:m * b * (m * b)=m * (b * b * m):=by
     rw [Int.mul_assoc,Int.mul_left_comm b m b,Int.mul_comm (b * b) m]
    have t2:m * b * (r * a)=m * (r * (a * b)):=by rw [Int.mul_assoc,Int.mul_left_comm b r a,Int.mul_comm b a]
    have t3:r * a * (m * b)=m * (r * (a * b)):=by rw [Int.mul_left_comm,Int.mul_assoc,<- Int.mul_assoc r a b,Int.mul_assoc r a b]
    have t4:r * a * (r * a)=r * (r * (a * a)):=by rw [Int.mul_assoc,Int.mul_left_comm a r a]
    rw [t1,t2,t3,t4]; omega
   have x2:(a - r * b) * (a - r * b) * m=m * (a * a) - 2 * (m * (r * (a * b))) + r * (r * (b * b * m)):=by
    have t0:(a - r * b) * (a - r * b)=a * a - 2 * (r * (a * b)) + r * (r * (b * b)):=by
     simp only [Int.sub_mul,Int.mul_sub];have u1:a * (r * b)=r * (a * b):=Int.mul_left_comm a r b;have u2:r * b * a=r * (a * b):=by rw [Int.mul_assoc,Int.mul_comm b a]
     have u3:r * b * (r * b)=r * (r * (b * b)):=by rw [Int.mul_assoc,Int.mul_left_comm b r b]
     rw [u1,u2,u3]; omega
    rw [t0,Int.add_mul,Int.sub_mul];have v1:a * a * m=m * (a * a):=Int.mul_comm _ _;have v2:2 * (r * (a * b)) * m=2 * (m * (r * (a * b))):=by rw [Int.mul_assoc,Int.mul_comm (r * (a * b)) m]
    have v3:r * (r * (b * b)) * m=r * (r * (b * b * m)):=by rw [Int.mul_assoc,Int.mul_assoc r (b * b) m]
    rw [v1,v2,v3]
   rw [x1,x2,<- e]
  have:=fL' hr h1 h2 n (m * b - r * a) (a - r * b) (by omega) (by omega) (by omega) step;omega
theorem nosq {r m:Int} (hr:0<=r) (h1:r * r < m) (h2:m < (r + 1) * (r + 1)) {a b:Int} (e:a * a=b * b * m):b=0:=by
 have ea:(a.natAbs:Int) * (a.natAbs:Int)=a * a:=by rw [<- Int.natCast_mul,Int.natAbs_mul_self]
 have eb:(b.natAbs:Int) * (b.natAbs:Int)=b * b:=by rw [<- Int.natCast_mul,Int.natAbs_mul_self]
 have:=fL' hr h1 h2 b.natAbs (a.natAbs:Int) (b.natAbs:Int) (by omega) (by omega) (by omega) (by rw [ea,eb]; exact e);omega
end Mine
namespace Mine
open Lean.Grind
structure OF where
 C:Type
 fld:Field C
 le:LE C
 lt:LT C
 llt:Std.LawfulOrderLT C
 lin:Std.IsLinearOrder C
 ord:OrderedRing C
instance ofF (F:OF):Field F.C:=F.fld
instance ofLE (F:OF):LE F.C:=F.le
instance ofLT (F:OF):LT F.C:=F.lt
instance ofLLT (F:OF):Std.LawfulOrderLT F.C:=F.llt
instance ofLin (F:OF):Std.IsLinearOrder F.C:=F.lin
instance ofOrd (F:OF):OrderedRing F.C:=F.ord
instance ofNC (F:OF):NatCast F.C:=F.fld.toCommRing.toRing.toSemiring.natCast
instance ofIC (F:OF):IntCast F.C:=F.fld.toCommRing.toRing.intCast
section
variable {F:OF}
theorem mulP {a b:F.C} (h1:0 < a) (h2:0 < b):0 < a * b:=by
 have:=OrderedRing.mul_lt_mul_of_pos_left h1 h2
 grind
theorem bD' {a b:F.C} (h1:0<=a) (h2:0<=b):0<=a * b:=by
 by_cases h:a=0
 ·rw [h,Semiring.zero_mul]; exact Std.le_refl _
 ·by_cases h':b=0
  ·rw [h',Semiring.mul_zero]; exact Std.le_refl _
  ·have:=mulP (a:=a) (b:=b) (by grind) (by grind)
   grind
theorem sqNN (a:F.C):0<=a * a:=by
 by_cases h:0<=a
 ·exact bD' h h
 ·have:=bD' (a:=-a) (b:=-a) (by grind) (by grind)
  grind
theorem sqP {a:F.C} (h:a≠0):0 < a * a:=by
 by_cases c:0 < a
 ·exact mulP c c
 ·have:=mulP (a:=-a) (b:=-a) (by grind) (by grind)
  grind
theorem eu' {a b c d:F.C} (a0:0<=a) (h1:a < b) (c0:0<=c) (h2:c < d):a * c < b * d:=by
 have q1:=bD' (a:=b - a) (b:=c) (by grind) c0;have q2:=mulP (a:=b) (b:=d - c) (by grind) (by grind)
 grind
theorem sqL {p q:F.C} (h:0 < p) (e:q * q < p * p):0 < p + q:=by
 by_cases c:0 < p + q
 ·exact c
 ·exfalso;have q1:=bD' (a:=-q - p) (b:=-q + p) (by grind) (by grind)
  grind
theorem mul0 {a b:F.C} (h:a * b=0):a=0\/b=0:=by
 by_cases c:a=0
 ·exact .inl c
 ·right; grind
end
open Classical in
noncomputable def sgn {F:OF} (x:F.C):Int:=if x=0 then 0 else if 0 < x then 1 else -1
section
variable {F:OF}
theorem dc' (x:F.C):(x=0/\sgn x=0)\/(0 < x/\sgn x=1)\/(x < 0/\sgn x=-1):=by
 unfold sgn
 by_cases h:x=0
 ·exact .inl ⟨h,by rw [if_pos h]⟩
 ·by_cases c:0 < x
  ·exact .inr (.inl ⟨c,by rw [if_neg h,if_pos c]⟩)
  ·exact .inr (.inr ⟨by grind,by rw [if_neg h,if_neg c]⟩)
theorem sgn_0 {x:F.C}:sgn x=0↔x=0:=by rcases dc' x with ⟨h,e⟩ | ⟨h,e⟩ | ⟨h,e⟩ <;> constructor <;> grind
theorem sgn_p {x:F.C}:sgn x=1↔0 < x:=by rcases dc' x with ⟨h,e⟩ | ⟨h,e⟩ | ⟨h,e⟩ <;> constructor <;> grind
theorem sgn_n {x:F.C}:sgn x=-1↔x < 0:=by rcases dc' x with ⟨h,e⟩ | ⟨h,e⟩ | ⟨h,e⟩ <;> constructor <;> grind
end
structure Ext {R:Type} (r:R) where
 a:R
 b:R
namespace Ext
section
variable {F:OF} {r:F.C}
theorem eqs {x y:Ext r} (h1:x.a=y.a) (h2:x.b=y.b):x=y:=by
 cases x; cases y; cases h1; cases h2; rfl
instance:Add (Ext r):=⟨fun x y=>⟨x.a + y.a,x.b + y.b⟩⟩
instance:Mul (Ext r):=⟨fun x y=>⟨x.a * y.a + x.b * y.b * r,x.a * y.b + x.b * y.a⟩⟩
instance:Neg (Ext r):=⟨fun x=>⟨-x.a,-x.b⟩⟩
instance:Sub (Ext r):=⟨fun x y=>⟨x.a - y.a,x.b - y.b⟩⟩
instance:NatCast (Ext r):=⟨fun n=>⟨(n:F.C),0⟩⟩
instance:IntCast (Ext r):=⟨fun n=>⟨(n:F.C),0⟩⟩
instance (n:Nat):OfNat (Ext r) n:=⟨⟨OfNat.ofNat n,0⟩⟩
instance:SMul Nat (Ext r):=⟨fun n x=>(n:Ext r) * x⟩
instance:SMul Int (Ext r):=⟨fun n x=>(n:Ext r) * x⟩
noncomputable def pw (x:Ext r):Nat->Ext r
 | 0=>1
 | n + 1=>pw x n * x
instance:HPow (Ext r) Nat (Ext r):=⟨pw⟩
theorem bE' (x y:Ext r):(x + y).a=x.a + y.a:=rfl
theorem bF' (x y:Ext r):(x + y).b=x.b + y.b:=rfl
theorem ca' (x y:Ext r):(x * y).a=x.a * y.a + x.b * y.b * r:=rfl
theorem cc' (x y:Ext r):(x * y).b=x.a * y.b + x.b * y.a:=rfl
theorem fc' (x:Ext r):(-x).a=-x.a:=rfl
theorem fd' (x:Ext r):(-x).b=-x.b:=rfl
theorem kN' (x y:Ext r):(x - y).a=x.a - y.a:=rfl
theorem mk' (x y:Ext r):(x - y).b=x.b - y.b:=rfl
theorem ml' (n:Nat):((n:Ext r)).a=(n:F.C):=rfl
theorem ey' (n:Int):((n:Ext r)).a=(n:F.C):=rfl
theorem gv' (n:Int):((n:Ext r)).b=0:=rfl
theorem of_a (n:Nat):(OfNat.ofNat n:Ext r).a=(OfNat.ofNat n:F.C):=rfl
theorem of_b (n:Nat):(OfNat.ofNat n:Ext r).b=0:=rfl
theorem cw':(1:Ext r).a=1:=rfl
theorem dd':(1:Ext r).b=0:=rfl
theorem bu':(0:Ext r).a=0:=rfl
theorem bS':(0:Ext r).b=0:=rfl
instance:Semiring (Ext r) where
 add_zero x:=eqs (by rw [bE',bu'] <;> grind) (by rw [bF',bS'] <;> grind)
 add_comm x y:=eqs (by rw [bE',bE'] <;> grind) (by rw [bF',bF'] <;> grind)
 add_assoc x y z:=eqs (by simp only [bE'] <;> grind) (by simp only [bF'] <;> grind)
 mul_assoc x y z:=eqs (by simp only [ca',cc'] <;> grind) (by simp only [ca',cc'] <;> grind)
 mul_one x:=eqs (by simp only [ca',cw',dd'] <;> grind) (by simp only [cc',cw',dd'] <;> grind)
 one_mul x:=eqs (by simp only [ca',cw',dd'] <;> grind) (by simp only [cc',cw',dd'] <;> grind)
 left_distrib x y z:=eqs (by simp only [ca',bE',bF'] <;> grind) (by simp only [cc',bE',bF'] <;> grind)
 right_distrib x y z:=eqs (by simp only [ca',bE',bF'] <;> grind) (by simp only [cc',bE',bF'] <;> grind)
 zero_mul x:=eqs (by simp only [ca',bu',bS'] <;> grind) (by simp only [cc',bu',bS'] <;> grind)
 mul_zero x:=eqs (by simp only [ca',bu',bS'] <;> grind) (by simp only [cc',bu',bS'] <;> grind)
 pow_zero x:=rfl
 pow_succ x n:=rfl
 ofNat_succ n:=eqs (by rw [bE',of_a,of_a,cw']; exact Semiring.ofNat_succ (α:=F.C) n) (by rw [bF',of_b,of_b,dd'] <;> grind)
 ofNat_eq_natCast n:=eqs (by rw [of_a,ml']; exact Semiring.ofNat_eq_natCast (α:=F.C) n) rfl
 nsmul_eq_natCast_mul n x:=rfl
instance:Ring (Ext r) where
 neg_add_cancel x:=eqs (by rw [bE',fc',bu'] <;> grind) (by rw [bF',fd',bS'] <;> grind)
 sub_eq_add_neg x y:=eqs (by rw [bE',fc',kN'] <;> grind) (by rw [bF',fd',mk'] <;> grind)
 neg_zsmul i x:=by
  show ((-i:Int):Ext r) * x=-((i:Ext r) * x);refine eqs ?_ ?_
  ·rw [fc',ca',ca',ey',ey',gv',gv',Ring.intCast_neg (α:=F.C)] <;> grind
  ·rw [fd',cc',cc',ey',ey',gv',gv',Ring.intCast_neg (α:=F.C)] <;> grind
 zsmul_natCast_eq_nsmul n x:=by
  show (((n:Int)):Ext r) * x=(n:Ext r) * x;have e:(((n:Int)):Ext r)=(n:Ext r):=eqs (by rw [ey',ml']; exact Ring.intCast_natCast (α:=F.C) n) rfl;rw [e]
 intCast_ofNat n:=eqs (by rw [ey',of_a]; exact Ring.intCast_ofNat (α:=F.C) n) rfl
 intCast_neg i:=eqs (by rw [ey',fc',ey']; exact Ring.intCast_neg (α:=F.C) i) (by rw [gv',fd',gv'] <;> grind)
instance:CommRing (Ext r) where
 mul_comm x y:=eqs (by rw [ca',ca'] <;> grind) (by rw [cc',cc'] <;> grind)
noncomputable def nrm (x:Ext r):F.C:=x.a * x.a - x.b * x.b * r
theorem nrm_mul (x y:Ext r):nrm (x * y)=nrm x * nrm y:=by unfold nrm; rw [ca',cc']; grind
theorem nrm_0 (hn:∀z:F.C,z * z≠r) {x:Ext r} (h:nrm x=0):x=0:=by
 unfold nrm at h
 by_cases hb:x.b=0
 ·have:x.a=0:=by rcases mul0 (a:=x.a) (b:=x.a) (by grind) with z | z <;> exact z
  exact eqs this hb
 ·exfalso;exact hn (x.a / x.b) (by grind)
instance:Inv (Ext r):=⟨fun x=>⟨x.a / nrm x,-x.b / nrm x⟩⟩
instance:Div (Ext r):=⟨fun x y=>x * y⁻¹⟩
theorem jj' (x:Ext r):(x⁻¹).a=x.a / nrm x:=rfl
theorem jk' (x:Ext r):(x⁻¹).b=-x.b / nrm x:=rfl
noncomputable def zpw (x:Ext r):Int->Ext r
 | .ofNat n=>pw x n
 | .negSucc n=>(pw x (n + 1))⁻¹
instance:HPow (Ext r) Int (Ext r):=⟨zpw⟩
theorem kO':((0:Ext r))⁻¹=0:=eqs (by rw [jj',bu']; grind) (by rw [jk',bS']; grind)
theorem fe' (hn:∀z:F.C,z * z≠r) {x:Ext r} (h:x≠0):x * x⁻¹=1:=by
 have n0:nrm x≠0:=fun z=>h (nrm_0 hn z);refine eqs ?_ ?_
 ·rw [ca',jj',jk',cw']; unfold nrm at *; grind
 ·rw [cc',jj',jk',dd']; unfold nrm at *; grind
theorem kP' (hn:∀z:F.C,z * z≠r) (x:Ext r):(x⁻¹)⁻¹=x:=by
 by_cases h:x=0
 ·rw [h,kO',kO']
 ·have e1:=fe' hn h;have h2:x⁻¹≠0:=fun z=>by
   rw [z] at e1;have:(0:Ext r)=1:=by rw [<- e1,Semiring.mul_zero]
   have:=congrArg Ext.a this;rw [bu',cw'] at this;exact Field.zero_ne_one this
  have e2:=fe' hn h2
  calc (x⁻¹)⁻¹=(x * x⁻¹) * (x⁻¹)⁻¹:=by rw [e1,Semiring.one_mul]
   _=x * (x⁻¹ * (x⁻¹)⁻¹):=Semiring.mul_assoc ..
   _=x:=by rw [e2,Semiring.mul_one]
theorem inv_1:((1:Ext r))⁻¹=1:=by
 refine eqs ?_ ?_
 ·rw [jj',cw']; unfold nrm; rw [cw',dd']; grind
 ·rw [jk',dd']; unfold nrm; rw [cw',dd']; grind
@[reducible] def fieldE (hn:∀z:F.C,z * z≠r):Field (Ext r) where
 div_eq_mul_inv _ _:=rfl
 zero_ne_one h:=by
  have:=congrArg Ext.a h;rw [bu',cw'] at this;exact Field.zero_ne_one this
 inv_zero:=kO'
 mul_inv_cancel:=fe' hn
 zpow_zero _:=rfl
 zpow_succ _ _:=rfl
 zpow_neg x n:=by
  show zpw x (-n)=(zpw x n)⁻¹
  match n with
  | .ofNat 0=>exact inv_1.symm
  | .ofNat (n + 1)=>rfl
  | .negSucc n=>exact (kP' hn _).symm
noncomputable def Pos (x:Ext r):Prop:=(0 < nrm x/\0 < x.a)\/(nrm x < 0/\0 < x.b)
instance:LT (Ext r):=⟨fun x y=>Pos (y - x)⟩
instance:LE (Ext r):=⟨fun x y=>x=y\/Pos (y - x)⟩
theorem hI' (x:Ext r):nrm (-x)=nrm x:=by unfold nrm; rw [fc',fd']; grind
theorem jl':nrm (0:Ext r)=0:=by unfold nrm; rw [bu',bS']; grind
theorem jm':¬Pos (0:Ext r):=fun h=>by unfold Pos at h; rw [jl'] at h; grind
theorem hJ' {x:Ext r} (h:Pos x):¬Pos (-x):=fun z=>by
 unfold Pos at h z; rw [hI',fc',fd'] at z;rcases h with h | h <;> rcases z with z | z <;> grind
theorem tri (hn:∀z:F.C,z * z≠r) (hr:0 < r) (x:Ext r):x=0\/Pos x\/Pos (-x):=by
 by_cases h:x=0
 ·exact .inl h
 ·right
  have n0:nrm x≠0:=fun z=>h (nrm_0 hn z);unfold Pos;rw [hI',fc',fd']
  by_cases c:0 < nrm x
  ·have:x.a≠0:=fun z=>by
    have:=bD' (sqNN x.b) (Std.le_of_lt hr);unfold nrm at c; rw [z] at c; grind
   by_cases d:0 < x.a
   ·exact .inl (.inl ⟨c,d⟩)
   ·exact .inr (.inl ⟨c,by grind⟩)
  ·have:x.b≠0:=fun z=>by
    have:=sqNN x.a;unfold nrm at c n0; rw [z] at c n0; grind
   by_cases d:0 < x.b
   ·exact .inl (.inr ⟨by grind,d⟩)
   ·exact .inr (.inr ⟨by grind,by grind⟩)
theorem hK' (hr:0 < r) {x y:Ext r} (h1:Pos x) (h2:Pos y):Pos (x * y):=by
 unfold Pos at *;rw [nrm_mul,ca',cc'];have rr:=mulP hr hr;have nbb:=bD' (sqNN x.b) (Std.le_of_lt hr);have ndd:=bD' (sqNN y.b) (Std.le_of_lt hr);rcases h1 with ⟨n1,p1⟩ | ⟨n1,p1⟩ <;> rcases h2 with ⟨n2,p2⟩ | ⟨n2,p2⟩
 ·refine .inl ⟨mulP n1 n2,?_⟩;have q:=eu' nbb (show x.b * x.b * r < x.a * x.a by unfold nrm at n1; grind) ndd (show y.b * y.b * r < y.a * y.a by unfold nrm at n2; grind);exact sqL (mulP p1 p2) (by grind)
 ·refine .inr ⟨?_,?_⟩
  ·have:=mulP (a:=nrm x) (b:=-nrm y) n1 (by grind); grind
  ·have q:=eu' nbb (show x.b * x.b * r < x.a * x.a by unfold nrm at n1; grind) (sqNN y.a) (show y.a * y.a < y.b * y.b * r by unfold nrm at n2; grind);refine sqL (mulP p1 p2) ?_
   by_cases c:x.b * y.a * (x.b * y.a) < x.a * y.b * (x.a * y.b)
   ·exact c
   ·have:=bD' (a:=x.b * y.a * (x.b * y.a) - x.a * y.b * (x.a * y.b)) (b:=r) (by grind) (Std.le_of_lt hr)
    grind
 ·refine .inr ⟨?_,?_⟩
  ·have:=mulP (a:=-nrm x) (b:=nrm y) (by grind) n2; grind
  ·have q:=eu' (sqNN x.a) (show x.a * x.a < x.b * x.b * r by unfold nrm at n1; grind) ndd (show y.b * y.b * r < y.a * y.a by unfold nrm at n2; grind);have:0 < x.b * y.a + x.a * y.b:=by
    refine sqL (mulP p1 p2) ?_
    by_cases c:x.a * y.b * (x.a * y.b) < x.b * y.a * (x.b * y.a)
    ·exact c
    ·have:=bD' (a:=x.a * y.b * (x.a * y.b) - x.b * y.a * (x.b * y.a)) (b:=r) (by grind) (Std.le_of_lt hr)
     grind
   grind
 ·refine .inl ⟨?_,?_⟩
  ·have:=mulP (a:=-nrm x) (b:=-nrm y) (by grind) (by grind); grind
  ·have q:=eu' (sqNN x.a) (show x.a * x.a < x.b * x.b * r by unfold nrm at n1; grind) (sqNN y.a) (show y.a * y.a < y.b * y.b * r by unfold nrm at n2; grind);have:0 < x.b * y.b * r + x.a * y.a:=sqL (mulP (mulP p1 p2) hr) (by grind)
   grind
theorem kQ' (hn:∀z:F.C,z * z≠r) (hr:0 < r) {x y:Ext r} (h1:Pos x) (h2:Pos y):Pos (x + y):=by
 have rr:=mulP hr hr;have nbb:=bD' (sqNN x.b) (Std.le_of_lt hr);have ndd:=bD' (sqNN y.b) (Std.le_of_lt hr);have mixed:∀x y:Ext r,(0 < nrm x/\0 < x.a)->(nrm y < 0/\0 < y.b)->Pos (x + y):=by
  intro x y ⟨n1,p1⟩ ⟨n2,p2⟩;have nbb:=bD' (sqNN x.b) (Std.le_of_lt hr);have h0:x + y≠0:=fun z=>by
   have za:=congrArg Ext.a z;have zb:=congrArg Ext.b z;rw [bE',bu'] at za;rw [bF',bS'] at zb;have ea:y.a=-x.a:=by grind
   have eb:y.b=-x.b:=by grind
   unfold nrm at n1 n2;rw [ea,eb] at n2
   grind
  have n0:nrm (x + y)≠0:=fun z=>h0 (nrm_0 hn z);unfold Pos
  by_cases c:0 < nrm (x + y)
  ·refine .inl ⟨c,?_⟩;rw [bE']
   by_cases d:0 < x.a + y.a
   ·exact d
   ·exfalso;unfold nrm at n1 n2 c;rw [bE',bF'] at c;have nvv:=bD' (sqNN (x.b + y.b)) (Std.le_of_lt hr);have u0:-(x.a + y.a)≠0:=fun z=>by
     have:x.a + y.a=0:=by grind
     rw [this] at c; grind
    have up:0 < -(x.a + y.a):=by grind
    have q:=eu' nbb (show x.b * x.b * r < x.a * x.a by grind) nvv (show (x.b + y.b) * (x.b + y.b) * r < -(x.a + y.a) * -(x.a + y.a) by grind);have q2:=sqL (p:=x.a * -(x.a + y.a)) (q:=x.b * (x.b + y.b) * r) (mulP p1 up) (by grind)
    grind
  ·refine .inr ⟨by grind,?_⟩;rw [bF']
   by_cases d:0 < x.b + y.b
   ·exact d
   ·exfalso;have c':nrm (x + y) < 0:=by grind
    unfold nrm at n1 n2 c';rw [bE',bF'] at c';have naa:=sqNN (x.a + y.a);have v0:-(x.b + y.b)≠0:=fun z=>by
     have:x.b + y.b=0:=by grind
     rw [this] at c'; grind
    have vp:0 < -(x.b + y.b):=by grind
    have q:=eu' (sqNN y.a) (show y.a * y.a < y.b * y.b * r by grind) naa (show (x.a + y.a) * (x.a + y.a) < (x.b + y.b) * (x.b + y.b) * r by grind);have q2:=sqL (p:=y.b * -(x.b + y.b) * r) (q:=y.a * (x.a + y.a)) (mulP (mulP p2 vp) hr) (by grind)
    grind
 rcases h1 with h1 | h1 <;> rcases h2 with h2 | h2
 ·obtain ⟨n1,p1⟩:=h1;obtain ⟨n2,p2⟩:=h2;refine .inl ⟨?_,by rw [bE']; grind⟩;unfold nrm at *;rw [bE',bF'];have q:=eu' nbb (show x.b * x.b * r < x.a * x.a by grind) ndd (show y.b * y.b * r < y.a * y.a by grind);have q2:=sqL (p:=x.a * y.a) (q:=-(x.b * y.b * r)) (mulP p1 p2) (by grind)
  grind
 ·exact mixed x y h1 h2
 ·have:=mixed y x h2 h1
  rwa [Semiring.add_comm] at this
 ·obtain ⟨n1,p1⟩:=h1;obtain ⟨n2,p2⟩:=h2;refine .inr ⟨?_,by rw [bF']; grind⟩;unfold nrm at *;rw [bE',bF'];have q:=eu' (sqNN x.a) (show x.a * x.a < x.b * x.b * r by grind) (sqNN y.a) (show y.a * y.a < y.b * y.b * r by grind);have q2:=sqL (p:=x.b * y.b * r) (q:=-(x.a * y.a)) (mulP (mulP p1 p2) hr) (by grind)
  grind
theorem lt_def {x y:Ext r}:x < y↔Pos (y - x):=Iff.rfl
theorem jQ' {x y:Ext r}:x<=y↔x=y\/Pos (y - x):=Iff.rfl
theorem kR' (x y z:Ext r):(y - x) + (z - y)=z - x:=by grind
theorem linE (hn:∀z:F.C,z * z≠r) (hr:0 < r):Std.IsLinearOrder (Ext r) where
 le_refl x:=.inl rfl
 le_trans x y z h1 h2:=by
  rcases h1 with rfl | h1
  ·exact h2
  ·rcases h2 with rfl | h2
   ·exact .inr h1
   ·exact .inr (by have:=kQ' hn hr h1 h2; rwa [kR'] at this)
 le_antisymm x y h1 h2:=by
  rcases h1 with rfl | h1
  ·rfl
  ·rcases h2 with rfl | h2
   ·rfl
   ·exact (hJ' h1 (by rwa [show -(y - x)=x - y by grind])).elim
 le_total x y:=by
  rcases tri hn hr (y - x) with z | z | z
  ·exact .inl (.inl (by grind))
  ·exact .inl (.inr z)
  ·exact .inr (.inr (by rwa [show -(y - x)=x - y by grind] at z))
theorem lltE:Std.LawfulOrderLT (Ext r) where
 lt_iff x y:=by
  constructor
  ·intro h;refine ⟨.inr h,fun z=>?_⟩;rcases z with rfl | z
   ·rw [lt_def,show y - y=0 by grind] at h; exact jm' h
   ·exact hJ' h (by rwa [show -(y - x)=x - y by grind])
  ·intro ⟨h1,h2⟩;rcases h1 with rfl | h1
   ·exact (h2 (.inl rfl)).elim
   ·exact h1
theorem ordE (hn:∀z:F.C,z * z≠r) (hr:0 < r):@OrderedRing (Ext r) _ _ _ ((linE hn hr).toIsPartialOrder.toIsPreorder) :=
  letI:=(linE hn hr)
  { add_le_left_iff:=fun {a b} c=>by
      rw [jQ',jQ',show b + c - (a + c)=b - a by grind]
      constructor
      · rintro (rfl | h)
        · exact .inl rfl
        · exact .inr h
      · rintro (h | h)
        · exact .inl (by grind)
        · exact .inr h
    zero_lt_one:=by
      rw [lt_def];refine .inl ⟨?_,?_⟩
      · unfold nrm; rw [kN',mk',cw',dd',bu',bS'];have:=OrderedRing.zero_lt_one (R:=F.C)
        grind
      · rw [kN',cw',bu']; have:=OrderedRing.zero_lt_one (R:=F.C); grind
    mul_lt_mul_of_pos_left:=fun {a b c} h1 h2=>by
      rw [lt_def] at *;have:=hK' hr h2 h1
      rwa [show (c - 0) * (b - a)=c * b - c * a by grind] at this
    mul_lt_mul_of_pos_right:=fun {a b c} h1 h2=>by
      rw [lt_def] at *;have:=hK' hr h2 h1
      rwa [show (c - 0) * (b - a)=b * c - a * c by grind] at this }
end
end Ext
noncomputable def extOF (F:OF) (r:F.C) (hr:0 < r) (hn:∀z:F.C,z * z≠r):OF where
 C:=Ext r
 fld:=Ext.fieldE hn
 le:=inferInstance
 lt:=inferInstance
 llt:=Ext.lltE
 lin:=Ext.linE hn hr
 ord:=Ext.ordE hn hr
noncomputable def ratOF:OF where
 C:=Rat
 fld:=inferInstance
 le:=inferInstance
 lt:=inferInstance
 llt:=inferInstance
 lin:=inferInstance
 ord:=inferInstance
end Mine
namespace Mine
open PySem DL L2
open Lean.Grind
noncomputable def exOf {F:OF} (of:List Int->F.C) (r:List Int) (hr:0 < of r) (hn:∀z:F.C,z * z≠of r):List Int->(extOF F (of r) hr hn).C:=fun x=>(⟨of (frH x),of (bhH x)⟩:Ext (of r))
inductive Tow:(rs:List (List Int))->(F:OF)->(List Int->F.C)->Prop
 | nil:Tow [] ratOF (fun x=>(((x.headD 0:Int):Rat)))
 | cons {rs:List (List Int)} {F:OF} {of:List Int->F.C} (T:Tow rs F of) (r:List Int) (hl:r.length=2 ^ rs.length) (hr:0 < of r) (hn:∀z:F.C,z * z≠of r) :
   Tow (r :: rs) (extOF F (of r) hr hn) (exOf of r hr hn)
theorem Tow.sc {rs:List (List Int)} {F:OF} {of:List Int->F.C} (T:Tow rs F of):Sc rs:=by
 induction T with
 | nil=>trivial
 | cons T r hl hr hn ih=>exact ⟨hl,ih⟩
theorem kS' {x y:List Int} (h:x.length=y.length):frH (addL x y)=addL (frH x) (frH y):=by
 have hl:(addL x y).length=x.length:=by unfold addL; rw [List.length_zipWith]; omega
 unfold frH;rw [hl,<- h];unfold addL;rw [List.take_zipWith]
theorem kT' {x y:List Int} (h:x.length=y.length):bhH (addL x y)=addL (bhH x) (bhH y):=by
 have hl:(addL x y).length=x.length:=by unfold addL; rw [List.length_zipWith]; omega
 unfold bhH;rw [hl,<- h];unfold addL;rw [List.drop_zipWith]
theorem dD' {a b:List Int} (h:a.length=b.length):frH (a ++ b)=a:=by
 unfold frH;rw [List.length_append,<- h,show (a.length + a.length) / 2=a.length by omega,List.take_left'];rfl
theorem dE' {a b:List Int} (h:a.length=b.length):bhH (a ++ b)=b:=by
 unfold bhH;rw [List.length_append,<- h,show (a.length + a.length) / 2=a.length by omega,List.drop_left'];rfl
theorem kU' (f:Int->Int) (x:List Int):frH (x.map f)=(frH x).map f:=by unfold frH; rw [List.length_map,List.map_take]
theorem kV' (f:Int->Int) (x:List Int):bhH (x.map f)=(bhH x).map f:=by unfold bhH; rw [List.length_map,List.map_drop]
theorem kW' (x:List Int):frH x ++ bhH x=x:=List.take_append_drop _ x
section
variable {rs:List (List Int)} {F:OF} {of:List Int->F.C}
theorem eA' (T:Tow rs F of):∀{x y:List Int},x.length=2 ^ rs.length->y.length=2 ^ rs.length->of (addL x y)=of x + of y:=by
 induction T with
 | nil =>
  intro x y hx hy
  match x,y,hx,hy with
  | [a],[b],_,_=>exact Rat.intCast_add a b
 | @cons rs F of T r hl hr hn ih =>
  intro x y hx hy;refine Ext.eqs (r:=of r) ?_ ?_
  ·show of (frH (addL x y))=of (frH x) + of (frH y);rw [kS' (hx.trans hy.symm),ih (aU' hx) (aU' hy)]
  ·show of (bhH (addL x y))=of (bhH x) + of (bhH y);rw [kT' (hx.trans hy.symm),ih (aX' hx) (aX' hy)]
theorem hL' (T:Tow rs F of):∀{x y:List Int},x.length=2 ^ rs.length->y.length=2 ^ rs.length->of (pt rs x y)=of x * of y:=by
 induction T with
 | nil =>
  intro x y hx hy
  match x,y,hx,hy with
  | [a],[b],_,_=>exact Rat.intCast_mul a b
 | @cons rs F of T r hl hr hn ih =>
  intro x y hx hy;have S:=T.sc;have a:=aU' hx;have b:=aX' hx;have c:=aU' hy;have d:=aX' hy;have l1:=aP' rs _ _ S a c;have l2:=aP' rs _ _ S (aP' rs _ _ S b d) hl;have l3:=aP' rs _ _ S a d;have l4:=aP' rs _ _ S b c;have f1:=bi' l1 l2;have f2:=bi' l3 l4;refine Ext.eqs (r:=of r) ?_ ?_
  ·show of (frH (pt (r :: rs) x y))=of (frH x) * of (frH y) + of (bhH x) * of (bhH y) * of r;rw [pt,dD' (f1.trans f2.symm),eA' T l1 l2,ih a c,ih (aP' rs _ _ S b d) hl,ih b d]
  ·show of (bhH (pt (r :: rs) x y))=of (frH x) * of (bhH y) + of (bhH x) * of (frH y);rw [pt,dE' (f1.trans f2.symm),eA' T l3 l4,ih a d,ih b c]
theorem bP' (T:Tow rs F of) (k:Int):∀{x:List Int},x.length=2 ^ rs.length->of (x.map (k * ·))=(k:F.C) * of x:=by
 induction T with
 | nil =>
  intro x hx
  match x,hx with
  | [a],_=>exact Rat.intCast_mul k a
 | @cons rs F of T r hl hr hn ih =>
  intro x hx;refine Ext.eqs (r:=of r) ?_ ?_
  ·show of (frH (x.map (k * ·)))=(k:F.C) * of (frH x) + (0:F.C) * of (bhH x) * of r;rw [kU',ih (aU' hx)]; grind
  ·show of (bhH (x.map (k * ·)))=(k:F.C) * of (bhH x) + (0:F.C) * of (frH x);rw [kV',ih (aX' hx)]; grind
theorem jR' (T:Tow rs F of):∀{x y:List Int},x.length=2 ^ rs.length->y.length=2 ^ rs.length->of x=of y->x=y:=by
 induction T with
 | nil =>
  intro x y hx hy e
  match x,y,hx,hy with
  | [a],[b],_,_=>have:a=b:=Rat.intCast_inj.mp e; rw [this]
 | @cons rs F of T r hl hr hn ih =>
  intro x y hx hy e;have q1:of (frH x)=of (frH y):=congrArg (Ext.a (r:=of r)) e;have q2:of (bhH x)=of (bhH y):=congrArg (Ext.b (r:=of r)) e;have w1:=ih (aU' hx) (aU' hy) q1;have w2:=ih (aX' hx) (aX' hy) q2;rw [<- kW' x,<- kW' y,w1,w2]
theorem fM' (T:Tow rs F of) {x:List Int} (hx:x.length=2 ^ rs.length):of (x.map fun t=>-t)=-of x:=by
 rw [<- kM',bP' T (-1) hx,Ring.intCast_neg];have:((1:Int):F.C)=1:=Ring.intCast_one;rw [this]; grind
theorem cm' (T:Tow rs F of):∀(k:Int),of (k :: List.replicate (2 ^ rs.length - 1) 0)=(k:F.C):=by
 induction T with
 | nil=>intro k; rfl
 | @cons rs F of T r hl hr hn ih =>
  intro k;have p:=Nat.two_pow_pos rs.length;have e:k :: List.replicate (2 ^ (r :: rs).length - 1) 0=(k :: List.replicate (2 ^ rs.length - 1) 0) ++ (0 :: List.replicate (2 ^ rs.length - 1) 0):=by
   rw [List.cons_append]
   congr 1
   rw [<- List.replicate_succ,List.replicate_append_replicate]
   congr 1
   rw [List.length_cons,Nat.pow_succ]; omega
  rw [e];refine Ext.eqs (r:=of r) ?_ ?_
  ·show of (frH _)=(k:F.C);rw [dD' (by simp),ih]
  ·show of (bhH _)=(0:F.C);rw [dE' (by simp),ih]; exact Ring.intCast_zero
theorem cx' (T:Tow rs F of):of (List.replicate (2 ^ rs.length) 0)=0:=by
 have:=cm' T 0;rw [Ring.intCast_zero] at this;rw [<- this]
 congr 1
 rw [<- List.replicate_succ]
 congr 1
 have p:=Nat.two_pow_pos rs.length;omega
theorem bQ' (T:Tow rs F of):∀{k:Int},0 < k->0 < (k:F.C):=by
 intro k hk;obtain ⟨n,rfl⟩:=Int.eq_ofNat_of_zero_le (Int.le_of_lt hk);rw [Ring.intCast_natCast];have:∀n:Nat,0 < ((n + 1:Nat):F.C):=by
  intro n
  induction n with
  | zero =>
   have h1:=OrderedRing.zero_lt_one (R:=F.C);have e:((0 + 1:Nat):F.C)=1:=Semiring.natCast_one;rw [e]; exact h1
  | succ n ih =>
   have h1:=OrderedRing.zero_lt_one (R:=F.C);rw [Semiring.natCast_succ]
   grind
 match n,hk with
 | n + 1,_=>exact this n
theorem aG' (T:Tow rs F of) {k:Int} (h:k≠0):(k:F.C)≠0:=by
 rcases Int.lt_or_gt_of_ne h with c | c
 ·have:=bQ' T (k:=-k) (by omega);rw [Ring.intCast_neg] at this
  grind
 ·have:=bQ' T c
  grind
end
theorem Ext.pos0 {F:OF} {r:F.C} (x:Ext r):(0:Ext r) < x↔Ext.Pos x:=by
 rw [Ext.lt_def,show x - 0=x by grind]
theorem mm' {F:OF} {r:F.C} {hr:0 < r} {hn:∀z:F.C,z * z≠r} (x:(extOF F r hr hn).C):0 < x↔Ext.Pos (r:=r) x:=Ext.pos0 (r:=r) x
open Classical in
theorem hM' {F:OF} {r:F.C} {hr:0 < r} {hn:∀z:F.C,z * z≠r} (x:(extOF F r hr hn).C) :
  sgn x=if sgn (Ext.a x)=sgn (Ext.b x)\/sgn (Ext.b x)=0 then sgn (Ext.a x) else if sgn (Ext.a x)=0 then sgn (Ext.b x) else sgn (Ext.a x) * sgn (Ext.nrm x):=by
 have x0:x=0↔(Ext.a x=0/\Ext.b x=0):=⟨fun h=>by rw [h]; exact ⟨rfl,rfl⟩,fun h=>Ext.eqs h.1 h.2⟩;have xp:0 < x↔(0 < Ext.nrm x/\0 < Ext.a x)\/(Ext.nrm x < 0/\0 < Ext.b x):=mm' x;have n0:Ext.nrm x=0->x=0:=fun h=>Ext.nrm_0 hn h;have nd:Ext.nrm x=Ext.a x * Ext.a x - Ext.b x * Ext.b x * r:=rfl;have bb:=bD' (sqNN (Ext.b x)) (Std.le_of_lt hr);have aa:=sqNN (Ext.a x);have hs:sgn x=if Ext.nrm x=0 then 0 else if 0 < Ext.nrm x then sgn (Ext.a x) else sgn (Ext.b x):=by
  rcases dc' (Ext.nrm x) with ⟨h,e⟩ | ⟨h,e⟩ | ⟨h,e⟩
  ·rw [if_pos h]; exact sgn_0.mpr (n0 h)
  ·have h':Ext.nrm x≠0:=by grind
   have a0:Ext.a x≠0:=fun z=>by rw [nd,z] at h; grind
   have hx:x≠0:=fun z=>a0 (x0.mp z).1;rw [if_neg h',if_pos h];rcases dc' (Ext.a x) with ⟨h2,e2⟩ | ⟨h2,e2⟩ | ⟨h2,e2⟩
   ·exact (a0 h2).elim
   ·rw [e2]; exact sgn_p.mpr (xp.mpr (.inl ⟨h,h2⟩))
   ·rw [e2]; refine sgn_n.mpr ?_;have:¬0 < x:=fun z=>by rcases xp.mp z with q | q <;> grind
    grind
  ·have h':Ext.nrm x≠0:=by grind
   have h'':¬0 < Ext.nrm x:=by grind
   have b0:Ext.b x≠0:=fun z=>by rw [nd,z] at h; grind
   have hx:x≠0:=fun z=>b0 (x0.mp z).2;rw [if_neg h',if_neg h''];rcases dc' (Ext.b x) with ⟨h2,e2⟩ | ⟨h2,e2⟩ | ⟨h2,e2⟩
   ·exact (b0 h2).elim
   ·rw [e2]; exact sgn_p.mpr (xp.mpr (.inr ⟨h,h2⟩))
   ·rw [e2]; refine sgn_n.mpr ?_;have:¬0 < x:=fun z=>by rcases xp.mp z with q | q <;> grind
    grind
 rw [hs];have cb:Ext.b x=0->Ext.nrm x=Ext.a x * Ext.a x:=fun z=>by rw [nd,z]; grind
 have ca:Ext.a x=0->Ext.nrm x=-(Ext.b x * Ext.b x * r):=fun z=>by rw [nd,z]; grind
 rcases dc' (Ext.a x) with ⟨ha,ea⟩ | ⟨ha,ea⟩ | ⟨ha,ea⟩ <;> rcases dc' (Ext.b x) with ⟨hb,eb⟩ | ⟨hb,eb⟩ | ⟨hb,eb⟩ <;> rcases dc' (Ext.nrm x) with ⟨h,e⟩ | ⟨h,e⟩ | ⟨h,e⟩ <;> rw [ea,eb,e] <;>
  first
  | (have:=n0 h; have:=x0.mp this; grind)
  | (rw [if_neg (show ¬Ext.nrm x=0 by grind)]; first | (rw [if_pos h]; rfl) | (rw [if_neg (show ¬0 < Ext.nrm x by grind)]; rfl))
  | (have c1:=cb hb; have:=sqP (a:=Ext.a x) (by grind); grind)
  | (have c1:=ca ha; have:=mulP (sqP (a:=Ext.b x) (by grind)) hr; grind)
  | (have c1:=cb hb; grind)
  | (have c1:=ca ha; grind)
  | (rw [if_pos h]; rfl)
theorem kX' {x y:List Int} {b c:Int} (hx:Nf x b) (hy:Nf y c) (e:x.map (c * ·)=y.map (b * ·)):x=y/\b=c:=by
 have e1:=en' c x b.natAbs;have e2:=en' b y c.natAbs;rw [hx.one,e,Nat.mul_comm] at e1;rw [hy.one] at e2;have p1:=hx.pos;have p2:=hy.pos;have:b=c:=by omega
 subst this;refine ⟨?_,rfl⟩;have inj:∀(x y:List Int),x.map (b * ·)=y.map (b * ·)->x=y:=by
  intro x
  induction x with
  | nil=>intro y h; cases y with | nil=>rfl | cons _ _=>simp at h
  | cons a x ih =>
   intro y h
   cases y with
   | nil=>simp at h
   | cons a' y =>
    simp only [List.map_cons,List.cons.injEq] at h;rw [Int.eq_of_mul_eq_mul_left (by omega) h.1,ih y h.2]
 exact inj x y e
noncomputable def Nm {F:OF} (of:List Int->F.C) (k n:Nat) (d:D) (v:F.C):Prop :=
 ∃x b,d=num x b/\Nf x b/\x.length=2 ^ k/\Bd n x/\b.natAbs < 2 ^ n/\v=of x / (b:F.C)
section
variable {rs:List (List Int)} {F:OF} {of:List Int->F.C}
theorem Nm.mono {k n m:Nat} {d:D} {v:F.C} (h:Nm of k n d v) (e:n<=m):Nm of k m d v:=by
 obtain ⟨x,b,h1,h2,h3,h4,h5,h6⟩:=h;exact ⟨x,b,h1,h2,h3,h4.mono e,Nat.lt_of_lt_of_le h5 (Nat.pow_le_pow_right (by decide) e),h6⟩
theorem jS' {a b c d:F.C} (hb:b≠0) (hd:d≠0) (h:a / b=c / d):d * a=b * c:=by grind
theorem ff' (T:Tow rs F of) {n m:Nat} {d e:D} {v:F.C} (h1:Nm of rs.length n d v) (h2:Nm of rs.length m e v):d=e:=by
 obtain ⟨x,b,rfl,nx,lx,_,_,ex⟩:=h1;obtain ⟨y,c,rfl,ny,ly,_,_,ey⟩:=h2;have pb:=nx.pos;have pc:=ny.pos;have b0:=aG' T (show b≠0 by omega);have c0:=aG' T (show c≠0 by omega);have e:=jS' b0 c0 (ex.symm.trans ey);rw [<- bP' T c lx,<- bP' T b ly] at e;obtain ⟨rfl,rfl⟩:=kX' nx ny (jR' T (by simpa using lx) (by simpa using ly) e);rfl
theorem hN' (T:Tow rs F of) {ts:List Int} {b:Int} {n:Nat} (hl:ts.length=2 ^ rs.length) (hb:b≠0) (h1:Bd n ts) (h2:b.natAbs < 2 ^ n) :
  ∃K x c,K≠0/\ts=x.map (K * ·)/\b=K * c/\Nf x c/\x.length=2 ^ rs.length/\K.natAbs < 2 ^ n/\Nm of rs.length n (num x c) (of ts / (b:F.C)):=by
 obtain ⟨K,x,c,k0,e1,e2,nf,el⟩:=nc' ts hb;have cp:=nf.pos;have xl:x.length=2 ^ rs.length:=el.trans hl;have kb:K.natAbs < 2 ^ n:=by
  rw [e2,Int.natAbs_mul] at h2;exact Nat.lt_of_le_of_lt (Nat.le_mul_of_pos_right _ (by omega)) h2
 refine ⟨K,x,c,k0,e1,e2,nf,xl,kb,x,c,rfl,nf,xl,fun t ht=>?_,?_,?_⟩
 ·have:=h1 (K * t) (by rw [e1]; exact List.mem_map.mpr ⟨t,ht,rfl⟩);rw [Int.natAbs_mul] at this;exact Nat.lt_of_le_of_lt (Nat.le_mul_of_pos_left _ (by omega)) this
 ·rw [e2,Int.natAbs_mul] at h2;exact Nat.lt_of_le_of_lt (Nat.le_mul_of_pos_left _ (by omega)) h2
 ·have kz:=aG' T k0;have cz:=aG' T (show c≠0 by omega);rw [e1,e2,bP' T K xl,Ring.intCast_mul]
  grind
theorem hO' (T:Tow rs F of) {n:Nat} (hn:0 < n):Nm of rs.length n (num (List.replicate (2 ^ rs.length) 0) 1) 0:=by
 have p:1 < 2 ^ n:=by
  have:=Nat.pow_le_pow_right (show 2 > 0 by decide) hn;have e:2 ^ (0 + 1)=2:=rfl;rw [e] at this; omega
 refine ⟨_,1,rfl,gt' _,by simp,fun t ht=>?_,p,?_⟩
 ·rw [List.eq_of_mem_replicate ht]; exact Nat.two_pow_pos n
 ·rw [cx' T]; grind
theorem mn' (T:Tow rs F of) {n:Nat} {k:Int} (hn:0 < n) (hk:k.natAbs < 2 ^ n):Nm of rs.length n (num (k :: List.replicate (2 ^ rs.length - 1) 0) 1) (k:F.C):=by
 have p:1 < 2 ^ n:=by
  have:=Nat.pow_le_pow_right (show 2 > 0 by decide) hn;have e:2 ^ (0 + 1)=2:=rfl;rw [e] at this; omega
 have q:=Nat.two_pow_pos rs.length;refine ⟨_,1,rfl,mi' _,by simp; omega,fun t ht=>?_,p,?_⟩
 ·rcases List.mem_cons.mp ht with z | z
  ·rw [z]; exact hk
  ·rw [List.eq_of_mem_replicate z]; exact Nat.two_pow_pos n
 ·rw [cm' T];have:((1:Int):F.C)=1:=Ring.intCast_one;rw [this]; grind
theorem Nm.zero_iff (T:Tow rs F of) {n:Nat} {x:List Int} {b:Int} {v:F.C} (h:Nm of rs.length n (num x b) v):v=0↔zA x=true:=by
 have hz:=hO' T (n:=1) (by decide)
 constructor
 ·intro e;subst e;have:=ff' T h hz;obtain ⟨y,c,e,_,ly,_,_,_⟩:=h;simp only [num,D.tup.injEq,List.cons.injEq,D.int.injEq,and_true] at this;obtain ⟨q,_⟩:=this;unfold zA;have:∀t∈x,t=0:=fun t ht=>by
   have:D.int t∈(List.replicate (2 ^ rs.length) (0:Int)).map D.int:=by rw [<- q]; exact List.mem_map.mpr ⟨t,ht,rfl⟩
   obtain ⟨u,hu,e⟩:=List.mem_map.mp this;rw [List.eq_of_mem_replicate hu] at e;injection e with e; exact e.symm
  rw [List.all_eq_true];intro t ht; rw [this t ht]; rfl
 ·intro e;obtain ⟨y,c,e',ny,ly,_,_,ev⟩:=h;simp only [num,D.tup.injEq,List.cons.injEq,D.int.injEq,and_true] at e';have:x=y:=by
   have inj:∀(x y:List Int),x.map D.int=y.map D.int->x=y:=by
    intro x
    induction x with
    | nil=>intro y h; cases y with | nil=>rfl | cons _ _=>simp at h
    | cons a x ih =>
     intro y h
     cases y with
     | nil=>simp at h
     | cons a' y =>
      simp only [List.map_cons,List.cons.injEq,D.int.injEq] at h;rw [h.1,ih y h.2]
   exact inj _ _ e'.1
  subst this;have:x=List.replicate (2 ^ rs.length) 0:=by
   rw [<- ly];refine List.eq_replicate_iff.mpr ⟨rfl,fun t ht=>?_⟩;unfold zA at e;rw [List.all_eq_true] at e;have:=e t ht;simpa using this
  rw [ev,this,cx' T]; grind
end
abbrev hd0:List Int->ratOF.C:=fun x=>(((x.headD 0:Int):Rat))
noncomputable def NS {F:OF} (d:F.C):Prop:=∀z:F.C,z * z≠d
theorem kY' {n r:Int} (hr:0<=r) (h1:r * r < n) (h2:n < (r + 1) * (r + 1)) (z:Rat):z * z≠(n:Rat):=by
 intro e;have hd:((z.den:Int):Rat)≠0:=fun q=>z.den_nz (by have:=Rat.intCast_eq_zero_iff.mp q; omega);have hz:z * ((z.den:Int):Rat)=(z.num:Rat):=by
  have:=Rat.num_divInt_den z;rw [Rat.divInt_eq_div] at this
  grind
 have e2:((z.num * z.num:Int):Rat)=(((z.den:Int) * (z.den:Int) * n:Int):Rat):=by
  rw [Rat.intCast_mul,Rat.intCast_mul,Rat.intCast_mul,<- hz,<- e]
  grind
 have:=nosq hr h1 h2 (Rat.intCast_inj.mp e2);have:=z.den_nz;omega
theorem hQ' {n r:Int} (hr:0<=r) (h1:r * r < n) (h2:n < (r + 1) * (r + 1)):NS (F:=ratOF) ((n:Int):Rat):=kY' hr h1 h2
section
variable {F:OF} {r:F.C} {hr:0 < r} {hn:∀z:F.C,z * z≠r}
noncomputable def mkE (hr:0 < r) (hn:∀z:F.C,z * z≠r) (a b:F.C):(extOF F r hr hn).C:=(⟨a,b⟩:Ext r)
theorem jn' {d:F.C} (h1:NS d) (h2:NS (d * r)):NS (mkE hr hn d 0):=by
 intro z e;have ea:Ext.a (r:=r) z * Ext.a z + Ext.b z * Ext.b z * r=d:=congrArg (Ext.a (r:=r)) e;have eb:Ext.a (r:=r) z * Ext.b z + Ext.b z * Ext.a z=0:=congrArg (Ext.b (r:=r)) e;generalize Ext.a (r:=r) z=a at *;generalize Ext.b (r:=r) z=b at *;have t:a * b=0:=by
  have:(2:F.C)≠0:=by
   have:=OrderedRing.zero_lt_one (R:=F.C)
   grind
  have q:(2:F.C) * (a * b)=0:=by grind
  rcases mul0 q with q | q
  ·exact (this q).elim
  ·exact q
 rcases mul0 t with q | q
 ·exact h2 (b * r) (by subst q; grind)
 ·exact h1 a (by subst q; grind)
theorem jT' {d:Ext r} (h:Ext.nrm d < 0):NS (F:=extOF F r hr hn) d:=by
 intro z e;have:Ext.nrm (r:=r) z * Ext.nrm z=Ext.nrm d:=(Ext.nrm_mul (r:=r) z z).symm.trans (congrArg (Ext.nrm (r:=r)) e);have:=sqNN (Ext.nrm (r:=r) z)
 grind
theorem dF' {a:F.C} (ha:0 < a):0 < mkE hr hn a 0:=by
 have es:=hM' (mkE hr hn a 0);have ea:sgn a=1:=sgn_p.mpr ha;have e0:sgn (0:F.C)=0:=sgn_0.mpr rfl;have es':sgn (mkE hr hn a 0)=if sgn a=sgn (0:F.C)\/sgn (0:F.C)=0 then sgn a else if sgn a=0 then sgn (0:F.C) else sgn a * sgn (Ext.nrm (⟨a,0⟩:Ext r)):=es
 refine sgn_p.mp ?_;rw [es',ea,e0]; rfl
end
noncomputable def IsSc (rs:List (List Int)):Prop:=∃(F:OF) (of:List Int->F.C),Tow rs F of
theorem jU' {m r:Int} (hr:0<=r) (h1:r * r < m) (h2:m < (r + 1) * (r + 1)):∃(hp:0 < hd0 [m]) (hn:∀z:ratOF.C,z * z≠hd0 [m]),Tow [[m]] (extOF ratOF (hd0 [m]) hp hn) (exOf hd0 [m] hp hn):=by
 have hp:0 < hd0 [m]:=by
  have:0 < m:=Int.lt_of_le_of_lt (Int.mul_nonneg hr hr) h1;exact (Rat.intCast_pos.mpr this:(0:Rat) < ((m:Int):Rat))
 exact ⟨hp,hQ' hr h1 h2,Tow.cons Tow.nil [m] rfl hp (hQ' hr h1 h2)⟩
theorem jo' {a b:Int} (h:a < b):((a:Int):Rat) < ((b:Int):Rat):=Rat.intCast_lt_intCast.mpr h
theorem frH2 (a b:Int):frH [a,b]=[a]:=by simp [frH]
theorem bhH2 (a b:Int):bhH [a,b]=[b]:=by simp [bhH]
theorem frH4 (a b c d:Int):frH [a,b,c,d]=[a,b]:=by simp [frH]
theorem bhH4 (a b c d:Int):bhH [a,b,c,d]=[c,d]:=by simp [bhH]
theorem exE {F:OF} {of:List Int->F.C} {r:List Int} {hr:0 < of r} {hn:∀z:F.C,z * z≠of r} {x y z:List Int} (h1:frH x=y) (h2:bhH x=z):exOf of r hr hn x=mkE hr hn (of y) (of z):=by subst h1 h2; rfl
theorem ex2 {m:Int} {hp:0 < hd0 [m]} {hn:∀z:ratOF.C,z * z≠hd0 [m]} (a b:Int):exOf hd0 [m] hp hn [a,b]=mkE hp hn ((a:Int):Rat) ((b:Int):Rat):=exE (frH2 a b) (bhH2 a b)
theorem bv' {p q s:Int} (hp:0 < p) (hq:0 < q) (hs:0 < s) (h:∀n∈[p,q,q * p,s,s * p,s * q,s * q * p],∃r:Int,0<=r/\r * r < n/\n < (r + 1) * (r + 1)):IsSc [[p]]/\IsSc [[q,0],[p]]/\IsSc [[s,0,0,0],[q,0],[p]]:=by
 have ns:∀n∈[p,q,q * p,s,s * p,s * q,s * q * p],NS (F:=ratOF) ((n:Int):Rat):=fun n hn=>by
  obtain ⟨r,a,b,c⟩:=h n hn;exact hQ' a b c
 obtain ⟨r,a,b,c⟩:=h p (by simp);obtain ⟨h1,h2,T1⟩:=jU' a b c;have p2:0 < exOf (F:=ratOF) hd0 [p] h1 h2 [q,0]:=by rw [ex2]; exact dF' (F:=ratOF) (jo' hq)
 have n2:NS (exOf (F:=ratOF) hd0 [p] h1 h2 [q,0]):=by
  rw [ex2];exact jn' (F:=ratOF) (ns q (by simp)) (by
  have:=ns (q * p) (by simp);rw [Rat.intCast_mul] at this; exact this)
 have T2:=Tow.cons T1 [q,0] rfl p2 n2;refine ⟨⟨_,_,T1⟩,⟨_,_,T2⟩,?_⟩;have zz:exOf (F:=ratOF) hd0 [p] h1 h2 [0,0]=0:=by rw [ex2]; exact Ext.eqs (F:=ratOF) rfl rfl
 have p3:=dF' (F:=extOF ratOF _ h1 h2) (r:=exOf (F:=ratOF) hd0 [p] h1 h2 [q,0]) (hr:=p2) (hn:=n2) (a:=exOf (F:=ratOF) hd0 [p] h1 h2 [s,0]) (by rw [ex2]; exact dF' (F:=ratOF) (jo' hs));have a1:NS (exOf (F:=ratOF) hd0 [p] h1 h2 [s,0]):=by
  rw [ex2];exact jn' (F:=ratOF) (ns s (by simp)) (by
  have:=ns (s * p) (by simp);rw [Rat.intCast_mul] at this; exact this)
 have a2:NS (exOf (F:=ratOF) hd0 [p] h1 h2 [s,0] * exOf (F:=ratOF) hd0 [p] h1 h2 [q,0]):=by
  have e:exOf (F:=ratOF) hd0 [p] h1 h2 [s,0] * exOf (F:=ratOF) hd0 [p] h1 h2 [q,0]=exOf (F:=ratOF) hd0 [p] h1 h2 [s * q,0]:=by
   rw [ex2,ex2,ex2];refine Ext.eqs (F:=ratOF) ?_ ?_
   ·show ((s:Int):Rat) * ((q:Int):Rat) + ((0:Int):Rat) * ((0:Int):Rat) * ((p:Int):Rat)=(((s * q:Int)):Rat);rw [Rat.intCast_mul,show ((0:Int):Rat)=0 from rfl]; grind
   ·show ((s:Int):Rat) * ((0:Int):Rat) + ((0:Int):Rat) * ((q:Int):Rat)=((0:Int):Rat);rw [show ((0:Int):Rat)=0 from rfl]; grind
  rw [e,ex2];exact jn' (F:=ratOF) (ns (s * q) (by simp)) (by
   have:=ns (s * q * p) (by simp);rw [Rat.intCast_mul] at this; exact this)
 have n3:=jn' (F:=extOF ratOF _ h1 h2) (r:=exOf (F:=ratOF) hd0 [p] h1 h2 [q,0]) (hr:=p2) (hn:=n2) a1 a2;have ee:exOf (F:=extOF ratOF _ h1 h2) (exOf (F:=ratOF) hd0 [p] h1 h2) [q,0] p2 n2 [s,0,0,0]=mkE p2 n2 (exOf (F:=ratOF) hd0 [p] h1 h2 [s,0]) 0:=(exE (frH4 s 0 0 0) (bhH4 s 0 0 0)).trans (by rw [zz]);exact ⟨_,_,Tow.cons T2 [s,0,0,0] rfl (by rw [ee]; exact p3) (by rw [ee]; exact n3)⟩
end Mine
namespace DL
open PySem PySem.Spec PyProof.Rows L2
end DL
local macro_rules
 | `(tactic| push_cast [$xs,*]) => `(tactic| simp only [DL.ap_seq, DL.sq_nxt, DL.sq_ret, DL.ap_set, DL.on_ok, DL.ont_ok, DL.onl_ok, DL.ap_if, DL.ap_two, DL.ap_bF, DL.ap_bT, DL.ap_bL, DL.ap_bR, DL.ap_cons, DL.ap_tup, DL.ap_lst, DL.ap_ret, DL.ap_neg, DL.neg_ok, DL.ap_notT, DL.ap_andT, DL.ap_orT, DL.ap_andV, DL.ap_notV, DL.ap_for, DL.ap_slice, DL.ap_part, DL.ap_noPart, DL.part_int, DL.out_ret, DL.cmp_ok, DL.add_ok, DL.sub_ok, DL.bool_ok, DL.truth_bl, DL.abs_ok, DL.len_tup, DL.len_lst, DL.tuple_lst, DL.seq_tup, DL.seq_lst, DL.vw_val, DL.vw_arg, DL.eqI, DL.neI, DL.bnd_ok, DL.mulE_i, DL.sl0, DL.st0, DL.sl1, DL.st1, DL.sl2, DL.st2, DL.sl3, DL.st3, DL.sl4, DL.st4, DL.sl5, DL.st5, DL.sl6, DL.st6, DL.sl7, DL.st7, DL.sl8, DL.st8, DL.sl9, DL.st9, DL.sl10, DL.st10, DL.sl11, DL.st11, DL.tup1, DL.tup2, DL.lst2, DL.tup3, DL.tup4, DL.lst4, DL.lst5, DL.lst6, DL.ix_tup0, DL.ix_lst0, DL.ix_tup1, DL.ix_lst1, DL.ix_lst2, DL.ix_lst3, ↓reduceIte, decide_true, decide_false, Bool.not_true, Bool.not_false, Bool.false_eq_true, Int.reduceEq, Int.reduceNe, Int.reduceLT, Int.reduceLE, Nat.reduceAdd, DL.cN0, DL.cN1, DL.cN2, List.length_cons, List.length_nil, $xs,*])
namespace Mine
open PySem DL L2
open Lean.Grind
section
variable {F:OF} {r:F.C} {hr:0 < r} {hn:∀z:F.C,z * z≠r}
theorem cE' {a b:F.C} (hb:0 < b) (h:a * a - b * b * r < 0):0 < mkE hr hn a b:=by
 have es:=hM' (mkE hr hn a b);have eb:sgn b=1:=sgn_p.mpr hb;have en:sgn (Ext.nrm (⟨a,b⟩:Ext r))=-1:=sgn_n.mpr h;have es':sgn (mkE hr hn a b)=if sgn a=sgn b\/sgn b=0 then sgn a else if sgn a=0 then sgn b else sgn a * sgn (Ext.nrm (⟨a,b⟩:Ext r)):=es
 refine sgn_p.mp ?_;rw [es',eb,en];rcases dc' a with ⟨h,e⟩ | ⟨h,e⟩ | ⟨h,e⟩ <;> rw [e] <;> rfl
theorem fk_1 {a b ρ:F.C} (h:1 < ρ) (ha:0<=a) (hab:a + 1<=b):a * a - b * b * ρ < 0/\(a - 1) * (a - 1) - b * b * ρ < 0:=by
 have q:=bD' (a:=b - a - 1) (b:=b + a) (by grind) (by grind);have q1:=mulP (a:=b * b) (b:=ρ - 1) (mulP (by grind) (by grind)) (by grind)
 constructor <;> grind
end
section
variable {rs:List (List Int)} {F:OF} {of:List Int->F.C}
theorem cV' (T:Tow rs F of) {a b:Int} (h:a<=b):((a:Int):F.C)<=((b:Int):F.C):=by
 by_cases z:a=b
 ·rw [z]; exact Std.le_refl _
 ·have:=bQ' T (k:=b - a) (by omega);rw [Ring.intCast_sub] at this; grind
theorem nest (T:Tow rs F of) {r:List Int} (hl:r.length=2 ^ rs.length) (hr:0 < of r) (hn:∀z:F.C,z * z≠of r) (h1:1 < of r) {e k:Int} (he:0<=e) (hk:e < k) {r':List Int} (lr:r'.length=2 ^ (rs.length + 1)) (ea:of (frH r')=((e:Int):F.C)) (eb:of (bhH r')=((k:Int):F.C)) :
  0 < exOf of r hr hn r'/\(∀z:(extOF F (of r) hr hn).C,z * z≠exOf of r hr hn r')/\1 < exOf of r hr hn r':=by
 have ee:exOf of r hr hn r'=mkE hr hn ((e:Int):F.C) ((k:Int):F.C):=by
  show mkE hr hn (of (frH r')) (of (bhH r'))=_;rw [ea,eb]
 rw [ee];have c0:(0:F.C)<=((e:Int):F.C):=by have:=cV' T he; rwa [Ring.intCast_zero] at this
 have ck:((e:Int):F.C) + 1<=((k:Int):F.C):=by
  have:=cV' T (show e + 1<=k by omega)
  rwa [Ring.intCast_add,Ring.intCast_one] at this
 have k0:(0:F.C) < ((k:Int):F.C):=bQ' T (by omega);obtain ⟨q1,q2⟩:=fk_1 h1 c0 ck;refine ⟨cE' k0 q1,jT' q1,?_⟩;have p:0 < mkE hr hn (((e:Int):F.C) - 1) ((k:Int):F.C):=cE' k0 q2;have s:mkE hr hn (((e:Int):F.C) - 1) ((k:Int):F.C)=mkE hr hn ((e:Int):F.C) ((k:Int):F.C) - 1:=by
  refine Ext.eqs (r:=of r) rfl ?_;show ((k:Int):F.C)=((k:Int):F.C) - 0
  grind
 rw [s] at p
 grind
end
structure Hm {A B:OF} (φ:A.C->B.C):Prop where
 add:∀a b,φ (a + b)=φ a + φ b
 mul:∀a b,φ (a * b)=φ a * φ b
 int:∀n:Int,φ (n:A.C)=(n:B.C)
noncomputable def ev {A B:OF} (φ:A.C->B.C) (X:B.C):List A.C->B.C
 | []=>0
 | a :: p=>φ a + X * ev φ X p
noncomputable def inn {A:OF} (a:A.C):Nat->List A.C->List A.C->List A.C
 | _,[],W=>W
 | i,b :: Q,W=>inn a (i + 1) Q (W.modify i (· + a * b))
noncomputable def out {A:OF} (Q:List A.C):Nat->List A.C->List A.C->List A.C
 | _,[],W=>W
 | i,a :: P,W=>out Q (i + 1) P (inn a i Q W)
section
variable {A B:OF} {φ:A.C->B.C} {X:B.C}
theorem Hm.zero (h:Hm φ):φ 0=0:=by
 have:=h.int 0;rw [Ring.intCast_zero,Ring.intCast_zero] at this; exact this
theorem hR':Hm (fun a:A.C=>a):=⟨fun _ _=>rfl,fun _ _=>rfl,fun _=>rfl⟩
noncomputable def pwr (X:B.C):Nat->B.C
 | 0=>1
 | n + 1=>X * pwr X n
theorem jV' (h:Hm φ) (c:A.C):∀(W:List A.C) (i:Nat),i < W.length->ev φ X (W.modify i (· + c))=ev φ X W + φ c * pwr X i
 | [],i,hi=>absurd hi (Nat.not_lt_zero _)
 | w :: W,0,_=>by
  rw [List.modify_zero_cons];show φ (w + c) + X * ev φ X W=φ w + X * ev φ X W + φ c * 1;rw [h.add]; grind
 | w :: W,i + 1,hi=>by
  rw [List.modify_succ_cons];show φ w + X * ev φ X (W.modify i (· + c))=φ w + X * ev φ X W + φ c * (X * pwr X i);rw [jV' h c W i (by simpa using hi)]; grind
theorem cW' (a:A.C):∀(Q W:List A.C) (i:Nat),(inn a i Q W).length=W.length
 | [],W,i=>rfl
 | b :: Q,W,i=>by rw [inn,cW' a Q,List.length_modify]
theorem fg' (Q:List A.C):∀(P W:List A.C) (i:Nat),(out Q i P W).length=W.length
 | [],W,i=>rfl
 | a :: P,W,i=>by rw [out,fg' Q P,cW']
theorem jW' (h:Hm φ) (a:A.C):∀(Q W:List A.C) (i:Nat),i + Q.length<=W.length->ev φ X (inn a i Q W)=ev φ X W + φ a * pwr X i * ev φ X Q
 | [],W,i,_=>by show ev φ X W=ev φ X W + φ a * pwr X i * 0; grind
 | b :: Q,W,i,hl=>by
  have hl':i + (Q.length + 1)<=W.length:=hl;rw [inn,jW' h a Q _ (i + 1) (by rw [List.length_modify]; omega),jV' h _ W i (by omega),h.mul];show ev φ X W + φ a * φ b * pwr X i + φ a * (X * pwr X i) * ev φ X Q=ev φ X W + φ a * pwr X i * (φ b + X * ev φ X Q)
  grind
theorem jX' (h:Hm φ) (Q:List A.C):∀(P W:List A.C) (i:Nat),i + P.length + Q.length<=W.length + 1->ev φ X (out Q i P W)=ev φ X W + pwr X i * ev φ X P * ev φ X Q
 | [],W,i,_=>by show ev φ X W=ev φ X W + pwr X i * 0 * ev φ X Q; grind
 | a :: P,W,i,hl=>by
  have hl':i + (P.length + 1) + Q.length<=W.length + 1:=hl;rw [out,jX' h Q P _ (i + 1) (by rw [cW']; omega),jW' h a Q W i (by omega)];show ev φ X W + φ a * pwr X i * ev φ X Q + X * pwr X i * ev φ X P * ev φ X Q=ev φ X W + pwr X i * (φ a + X * ev φ X P) * ev φ X Q
  grind
theorem hS' (a:A.C):∀(Q W:List A.C) (i k:Nat),i + Q.length<=k->(inn a i Q W)[k]? = W[k]?
 | [],W,i,k,_=>rfl
 | b :: Q,W,i,k,hk=>by
  have hk':i + (Q.length + 1)<=k:=hk;rw [inn,hS' a Q _ (i + 1) k (by omega),List.getElem?_modify];simp [show i≠k by omega]
theorem hT' (a c:A.C):∀(Q W:List A.C) (i:Nat),(inn a i (Q ++ [c]) W)[i + Q.length]? = (W[i + Q.length]?).map (· + a * c)
 | [],W,i=>by
  show (W.modify i (· + a * c))[i]? = _;rw [List.getElem?_modify]; simp
 | b :: Q,W,i=>by
  rw [List.cons_append,inn,List.length_cons,show i + (Q.length + 1)=i + 1 + Q.length by omega,hT' a c Q _ (i + 1),List.getElem?_modify];simp [show i≠i + 1 + Q.length by omega]
theorem hU' (Q:List A.C) (a c:A.C):∀(P W:List A.C) (i:Nat),(out (Q ++ [c]) i (P ++ [a]) W)[i + P.length + Q.length]? = (W[i + P.length + Q.length]?).map (· + a * c)
 | [],W,i=>by
  show (inn a i (Q ++ [c]) W)[i + 0 + Q.length]? = _;exact hT' a c Q W i
 | b :: P,W,i=>by
  rw [List.cons_append,out,List.length_cons,show i + (P.length + 1) + Q.length=i + 1 + P.length + Q.length by omega,hU' Q a c P _ (i + 1),hS' b (Q ++ [c]) W i _ (by simp; omega)]
noncomputable def quo (s:A.C):List A.C->List A.C
 | []=>[]
 | [_]=>[]
 | _ :: b :: p=>ev (B:=A) (fun a=>a) s (b :: p) :: quo s (b :: p)
theorem fh' (s:A.C):∀p:List A.C,(quo s p).length=p.length - 1
 | []=>rfl
 | [_]=>rfl
 | _ :: b :: p=>by rw [quo,List.length_cons,fh' s (b :: p)]; simp
theorem jY' (s t:A.C):∀p:List A.C,ev (B:=A) (fun a=>a) t p=ev (B:=A) (fun a=>a) s p + (t - s) * ev (B:=A) (fun a=>a) t (quo s p)
 | []=>by show (0:A.C)=0 + (t - s) * 0; grind
 | [a]=>by show a + t * 0=a + s * 0 + (t - s) * 0; grind
 | a :: b :: p=>by
  have ih:=jY' s t (b :: p);rw [quo];show a + t * ev (B:=A) (fun a=>a) t (b :: p)=a + s * ev (B:=A) (fun a=>a) s (b :: p) + (t - s) * (ev (B:=A) (fun a=>a) s (b :: p) + t * ev (B:=A) (fun a=>a) t (quo s (b :: p)));generalize ev (B:=A) (fun a=>a) t (b :: p)=x at *;generalize ev (B:=A) (fun a=>a) s (b :: p)=y at *;generalize ev (B:=A) (fun a=>a) t (quo s (b :: p))=z at *
  grind
theorem fN' (s:A.C):∀p:List A.C,ev (B:=A) (fun a=>a) s p=0->(∀a∈quo s p,a=0)->∀a∈p,a=0
 | [],_,_=>by simp
 | [a],h,_=>by
  intro x hx;have:x=a:=by simpa using hx
  rw [this];have h':a + s * 0=0:=h
  grind
 | a :: b :: p,h,hq=>by
  have e:ev (B:=A) (fun a=>a) s (b :: p)=0:=hq _ (by rw [quo]; simp);have ih:=fN' s (b :: p) e fun x hx=>hq x (by rw [quo]; exact List.mem_cons_of_mem _ hx);intro x hx;rcases List.mem_cons.mp hx with z | z
  ·have h':a + s * ev (B:=A) (fun a=>a) s (b :: p)=0:=h;rw [e] at h';rw [z]; grind
  ·exact ih x z
theorem eB':∀(n:Nat) (p pts:List A.C),p.length<=n->p.length<=pts.length->pts.Nodup->(∀s∈pts,ev (B:=A) (fun a=>a) s p=0)->∀a∈p,a=0
 | 0,p,_,hp,_,_,_=>by
  have:p=[]:=List.length_eq_zero_iff.mp (by omega);rw [this]; simp
 | n + 1,p,pts,hp,hl,nd,h=>by
  match pts,hl,nd,h with
  | [],hl,_,_ =>
   have:p=[]:=List.length_eq_zero_iff.mp (by simpa using hl);rw [this]; simp
  | s :: pts,hl,nd,h =>
   have e:=h s (by simp);refine fN' s p e (eB' n (quo s p) pts (by rw [fh']; omega) (by rw [fh']; simp at hl; omega) (List.nodup_cons.mp nd).2 fun t ht=>?_);have q:=jY' s t p;rw [h t (List.mem_cons_of_mem _ ht),e] at q;have ne:t≠s:=fun z=>(List.nodup_cons.mp nd).1 (z ▸ ht);rcases mul0 (a:=t - s) (b:=ev (B:=A) (fun a=>a) t (quo s p)) (by grind) with z | z
   ·exact (ne (by grind)).elim
   ·exact z
theorem bL' {m n:Int} (h:(m:A.C)=(n:A.C)):m=n:=by
 have e:((m - n:Int):A.C)=0:=by rw [Ring.intCast_sub,h]; grind
 have:=IsCharP.intCast_eq_zero_iff (α:=A.C) 0 (m - n);rw [this] at e;omega
theorem ident {γ:Int->Int} (hγ:∀a b,γ a=γ b->a=b) (p:List A.C) (h:∀t:Int,ev (B:=A) (fun a=>a) ((γ t:Int):A.C) p=0):∀a∈p,a=0:=by
 refine eB' p.length p ((List.range p.length).map fun (k:Nat)=>((γ (k:Int):Int):A.C)) (Nat.le_refl _) (by simp) ?_ ?_
 ·refine List.pairwise_map.mpr (List.Pairwise.imp (fun {x y} ne e=>ne ?_) List.nodup_range);have:=hγ _ _ (bL' e);omega
 ·intro s hs;obtain ⟨k,_,rfl⟩:=List.mem_map.mp hs;exact h k
end
section
variable {F:OF}
theorem al_1 {U V w x W Z:F.C} (h1:V + x=U + w) (h2:4 * (V * x) + Z=4 * (U * w) + W) (h3:V * Z=U * W) (h4:w * w < W):V=U:=by
 have e:(V - U) * ((2 * V - w) * (2 * V - w) + (W - w * w))=0:=by grind
 rcases mul0 e with z | z
 ·grind
 ·exfalso;have:=sqNN (2 * V - w)
  grind
theorem al_3 {a b c x y z:F.C} (h1:x + y + z=a + b + c) (h2:x * y + x * z + y * z=a * b + a * c + b * c) (h3:x * y * z=a * b * c):x=a\/x=b\/x=c:=by
 have e:(x - a) * ((x - b) * (x - c))=0:=by grind
 rcases mul0 e with q | q
 ·left; grind
 ·rcases mul0 q with q | q
  ·right; left; grind
  ·right; right; grind
theorem cn' {r x y:F.C} (h:∀z:F.C,z * z≠r) (e:x * x=r * (y * y)):y=0/\x=0:=by
 by_cases hy:y=0
 ·refine ⟨hy,?_⟩;rw [hy] at e;rcases mul0 (show x * x=0 by grind) with q | q <;> exact q
 ·exfalso;refine h (x / y) ?_
  grind
theorem hV' {x y:F.C} (e:x * x=y * y):x=y\/x=-y:=by
 rcases mul0 (show (x - y) * (x + y)=0 by grind) with q | q
 ·left; grind
 ·right; grind
theorem bm' {r x y:F.C} (hr:r≠0) (e:x * r=y * r):x=y:=by
 rcases mul0 (show (x - y) * r=0 by grind) with q | q
 ·grind
 ·exact (hr q).elim
theorem bs' {x:F.C} (h:2 * x=0):x=0:=by
 have:(2:F.C)≠0:=by
  have:=OrderedRing.zero_lt_one (R:=F.C)
  grind
 rcases mul0 h with q | q
 ·exact (this q).elim
 ·exact q
theorem jZ' {r x y:F.C} (hr:0 < r) (e:x * x + y * y * r=0):x=0/\y=0:=by
 have h1:=sqNN x
 by_cases hy:y=0
 ·refine ⟨?_,hy⟩;rw [hy] at e;rcases mul0 (show x * x=0 by grind) with q | q <;> exact q
 ·exfalso;have h2:=mulP (sqP hy) hr
  grind
theorem hW' {c b m x y:F.C} (h:c * c - b * b * m < 0) (e:(x * x + y * y * m) * b + (x * y + y * x) * c=0):x=0/\y=0:=by
 have b0:b≠0:=fun z=>by have:=sqNN c; rw [z] at h; grind
 have e1:(b * x + c * y) * (b * x + c * y) + y * y * (b * b * m - c * c)=0:=by grind
 obtain ⟨q1,q2⟩:=jZ' (show 0 < b * b * m - c * c by grind) e1;refine ⟨?_,q2⟩;rw [q2] at q1;rcases mul0 (show b * x=0 by grind) with z | z
 ·exact (b0 z).elim
 ·exact z
theorem al_n (v0 v1 e k r:F.C):((v0 * v0 + v1 * v1 * r) * e + (v0 * v1 + v1 * v0) * k * r) * ((v0 * v0 + v1 * v1 * r) * e + (v0 * v1 + v1 * v0) * k * r) - ((v0 * v0 + v1 * v1 * r) * k + (v0 * v1 + v1 * v0) * e) * ((v0 * v0 + v1 * v1 * r) * k + (v0 * v1 + v1 * v0) * e) * r=((v0 * v0 - v1 * v1 * r) * (v0 * v0 - v1 * v1 * r)) * (e * e - k * k * r):=by grind
theorem mo' {v0 v1 e k r:F.C} (hn:∀z:F.C,z * z≠r) (hv:¬(v0=0/\v1=0)) (h:e * e - k * k * r < 0):((v0 * v0 + v1 * v1 * r) * e + (v0 * v1 + v1 * v0) * k * r) * ((v0 * v0 + v1 * v1 * r) * e + (v0 * v1 + v1 * v0) * k * r) < ((v0 * v0 + v1 * v1 * r) * k + (v0 * v1 + v1 * v0) * e) * ((v0 * v0 + v1 * v1 * r) * k + (v0 * v1 + v1 * v0) * e) * r:=by
 have n0:v0 * v0 - v1 * v1 * r≠0:=fun z=>hv (by
  have:=cn' hn (show v0 * v0=r * (v1 * v1) by grind);exact ⟨this.2,this.1⟩)
 have h1:=mulP (sqP n0) (show 0 < -(e * e - k * k * r) by grind);have h2:=al_n v0 v1 e k r;generalize ((v0 * v0 + v1 * v1 * r) * e + (v0 * v1 + v1 * v0) * k * r) * ((v0 * v0 + v1 * v1 * r) * e + (v0 * v1 + v1 * v0) * k * r)=X at *;generalize ((v0 * v0 + v1 * v1 * r) * k + (v0 * v1 + v1 * v0) * e) * ((v0 * v0 + v1 * v1 * r) * k + (v0 * v1 + v1 * v0) * e) * r=Y at *;generalize (v0 * v0 - v1 * v1 * r) * (v0 * v0 - v1 * v1 * r)=Z at *;generalize e * e - k * k * r=N at *
 grind
theorem kZ' {v0 v1 x y e k r:F.C} (hr:0 < r) (h:e * e - k * k * r < 0) (h1:(x * x + y * y * r) * e + (x * y + y * x) * k * r=(v0 * v0 + v1 * v1 * r) * e + (v0 * v1 + v1 * v0) * k * r) (h2:(x * x + y * y * r) * k + (x * y + y * x) * e=-((v0 * v0 + v1 * v1 * r) * k + (v0 * v1 + v1 * v0) * e)):v0=0/\v1=0:=by
 have hd:e * e - k * k * r≠0:=by grind
 have e1:(x * x + y * y * r) * (e * e - k * k * r)=(e * v0 + k * r * v1) * (e * v0 + k * r * v1) + (k * v0 + e * v1) * (k * v0 + e * v1) * r:=by grind
 have g1:=sqNN x;have g2:=bD' (sqNN y) (show 0<=r by grind);have g3:=bD' (show 0<=x * x + y * y * r by grind) (show 0<=-(e * e - k * k * r) by grind);have g4:=sqNN (e * v0 + k * r * v1);have g5:=bD' (sqNN (k * v0 + e * v1)) (show 0<=r by grind);have e2:(e * v0 + k * r * v1) * (e * v0 + k * r * v1) + (k * v0 + e * v1) * (k * v0 + e * v1) * r=0:=by grind
 obtain ⟨q1,q2⟩:=jZ' hr e2
 constructor
 ·rcases mul0 (show (e * e - k * k * r) * v0=0 by grind) with z | z
  ·exact (hd z).elim
  ·exact z
 ·rcases mul0 (show (e * e - k * k * r) * v1=0 by grind) with z | z
  ·exact (hd z).elim
  ·exact z
theorem la' {v0 v1 x y e k r:F.C} (hn:∀z:F.C,z * z≠r) (h:e * e - k * k * r≠0) (h1:(x * x + y * y * r) * e + (x * y + y * x) * k * r=(v0 * v0 + v1 * v1 * r) * e + (v0 * v1 + v1 * v0) * k * r) (h2:(x * x + y * y * r) * k + (x * y + y * x) * e=(v0 * v0 + v1 * v1 * r) * k + (v0 * v1 + v1 * v0) * e):(x=v0/\y=v1)\/(x=-v0/\y=-v1):=by
 have e1:x * x + y * y * r=v0 * v0 + v1 * v1 * r:=by
  rcases mul0 (show (x * x + y * y * r - (v0 * v0 + v1 * v1 * r)) * (e * e - k * k * r)=0 by grind) with z | z
  ·grind
  ·exact (h z).elim
 have e2:x * y=v0 * v1:=by
  rcases mul0 (show (2 * (x * y - v0 * v1)) * (e * e - k * k * r)=0 by grind) with z | z
  ·have:=bs' z; grind
  ·exact (h z).elim
 clear h1 h2 h;rcases mul0 (show (x * x - v0 * v0) * (x * x - v1 * v1 * r)=0 by grind) with z | z
 ·rcases hV' (show x * x=v0 * v0 by grind) with q | q
  ·by_cases v:v0=0
   ·rcases hV' (x:=y) (y:=v1) (by
     by_cases r0:r=0
     ·exact (hn 0 (by grind)).elim
     ·exact bm' r0 (by grind)) with p | p
    ·left; exact ⟨q,p⟩
    ·right; exact ⟨by grind,p⟩
   ·left; exact ⟨q,bm' v (by grind)⟩
  ·by_cases v:v0=0
   ·rcases hV' (x:=y) (y:=v1) (by
     by_cases r0:r=0
     ·exact (hn 0 (by grind)).elim
     ·exact bm' r0 (by grind)) with p | p
    ·left; exact ⟨by grind,p⟩
    ·right; exact ⟨q,p⟩
   ·right; exact ⟨q,bm' v (by grind)⟩
 ·obtain ⟨q1,q2⟩:=cn' hn (show x * x=r * (v1 * v1) by grind);obtain ⟨p1,p2⟩:=cn' hn (show v0 * v0=r * (y * y) by rw [q1,q2] at e1; grind)
  left
  exact ⟨by rw [q2,p2],by rw [p1,q1]⟩
end
section
variable {F:OF} {s:F.C->F.C}
theorem Hm.neg (h:Hm s) (a:F.C):s (-a)=-s a:=by
 have h1:=h.add a (-a);have h0:=h.zero;rw [show a + -a=0 by grind,h0] at h1
 grind
theorem Hm.sub (h:Hm s) (a b:F.C):s (a - b)=s a - s b:=by
 rw [show a - b=a + -b by grind,h.add,h.neg]; grind
theorem Hm.one (h:Hm s):s 1=1:=by have:=h.int 1; rwa [Ring.intCast_one] at this
theorem Hm.two (h:Hm s):s 2=2:=by
 rw [show (2:F.C)=1 + 1 by grind,h.add,h.one]
noncomputable def cf (u0 u1 w0 w1 r:F.C):List F.C :=
  [(u0 * u0 + u1 * u1 * r - w0) * (u0 * u0 + u1 * u1 * r - w0) - (2 * (u0 * u1) - w1) * (2 * (u0 * u1) - w1) * r,
   2 * ((u0 * u0 + u1 * u1 * r - w0) * (-(2 * u0)) - (2 * (u0 * u1) - w1) * (-(2 * u1)) * r),
   2 * (u0 * u0 + u1 * u1 * r - w0) + (-(2 * u0)) * (-(2 * u0)) - (-(2 * u1)) * (-(2 * u1)) * r,
   2 * (-(2 * u0)),1]
theorem cf_s (h:Hm s) (u0 u1 w0 w1 r:F.C):(cf u0 u1 w0 w1 r).map s=cf (s u0) (s u1) (s w0) (s w1) (s r):=by
 unfold cf;simp only [List.map_cons,List.map_nil,h.mul,h.add,h.sub,h.neg,h.two,h.one]
theorem nd' {u0 u1 w0 w1 r u0' u1' w0' w1' r':F.C} (e1:u0'=u0) (e2:u1' * u1' * r' + w0'=u1 * u1 * r + w0) (e3:u1' * w1' * r'=u1 * w1 * r) (e4:4 * (u1' * u1' * r' * w0') + w1' * w1' * r'=4 * (u1 * u1 * r * w0) + w1 * w1 * r):cf u0' u1' w0' w1' r'=cf u0 u1 w0 w1 r:=by
 subst e1;unfold cf
 congr 1
 ·have a1:(u0' * u0' + u1' * u1' * r' - w0') * (u0' * u0' + u1' * u1' * r' - w0') - (2 * (u0' * u1') - w1') * (2 * (u0' * u1') - w1') * r'=u0' * u0' * (u0' * u0') - 2 * (u0' * u0') * (u1' * u1' * r' + w0') + 4 * u0' * (u1' * w1' * r') + (u1' * u1' * r' + w0') * (u1' * u1' * r' + w0') - (4 * (u1' * u1' * r' * w0') + w1' * w1' * r'):=by grind
  rw [a1,e2,e3,e4]; grind
 ·congr 1
  ·have a1:2 * ((u0' * u0' + u1' * u1' * r' - w0') * (-(2 * u0')) - (2 * (u0' * u1') - w1') * (-(2 * u1')) * r')=-(4 * (u0' * u0' * u0')) + 4 * u0' * (u1' * u1' * r' + w0') - 4 * (u1' * w1' * r'):=by grind
   rw [a1,e2,e3]; grind
  ·congr 1
   have a1:2 * (u0' * u0' + u1' * u1' * r' - w0') + (-(2 * u0')) * (-(2 * u0')) - (-(2 * u1')) * (-(2 * u1')) * r'=6 * (u0' * u0') - 2 * (u1' * u1' * r' + w0'):=by grind
   rw [a1,e2]; grind
theorem lb' {u0 u1 w0 w1 r u0' u1' w0' w1' r':F.C} (e:cf u0' u1' w0' w1' r'=cf u0 u1 w0 w1 r):u0'=u0/\u1' * u1' * r' + w0'=u1 * u1 * r + w0/\u1' * w1' * r'=u1 * w1 * r/\4 * (u1' * u1' * r' * w0') + w1' * w1' * r'=4 * (u1 * u1 * r * w0) + w1 * w1 * r:=by
 unfold cf at e;simp only [List.cons.injEq,and_true] at e;obtain ⟨a0,a1,a2,a3⟩:=e;have f1:u0'=u0:=by
  have:=bs' (F:=F) (x:=2 * (u0' - u0)) (by grind);have:=bs' (F:=F) (x:=u0' - u0) this
  grind
 subst f1;have f2:u1' * u1' * r' + w0'=u1 * u1 * r + w0:=by
  have:=bs' (F:=F) (x:=(u1' * u1' * r' + w0') - (u1 * u1 * r + w0)) (by grind)
  grind
 have f3:u1' * w1' * r'=u1 * w1 * r:=by
  have:=bs' (F:=F) (x:=2 * (u1' * w1' * r' - u1 * w1 * r)) (by
   have g:=congrArg (fun t=>4 * u0' * t) f2;clear a0 a2 a3
   grind)
  have:=bs' (F:=F) this
  grind
 refine ⟨rfl,f2,f3,?_⟩;have g1:=congrArg (fun t=>2 * (u0' * u0') * t) f2;have g2:=congrArg (fun t=>4 * u0' * t) f3;have g3:=congrArg (fun t=>t * t) f2;clear a1 a2 a3 f2 f3
 grind
abbrev wA (v0 v1 e k r:F.C):F.C:=(v0 * v0 + v1 * v1 * r) * e + (v0 * v1 + v1 * v0) * k * r
abbrev wB (v0 v1 e k r:F.C):F.C:=(v0 * v0 + v1 * v1 * r) * k + (v0 * v1 + v1 * v0) * e
theorem wA_s (h:Hm s) (v0 v1 e k r:F.C):s (wA v0 v1 e k r)=wA (s v0) (s v1) (s e) (s k) (s r):=by simp only [h.mul,h.add]
theorem wB_s (h:Hm s) (v0 v1 e k r:F.C):s (wB v0 v1 e k r)=wB (s v0) (s v1) (s e) (s k) (s r):=by simp only [h.mul,h.add]
end
section
variable {F:OF} {u0 u1 v0 v1 e k r u0' u1' v0' v1' r':F.C}
theorem ne' (hr:0 < r) (hn:∀z:F.C,z * z≠r) (hd:e * e - k * k * r < 0) (hv:¬(v0=0/\v1=0)) (h:cf u0' u1' (wA v0' v1' e k r) (wB v0' v1' e k r) r=cf u0 u1 (wA v0 v1 e k r) (wB v0 v1 e k r) r):u0'=u0/\u1'=u1/\((v0'=v0/\v1'=v1)\/(v0'=-v0/\v1'=-v1)):=by
 obtain ⟨e1,e2,e3,e4⟩:=lb' h;have n0:=mo' hn hv hd;have eA:wA v0 v1 e k r=wA v0 v1 e k r:=rfl;have r0:r≠0:=by grind
 have hU:u1' * u1' * r=u1 * u1 * r:=by
  refine al_1 e2 e4 ?_ n0;have:=congrArg (fun t=>t * t) e3;generalize wB v0' v1' e k r=B' at *;generalize wB v0 v1 e k r=B at *;clear e4 e2 n0
  grind
 have hA:wA v0' v1' e k r=wA v0 v1 e k r:=by grind
 have hW:wB v0' v1' e k r * wB v0' v1' e k r * r=wB v0 v1 e k r * wB v0 v1 e k r * r:=by
  rw [hU,hA] at e4
  grind
 have w1:wB v0 v1 e k r≠0:=fun z=>by
  have:=sqNN (wA v0 v1 e k r);have n1:wA v0 v1 e k r * wA v0 v1 e k r < wB v0 v1 e k r * wB v0 v1 e k r * r:=n0;rw [z] at n1
  grind
 rcases hV' (bm' r0 hW) with q | q
 ·refine ⟨e1,?_,la' hn (by grind) hA q⟩;rw [q] at e3;exact bm' w1 (bm' r0 e3)
 ·exact (hv (kZ' hr hd hA q)).elim
theorem nf' (hn:∀z:F.C,z * z≠r) (hd:e * e - k * k * r < 0) (hdef:∀z z':F.C,z' * z' * r'=z * z * r->(z'=u1'/\z=u1)\/(z'=wB v0' v1' e k r'/\z=wB v0 v1 e k r)->z=0/\z'=0) (hv:¬(v0=0/\v1=0)) (h:cf u0' u1' (wA v0' v1' e k r') (wB v0' v1' e k r') r'=cf u0 u1 (wA v0 v1 e k r) (wB v0 v1 e k r) r):False:=by
 obtain ⟨e1,e2,e3,e4⟩:=lb' h;have n0:=mo' hn hv hd;have hU:u1' * u1' * r'=u1 * u1 * r:=by
  refine al_1 e2 e4 ?_ n0;have:=congrArg (fun t=>t * t) e3;generalize wB v0' v1' e k r'=B' at *;generalize wB v0 v1 e k r=B at *;clear e4 e2 n0
  grind
 obtain ⟨z1,z2⟩:=hdef _ _ hU (.inl ⟨rfl,rfl⟩);rw [z1,z2] at e4;obtain ⟨z3,z4⟩:=hdef (wB v0 v1 e k r) (wB v0' v1' e k r') (by grind) (.inr ⟨rfl,rfl⟩);have n1:wA v0 v1 e k r * wA v0 v1 e k r < wB v0 v1 e k r * wB v0 v1 e k r * r:=n0;rw [z3] at n1;have:=sqNN (wA v0 v1 e k r)
 grind
theorem ng' (r0:r≠0) (q0:e≠0) (n1:∀z:F.C,z * z≠r) (n2:∀z:F.C,z * z≠e) (n3:∀z:F.C,z * z≠r * e) (i1:u1'=0->u1=0) (i2:v0'=0->v0=0) (i3:v1'=0->v1=0) (h:cf u0' u1' (wA v0' v1' e 0 r) (wB v0' v1' e 0 r) r=cf u0 u1 (wA v0 v1 e 0 r) (wB v0 v1 e 0 r) r):u0'=u0/\u1' * u1'=u1 * u1/\v0' * v0'=v0 * v0/\v1' * v1'=v1 * v1/\u1' * v0' * v1'=u1 * v0 * v1:=by
 obtain ⟨e1,e2,e3,e4⟩:=lb' h;have f1:u1' * u1' * r + v0' * v0' * e + v1' * v1' * (r * e)=u1 * u1 * r + v0 * v0 * e + v1 * v1 * (r * e):=by clear e3 e4; grind
 have f3:u1' * v0' * v1'=u1 * v0 * v1:=by
  have:2 * ((u1' * v0' * v1' - u1 * v0 * v1) * (r * e))=0:=by clear e2 e4 f1; grind
  have:=bs' this;rcases mul0 this with z | z
  ·grind
  ·rcases mul0 z with z | z
   ·exact (r0 z).elim
   ·exact (q0 z).elim
 have f2:u1' * u1' * r * (v0' * v0' * e) + u1' * u1' * r * (v1' * v1' * (r * e)) + v0' * v0' * e * (v1' * v1' * (r * e))=u1 * u1 * r * (v0 * v0 * e) + u1 * u1 * r * (v1 * v1 * (r * e)) + v0 * v0 * e * (v1 * v1 * (r * e)):=by
  have:2 * (2 * ((u1' * u1' * r * (v0' * v0' * e) + u1' * u1' * r * (v1' * v1' * (r * e)) + v0' * v0' * e * (v1' * v1' * (r * e))) - (u1 * u1 * r * (v0 * v0 * e) + u1 * u1 * r * (v1 * v1 * (r * e)) + v0 * v0 * e * (v1 * v1 * (r * e)))))=0:=by clear e2 e3 f1 f3; grind
  have:=bs' (bs' this)
  grind
 have f4:u1' * u1' * r * (v0' * v0' * e) * (v1' * v1' * (r * e))=u1 * u1 * r * (v0 * v0 * e) * (v1 * v1 * (r * e)):=by
  have:u1' * u1' * r * (v0' * v0' * e) * (v1' * v1' * (r * e))=(u1' * v0' * v1') * (u1' * v0' * v1') * (r * r * e * e):=by grind
  rw [this,f3]; grind
 clear e2 e3 e4 h;have hu:u1' * u1'=u1 * u1:=by
  rcases al_3 f1 f2 f4 with z | z | z
  ·exact bm' r0 z
  ·obtain ⟨q1,q2⟩:=cn' n3 (x:=r * u1') (y:=v0) (by clear f1 f2 f3 f4; grind);have:u1'=0:=by rcases mul0 q2 with w | w; exact (r0 w).elim; exact w
   rw [this,i1 this]
  ·obtain ⟨q1,q2⟩:=cn' n2 (x:=u1') (y:=v1) (bm' r0 (by clear f1 f2 f3 f4; grind));rw [q2,i1 q2]
 have hv0:v0' * v0'=v0 * v0:=by
  rcases al_3 (x:=v0' * v0' * e) (y:=u1' * u1' * r) (z:=v1' * v1' * (r * e)) (a:=u1 * u1 * r) (b:=v0 * v0 * e) (c:=v1 * v1 * (r * e)) (by clear f2 f3 f4; grind) (by clear f1 f3 f4; grind) (by clear f1 f2 f3; grind) with z | z | z
  ·obtain ⟨q1,q2⟩:=cn' n3 (x:=r * u1) (y:=v0') (by clear f1 f2 f3 f4; grind);rw [q1,i2 q1]
  ·exact bm' q0 z
  ·obtain ⟨q1,q2⟩:=cn' n1 (x:=v0') (y:=v1) (bm' q0 (by clear f1 f2 f3 f4; grind));rw [q2,i2 q2]
 have hv1:v1' * v1'=v1 * v1:=by
  rcases al_3 (x:=v1' * v1' * (r * e)) (y:=u1' * u1' * r) (z:=v0' * v0' * e) (a:=u1 * u1 * r) (b:=v0 * v0 * e) (c:=v1 * v1 * (r * e)) (by clear f2 f3 f4; grind) (by clear f1 f3 f4; grind) (by clear f1 f2 f3; grind) with z | z | z
  ·obtain ⟨q1,q2⟩:=cn' n2 (x:=u1) (y:=v1') (bm' r0 (by clear f1 f2 f3 f4; grind));rw [q1,i3 q1]
  ·obtain ⟨q1,q2⟩:=cn' n1 (x:=v0) (y:=v1') (bm' q0 (by clear f1 f2 f3 f4; grind));rw [q1,i3 q1]
  ·have re:r * e≠0:=fun z=>by rcases mul0 z with w | w; exact r0 w; exact q0 w
   exact bm' re z
 exact ⟨e1,hu,hv0,hv1,f3⟩
end
end Mine
set_option maxHeartbeats 4000000
namespace Bk
open PySem PySem.Spec PyProof.Rows L2 DL
noncomputable def is_int:D->Option Bool
 | .non=>some false
 | .bl _=>some true
 | .int _=>some true
 | .str _=>some false
 | .tup _=>some false
 | .lst _=>some false
 | .dct=>some false
 | _=>none
noncomputable def is_bool:D->Option Bool
 | .non=>some false
 | .bl _=>some true
 | .int _=>some false
 | .str _=>some false
 | .tup _=>some false
 | .lst _=>some false
 | .dct=>some false
 | _=>none
noncomputable def is_list:D->Option Bool
 | .non=>some false
 | .bl _=>some false
 | .int _=>some false
 | .str _=>some false
 | .tup _=>some false
 | .lst _=>some true
 | .dct=>some false
 | _=>none
noncomputable def absAt (i:Nat) (δ:DS):Nat:=match δ[i]? with
 | some (some sv)=>(match sv.view with | .int i=>i.natAbs + 1 | _=>0)
 | _=>0
noncomputable def fuel_qA_1:DS->Nat:=absAt 3
noncomputable def b_qA:DS->Out :=
 (seqD (setD 2 (bindF (consD (slotD 0) (fun _=>.ok [])) absG)) (seqD (setD 3 (bindF (consD (slotD 1) (fun _=>.ok [])) absG)) (seqD (whileF fuel_qA_1 (bindT (two (slotD 3) (fun _=>.ok (.int 0)) neD) boolD) (seqD (setD 4 (two (slotD 2) (slotD 3) modD)) (seqD (setD 2 (slotD 3)) (setD 3 (slotD 4))))) (retD (slotD 2)))))
noncomputable def F_qA:List D->Res D:=fnD 2 5 b_qA
noncomputable def b_qB:DS->Out :=
 (retD (tupF (consD (two (two (slotD 0) (fun _=>.ok (.int 0)) ixD) (two (tupF (consD (fun _=>.ok (.int 0)) (fun _=>.ok []))) (two (two (fun _=>.ok (.int 1)) (slotD 1) shlD) (bindF (consD (two (slotD 0) (fun _=>.ok (.int 0)) ixD) (fun _=>.ok [])) lenG) subD) mulE) addD) (consD (two (slotD 0) (fun _=>.ok (.int 1)) ixD) (fun _=>.ok [])))))
noncomputable def F_qB:List D->Res D:=fnD 2 2 b_qB
noncomputable def b_qf:DS->Out :=
 (retD (bindF (consD (compD 1 [] (tgtN 0) (two (slotD 0) (fun _=>.ok (.int 0)) eqD) (bindL (slotD 0) seqItems)) (fun _=>.ok [])) allG))
noncomputable def F_qf:List D->Res D:=fnD 1 1 b_qf
noncomputable def b_qi:DS->Out :=
 (retD (sliceF (slotD 0) noPart (partF (two (bindF (consD (slotD 0) (fun _=>.ok [])) lenG) (fun _=>.ok (.int 2)) fdivD))))
noncomputable def F_qi:List D->Res D:=fnD 1 1 b_qi
noncomputable def b_qg:DS->Out :=
 (retD (sliceF (slotD 0) (partF (two (bindF (consD (slotD 0) (fun _=>.ok [])) lenG) (fun _=>.ok (.int 2)) fdivD)) noPart))
noncomputable def F_qg:List D->Res D:=fnD 1 1 b_qg
noncomputable def b_qe:DS->Out :=
 (retD (bindF (consD (compD 1 [] (tgtN 0) (negF (slotD 0)) (bindL (slotD 0) seqItems)) (fun _=>.ok [])) tupleG))
noncomputable def F_qe:List D->Res D:=fnD 1 1 b_qe
noncomputable def b_qv:DS->Out :=
 (seqD (ifS (bindT (two (slotD 1) (bindF (consD (slotD 0) (fun _=>.ok [])) lenG) (cmpD fun i j=>decide (i < j))) boolD) (retD (two (slotD 0) (slotD 1) ixD)) Out.nxt) (retD (fun _=>.ok (.int 0))))
noncomputable def F_qv:List D->Res D:=fnD 2 2 b_qv
noncomputable def b_qp:DS->Out :=
 (retD (andV (bindF (slotD 0) (isG Bk.is_int)) (notV (bindF (slotD 0) (isG Bk.is_bool)))))
noncomputable def F_qp:List D->Res D:=fnD 1 1 b_qp
noncomputable def fuel_qk_1:DS->Nat:=absAt 1
noncomputable def b_qk:DS->Out :=
 (seqD (whileF fuel_qk_1 (bindT (two (slotD 1) (fun _=>.ok (.int 0)) neD) boolD) (seqD (setD 2 (two (slotD 0) (slotD 1) modD)) (seqD (setD 0 (slotD 1)) (setD 1 (slotD 2))))) (retD (bindF (consD (slotD 0) (fun _=>.ok [])) absG)))
noncomputable def F_qk:List D->Res D:=fnD 2 3 b_qk
noncomputable def b_qr:DS->Out :=
 (retD (bindF (consD (compD 2 [] (tupTgt [0,1]) (two (slotD 0) (slotD 1) addD) (bindRg (consD (slotD 0) (consD (slotD 1) (fun _=>.ok []))) zipG)) (fun _=>.ok [])) tupleG))
noncomputable def F_qr:List D->Res D:=fnD 2 2 b_qr
noncomputable def b_qj:DS->Out :=
 (retD (bindF (consD (compD 1 [0] (tgtN 0) (two (slotD 1) (slotD 0) mulE) (bindL (slotD 1) seqItems)) (fun _=>.ok [])) tupleG))
noncomputable def F_qj:List D->Res D:=fnD 2 2 b_qj
noncomputable def b_qF:DS->Out :=
 (seqD (ifS (bindT (two (slotD 1) (fun _=>.ok (.int 0)) eqD) boolD) (raiseD "NoOver" (consD (fun _=>.ok (.str "no number has the bottom nought")) (fun _=>.ok []))) Out.nxt) (seqD (setD 2 (slotD 1)) (seqD (forS (tgtN 3) (bindL (slotD 0) seqItems) (setD 2 (bindF (consD (slotD 2) (consD (slotD 3) (fun _=>.ok []))) F_qA))) (seqD (ifS (bindT (two (slotD 1) (fun _=>.ok (.int 0)) (cmpD fun i j=>decide (i < j))) boolD) (setD 2 (negF (slotD 2))) Out.nxt) (retD (tupF (consD (bindF (consD (compD 1 [2] (tgtN 0) (two (slotD 0) (slotD 1) fdivD) (bindL (slotD 0) seqItems)) (fun _=>.ok [])) tupleG) (consD (two (slotD 1) (slotD 2) fdivD) (fun _=>.ok [])))))))))
noncomputable def F_qF:List D->Res D:=fnD 2 4 b_qF
noncomputable def b_qy:DS->Out :=
 (retD (tupF (consD (bindF (consD (two (slotD 0) (fun _=>.ok (.int 0)) ixD) (fun _=>.ok [])) F_qe) (consD (two (slotD 0) (fun _=>.ok (.int 1)) ixD) (fun _=>.ok [])))))
noncomputable def F_qy:List D->Res D:=fnD 1 1 b_qy
noncomputable def b_qG:DS->Out :=
 (seqD (setD 2 (compD 2 [1,0] (tupTgt [0,1]) (two (two (slotD 0) (two (slotD 2) (fun _=>.ok (.int 1)) ixD) mulE) (two (slotD 1) (two (slotD 3) (fun _=>.ok (.int 1)) ixD) mulE) addD) (bindRg (consD (two (slotD 0) (fun _=>.ok (.int 0)) ixD) (consD (two (slotD 1) (fun _=>.ok (.int 0)) ixD) (fun _=>.ok []))) zipG))) (retD (bindF (consD (bindF (consD (slotD 2) (fun _=>.ok [])) tupleG) (consD (two (two (slotD 0) (fun _=>.ok (.int 1)) ixD) (two (slotD 1) (fun _=>.ok (.int 1)) ixD) mulE) (fun _=>.ok []))) F_qF)))
noncomputable def F_qG:List D->Res D:=fnD 2 3 b_qG
noncomputable def b_qD:DS->Out :=
 (retD (tupF (consD (bindF (consD (bindF (consD (two (slotD 0) (fun _=>.ok (.int 0)) ixD) (fun _=>.ok [])) F_qi) (consD (two (slotD 0) (fun _=>.ok (.int 1)) ixD) (fun _=>.ok []))) F_qF) (consD (bindF (consD (bindF (consD (two (slotD 0) (fun _=>.ok (.int 0)) ixD) (fun _=>.ok [])) F_qg) (consD (two (slotD 0) (fun _=>.ok (.int 1)) ixD) (fun _=>.ok []))) F_qF) (fun _=>.ok [])))))
noncomputable def F_qD:List D->Res D:=fnD 1 1 b_qD
noncomputable def b_qo:DS->Out :=
 (retD (bindF (consD (compD 2 [] (tupTgt [0,1]) (two (slotD 0) (slotD 1) addD) (bindRg (consD (slotD 0) (consD (slotD 1) (fun _=>.ok []))) zipG)) (fun _=>.ok [])) tupleG))
noncomputable def F_qo:List D->Res D:=fnD 2 2 b_qo
noncomputable def b_qq:DS->Out :=
 (seqD (setD 3 (lstF (consD (fun _=>.ok (.int 271828183)) (consD (fun _=>.ok (.int 314159269)) (consD (fun _=>.ok (.int 161803399)) (consD (fun _=>.ok (.int 141421357)) (consD (fun _=>.ok (.int 173205081)) (fun _=>.ok [])))))))) (seqD (setD 3 (two (slotD 3) (lstF (consD (fun _=>.ok (.int 223606797)) (consD (fun _=>.ok (.int 244948975)) (consD (fun _=>.ok (.int 264575131)) (consD (fun _=>.ok (.int 331662479)) (consD (fun _=>.ok (.int 360555127)) (fun _=>.ok []))))))) addD)) (retD (two (two (two (two (slotD 0) (fun _=>.ok (.int 1)) addD) (two (slotD 3) (slotD 1) ixD) mulE) (fun _=>.ok (.int 1000000007)) modD) (slotD 2) modD))))
noncomputable def F_qq:List D->Res D:=fnD 3 4 b_qq
noncomputable def b_qn (R:List D->Res D):DS->Out :=
 (seqD (ifS (bindT (two (bindF (consD (slotD 0) (fun _=>.ok [])) lenG) (fun _=>.ok (.int 0)) eqD) boolD) (retD (tupF (consD (two (two (slotD 1) (fun _=>.ok (.int 0)) ixD) (two (slotD 2) (fun _=>.ok (.int 0)) ixD) mulE) (fun _=>.ok [])))) Out.nxt) (seqD (setD 3 (sliceF (slotD 0) noPart (partF (negF (fun _=>.ok (.int 1)))))) (seqD (setD 4 (bindF (consD (slotD 1) (fun _=>.ok [])) F_qi)) (seqD (setD 5 (bindF (consD (slotD 1) (fun _=>.ok [])) F_qg)) (seqD (setD 6 (bindF (consD (slotD 2) (fun _=>.ok [])) F_qi)) (seqD (setD 7 (bindF (consD (slotD 2) (fun _=>.ok [])) F_qg)) (seqD (setD 8 (bindF (consD (slotD 3) (consD (bindF (consD (slotD 3) (consD (slotD 5) (consD (slotD 7) (fun _=>.ok [])))) R) (consD (two (slotD 0) (negF (fun _=>.ok (.int 1))) ixD) (fun _=>.ok [])))) R)) (seqD (setD 9 (bindF (consD (bindF (consD (slotD 3) (consD (slotD 4) (consD (slotD 6) (fun _=>.ok [])))) R) (consD (slotD 8) (fun _=>.ok []))) F_qo)) (seqD (setD 10 (bindF (consD (bindF (consD (slotD 3) (consD (slotD 4) (consD (slotD 7) (fun _=>.ok [])))) R) (consD (bindF (consD (slotD 3) (consD (slotD 5) (consD (slotD 6) (fun _=>.ok [])))) R) (fun _=>.ok []))) F_qo)) (retD (two (slotD 9) (slotD 10) addD)))))))))))
noncomputable def Fr_qn:Nat->List D->Res D
 | 0=>fun _=>.stuck
 | n + 1=>fnD 3 11 (b_qn (Fr_qn n))
noncomputable def F_qn:List D->Res D:=Fr_qn 4
noncomputable def b_law_tops_times (R:List D->Res D):DS->Out :=
 (seqD (ifS (bindT (two (bindF (consD (slotD 1) (fun _=>.ok [])) lenG) (fun _=>.ok (.int 1)) eqD) boolD) (retD (tupF (consD (two (two (slotD 1) (fun _=>.ok (.int 0)) ixD) (two (slotD 2) (fun _=>.ok (.int 0)) ixD) mulE) (fun _=>.ok [])))) Out.nxt) (seqD (setD 3 (two (bindF (consD (slotD 1) (fun _=>.ok [])) lenG) (fun _=>.ok (.int 2)) fdivD)) (seqD (setD 4 (sliceF (slotD 0) noPart (partF (negF (fun _=>.ok (.int 1)))))) (seqD (setD 5 (bindF (consD (slotD 4) (consD (sliceF (slotD 1) (partF (slotD 3)) noPart) (consD (sliceF (slotD 2) (partF (slotD 3)) noPart) (fun _=>.ok [])))) R)) (seqD (setD 6 (bindF (consD (bindF (consD (slotD 4) (consD (sliceF (slotD 1) noPart (partF (slotD 3))) (consD (sliceF (slotD 2) noPart (partF (slotD 3))) (fun _=>.ok [])))) R) (consD (bindF (consD (slotD 4) (consD (two (slotD 0) (negF (fun _=>.ok (.int 1))) ixD) (consD (slotD 5) (fun _=>.ok [])))) R) (fun _=>.ok []))) F_qr)) (seqD (setD 7 (bindF (consD (slotD 4) (consD (sliceF (slotD 1) noPart (partF (slotD 3))) (consD (sliceF (slotD 2) (partF (slotD 3)) noPart) (fun _=>.ok [])))) R)) (retD (two (slotD 6) (bindF (consD (slotD 7) (consD (bindF (consD (slotD 4) (consD (sliceF (slotD 1) (partF (slotD 3)) noPart) (consD (sliceF (slotD 2) noPart (partF (slotD 3))) (fun _=>.ok [])))) R) (fun _=>.ok []))) F_qr) addD))))))))
noncomputable def Fr_law_tops_times:Nat->List D->Res D
 | 0=>fun _=>.stuck
 | n + 1=>fnD 3 8 (b_law_tops_times (Fr_law_tops_times n))
noncomputable def F_law_tops_times:List D->Res D:=Fr_law_tops_times 4
noncomputable def b_qE:DS->Out :=
 (retD (bindF (consD (bindF (consD (slotD 0) (consD (two (slotD 1) (fun _=>.ok (.int 0)) ixD) (consD (two (slotD 2) (fun _=>.ok (.int 0)) ixD) (fun _=>.ok [])))) F_qn) (consD (two (two (slotD 1) (fun _=>.ok (.int 1)) ixD) (two (slotD 2) (fun _=>.ok (.int 1)) ixD) mulE) (fun _=>.ok []))) F_qF))
noncomputable def F_qE:List D->Res D:=fnD 3 3 b_qE
noncomputable def b_qC:DS->Out :=
 (retD (tupF (consD (two (bindF (consD (two (slotD 0) (fun _=>.ok (.int 0)) ixD) (fun _=>.ok [])) F_qi) (bindF (consD (bindF (consD (two (slotD 0) (fun _=>.ok (.int 0)) ixD) (fun _=>.ok [])) F_qg) (fun _=>.ok [])) F_qe) addD) (consD (two (slotD 0) (fun _=>.ok (.int 1)) ixD) (fun _=>.ok [])))))
noncomputable def F_qC:List D->Res D:=fnD 1 1 b_qC
noncomputable def b_qt:DS->Out :=
 (retD (bindF (consD (two (slotD 0) (fun _=>.ok (.int 0)) ixD) (fun _=>.ok [])) F_qf))
noncomputable def F_qt:List D->Res D:=fnD 1 1 b_qt
noncomputable def b_ql:DS->Out :=
 (seqD (setD 1 (two (slotD 0) (fun _=>.ok (.int 1)) ixD)) (seqD (forS (tgtN 2) (bindL (two (slotD 0) (fun _=>.ok (.int 0)) ixD) seqItems) (setD 1 (bindF (consD (slotD 1) (consD (slotD 2) (fun _=>.ok []))) F_qk))) (retD (tupF (consD (bindF (consD (compD 1 [1] (tgtN 0) (two (slotD 0) (slotD 1) fdivD) (bindL (two (slotD 0) (fun _=>.ok (.int 0)) ixD) seqItems)) (fun _=>.ok [])) tupleG) (consD (two (two (slotD 0) (fun _=>.ok (.int 1)) ixD) (slotD 1) fdivD) (fun _=>.ok [])))))))
noncomputable def F_ql:List D->Res D:=fnD 1 3 b_ql
noncomputable def b_qh:DS->Out :=
 (seqD (ownC 2 (compD 1 [0] (tgtN 0) (two (bindF (consD (two (slotD 1) (fun _=>.ok (.int 5)) fdivD) (consD (slotD 0) (consD (fun _=>.ok (.int 19)) (fun _=>.ok [])))) F_qq) (fun _=>.ok (.int 9)) subD) (bindRg (consD (slotD 1) (fun _=>.ok [])) rng1))) (seqD (ifS (bindT (two (two (slotD 0) (fun _=>.ok (.int 5)) modD) (fun _=>.ok (.int 1)) eqD) boolD) (putD 2 (noX (two (two (slotD 0) (fun _=>.ok (.int 5)) fdivD) (slotD 1) modD)) (two (two (two (slotD 0) (fun _=>.ok (.int 5)) fdivD) (two (two (fun _=>.ok (.int 2)) (two (fun _=>.ok (.int 10)) (fun _=>.ok (.int 9)) powD) mulE) (fun _=>.ok (.int 1)) addD) modD) (two (fun _=>.ok (.int 10)) (fun _=>.ok (.int 9)) powD) subD)) Out.nxt) (seqD (ifS (bindT (two (two (slotD 0) (fun _=>.ok (.int 5)) modD) (fun _=>.ok (.int 2)) eqD) boolD) (ownC 2 (compD 2 [0] (tupTgt [0,1]) (two (slotD 1) (bindF (consD (two (two (two (two (slotD 2) (fun _=>.ok (.int 5)) fdivD) (two (slotD 0) (fun _=>.ok (.int 1)) addD) fdivD) (fun _=>.ok (.int 2)) modD) (fun _=>.ok (.int 0)) eqD) (fun _=>.ok [])) intG) mulE) (bindRg (consD (slotD 2) (fun _=>.ok [])) enumG))) Out.nxt) (seqD (ifS (bindT (two (two (slotD 0) (fun _=>.ok (.int 5)) modD) (fun _=>.ok (.int 3)) eqD) boolD) (ownC 2 (compD 2 [1,0] (tupTgt [0,1]) (two (slotD 1) (bindF (consD (two (slotD 0) (two (two (two (slotD 3) (fun _=>.ok (.int 5)) fdivD) (slotD 2) modD) (fun _=>.ok (.int 1)) addD) (cmpD fun i j=>decide (i < j))) (fun _=>.ok [])) intG) mulE) (bindRg (consD (slotD 2) (fun _=>.ok [])) enumG))) Out.nxt) (retD (bindF (consD (tupF (consD (bindF (consD (slotD 2) (fun _=>.ok [])) tupleG) (consD (two (fun _=>.ok (.int 1)) (bindF (consD (two (slotD 0) (fun _=>.ok (.int 5)) fdivD) (consD (fun _=>.ok (.int 8)) (consD (fun _=>.ok (.int 12)) (fun _=>.ok [])))) F_qq) addD) (fun _=>.ok [])))) (fun _=>.ok [])) F_ql))))))
noncomputable def F_qh:List D->Res D:=fnD 2 3 b_qh
end Bk
set_option exponentiation.threshold 300000
namespace Bk
open PySem PySem.Spec PyProof.Rows L2 DL Mine
theorem fi' (i:Int):F_qp [.int i]=.ok (.bl true):=rfl
noncomputable def cell (ns:List Int) (k:Nat):Int:=ns.getD k 0
theorem ka' (ns:List Int) (k:Nat):F_qv [.lst (ns.map .int),.int k]=.ok (.int (cell ns k)):=by
 show outD (b_qv [some (.arg (.lst (ns.map .int))),some (.arg (.int k))])=_;unfold b_qv cell;push_cast [List.length_map]
 by_cases h:k < ns.length
 ·have h':((k:Int) < (ns.length:Int)):=by omega
  have hz:(ns.map D.int)[k]? = some (.int ns[k]):=by simp [h]
  simp only [h',decide_true,↓reduceIte,sq_ret,out_ret,cS' _ k _ hz,on_ok];simp [h]
 ·have h':¬((k:Int) < (ns.length:Int)):=by omega
  have hz:ns[k]? = none:=List.getElem?_eq_none (by omega);simp only [h',decide_false,Bool.false_eq_true,↓reduceIte,sq_nxt,on_ok,out_ret];simp [hz];rfl
abbrev lcc:DS->Res Bool:=bindT (two (slotD 1) (fun _=>.ok (.int 0)) neD) boolD
abbrev lcb:DS->Out:=seqD (setD 2 (two (slotD 0) (slotD 1) modD)) (seqD (setD 0 (slotD 1)) (setD 1 (slotD 2)))
theorem hX':∀(n:Nat) (s0 s1:SV) (z:Option SV) (x y:Int),s0.view=.int x->s1.view=.int y->y.natAbs < n ->
  ∃s0' s1' z' g,whileD lcc lcb n [some s0,some s1,z]=.nxt [some s0',s1',z']/\s0'.view=.int g/\g.natAbs=Int.gcd x y
 | 0,_,_,_,_,_,_,_,h=>absurd h (Nat.not_lt_zero _)
 | n + 1,s0,s1,z,x,y,h0,h1,h=>by
  rw [whileD];have e:lcc [some s0,some s1,z]=.ok (!decide (y=0)):=by
   simp only [lcc,ap_seq,sq_nxt,sq_ret,ap_set,on_ok,ont_ok,onl_ok,ap_if,ap_two,ap_bF,ap_bT,ap_bL,ap_bR,ap_cons,ap_tup,ap_lst,ap_ret,ap_neg,neg_ok,ap_notT,ap_andT,ap_orT,ap_andV,ap_notV,ap_for,ap_slice,ap_part,ap_noPart,part_int,out_ret,cmp_ok,add_ok,sub_ok,bool_ok,truth_bl,abs_ok,len_tup,len_lst,tuple_lst,seq_tup,seq_lst,vw_val,vw_arg,eqI,neI,bnd_ok,mulE_i,sl0,st0,sl1,st1,sl2,st2,sl3,st3,sl4,st4,sl5,st5,sl6,st6,sl7,st7,sl8,st8,sl9,st9,sl10,st10,sl11,st11,tup1,tup2,lst2,tup3,tup4,lst4,lst5,lst6,ix_tup0,ix_lst0,ix_tup1,ix_lst1,ix_lst2,ix_lst3,↓reduceIte,decide_true,decide_false,Bool.not_true,Bool.not_false,Bool.false_eq_true,Int.reduceEq,Int.reduceNe,Int.reduceLT,Int.reduceLE,Nat.reduceAdd,cN0,cN1,cN2,List.length_cons,List.length_nil,h1]
  rw [e]
  by_cases c:y=0
  ·subst c;exact ⟨s0,some s1,z,x,rfl,h0,by simp⟩
  ·simp only [c,decide_false,Bool.not_false];have e2:lcb [some s0,some s1,z]=.nxt [some (.val (.int y)),some (.val (.int (Int.fmod x y))),some (.val (.int (Int.fmod x y)))]:=by
    simp only [lcb,ap_seq,sq_nxt,sq_ret,ap_set,on_ok,ont_ok,onl_ok,ap_if,ap_two,ap_bF,ap_bT,ap_bL,ap_bR,ap_cons,ap_tup,ap_lst,ap_ret,ap_neg,neg_ok,ap_notT,ap_andT,ap_orT,ap_andV,ap_notV,ap_for,ap_slice,ap_part,ap_noPart,part_int,out_ret,cmp_ok,add_ok,sub_ok,bool_ok,truth_bl,abs_ok,len_tup,len_lst,tuple_lst,seq_tup,seq_lst,vw_val,vw_arg,eqI,neI,bnd_ok,mulE_i,sl0,st0,sl1,st1,sl2,st2,sl3,st3,sl4,st4,sl5,st5,sl6,st6,sl7,st7,sl8,st8,sl9,st9,sl10,st10,sl11,st11,tup1,tup2,lst2,tup3,tup4,lst4,lst5,lst6,ix_tup0,ix_lst0,ix_tup1,ix_lst1,ix_lst2,ix_lst3,↓reduceIte,decide_true,decide_false,Bool.not_true,Bool.not_false,Bool.false_eq_true,Int.reduceEq,Int.reduceNe,Int.reduceLT,Int.reduceLE,Nat.reduceAdd,cN0,cN1,cN2,List.length_cons,List.length_nil,h1,h0,modI c]
   rw [e2];obtain ⟨s0',s1',z',g,q1,q2,q3⟩:=hX' n (.val (.int y)) (.val (.int (Int.fmod x y))) (some (.val (.int (Int.fmod x y)))) y (Int.fmod x y) rfl rfl (by have:=gu' x c; omega);exact ⟨s0',s1',z',g,q1,q2,by rw [q3,jg']⟩
theorem cz' (a b:Int):F_qk [.int a,.int b]=.ok (.int (cm a b)):=by
 show outD (b_qk [some (.arg (.int a)),some (.arg (.int b)),none])=_;unfold b_qk;obtain ⟨s0',s1',z',g,q1,q2,q3⟩:=hX' (b.natAbs + 1) (.arg (.int a)) (.arg (.int b)) none a b rfl rfl (Nat.lt_succ_self _);rw [ap_seq];show outD ((whileD lcc lcb (b.natAbs + 1) [some (.arg (.int a)),some (.arg (.int b)),none]).seq _)=_;rw [q1];push_cast [q2,q3];rfl
abbrev cc:DS->Res Bool:=bindT (two (slotD 3) (fun _=>.ok (.int 0)) neD) boolD
abbrev cb:DS->Out:=(seqD (setD 4 (two (slotD 2) (slotD 3) modD)) (seqD (setD 2 (slotD 3)) (setD 3 (slotD 4))))
theorem cX' (p q:Option SV):∀(n:Nat) (x y:Int) (z:Option SV),0<=x->0<=y->y.toNat < n ->
  ∃z',whileD cc cb n [p,q,some (.val (.int x)),some (.val (.int y)),z]=.nxt [p,q,some (.val (.int (cm x y))),some (.val (.int 0)),z']
 | 0,_,_,_,_,_,h=>absurd h (Nat.not_lt_zero _)
 | n + 1,x,y,z,hx,hy,h=>by
  rw [whileD];have e:cc [p,q,some (.val (.int x)),some (.val (.int y)),z]=.ok (!decide (y=0)):=rfl;rw [e]
  by_cases c:y=0
  ·subst c;exact ⟨z,by rw [kK' hx]; rfl⟩
  ·simp only [c,decide_false,Bool.not_false];have e2:cb [p,q,some (.val (.int x)),some (.val (.int y)),z]=.nxt [p,q,some (.val (.int y)),some (.val (.int (Int.fmod x y))),some (.val (.int (Int.fmod x y)))]:=by
    simp only [cb,ap_seq,sq_nxt,sq_ret,ap_set,on_ok,ont_ok,onl_ok,ap_if,ap_two,ap_bF,ap_bT,ap_bL,ap_bR,ap_cons,ap_tup,ap_lst,ap_ret,ap_neg,neg_ok,ap_notT,ap_andT,ap_orT,ap_andV,ap_notV,ap_for,ap_slice,ap_part,ap_noPart,part_int,out_ret,cmp_ok,add_ok,sub_ok,bool_ok,truth_bl,abs_ok,len_tup,len_lst,tuple_lst,seq_tup,seq_lst,vw_val,vw_arg,eqI,neI,bnd_ok,mulE_i,sl0,st0,sl1,st1,sl2,st2,sl3,st3,sl4,st4,sl5,st5,sl6,st6,sl7,st7,sl8,st8,sl9,st9,sl10,st10,sl11,st11,tup1,tup2,lst2,tup3,tup4,lst4,lst5,lst6,ix_tup0,ix_lst0,ix_tup1,ix_lst1,ix_lst2,ix_lst3,↓reduceIte,decide_true,decide_false,Bool.not_true,Bool.not_false,Bool.false_eq_true,Int.reduceEq,Int.reduceNe,Int.reduceLT,Int.reduceLE,Nat.reduceAdd,cN0,cN1,cN2,List.length_cons,List.length_nil,modI c]
   rw [e2];have yp:0 < y:=by omega
   obtain ⟨z',e⟩:=cX' p q n y (Int.fmod x y) (some (.val (.int (Int.fmod x y)))) hy (Int.fmod_nonneg_of_pos x yp) (by have:=Int.fmod_lt_of_pos x yp; omega);refine ⟨z',?_⟩;rw [kJ' hx hy] at e;exact e
theorem fO' (a b:Int):F_qA [.int a,.int b]=.ok (.int (cm a b)):=by
 show outD (b_qA [some (.arg (.int a)),some (.arg (.int b)),none,none,none])=_;unfold b_qA;obtain ⟨z',e⟩:=cX' (some (.arg (.int a))) (some (.arg (.int b))) (((b.natAbs:Int)).natAbs + 1) a.natAbs b.natAbs none (by omega) (by omega) (by omega);rw [me'] at e;push_cast [DL.ap_seq];show outD ((whileD cc cb (((b.natAbs:Int)).natAbs + 1) [some (.arg (.int a)),some (.arg (.int b)),some (.val (.int (a.natAbs:Nat))),some (.val (.int (b.natAbs:Nat))),none]).seq _)=_;rw [e]; rfl
theorem mp' {ts:List Int} {b K:Int} (h:Nf ts b) (hK:K≠0) (hts:ts≠[]) (hl:ts.length<=63) (hb:K.natAbs < 2 ^ 8000) :
  F_qF [.tup ((ts.map (K * ·)).map .int),.int (K * b)]=.ok (num ts b):=by
 show outD (b_qF [some (.arg (.tup ((ts.map (K * ·)).map .int))),some (.arg (.int (K * b))),none,none])=_;unfold b_qF;have bp:=h.pos;have nb:¬(K * b=0):=fun z=>by
  rcases Int.mul_eq_zero.mp z with q | q
  ·exact hK q
  ·omega
 obtain ⟨z',e⟩:=cD' (i:=3) (f:=cm) (b:=setD 2 (bindF (consD (slotD 2) (consD (slotD 3) (fun _=>.ok []))) F_qA))
  (fun acc z=>[some (.val (.tup ((ts.map (K * ·)).map .int))),some (.val (.int (K * b))),some (.val (.int acc)),z])
  (fun acc z t=>by push_cast [fO']) (ts.map (K * ·)) (K * b) none
 rw [eo' h hK hts] at e;have th:thaw [some (SV.arg (.tup ((ts.map (K * ·)).map .int))),some (.arg (.int (K * b))),some (.val (.int (K * b))),none]=[some (.val (.tup ((ts.map (K * ·)).map .int))),some (.val (.int (K * b))),some (.val (.int (K * b))),none]:=rfl;push_cast [nb,th,e];have th2:thawO (Out.nxt [some (.val (.tup ((ts.map (K * ·)).map .int))),some (.val (.int (K * b))),some (.val (.int (K.natAbs:Nat))),z'])=.nxt [some (.val (.tup ((ts.map (K * ·)).map .int))),some (.val (.int (K * b))),some (.val (.int (K.natAbs:Nat))),z'.map thaw2]:=rfl;simp only [th2,sq_nxt];have last:∀z2:Option SV,outD (retD (tupF (consD (bindF (consD (compD 1 [2] (tgtN 0) (two (slotD 0) (slotD 1) fdivD) (bindL (slotD 0) seqItems)) (fun _=>.ok [])) tupleG) (consD (two (slotD 1) (slotD 2) fdivD) (fun _=>.ok []))))
   [some (.val (.tup ((ts.map (K * ·)).map .int))),some (.val (.int (K * b))),some (.val (.int K)),z2])=.ok (num ts b):=by
  intro z2;have cp:compD 1 [2] (tgtN 0) (two (slotD 0) (slotD 1) fdivD) (bindL (slotD 0) seqItems) [some (.val (.tup ((ts.map (K * ·)).map .int))),some (.val (.int (K * b))),some (.val (.int K)),z2]=.ok (.lst ((ts.map (K * ·)).map fun t=>.int (Int.fdiv t K))) :=
   bl' (rest:=[some (.arg (.int K))]) rfl rfl (by rw [List.length_map]; exact Nat.le_trans hl (by decide)) fun t _=>by
    push_cast [cs' hK hb]
  push_cast [cp,cs' hK hb];rw [List.map_map];simp only [Function.comp_def,ct' _ _ hK]
 by_cases c:K * b < 0
 ·have kn:-((K.natAbs:Nat):Int)=K:=by
   rcases Int.lt_or_le K 0 with q | q
   ·omega
   ·have:=Int.mul_nonneg q (Int.le_of_lt bp); omega
  push_cast [c,kn];exact last _
 ·have kn:((K.natAbs:Nat):Int)=K:=by
   rcases Int.lt_or_le K 0 with q | q
   ·have:=Int.mul_neg_of_neg_of_pos q bp; omega
   ·omega
  push_cast [c,kn];exact last _
theorem fj' (x:List Int):F_qi [TI x]=.ok (TI (frH x)):=by
 show outD (b_qi [some (.arg (TI x))])=_;unfold b_qi frH;push_cast [List.length_map,dC',hF']
theorem w_behind (x:List Int):F_qg [TI x]=.ok (TI (bhH x)):=by
 show outD (b_qg [some (.arg (TI x))])=_;unfold b_qg bhH;push_cast [List.length_map,dC',hG']
theorem mulB {a b:Int} (h:a.natAbs < 2 ^ 200000) (h2:b.natAbs < 2 ^ 200000):mulD (.int a) (.int b)=.ok (.int (a * b)):=by
 unfold mulD;have e:200000<=2 ^ 20:=by decide
 exact if_pos (.inl ⟨Nat.le_trans (intBits_le h) e,Nat.le_trans (intBits_le h2) e⟩)
theorem bn' {n m:Nat} (e:n<=m):2 ^ n<=2 ^ m:=Nat.pow_le_pow_right (by decide) e
theorem upB {x n:Nat} (h:x < 2 ^ n) (e:n<=200000):x < 2 ^ 200000:=Nat.lt_of_lt_of_le h (bn' e)
theorem up8 {x n:Nat} (h:x < 2 ^ n) (e:n<=8000):x < 2 ^ 8000:=Nat.lt_of_lt_of_le h (bn' e)
theorem cY' (x y:List Int) (hl:x.length<=1000):F_qo [TI x,TI y]=.ok (TI (addL x y)):=by
 show outD (b_qo [some (.arg (TI x)),some (.arg (TI y))])=_;unfold b_qo;have c:=cv' (fe:=two (slotD 0) (slotD 1) addD) (fi:=bindRg (consD (slotD 0) (consD (slotD 1) (fun _=>.ok []))) zipG) (fr:=[]) (δ:=[some (.arg (TI x)),some (.arg (TI y))]) (rest:=[]) (xs:=x) (ys:=y) (g:=fun a b=>.int (a + b))
  (rngF (ds:=[TI x,TI y]) rfl rfl) rfl (Nat.le_trans hl (by decide)) fun a _ b _=>by push_cast [DL.ap_seq]
 rw [zipI] at c;push_cast [c]
theorem bT' (x:List Int) (hl:x.length<=1000):F_qe [TI x]=.ok (TI (x.map fun t=>-t)):=by
 show outD (b_qe [some (.arg (TI x))])=_;unfold b_qe;have c:=bl' (fe:=negF (slotD 0)) (fi:=bindL (slotD 0) seqItems) (fr:=[]) (δ:=[some (.arg (TI x))]) (rest:=[]) (ts:=x) (g:=fun t=>.int (-t))
  (by push_cast [DL.ap_seq]) rfl (Nat.le_trans hl (by decide)) fun t ht=>by push_cast [DL.ap_seq]
 have e:(x.map fun t=>D.int (-t))=(x.map fun t=>-t).map .int:=by rw [List.map_map]; rfl
 rw [e] at c;push_cast [c]
noncomputable def eT (ρ:Nat):Nat->Nat
 | 0=>0
 | k + 1=>2 * eT ρ k + ρ + 1
theorem ptB {ρ:Nat}:∀(rs:List (List Int)) {x y:List Int} {p q:Nat},(∀r∈rs,Bd ρ r)->Bd p x->Bd q y->Bd (p + q + eT ρ rs.length) (pt rs x y)
 | [],x,y,p,q,_,h1,h2=>fun t ht=>by
  rw [pt,List.mem_singleton] at ht;rw [ht]; show _ < 2 ^ (p + q); exact fG' h1.head h2.head
 | r :: rs,x,y,p,q,hr,h1,h2=>by
  have hr':∀r∈rs,Bd ρ r:=fun u hu=>hr u (List.mem_cons_of_mem _ hu);have ac:=ptB rs hr' h1.fr h2.fr;have bd:=ptB rs hr' h1.bh h2.bh;have ad:=ptB rs hr' h1.fr h2.bh;have bc:=ptB rs hr' h1.bh h2.fr;have sq:=ptB rs hr' bd (hr r (by simp));rw [pt];show Bd (p + q + (2 * eT ρ rs.length + ρ + 1)) _;refine Bd.app (Bd.mono ((ac.mono (by omega)).add sq) (by omega)) (Bd.mono (ad.add bc) (by omega))
theorem w_tt {ρ:Nat}:∀(rs:List (List Int)) (n:Nat) (x y:List Int) (p q:Nat),rs.length < n->Sc rs->(∀r∈rs,Bd ρ r)->x.length=2 ^ rs.length->y.length=2 ^ rs.length->Bd p x->Bd q y->p + q + eT ρ rs.length<=200000->rs.length<=8 ->
  Fr_qn n [RT rs,TI x,TI y]=.ok (TI (pt rs x y))
 | _,0,_,_,_,_,h,_,_,_,_,_,_,_,_=>absurd h (Nat.not_lt_zero _)
 | [],n + 1,x,y,p,q,_,_,_,hx,hy,bx,by_,hb,_=>by
  show outD (b_qn (Fr_qn n) [some (.arg (RT [])),some (.arg (TI x)),some (.arg (TI y)),none,none,none,none,none,none,none,none])=_;unfold b_qn;have e1:=upB bx.head (show p<=200000 by omega);have e2:=upB by_.head (show q<=200000 by omega);push_cast [List.reverse_nil,List.map_nil,fH' (be' (k:=0) hx),fH' (be' (k:=0) hy),mulB e1 e2];rfl
 | r :: rs,n + 1,x,y,p,q,hn,S,hr,hx,hy,bx,by_,hb,h8=>by
  obtain ⟨hr1,S⟩:=S;have hb:p + q + (2 * eT ρ rs.length + ρ + 1)<=200000:=hb;have h8:rs.length + 1<=8:=h8;have hr':∀r∈rs,Bd ρ r:=fun u hu=>hr u (List.mem_cons_of_mem _ hu);have a:=aU' hx;have b:=aX' hx;have c:=aU' hy;have d:=aX' hy;have hn':rs.length < n:=Nat.lt_of_succ_lt_succ hn;have i1:=w_tt rs n (frH x) (frH y) p q hn' S hr' a c bx.fr by_.fr (by omega) (by omega);have i2:=w_tt rs n (bhH x) (bhH y) p q hn' S hr' b d bx.bh by_.bh (by omega) (by omega);have i3:=w_tt rs n (frH x) (bhH y) p q hn' S hr' a d bx.fr by_.bh (by omega) (by omega);have i4:=w_tt rs n (bhH x) (frH y) p q hn' S hr' b c bx.bh by_.fr (by omega) (by omega);have i5:=w_tt rs n (pt rs (bhH x) (bhH y)) r (p + q + eT ρ rs.length) ρ hn' S hr' (aP' rs _ _ S b d) hr1 (ptB rs hr' bx.bh by_.bh) (hr r (by simp)) (by omega) (by omega);have small:2 ^ rs.length<=256:=Nat.le_trans (Nat.pow_le_pow_right (by decide) (show rs.length<=8 by omega)) (by decide);have l1:=aP' rs _ _ S a c;have l2:=aP' rs _ _ S (aP' rs _ _ S b d) hr1;have l3:=aP' rs _ _ S a d;have l4:=aP' rs _ _ S b c;have p1:=cY' (pt rs (frH x) (frH y)) (pt rs (pt rs (bhH x) (bhH y)) r) (by omega);have p2:=cY' (pt rs (frH x) (bhH y)) (pt rs (bhH x) (frH y)) (by omega);have f1:=bi' l1 l2;have f2:=bi' l3 l4;have ad:=fI' (a:=addL (pt rs (frH x) (frH y)) (pt rs (pt rs (bhH x) (bhH y)) r)) (b:=addL (pt rs (frH x) (bhH y)) (pt rs (bhH x) (frH y))) (be' f1) (by omega);show outD (b_qn (Fr_qn n) [some (.arg (RT (r :: rs))),some (.arg (TI x)),some (.arg (TI y)),none,none,none,none,none,none,none,none])=_;unfold b_qn;have z:¬(((rs.length + 1:Nat):Int)=0):=by omega
  push_cast [List.length_map,List.length_reverse,z,dB',hE',fj',w_behind,i1,i2,i3,i4,i5,p1,p2,ad,pt]
section
variable {rs:List (List Int)} {F:OF} {of:List Int->F.C} {ρ:Nat}
theorem br' {k:Nat} (h:k<=3):2 ^ k<=8:=Nat.le_trans (Nat.pow_le_pow_right (by decide) h) (by decide)
theorem n_qF (T:Tow rs F of) (h3:rs.length<=3) {ts:List Int} {b:Int} {n:Nat} (hl:ts.length=2 ^ rs.length) (hb:b≠0) (h1:Bd n ts) (h2:b.natAbs < 2 ^ n) (hn:n<=8000) :
  ∃d,F_qF [TI ts,.int b]=.ok d/\Nm of rs.length n d (of ts / (b:F.C)):=by
 obtain ⟨K,x,c,k0,e1,e2,nf,xl,kb,hN⟩:=hN' T hl hb h1 h2;refine ⟨_,?_,hN⟩;rw [e1,e2];exact mp' nf k0 (be' xl) (by have:=br' h3; omega) (up8 kb hn)
theorem n_qG (T:Tow rs F of) (h3:rs.length<=3) {p q:Nat} {d e:D} {u v:F.C} (h1:Nm of rs.length p d u) (h2:Nm of rs.length q e v) (hn:p + q + 1<=8000) :
  ∃z,F_qG [d,e]=.ok z/\Nm of rs.length (p + q + 1) z (u + v):=by
 obtain ⟨x,b,rfl,nx,lx,bx,bb,ex⟩:=h1;obtain ⟨y,c,rfl,ny,ly,b_y,bc,ey⟩:=h2;have pb:=nx.pos;have pc:=ny.pos;have e8:=br' h3;have hb:=upB bb (show p<=200000 by omega);have hc:=upB bc (show q<=200000 by omega);have sl:(sumL x y b c).length=2 ^ rs.length:=kL' lx ly b c;have sb:Bd (p + q + 1) (sumL x y b c):=by
  rw [<- dn'];have b1:=er' bx bc;have b2:=er' b_y bb;rw [Nat.add_comm q p] at b1;exact b1.add b2
 have bcb:(b * c).natAbs < 2 ^ (p + q + 1):=Nat.lt_of_lt_of_le (fG' bb bc) (bn' (by omega));obtain ⟨z,ez,hz⟩:=n_qF T h3 sl (Int.ne_of_gt (Int.mul_pos pb pc)) sb bcb hn;have val:of (sumL x y b c) / ((b * c:Int):F.C)=u + v:=by
  have b0:=aG' T (show b≠0 by omega);have c0:=aG' T (show c≠0 by omega);rw [<- dn',eA' T (by simpa using lx) (by simpa using ly),bP' T _ lx,bP' T _ ly,Lean.Grind.Ring.intCast_mul,ex,ey]
  grind
 rw [val] at hz;refine ⟨z,?_,hz⟩;show outD (b_qG [some (.arg (num x b)),some (.arg (num y c)),none])=_;unfold b_qG;have cp:=cv' (fe:=two (two (slotD 0) (two (slotD 2) (fun _=>.ok (.int 1)) ixD) mulE) (two (slotD 1) (two (slotD 3) (fun _=>.ok (.int 1)) ixD) mulE) addD) (fi:=bindRg (consD (two (slotD 0) (fun _=>.ok (.int 0)) ixD) (consD (two (slotD 1) (fun _=>.ok (.int 0)) ixD) (fun _=>.ok []))) zipG) (fr:=[1,0]) (δ:=[some (.arg (num x b)),some (.arg (num y c)),none]) (rest:=[some (.arg (num y c)),some (.arg (num x b))]) (xs:=x) (ys:=y) (g:=fun s t=>.int (s * c + t * b))
  (rngF (ds:=[TI x,TI y]) (by push_cast [DL.ap_seq]) rfl) rfl (Nat.le_trans (show x.length<=63 by omega) (by decide)) fun s hs t ht=>by push_cast [mulB (upB (bx s hs) (show p<=200000 by omega)) hc,mulB (upB (b_y t ht) (show q<=200000 by omega)) hb]
 have e:(List.zipWith (fun s t=>D.int (s * c + t * b)) x y)=(sumL x y b c).map .int:=by unfold sumL; rw [List.map_zipWith]
 rw [e] at cp;push_cast [cp,mulB hb hc,ez]
theorem n_qy (T:Tow rs F of) (h3:rs.length<=3) {p:Nat} {d:D} {u:F.C} (h1:Nm of rs.length p d u):∃z,F_qy [d]=.ok z/\Nm of rs.length p z (-u):=by
 obtain ⟨x,b,rfl,nx,lx,bx,bb,ex⟩:=h1;have pb:=nx.pos;have e8:=br' h3;refine ⟨num (x.map fun t=>-t) b,?_,_,_,rfl,mj' nx,by simpa using lx,fJ' bx,bb,?_⟩
 ·show outD (b_qy [some (.arg (num x b))])=_;unfold b_qy;push_cast [bT' x (by omega)]
 ·rw [fM' T lx,ex];have b0:=aG' T (show b≠0 by omega)
  grind
theorem n_qE (T:Tow rs F of) (h3:rs.length<=3) (hr:∀r∈rs,Bd ρ r) {p q:Nat} {d e:D} {u v:F.C} (h1:Nm of rs.length p d u) (h2:Nm of rs.length q e v) (hn:p + q + eT ρ rs.length<=8000) :
  ∃z,F_qE [RT rs,d,e]=.ok z/\Nm of rs.length (p + q + eT ρ rs.length) z (u * v):=by
 obtain ⟨x,b,rfl,nx,lx,bx,bb,ex⟩:=h1;obtain ⟨y,c,rfl,ny,ly,b_y,bc,ey⟩:=h2;have pb:=nx.pos;have pc:=ny.pos;have S:=T.sc;have t:F_qn [RT rs,TI x,TI y]=_:=w_tt rs 4 x y p q (by omega) S hr lx ly bx b_y (by omega) (by omega);have bcb:(b * c).natAbs < 2 ^ (p + q + eT ρ rs.length):=Nat.lt_of_lt_of_le (fG' bb bc) (bn' (by omega));obtain ⟨z,ez,hz⟩:=n_qF T h3 (aP' rs x y S lx ly) (Int.ne_of_gt (Int.mul_pos pb pc)) (ptB rs hr bx b_y) bcb hn;have val:of (pt rs x y) / ((b * c:Int):F.C)=u * v:=by
  have b0:=aG' T (show b≠0 by omega);have c0:=aG' T (show c≠0 by omega);rw [hL' T lx ly,Lean.Grind.Ring.intCast_mul,ex,ey]
  grind
 rw [val] at hz;refine ⟨z,?_,hz⟩;show outD (b_qE [some (.arg (RT rs)),some (.arg (num x b)),some (.arg (num y c))])=_;unfold b_qE;push_cast [t,mulB (upB bb (show p<=200000 by omega)) (upB bc (show q<=200000 by omega)),ez]
open Classical in
theorem jp' (T:Tow rs F of) (h3:rs.length<=3) {p:Nat} {d:D} {u:F.C} (h1:Nm of rs.length p d u):F_qt [d]=.ok (.bl (decide (u=0))):=by
 have h0:=h1;obtain ⟨x,b,rfl,nx,lx,bx,bb,ex⟩:=h1;have e8:=br' h3;have an:F_qf [TI x]=.ok (.bl (zA x)):=by
  show outD (b_qf [some (.arg (TI x))])=_;unfold b_qf;have c:=bl' (fe:=two (slotD 0) (fun _=>.ok (.int 0)) eqD) (fi:=bindL (slotD 0) seqItems) (fr:=[]) (δ:=[some (.arg (TI x))]) (rest:=[]) (ts:=x) (g:=fun t=>.bl (decide (t=0)))
   (by push_cast [DL.ap_seq]) rfl (Nat.le_trans (show x.length<=63 by omega) (by decide)) fun t ht=>by push_cast [DL.ap_seq]
  have e:(x.map fun t=>D.bl (decide (t=0)))=(x.map fun t=>decide (t=0)).map .bl:=by rw [List.map_map]; rfl
  rw [e] at c;push_cast [c,jP']
  congr 2
  unfold zA;rw [List.all_map]; rfl
 show outD (b_qt [some (.arg (num x b))])=_;unfold b_qt;push_cast [an]
 congr 2
 have:=h0.zero_iff T
 by_cases c:u=0
 ·rw [this.mp c]; simp [c]
 ·have:zA x=false:=by
   cases h:zA x with
   | false=>rfl
   | true=>exact (c (this.mpr h)).elim
  rw [this]; simp [c]
end
theorem kb' (n:Nat) (a b:List Int):gN n (a ++ b)=gN (gN n a) b:=by unfold gN; rw [List.foldl_append]
section
variable {F:OF}
end
section
variable {rs:List (List Int)} {F:OF} {of:List Int->F.C} {ρ:Nat}
section
variable {r:F.C} {hr:0 < r} {hn:∀z:F.C,z * z≠r}
theorem cy' (x:(extOF F r hr hn).C) (c:Int) (hc:(c:F.C)≠0):Ext.a (r:=r) (x / (c:(extOF F r hr hn).C))=Ext.a (r:=r) x / (c:F.C):=by
 show Ext.a x * ((c:F.C) / ((c:F.C) * (c:F.C) - (0:F.C) * (0:F.C) * r)) + Ext.b x * (-(0:F.C) / ((c:F.C) * (c:F.C) - (0:F.C) * (0:F.C) * r)) * r=_
 grind
theorem cZ' (x:(extOF F r hr hn).C) (c:Int) (hc:(c:F.C)≠0):Ext.b (r:=r) (x / (c:(extOF F r hr hn).C))=Ext.b (r:=r) x / (c:F.C):=by
 show Ext.a x * (-(0:F.C) / ((c:F.C) * (c:F.C) - (0:F.C) * (0:F.C) * r)) + Ext.b x * ((c:F.C) / ((c:F.C) * (c:F.C) - (0:F.C) * (0:F.C) * r))=_
 grind
noncomputable def cj (x:(extOF F r hr hn).C):(extOF F r hr hn).C:=(⟨Ext.a (r:=r) x,-Ext.b (r:=r) x⟩:Ext r)
noncomputable def em (x:F.C):(extOF F r hr hn).C:=(⟨x,0⟩:Ext r)
theorem mq' (x y:F.C):em (hr:=hr) (hn:=hn) (x + y)=em x + em y:=Ext.eqs (r:=r) rfl (show (0:F.C)=0 + 0 by grind)
theorem mr' (x y:F.C):em (hr:=hr) (hn:=hn) (x * y)=em x * em y:=Ext.eqs (r:=r) (show x * y=x * y + 0 * 0 * r by grind) (show (0:F.C)=x * 0 + 0 * y by grind)
theorem fP' (x y:(extOF F r hr hn).C):cj (x * y)=cj x * cj y:=by
 refine Ext.eqs (r:=r) ?_ ?_
 ·show Ext.a x * Ext.a y + Ext.b x * Ext.b y * r=Ext.a x * Ext.a y + -Ext.b x * -Ext.b y * r
  grind
 ·show -(Ext.a x * Ext.b y + Ext.b x * Ext.a y)=Ext.a x * -Ext.b y + -Ext.b x * Ext.a y
  grind
theorem kc' (x y:(extOF F r hr hn).C):cj (x + y)=cj x + cj y:=by
 refine Ext.eqs (r:=r) rfl ?_;show -(Ext.b x + Ext.b y)=-Ext.b x + -Ext.b y
 grind
theorem nh' (x:(extOF F r hr hn).C):cj (cj x)=x:=by
 refine Ext.eqs (r:=r) rfl ?_;show - -Ext.b x=Ext.b x
 grind
end
theorem kd' {r:List Int} {hr:0 < of r} {hn:∀z:F.C,z * z≠of r} {v:(extOF F (of r) hr hn).C} {x:List Int} {b:Int} (hb:(b:F.C)≠0) (e:v=exOf of r hr hn x / (b:(extOF F (of r) hr hn).C)):Ext.a (r:=of r) v=of (frH x) / (b:F.C)/\Ext.b (r:=of r) v=of (bhH x) / (b:F.C):=by
 rw [e];exact ⟨cy' _ b hb,cZ' _ b hb⟩
theorem lc' {r:List Int} {hr:0 < of r} {hn:∀z:F.C,z * z≠of r} {v:(extOF F (of r) hr hn).C} {x:List Int} {b:Int} (hb:(b:F.C)≠0) (e1:Ext.a (r:=of r) v=of (frH x) / (b:F.C)) (e2:Ext.b (r:=of r) v=of (bhH x) / (b:F.C)):v=exOf of r hr hn x / (b:(extOF F (of r) hr hn).C) :=
 Ext.eqs (r:=of r) (e1.trans (cy' (exOf of r hr hn x) b hb).symm) (e2.trans (cZ' (exOf of r hr hn x) b hb).symm)
theorem n_qC (T:Tow rs F of) (h3:rs.length < 3) {r:List Int} {hr:0 < of r} {hn:∀z:F.C,z * z≠of r} {p:Nat} {d:D} {v:(extOF F (of r) hr hn).C} (h:Nm (exOf of r hr hn) (rs.length + 1) p d v) :
  ∃z,F_qC [d]=.ok z/\Nm (exOf of r hr hn) (rs.length + 1) p z (cj v):=by
 obtain ⟨x,b,rfl,nx,lx,bx,bb,ex⟩:=h;have pb:=nx.pos;have b0:=aG' T (show b≠0 by omega);have lf:=aU' lx;have lb:=aX' lx;have e8:=br' (k:=rs.length) (by omega);have ad:=fI' (a:=frH x) (b:=(bhH x).map fun t=>-t) (be' lf) (by rw [List.length_map]; omega);have ll:(frH x).length=((bhH x).map fun t=>-t).length:=by rw [List.length_map,lf,lb]
 refine ⟨num (frH x ++ (bhH x).map fun t=>-t) b,?_,_,_,rfl,⟨pb,?_⟩,?_,Bd.app bx.fr (fJ' bx.bh),bb,?_⟩
 ·show outD (b_qC [some (.arg (num x b))])=_;unfold b_qC;push_cast [fj',w_behind,bT' (bhH x) (by omega),ad]
 ·rw [kb',hH',<- kb',kW']; exact nx.one
 ·rw [List.length_append,List.length_map,lf,lb,Nat.pow_succ]; omega
 ·obtain ⟨e1,e2⟩:=kd' b0 ex;refine lc' b0 ?_ ?_
  ·rw [dD' ll]; exact e1
  ·rw [dE' ll,fM' T lb];show -Ext.b v=_;rw [e2]; grind
theorem n_qD (T:Tow rs F of) (h3:rs.length < 3) {r:List Int} {hr:0 < of r} {hn:∀z:F.C,z * z≠of r} {p:Nat} {d:D} {v:(extOF F (of r) hr hn).C} (h:Nm (exOf of r hr hn) (rs.length + 1) p d v) (hp:p<=8000) :
  ∃y z,F_qD [d]=.ok (.tup [y,z])/\Nm of rs.length p y (Ext.a (r:=of r) v)/\Nm of rs.length p z (Ext.b (r:=of r) v):=by
 obtain ⟨x,b,rfl,nx,lx,bx,bb,ex⟩:=h;have pb:=nx.pos;have b0:=aG' T (show b≠0 by omega);obtain ⟨e1,e2⟩:=kd' b0 ex;obtain ⟨y,ey,hy⟩:=n_qF T (by omega) (aU' lx) (show b≠0 by omega) bx.fr bb hp;obtain ⟨z,ez,hz⟩:=n_qF T (by omega) (aX' lx) (show b≠0 by omega) bx.bh bb hp;rw [<- e1] at hy;rw [<- e2] at hz;refine ⟨y,z,?_,hy,hz⟩;show outD (b_qD [some (.arg (num x b))])=_;unfold b_qD;push_cast [fj',w_behind,ey,ez]
noncomputable def SOk (ρ:Nat):Nat->Nat->Prop
 | 0,p=>p<=200000
 | k + 1,p=>2 * p + eT ρ (k + 1)<=200000/\SOk ρ k (2 * p + eT ρ (k + 1))
theorem SOk.mono {ρ:Nat}:∀{k p q:Nat},SOk ρ k q->p<=q->SOk ρ k p
 | 0,_,_,h,e=>Nat.le_trans e h
 | k + 1,p,q,⟨h1,h2⟩,e=>⟨by omega,SOk.mono (k:=k) h2 (by omega)⟩
open Classical in
noncomputable def fabs {F:OF} (u:F.C):F.C:=if u < 0 then -u else u
end
theorem up {x n:Nat} (h:x < 2 ^ n) (m:Nat) (e:n<=m):x < 2 ^ m:=Nat.lt_of_lt_of_le h (Nat.pow_le_pow_right (by decide) e)
noncomputable def mixV:List Int:=[271828183,314159269,161803399,141421357,173205081,223606797,244948975,264575131,331662479,360555127]
noncomputable def mix (c:Int) (k:Nat) (m:Int):Int:=Int.fmod (Int.fmod ((c + 1) * mixV.getD k 0) 1000000007) m
theorem bM' (c:Int) (k:Nat) {m:Int} (h:0 < m):0<=mix c k m/\mix c k m < m:=⟨Int.fmod_nonneg_of_pos _ h,Int.fmod_lt_of_pos _ h⟩
theorem bh' (c:Int) (k:Nat) (m:Int) (hk:k < 10) (hm:0 < m):F_qq [.int c,.int k,.int m]=.ok (.int (mix c k m)):=by
 show outD (b_qq [some (.arg (.int c)),some (.arg (.int k)),some (.arg (.int m)),none])=_;unfold b_qq mix;have ad:addD (.lst [.int 271828183,.int 314159269,.int 161803399,.int 141421357,.int 173205081]) (.lst [.int 223606797,.int 244948975,.int 264575131,.int 331662479,.int 360555127])=.ok (.lst (mixV.map .int)):=rfl;have hl:k < mixV.length:=hk;have hg:(mixV.map D.int)[k]? = some (.int (mixV.getD k 0)):=by
  rw [List.getElem?_map,List.getD_eq_getElem?_getD,List.getElem?_eq_getElem hl]; rfl
 have hs:∀v∈mixV,v.natAbs < 2 ^ 64:=by decide
 have hv:(mixV.getD k 0).natAbs < 2 ^ 64:=by
  rw [List.getD_eq_getElem?_getD,List.getElem?_eq_getElem hl]; exact hs _ (List.getElem_mem hl)
 push_cast [ad,cS' _ k _ hg,mulR hv,modI (show (1000000007:Int)≠0 by decide),modI (Int.ne_of_gt hm)]
theorem ni':IsSc [[2]]/\IsSc [[3,0],[2]]/\IsSc [[5,0,0,0],[3,0],[2]]:=bv' (by decide) (by decide) (by decide) fun n hn=>by
 simp only [List.mem_cons,List.not_mem_nil,or_false] at hn;rcases hn with rfl | rfl | rfl | rfl | rfl | rfl | rfl
 ·exact ⟨1,by decide,by decide,by decide⟩
 ·exact ⟨1,by decide,by decide,by decide⟩
 ·exact ⟨2,by decide,by decide,by decide⟩
 ·exact ⟨2,by decide,by decide,by decide⟩
 ·exact ⟨3,by decide,by decide,by decide⟩
 ·exact ⟨3,by decide,by decide,by decide⟩
 ·exact ⟨5,by decide,by decide,by decide⟩
theorem nj':IsSc [[3]]/\IsSc [[5,0],[3]]/\IsSc [[7,0,0,0],[5,0],[3]]:=bv' (by decide) (by decide) (by decide) fun n hn=>by
 simp only [List.mem_cons,List.not_mem_nil,or_false] at hn;rcases hn with rfl | rfl | rfl | rfl | rfl | rfl | rfl
 ·exact ⟨1,by decide,by decide,by decide⟩
 ·exact ⟨2,by decide,by decide,by decide⟩
 ·exact ⟨3,by decide,by decide,by decide⟩
 ·exact ⟨2,by decide,by decide,by decide⟩
 ·exact ⟨4,by decide,by decide,by decide⟩
 ·exact ⟨5,by decide,by decide,by decide⟩
 ·exact ⟨10,by decide,by decide,by decide⟩
theorem nk':IsSc [[5]]/\IsSc [[7,0],[5]]/\IsSc [[11,0,0,0],[7,0],[5]]:=bv' (by decide) (by decide) (by decide) fun n hn=>by
 simp only [List.mem_cons,List.not_mem_nil,or_false] at hn;rcases hn with rfl | rfl | rfl | rfl | rfl | rfl | rfl
 ·exact ⟨2,by decide,by decide,by decide⟩
 ·exact ⟨2,by decide,by decide,by decide⟩
 ·exact ⟨5,by decide,by decide,by decide⟩
 ·exact ⟨3,by decide,by decide,by decide⟩
 ·exact ⟨7,by decide,by decide,by decide⟩
 ·exact ⟨8,by decide,by decide,by decide⟩
 ·exact ⟨19,by decide,by decide,by decide⟩
theorem nl':IsSc [[7]]/\IsSc [[11,0],[7]]/\IsSc [[13,0,0,0],[11,0],[7]]:=bv' (by decide) (by decide) (by decide) fun n hn=>by
 simp only [List.mem_cons,List.not_mem_nil,or_false] at hn;rcases hn with rfl | rfl | rfl | rfl | rfl | rfl | rfl
 ·exact ⟨2,by decide,by decide,by decide⟩
 ·exact ⟨3,by decide,by decide,by decide⟩
 ·exact ⟨8,by decide,by decide,by decide⟩
 ·exact ⟨3,by decide,by decide,by decide⟩
 ·exact ⟨9,by decide,by decide,by decide⟩
 ·exact ⟨11,by decide,by decide,by decide⟩
 ·exact ⟨31,by decide,by decide,by decide⟩
theorem nm':IsSc [[11]]/\IsSc [[13,0],[11]]/\IsSc [[2,0,0,0],[13,0],[11]]:=bv' (by decide) (by decide) (by decide) fun n hn=>by
 simp only [List.mem_cons,List.not_mem_nil,or_false] at hn;rcases hn with rfl | rfl | rfl | rfl | rfl | rfl | rfl
 ·exact ⟨3,by decide,by decide,by decide⟩
 ·exact ⟨3,by decide,by decide,by decide⟩
 ·exact ⟨11,by decide,by decide,by decide⟩
 ·exact ⟨1,by decide,by decide,by decide⟩
 ·exact ⟨4,by decide,by decide,by decide⟩
 ·exact ⟨5,by decide,by decide,by decide⟩
 ·exact ⟨16,by decide,by decide,by decide⟩
theorem nn':IsSc [[13]]/\IsSc [[2,0],[13]]/\IsSc [[3,0,0,0],[2,0],[13]]:=bv' (by decide) (by decide) (by decide) fun n hn=>by
 simp only [List.mem_cons,List.not_mem_nil,or_false] at hn;rcases hn with rfl | rfl | rfl | rfl | rfl | rfl | rfl
 ·exact ⟨3,by decide,by decide,by decide⟩
 ·exact ⟨1,by decide,by decide,by decide⟩
 ·exact ⟨5,by decide,by decide,by decide⟩
 ·exact ⟨1,by decide,by decide,by decide⟩
 ·exact ⟨6,by decide,by decide,by decide⟩
 ·exact ⟨2,by decide,by decide,by decide⟩
 ·exact ⟨8,by decide,by decide,by decide⟩
theorem hY' (i:Int) (h0:0<=i) (h6:i < 6):∃v1 v2 v3:Int,ixD (.lst [.int 2,.int 3,.int 5,.int 7,.int 11,.int 13]) (.int i)=.ok (.int v1)/\ixD (.lst [.int 2,.int 3,.int 5,.int 7,.int 11,.int 13]) (.int (Int.fmod (i + 1) 6))=.ok (.int v2)/\ixD (.lst [.int 2,.int 3,.int 5,.int 7,.int 11,.int 13]) (.int (Int.fmod (i + 2) 6))=.ok (.int v3)/\v1.natAbs < 2 ^ 10/\v2.natAbs < 2 ^ 10/\v3.natAbs < 2 ^ 10/\IsSc [[v1]]/\IsSc [[v2,0],[v1]]/\IsSc [[v3,0,0,0],[v2,0],[v1]]:=by
 have:i=0\/i=1\/i=2\/i=3\/i=4\/i=5:=by omega
 rcases this with z | z | z | z | z | z <;> rw [z]
 ·exact ⟨2,3,5,rfl,rfl,rfl,by decide,by decide,by decide,ni'⟩
 ·exact ⟨3,5,7,rfl,rfl,rfl,by decide,by decide,by decide,nj'⟩
 ·exact ⟨5,7,11,rfl,rfl,rfl,by decide,by decide,by decide,nk'⟩
 ·exact ⟨7,11,13,rfl,rfl,rfl,by decide,by decide,by decide,nl'⟩
 ·exact ⟨11,13,2,rfl,rfl,rfl,by decide,by decide,by decide,nm'⟩
 ·exact ⟨13,2,3,rfl,rfl,rfl,by decide,by decide,by decide,nn'⟩
theorem bd1 {n:Nat} {a:Int} (h:a.natAbs < 2 ^ n):Bd n [a]:=fun t ht=>by rw [List.mem_singleton.mp ht]; exact h
theorem bdc {n:Nat} {a:Int} {l:List Int} (h:a.natAbs < 2 ^ n) (hl:Bd n l):Bd n (a :: l):=fun t ht=>(List.mem_cons.mp ht).elim (fun z=>by rw [z]; exact h) (hl t)
theorem fk' (x y:List Int) (hl:x.length<=1000):F_qr [TI x,TI y]=.ok (TI (addL x y)):=by
 show outD (b_qr [some (.arg (TI x)),some (.arg (TI y))])=_;unfold b_qr;have c:=cv' (fe:=two (slotD 0) (slotD 1) addD) (fi:=bindRg (consD (slotD 0) (consD (slotD 1) (fun _=>.ok []))) zipG) (fr:=[]) (δ:=[some (.arg (TI x)),some (.arg (TI y))]) (rest:=[]) (xs:=x) (ys:=y) (g:=fun a b=>.int (a + b))
  (rngF (ds:=[TI x,TI y]) rfl rfl) rfl (Nat.le_trans hl (by decide)) fun a _ b _=>by push_cast [DL.ap_seq]
 rw [zipI] at c;push_cast [c]
theorem jq' (k:Int) (x:List Int) (hl:x.length<=1000) (hk:k.natAbs < 2 ^ 200000) (hx:Bd 200000 x):F_qj [.int k,TI x]=.ok (TI (x.map (k * ·))):=by
 show outD (b_qj [some (.arg (.int k)),some (.arg (TI x))])=_;unfold b_qj;have c:=bl' (fe:=two (slotD 1) (slotD 0) mulE) (fi:=bindL (slotD 1) seqItems) (fr:=[0]) (δ:=[some (.arg (.int k)),some (.arg (TI x))]) (rest:=[some (.arg (.int k))]) (ts:=x) (g:=fun t=>.int (k * t))
  (by push_cast [DL.ap_seq]) rfl (Nat.le_trans hl (by decide)) fun t ht=>by push_cast [mulB hk (hx t ht)]
 rw [ji'] at c;push_cast [c]
theorem w_lt {ρ:Nat}:∀(rs:List (List Int)) (n:Nat) (x y:List Int) (p q:Nat),rs.length < n->Sc rs->(∀r∈rs,Bd ρ r)->x.length=2 ^ rs.length->y.length=2 ^ rs.length->Bd p x->Bd q y->p + q + eT ρ rs.length<=200000->rs.length<=8 ->
  Fr_law_tops_times n [RT rs,TI x,TI y]=.ok (TI (lt rs x y))
 | _,0,_,_,_,_,h,_,_,_,_,_,_,_,_=>absurd h (Nat.not_lt_zero _)
 | [],n + 1,x,y,p,q,_,_,_,hx,hy,bx,by_,hb,_=>by
  show outD (b_law_tops_times (Fr_law_tops_times n) [some (.arg (RT [])),some (.arg (TI x)),some (.arg (TI y)),none,none,none,none,none])=_;unfold b_law_tops_times;have e1:=upB bx.head (show p<=200000 by omega);have e2:=upB by_.head (show q<=200000 by omega);have hx':x.length=1:=hx;push_cast [List.length_map,hx',fH' (be' (k:=0) hx),fH' (be' (k:=0) hy),mulB e1 e2];rfl
 | r :: rs,n + 1,x,y,p,q,hn,S,hr,hx,hy,bx,by_,hb,h8=>by
  obtain ⟨hr1,S⟩:=S;have hb:p + q + (2 * eT ρ rs.length + ρ + 1)<=200000:=hb;have h8:rs.length + 1<=8:=h8;have hr':∀r∈rs,Bd ρ r:=fun u hu=>hr u (List.mem_cons_of_mem _ hu);have a:=aU' hx;have b:=aX' hx;have c:=aU' hy;have d:=aX' hy;have hn':rs.length < n:=Nat.lt_of_succ_lt_succ hn;have i1:=w_lt rs n (frH x) (frH y) p q hn' S hr' a c bx.fr by_.fr (by omega) (by omega);have i2:=w_lt rs n (bhH x) (bhH y) p q hn' S hr' b d bx.bh by_.bh (by omega) (by omega);have i3:=w_lt rs n (frH x) (bhH y) p q hn' S hr' a d bx.fr by_.bh (by omega) (by omega);have i4:=w_lt rs n (bhH x) (frH y) p q hn' S hr' b c bx.bh by_.fr (by omega) (by omega);have i5:=w_lt rs n r (lt rs (bhH x) (bhH y)) ρ (p + q + eT ρ rs.length) hn' S hr' hr1 (by rw [cu']; exact aP' rs _ _ S b d) (hr r (by simp)) (by rw [cu']; exact ptB rs hr' bx.bh by_.bh) (by omega) (by omega);have small:2 ^ rs.length<=256:=Nat.le_trans (Nat.pow_le_pow_right (by decide) (show rs.length<=8 by omega)) (by decide);have l1:(lt rs (frH x) (frH y)).length=2 ^ rs.length:=by rw [cu']; exact aP' rs _ _ S a c
  have l2:(lt rs r (lt rs (bhH x) (bhH y))).length=2 ^ rs.length:=by rw [cu',cu']; exact aP' rs _ _ S hr1 (aP' rs _ _ S b d)
  have l3:(lt rs (frH x) (bhH y)).length=2 ^ rs.length:=by rw [cu']; exact aP' rs _ _ S a d
  have l4:(lt rs (bhH x) (frH y)).length=2 ^ rs.length:=by rw [cu']; exact aP' rs _ _ S b c
  have p1:=fk' (lt rs (frH x) (frH y)) (lt rs r (lt rs (bhH x) (bhH y))) (by omega);have p2:=fk' (lt rs (frH x) (bhH y)) (lt rs (bhH x) (frH y)) (by omega);have f1:=bi' l1 l2;have f2:=bi' l3 l4;have ad:=fI' (a:=addL (lt rs (frH x) (frH y)) (lt rs r (lt rs (bhH x) (bhH y)))) (b:=addL (lt rs (frH x) (bhH y)) (lt rs (bhH x) (frH y))) (be' f1) (by omega);show outD (b_law_tops_times (Fr_law_tops_times n) [some (.arg (RT (r :: rs))),some (.arg (TI x)),some (.arg (TI y)),none,none,none,none,none])=_;unfold b_law_tops_times;have z:¬((x.length:Int)=1):=by
   rw [hx]; show ¬(((2 ^ (rs.length + 1):Nat):Int)=1);have:=Nat.two_pow_pos rs.length;rw [Nat.pow_succ]; omega
  have fx:x.take (x.length / 2)=frH x:=rfl;have bx':x.drop (x.length / 2)=bhH x:=rfl;have e:x.length / 2=y.length / 2:=by rw [hx,hy]
  have fy:y.take (x.length / 2)=frH y:=by rw [e]; rfl
  have by':y.drop (x.length / 2)=bhH y:=by rw [e]; rfl
  push_cast [List.length_map,z,dC',dB',hE',hF',hG',fx,bx',fy,by',i1,i2,i3,i4,i5,p1,p2,ad,lt]
noncomputable def Rw {F:OF} (of:List Int->F.C) (k n:Nat) (d:D) (v:F.C):Prop :=
 ∃x b,d=num x b/\0 < b/\x.length=2 ^ k/\Bd n x/\b.natAbs < 2 ^ n/\v=of x / (b:F.C)
section
variable {rs:List (List Int)} {F:OF} {of:List Int->F.C} {ρ:Nat}
theorem _root_.Mine.Nm.rw {k n:Nat} {d:D} {v:F.C} (h:Nm of k n d v):Rw of k n d v:=by
 obtain ⟨x,b,h1,h2,h3,h4,h5,h6⟩:=h;exact ⟨x,b,h1,h2.pos,h3,h4,h5,h6⟩
theorem Rw.mono {k n m:Nat} {d:D} {v:F.C} (h:Rw of k n d v) (e:n<=m):Rw of k m d v:=by
 obtain ⟨x,b,h1,h2,h3,h4,h5,h6⟩:=h;exact ⟨x,b,h1,h2,h3,h4.mono e,Nat.lt_of_lt_of_le h5 (bn' e),h6⟩
end
theorem ms' {k:Nat} (h:k<=3):eT 10 k<=77:=by
 have:k=0\/k=1\/k=2\/k=3:=by omega
 rcases this with z | z | z | z <;> subst z <;> decide
section
variable {rs:List (List Int)} {F:OF} {of:List Int->F.C} {ρ:Nat}
end
end Bk
namespace Bk
open PySem PySem.Spec PyProof.Rows L2 DL
end Bk
namespace Bk
open PySem PySem.Spec PyProof.Rows L2 DL Mine
theorem hZ' (ds:List D):(SV.own ds).view=.lst ds:=Eq.trans rfl rfl
theorem ke' (b:Bool):intG [.bl b]=.ok (.int (if b then 1 else 0)):=Eq.trans rfl rfl
theorem cF' (ts:List Int):flatDs (ts.map .int)=true:=by
 induction ts with
 | nil=>rfl
 | cons t ts ih=>rw [List.map_cons,flatDs,ih]; rfl
theorem dG' (i:Nat) {f:DS->Res D} {δ:DS} {ds:List D} (h:f δ=.ok (.lst ds)):ownC i f δ=.nxt (δ.set i (some (.own ds))):=by unfold ownC; rw [h]
theorem kf' {i:Nat} {fi fe:DS->Res D} {δ:DS} {ds:List D} {d:D} {z:Int} {j:Nat} (h1:δ[i]? = some (some (.own ds))) (h2:fe δ=.ok d) (h3:fi δ=.ok (.int z)) (h4:ixN ds.length z=some j) (h5:flatDs ds=true) (h6:flatD d=true):putD i fi fe δ=.nxt (setS i ds j d δ):=by
 unfold putD;rw [h1]; dsimp only;rw [h2]; dsimp only [onD];rw [h3]; dsimp only [onD];rw [h4]; dsimp only;rw [if_pos ⟨h5,h6⟩]
theorem ia' {n k:Nat} (h:k < n):ixN n (k:Int)=some k:=by
 unfold ixN;rw [if_pos (by omega),if_pos (by omega)]
 congr 1
theorem eC' {fe:DS->Res D} {rest:DS} {g:Int->Int->Int} {n:Nat}:∀(ts:List Int) (k:Nat),k + ts.length<=n->(∀(i:Nat),i < n->∀t∈ts,fe (some (.val (.int (i:Int))) :: some (.val (.int t)) :: rest)=.ok (.int (g (i:Int) t))) ->
  mapR (eltD (tupTgt [0,1]) fe (none :: none :: rest)) (((ts.map D.int).zipIdx k).map fun p=>D.tup [.int ((p.2:Nat):Int),p.1])=.ok (((ts.zipIdx k).map fun p=>g ((p.2:Nat):Int) p.1).map .int)
 | [],_,_,_=>rfl
 | t :: ts,k,hk,h=>by
  have hk':k + (ts.length + 1)<=n:=hk;have e:eltD (tupTgt [0,1]) fe (none :: none :: rest) (.tup [.int (k:Int),.int t])=.ok (.int (g (k:Int) t)):=by
   show (match fe (some (.val (.int (k:Int))) :: some (.val (.int t)) :: rest) with | .ok z=>Res.ok z | _=>.stuck)=_
   rw [h k (by omega) t (by simp)]
  have ih:=eC' (n:=n) (g:=g) ts (k + 1) (by omega) fun i hi u hu=>h i hi u (List.mem_cons_of_mem _ hu);rw [List.map_cons,List.zipIdx_cons,List.map_cons,List.zipIdx_cons,List.map_cons,List.map_cons];show mapR _ (D.tup [.int (k:Int),.int t] :: _)=_;rw [mapR,e,Res.bind_ok,ih,Res.bind_ok]
theorem eD' {fe:DS->Res D} {fi:DS->Res (List D)} {fr:List Nat} {δ rest:DS} {ts:List Int} {g:Int->Int->Int} (hi:fi δ=.ok (enumD (ts.map .int))) (hr:compS 2 fr δ=none :: none :: rest) (hl:ts.length<=sizeLine)
  (h:∀(i:Nat),i < ts.length->∀t∈ts,fe (some (.val (.int (i:Int))) :: some (.val (.int t)) :: rest)=.ok (.int (g (i:Int) t))):compD 2 fr (tupTgt [0,1]) fe fi δ=.ok (.lst ((ts.zipIdx.map fun p=>g ((p.2:Nat):Int) p.1).map .int)):=by
 unfold compD;rw [hi,Res.bind_ok,hr];have:=eC' (fe:=fe) (rest:=rest) (g:=g) (n:=ts.length) ts 0 (by omega) h;unfold enumD;rw [this];unfold lstD;rw [Res.bind_ok,if_pos (by rw [List.length_map,List.length_map,List.length_zipIdx]; exact hl)]
theorem bU' {α:Type} {l:List α} {k:Nat} {p:α×Nat} (h:p∈l.zipIdx k):p.1∈l:=by
 induction l generalizing k with
 | nil=>simp at h
 | cons a l ih =>
  rw [List.zipIdx_cons] at h;rcases List.mem_cons.mp h with z | z
  ·rw [z]; simp
  ·exact List.mem_cons_of_mem _ (ih z)
section
variable {rs:List (List Int)} {F:OF} {of:List Int->F.C} {ρ:Nat}
theorem jr' (T:Tow rs F of) (h3:rs.length<=3) {p:Nat} {d:D} {u:F.C} (h:Rw of rs.length p d u) {q:Nat} (hq:∀x b,d=num x b->b.natAbs < 2 ^ q) (hq8:q<=8000):∃z,F_ql [d]=.ok z/\Nm of rs.length p z u:=by
 obtain ⟨x,b,rfl,pb,lx,bx,bb,ex⟩:=h;obtain ⟨K,y,c,k0,e1,e2,nf,yl,kb,hN⟩:=hN' T lx (show b≠0 by omega) bx bb;rw [<- ex] at hN;refine ⟨_,?_,hN⟩;have cp:=nf.pos;have kp:0 < K:=by
  rcases Int.lt_or_le 0 K with q | q
  ·exact q
  ·have:=Int.mul_nonpos_of_nonpos_of_nonneg q (Int.le_of_lt cp); omega
 have k8:K.natAbs < 2 ^ 8000:=by
  have:=hq x b rfl;rw [e2,Int.natAbs_mul] at this;exact up8 (Nat.lt_of_le_of_lt (Nat.le_mul_of_pos_right _ (by omega)) this) hq8
 have e8:=br' h3;have hs:x.foldl cm b=K:=by
  rw [e1,e2,eo' nf k0 (be' yl)]; omega
 obtain ⟨z',e⟩:=cD' (i:=2) (f:=cm) (b:=setD 1 (bindF (consD (slotD 1) (consD (slotD 2) (fun _=>.ok []))) F_qk))
  (fun acc z=>[some (.val (num x b)),some (.val (.int acc)),z])
  (fun acc z t=>by push_cast [cz']) x b none
 rw [hs] at e;have th:thaw [some (SV.arg (num x b)),some (.val (.int b)),none]=[some (.val (num x b)),some (.val (.int b)),none]:=rfl;have th2:thawO (Out.nxt [some (.val (num x b)),some (.val (.int K)),z'])=.nxt [some (.val (num x b)),some (.val (.int K)),z'.map thaw2]:=rfl;have cp':∀z2,compD 1 [1] (tgtN 0) (two (slotD 0) (slotD 1) fdivD) (bindL (two (slotD 0) (fun _=>.ok (.int 0)) ixD) seqItems) [some (.val (num x b)),some (.val (.int K)),z2]=.ok (.lst (x.map fun t=>.int (Int.fdiv t K))):=fun z2 =>
  bl' (rest:=[some (.arg (.int K))]) (by push_cast [DL.ap_seq]) rfl (Nat.le_trans (show x.length<=63 by omega) (by decide)) fun t _=>by
   push_cast [cs' k0 k8]
 have cl:x.map (fun t=>D.int (Int.fdiv t K))=y.map .int:=by
  rw [e1,List.map_map];simp only [Function.comp_def,ct' _ _ k0]
 have cb':Int.fdiv b K=c:=by rw [e2,ct' _ _ k0]
 show outD (b_ql [some (.arg (num x b)),none,none])=_;unfold b_ql;push_cast [th,e,th2,cp',cl,cs' k0 k8,cb']
theorem np' (T:Tow rs F of) (h3:rs.length<=3) {p:Nat} {d:D} {u:F.C} (h:Rw of rs.length p d u) (hp:p<=8000):∃z,F_ql [d]=.ok z/\Nm of rs.length p z u :=
 jr' T h3 h (q:=p) (fun x b e=>by
  obtain ⟨x',b',e',_,_,_,bb,_⟩:=h;rw [e] at e';injection e' with e'
  injection e' with _ e'
  injection e' with e'
  injection e' with e'
  rw [e']; exact bb) hp
theorem ib' (T:Tow rs F of) (h3:rs.length<=3) (c:Int):∃d v,F_qh [.int c,.int ((2 ^ rs.length:Nat):Int)]=.ok d/\Nm of rs.length 31 d v:=by
 have e8:=br' h3;have p0:=Nat.two_pow_pos rs.length;have d5:fdivD (.int c) (.int 5)=_:=cs' (show (5:Int)≠0 by decide) (Nat.lt_of_lt_of_le (show 5 < 2 ^ 3 by decide) (Nat.pow_le_pow_right (by decide) (by decide)));have m5:modD (.int c) (.int 5)=_:=modI (show (5:Int)≠0 by decide);generalize Int.fdiv c 5=q at *;have p9:powD (.int 10) (.int 9)=.ok (.int (10 ^ 9)):=rfl;have mu2:mulD (.int 2) (.int (10 ^ 9))=.ok (.int (2 * 10 ^ 9)):=mulR (by decide);have mB:=modI (a:=q) (show (2 * 10 ^ 9 + 1:Int)≠0 by decide);have b0:=Int.fmod_nonneg_of_pos q (show (0:Int) < 2 * 10 ^ 9 + 1 by decide);have b1:=Int.fmod_lt_of_pos q (show (0:Int) < 2 * 10 ^ 9 + 1 by decide);have mM:=modI (a:=q) (show ((2 ^ rs.length:Nat):Int)≠0 by omega);have a0:=Int.fmod_nonneg_of_pos q (show (0:Int) < ((2 ^ rs.length:Nat):Int) by omega);have a1:=Int.fmod_lt_of_pos q (show (0:Int) < ((2 ^ rs.length:Nat):Int) by omega);generalize Int.fmod q ((2 ^ rs.length:Nat):Int)=at_ at *;generalize Int.fmod q (2 * 10 ^ 9 + 1)=big at *;obtain ⟨k,rfl⟩:=Int.eq_ofNat_of_zero_le a0;have k1:k < 2 ^ rs.length:=by omega
 have x8:F_qq [.int q,.int 8,.int 12]=_:=bh' q 8 12 (by decide) (by decide);have b8:=bM' q 8 (m:=12) (by decide);generalize mix q 8 12=bot at *
 let tops:List Int:=((List.range (2 ^ rs.length)).map fun (k:Nat)=>(k:Int)).map fun t=>mix q t.toNat 19 - 9
 have tl:tops.length=2 ^ rs.length:=by simp [tops]
 have tb:Bd 31 tops:=fun t ht=>by
  obtain ⟨u,_,rfl⟩:=List.mem_map.mp ht;have:=bM' q u.toNat (m:=19) (by decide);have e:(2147483648:Nat)=2 ^ 31:=by decide
  rw [<- e]; omega
 have fin:∀(ts:List Int),ts.length=2 ^ rs.length->Bd 31 ts->∃d v,(∀s1,outD ((retD (bindF (consD (tupF (consD (bindF (consD (slotD 2) (fun _=>.ok [])) tupleG) (consD (two (fun _=>.ok (.int 1)) (bindF (consD (two (slotD 0) (fun _=>.ok (.int 5)) fdivD) (consD (fun _=>.ok (.int 8)) (consD (fun _=>.ok (.int 12)) (fun _=>.ok [])))) F_qq) addD) (fun _=>.ok [])))) (fun _=>.ok [])) F_ql)) [some (.arg (.int c)),s1,some (.own (ts.map .int))])=.ok d)/\Nm of rs.length 31 d v:=by
  intro ts hl hb;have bb:(1 + bot).natAbs < 2 ^ 31:=by
   have e:(2147483648:Nat)=2 ^ 31:=by decide
   rw [<- e]; omega
  have hR:Rw of rs.length 31 (num ts (1 + bot)) (of ts / ((1 + bot:Int):F.C)):=⟨ts,1 + bot,rfl,by omega,hl,hb,bb,rfl⟩;obtain ⟨z,ez,hz⟩:=np' T h3 hR (by decide);refine ⟨z,_,fun s1=>?_,hz⟩;push_cast [d5,x8,hZ',ez]
 have c0:compD 1 [0] (tgtN 0) (two (bindF (consD (two (slotD 1) (fun _=>.ok (.int 5)) fdivD) (consD (slotD 0) (consD (fun _=>.ok (.int 19)) (fun _=>.ok [])))) F_qq) (fun _=>.ok (.int 9)) subD) (bindRg (consD (slotD 1) (fun _=>.ok [])) rng1) [some (.arg (.int c)),some (.arg (.int ((2 ^ rs.length:Nat):Int))),none]=.ok (.lst (tops.map .int)):=by
  have:=bl' (fe:=two (bindF (consD (two (slotD 1) (fun _=>.ok (.int 5)) fdivD) (consD (slotD 0) (consD (fun _=>.ok (.int 19)) (fun _=>.ok [])))) F_qq) (fun _=>.ok (.int 9)) subD) (fi:=bindRg (consD (slotD 1) (fun _=>.ok [])) rng1) (fr:=[0]) (δ:=[some (.arg (.int c)),some (.arg (.int ((2 ^ rs.length:Nat):Int))),none]) (rest:=[some (.arg (.int c))])
   (ts:=(List.range (2 ^ rs.length)).map fun (k:Nat)=>(k:Int)) (g:=fun t=>.int (mix q t.toNat 19 - 9)) (rngF (ds:=[.int ((2 ^ rs.length:Nat):Int)]) rfl (hD' _ (by omega))) rfl (by simp only [List.length_map,List.length_range]; exact Nat.le_trans e8 (by decide)) fun t ht=>by
    obtain ⟨j,hj,rfl⟩:=List.mem_map.mp ht;have hj':j < 2 ^ rs.length:=List.mem_range.mp hj;push_cast [d5,bh' q j 19 (by omega) (by decide),Int.toNat_natCast]
  rw [this];simp only [tops,List.map_map,Function.comp_def]
 have bd0:∀(b:Bool) (t:Int),t.natAbs < 2 ^ 31->(t * (if b=true then 1 else 0)).natAbs < 2 ^ 31:=fun b t h=>by
  cases b
  ·simp only [Bool.false_eq_true,if_false,Int.mul_zero]; decide
  ·simp only [if_true,Int.mul_one]; exact h
 have mr:∀(t:Int) (b:Bool),mulD (.int t) (.int (if b=true then 1 else 0))=.ok (.int (t * (if b=true then 1 else 0))):=fun t b=>mulR (by cases b <;> decide)
 show ∃d v,outD (b_qh [some (.arg (.int c)),some (.arg (.int ((2 ^ rs.length:Nat):Int))),none])=.ok d/\_;unfold b_qh;rw [ap_seq,dG' 2 c0]
 by_cases h1:Int.fmod c 5=1
 ·
  have hp:(putD 2 (noX (two (two (slotD 0) (fun _=>.ok (.int 5)) fdivD) (slotD 1) modD)) (two (two (two (slotD 0) (fun _=>.ok (.int 5)) fdivD) (two (two (fun _=>.ok (.int 2)) (two (fun _=>.ok (.int 10)) (fun _=>.ok (.int 9)) powD) mulE) (fun _=>.ok (.int 1)) addD) modD) (two (fun _=>.ok (.int 10)) (fun _=>.ok (.int 9)) powD) subD)) [some (.arg (.int c)),some (.arg (.int ((2 ^ rs.length:Nat):Int))),some (.own (tops.map .int))]=.nxt [some (.arg (.int c)),some (.arg (.int ((2 ^ rs.length:Nat):Int))),some (.own ((tops.set k (big - 10 ^ 9)).map .int))]:=by
   have:=kf' (i:=2) (fi:=(noX (two (two (slotD 0) (fun _=>.ok (.int 5)) fdivD) (slotD 1) modD))) (fe:=(two (two (two (slotD 0) (fun _=>.ok (.int 5)) fdivD) (two (two (fun _=>.ok (.int 2)) (two (fun _=>.ok (.int 10)) (fun _=>.ok (.int 9)) powD) mulE) (fun _=>.ok (.int 1)) addD) modD) (two (fun _=>.ok (.int 10)) (fun _=>.ok (.int 9)) powD) subD))
    (δ:=[some (.arg (.int c)),some (.arg (.int ((2 ^ rs.length:Nat):Int))),some (.own (tops.map .int))]) (ds:=tops.map .int) (d:=.int (big - 10 ^ 9)) (z:=(k:Int)) (j:=k) rfl (by push_cast [d5,p9,mu2,mB]) (ma' (by push_cast [d5,mM])) (ia' (by rw [List.length_map,tl]; exact k1)) (cF' _) rfl
   rw [this];unfold setS;rw [List.map_set];have fl:=cF' tops;simp only [List.map_cons,List.map_nil,Option.bind_some,keepSV,fl,st2,↓reduceIte]
  obtain ⟨d,v,ed,hd⟩:=fin (tops.set k (big - 10 ^ 9)) (by rw [List.length_set]; exact tl) (fun t ht=>by
   rcases List.mem_or_eq_of_mem_set ht with z | z
   ·exact tb t z
   ·have e:(2147483648:Nat)=2 ^ 31:=by decide
    rw [z,<- e]; omega)
  refine ⟨d,v,?_,hd⟩;have:=ed (some (.arg (.int ((2 ^ rs.length:Nat):Int))));simp only [ap_seq,ap_if,ap_bT,ap_two,sl0,sl1,sl2,st0,st1,st2,sq_nxt,bnd_ok,vw_arg,m5,h1,eqI,bool_ok,ont_ok,decide_true,↓reduceIte,hp,decide_false,Bool.false_eq_true,Int.reduceEq];exact this
 ·by_cases h2:Int.fmod c 5=2
  ·have cc:=eD' (fe:=(two (slotD 1) (bindF (consD (two (two (two (two (slotD 2) (fun _=>.ok (.int 5)) fdivD) (two (slotD 0) (fun _=>.ok (.int 1)) addD) fdivD) (fun _=>.ok (.int 2)) modD) (fun _=>.ok (.int 0)) eqD) (fun _=>.ok [])) intG) mulE)) (fi:=bindRg (consD (slotD 2) (fun _=>.ok [])) enumG) (fr:=[0]) (δ:=[some (.arg (.int c)),some (.arg (.int ((2 ^ rs.length:Nat):Int))),some (.own (tops.map .int))]) (rest:=[some (.arg (.int c))]) (ts:=tops) (g:=fun i t=>t * (if decide (Int.fmod (Int.fdiv q (i + 1)) 2=0)=true then 1 else 0))
    (rngF (ds:=[.lst (tops.map .int)]) rfl rfl) rfl (by rw [tl]; exact Nat.le_trans e8 (by decide)) fun i hi t ht=>by
     have nz:((i:Int) + 1)≠0:=by omega
     have e16:(16:Nat)=2 ^ 4:=by decide
     have sm4:((i:Int) + 1).natAbs < 2 ^ 4:=by rw [<- e16]; omega
     have sm:((i:Int) + 1).natAbs < 2 ^ 8000:=Nat.lt_of_lt_of_le sm4 (bn' (by decide));push_cast [d5,cs' nz sm,modI (show (2:Int)≠0 by decide),ke',mr]
   obtain ⟨d,v,ed,hd⟩:=fin (tops.zipIdx.map fun p=>p.1 * (if decide (Int.fmod (Int.fdiv q (((p.2:Nat):Int) + 1)) 2=0)=true then 1 else 0)) (by rw [List.length_map,List.length_zipIdx]; exact tl) (fun t ht=>by
    obtain ⟨p,hp,rfl⟩:=List.mem_map.mp ht;exact bd0 _ _ (tb p.1 (bU' hp)))
   refine ⟨d,v,?_,hd⟩;have:=ed (some (.arg (.int ((2 ^ rs.length:Nat):Int))));have oc:=dG' 2 cc;simp only [ap_seq,ap_if,ap_bT,ap_two,sl0,sl1,sl2,st0,st1,st2,sq_nxt,bnd_ok,vw_arg,m5,h1,h2,eqI,bool_ok,ont_ok,decide_true,↓reduceIte,oc,decide_false,Bool.false_eq_true,Int.reduceEq];exact this
  ·by_cases h4:Int.fmod c 5=3
   ·have cc:=eD' (fe:=(two (slotD 1) (bindF (consD (two (slotD 0) (two (two (two (slotD 3) (fun _=>.ok (.int 5)) fdivD) (slotD 2) modD) (fun _=>.ok (.int 1)) addD) (cmpD fun i j=>decide (i < j))) (fun _=>.ok [])) intG) mulE)) (fi:=bindRg (consD (slotD 2) (fun _=>.ok [])) enumG) (fr:=[1,0]) (δ:=[some (.arg (.int c)),some (.arg (.int ((2 ^ rs.length:Nat):Int))),some (.own (tops.map .int))]) (rest:=[some (.arg (.int ((2 ^ rs.length:Nat):Int))),some (.arg (.int c))]) (ts:=tops) (g:=fun i t=>t * (if decide (i < (k:Int) + 1)=true then 1 else 0))
     (rngF (ds:=[.lst (tops.map .int)]) rfl rfl) rfl (by rw [tl]; exact Nat.le_trans e8 (by decide)) fun i hi t ht=>by
      push_cast [d5,mM,ke',mr]
    obtain ⟨d,v,ed,hd⟩:=fin (tops.zipIdx.map fun p=>p.1 * (if decide (((p.2:Nat):Int) < (k:Int) + 1)=true then 1 else 0)) (by rw [List.length_map,List.length_zipIdx]; exact tl) (fun t ht=>by
     obtain ⟨p,hp,rfl⟩:=List.mem_map.mp ht;exact bd0 _ _ (tb p.1 (bU' hp)))
    refine ⟨d,v,?_,hd⟩;have:=ed (some (.arg (.int ((2 ^ rs.length:Nat):Int))));have oc:=dG' 2 cc;simp only [ap_seq,ap_if,ap_bT,ap_two,sl0,sl1,sl2,st0,st1,st2,sq_nxt,bnd_ok,vw_arg,m5,h1,h2,h4,eqI,bool_ok,ont_ok,decide_true,↓reduceIte,oc,decide_false,Bool.false_eq_true,Int.reduceEq];exact this
   ·obtain ⟨d,v,ed,hd⟩:=fin tops tl tb;refine ⟨d,v,?_,hd⟩;have:=ed (some (.arg (.int ((2 ^ rs.length:Nat):Int))));simp only [ap_seq,ap_if,ap_bT,ap_two,sl0,sl1,sl2,st0,st1,st2,sq_nxt,bnd_ok,vw_arg,m5,h1,h2,h4,eqI,bool_ok,ont_ok,decide_true,↓reduceIte,decide_false,Bool.false_eq_true,Int.reduceEq];exact this
end
end Bk
namespace Bk
open PySem PySem.Spec PyProof.Rows L2 DL Mine Lean.Grind
section
variable {F:OF} {r:F.C} {hr:0 < r} {hn:∀z:F.C,z * z≠r}
end
section
variable {rs:List (List Int)} {F:OF} {of:List Int->F.C} {ρ:Nat}
noncomputable def hB (ρ:Nat):Nat->Nat->Nat
 | 0,p=>p
 | k + 1,p=>hB ρ k p + hB ρ k ρ + 1
theorem mt' (T:Tow rs F of) {a b:Int} (h:a<=b):((a:Int):F.C)<=((b:Int):F.C):=by
 by_cases c:a=b
 ·rw [c]; exact Std.le_refl _
 ·have:=bQ' T (k:=b - a) (by omega);rw [Ring.intCast_sub] at this; grind
theorem lt_int (T:Tow rs F of) {a b:Int} (h:((a:Int):F.C) < ((b:Int):F.C)):a < b:=by
 rcases Int.lt_or_le a b with c | c
 ·exact c
 ·have:=mt' T c; grind
end
theorem aW' {c:DS->Res Bool} {b:DS->Out} {m:Nat} {δ δ':DS} (h1:c δ=.ok true) (h2:b δ=.nxt δ'):whileD c b (m + 1) δ=whileD c b m δ':=by
 rw [whileD,h1];dsimp only;rw [h2]
theorem aJ' {c:DS->Res Bool} {b:DS->Out} {m:Nat} {δ:DS} (h1:c δ=.ok false):whileD c b (m + 1) δ=.nxt δ:=by
 rw [whileD,h1]
theorem bB' {t:TGD} {b:DS->Out} {d:D} {ds:List D} {δ δ1 δ2:DS} (h1:t d δ=some δ1) (h2:b δ1=.nxt δ2):forD t b (d :: ds) δ=forD t b ds δ2:=by
 rw [forD,h1];dsimp only;rw [h2]
theorem fQ' {t:TGD} {b:DS->Out} {δ:DS}:forD t b [] δ=.nxt δ:=Eq.trans rfl rfl
section
variable {rs:List (List Int)} {F:OF} {of:List Int->F.C} {ρ:Nat}
end
theorem okT {p:Prop} {i:Decidable p} {r:Res D} (h:r=.ok (.bl (@decide p i))) (c:p):r=.ok (.bl true):=by rw [h,_root_.decide_eq_true c]
theorem okF {p:Prop} {i:Decidable p} {r:Res D} (h:r=.ok (.bl (@decide p i))) (c:¬p):r=.ok (.bl false):=by rw [h,_root_.decide_eq_false c]
section
variable {rs:List (List Int)} {F:OF} {of:List Int->F.C} {ρ:Nat}
end
end Bk
namespace K40
open PySem PySem.Spec PyProof.Rows L2 DL Bk Mine
noncomputable def top (i:Nat):Stmt:=PySem.Challenge.pw_compasshall_k40_least_equations.main.body.getD i (.Pass ⟨0,0,0,0⟩)
abbrev st_qA:Stmt:=top 4
abbrev st_qB:Stmt:=top 10
abbrev st_qf:Stmt:=top 13
abbrev st_qi:Stmt:=top 14
abbrev st_qg:Stmt:=top 15
abbrev st_qo:Stmt:=top 16
abbrev st_qe:Stmt:=top 17
abbrev st_qv:Stmt:=top 26
abbrev st_qp:Stmt:=top 27
abbrev st_qq:Stmt:=top 28
abbrev st_qr:Stmt:=top 30
abbrev st_qj:Stmt:=top 31
abbrev st_qk:Stmt:=top 33
abbrev st_qs:Stmt:=top 38
abbrev st_qF:Stmt:=top 6
abbrev st_qy:Stmt:=top 8
abbrev st_qt:Stmt:=top 12
abbrev st_qC:Stmt:=top 20
abbrev st_qb:Stmt:=top 24
abbrev st_qc:Stmt:=top 29
abbrev st_ql:Stmt:=top 34
abbrev st_qd:Stmt:=top 37
abbrev st_qm:Stmt:=top 39
abbrev st_qG:Stmt:=top 7
abbrev st_qD:Stmt:=top 11
abbrev st_qh:Stmt:=top 35
abbrev st_qu:Stmt:=top 40
abbrev st_qn:Stmt:=top 18
abbrev st_qa:Stmt:=top 32
abbrev st_qE:Stmt:=top 9
abbrev st_qw:Stmt:=top 36
abbrev st_qz:Stmt:=top 23
abbrev st_qx:Stmt:=top 22
abbrev bV':Stmt:=top 41
theorem sc_qA:FnScope ["a", "b", "one", "other", "rest"] ["a", "b"] (defScope st_qA):=⟨rfl,rfl,rfl,by decide +kernel,rfl,by decide +kernel,by decide +kernel⟩
theorem sc_qB:FnScope ["x", "many"] ["x", "many"] (defScope st_qB):=⟨rfl,rfl,rfl,by decide +kernel,rfl,by decide +kernel,by decide +kernel⟩
theorem sc_qf:FnScope ["tops"] ["tops"] (defScope st_qf):=⟨rfl,rfl,rfl,by decide +kernel,rfl,by decide +kernel,by decide +kernel⟩
theorem sc_qi:FnScope ["tops"] ["tops"] (defScope st_qi):=⟨rfl,rfl,rfl,by decide +kernel,rfl,by decide +kernel,by decide +kernel⟩
theorem sc_qg:FnScope ["tops"] ["tops"] (defScope st_qg):=⟨rfl,rfl,rfl,by decide +kernel,rfl,by decide +kernel,by decide +kernel⟩
theorem sc_qo:FnScope ["one", "other"] ["one", "other"] (defScope st_qo):=⟨rfl,rfl,rfl,by decide +kernel,rfl,by decide +kernel,by decide +kernel⟩
theorem sc_qe:FnScope ["tops"] ["tops"] (defScope st_qe):=⟨rfl,rfl,rfl,by decide +kernel,rfl,by decide +kernel,by decide +kernel⟩
theorem sc_qv:FnScope ["_law_script", "_law_k"] ["_law_script", "_law_k"] (defScope st_qv):=⟨rfl,rfl,rfl,by decide +kernel,rfl,by decide +kernel,by decide +kernel⟩
theorem sc_qp:FnScope ["_law_found"] ["_law_found"] (defScope st_qp):=⟨rfl,rfl,rfl,by decide +kernel,rfl,by decide +kernel,by decide +kernel⟩
theorem sc_qq:FnScope ["_law_cell_here", "_law_k", "_law_many", "_law_some"] ["_law_cell_here", "_law_k", "_law_many"] (defScope st_qq):=⟨rfl,rfl,rfl,by decide +kernel,rfl,by decide +kernel,by decide +kernel⟩
theorem sc_qr:FnScope ["_law_one", "_law_other"] ["_law_one", "_law_other"] (defScope st_qr):=⟨rfl,rfl,rfl,by decide +kernel,rfl,by decide +kernel,by decide +kernel⟩
theorem sc_qj:FnScope ["_law_k", "_law_one"] ["_law_k", "_law_one"] (defScope st_qj):=⟨rfl,rfl,rfl,by decide +kernel,rfl,by decide +kernel,by decide +kernel⟩
theorem sc_qk:FnScope ["_law_one", "_law_other", "_law_rest"] ["_law_one", "_law_other"] (defScope st_qk):=⟨rfl,rfl,rfl,by decide +kernel,rfl,by decide +kernel,by decide +kernel⟩
theorem sc_qs:FnScope ["_law_tops", "_law_spin", "_law_at", "_law_top", "_law_both"] ["_law_tops", "_law_spin"] (defScope st_qs):=⟨rfl,rfl,rfl,by decide +kernel,rfl,by decide +kernel,by decide +kernel⟩
theorem sc_qF:FnScope ["tops", "bottom", "shared", "top"] ["tops", "bottom"] (defScope st_qF):=⟨rfl,rfl,rfl,by decide +kernel,rfl,by decide +kernel,by decide +kernel⟩
theorem sc_qy:FnScope ["x"] ["x"] (defScope st_qy):=⟨rfl,rfl,rfl,by decide +kernel,rfl,by decide +kernel,by decide +kernel⟩
theorem sc_qt:FnScope ["x"] ["x"] (defScope st_qt):=⟨rfl,rfl,rfl,by decide +kernel,rfl,by decide +kernel,by decide +kernel⟩
theorem sc_qC:FnScope ["x"] ["x"] (defScope st_qC):=⟨rfl,rfl,rfl,by decide +kernel,rfl,by decide +kernel,by decide +kernel⟩
theorem sc_qb:FnScope ["told", "least", "number"] ["told"] (defScope st_qb):=⟨rfl,rfl,rfl,by decide +kernel,rfl,by decide +kernel,by decide +kernel⟩
theorem sc_qc:FnScope ["_law_cell_here", "_law_many", "_law_r", "_law_m", "_law_b", "_law_k", "_law_roots_here", "_law_primes", "_law_at"] ["_law_cell_here", "_law_many"] (defScope st_qc):=⟨rfl,rfl,rfl,by decide +kernel,rfl,by decide +kernel,by decide +kernel⟩
theorem sc_ql:FnScope ["_law_one", "_law_shared", "_law_top"] ["_law_one"] (defScope st_ql):=⟨rfl,rfl,rfl,by decide +kernel,rfl,by decide +kernel,by decide +kernel⟩
theorem sc_qd:FnScope ["_law_row", "_law_many", "_law_shared", "_law_number"] ["_law_row", "_law_many"] (defScope st_qd):=⟨rfl,rfl,rfl,by decide +kernel,rfl,by decide +kernel,by decide +kernel⟩
theorem sc_qm:FnScope ["_law_tops", "_law_kind", "_law_many", "_law_spins"] ["_law_tops", "_law_kind"] (defScope st_qm):=⟨rfl,rfl,rfl,by decide +kernel,rfl,by decide +kernel,by decide +kernel⟩
theorem sc_qG:FnScope ["x", "y", "tops"] ["x", "y"] (defScope st_qG):=⟨rfl,rfl,rfl,by decide +kernel,rfl,by decide +kernel,by decide +kernel⟩
theorem sc_qD:FnScope ["x"] ["x"] (defScope st_qD):=⟨rfl,rfl,rfl,by decide +kernel,rfl,by decide +kernel,by decide +kernel⟩
theorem sc_qh:FnScope ["_law_cell_here", "_law_many", "_law_tops"] ["_law_cell_here", "_law_many"] (defScope st_qh):=⟨rfl,rfl,rfl,by decide +kernel,rfl,by decide +kernel,by decide +kernel⟩
theorem sc_qu:FnScope ["_law_script", "_law_cell_here", "_law_roots_here", "_law_k"] ["_law_script"] (defScope st_qu):=⟨rfl,rfl,rfl,by decide +kernel,rfl,by decide +kernel,by decide +kernel⟩
theorem sc_qn:FnScope ["roots", "one", "other", "beneath", "a", "b", "c", "d", "squared", "front", "behind"] ["roots", "one", "other"] (defScope st_qn):=⟨rfl,rfl,rfl,by decide +kernel,rfl,by decide +kernel,by decide +kernel⟩
theorem sc_qa:FnScope ["_law_roots_here", "_law_one", "_law_other", "_law_half", "_law_below", "_law_both", "_law_left", "_law_cross"] ["_law_roots_here", "_law_one", "_law_other"] (defScope st_qa):=⟨rfl,rfl,rfl,by decide +kernel,rfl,by decide +kernel,by decide +kernel⟩
theorem sc_qE:FnScope ["roots", "x", "y"] ["roots", "x", "y"] (defScope st_qE):=⟨rfl,rfl,rfl,by decide +kernel,rfl,by decide +kernel,by decide +kernel⟩
theorem sc_qw:FnScope ["_law_roots_here", "_law_one", "_law_row", "_law_many", "_law_total", "_law_scale", "_law_number"] ["_law_roots_here", "_law_one", "_law_row"] (defScope st_qw):=⟨rfl,rfl,rfl,by decide +kernel,rfl,by decide +kernel,by decide +kernel⟩
theorem sc_qz:FnScope ["roots", "one", "other", "told", "i", "first", "j", "second"] ["roots", "one", "other"] (defScope st_qz):=⟨rfl,rfl,rfl,by decide +kernel,rfl,by decide +kernel,by decide +kernel⟩
theorem sc_qx:FnScope ["roots", "x", "told", "beneath"] ["roots", "x"] (defScope st_qx):=⟨rfl,rfl,rfl,by decide +kernel,rfl,by decide +kernel,by decide +kernel⟩
theorem sc_law:FnScope ["_law_script", "_law_roots_here", "_law_kind", "_law_many", "_law_step", "_law_cells", "_law_cell_here", "_law_k", "_law_part", "_law_one", "_law_due", "_law_row"] ["_law_script"] (defScope bV'):=⟨rfl,rfl,rfl,by decide +kernel,rfl,by decide +kernel,by decide +kernel⟩
noncomputable def b_qs:DS->Out :=
 (seqD (forS (tupTgt [2,3]) (bindRg (consD (slotD 0) (fun _=>.ok [])) enumT) (seqD (setD 4 (compD 1 [2,1] (tgtN 0) (two (two (two (slotD 1) (slotD 0) fdivD) (fun _=>.ok (.int 2)) modD) (two (two (slotD 2) (slotD 0) fdivD) (fun _=>.ok (.int 2)) modD) mulE) (bindL (lstF (consD (fun _=>.ok (.int 1)) (consD (fun _=>.ok (.int 2)) (consD (fun _=>.ok (.int 4)) (fun _=>.ok []))))) seqItems))) (ifS (andT (bindT (two (slotD 3) (fun _=>.ok (.int 0)) neD) boolD) (bindT (two (two (bindF (consD (slotD 4) (fun _=>.ok [])) sumG) (fun _=>.ok (.int 2)) modD) (fun _=>.ok (.int 1)) eqD) boolD)) (retD (fun _=>.ok (.bl false))) Out.nxt))) (retD (fun _=>.ok (.bl true))))
noncomputable def F_qs:List D->Res D:=fnD 2 5 b_qs
noncomputable def b_qb:DS->Out :=
 (seqD (setD 1 (fun _=>.ok (.int 1))) (seqD (forS (tgtN 2) (bindL (slotD 0) seqItems) (setD 1 (two (two (slotD 1) (bindF (consD (slotD 1) (consD (two (slotD 2) (fun _=>.ok (.int 1)) ixD) (fun _=>.ok []))) F_qA) fdivD) (two (slotD 2) (fun _=>.ok (.int 1)) ixD) mulE))) (retD (compD 1 [1] (tgtN 0) (two (two (two (slotD 0) (fun _=>.ok (.int 0)) ixD) (fun _=>.ok (.int 0)) ixD) (two (slotD 1) (two (slotD 0) (fun _=>.ok (.int 1)) ixD) fdivD) mulE) (bindL (slotD 0) seqItems)))))
noncomputable def F_qb:List D->Res D:=fnD 1 3 b_qb
noncomputable def b_qc:DS->Out :=
 (seqD (setD 2 (two (fun _=>.ok (.int 1)) (bindF (consD (slotD 0) (consD (fun _=>.ok (.int 0)) (consD (fun _=>.ok (.int 6)) (fun _=>.ok [])))) F_qq) addD)) (seqD (setD 3 (two (two (two (slotD 2) (slotD 2) mulE) (fun _=>.ok (.int 1)) addD) (bindF (consD (slotD 0) (consD (fun _=>.ok (.int 1)) (consD (two (fun _=>.ok (.int 2)) (slotD 2) mulE) (fun _=>.ok [])))) F_qq) addD)) (seqD (setD 4 (two (fun _=>.ok (.int 1)) (bindF (consD (slotD 0) (consD (fun _=>.ok (.int 2)) (consD (fun _=>.ok (.int 3)) (fun _=>.ok [])))) F_qq) addD)) (seqD (setD 5 (two (fun _=>.ok (.int 1)) (bindF (consD (slotD 0) (consD (fun _=>.ok (.int 3)) (consD (fun _=>.ok (.int 3)) (fun _=>.ok [])))) F_qq) addD)) (seqD (setD 6 (tupF (consD (tupF (consD (slotD 3) (fun _=>.ok []))) (consD (tupF (consD (bindF (consD (slotD 0) (consD (fun _=>.ok (.int 4)) (consD (two (two (slotD 4) (slotD 2) mulE) (fun _=>.ok (.int 1)) addD) (fun _=>.ok [])))) F_qq) (consD (slotD 4) (fun _=>.ok [])))) (consD (tupF (consD (bindF (consD (slotD 0) (consD (fun _=>.ok (.int 5)) (consD (slotD 5) (fun _=>.ok [])))) F_qq) (consD (fun _=>.ok (.int 0)) (consD (slotD 5) (consD (fun _=>.ok (.int 0)) (fun _=>.ok [])))))) (fun _=>.ok [])))))) (seqD (ifS (bindT (two (bindF (consD (slotD 0) (consD (fun _=>.ok (.int 6)) (consD (fun _=>.ok (.int 3)) (fun _=>.ok [])))) F_qq) (fun _=>.ok (.int 0)) eqD) boolD) (seqD (setD 7 (lstF (consD (fun _=>.ok (.int 2)) (consD (fun _=>.ok (.int 3)) (consD (fun _=>.ok (.int 5)) (consD (fun _=>.ok (.int 7)) (consD (fun _=>.ok (.int 11)) (consD (fun _=>.ok (.int 13)) (fun _=>.ok []))))))))) (seqD (setD 8 (bindF (consD (slotD 0) (consD (fun _=>.ok (.int 7)) (consD (fun _=>.ok (.int 6)) (fun _=>.ok [])))) F_qq)) (setD 6 (tupF (consD (tupF (consD (two (slotD 7) (slotD 8) ixD) (fun _=>.ok []))) (consD (tupF (consD (two (slotD 7) (two (two (slotD 8) (fun _=>.ok (.int 1)) addD) (fun _=>.ok (.int 6)) modD) ixD) (consD (fun _=>.ok (.int 0)) (fun _=>.ok [])))) (consD (tupF (consD (two (slotD 7) (two (two (slotD 8) (fun _=>.ok (.int 2)) addD) (fun _=>.ok (.int 6)) modD) ixD) (consD (fun _=>.ok (.int 0)) (consD (fun _=>.ok (.int 0)) (consD (fun _=>.ok (.int 0)) (fun _=>.ok [])))))) (fun _=>.ok [])))))))) Out.nxt) (retD (sliceF (slotD 6) noPart (partF (slotD 1))))))))))
noncomputable def F_qc:List D->Res D:=fnD 2 9 b_qc
noncomputable def b_qd:DS->Out :=
 (seqD (ifS (orT (notT (bindT (bindF (slotD 0) (isG Bk.is_list)) truthD)) (orT (bindT (two (bindF (consD (slotD 0) (fun _=>.ok [])) lenG) (tupF (consD (fun _=>.ok (.int 2)) (consD (fun _=>.ok (.int 3)) (consD (fun _=>.ok (.int 5)) (consD (fun _=>.ok (.int 9)) (fun _=>.ok [])))))) notInD) boolD) (bindT (two (bindF (consD (slotD 0) (fun _=>.ok [])) lenG) (two (slotD 1) (fun _=>.ok (.int 1)) addD) (cmpD fun i j=>decide (j < i))) boolD))) (retD (fun _=>.ok (.bl false))) Out.nxt) (seqD (setD 2 (fun _=>.ok (.int 0))) (seqD (forS (tgtN 3) (bindL (slotD 0) seqItems) (seqD (ifS (notT (bindT (bindF (consD (slotD 3) (fun _=>.ok [])) F_qp) truthD)) (retD (fun _=>.ok (.bl false))) Out.nxt) (setD 2 (bindF (consD (slotD 2) (consD (slotD 3) (fun _=>.ok []))) F_qk)))) (retD (andV (two (slotD 2) (fun _=>.ok (.int 1)) eqD) (two (two (slotD 0) (negF (fun _=>.ok (.int 1))) ixD) (fun _=>.ok (.int 0)) (cmpD fun i j=>decide (j < i))))))))
noncomputable def F_qd:List D->Res D:=fnD 2 4 b_qd
noncomputable def fuel_qm_1:DS->Nat:=fun _=>5
noncomputable def b_qm:DS->Out :=
 (seqD (setD 2 (bindF (consD (slotD 0) (fun _=>.ok [])) lenG)) (seqD (ifS (bindT (two (slotD 1) (fun _=>.ok (.int 1)) eqD) boolD) (seqD (whileF fuel_qm_1 (andT (bindT (two (slotD 2) (fun _=>.ok (.int 1)) (cmpD fun i j=>decide (j < i))) boolD) (notT (bindT (bindF (consD (sliceF (slotD 0) (partF (two (slotD 2) (fun _=>.ok (.int 2)) fdivD)) (partF (slotD 2))) (fun _=>.ok [])) anyT) truthD))) (setD 2 (two (slotD 2) (fun _=>.ok (.int 2)) fdivD))) (retD (slotD 2))) Out.nxt) (seqD (setD 3 (bindF (consD (slotD 2) (fun _=>.ok [])) lrG)) (seqD (ifS (andT (bindT (two (slotD 1) (fun _=>.ok (.int 2)) eqD) boolD) (andT (bindT (two (slotD 2) (fun _=>.ok (.int 8)) eqD) boolD) (bindT (bindF (consD (sliceF (slotD 0) (partF (fun _=>.ok (.int 4))) noPart) (fun _=>.ok [])) anyT) truthD))) (setD 3 (lstF (consD (fun _=>.ok (.int 0)) (consD (fun _=>.ok (.int 1)) (consD (fun _=>.ok (.int 4)) (consD (fun _=>.ok (.int 5)) (fun _=>.ok []))))))) (ifS (andT (bindT (two (slotD 1) (fun _=>.ok (.int 2)) eqD) boolD) (bindT (two (slotD 2) (fun _=>.ok (.int 8)) eqD) boolD)) (seqD (setD 0 (sliceF (slotD 0) noPart (partF (fun _=>.ok (.int 4))))) (seqD (setD 2 (fun _=>.ok (.int 4))) (setD 3 (lstF (consD (fun _=>.ok (.int 0)) (consD (fun _=>.ok (.int 1)) (consD (fun _=>.ok (.int 2)) (consD (fun _=>.ok (.int 3)) (fun _=>.ok []))))))))) Out.nxt)) (retD (two (slotD 2) (bindF (consD (compI 1 [0] (tgtN 0) (bindT (bindF (consD (slotD 1) (consD (slotD 0) (fun _=>.ok []))) F_qs) truthD) (slotD 0) (bindL (slotD 3) seqItems)) (fun _=>.ok [])) lenG) fdivD))))))
noncomputable def F_qm:List D->Res D:=fnD 2 4 b_qm
noncomputable def b_qu:DS->Out :=
 (seqD (setD 1 (bindF (consD (slotD 0) (consD (fun _=>.ok (.int 0)) (fun _=>.ok []))) F_qv)) (seqD (setD 2 (bindF (consD (slotD 1) (consD (fun _=>.ok (.int 3)) (fun _=>.ok []))) F_qc)) (seqD (ifS (bindT (two (two (two (slotD 2) (fun _=>.ok (.int 1)) ixD) (fun _=>.ok (.int 1)) ixD) (fun _=>.ok (.int 0)) neD) boolD) (retD (tupF (consD (slotD 2) (consD (fun _=>.ok (.int 1)) (fun _=>.ok []))))) Out.nxt) (seqD (ifS (bindT (two (bindF (consD (slotD 1) (consD (fun _=>.ok (.int 8)) (consD (fun _=>.ok (.int 2)) (fun _=>.ok [])))) F_qq) (fun _=>.ok (.int 0)) eqD) boolD) (retD (tupF (consD (slotD 2) (consD (fun _=>.ok (.int 0)) (fun _=>.ok []))))) Out.nxt) (seqD (setD 3 (two (fun _=>.ok (.int 1)) (bindF (consD (slotD 1) (consD (fun _=>.ok (.int 9)) (consD (fun _=>.ok (.int 4)) (fun _=>.ok [])))) F_qq) addD)) (retD (tupF (consD (two (sliceF (slotD 2) noPart (partF (fun _=>.ok (.int 2)))) (tupF (consD (tupF (consD (bindF (consD (slotD 1) (consD (fun _=>.ok (.int 5)) (consD (slotD 3) (fun _=>.ok [])))) F_qq) (consD (fun _=>.ok (.int 0)) (consD (slotD 3) (consD (fun _=>.ok (.int 0)) (fun _=>.ok [])))))) (fun _=>.ok []))) addD) (consD (fun _=>.ok (.int 2)) (fun _=>.ok []))))))))))
noncomputable def F_qu:List D->Res D:=fnD 1 4 b_qu
noncomputable def b_qa (R:List D->Res D):DS->Out :=
 (seqD (ifS (bindT (two (bindF (consD (slotD 1) (fun _=>.ok [])) lenG) (fun _=>.ok (.int 1)) eqD) boolD) (retD (tupF (consD (two (two (slotD 1) (fun _=>.ok (.int 0)) ixD) (two (slotD 2) (fun _=>.ok (.int 0)) ixD) mulE) (fun _=>.ok [])))) Out.nxt) (seqD (setD 3 (two (bindF (consD (slotD 1) (fun _=>.ok [])) lenG) (fun _=>.ok (.int 2)) fdivD)) (seqD (setD 4 (sliceF (slotD 0) noPart (partF (negF (fun _=>.ok (.int 1)))))) (seqD (setD 5 (bindF (consD (slotD 4) (consD (sliceF (slotD 1) (partF (slotD 3)) noPart) (consD (sliceF (slotD 2) (partF (slotD 3)) noPart) (fun _=>.ok [])))) R)) (seqD (setD 6 (bindF (consD (bindF (consD (slotD 4) (consD (sliceF (slotD 1) noPart (partF (slotD 3))) (consD (sliceF (slotD 2) noPart (partF (slotD 3))) (fun _=>.ok [])))) R) (consD (bindF (consD (slotD 4) (consD (two (slotD 0) (negF (fun _=>.ok (.int 1))) ixD) (consD (slotD 5) (fun _=>.ok [])))) R) (fun _=>.ok []))) F_qr)) (seqD (setD 7 (bindF (consD (slotD 4) (consD (sliceF (slotD 1) noPart (partF (slotD 3))) (consD (sliceF (slotD 2) (partF (slotD 3)) noPart) (fun _=>.ok [])))) R)) (retD (two (slotD 6) (bindF (consD (slotD 7) (consD (bindF (consD (slotD 4) (consD (sliceF (slotD 1) (partF (slotD 3)) noPart) (consD (sliceF (slotD 2) noPart (partF (slotD 3))) (fun _=>.ok [])))) R) (fun _=>.ok []))) F_qr) addD))))))))
noncomputable def Fr_qa:Nat->List D->Res D
 | 0=>fun _=>.stuck
 | n + 1=>fnD 3 8 (b_qa (Fr_qa n))
noncomputable def F_qa:List D->Res D:=Fr_qa 4
noncomputable def b_qw:DS->Out :=
 (seqD (setD 3 (bindF (consD (two (slotD 1) (fun _=>.ok (.int 0)) ixD) (fun _=>.ok [])) lenG)) (seqD (setD 4 (bindF (consD (fun _=>.ok (.int 0)) (consD (two (slotD 1) (fun _=>.ok (.int 0)) ixD) (fun _=>.ok []))) F_qj)) (seqD (setD 5 (fun _=>.ok (.int 1))) (seqD (forS (tgtN 6) (bindL (revF (slotD 2) (partF (negF (fun _=>.ok (.int 1))))) seqItems) (seqD (setD 4 (bindF (consD (bindF (consD (slotD 0) (consD (slotD 4) (consD (two (slotD 1) (fun _=>.ok (.int 0)) ixD) (fun _=>.ok [])))) F_qa) (consD (two (tupF (consD (two (slotD 6) (slotD 5) mulE) (fun _=>.ok []))) (bindF (consD (lstRep (consD (fun _=>.ok (.int 0)) (fun _=>.ok [])) (two (slotD 3) (fun _=>.ok (.int 1)) subD)) (fun _=>.ok [])) tupleG) addD) (fun _=>.ok []))) F_qr)) (setD 5 (two (slotD 5) (two (slotD 1) (fun _=>.ok (.int 1)) ixD) mulE)))) (retD (notV (bindF (consD (slotD 4) (fun _=>.ok [])) anyT)))))))
noncomputable def F_qw:List D->Res D:=fnD 3 7 b_qw
noncomputable def b_qz:DS->Out :=
 (seqD (ownC 3 (lstRep (consD (bindF (consD (tupF (consD (tupF (consD (fun _=>.ok (.int 0)) (fun _=>.ok []))) (consD (fun _=>.ok (.int 1)) (fun _=>.ok [])))) (consD (bindF (consD (slotD 0) (fun _=>.ok [])) lenG) (fun _=>.ok []))) F_qB) (fun _=>.ok [])) (two (two (bindF (consD (slotD 1) (fun _=>.ok [])) lenG) (bindF (consD (slotD 2) (fun _=>.ok [])) lenG) addD) (fun _=>.ok (.int 1)) subD))) (seqD (forA 1 (tupTgt [4,5]) (forA 2 (tupTgt [6,7]) (putD 3 (noX (two (slotD 4) (slotD 6) addD)) (bindF (consD (two (slotD 3) (two (slotD 4) (slotD 6) addD) ixD) (consD (bindF (consD (slotD 0) (consD (slotD 5) (consD (slotD 7) (fun _=>.ok [])))) F_qE) (fun _=>.ok []))) F_qG)))) (retD (slotD 3))))
noncomputable def F_qz:List D->Res D:=fnD 3 8 b_qz
noncomputable def fuel_qx_1:DS->Nat:=fun _=>4
noncomputable def b_qx:DS->Out :=
 (seqD (setD 2 (lstF (consD (bindF (consD (slotD 1) (fun _=>.ok [])) F_qy) (consD (bindF (consD (tupF (consD (tupF (consD (fun _=>.ok (.int 1)) (fun _=>.ok []))) (consD (fun _=>.ok (.int 1)) (fun _=>.ok [])))) (consD (bindF (consD (slotD 0) (fun _=>.ok [])) lenG) (fun _=>.ok []))) F_qB) (fun _=>.ok []))))) (seqD (setD 3 (slotD 0)) (seqD (whileF fuel_qx_1 (bindT (two (bindF (consD (slotD 3) (fun _=>.ok [])) lenG) (fun _=>.ok (.int 0)) (cmpD fun i j=>decide (j < i))) boolD) (seqD (ifS (notT (bindT (bindF (consD (compD 1 [] (tgtN 0) (bindF (consD (two (bindF (consD (slotD 0) (fun _=>.ok [])) F_qD) (fun _=>.ok (.int 1)) ixD) (fun _=>.ok [])) F_qt) (bindL (slotD 2) seqItems)) (fun _=>.ok [])) allG) truthD)) (setD 2 (bindF (consD (slotD 3) (consD (slotD 2) (consD (compD 1 [] (tgtN 0) (bindF (consD (slotD 0) (fun _=>.ok [])) F_qC) (bindL (slotD 2) seqItems)) (fun _=>.ok [])))) F_qz)) Out.nxt) (seqD (setD 2 (compD 1 [] (tgtN 0) (two (bindF (consD (slotD 0) (fun _=>.ok [])) F_qD) (fun _=>.ok (.int 0)) ixD) (bindL (slotD 2) seqItems))) (setD 3 (sliceF (slotD 3) noPart (partF (negF (fun _=>.ok (.int 1))))))))) (retD (bindF (consD (slotD 2) (fun _=>.ok [])) F_qb)))))
noncomputable def F_qx:List D->Res D:=fnD 2 4 b_qx
noncomputable def b_law:DS->Out :=
 (seqD (asgD (tupTgt [1,2]) (bindF (consD (slotD 0) (fun _=>.ok [])) F_qu)) (seqD (setD 1 (sliceF (slotD 1) noPart (partF (two (bindF (consD (slotD 0) (consD (fun _=>.ok (.int 1)) (fun _=>.ok []))) F_qv) (fun _=>.ok (.int 4)) modD)))) (seqD (setD 3 (two (lstF (consD (fun _=>.ok (.int 1)) (consD (fun _=>.ok (.int 2)) (consD (fun _=>.ok (.int 4)) (consD (fun _=>.ok (.int 8)) (fun _=>.ok [])))))) (bindF (consD (slotD 1) (fun _=>.ok [])) lenG) ixD)) (seqD (setD 4 (two (lstF (consD (fun _=>.ok (.int 8)) (consD (fun _=>.ok (.int 6)) (consD (fun _=>.ok (.int 4)) (consD (fun _=>.ok (.int 2)) (fun _=>.ok [])))))) (bindF (consD (slotD 1) (fun _=>.ok [])) lenG) ixD)) (seqD (forS (tgtN 5) (bindL (compD 1 [0,4] (tgtN 0) (stepF (slotD 1) (partF (two (fun _=>.ok (.int 2)) (slotD 0) addD)) (partF (fun _=>.ok (.int 64))) (partF (slotD 2))) (bindRg (consD (slotD 4) (fun _=>.ok [])) rng1)) seqItems) (seqD (setD 6 (fun _=>.ok (.int 0))) (seqD (forS (tupTgt [7,8]) (bindRg (consD (slotD 5) (fun _=>.ok [])) enumG) (setD 6 (two (slotD 6) (two (two (two (fun _=>.ok (.int 2)) (slotD 7) mulE) (fun _=>.ok (.int 1)) addD) (two (slotD 8) (two (fun _=>.ok (.int 10)) (fun _=>.ok (.int 30)) powD) modD) mulE) addD))) (seqD (setD 9 (bindF (consD (slotD 6) (consD (slotD 3) (fun _=>.ok []))) F_qh)) (seqD (setD 10 (bindF (consD (two (slotD 9) (fun _=>.ok (.int 0)) ixD) (consD (slotD 2) (fun _=>.ok []))) F_qm)) (seqD (setD 11 (bindF (consD (slotD 1) (consD (slotD 9) (fun _=>.ok []))) F_qx)) (ifS (orT (notT (bindT (bindF (consD (slotD 11) (consD (slotD 3) (fun _=>.ok []))) F_qd) truthD)) (orT (bindT (two (bindF (consD (slotD 11) (fun _=>.ok [])) lenG) (two (slotD 10) (fun _=>.ok (.int 1)) addD) neD) boolD) (notT (bindT (bindF (consD (slotD 1) (consD (slotD 9) (consD (slotD 11) (fun _=>.ok [])))) F_qw) truthD)))) (retD (fun _=>.ok (.bl false))) Out.nxt))))))) (retD (fun _=>.ok (.bl true))))))))
noncomputable def F_law:List D->Res D:=fnD 1 12 b_law
structure Adr where
 c_HallError:Addr
 c_NoOver:Addr
structure Txt (K:PySem.W.Frag) (mg:Str->Option Value) (a:Adr):Prop where
 m_HallError:mg "HallError" = some (.ref a.c_HallError)
 m_NoOver:mg "NoOver" = some (.ref a.c_NoOver)
 n_NoOver:PySem.W.nsIn K mainGlobals "NoOver" = some (some (.ref a.c_NoOver))
 x_NoOver:PySem.W.excIn K a.c_NoOver [.type "ValueError",.type "Exception",.type "BaseException",.type "object"] "ValueError.__new__" = true
 i_int:∀d b,Bk.is_int d=some b->IsOk K (.type "int") b d
 i_bool:∀d b,Bk.is_bool d=some b->IsOk K (.type "bool") b d
 i_list:∀d b,Bk.is_list d=some b->IsOk K (.type "list") b d
 z_abs:mg "abs" = none
 z_all:mg "all" = none
 z_any:mg "any" = none
 z_bool:mg "bool" = none
 z_enumerate:mg "enumerate" = none
 z_int:mg "int" = none
 z_isinstance:mg "isinstance" = none
 z_len:mg "len" = none
 z_list:mg "list" = none
 z_range:mg "range" = none
 z_sum:mg "sum" = none
 z_tuple:mg "tuple" = none
 z_zip:mg "zip" = none
section
variable {P:Program} {w:World} {K:PySem.W.Frag} {mg:Str->Option Value} {base:Heap} {a:Adr}
theorem ok_qA (T:Txt K mg a) (F:Ent K mg "common" st_qA ["a", "b"]) :
  Okf P w K mg base 1 "common" F_qA:=by
 have q:=fnO P w base 0 b_qA F sc_qA fun _ _ _ _ _ _ _ hr=>by
  unfold b_qA;exact (ae' (ah' 2 (ao' gR' gS' rfl T.z_abs (by decide +kernel) (aa' (ab' 0) ad')) sc_qA.nd) (ae' (ah' 3 (ao' gR' gS' rfl T.z_abs (by decide +kernel) (aa' (ab' 1) ad')) sc_qA.nd) (ae' (ch' fuel_qA_1 (ay' (hp' hr.units) dZ' (ab' 3) ac' (aK' _)) (ae' (ah' 4 (aj' bg' bf' (ab' 2) (ab' 3)) sc_qA.nd) (ae' (ah' 2 (ab' 3) sc_qA.nd) (ag' (ah' 3 (ab' 4) sc_qA.nd))))) (ag' (al' (ab' 2))))))
 exact q
theorem ok_qB (T:Txt K mg a) (F:Ent K mg "lifted" st_qB ["x", "many"]) :
  Okf P w K mg base 1 "lifted" F_qB:=by
 have q:=fnO P w base 0 b_qB F sc_qB fun _ _ _ _ _ _ _ hr=>by
  unfold b_qB;exact (ag' (al' (aL' (aa' (aj' aD' aC' (au' (ab' 0) ac') (aj' aI' aH' (aL' (aa' ac' ad')) (aj' dU' dT' (aj' lS' lQ' ac' (ab' 1)) (ao' ba' aZ' rfl T.z_len (by decide +kernel) (aa' (au' (ab' 0) ac') ad'))))) (aa' (au' (ab' 0) ac') ad')))))
 exact q
theorem ok_qf (T:Txt K mg a) (F:Ent K mg "are_noughts" st_qf ["tops"]) :
  Okf P w K mg base 1 "are_noughts" F_qf:=by
 have q:=fnO P w base 0 b_qf F sc_qf fun _ _ _ _ _ _ _ hr=>by
  unfold b_qf;exact (ag' (al' (ao' (jL' rfl) ht' rfl T.z_all (by decide +kernel) (aa' (bp' (N':=["top"]) (m:=1) (fr:=[]) bY' rfl (aF' (by decide)) (aT' (ab' 0)) (fun _ _ _ _=>aA' 0 (show List.Nodup (["top"]:List Str) by decide +kernel)) (fun _ _ _ _=>(dS' (bH' hr.units) bk' (ab' 0) ac' (aK' _)))) ad'))))
 exact q
theorem ok_qi (T:Txt K mg a) (F:Ent K mg "front_tops" st_qi ["tops"]) :
  Okf P w K mg base 1 "front_tops" F_qi:=by
 have q:=fnO P w base 0 b_qi F sc_qi fun _ _ _ _ _ _ _ hr=>by
  unfold b_qi;exact (ag' (al' (aB' (ab' 0) ax' (ar' (aj' aN' aM' (ao' ba' aZ' rfl T.z_len (by decide +kernel) (aa' (ab' 0) ad')) ac')))))
 exact q
theorem ok_qg (T:Txt K mg a) (F:Ent K mg "behind_tops" st_qg ["tops"]) :
  Okf P w K mg base 1 "behind_tops" F_qg:=by
 have q:=fnO P w base 0 b_qg F sc_qg fun _ _ _ _ _ _ _ hr=>by
  unfold b_qg;exact (ag' (al' (aB' (ab' 0) (ar' (aj' aN' aM' (ao' ba' aZ' rfl T.z_len (by decide +kernel) (aa' (ab' 0) ad')) ac')) ax')))
 exact q
theorem ok_qo (T:Txt K mg a) (F:Ent K mg "plus_tops" st_qo ["one", "other"]) :
  Okf P w K mg base 1 "plus_tops" F_qo:=by
 have q:=fnO P w base 0 b_qo F sc_qo fun _ _ _ _ _ _ _ hr=>by
  unfold b_qo;exact (ag' (al' (aS' bo' bd' rfl T.z_tuple (by decide +kernel) (aa' (bp' (N':=["first", "second"]) (m:=2) (fr:=[]) bY' rfl (bJ' (by decide) (by decide)) (eU' rfl T.z_zip (aa' (ab' 0) (aa' (ab' 1) ad'))) (fun _ _ _ _=>bt' rfl (fun _=>ai' 0 (show List.Nodup (["first", "second"]:List Str) by decide +kernel) (ai' 1 (show List.Nodup (["first", "second"]:List Str) by decide +kernel) aE'))) (fun _ _ _ _=>(aj' aD' aC' (ab' 0) (ab' 1)))) ad'))))
 exact q
theorem ok_qe (T:Txt K mg a) (F:Ent K mg "against_tops" st_qe ["tops"]) :
  Okf P w K mg base 1 "against_tops" F_qe:=by
 have q:=fnO P w base 0 b_qe F sc_qe fun _ _ _ _ _ _ _ hr=>by
  unfold b_qe;exact (ag' (al' (aS' bo' bd' rfl T.z_tuple (by decide +kernel) (aa' (bp' (N':=["top"]) (m:=1) (fr:=[]) bY' rfl (aF' (by decide)) (aT' (ab' 0)) (fun _ _ _ _=>aA' 0 (show List.Nodup (["top"]:List Str) by decide +kernel)) (fun _ _ _ _=>(bz' (ab' 0)))) ad'))))
 exact q
theorem ok_qv (T:Txt K mg a) (F:Ent K mg "_law_cell" st_qv ["_law_script", "_law_k"]) :
  Okf P w K mg base 1 "_law_cell" F_qv:=by
 have q:=fnO P w base 0 b_qv F sc_qv fun _ _ _ _ _ _ _ hr=>by
  unfold b_qv;exact (ae' (bc' (ay' kq' (cK' _) (ab' 1) (ao' ba' aZ' rfl T.z_len (by decide +kernel) (aa' (ab' 0) ad')) (aK' _)) (ag' (al' (au' (ab' 0) (ab' 1)))) aR') (ag' (al' ac')))
 exact q
theorem ok_qp (T:Txt K mg a) (F:Ent K mg "_law_whole" st_qp ["_law_found"]) :
  Okf P w K mg base 1 "_law_whole" F_qp:=by
 have q:=fnO P w base 0 b_qp F sc_qp fun _ _ _ _ _ _ _ hr=>by
  unfold b_qp;exact (ag' (al' (jH' (cN' T.i_int (ab' 0) (eS' rfl T.z_int (by decide +kernel)) rfl T.z_isinstance) (jG' (jI' (cN' T.i_bool (ab' 0) (eS' rfl T.z_bool (by decide +kernel)) rfl T.z_isinstance))))))
 exact q
theorem ok_qq (T:Txt K mg a) (F:Ent K mg "_law_mixed" st_qq ["_law_cell_here", "_law_k", "_law_many"]) :
  Okf P w K mg base 1 "_law_mixed" F_qq:=by
 have q:=fnO P w base 0 b_qq F sc_qq fun _ _ _ _ _ _ _ hr=>by
  unfold b_qq;exact (ae' (ah' 3 (cg' (aa' ac' (aa' ac' (aa' ac' (aa' ac' (aa' ac' ad')))))) sc_qq.nd) (ae' (ah' 3 (aj' aD' aC' (ab' 3) (cg' (aa' ac' (aa' ac' (aa' ac' (aa' ac' (aa' ac' ad'))))))) sc_qq.nd) (ag' (al' (aj' bg' bf' (aj' bg' bf' (aj' aI' aH' (aj' aD' aC' (ab' 0) ac') (au' (ab' 3) (ab' 1))) ac') (ab' 2))))))
 exact q
theorem ok_qr (T:Txt K mg a) (F:Ent K mg "_law_added" st_qr ["_law_one", "_law_other"]) :
  Okf P w K mg base 1 "_law_added" F_qr:=by
 have q:=fnO P w base 0 b_qr F sc_qr fun _ _ _ _ _ _ _ hr=>by
  unfold b_qr;exact (ag' (al' (aS' bo' bd' rfl T.z_tuple (by decide +kernel) (aa' (bp' (N':=["_law_a", "_law_b"]) (m:=2) (fr:=[]) bY' rfl (bJ' (by decide) (by decide)) (eU' rfl T.z_zip (aa' (ab' 0) (aa' (ab' 1) ad'))) (fun _ _ _ _=>bt' rfl (fun _=>ai' 0 (show List.Nodup (["_law_a", "_law_b"]:List Str) by decide +kernel) (ai' 1 (show List.Nodup (["_law_a", "_law_b"]:List Str) by decide +kernel) aE'))) (fun _ _ _ _=>(aj' aD' aC' (ab' 0) (ab' 1)))) ad'))))
 exact q
theorem ok_qj (T:Txt K mg a) (F:Ent K mg "_law_scaled" st_qj ["_law_k", "_law_one"]) :
  Okf P w K mg base 1 "_law_scaled" F_qj:=by
 have q:=fnO P w base 0 b_qj F sc_qj fun _ _ _ _ _ _ _ hr=>by
  unfold b_qj;exact (ag' (al' (aS' bo' bd' rfl T.z_tuple (by decide +kernel) (aa' (bp' (N':=["_law_a", "_law_k"]) (m:=1) (fr:=[0]) (bq' (defScope st_qj) ["_law_k", "_law_one"] rfl rfl rfl rfl rfl (by decide +kernel)) rfl (aF' (by decide)) (aT' (ab' 1)) (fun _ _ _ _=>aA' 0 (show List.Nodup (["_law_a", "_law_k"]:List Str) by decide +kernel)) (fun _ _ _ _=>(aj' aI' aH' (ab' 1) (ab' 0)))) ad'))))
 exact q
theorem ok_qk (T:Txt K mg a) (F:Ent K mg "_law_common" st_qk ["_law_one", "_law_other"]) :
  Okf P w K mg base 1 "_law_common" F_qk:=by
 have q:=fnO P w base 0 b_qk F sc_qk fun _ _ _ _ _ _ _ hr=>by
  unfold b_qk;exact (ae' (ch' fuel_qk_1 (ay' (hp' hr.units) dZ' (ab' 1) ac' (aK' _)) (ae' (ah' 2 (aj' bg' bf' (ab' 0) (ab' 1)) sc_qk.nd) (ae' (ah' 0 (ab' 1) sc_qk.nd) (ag' (ah' 1 (ab' 2) sc_qk.nd))))) (ag' (al' (ao' gR' gS' rfl T.z_abs (by decide +kernel) (aa' (ab' 0) ad')))))
 exact q
theorem ok_qs (T:Txt K mg a) (F:Ent K mg "_law_stays" st_qs ["_law_tops", "_law_spin"]) :
  Okf P w K mg base 1 "_law_stays" F_qs:=by
 have q:=fnO P w base 0 b_qs F sc_qs fun _ _ _ _ _ _ _ hr=>by
  unfold b_qs;exact (ae' (bI' rfl (hC' rfl T.z_enumerate (aa' (ab' 0) ad')) (bt' rfl (fun _=>(ai' 2 sc_qs.nd (ai' 3 sc_qs.nd aE')))) (ae' (bX' 4 (N':=["_law_k", "_law_at", "_law_spin"]) (m:=1) (fr:=[2,1]) (bq' (defScope st_qs) ["_law_tops", "_law_spin", "_law_at", "_law_top", "_law_both"] rfl rfl rfl rfl rfl (by decide +kernel)) rfl (aF' (by decide)) (aT' (cg' (aa' ac' (aa' ac' (aa' ac' ad'))))) (fun _ _ _ _=>aA' 0 (show List.Nodup (["_law_k", "_law_at", "_law_spin"]:List Str) by decide +kernel)) (fun _ _ _ _=>(aj' aI' aH' (aj' bg' bf' (aj' aN' aM' (ab' 1) (ab' 0)) ac') (aj' bg' bf' (aj' aN' aM' (ab' 2) (ab' 0)) ac'))) sc_qs.nd) (ag' (bc' (PWD.pt (cJ' (ay' (hp' hr.units) dZ' (ab' 3) ac' (aK' _)) (cB' (ay' (bH' hr.units) bk' (aj' bg' bf' (ao' (mc' rfl) mb' rfl T.z_sum (by decide +kernel) (aa' (ab' 4) ad')) ac') ac' (aK' _))))) (ag' (al' gc')) aR')))) (ag' (al' gc')))
 exact q
theorem ok_qF (T:Txt K mg a) (F:Ent K mg "made" st_qF ["tops", "bottom"]) (G_qA:Okf P w K mg base 1 "common" F_qA) :
  Okf P w K mg base 2 "made" F_qF:=by
 have q:=fnO P w base 1 b_qF F sc_qF fun _ _ _ _ _ _ _ hr=>by
  unfold b_qF;exact (ae' (bc' (ay' (bH' hr.units) bk' (ab' 1) ac' (aK' _)) (ag' (gZ' rfl PySem.F.excBase_ValueError T.n_NoOver T.x_NoOver rfl T.m_NoOver (aa' lO' ad') (by decide) (hlen:=fun δ ds h=>hu' h))) aR') (ae' (ah' 2 (ab' 1) sc_qF.nd) (ae' (bI' rfl (aT' (ab' 0)) (aA' 3 sc_qF.nd) (ag' (ah' 2 (cl G_qA hr (aa' (ab' 2) (aa' (ab' 3) ad'))) sc_qF.nd))) (ae' (bc' (ay' kq' (cK' _) (ab' 1) ac' (aK' _)) (ag' (ah' 2 (bz' (ab' 2)) sc_qF.nd)) aR') (ag' (al' (aL' (aa' (aS' bo' bd' rfl T.z_tuple (by decide +kernel) (aa' (bp' (N':=["top", "shared"]) (m:=1) (fr:=[2]) (bq' (defScope st_qF) ["tops", "bottom", "shared", "top"] rfl rfl rfl rfl rfl (by decide +kernel)) rfl (aF' (by decide)) (aT' (ab' 0)) (fun _ _ _ _=>aA' 0 (show List.Nodup (["top", "shared"]:List Str) by decide +kernel)) (fun _ _ _ _=>(aj' aN' aM' (ab' 0) (ab' 1)))) ad')) (aa' (aj' aN' aM' (ab' 1) (ab' 2)) ad')))))))))
 exact q
theorem ok_qy (T:Txt K mg a) (F:Ent K mg "against" st_qy ["x"]) (G_qe:Okf P w K mg base 1 "against_tops" F_qe) :
  Okf P w K mg base 2 "against" F_qy:=by
 have q:=fnO P w base 1 b_qy F sc_qy fun _ _ _ _ _ _ _ hr=>by
  unfold b_qy;exact (ag' (al' (aL' (aa' (cl G_qe hr (aa' (au' (ab' 0) ac') ad')) (aa' (au' (ab' 0) ac') ad')))))
 exact q
theorem ok_qt (T:Txt K mg a) (F:Ent K mg "is_nought" st_qt ["x"]) (G_qf:Okf P w K mg base 1 "are_noughts" F_qf) :
  Okf P w K mg base 2 "is_nought" F_qt:=by
 have q:=fnO P w base 1 b_qt F sc_qt fun _ _ _ _ _ _ _ hr=>by
  unfold b_qt;exact (ag' (al' (cl G_qf hr (aa' (au' (ab' 0) ac') ad'))))
 exact q
theorem ok_qC (T:Txt K mg a) (F:Ent K mg "turned" st_qC ["x"]) (G_qi:Okf P w K mg base 1 "front_tops" F_qi) (G_qe:Okf P w K mg base 1 "against_tops" F_qe) (G_qg:Okf P w K mg base 1 "behind_tops" F_qg) :
  Okf P w K mg base 2 "turned" F_qC:=by
 have q:=fnO P w base 1 b_qC F sc_qC fun _ _ _ _ _ _ _ hr=>by
  unfold b_qC;exact (ag' (al' (aL' (aa' (aj' aD' aC' (cl G_qi hr (aa' (au' (ab' 0) ac') ad')) (cl G_qe hr (aa' (cl G_qg hr (aa' (au' (ab' 0) ac') ad')) ad'))) (aa' (au' (ab' 0) ac') ad')))))
 exact q
theorem ok_qb (T:Txt K mg a) (F:Ent K mg "without_bottoms" st_qb ["told"]) (G_qA:Okf P w K mg base 1 "common" F_qA) :
  Okf P w K mg base 2 "without_bottoms" F_qb:=by
 have q:=fnO P w base 1 b_qb F sc_qb fun _ _ _ _ _ _ _ hr=>by
  unfold b_qb;exact (ae' (ah' 1 ac' sc_qb.nd) (ae' (bI' rfl (aT' (ab' 0)) (aA' 2 sc_qb.nd) (ag' (ah' 1 (aj' aI' aH' (aj' aN' aM' (ab' 1) (cl G_qA hr (aa' (ab' 1) (aa' (au' (ab' 2) ac') ad')))) (au' (ab' 2) ac')) sc_qb.nd))) (ag' (al' (bp' (N':=["number", "least"]) (m:=1) (fr:=[1]) (bq' (defScope st_qb) ["told", "least", "number"] rfl rfl rfl rfl rfl (by decide +kernel)) rfl (aF' (by decide)) (aT' (ab' 0)) (fun _ _ _ _=>aA' 0 (show List.Nodup (["number", "least"]:List Str) by decide +kernel)) (fun _ _ _ _=>(aj' aI' aH' (au' (au' (ab' 0) ac') ac') (aj' aN' aM' (ab' 1) (au' (ab' 0) ac')))))))))
 exact q
theorem ok_qc (T:Txt K mg a) (F:Ent K mg "_law_scaffold" st_qc ["_law_cell_here", "_law_many"]) (G_qq:Okf P w K mg base 1 "_law_mixed" F_qq) :
  Okf P w K mg base 2 "_law_scaffold" F_qc:=by
 have q:=fnO P w base 1 b_qc F sc_qc fun _ _ _ _ _ _ _ hr=>by
  unfold b_qc;exact (ae' (ah' 2 (aj' aD' aC' ac' (cl G_qq hr (aa' (ab' 0) (aa' ac' (aa' ac' ad'))))) sc_qc.nd) (ae' (ah' 3 (aj' aD' aC' (aj' aD' aC' (aj' aI' aH' (ab' 2) (ab' 2)) ac') (cl G_qq hr (aa' (ab' 0) (aa' ac' (aa' (aj' aI' aH' ac' (ab' 2)) ad'))))) sc_qc.nd) (ae' (ah' 4 (aj' aD' aC' ac' (cl G_qq hr (aa' (ab' 0) (aa' ac' (aa' ac' ad'))))) sc_qc.nd) (ae' (ah' 5 (aj' aD' aC' ac' (cl G_qq hr (aa' (ab' 0) (aa' ac' (aa' ac' ad'))))) sc_qc.nd) (ae' (ah' 6 (aL' (aa' (aL' (aa' (ab' 3) ad')) (aa' (aL' (aa' (cl G_qq hr (aa' (ab' 0) (aa' ac' (aa' (aj' aD' aC' (aj' aI' aH' (ab' 4) (ab' 2)) ac') ad')))) (aa' (ab' 4) ad'))) (aa' (aL' (aa' (cl G_qq hr (aa' (ab' 0) (aa' ac' (aa' (ab' 5) ad')))) (aa' ac' (aa' (ab' 5) (aa' ac' ad'))))) ad')))) sc_qc.nd) (ae' (bc' (ay' (bH' hr.units) bk' (cl G_qq hr (aa' (ab' 0) (aa' ac' (aa' ac' ad')))) ac' (aK' _)) (ae' (ah' 7 (cg' (aa' ac' (aa' ac' (aa' ac' (aa' ac' (aa' ac' (aa' ac' ad'))))))) sc_qc.nd) (ae' (ah' 8 (cl G_qq hr (aa' (ab' 0) (aa' ac' (aa' ac' ad')))) sc_qc.nd) (ag' (ah' 6 (aL' (aa' (aL' (aa' (au' (ab' 7) (ab' 8)) ad')) (aa' (aL' (aa' (au' (ab' 7) (aj' bg' bf' (aj' aD' aC' (ab' 8) ac') ac')) (aa' ac' ad'))) (aa' (aL' (aa' (au' (ab' 7) (aj' bg' bf' (aj' aD' aC' (ab' 8) ac') ac')) (aa' ac' (aa' ac' (aa' ac' ad'))))) ad')))) sc_qc.nd)))) aR') (ag' (al' (aB' (ab' 6) ax' (ar' (ab' 1)))))))))))
 exact q
theorem ok_ql (T:Txt K mg a) (F:Ent K mg "_law_lowest" st_ql ["_law_one"]) (G_qk:Okf P w K mg base 1 "_law_common" F_qk) :
  Okf P w K mg base 2 "_law_lowest" F_ql:=by
 have q:=fnO P w base 1 b_ql F sc_ql fun _ _ _ _ _ _ _ hr=>by
  unfold b_ql;exact (ae' (ah' 1 (au' (ab' 0) ac') sc_ql.nd) (ae' (bI' rfl (aT' (au' (ab' 0) ac')) (aA' 2 sc_ql.nd) (ag' (ah' 1 (cl G_qk hr (aa' (ab' 1) (aa' (ab' 2) ad'))) sc_ql.nd))) (ag' (al' (aL' (aa' (aS' bo' bd' rfl T.z_tuple (by decide +kernel) (aa' (bp' (N':=["_law_top", "_law_shared"]) (m:=1) (fr:=[1]) (bq' (defScope st_ql) ["_law_one", "_law_shared", "_law_top"] rfl rfl rfl rfl rfl (by decide +kernel)) rfl (aF' (by decide)) (aT' (au' (ab' 0) ac')) (fun _ _ _ _=>aA' 0 (show List.Nodup (["_law_top", "_law_shared"]:List Str) by decide +kernel)) (fun _ _ _ _=>(aj' aN' aM' (ab' 0) (ab' 1)))) ad')) (aa' (aj' aN' aM' (au' (ab' 0) ac') (ab' 1)) ad')))))))
 exact q
theorem ok_qd (T:Txt K mg a) (F:Ent K mg "_law_plain_row" st_qd ["_law_row", "_law_many"]) (G_qk:Okf P w K mg base 1 "_law_common" F_qk) (G_qp:Okf P w K mg base 1 "_law_whole" F_qp) :
  Okf P w K mg base 2 "_law_plain_row" F_qd:=by
 have q:=fnO P w base 1 b_qd F sc_qd fun _ _ _ _ _ _ _ hr=>by
  unfold b_qd;exact (ae' (bc' (PWD.pt (fr' (co' (bj' (cN' T.i_list (ab' 0) (eS' rfl T.z_list (by decide +kernel)) rfl T.z_isinstance))) (fr' (ay' ja' iZ' (ao' ba' aZ' rfl T.z_len (by decide +kernel) (aa' (ab' 0) ad')) (aL' (aa' ac' (aa' ac' (aa' ac' (aa' ac' ad'))))) (by with_unfolding_all rfl)) (gN' (ay' iF' (cK' _) (ao' ba' aZ' rfl T.z_len (by decide +kernel) (aa' (ab' 0) ad')) (aj' aD' aC' (ab' 1) ac') (aK' _)))))) (ag' (al' gc')) aR') (ae' (ah' 2 ac' sc_qd.nd) (ae' (bI' rfl (aT' (ab' 0)) (aA' 3 sc_qd.nd) (ae' (bc' (co' (bj' (cl G_qp hr (aa' (ab' 3) ad')))) (ag' (al' gc')) aR') (ag' (ah' 2 (cl G_qk hr (aa' (ab' 2) (aa' (ab' 3) ad'))) sc_qd.nd)))) (ag' (al' (jH' (dS' (bH' hr.units) bk' (ab' 2) ac' (aK' _)) (jG' (dS' iF' (cK' _) (au' (ab' 0) (bz' ac')) ac' (aK' _)))))))))
 exact q
theorem ok_qm (T:Txt K mg a) (F:Ent K mg "_law_degree" st_qm ["_law_tops", "_law_kind"]) (G_qs:Okf P w K mg base 1 "_law_stays" F_qs) :
  Okf P w K mg base 2 "_law_degree" F_qm:=by
 have q:=fnO P w base 1 b_qm F sc_qm fun _ _ _ _ _ _ _ hr=>by
  unfold b_qm;exact (ae' (ah' 2 (ao' ba' aZ' rfl T.z_len (by decide +kernel) (aa' (ab' 0) ad')) sc_qm.nd) (ae' (bc' (ay' (bH' hr.units) bk' (ab' 1) ac' (aK' _)) (ae' (ch' fuel_qm_1 (PWD.pt (cJ' (ay' iF' (cK' _) (ab' 2) ac' (aK' _)) (cB' (co' (bj' (ao' (eW' rfl) eV' rfl T.z_any (by decide +kernel) (aa' (aB' (ab' 0) (ar' (aj' aN' aM' (ab' 2) ac')) (ar' (ab' 2))) ad'))))))) (ag' (ah' 2 (aj' aN' aM' (ab' 2) ac') sc_qm.nd))) (ag' (al' (ab' 2)))) aR') (ae' (ah' 3 (ej' rfl rfl T.z_list rfl T.z_range (aa' (ab' 2) ad')) sc_qm.nd) (ae' (bc' (PWD.pt (cJ' (ay' (bH' hr.units) bk' (ab' 1) ac' (aK' _)) (cJ' (ay' (bH' hr.units) bk' (ab' 2) ac' (aK' _)) (cB' (bj' (ao' (eW' rfl) eV' rfl T.z_any (by decide +kernel) (aa' (aB' (ab' 0) (ar' ac') ax') ad'))))))) (ag' (ah' 3 (cg' (aa' ac' (aa' ac' (aa' ac' (aa' ac' ad'))))) sc_qm.nd)) (ag' (bc' (PWD.pt (cJ' (ay' (bH' hr.units) bk' (ab' 1) ac' (aK' _)) (cB' (ay' (bH' hr.units) bk' (ab' 2) ac' (aK' _))))) (ae' (ah' 0 (aB' (ab' 0) ax' (ar' ac')) sc_qm.nd) (ae' (ah' 2 ac' sc_qm.nd) (ag' (ah' 3 (cg' (aa' ac' (aa' ac' (aa' ac' (aa' ac' ad'))))) sc_qm.nd)))) aR'))) (ag' (al' (aj' aN' aM' (ab' 2) (ao' ba' aZ' rfl T.z_len (by decide +kernel) (aa' (jb' (N':=["_law_spin", "_law_tops"]) (m:=1) (fr:=[0]) (bq' (defScope st_qm) ["_law_tops", "_law_kind", "_law_many", "_law_spins"] rfl rfl rfl rfl rfl (by decide +kernel)) rfl (aF' (by decide)) (aT' (ab' 3)) (fun _ _ _ _=>aA' 0 (show List.Nodup (["_law_spin", "_law_tops"]:List Str) by decide +kernel)) (fun _ _ _ _=>(bj' (cl G_qs hr (aa' (ab' 1) (aa' (ab' 0) ad'))))) (fun _ _ _ _=>(ab' 0))) ad')))))))))
 exact q
theorem ok_qG (T:Txt K mg a) (F:Ent K mg "plus" st_qG ["x", "y"]) (G_qF:Okf P w K mg base 2 "made" F_qF) :
  Okf P w K mg base 3 "plus" F_qG:=by
 have q:=fnO P w base 2 b_qG F sc_qG fun _ _ _ _ _ _ _ hr=>by
  unfold b_qG;exact (ae' (bX' 2 (N':=["one", "other", "y", "x"]) (m:=2) (fr:=[1,0]) (bq' (defScope st_qG) ["x", "y", "tops"] rfl rfl rfl rfl rfl (by decide +kernel)) rfl (bJ' (by decide) (by decide)) (eU' rfl T.z_zip (aa' (au' (ab' 0) ac') (aa' (au' (ab' 1) ac') ad'))) (fun _ _ _ _=>bt' rfl (fun _=>ai' 0 (show List.Nodup (["one", "other", "y", "x"]:List Str) by decide +kernel) (ai' 1 (show List.Nodup (["one", "other", "y", "x"]:List Str) by decide +kernel) aE'))) (fun _ _ _ _=>(aj' aD' aC' (aj' aI' aH' (ab' 0) (au' (ab' 2) ac')) (aj' aI' aH' (ab' 1) (au' (ab' 3) ac')))) sc_qG.nd) (ag' (al' (cl G_qF hr (aa' (aS' bo' bd' rfl T.z_tuple (by decide +kernel) (aa' (ab' 2) ad')) (aa' (aj' aI' aH' (au' (ab' 0) ac') (au' (ab' 1) ac')) ad'))))))
 exact q
theorem ok_qD (T:Txt K mg a) (F:Ent K mg "halves" st_qD ["x"]) (G_qF:Okf P w K mg base 2 "made" F_qF) (G_qi:Okf P w K mg base 1 "front_tops" F_qi) (G_qg:Okf P w K mg base 1 "behind_tops" F_qg) :
  Okf P w K mg base 3 "halves" F_qD:=by
 have q:=fnO P w base 2 b_qD F sc_qD fun _ _ _ _ _ _ _ hr=>by
  unfold b_qD;exact (ag' (al' (aL' (aa' (cl G_qF hr (aa' (cl G_qi hr (aa' (au' (ab' 0) ac') ad')) (aa' (au' (ab' 0) ac') ad'))) (aa' (cl G_qF hr (aa' (cl G_qg hr (aa' (au' (ab' 0) ac') ad')) (aa' (au' (ab' 0) ac') ad'))) ad')))))
 exact q
theorem ok_qh (T:Txt K mg a) (F:Ent K mg "_law_drawn" st_qh ["_law_cell_here", "_law_many"]) (G_ql:Okf P w K mg base 2 "_law_lowest" F_ql) (G_qq:Okf P w K mg base 1 "_law_mixed" F_qq) :
  Okf P w K mg base 3 "_law_drawn" F_qh:=by
 have q:=fnO P w base 2 b_qh F sc_qh fun _ _ _ _ _ _ _ hr=>by
  unfold b_qh;exact (ae' (bZ' 2 (N':=["_law_k", "_law_cell_here"]) (m:=1) (fr:=[0]) (bq' (defScope st_qh) ["_law_cell_here", "_law_many", "_law_tops"] rfl rfl rfl rfl rfl (by decide +kernel)) rfl (aF' (by decide)) (di' rfl T.z_range (aa' (ab' 1) ad')) (fun _ _ _ _=>aA' 0 (show List.Nodup (["_law_k", "_law_cell_here"]:List Str) by decide +kernel)) (fun _ _ _ _=>(aj' dU' dT' (cl G_qq hr (aa' (aj' aN' aM' (ab' 1) ac') (aa' (ab' 0) (aa' ac' ad')))) ac')) sc_qh.nd) (ae' (bc' (ay' (bH' hr.units) bk' (aj' bg' bf' (ab' 0) ac') ac' (aK' _)) (ag' (hy' 2 (aj' dU' dT' (aj' bg' bf' (aj' aN' aM' (ab' 0) ac') (aj' aD' aC' (aj' aI' aH' ac' (aj' gP' gO' ac' ac')) ac')) (aj' gP' gO' ac' ac')) (fz' (aj' bg' bf' (aj' aN' aM' (ab' 0) ac') (ab' 1))) (dk' _))) aR') (ae' (bc' (ay' (bH' hr.units) bk' (aj' bg' bf' (ab' 0) ac') ac' (aK' _)) (ag' (bZ' 2 (N':=["_law_k", "_law_top", "_law_cell_here"]) (m:=2) (fr:=[0]) (bq' (defScope st_qh) ["_law_cell_here", "_law_many", "_law_tops"] rfl rfl rfl rfl rfl (by decide +kernel)) rfl (bJ' (by decide) (by decide)) (dy' rfl T.z_enumerate (aa' (ab' 2) ad')) (fun _ _ _ _=>bt' rfl (fun _=>ai' 0 (show List.Nodup (["_law_k", "_law_top", "_law_cell_here"]:List Str) by decide +kernel) (ai' 1 (show List.Nodup (["_law_k", "_law_top", "_law_cell_here"]:List Str) by decide +kernel) aE'))) (fun _ _ _ _=>(aj' aI' aH' (ab' 1) (aS' jM' ne_int rfl T.z_int (by decide +kernel) (aa' (dS' (bH' hr.units) bk' (aj' bg' bf' (aj' aN' aM' (aj' aN' aM' (ab' 2) ac') (aj' aD' aC' (ab' 0) ac')) ac') ac' (aK' _)) ad')))) sc_qh.nd)) aR') (ae' (bc' (ay' (bH' hr.units) bk' (aj' bg' bf' (ab' 0) ac') ac' (aK' _)) (ag' (bZ' 2 (N':=["_law_k", "_law_top", "_law_many", "_law_cell_here"]) (m:=2) (fr:=[1,0]) (bq' (defScope st_qh) ["_law_cell_here", "_law_many", "_law_tops"] rfl rfl rfl rfl rfl (by decide +kernel)) rfl (bJ' (by decide) (by decide)) (dy' rfl T.z_enumerate (aa' (ab' 2) ad')) (fun _ _ _ _=>bt' rfl (fun _=>ai' 0 (show List.Nodup (["_law_k", "_law_top", "_law_many", "_law_cell_here"]:List Str) by decide +kernel) (ai' 1 (show List.Nodup (["_law_k", "_law_top", "_law_many", "_law_cell_here"]:List Str) by decide +kernel) aE'))) (fun _ _ _ _=>(aj' aI' aH' (ab' 1) (aS' jM' ne_int rfl T.z_int (by decide +kernel) (aa' (dS' kq' (cK' _) (ab' 0) (aj' aD' aC' (aj' bg' bf' (aj' aN' aM' (ab' 3) ac') (ab' 2)) ac') (aK' _)) ad')))) sc_qh.nd)) aR') (ag' (al' (cl G_ql hr (aa' (aL' (aa' (aS' bo' bd' rfl T.z_tuple (by decide +kernel) (aa' (ab' 2) ad')) (aa' (aj' aD' aC' ac' (cl G_qq hr (aa' (aj' aN' aM' (ab' 0) ac') (aa' ac' (aa' ac' ad'))))) ad'))) ad'))))))))
 exact q
theorem ok_qu (T:Txt K mg a) (F:Ent K mg "_law_roots" st_qu ["_law_script"]) (G_qv:Okf P w K mg base 1 "_law_cell" F_qv) (G_qc:Okf P w K mg base 2 "_law_scaffold" F_qc) (G_qq:Okf P w K mg base 1 "_law_mixed" F_qq) :
  Okf P w K mg base 3 "_law_roots" F_qu:=by
 have q:=fnO P w base 2 b_qu F sc_qu fun _ _ _ _ _ _ _ hr=>by
  unfold b_qu;exact (ae' (ah' 1 (cl G_qv hr (aa' (ab' 0) (aa' ac' ad'))) sc_qu.nd) (ae' (ah' 2 (cl G_qc hr (aa' (ab' 1) (aa' ac' ad'))) sc_qu.nd) (ae' (bc' (ay' (hp' hr.units) dZ' (au' (au' (ab' 2) ac') ac') ac' (aK' _)) (ag' (al' (aL' (aa' (ab' 2) (aa' ac' ad'))))) aR') (ae' (bc' (ay' (bH' hr.units) bk' (cl G_qq hr (aa' (ab' 1) (aa' ac' (aa' ac' ad')))) ac' (aK' _)) (ag' (al' (aL' (aa' (ab' 2) (aa' ac' ad'))))) aR') (ae' (ah' 3 (aj' aD' aC' ac' (cl G_qq hr (aa' (ab' 1) (aa' ac' (aa' ac' ad'))))) sc_qu.nd) (ag' (al' (aL' (aa' (aj' aD' aC' (aB' (ab' 2) ax' (ar' ac')) (aL' (aa' (aL' (aa' (cl G_qq hr (aa' (ab' 1) (aa' ac' (aa' (ab' 3) ad')))) (aa' ac' (aa' (ab' 3) (aa' ac' ad'))))) ad'))) (aa' ac' ad'))))))))))
 exact q
theorem step_qn (T:Txt K mg a) (F:Ent K mg "times_tops" st_qn ["roots", "one", "other"]) (G_qi:Okf P w K mg base 1 "front_tops" F_qi) (G_qg:Okf P w K mg base 1 "behind_tops" F_qg) (G_qo:Okf P w K mg base 1 "plus_tops" F_qo) {R:List D->Res D} {k:Nat} (hk:1<=k) (G_qn:Okf P w K mg base k "times_tops" R) :
  Okf P w K mg base (k + 1) "times_tops" (fnD 3 11 (b_qn R)):=by
 have q:=fnO P w base k (b_qn R) F sc_qn fun _ _ _ _ _ _ _ hr=>by
  unfold b_qn;exact (ae' (bc' (ay' (bH' hr.units) bk' (ao' ba' aZ' rfl T.z_len (by decide +kernel) (aa' (ab' 0) ad')) ac' (aK' _)) (ag' (al' (aL' (aa' (aj' aI' aH' (au' (ab' 1) ac') (au' (ab' 2) ac')) ad')))) aR') (ae' (ah' 3 (aB' (ab' 0) ax' (ar' (bz' ac'))) sc_qn.nd) (ae' (ah' 4 (cl G_qi hr (aa' (ab' 1) ad')) sc_qn.nd) (ae' (ah' 5 (cl G_qg hr (aa' (ab' 1) ad')) sc_qn.nd) (ae' (ah' 6 (cl G_qi hr (aa' (ab' 2) ad')) sc_qn.nd) (ae' (ah' 7 (cl G_qg hr (aa' (ab' 2) ad')) sc_qn.nd) (ae' (ah' 8 (cl G_qn hr (aa' (ab' 3) (aa' (cl G_qn hr (aa' (ab' 3) (aa' (ab' 5) (aa' (ab' 7) ad')))) (aa' (au' (ab' 0) (bz' ac')) ad')))) sc_qn.nd) (ae' (ah' 9 (cl G_qo hr (aa' (cl G_qn hr (aa' (ab' 3) (aa' (ab' 4) (aa' (ab' 6) ad')))) (aa' (ab' 8) ad'))) sc_qn.nd) (ae' (ah' 10 (cl G_qo hr (aa' (cl G_qn hr (aa' (ab' 3) (aa' (ab' 4) (aa' (ab' 7) ad')))) (aa' (cl G_qn hr (aa' (ab' 3) (aa' (ab' 5) (aa' (ab' 6) ad')))) ad'))) sc_qn.nd) (ag' (al' (aj' aD' aC' (ab' 9) (ab' 10)))))))))))))
 exact q
theorem all_qn (T:Txt K mg a) (F:Ent K mg "times_tops" st_qn ["roots", "one", "other"]) (G_qi:Okf P w K mg base 1 "front_tops" F_qi) (G_qg:Okf P w K mg base 1 "behind_tops" F_qg) (G_qo:Okf P w K mg base 1 "plus_tops" F_qo):∀n,Okf P w K mg base (1 + 1 * n) "times_tops" (Fr_qn n)
 | 0=>okf0 F _
 | n + 1=>step_qn T F G_qi G_qg G_qo (Nat.le_add_right _ _) (all_qn T F G_qi G_qg G_qo  n)
theorem ok_qn (T:Txt K mg a) (F:Ent K mg "times_tops" st_qn ["roots", "one", "other"]) (G_qi:Okf P w K mg base 1 "front_tops" F_qi) (G_qg:Okf P w K mg base 1 "behind_tops" F_qg) (G_qo:Okf P w K mg base 1 "plus_tops" F_qo) :
  Okf P w K mg base 5 "times_tops" F_qn:=all_qn T F G_qi G_qg G_qo  4
theorem step_qa (T:Txt K mg a) (F:Ent K mg "_law_tops_times" st_qa ["_law_roots_here", "_law_one", "_law_other"]) (G_qr:Okf P w K mg base 1 "_law_added" F_qr) {R:List D->Res D} {k:Nat} (hk:1<=k) (G_qa:Okf P w K mg base k "_law_tops_times" R) :
  Okf P w K mg base (k + 1) "_law_tops_times" (fnD 3 8 (b_qa R)):=by
 have q:=fnO P w base k (b_qa R) F sc_qa fun _ _ _ _ _ _ _ hr=>by
  unfold b_qa;exact (ae' (bc' (ay' (bH' hr.units) bk' (ao' ba' aZ' rfl T.z_len (by decide +kernel) (aa' (ab' 1) ad')) ac' (aK' _)) (ag' (al' (aL' (aa' (aj' aI' aH' (au' (ab' 1) ac') (au' (ab' 2) ac')) ad')))) aR') (ae' (ah' 3 (aj' aN' aM' (ao' ba' aZ' rfl T.z_len (by decide +kernel) (aa' (ab' 1) ad')) ac') sc_qa.nd) (ae' (ah' 4 (aB' (ab' 0) ax' (ar' (bz' ac'))) sc_qa.nd) (ae' (ah' 5 (cl G_qa hr (aa' (ab' 4) (aa' (aB' (ab' 1) (ar' (ab' 3)) ax') (aa' (aB' (ab' 2) (ar' (ab' 3)) ax') ad')))) sc_qa.nd) (ae' (ah' 6 (cl G_qr hr (aa' (cl G_qa hr (aa' (ab' 4) (aa' (aB' (ab' 1) ax' (ar' (ab' 3))) (aa' (aB' (ab' 2) ax' (ar' (ab' 3))) ad')))) (aa' (cl G_qa hr (aa' (ab' 4) (aa' (au' (ab' 0) (bz' ac')) (aa' (ab' 5) ad')))) ad'))) sc_qa.nd) (ae' (ah' 7 (cl G_qa hr (aa' (ab' 4) (aa' (aB' (ab' 1) ax' (ar' (ab' 3))) (aa' (aB' (ab' 2) (ar' (ab' 3)) ax') ad')))) sc_qa.nd) (ag' (al' (aj' aD' aC' (ab' 6) (cl G_qr hr (aa' (ab' 7) (aa' (cl G_qa hr (aa' (ab' 4) (aa' (aB' (ab' 1) (ar' (ab' 3)) ax') (aa' (aB' (ab' 2) ax' (ar' (ab' 3))) ad')))) ad'))))))))))))
 exact q
theorem all_qa (T:Txt K mg a) (F:Ent K mg "_law_tops_times" st_qa ["_law_roots_here", "_law_one", "_law_other"]) (G_qr:Okf P w K mg base 1 "_law_added" F_qr):∀n,Okf P w K mg base (1 + 1 * n) "_law_tops_times" (Fr_qa n)
 | 0=>okf0 F _
 | n + 1=>step_qa T F G_qr (Nat.le_add_right _ _) (all_qa T F G_qr  n)
theorem ok_qa (T:Txt K mg a) (F:Ent K mg "_law_tops_times" st_qa ["_law_roots_here", "_law_one", "_law_other"]) (G_qr:Okf P w K mg base 1 "_law_added" F_qr) :
  Okf P w K mg base 5 "_law_tops_times" F_qa:=all_qa T F G_qr  4
theorem ok_qE (T:Txt K mg a) (F:Ent K mg "times" st_qE ["roots", "x", "y"]) (G_qF:Okf P w K mg base 2 "made" F_qF) (G_qn:Okf P w K mg base 5 "times_tops" F_qn) :
  Okf P w K mg base 6 "times" F_qE:=by
 have q:=fnO P w base 5 b_qE F sc_qE fun _ _ _ _ _ _ _ hr=>by
  unfold b_qE;exact (ag' (al' (cl G_qF hr (aa' (cl G_qn hr (aa' (ab' 0) (aa' (au' (ab' 1) ac') (aa' (au' (ab' 2) ac') ad')))) (aa' (aj' aI' aH' (au' (ab' 1) ac') (au' (ab' 2) ac')) ad')))))
 exact q
theorem ok_qw (T:Txt K mg a) (F:Ent K mg "_law_fits" st_qw ["_law_roots_here", "_law_one", "_law_row"]) (G_qj:Okf P w K mg base 1 "_law_scaled" F_qj) (G_qr:Okf P w K mg base 1 "_law_added" F_qr) (G_qa:Okf P w K mg base 5 "_law_tops_times" F_qa) :
  Okf P w K mg base 6 "_law_fits" F_qw:=by
 have q:=fnO P w base 5 b_qw F sc_qw fun _ _ _ _ _ _ _ hr=>by
  unfold b_qw;exact (ae' (ah' 3 (ao' ba' aZ' rfl T.z_len (by decide +kernel) (aa' (au' (ab' 1) ac') ad')) sc_qw.nd) (ae' (ah' 4 (cl G_qj hr (aa' ac' (aa' (au' (ab' 1) ac') ad'))) sc_qw.nd) (ae' (ah' 5 ac' sc_qw.nd) (ae' (bI' rfl (aT' (PDL.pd (kH' (ab' 2) (ar' (bz' ac'))))) (aA' 6 sc_qw.nd) (ae' (ah' 4 (cl G_qr hr (aa' (cl G_qa hr (aa' (ab' 0) (aa' (ab' 4) (aa' (au' (ab' 1) ac') ad')))) (aa' (aj' aD' aC' (aL' (aa' (aj' aI' aH' (ab' 6) (ab' 5)) ad')) (aS' bo' bd' rfl T.z_tuple (by decide +kernel) (aa' (hA' (aa' ac' ad') (aj' dU' dT' (ab' 3) ac')) ad'))) ad'))) sc_qw.nd) (ag' (ah' 5 (aj' aI' aH' (ab' 5) (au' (ab' 1) ac')) sc_qw.nd)))) (ag' (al' (jI' (ao' (eW' rfl) eV' rfl T.z_any (by decide +kernel) (aa' (ab' 4) ad')))))))))
 exact q
theorem ok_qz (T:Txt K mg a) (F:Ent K mg "product" st_qz ["roots", "one", "other"]) (G_qB:Okf P w K mg base 1 "lifted" F_qB) (G_qG:Okf P w K mg base 3 "plus" F_qG) (G_qE:Okf P w K mg base 6 "times" F_qE) :
  Okf P w K mg base 7 "product" F_qz:=by
 have q:=fnO P w base 6 b_qz F sc_qz fun _ _ _ _ _ _ _ hr=>by
  unfold b_qz;exact (ae' (jc' 3 (kI' (aa' (cl G_qB hr (aa' (aL' (aa' (aL' (aa' ac' ad')) (aa' ac' ad'))) (aa' (ao' ba' aZ' rfl T.z_len (by decide +kernel) (aa' (ab' 0) ad')) ad'))) ad') (aj' dU' dT' (aj' aD' aC' (ao' ba' aZ' rfl T.z_len (by decide +kernel) (aa' (ab' 1) ad')) (ao' ba' aZ' rfl T.z_len (by decide +kernel) (aa' (ab' 2) ad'))) ac')) sc_qz.nd) (ae' (fD' 1 rfl rfl T.z_enumerate (bt' rfl (fun _=>(ai' 4 sc_qz.nd (ai' 5 sc_qz.nd aE')))) (ag' (fD' 2 rfl rfl T.z_enumerate (bt' rfl (fun _=>(ai' 6 sc_qz.nd (ai' 7 sc_qz.nd aE')))) (ag' (hy' 3 (cl G_qG hr (aa' (au' (ab' 3) (aj' aD' aC' (ab' 4) (ab' 6))) (aa' (cl G_qE hr (aa' (ab' 0) (aa' (ab' 5) (aa' (ab' 7) ad')))) ad'))) (fz' (aj' aD' aC' (ab' 4) (ab' 6))) (dk' _)))))) (ag' (al' (ab' 3)))))
 exact q
theorem ok_qx (T:Txt K mg a) (F:Ent K mg "equation" st_qx ["roots", "x"]) (G_qb:Okf P w K mg base 2 "without_bottoms" F_qb) (G_qy:Okf P w K mg base 2 "against" F_qy) (G_qB:Okf P w K mg base 1 "lifted" F_qB) (G_qz:Okf P w K mg base 7 "product" F_qz) (G_qD:Okf P w K mg base 3 "halves" F_qD) (G_qt:Okf P w K mg base 2 "is_nought" F_qt) (G_qC:Okf P w K mg base 2 "turned" F_qC) :
  Okf P w K mg base 8 "equation" F_qx:=by
 have q:=fnO P w base 7 b_qx F sc_qx fun _ _ _ _ _ _ _ hr=>by
  unfold b_qx;exact (ae' (ah' 2 (cg' (aa' (cl G_qy hr (aa' (ab' 1) ad')) (aa' (cl G_qB hr (aa' (aL' (aa' (aL' (aa' ac' ad')) (aa' ac' ad'))) (aa' (ao' ba' aZ' rfl T.z_len (by decide +kernel) (aa' (ab' 0) ad')) ad'))) ad'))) sc_qx.nd) (ae' (ah' 3 (ab' 0) sc_qx.nd) (ae' (ch' fuel_qx_1 (ay' iF' (cK' _) (ao' ba' aZ' rfl T.z_len (by decide +kernel) (aa' (ab' 3) ad')) ac' (aK' _)) (ae' (bc' (co' (bj' (ao' (jL' rfl) ht' rfl T.z_all (by decide +kernel) (aa' (bp' (N':=["number"]) (m:=1) (fr:=[]) bY' rfl (aF' (by decide)) (aT' (ab' 2)) (fun _ _ _ _=>aA' 0 (show List.Nodup (["number"]:List Str) by decide +kernel)) (fun _ _ _ _=>(cl G_qt hr (aa' (au' (cl G_qD hr (aa' (ab' 0) ad')) ac') ad')))) ad')))) (ag' (ah' 2 (cl G_qz hr (aa' (ab' 3) (aa' (ab' 2) (aa' (bp' (N':=["number"]) (m:=1) (fr:=[]) bY' rfl (aF' (by decide)) (aT' (ab' 2)) (fun _ _ _ _=>aA' 0 (show List.Nodup (["number"]:List Str) by decide +kernel)) (fun _ _ _ _=>(cl G_qC hr (aa' (ab' 0) ad')))) ad')))) sc_qx.nd)) aR') (ae' (bX' 2 (N':=["number"]) (m:=1) (fr:=[]) bY' rfl (aF' (by decide)) (aT' (ab' 2)) (fun _ _ _ _=>aA' 0 (show List.Nodup (["number"]:List Str) by decide +kernel)) (fun _ _ _ _=>(au' (cl G_qD hr (aa' (ab' 0) ad')) ac')) sc_qx.nd) (ag' (ah' 3 (aB' (ab' 3) ax' (ar' (bz' ac'))) sc_qx.nd))))) (ag' (al' (cl G_qb hr (aa' (ab' 2) ad')))))))
 exact q
theorem mu' (T:Txt K mg a) {f:Addr} {fd:FuncData} (F:Fun K "law" "law" bV' f fd) (G_qu:Okf P w K mg base 3 "_law_roots" F_qu) (G_qh:Okf P w K mg base 3 "_law_drawn" F_qh) (G_qm:Okf P w K mg base 2 "_law_degree" F_qm) (G_qx:Okf P w K mg base 8 "equation" F_qx) (G_qv:Okf P w K mg base 1 "_law_cell" F_qv) (G_qd:Okf P w K mg base 2 "_law_plain_row" F_qd) (G_qw:Okf P w K mg base 6 "_law_fits" F_qw) :
  FnOk P w K mg base (CX1 P w) 9 f fd ["_law_script"] (spD K F_law):=by
 exact lU' (P:=P) (w:=w) (base:=base) (N:=["_law_script", "_law_roots_here", "_law_kind", "_law_many", "_law_step", "_law_cells", "_law_cell_here", "_law_k", "_law_part", "_law_one", "_law_due", "_law_row"]) (ps:=["_law_script"]) (k:=8) (body:=b_law) F sc_law fun cdv A outer s H E hr=>by
  unfold b_law;exact (ae' (ku' (cl G_qu hr (aa' (ab' 0) ad')) (bt' rfl (fun _=>(ai' 1 sc_law.nd (ai' 2 sc_law.nd aE'))))) (ae' (ah' 1 (aB' (ab' 1) ax' (ar' (aj' bg' bf' (cl G_qv hr (aa' (ab' 0) (aa' ac' ad'))) ac'))) sc_law.nd) (ae' (ah' 3 (au' (cg' (aa' ac' (aa' ac' (aa' ac' (aa' ac' ad'))))) (ao' ba' aZ' rfl T.z_len (by decide +kernel) (aa' (ab' 1) ad'))) sc_law.nd) (ae' (ah' 4 (au' (cg' (aa' ac' (aa' ac' (aa' ac' (aa' ac' ad'))))) (ao' ba' aZ' rfl T.z_len (by decide +kernel) (aa' (ab' 1) ad'))) sc_law.nd) (ae' (bI' rfl (aT' (bp' (N':=["_law_k", "_law_script", "_law_step"]) (m:=1) (fr:=[0,4]) (bq' (defScope bV') ["_law_script", "_law_roots_here", "_law_kind", "_law_many", "_law_step", "_law_cells", "_law_cell_here", "_law_k", "_law_part", "_law_one", "_law_due", "_law_row"] rfl rfl rfl rfl rfl (by decide +kernel)) rfl (aF' (by decide)) (di' rfl T.z_range (aa' (ab' 4) ad')) (fun _ _ _ _=>aA' 0 (show List.Nodup (["_law_k", "_law_script", "_law_step"]:List Str) by decide +kernel)) (fun _ _ _ _=>(kG' (ab' 1) (ar' (aj' aD' aC' ac' (ab' 0))) (ar' ac') (ar' (ab' 2)))))) (aA' 5 sc_law.nd) (ae' (ah' 6 ac' sc_law.nd) (ae' (bI' rfl (dy' rfl T.z_enumerate (aa' (ab' 5) ad')) (bt' rfl (fun _=>(ai' 7 sc_law.nd (ai' 8 sc_law.nd aE')))) (ag' (ah' 6 (aj' aD' aC' (ab' 6) (aj' aI' aH' (aj' aD' aC' (aj' aI' aH' ac' (ab' 7)) ac') (aj' bg' bf' (ab' 8) (aj' gP' gO' ac' ac')))) sc_law.nd))) (ae' (ah' 9 (cl G_qh hr (aa' (ab' 6) (aa' (ab' 3) ad'))) sc_law.nd) (ae' (ah' 10 (cl G_qm hr (aa' (au' (ab' 9) ac') (aa' (ab' 2) ad'))) sc_law.nd) (ae' (ah' 11 (cl G_qx hr (aa' (ab' 1) (aa' (ab' 9) ad'))) sc_law.nd) (ag' (bc' (PWD.pt (fr' (co' (bj' (cl G_qd hr (aa' (ab' 11) (aa' (ab' 3) ad'))))) (fr' (ay' (hp' hr.units) dZ' (ao' ba' aZ' rfl T.z_len (by decide +kernel) (aa' (ab' 11) ad')) (aj' aD' aC' (ab' 10) ac') (aK' _)) (gN' (co' (bj' (cl G_qw hr (aa' (ab' 1) (aa' (ab' 9) (aa' (ab' 11) ad')))))))))) (ag' (al' gc')) aR')))))))) (ag' (al' gc')))))))
end
end K40
namespace K40
open PySem PySem.Spec PyProof.Rows L2 DL Mine Bk Lean.Grind
section
variable {rs:List (List Int)} {F:OF} {of:List Int->F.C} {ρ:Nat}
noncomputable def Cd (of:List Int->F.C) (k n:Nat) (c:Int) (v:F.C):Prop:=∃w:List Int,w.length=2 ^ k/\Bd n w/\v=of w / (c:F.C)
theorem Cd.mono {k n m:Nat} {c:Int} {v:F.C} (h:Cd of k n c v) (e:n<=m):Cd of k m c v:=by
 obtain ⟨w,h1,h2,h3⟩:=h;exact ⟨w,h1,h2.mono e,h3⟩
theorem mv' (a b c:F.C):a / c + b / c=(a + b) / c:=by grind
theorem mw' (a b c e:F.C):a / c * (b / e)=a * b / (c * e):=by grind
theorem mx' (T:Tow rs F of) {n:Nat} {c:Int} {u v:F.C} (h1:Cd of rs.length n c u) (h2:Cd of rs.length n c v):Cd of rs.length (n + 1) c (u + v):=by
 obtain ⟨w1,l1,b1,e1⟩:=h1;obtain ⟨w2,l2,b2,e2⟩:=h2;exact ⟨addL w1 w2,bi' l1 l2,b1.add b2,by rw [e1,e2,eA' T l1 l2,mv']⟩
theorem my' (T:Tow rs F of) (hr:∀r∈rs,Bd ρ r) {n m:Nat} {c e:Int} {u v:F.C} (h1:Cd of rs.length n c u) (h2:Cd of rs.length m e v):Cd of rs.length (n + m + eT ρ rs.length) (c * e) (u * v):=by
 obtain ⟨w1,l1,b1,e1⟩:=h1;obtain ⟨w2,l2,b2,e2⟩:=h2;exact ⟨pt rs w1 w2,aP' rs w1 w2 T.sc l1 l2,ptB rs hr b1 b2,by rw [e1,e2,hL' T l1 l2,mw',Ring.intCast_mul]⟩
theorem ld' (T:Tow rs F of) (n:Nat) (c:Int):Cd of rs.length n c (0:F.C) :=
 ⟨List.replicate (2 ^ rs.length) 0,by simp,fun t ht=>by rw [List.eq_of_mem_replicate ht]; exact Nat.two_pow_pos n,by rw [cx' T]; grind⟩
theorem mz' (T:Tow rs F of) {n m:Nat} {c:Int} {d:D} {v:F.C} (h:Nm of rs.length n d v) (hc:Cd of rs.length m c v) (c0:0 < c) (cb:c.natAbs < 2 ^ m):Nm of rs.length m d v:=by
 obtain ⟨w,l,b,e⟩:=hc;obtain ⟨K,x,k,_,_,_,_,_,_,hN⟩:=hN' T l (show c≠0 by omega) b cb;rw [<- e] at hN;rw [ff' T h hN]; exact hN
inductive Pl (of:List Int->F.C) (k n:Nat) (c:Int):List D->List F.C->Prop
 | nil:Pl of k n c [] []
 | cons {d:D} {v:F.C} {ds:List D} {P:List F.C}:Nm of k n d v->Cd of k n c v->Pl of k n c ds P->Pl of k n c (d :: ds) (v :: P)
theorem Pl.len {k n:Nat} {c:Int} {ds:List D} {P:List F.C} (h:Pl of k n c ds P):ds.length=P.length:=by
 induction h with
 | nil=>rfl
 | cons _ _ _ ih=>simp [ih]
theorem Pl.mono {k n m:Nat} {c:Int} {ds:List D} {P:List F.C} (h:Pl of k n c ds P) (e:n<=m):Pl of k m c ds P:=by
 induction h with
 | nil=>exact .nil
 | cons a b _ ih=>exact .cons (a.mono e) (b.mono e) ih
theorem Pl.get {k n:Nat} {c:Int} {ds:List D} {P:List F.C} (h:Pl of k n c ds P):∀{i:Nat},i < P.length->∃d v,ds[i]? = some d/\P[i]? = some v/\Nm of k n d v/\Cd of k n c v:=by
 induction h with
 | nil=>intro i hi; exact absurd hi (Nat.not_lt_zero _)
 | cons a b _ ih =>
  intro i hi
  cases i with
  | zero=>exact ⟨_,_,rfl,rfl,a,b⟩
  | succ i=>obtain ⟨d,v,h1,h2,h3⟩:=ih (i:=i) (by simpa using hi); exact ⟨d,v,by simpa using h1,by simpa using h2,h3⟩
theorem Pl.set {k n:Nat} {c:Int} {ds:List D} {P:List F.C} {d:D} {v:F.C} (h:Pl of k n c ds P) (hd:Nm of k n d v) (hv:Cd of k n c v):∀i:Nat,Pl of k n c (ds.set i d) (P.set i v):=by
 induction h with
 | nil=>intro i; exact .nil
 | cons a b t ih =>
  intro i
  cases i with
  | zero=>exact .cons hd hv t
  | succ i=>exact .cons a b (ih i)
theorem Pl.flat {k n:Nat} {c:Int} {ds:List D} {P:List F.C} (h:Pl of k n c ds P):flatDs ds=true:=by
 induction h with
 | nil=>rfl
 | cons a _ _ ih =>
  obtain ⟨x,b,rfl,_⟩:=a;rw [flatDs,ih,show flatD (num x b)=true from by
   show flatDs [D.tup (x.map .int),D.int b]=true;rw [flatDs,flatDs,flatDs,flatD,cF']; rfl]
  rfl
theorem fl' {k n:Nat} {d:D} {v:F.C} (h:Nm of k n d v):flatD d=true:=by
 obtain ⟨x,b,rfl,_⟩:=h;show flatDs [D.tup (x.map .int),D.int b]=true;rw [flatDs,flatDs,flatDs,flatD,cF']; rfl
noncomputable def enF:Nat->List D->List D
 | _,[]=>[]
 | k,d :: ds=>.tup [.int (k:Int),d] :: enF (k + 1) ds
theorem da' (ds:List D):enumD ds=enF 0 ds:=by
 have:∀(ds:List D) (k:Nat),(ds.zipIdx k).map (fun p=>D.tup [.int ((p.2:Nat):Int),p.1])=enF k ds:=by
  intro ds
  induction ds with
  | nil=>intro k; rfl
  | cons d ds ih=>intro k; rw [List.zipIdx_cons,List.map_cons,ih]; rfl
 exact this ds 0
theorem ic' {α:Type} (f:α->α):∀(l:List α) (i:Nat) (v:α),l[i]? = some v->l.modify i f=l.set i (f v)
 | [],_,_,h=>by simp at h
 | a :: l,0,v,h=>by simp at h; rw [List.modify_zero_cons,h]; rfl
 | a :: l,i + 1,v,h=>by rw [List.modify_succ_cons,ic' f l i v (by simpa using h)]; rfl
theorem js' (T:Tow rs F of) (h3:rs.length<=3) (hr:∀r∈rs,Bd 10 r) {n M:Nat} {c c':Int} (c0:0 < c) (ec:c'=c * c) (cb:c'.natAbs < 2 ^ M) {told as bs:List D} {W:List F.C} {da db:D} {a b:F.C} (hW:Pl of rs.length M c' told W) (ha:Nm of rs.length n da a) (ha':Cd of rs.length n c a) (hb:Nm of rs.length n db b) (hb':Cd of rs.length n c b) (hM:2 * n + 77<=M) (hM2:2 * M + 1<=8000) {i j:Nat} (hi:i + j < W.length) (hl:W.length<=1000) :
  ∃told',(putD 3 (noX (two (slotD 4) (slotD 6) addD)) (bindF (consD (two (slotD 3) (two (slotD 4) (slotD 6) addD) ixD) (consD (bindF (consD (slotD 0) (consD (slotD 5) (consD (slotD 7) (fun _=>.ok [])))) F_qE) (fun _=>.ok []))) F_qG)) [some (.arg (RT rs)),some (.arg (.lst as)),some (.arg (.lst bs)),some (.own told),some (.val (.int (i:Int))),some (.val da),some (.val (.int (j:Int))),some (.val db)]=.nxt [some (.arg (RT rs)),some (.arg (.lst as)),some (.arg (.lst bs)),some (.own told'),some (.val (.int (i:Int))),some (.val da),some (.val (.int (j:Int))),some (.val db)]/\Pl of rs.length (M + 1) c' told' (W.modify (i + j) (· + a * b)):=by
 have e77:eT 10 rs.length<=77:=ms' h3;obtain ⟨d,v,g1,g2,hd,hd'⟩:=hW.get hi;obtain ⟨x,ex,hx⟩:=n_qE T h3 hr ha hb (by omega);have hx':Cd of rs.length M c' (a * b):=by rw [ec]; exact (my' T hr ha' hb').mono (by omega)
 have c0':0 < c':=by rw [ec]; exact Int.mul_pos c0 c0
 have hxM:=mz' T hx hx' c0' cb;obtain ⟨z,ez,hz⟩:=n_qG T h3 hd hxM (by omega);have hz':=mx' T hd' hx';have hzM:=mz' T hz hz' c0' (Nat.lt_of_lt_of_le cb (bn' (Nat.le_succ M)));have hj:told.length=W.length:=hW.len;have sm:(i:Int) + (j:Int)=((i + j:Nat):Int):=by omega
 have ix:ixD (.lst told) (.int ((i + j:Nat):Int))=.ok d:=cS' _ _ _ g1;have ixn:ixN told.length ((i + j:Nat):Int)=some (i + j):=ia' (by omega);have fd:=fl' hzM;refine ⟨told.set (i + j) z,?_,?_⟩
 ·have hp:=kf' (i:=3) (fi:=(noX (two (slotD 4) (slotD 6) addD))) (fe:=(bindF (consD (two (slotD 3) (two (slotD 4) (slotD 6) addD) ixD) (consD (bindF (consD (slotD 0) (consD (slotD 5) (consD (slotD 7) (fun _=>.ok [])))) F_qE) (fun _=>.ok []))) F_qG)) (δ:=[some (.arg (RT rs)),some (.arg (.lst as)),some (.arg (.lst bs)),some (.own told),some (.val (.int (i:Int))),some (.val da),some (.val (.int (j:Int))),some (.val db)]) (ds:=told) (d:=z) (z:=((i + j:Nat):Int)) (j:=i + j) rfl
   (by push_cast [hZ',sm,ix,ex,ez]) (by unfold noX; push_cast [sm]) ixn hW.flat fd
  rw [hp];unfold setS;have f1:=fl' ha;have f2:=fl' hb;have f3:=hW.flat;have f4:∀k:Int,flatD (.int k)=true:=fun _=>rfl;simp only [List.map_cons,List.map_nil,Option.bind_some,keepSV,f1,f2,f3,f4,st3,↓reduceIte]
 ·rw [ic' _ W (i + j) v g2];exact (hW.mono (Nat.le_succ M)).set hzM hz' (i + j)
end
section
variable {rs:List (List Int)} {F:OF} {of:List Int->F.C} {ρ:Nat}
theorem gw' (T:Tow rs F of) (h3:rs.length<=3) (hr:∀r∈rs,Bd 10 r) {n:Nat} {c c':Int} (c0:0 < c) (ec:c'=c * c) {as bs0:List D} {da:D} {a:F.C} (ha:Nm of rs.length n da a) (ha':Cd of rs.length n c a) {i:Nat} {bs:List D} {Q:List F.C} (hQ:Pl of rs.length n c bs Q) :
  ∀(j M:Nat) (told:List D) (W:List F.C) (s6 s7:Option SV),Pl of rs.length M c' told W->c'.natAbs < 2 ^ M->2 * n + 77<=M->2 * (M + Q.length) + 1<=8000->i + j + Q.length<=W.length->W.length<=1000 ->
   ∃told' s6' s7',forD (tupTgt [6,7]) (putD 3 (noX (two (slotD 4) (slotD 6) addD)) (bindF (consD (two (slotD 3) (two (slotD 4) (slotD 6) addD) ixD) (consD (bindF (consD (slotD 0) (consD (slotD 5) (consD (slotD 7) (fun _=>.ok [])))) F_qE) (fun _=>.ok []))) F_qG)) (enF j bs) [some (.arg (RT rs)),some (.arg (.lst as)),some (.arg (.lst bs0)),some (.own told),some (.val (.int (i:Int))),some (.val da),s6,s7]=.nxt [some (.arg (RT rs)),some (.arg (.lst as)),some (.arg (.lst bs0)),some (.own told'),some (.val (.int (i:Int))),some (.val da),s6',s7']/\Pl of rs.length (M + Q.length) c' told' (inn a (i + j) Q W):=by
 induction hQ with
 | nil=>intro j M told W s6 s7 hW _ _ _ _ _; exact ⟨told,s6,s7,rfl,hW⟩
 | @cons db b bs Q hb hb' t ih =>
  intro j M told W s6 s7 hW cb hM hM2 hl hl2;have hl':i + j + (Q.length + 1)<=W.length:=hl;have hM2':2 * (M + (Q.length + 1)) + 1<=8000:=hM2;obtain ⟨t1,e1,p1⟩:=js' T h3 hr c0 ec cb (as:=as) (bs:=bs0) hW ha ha' hb hb' hM (by omega) (i:=i) (j:=j) (by omega) hl2;obtain ⟨t2,s6',s7',e2,p2⟩:=ih (j + 1) (M + 1) t1 _ (some (.val (.int (j:Int)))) (some (.val db)) p1 (Nat.lt_of_lt_of_le cb (bn' (Nat.le_succ M))) (by omega) (by omega) (by rw [List.length_modify]; omega) (by rw [List.length_modify]; exact hl2);refine ⟨t2,s6',s7',?_,?_⟩
  ·rw [enF];refine Eq.trans (bB' ?_ e1) e2;rfl
  ·rw [inn,List.length_cons,show M + (Q.length + 1)=M + 1 + Q.length by omega,show i + j + 1=i + (j + 1) by omega];exact p2
theorem gx' (T:Tow rs F of) (h3:rs.length<=3) (hr:∀r∈rs,Bd 10 r) {n:Nat} {c c':Int} (c0:0 < c) (ec:c'=c * c) {as0 bs:List D} {Q:List F.C} (hQ:Pl of rs.length n c bs Q) {as:List D} {P:List F.C} (hP:Pl of rs.length n c as P) :
  ∀(i M:Nat) (told:List D) (W:List F.C) (s4 s5 s6 s7:Option SV),Pl of rs.length M c' told W->c'.natAbs < 2 ^ M->2 * n + 77<=M->2 * (M + P.length * Q.length) + 1<=8000->i + P.length + Q.length<=W.length + 1->W.length<=1000 ->
   ∃told' s4' s5' s6' s7',forD (tupTgt [4,5]) (forA 2 (tupTgt [6,7]) (putD 3 (noX (two (slotD 4) (slotD 6) addD)) (bindF (consD (two (slotD 3) (two (slotD 4) (slotD 6) addD) ixD) (consD (bindF (consD (slotD 0) (consD (slotD 5) (consD (slotD 7) (fun _=>.ok [])))) F_qE) (fun _=>.ok []))) F_qG))) (enF i as) [some (.arg (RT rs)),some (.arg (.lst as0)),some (.arg (.lst bs)),some (.own told),s4,s5,s6,s7]=.nxt [some (.arg (RT rs)),some (.arg (.lst as0)),some (.arg (.lst bs)),some (.own told'),s4',s5',s6',s7']/\Pl of rs.length (M + P.length * Q.length) c' told' (out Q i P W):=by
 induction hP with
 | nil=>intro i M told W s4 s5 s6 s7 hW _ _ _ _ _; exact ⟨told,s4,s5,s6,s7,rfl,by simpa [out] using hW⟩
 | @cons da a as P ha ha' t ih =>
  intro i M told W s4 s5 s6 s7 hW cb hM hM2 hl hl2;have hl':i + (P.length + 1) + Q.length<=W.length + 1:=hl;have em:(P.length + 1) * Q.length=P.length * Q.length + Q.length:=by rw [Nat.add_mul,Nat.one_mul]
  have hM2':2 * (M + (P.length + 1) * Q.length) + 1<=8000:=hM2;rw [em] at hM2';obtain ⟨t1,s6',s7',e1,p1⟩:=gw' T h3 hr c0 ec (as:=as0) (bs0:=bs) ha ha' (i:=i) hQ 0 M told W s6 s7 hW cb hM (by omega) (by omega) hl2;obtain ⟨t2,s4',s5',s6'',s7'',e2,p2⟩:=ih (i + 1) (M + Q.length) t1 _ (some (.val (.int (i:Int)))) (some (.val da)) s6' s7' p1 (Nat.lt_of_lt_of_le cb (bn' (by omega))) (by omega) (by omega) (by rw [cW']; omega) (by rw [cW']; exact hl2);refine ⟨t2,s4',s5',s6'',s7'',?_,?_⟩
  ·rw [enF];refine Eq.trans (bB' (δ2:=[some (.arg (RT rs)),some (.arg (.lst as0)),some (.arg (.lst bs)),some (.own t1),some (.val (.int (i:Int))),some (.val da),s6',s7']) (δ1:=[some (.arg (RT rs)),some (.arg (.lst as0)),some (.arg (.lst bs)),some (.own told),some (.val (.int (i:Int))),some (.val da),s6,s7]) ?_ ?_) e2
   ·rfl
   ·show forD (tupTgt [6,7]) _ (enumD bs) _=_;rw [da']; exact e1
  ·rw [out,List.length_cons,em,show M + (P.length * Q.length + Q.length)=M + Q.length + P.length * Q.length by omega];exact p2
theorem kg' {k:Nat} (h:k<=3) (a:Int):F_qB [.tup [.tup [.int a],.int 1],.int (k:Int)]=.ok (num (a :: List.replicate (2 ^ k - 1) 0) 1):=by
 have:k=0\/k=1\/k=2\/k=3:=by omega
 rcases this with z | z | z | z <;> subst z <;> rfl
theorem dH' {α:Type} (d:α):∀k:Nat,(List.replicate k [d]).flatten=List.replicate k d
 | 0=>rfl
 | k + 1=>by rw [List.replicate_succ,List.flatten_cons,dH' d k]; rfl
theorem fR' (T:Tow rs F of) {n:Nat} (hn:0 < n) (c:Int):∀k:Nat,Pl of rs.length n c (List.replicate k (num (0 :: List.replicate (2 ^ rs.length - 1) 0) 1)) (List.replicate k (0:F.C))
 | 0=>.nil
 | k + 1=>by
  rw [List.replicate_succ,List.replicate_succ];refine .cons ?_ (ld' T n c) (fR' T hn c k);have:=hO' T hn;rw [show List.replicate (2 ^ rs.length) (0:Int)=0 :: List.replicate (2 ^ rs.length - 1) 0 from by
   have p:=Nat.two_pow_pos rs.length;rw [<- List.replicate_succ]; congr 1; omega] at this
  exact this
theorem n_qz (T:Tow rs F of) (h3:rs.length<=3) (hr:∀r∈rs,Bd 10 r) {n:Nat} {c:Int} (c0:0 < c) (cb:c.natAbs < 2 ^ n) {as bs:List D} {P Q:List F.C} (hP:Pl of rs.length n c as P) (hQ:Pl of rs.length n c bs Q) (p1:1<=P.length) (p2:P.length<=5) (q1:1<=Q.length) (q2:Q.length<=5) (hn:n<=1900) :
  ∃told,F_qz [RT rs,.lst as,.lst bs]=.ok (.lst told)/\Pl of rs.length (2 * n + 102) (c * c) told (out Q 0 P (List.replicate (P.length + Q.length - 1) 0)):=by
 have la:=hP.len;have lb:=hQ.len;have lf:=kg' h3 0;have ln:lenG [RT rs]=.ok (.int (rs.length:Int)):=by
  show Res.ok (D.int _)=_;simp
 have k1:((as.length:Int) + (bs.length:Int) - 1)=((P.length + Q.length - 1:Nat):Int):=by omega
 have mb:P.length * Q.length<=25:=Nat.mul_le_mul p2 q2;have cb2:(c * c).natAbs < 2 ^ (2 * n + 77):=by
  rw [Int.natAbs_mul];refine Nat.lt_of_lt_of_le (Nat.mul_lt_mul'' cb cb) ?_;rw [<- Nat.pow_add]; exact Nat.pow_le_pow_right (by decide) (by omega)
 have own:(ownC 3 (lstRep (consD (bindF (consD (tupF (consD (tupF (consD (fun _=>.ok (.int 0)) (fun _=>.ok []))) (consD (fun _=>.ok (.int 1)) (fun _=>.ok [])))) (consD (bindF (consD (slotD 0) (fun _=>.ok [])) lenG) (fun _=>.ok []))) F_qB) (fun _=>.ok [])) (two (two (bindF (consD (slotD 1) (fun _=>.ok [])) lenG) (bindF (consD (slotD 2) (fun _=>.ok [])) lenG) addD) (fun _=>.ok (.int 1)) subD))) [some (.arg (RT rs)),some (.arg (.lst as)),some (.arg (.lst bs)),none,none,none,none,none]=.nxt [some (.arg (RT rs)),some (.arg (.lst as)),some (.arg (.lst bs)),some (.own (List.replicate (P.length + Q.length - 1) (num (0 :: List.replicate (2 ^ rs.length - 1) 0) 1))),none,none,none,none]:=by
  refine (dG' 3 (ds:=List.replicate (P.length + Q.length - 1) (num (0 :: List.replicate (2 ^ rs.length - 1) 0) 1)) ?_).trans rfl;unfold lstRep noX;have rp:repLG [num (0 :: List.replicate (2 ^ rs.length - 1) 0) 1] (.int ((P.length + Q.length - 1:Nat):Int))=.ok (.lst (List.replicate (P.length + Q.length - 1) (num (0 :: List.replicate (2 ^ rs.length - 1) 0) 1))):=by
   unfold repLG;dsimp only;rw [if_pos ⟨by omega,by omega,by simp,by simp; omega⟩,Int.toNat_natCast,dH']
  push_cast [ln,lf,k1,rp]
 obtain ⟨told,s4,s5,s6,s7,e,p⟩:=gx' T h3 hr c0 rfl (as0:=as) hQ hP 0 (2 * n + 77) _ _ none none none none (fR' T (by omega) (c * c) (P.length + Q.length - 1)) cb2 (Nat.le_refl _) (by omega) (by rw [List.length_replicate]; omega) (by rw [List.length_replicate]; omega);refine ⟨told,?_,p.mono (by omega)⟩;show outD (b_qz [some (.arg (RT rs)),some (.arg (.lst as)),some (.arg (.lst bs)),none,none,none,none,none])=_;unfold b_qz;rw [ap_seq,own,sq_nxt,ap_seq];rw [show forA 1 (tupTgt [4,5]) (forA 2 (tupTgt [6,7]) (putD 3 (noX (two (slotD 4) (slotD 6) addD)) (bindF (consD (two (slotD 3) (two (slotD 4) (slotD 6) addD) ixD) (consD (bindF (consD (slotD 0) (consD (slotD 5) (consD (slotD 7) (fun _=>.ok [])))) F_qE) (fun _=>.ok []))) F_qG))) [some (.arg (RT rs)),some (.arg (.lst as)),some (.arg (.lst bs)),some (.own (List.replicate (P.length + Q.length - 1) (num (0 :: List.replicate (2 ^ rs.length - 1) 0) 1))),none,none,none,none]=forD (tupTgt [4,5]) (forA 2 (tupTgt [6,7]) (putD 3 (noX (two (slotD 4) (slotD 6) addD)) (bindF (consD (two (slotD 3) (two (slotD 4) (slotD 6) addD) ixD) (consD (bindF (consD (slotD 0) (consD (slotD 5) (consD (slotD 7) (fun _=>.ok [])))) F_qE) (fun _=>.ok []))) F_qG))) (enumD as) [some (.arg (RT rs)),some (.arg (.lst as)),some (.arg (.lst bs)),some (.own (List.replicate (P.length + Q.length - 1) (num (0 :: List.replicate (2 ^ rs.length - 1) 0) 1))),none,none,none,none] from rfl,da',e,sq_nxt]
 push_cast [hZ']
end
section
variable {F:OF} {r:F.C} {hr:0 < r} {hn:∀z:F.C,z * z≠r}
abbrev EF (F:OF) (r:F.C) (hr:0 < r) (hn:∀z:F.C,z * z≠r):OF:=extOF F r hr hn
abbrev id1 {A:OF}:A.C->A.C:=fun a=>a
noncomputable def exa (v:(EF F r hr hn).C):F.C:=Ext.a (r:=r) v
noncomputable def exb (v:(EF F r hr hn).C):F.C:=Ext.b (r:=r) v
noncomputable def pa (P:List (EF F r hr hn).C):List F.C:=P.map exa
noncomputable def pb (P:List (EF F r hr hn).C):List F.C:=P.map exb
theorem cA' (P:List (EF F r hr hn).C):(pa P).length=P.length:=by unfold pa; rw [List.length_map]
theorem ev_a (t:Int):∀P:List (EF F r hr hn).C,Ext.a (r:=r) (ev (B:=EF F r hr hn) id1 (t:(EF F r hr hn).C) P)=ev (B:=F) id1 (t:F.C) (pa P)
 | []=>rfl
 | v :: P=>by
  have ih:=ev_a t P;show Ext.a v + ((t:F.C) * Ext.a (r:=r) (ev (B:=EF F r hr hn) id1 (t:(EF F r hr hn).C) P) + (0:F.C) * Ext.b (r:=r) (ev (B:=EF F r hr hn) id1 (t:(EF F r hr hn).C) P) * r)=Ext.a v + (t:F.C) * ev (B:=F) id1 (t:F.C) (pa P);rw [ih]; grind
theorem ev_b (t:Int):∀P:List (EF F r hr hn).C,Ext.b (r:=r) (ev (B:=EF F r hr hn) id1 (t:(EF F r hr hn).C) P)=ev (B:=F) id1 (t:F.C) (pb P)
 | []=>rfl
 | v :: P=>by
  have ih:=ev_b t P;show Ext.b v + ((t:F.C) * Ext.b (r:=r) (ev (B:=EF F r hr hn) id1 (t:(EF F r hr hn).C) P) + (0:F.C) * Ext.a (r:=r) (ev (B:=EF F r hr hn) id1 (t:(EF F r hr hn).C) P))=Ext.b v + (t:F.C) * ev (B:=F) id1 (t:F.C) (pb P);rw [ih]; grind
theorem le' (t:Int):∀P:List (EF F r hr hn).C,ev (B:=EF F r hr hn) id1 (t:(EF F r hr hn).C) (P.map cj)=cj (ev (B:=EF F r hr hn) id1 (t:(EF F r hr hn).C) P)
 | []=>Ext.eqs (r:=r) rfl (show (0:F.C)=-0 by grind)
 | v :: P=>by
  have ih:=le' t P;show cj v + (t:(EF F r hr hn).C) * ev (B:=EF F r hr hn) id1 (t:(EF F r hr hn).C) (P.map cj)=cj (v + (t:(EF F r hr hn).C) * ev (B:=EF F r hr hn) id1 (t:(EF F r hr hn).C) P);rw [ih,kc',fP',show cj (hr:=hr) (hn:=hn) (t:(EF F r hr hn).C)=(t:(EF F r hr hn).C) from Ext.eqs (r:=r) rfl (show -(0:F.C)=0 by grind)]
theorem dI' {A B:OF} {φ:A.C->B.C} (h:Hm φ) (X:B.C):∀k:Nat,ev φ X (List.replicate k (0:A.C))=0
 | 0=>rfl
 | k + 1=>by
  rw [List.replicate_succ];show φ 0 + X * ev φ X (List.replicate k 0)=0;rw [dI' h X k,h.zero]; grind
noncomputable def wn (P:List (EF F r hr hn).C):List (EF F r hr hn).C:=out (P.map cj) 0 P (List.replicate (P.length + (P.map (cj (hr:=hr) (hn:=hn))).length - 1) 0)
theorem eE' (P:List (EF F r hr hn).C):(wn P).length=P.length + P.length - 1:=by
 unfold wn; rw [fg',List.length_replicate,List.length_map]
theorem lf' {B:OF} {φ:(EF F r hr hn).C->B.C} (h:Hm φ) (X:B.C) (P:List (EF F r hr hn).C):ev φ X (wn P)=ev φ X P * ev φ X (P.map cj):=by
 unfold wn
 cases P with
 | nil=>show ev φ X (List.replicate _ 0)=0 * _; rw [dI' h]; grind
 | cons v P =>
  rw [jX' h _ _ _ 0 (by simp; omega),dI' h];show (0:B.C) + 1 * _ * _=_
  grind
theorem wn_a (t:Int) (P:List (EF F r hr hn).C):ev (B:=F) id1 (t:F.C) (pa (wn P))=ev (B:=F) id1 (t:F.C) (pa P) * ev (B:=F) id1 (t:F.C) (pa P) - ev (B:=F) id1 (t:F.C) (pb P) * ev (B:=F) id1 (t:F.C) (pb P) * r:=by
 rw [<- ev_a,lf' hR',le',<- ev_a,<- ev_b];generalize ev (B:=EF F r hr hn) id1 (t:(EF F r hr hn).C) P=v;show Ext.a v * Ext.a v + Ext.b v * -Ext.b v * r=_
 grind
theorem wn_b (t:Int) (P:List (EF F r hr hn).C):ev (B:=F) id1 (t:F.C) (pb (wn P))=0:=by
 rw [<- ev_b,lf' hR',le'];generalize ev (B:=EF F r hr hn) id1 (t:(EF F r hr hn).C) P=v;show Ext.a v * -Ext.b v + Ext.b v * Ext.a v=_
 grind
theorem id':∀a b:Int,(fun t:Int=>t) a=(fun t:Int=>t) b->a=b:=fun _ _ h=>h
theorem fm' {P:List (EF F r hr hn).C} (h:∀a∈pb P,a=0):∀v∈P,Ext.b (r:=r) v=0:=fun v hv=>h _ (List.mem_map.mpr ⟨v,hv,rfl⟩)
theorem ie' {P:List (EF F r hr hn).C} (h:∀v∈P,Ext.b (r:=r) v=0):∀a∈pb P,a=0:=fun a ha=>by
 obtain ⟨v,hv,rfl⟩:=List.mem_map.mp ha;exact h v hv
theorem lg' (P:List (EF F r hr hn).C):∀v∈wn P,Ext.b (r:=r) v=0:=fm' (ident id' (pb (wn P)) fun t=>wn_b t P)
theorem fn' {A:OF} (X:A.C):∀P:List A.C,(∀a∈P,a=0)->ev (B:=A) id1 X P=0
 | [],_=>rfl
 | a :: P,h=>by
  show a + X * ev (B:=A) id1 X P=0;rw [fn' X P fun b hb=>h b (List.mem_cons_of_mem _ hb),h a (by simp)]; grind
structure Rl {A:OF} (α β:Int->Int) (c:Int) (P Q:List A.C):Prop where
 len:P.length=Q.length
 rel:∀t:Int,ev (B:=A) id1 ((β t:Int):A.C) Q=(c:A.C) * ev (B:=A) id1 ((α t:Int):A.C) P
variable {α β:Int->Int} {c:Int} {P Q:List (EF F r hr hn).C}
theorem Rl.relb (h:Rl α β c P Q) (t:Int):ev (B:=F) id1 ((β t:Int):F.C) (pb Q)=(c:F.C) * ev (B:=F) id1 ((α t:Int):F.C) (pb P):=by
 rw [<- ev_b,h.rel,<- ev_b];generalize ev (B:=EF F r hr hn) id1 ((α t:Int):(EF F r hr hn).C) P=v;show (c:F.C) * Ext.b v + (0:F.C) * Ext.a v=_
 grind
theorem Rl.rela (h:Rl α β c P Q) (t:Int):ev (B:=F) id1 ((β t:Int):F.C) (pa Q)=(c:F.C) * ev (B:=F) id1 ((α t:Int):F.C) (pa P):=by
 rw [<- ev_a,h.rel,<- ev_a];generalize ev (B:=EF F r hr hn) id1 ((α t:Int):(EF F r hr hn).C) P=v;show (c:F.C) * Ext.a v + (0:F.C) * Ext.b v * r=_
 grind
theorem Rl.fwd (h:Rl α β c P Q) (hβ:∀a b,β a=β b->a=b) (z:∀v∈P,Ext.b (r:=r) v=0):∀v∈Q,Ext.b (r:=r) v=0 :=
 fm' (ident hβ (pb Q) fun t=>by rw [h.relb,fn' _ _ (ie' z)]; grind)
theorem Rl.bwd (h:Rl α β c P Q) (hα:∀a b,α a=α b->a=b) (c0:(c:F.C)≠0) (z:∀v∈Q,Ext.b (r:=r) v=0):∀v∈P,Ext.b (r:=r) v=0 :=
 fm' (ident hα (pb P) fun t=>by
  have e:=h.relb t;rw [fn' _ _ (ie' z)] at e;rcases mul0 e.symm with w | w
  ·exact (c0 w).elim
  ·exact w)
theorem Rl.front (h:Rl α β c P Q):Rl α β c (pa P) (pa Q):=⟨by rw [cA',cA']; exact h.len,h.rela⟩
theorem Rl.norm (h:Rl α β c P Q):Rl α β (c * c) (pa (wn P)) (pa (wn Q)):=by
 refine ⟨by rw [cA',cA',eE',eE',h.len],fun t=>?_⟩;rw [wn_a,wn_a,h.rela,h.relb,Ring.intCast_mul]
 grind
noncomputable def Mo {A:OF} (P:List A.C):Prop:=∃P0,P=P0 ++ [1]
theorem lh' {α:Type} {l:List α} {k:Nat} {x:α} (hl:l.length=k + 1) (h:l[k]? = some x):∃l0,l=l0 ++ [x]:=by
 have ne:l≠[]:=fun z=>by rw [z] at hl; simp at hl
 refine ⟨l.dropLast,?_⟩;have e:=List.dropLast_concat_getLast ne;rw [List.getLast_eq_getElem] at e;have h2:l[l.length - 1]? = some x:=by rw [hl]; exact h
 rw [List.getElem?_eq_getElem (by omega)] at h2;injection h2 with h2
 rw [h2] at e;exact e.symm
theorem Mo.front (h:Mo P):Mo (pa P):=by
 obtain ⟨P0,rfl⟩:=h;exact ⟨pa P0,by unfold pa; rw [List.map_append]; rfl⟩
theorem Mo.wn (h:Mo P):Mo (wn P):=by
 obtain ⟨P0,rfl⟩:=h;have c1:cj (hr:=hr) (hn:=hn) 1=1:=Ext.eqs (r:=r) rfl (show -(0:F.C)=0 by grind);refine lh' (k:=P0.length + P0.length) (by rw [eE']; simp; omega) ?_;unfold K40.wn;generalize hN:(P0 ++ [1]).length + ((P0 ++ [1]).map (cj (hr:=hr) (hn:=hn))).length - 1=N;rw [List.map_append,List.map_cons,List.map_nil,c1];have top:=hU' (A:=EF F r hr hn) (P0.map cj) 1 1 P0 (List.replicate N 0) 0;rw [List.length_map,Nat.zero_add,List.getElem?_replicate_of_lt (by simp at hN; omega)] at top;rw [top];show some ((0:(EF F r hr hn).C) + 1 * 1)=some 1
 congr 1
 grind
theorem mA' {B:OF} {φ:(EF F r hr hn).C->B.C} (h:Hm φ):Hm (fun a:F.C=>φ (em a)):=⟨fun a b=>by rw [mq',h.add],fun a b=>by rw [mr',h.mul],fun n=>h.int n⟩
theorem li' {B:OF} {φ:(EF F r hr hn).C->B.C} (X:B.C):∀P:List (EF F r hr hn).C,(∀v∈P,Ext.b (r:=r) v=0)->ev (fun a:F.C=>φ (em a)) X (pa P)=ev φ X P
 | [],_=>rfl
 | v :: P,h=>by
  have e:em (hr:=hr) (hn:=hn) (Ext.a (r:=r) v)=v:=Ext.eqs (r:=r) rfl (h v (by simp)).symm;show φ (em (Ext.a (r:=r) v)) + X * ev (fun a:F.C=>φ (em a)) X (pa P)=φ v + X * ev φ X P;rw [e,li' X P fun w hw=>h w (List.mem_cons_of_mem _ hw)]
end
inductive El (f:D->Res D):List D->List D->Prop
 | nil:El f [] []
 | cons {d y:D} {ds ys:List D}:f d=.ok y->El f ds ys->El f (d :: ds) (y :: ys)
theorem El.len {f:D->Res D} {ds ys:List D} (h:El f ds ys):ys.length=ds.length:=by
 induction h with
 | nil=>rfl
 | cons _ _ ih=>simp [ih]
theorem if' {fe:DS->Res D} {fi:DS->Res (List D)} {fr:List Nat} {δ rest:DS} {ds ys:List D} (hi:fi δ=.ok ds) (hr:compS 1 fr δ=none :: rest) (hl:ds.length<=1000) (h:El (fun d=>fe (some (.val d) :: rest)) ds ys):compD 1 fr (tgtN 0) fe fi δ=.ok (.lst ys):=by
 have m:mapR (eltD (tgtN 0) fe (none :: rest)) ds=.ok ys:=by
  clear hi hl
  induction h with
  | nil=>rfl
  | @cons d y ds ys e _ ih =>
   have e':eltD (tgtN 0) fe (none :: rest) d=.ok y:=by
    show (match fe (some (.val d) :: rest) with | .ok x=>Res.ok x | _=>.stuck)=_
    rw [show fe (some (.val d) :: rest)=.ok y from e]
   rw [mapR,e',Res.bind_ok,ih,Res.bind_ok]
 unfold compD;rw [hi,Res.bind_ok,hr,m];unfold lstD;rw [Res.bind_ok,if_pos (by rw [h.len]; exact Nat.le_trans hl (by decide))]
section
variable {rs:List (List Int)} {F:OF} {of:List Int->F.C} {r:List Int} {hr:0 < of r} {hn:∀z:F.C,z * z≠of r} {n:Nat} {c:Int} {ds:List D} {P:List (EF F (of r) hr hn).C}
theorem lj' (T:Tow rs F of) (c0:0 < c) {v:(EF F (of r) hr hn).C} (h:Cd (exOf of r hr hn) (rs.length + 1) n c v):Cd of rs.length n c (exa v):=by
 obtain ⟨w,l,b,e⟩:=h;refine ⟨frH w,aU' l,b.fr,?_⟩;show Ext.a (r:=of r) v=_;rw [e,cy' _ _ (aG' T (show c≠0 by omega))];rfl
theorem nq' (T:Tow rs F of) (c0:0 < c) {v:(EF F (of r) hr hn).C} (h:Cd (exOf of r hr hn) (rs.length + 1) n c v):Cd (exOf of r hr hn) (rs.length + 1) n c (cj v):=by
 obtain ⟨w,l,b,e⟩:=h;have lf:=aU' l;have lb:=aX' l;have cn:=aG' T (show c≠0 by omega);have hl:(frH w).length=((bhH w).map fun t=>-t).length:=by rw [List.length_map,lf,lb]
 refine ⟨frH w ++ (bhH w).map fun t=>-t,by rw [List.length_append,List.length_map,lf,lb]; rw [Nat.pow_succ]; omega,Bd.app b.fr (fJ' b.bh),?_⟩;rw [e];refine Ext.eqs (r:=of r) ?_ ?_
 ·show Ext.a (r:=of r) (exOf of r hr hn w / (c:(extOF F (of r) hr hn).C))=_;rw [cy' _ _ cn,cy' _ _ cn];show of (frH w) / _=of (frH (frH w ++ (bhH w).map fun t=>-t)) / _;rw [dD' hl]
 ·show -Ext.b (r:=of r) (exOf of r hr hn w / (c:(extOF F (of r) hr hn).C))=_;rw [cZ' _ _ cn,cZ' _ _ cn];show -(of (bhH w) / _)=of (bhH (frH w ++ (bhH w).map fun t=>-t)) / _;rw [dE' hl,fM' T lb]
  grind
theorem fS' (T:Tow rs F of) (h3:rs.length < 3) (c0:0 < c) (hn8:n<=8000) (h:Pl (exOf of r hr hn) (rs.length + 1) n c ds P):∃ys,El (fun d=>(two (bindF (consD (slotD 0) (fun _=>.ok [])) F_qD) (fun _=>.ok (.int 0)) ixD) [some (.val d)]) ds ys/\Pl of rs.length n c ys (pa P):=by
 induction h with
 | nil=>exact ⟨[],.nil,.nil⟩
 | @cons d v ds P a b t ih =>
  obtain ⟨ys,e,p⟩:=ih;obtain ⟨y,z,eh,hy,hz⟩:=n_qD T h3 a hn8;refine ⟨y :: ys,.cons ?_ e,.cons hy (lj' T c0 b) p⟩;push_cast [eh]
open Classical in
theorem mB' (T:Tow rs F of) (h3:rs.length < 3) (hn8:n<=8000) (h:Pl (exOf of r hr hn) (rs.length + 1) n c ds P):El (fun d=>(bindF (consD (two (bindF (consD (slotD 0) (fun _=>.ok [])) F_qD) (fun _=>.ok (.int 1)) ixD) (fun _=>.ok [])) F_qt) [some (.val d)]) ds ((P.map fun v=>decide (exb v=0)).map .bl):=by
 induction h with
 | nil=>exact .nil
 | @cons d v ds P a b t ih =>
  obtain ⟨y,z,eh,hy,hz⟩:=n_qD T h3 a hn8;refine .cons ?_ ih;have no:=jp' T (by omega) hz;have no':F_qt [z]=.ok (.bl (decide (exb v=0))):=by
   by_cases q:Ext.b (r:=of r) v=0
   ·rw [okT no q,decide_eq_true (show exb v=0 from q)]
   ·rw [okF no q,decide_eq_false (show ¬exb v=0 from q)]
  push_cast [eh,no']
theorem lk' (T:Tow rs F of) (h3:rs.length < 3) (c0:0 < c) (h:Pl (exOf of r hr hn) (rs.length + 1) n c ds P):∃ys,El (fun d=>(bindF (consD (slotD 0) (fun _=>.ok [])) F_qC) [some (.val d)]) ds ys/\Pl (exOf of r hr hn) (rs.length + 1) n c ys (P.map cj):=by
 induction h with
 | nil=>exact ⟨[],.nil,.nil⟩
 | @cons d v ds P a b t ih =>
  obtain ⟨ys,e,p⟩:=ih;obtain ⟨y,eh,hy⟩:=n_qC T h3 a;refine ⟨y :: ys,.cons ?_ e,.cons hy (nq' T c0 b) p⟩;push_cast [eh]
theorem bw' (T:Tow rs F of) (hl:r.length=2 ^ rs.length) (h3:rs.length + 1<=3) (hrs:∀u∈r :: rs,Bd 10 u) (c0:0 < c) (cb:c.natAbs < 2 ^ n) (hn8:n<=1900) (h:Pl (exOf of r hr hn) (rs.length + 1) n c ds P) (l1:1<=P.length) (l5:P.length<=5) (s0 s1:Option SV) :
  ∃ds',(seqD (ifS (notT (bindT (bindF (consD (compD 1 [] (tgtN 0) (bindF (consD (two (bindF (consD (slotD 0) (fun _=>.ok [])) F_qD) (fun _=>.ok (.int 1)) ixD) (fun _=>.ok [])) F_qt) (bindL (slotD 2) seqItems)) (fun _=>.ok [])) allG) truthD)) (setD 2 (bindF (consD (slotD 3) (consD (slotD 2) (consD (compD 1 [] (tgtN 0) (bindF (consD (slotD 0) (fun _=>.ok [])) F_qC) (bindL (slotD 2) seqItems)) (fun _=>.ok [])))) F_qz)) Out.nxt) (seqD (setD 2 (compD 1 [] (tgtN 0) (two (bindF (consD (slotD 0) (fun _=>.ok [])) F_qD) (fun _=>.ok (.int 0)) ixD) (bindL (slotD 2) seqItems))) (setD 3 (sliceF (slotD 3) noPart (partF (negF (fun _=>.ok (.int 1)))))))) [s0,s1,some (.val (.lst ds)),some (.val (RT (r :: rs)))]=.nxt [s0,s1,some (.val (.lst ds')),some (.val (RT rs))] /\
   (((∀v∈P,Ext.b (r:=of r) v=0)/\Pl of rs.length n c ds' (pa P))\/((¬ ∀v∈P,Ext.b (r:=of r) v=0)/\Pl of rs.length (2 * n + 102) (c * c) ds' (pa (wn P)))):=by
 have TT:=Tow.cons T r hl hr hn;have ld:=h.len;have cl:=dB' r rs;have co:∀(ds:List D) (ys:List D) (fe:DS->Res D),ds.length<=1000->El (fun d=>fe [some (.val d)]) ds ys->compD 1 [] (tgtN 0) fe (bindL (slotD 2) seqItems) [s0,s1,some (.val (.lst ds)),some (.val (RT (r :: rs)))]=.ok (.lst ys):=fun ds ys fe hl he=>if' (rest:=[]) rfl rfl hl he
 have al:=co ds _ _ (by omega) (mB' T (by omega) (by omega) h);have ab:=jP' (P.map fun v=>@decide (exb v=0) (Classical.propDecidable _))
 by_cases hz:∀v∈P,Ext.b (r:=of r) v=0
 ·have at_:(P.map fun v=>@decide (exb v=0) (Classical.propDecidable _)).all id=true:=by
   rw [List.all_eq_true];intro b hb;obtain ⟨v,hv,rfl⟩:=List.mem_map.mp hb;exact @_root_.decide_eq_true (exb v=0) (Classical.propDecidable _) (hz v hv)
  rw [at_] at ab;obtain ⟨ys,ey,py⟩:=fS' T (by omega) c0 (by omega) h;have cf:=co ds ys _ (by omega) ey;exact ⟨ys,by push_cast [al,ab,cf,cl],.inl ⟨hz,py⟩⟩
 ·have at_:(P.map fun v=>@decide (exb v=0) (Classical.propDecidable _)).all id=false:=by
   rw [Bool.eq_false_iff];intro e;rw [List.all_eq_true] at e;refine hz fun v hv=>?_;have:=e _ (List.mem_map.mpr ⟨v,hv,rfl⟩);exact @_root_.of_decide_eq_true (exb v=0) (Classical.propDecidable _) this
  rw [at_] at ab;obtain ⟨ts,et,pt⟩:=lk' T (by omega) c0 h;have ct:=co ds ts _ (by omega) et;obtain ⟨told,ep,pp⟩:=n_qz TT h3 hrs c0 cb h pt l1 l5 (by rw [List.length_map]; exact l1) (by rw [List.length_map]; exact l5) hn8;have lw:told.length<=9:=by rw [pp.len,fg',List.length_replicate,List.length_map]; omega
  have pp':Pl (exOf of r hr hn) (rs.length + 1) (2 * n + 102) (c * c) told (wn P):=pp;obtain ⟨ys,ey,py⟩:=fS' T (by omega) (Int.mul_pos c0 c0) (by omega) pp';have cf:=co told ys _ (by omega) ey;exact ⟨ys,by push_cast [al,ab,ct,ep,cf,cl],.inr ⟨hz,py⟩⟩
end
theorem ig' {rs:List (List Int)} {F:OF} {of:List Int->F.C} (T:Tow rs F of) {n m:Nat} {c e:Int} {ds es:List D} {P:List F.C} (h1:Pl of rs.length n c ds P) (h2:Pl of rs.length m e es P):ds=es:=by
 induction h1 generalizing es with
 | nil=>cases h2; rfl
 | cons a _ _ ih =>
  cases h2 with
  | cons b _ t=>rw [ff' T a b,ih t]
abbrev onil:List Int->ratOF.C:=fun x=>(((x.headD 0:Int):Rat))
structure Fin {B:OF} (X:B.C) (α β:Int->Int) (ds es:List D):Prop where
 ex:∃(P Q:List ratOF.C) (n:Nat) (c e k:Int) (j:Nat) (φ:ratOF.C->B.C),0 < c/\0 < e/\c.natAbs < 2 ^ n/\e.natAbs < 2 ^ n/\n<=2000/\Pl onil 0 n c ds P/\Pl onil 0 n e es Q/\Rl α β k P Q/\k≠0/\Mo P/\Mo Q/\P.length=2 ^ j + 1/\Hm φ/\ev φ X P=0
theorem ll' {c:Int} {n:Nat} (h:c.natAbs < 2 ^ n):(c * c).natAbs < 2 ^ (2 * n + 102):=by
 rw [Int.natAbs_mul];refine Nat.lt_of_lt_of_le (Nat.mul_lt_mul'' h h) ?_;rw [<- Nat.pow_add]; exact Nat.pow_le_pow_right (by decide) (by omega)
theorem cU' (rs:List (List Int)):lenG [RT rs]=.ok (.int (rs.length:Int)):=by
 show Res.ok (D.int _)=_;simp
theorem eq_loop {rs:List (List Int)} {F:OF} {of:List Int->F.C} (T:Tow rs F of) {B:OF} (X:B.C) (α β:Int->Int) (hα:∀a b,α a=α b->a=b) (hβ:∀a b,β a=β b->a=b) :
  ∀(φ:F.C->B.C) (n:Nat) (c e k:Int) (j:Nat) (ds es:List D) (P Q:List F.C),Hm φ->rs.length<=3->(∀r∈rs,Bd 10 r)->0 < c->0 < e->c.natAbs < 2 ^ n->e.natAbs < 2 ^ n->(n + 102) * 2 ^ rs.length<=2000->Pl of rs.length n c ds P->Pl of rs.length n e es Q->Rl α β k P Q->k≠0->Mo P->Mo Q->P.length=2 ^ j + 1->j + rs.length<=3->ev φ X P=0 ->
   ∃ds' es',(∀(s0 s1:Option SV) (f:Nat),rs.length < f->whileD (bindT (two (bindF (consD (slotD 3) (fun _=>.ok [])) lenG) (fun _=>.ok (.int 0)) (cmpD fun i j=>decide (j < i))) boolD) (seqD (ifS (notT (bindT (bindF (consD (compD 1 [] (tgtN 0) (bindF (consD (two (bindF (consD (slotD 0) (fun _=>.ok [])) F_qD) (fun _=>.ok (.int 1)) ixD) (fun _=>.ok [])) F_qt) (bindL (slotD 2) seqItems)) (fun _=>.ok [])) allG) truthD)) (setD 2 (bindF (consD (slotD 3) (consD (slotD 2) (consD (compD 1 [] (tgtN 0) (bindF (consD (slotD 0) (fun _=>.ok [])) F_qC) (bindL (slotD 2) seqItems)) (fun _=>.ok [])))) F_qz)) Out.nxt) (seqD (setD 2 (compD 1 [] (tgtN 0) (two (bindF (consD (slotD 0) (fun _=>.ok [])) F_qD) (fun _=>.ok (.int 0)) ixD) (bindL (slotD 2) seqItems))) (setD 3 (sliceF (slotD 3) noPart (partF (negF (fun _=>.ok (.int 1)))))))) f [s0,s1,some (.val (.lst ds)),some (.val (RT rs))]=.nxt [s0,s1,some (.val (.lst ds')),some (.val (RT []))]) /\
    (∀(s0 s1:Option SV) (f:Nat),rs.length < f->whileD (bindT (two (bindF (consD (slotD 3) (fun _=>.ok [])) lenG) (fun _=>.ok (.int 0)) (cmpD fun i j=>decide (j < i))) boolD) (seqD (ifS (notT (bindT (bindF (consD (compD 1 [] (tgtN 0) (bindF (consD (two (bindF (consD (slotD 0) (fun _=>.ok [])) F_qD) (fun _=>.ok (.int 1)) ixD) (fun _=>.ok [])) F_qt) (bindL (slotD 2) seqItems)) (fun _=>.ok [])) allG) truthD)) (setD 2 (bindF (consD (slotD 3) (consD (slotD 2) (consD (compD 1 [] (tgtN 0) (bindF (consD (slotD 0) (fun _=>.ok [])) F_qC) (bindL (slotD 2) seqItems)) (fun _=>.ok [])))) F_qz)) Out.nxt) (seqD (setD 2 (compD 1 [] (tgtN 0) (two (bindF (consD (slotD 0) (fun _=>.ok [])) F_qD) (fun _=>.ok (.int 0)) ixD) (bindL (slotD 2) seqItems))) (setD 3 (sliceF (slotD 3) noPart (partF (negF (fun _=>.ok (.int 1)))))))) f [s0,s1,some (.val (.lst es)),some (.val (RT rs))]=.nxt [s0,s1,some (.val (.lst es')),some (.val (RT []))])/\Fin X α β ds' es'/\∃j',ds'.length=2 ^ j' + 1/\j'<=j + rs.length:=by
 induction T with
 | nil =>
  intro φ n c e k j ds es P Q hφ h3 hrs c0 e0 cb eb hb hP hQ hR k0 mP mQ lP hj root;have stop:∀(ds:List D) (s0 s1:Option SV) (f:Nat),0 < f->whileD (bindT (two (bindF (consD (slotD 3) (fun _=>.ok [])) lenG) (fun _=>.ok (.int 0)) (cmpD fun i j=>decide (j < i))) boolD) (seqD (ifS (notT (bindT (bindF (consD (compD 1 [] (tgtN 0) (bindF (consD (two (bindF (consD (slotD 0) (fun _=>.ok [])) F_qD) (fun _=>.ok (.int 1)) ixD) (fun _=>.ok [])) F_qt) (bindL (slotD 2) seqItems)) (fun _=>.ok [])) allG) truthD)) (setD 2 (bindF (consD (slotD 3) (consD (slotD 2) (consD (compD 1 [] (tgtN 0) (bindF (consD (slotD 0) (fun _=>.ok [])) F_qC) (bindL (slotD 2) seqItems)) (fun _=>.ok [])))) F_qz)) Out.nxt) (seqD (setD 2 (compD 1 [] (tgtN 0) (two (bindF (consD (slotD 0) (fun _=>.ok [])) F_qD) (fun _=>.ok (.int 0)) ixD) (bindL (slotD 2) seqItems))) (setD 3 (sliceF (slotD 3) noPart (partF (negF (fun _=>.ok (.int 1)))))))) f [s0,s1,some (.val (.lst ds)),some (.val (RT []))]=.nxt [s0,s1,some (.val (.lst ds)),some (.val (RT []))]:=fun ds s0 s1 f hf=>by
   obtain ⟨g,rfl⟩:∃g,f=g + 1:=⟨f - 1,by omega⟩;refine aJ' ?_;have ln:=cU' [];push_cast [ln]
  refine ⟨ds,es,stop ds,stop es,⟨P,Q,n,c,e,k,j,φ,c0,e0,cb,eb,?_,hP,hQ,hR,k0,mP,mQ,lP,hφ,root⟩,j,by rw [hP.len,lP],by simp⟩;have:(n + 102) * 1<=2000:=hb;omega
 | @cons rs F of T r hl hr hn ih =>
  intro φ n c e k j ds es P Q hφ h3 hrs c0 e0 cb eb hb hP hQ hR k0 mP mQ lP hj root;have h3':rs.length + 1<=3:=h3;have hj':j + (rs.length + 1)<=3:=hj;have hb':(n + 102) * 2 ^ rs.length * 2<=2000:=by
   have:(n + 102) * 2 ^ (rs.length + 1)<=2000:=hb
   rwa [Nat.pow_succ,<- Nat.mul_assoc] at this
  have p2:=Nat.two_pow_pos rs.length;have n1:n + 102<=(n + 102) * 2 ^ rs.length:=Nat.le_mul_of_pos_right _ p2;have j2:2 ^ j<=4:=by
   have:2 ^ j<=2 ^ 2:=Nat.pow_le_pow_right (by decide) (by omega);exact this
  have jp:=Nat.two_pow_pos j;have lQ:Q.length=2 ^ j + 1:=by rw [<- hR.len,lP]
  have kF:(k:F.C)≠0:=aG' T k0;obtain ⟨d1,w1,q1⟩:=bw' T hl h3' hrs c0 cb (by omega) hP (by omega) (by omega) none none;obtain ⟨d2,w2,q2⟩:=bw' T hl h3' hrs e0 eb (by omega) hQ (by omega) (by omega) none none;have cond:∀(ds:List D) (s0 s1:Option SV),(bindT (two (bindF (consD (slotD 3) (fun _=>.ok [])) lenG) (fun _=>.ok (.int 0)) (cmpD fun i j=>decide (j < i))) boolD) [s0,s1,some (.val (.lst ds)),some (.val (RT (r :: rs)))]=.ok true:=fun ds s0 s1=>by
   have ln:=cU' (r :: rs);have ps:(0:Int) < (((r :: rs).length:Nat):Int):=by rw [List.length_cons]; omega
   simp only [ap_seq,sq_nxt,sq_ret,ap_set,on_ok,ont_ok,onl_ok,ap_if,ap_two,ap_bF,ap_bT,ap_bL,ap_bR,ap_cons,ap_tup,ap_lst,ap_ret,ap_neg,neg_ok,ap_notT,ap_andT,ap_orT,ap_andV,ap_notV,ap_for,ap_slice,ap_part,ap_noPart,part_int,out_ret,cmp_ok,add_ok,sub_ok,bool_ok,truth_bl,abs_ok,len_tup,len_lst,tuple_lst,seq_tup,seq_lst,vw_val,vw_arg,eqI,neI,bnd_ok,mulE_i,sl0,st0,sl1,st1,sl2,st2,sl3,st3,sl4,st4,sl5,st5,sl6,st6,sl7,st7,sl8,st8,sl9,st9,sl10,st10,sl11,st11,tup1,tup2,lst2,tup3,tup4,lst4,lst5,lst6,ix_tup0,ix_lst0,ix_tup1,ix_lst1,ix_lst2,ix_lst3,↓reduceIte,decide_true,decide_false,Bool.not_true,Bool.not_false,Bool.false_eq_true,Int.reduceEq,Int.reduceNe,Int.reduceLT,Int.reduceLE,Nat.reduceAdd,cN0,cN1,cN2,List.length_cons,List.length_nil] at ps;push_cast [ln,ps]
  have run:∀(ds d1 ds':List D),(∀s0 s1:Option SV,(seqD (ifS (notT (bindT (bindF (consD (compD 1 [] (tgtN 0) (bindF (consD (two (bindF (consD (slotD 0) (fun _=>.ok [])) F_qD) (fun _=>.ok (.int 1)) ixD) (fun _=>.ok [])) F_qt) (bindL (slotD 2) seqItems)) (fun _=>.ok [])) allG) truthD)) (setD 2 (bindF (consD (slotD 3) (consD (slotD 2) (consD (compD 1 [] (tgtN 0) (bindF (consD (slotD 0) (fun _=>.ok [])) F_qC) (bindL (slotD 2) seqItems)) (fun _=>.ok [])))) F_qz)) Out.nxt) (seqD (setD 2 (compD 1 [] (tgtN 0) (two (bindF (consD (slotD 0) (fun _=>.ok [])) F_qD) (fun _=>.ok (.int 0)) ixD) (bindL (slotD 2) seqItems))) (setD 3 (sliceF (slotD 3) noPart (partF (negF (fun _=>.ok (.int 1)))))))) [s0,s1,some (.val (.lst ds)),some (.val (RT (r :: rs)))]=.nxt [s0,s1,some (.val (.lst d1)),some (.val (RT rs))])->(∀(s0 s1:Option SV) (f:Nat),rs.length < f->whileD (bindT (two (bindF (consD (slotD 3) (fun _=>.ok [])) lenG) (fun _=>.ok (.int 0)) (cmpD fun i j=>decide (j < i))) boolD) (seqD (ifS (notT (bindT (bindF (consD (compD 1 [] (tgtN 0) (bindF (consD (two (bindF (consD (slotD 0) (fun _=>.ok [])) F_qD) (fun _=>.ok (.int 1)) ixD) (fun _=>.ok [])) F_qt) (bindL (slotD 2) seqItems)) (fun _=>.ok [])) allG) truthD)) (setD 2 (bindF (consD (slotD 3) (consD (slotD 2) (consD (compD 1 [] (tgtN 0) (bindF (consD (slotD 0) (fun _=>.ok [])) F_qC) (bindL (slotD 2) seqItems)) (fun _=>.ok [])))) F_qz)) Out.nxt) (seqD (setD 2 (compD 1 [] (tgtN 0) (two (bindF (consD (slotD 0) (fun _=>.ok [])) F_qD) (fun _=>.ok (.int 0)) ixD) (bindL (slotD 2) seqItems))) (setD 3 (sliceF (slotD 3) noPart (partF (negF (fun _=>.ok (.int 1)))))))) f [s0,s1,some (.val (.lst d1)),some (.val (RT rs))]=.nxt [s0,s1,some (.val (.lst ds')),some (.val (RT []))]) ->
    ∀(s0 s1:Option SV) (f:Nat),(r :: rs).length < f->whileD (bindT (two (bindF (consD (slotD 3) (fun _=>.ok [])) lenG) (fun _=>.ok (.int 0)) (cmpD fun i j=>decide (j < i))) boolD) (seqD (ifS (notT (bindT (bindF (consD (compD 1 [] (tgtN 0) (bindF (consD (two (bindF (consD (slotD 0) (fun _=>.ok [])) F_qD) (fun _=>.ok (.int 1)) ixD) (fun _=>.ok [])) F_qt) (bindL (slotD 2) seqItems)) (fun _=>.ok [])) allG) truthD)) (setD 2 (bindF (consD (slotD 3) (consD (slotD 2) (consD (compD 1 [] (tgtN 0) (bindF (consD (slotD 0) (fun _=>.ok [])) F_qC) (bindL (slotD 2) seqItems)) (fun _=>.ok [])))) F_qz)) Out.nxt) (seqD (setD 2 (compD 1 [] (tgtN 0) (two (bindF (consD (slotD 0) (fun _=>.ok [])) F_qD) (fun _=>.ok (.int 0)) ixD) (bindL (slotD 2) seqItems))) (setD 3 (sliceF (slotD 3) noPart (partF (negF (fun _=>.ok (.int 1)))))))) f [s0,s1,some (.val (.lst ds)),some (.val (RT (r :: rs)))]=.nxt [s0,s1,some (.val (.lst ds')),some (.val (RT []))]:=fun ds d1 ds' h1 h2 s0 s1 f hf=>by
   have hf':rs.length + 1 < f:=hf;obtain ⟨g,rfl⟩:∃g,f=g + 1:=⟨f - 1,by omega⟩;exact (aW' (cond ds s0 s1) (h1 s0 s1)).trans (h2 s0 s1 g (by omega))
  have frame:∀{ds d1:List D} {n:Nat} {c:Int} {P:List (EF F (of r) hr hn).C},Pl (exOf of r hr hn) (rs.length + 1) n c ds P->0 < c->c.natAbs < 2 ^ n->n<=1900->1<=P.length->P.length<=5->(seqD (ifS (notT (bindT (bindF (consD (compD 1 [] (tgtN 0) (bindF (consD (two (bindF (consD (slotD 0) (fun _=>.ok [])) F_qD) (fun _=>.ok (.int 1)) ixD) (fun _=>.ok [])) F_qt) (bindL (slotD 2) seqItems)) (fun _=>.ok [])) allG) truthD)) (setD 2 (bindF (consD (slotD 3) (consD (slotD 2) (consD (compD 1 [] (tgtN 0) (bindF (consD (slotD 0) (fun _=>.ok [])) F_qC) (bindL (slotD 2) seqItems)) (fun _=>.ok [])))) F_qz)) Out.nxt) (seqD (setD 2 (compD 1 [] (tgtN 0) (two (bindF (consD (slotD 0) (fun _=>.ok [])) F_qD) (fun _=>.ok (.int 0)) ixD) (bindL (slotD 2) seqItems))) (setD 3 (sliceF (slotD 3) noPart (partF (negF (fun _=>.ok (.int 1)))))))) [none,none,some (.val (.lst ds)),some (.val (RT (r :: rs)))]=.nxt [none,none,some (.val (.lst d1)),some (.val (RT rs))]->∀s0 s1:Option SV,(seqD (ifS (notT (bindT (bindF (consD (compD 1 [] (tgtN 0) (bindF (consD (two (bindF (consD (slotD 0) (fun _=>.ok [])) F_qD) (fun _=>.ok (.int 1)) ixD) (fun _=>.ok [])) F_qt) (bindL (slotD 2) seqItems)) (fun _=>.ok [])) allG) truthD)) (setD 2 (bindF (consD (slotD 3) (consD (slotD 2) (consD (compD 1 [] (tgtN 0) (bindF (consD (slotD 0) (fun _=>.ok [])) F_qC) (bindL (slotD 2) seqItems)) (fun _=>.ok [])))) F_qz)) Out.nxt) (seqD (setD 2 (compD 1 [] (tgtN 0) (two (bindF (consD (slotD 0) (fun _=>.ok [])) F_qD) (fun _=>.ok (.int 0)) ixD) (bindL (slotD 2) seqItems))) (setD 3 (sliceF (slotD 3) noPart (partF (negF (fun _=>.ok (.int 1)))))))) [s0,s1,some (.val (.lst ds)),some (.val (RT (r :: rs)))]=.nxt [s0,s1,some (.val (.lst d1)),some (.val (RT rs))]:=fun {ds d1 n c P} hP c0 cb hn8 l1 l5 w s0 s1=>by
   obtain ⟨d2,w2,o2⟩:=bw' T hl h3' hrs c0 cb hn8 hP l1 l5 s0 s1;obtain ⟨d3,w3,o3⟩:=bw' T hl h3' hrs c0 cb hn8 hP l1 l5 none none;have e3:d3=d1:=by rw [w3] at w; injection w with w; injection w with _ w; injection w with _ w; injection w with w; injection w with w; injection w with w; injection w with w
   subst e3;have same:d2=d3:=by
    rcases o2 with ⟨z2,p2⟩ | ⟨z2,p2⟩ <;> rcases o3 with ⟨z3,p3⟩ | ⟨z3,p3⟩
    ·exact ig' T p2 p3
    ·exact (z3 z2).elim
    ·exact (z2 z3).elim
    ·exact ig' T p2 p3
   rw [w2,same]
  have r1:=frame hP c0 cb (by omega) (by omega) (by omega) w1;have r2:=frame hQ e0 eb (by omega) (by omega) (by omega) w2;rcases q1 with ⟨z1,p1⟩ | ⟨z1,p1⟩
  ·have z2:=hR.fwd hβ z1;rcases q2 with ⟨_,p2'⟩ | ⟨y2,_⟩
   ·obtain ⟨ds',es',a1,a2,a3,j',a4,a5⟩:=ih (fun a=>φ (em a)) n c e k j d1 d2 (pa P) (pa Q) (mA' hφ) (by omega) (fun u hu=>hrs u (List.mem_cons_of_mem _ hu)) c0 e0 cb eb (by omega) p1 p2' hR.front k0 mP.front mQ.front (by rw [cA']; exact lP) (by omega) (by rw [li' X P z1]; exact root);exact ⟨ds',es',run ds d1 ds' r1 a1,run es d2 es' r2 a2,a3,j',a4,by rw [List.length_cons]; omega⟩
   ·exact (y2 z2).elim
  ·rcases q2 with ⟨y2,_⟩ | ⟨_,p2'⟩
   ·exact (z1 (hR.bwd hα kF y2)).elim
   ·have ej:2 ^ (j + 1)=2 ^ j + 2 ^ j:=by rw [Nat.pow_succ]; omega
    have bb:(2 * n + 102 + 102) * 2 ^ rs.length<=2000:=by
     have:(2 * n + 102 + 102) * 2 ^ rs.length=(n + 102) * 2 ^ rs.length * 2:=by
      rw [show 2 * n + 102 + 102=2 * (n + 102) by omega,Nat.mul_assoc,Nat.mul_comm]
     omega
    obtain ⟨ds',es',a1,a2,a3,j',a4,a5⟩:=ih (fun a=>φ (em a)) (2 * n + 102) (c * c) (e * e) (k * k) (j + 1) d1 d2 (pa (wn P)) (pa (wn Q)) (mA' hφ) (by omega) (fun u hu=>hrs u (List.mem_cons_of_mem _ hu)) (Int.mul_pos c0 c0) (Int.mul_pos e0 e0) (ll' cb) (ll' eb) bb p1 p2' hR.norm (Int.mul_ne_zero k0 k0) mP.wn.front mQ.wn.front (by rw [cA',eE',lP,ej]; omega) (by omega) (by rw [li' X _ (lg' P),lf' hφ,root]; grind);exact ⟨ds',es',run ds d1 ds' r1 a1,run es d2 es' r2 a2,a3,j',a4,by rw [List.length_cons]; omega⟩
noncomputable def evI {B:OF} (X:B.C):List Int->B.C
 | []=>0
 | a :: p=>(a:B.C) + X * evI X p
noncomputable def evi (t:Int):List Int->Int
 | []=>0
 | a :: p=>a + t * evi t p
theorem ih' {B:OF} (t:Int):∀p:List Int,evI (B:=B) (t:B.C) p=((evi t p:Int):B.C)
 | []=>by show (0:B.C)=((0:Int):B.C); rw [Ring.intCast_zero]
 | a :: p=>by
  show (a:B.C) + (t:B.C) * evI (t:B.C) p=((a + t * evi t p:Int):B.C);rw [ih' t p,Ring.intCast_add,Ring.intCast_mul]
structure Prim (row:List Int):Prop where
 one:gN 0 row=1
 last:∃r0 b,row=r0 ++ [b]/\0 < b
theorem jt' (l m:Nat) (hm:0 < m) (hl:0 < l):Int.fdiv (l:Int) (cm (l:Int) (m:Int)) * (m:Int)=((Nat.lcm l m:Nat):Int):=by
 unfold cm;rw [Int.gcd_natCast_natCast,Int.fdiv_eq_ediv_of_nonneg _ (by omega),<- Int.natCast_ediv,<- Int.natCast_mul]
 congr 1
 have g0:0 < Nat.gcd l m:=Nat.gcd_pos_of_pos_left m hl;refine Nat.eq_of_mul_eq_mul_left g0 ?_;rw [Nat.gcd_mul_lcm,<- Nat.mul_assoc,Nat.mul_div_cancel' (Nat.gcd_dvd_left l m)]
theorem fT' {n:Nat} {c:Int} {ds:List D} {P:List ratOF.C} (h:Pl onil 0 n c ds P) (c0:0 < c):∃as:List (Int×Nat),ds=as.map (fun p=>num [p.1] (p.2:Int))/\P=as.map (fun p=>((p.1:ratOF.C) / ((p.2:Int):ratOF.C)))/\∀p∈as,0 < p.2/\Nat.gcd p.2 p.1.natAbs=1/\p.2 ∣ c.natAbs/\p.1.natAbs < 2 ^ n/\p.2 < 2 ^ n:=by
 induction h with
 | nil=>exact ⟨[],rfl,rfl,fun p hp=>absurd hp (by simp)⟩
 | @cons d v ds P a b t ih =>
  obtain ⟨as,e1,e2,e3⟩:=ih;obtain ⟨x,k,rfl,nf,lx,bx,bk,ev⟩:=a;obtain ⟨w,lw,bw,ew⟩:=b
  match x,lx,w,lw with
  | [u],_,[s],_ =>
   have kp:=nf.pos;obtain ⟨m,rfl⟩:=Int.eq_ofNat_of_zero_le (Int.le_of_lt kp);have kz:((m:Int):ratOF.C)≠0:=aG' Tow.nil (show (m:Int)≠0 by omega);have cz:(c:ratOF.C)≠0:=aG' Tow.nil (show c≠0 by omega);have ev':v=(u:ratOF.C) / ((m:Int):ratOF.C):=ev;have ew':v=(s:ratOF.C) / (c:ratOF.C):=ew;have cr:(c:ratOF.C) * (u:ratOF.C)=((m:Int):ratOF.C) * (s:ratOF.C):=jS' kz cz (ev'.symm.trans ew');rw [<- Ring.intCast_mul,<- Ring.intCast_mul] at cr;have cr':=bL' cr;have one:Nat.gcd m u.natAbs=1:=nf.one;have dv:m ∣ c.natAbs:=by
    have h1:m ∣ c.natAbs * u.natAbs:=by rw [<- Int.natAbs_mul,cr',Int.natAbs_mul]; exact Nat.dvd_mul_right m s.natAbs
    exact (Nat.Coprime.dvd_of_dvd_mul_right one h1)
   refine ⟨(u,m) :: as,by rw [List.map_cons,<- e1],by rw [List.map_cons,<- e2,ev'],fun p hp=>?_⟩;rcases List.mem_cons.mp hp with z | z
   ·rw [z]; exact ⟨by omega,one,dv,bx u (by simp),bk⟩
   ·exact e3 p z
theorem eF' {n:Nat} {C:Nat} (C0:0 < C) (cb:C < 2 ^ n) (n8:n<=7900) (told:D):∀(as:List (Int×Nat)) (l:Nat) (s2:Option SV),0 < l->l ∣ C->(∀p∈as,0 < p.2/\p.2 ∣ C/\p.2 < 2 ^ n) ->
  ∃L s2',forD (tgtN 2) (setD 1 (two (two (slotD 1) (bindF (consD (slotD 1) (consD (two (slotD 2) (fun _=>.ok (.int 1)) ixD) (fun _=>.ok []))) F_qA) fdivD) (two (slotD 2) (fun _=>.ok (.int 1)) ixD) mulE)) (as.map fun p=>num [p.1] (p.2:Int)) [some (.val told),some (.val (.int (l:Int))),s2]=.nxt [some (.val told),some (.val (.int ((L:Nat):Int))),s2']/\0 < L/\l ∣ L/\L ∣ C/\(∀p∈as,p.2 ∣ L)/\∀M,l ∣ M->(∀p∈as,p.2 ∣ M)->L ∣ M
 | [],l,s2,l0,lC,_=>⟨l,s2,rfl,l0,Nat.dvd_refl l,lC,fun p hp=>absurd hp (by simp),fun M h _=>h⟩
 | (u,m) :: as,l,s2,l0,lC,h=>by
  obtain ⟨m0,mC,mb⟩:=h (u,m) (by simp);have l1:Nat.lcm l m ∣ C:=Nat.lcm_dvd lC mC;have lp:0 < Nat.lcm l m:=Nat.pos_of_dvd_of_pos l1 C0;obtain ⟨L,s2',e,h1,h2,h3,h4,h5⟩:=eF' C0 cb n8 told as (Nat.lcm l m) (some (.val (num [u] (m:Int)))) lp l1 fun p hp=>h p (List.mem_cons_of_mem _ hp);refine ⟨L,s2',?_,h1,Nat.dvd_trans (Nat.dvd_lcm_left l m) h2,h3,fun p hp=>?_,fun M a b=>h5 M (Nat.lcm_dvd a (b (u,m) (by simp))) fun p hp=>b p (List.mem_cons_of_mem _ hp)⟩
  ·rw [List.map_cons];refine Eq.trans (bB' (δ1:=[some (.val told),some (.val (.int (l:Int))),some (.val (num [u] (m:Int)))]) (δ2:=[some (.val told),some (.val (.int ((Nat.lcm l m:Nat):Int))),some (.val (num [u] (m:Int)))]) rfl ?_) e;have wc:=fO' (l:Int) (m:Int);have gd:(cm (l:Int) (m:Int))≠0/\(cm (l:Int) (m:Int)).natAbs < 2 ^ 8000:=by
    unfold cm;rw [Int.gcd_natCast_natCast];have g0:0 < Nat.gcd l m:=Nat.gcd_pos_of_pos_left m l0;have g1:Nat.gcd l m<=m:=Nat.le_of_dvd m0 (Nat.gcd_dvd_right l m);refine ⟨by omega,?_⟩;rw [Int.natAbs_natCast];exact Nat.lt_of_le_of_lt g1 (Nat.lt_of_lt_of_le mb (bn' (by omega)))
   have fd:fdivD (.int (l:Int)) (.int (cm (l:Int) (m:Int)))=_:=cs' gd.1 gd.2;have st:=jt' l m m0 l0;have q8:(Int.fdiv (l:Int) (cm (l:Int) (m:Int))).natAbs < 2 ^ 8000:=by
    unfold cm;rw [Int.gcd_natCast_natCast,Int.fdiv_eq_ediv_of_nonneg _ (by omega),<- Int.natCast_ediv,Int.natAbs_natCast];have h1:l / Nat.gcd l m<=l:=Nat.div_le_self _ _;have h2:l<=C:=Nat.le_of_dvd C0 lC;exact Nat.lt_of_le_of_lt (Nat.le_trans h1 h2) (Nat.lt_of_lt_of_le cb (bn' (by omega)))
   have mu:mulD (.int (Int.fdiv (l:Int) (cm (l:Int) (m:Int)))) (.int (m:Int))=_:=je' q8 (by rw [Int.natAbs_natCast]; exact Nat.lt_of_lt_of_le mb (bn' (by omega)));rw [st] at mu;push_cast [wc,fd,mu]
  ·rcases List.mem_cons.mp hp with z | z
   ·rw [z]; exact Nat.dvd_trans (Nat.dvd_lcm_right l m) h2
   ·exact h4 p z
theorem mC' {a b q:ratOF.C} (h:b≠0):b * q * (a / b)=a * q:=by grind
theorem fU' {B:OF} {φ:ratOF.C->B.C} (h:Hm φ) (X:B.C) (L:Nat):∀as:List (Int×Nat),(∀p∈as,0 < p.2/\p.2 ∣ L)->((L:Int):B.C) * ev φ X (as.map fun p=>((p.1:ratOF.C) / ((p.2:Int):ratOF.C)))=evI X (as.map fun p=>p.1 * ((L / p.2:Nat):Int))
 | [],_=>by show ((L:Int):B.C) * 0=0; grind
 | (u,m) :: as,hp=>by
  have ih:=fU' h X L as fun p hq=>hp p (List.mem_cons_of_mem _ hq);obtain ⟨m0,dv⟩:=hp (u,m) (by simp);have mz:((m:Int):ratOF.C)≠0:=aG' Tow.nil (show (m:Int)≠0 by have:0 < m:=m0; omega);have e:((L:Int):B.C) * φ ((u:ratOF.C) / ((m:Int):ratOF.C))=((u * ((L / m:Nat):Int):Int):B.C):=by
   rw [<- h.int (L:Int),<- h.mul,<- h.int]
   congr 1
   have eL:(L:Int)=(m:Int) * ((L / m:Nat):Int):=by rw [<- Int.natCast_mul,Nat.mul_div_cancel' dv]
   rw [show ((L:Int):ratOF.C)=(((m:Int) * ((L / m:Nat):Int):Int):ratOF.C) from congrArg _ eL,Ring.intCast_mul,Ring.intCast_mul]
   exact mC' mz
  show ((L:Int):B.C) * (φ ((u:ratOF.C) / ((m:Int):ratOF.C)) + X * ev φ X (as.map fun p=>((p.1:ratOF.C) / ((p.2:Int):ratOF.C))))=((u * ((L / m:Nat):Int):Int):B.C) + X * evI X (as.map fun p=>p.1 * ((L / p.2:Nat):Int));rw [<- e,<- ih];generalize φ ((u:ratOF.C) / ((m:Int):ratOF.C))=p1;generalize ev φ X (as.map fun p=>((p.1:ratOF.C) / ((p.2:Int):ratOF.C)))=p2;generalize ((L:Int):B.C)=p3
  grind
theorem ju' {L:Nat} (L0:0 < L) {as:List (Int×Nat)} (h:∀p∈as,0 < p.2/\Nat.gcd p.2 p.1.natAbs=1/\p.2 ∣ L) (ml:∃as0,as=as0 ++ [((1:Int),1)]) (mn:∀M,(∀p∈as,p.2 ∣ M)->L ∣ M):Prim (as.map fun p=>p.1 * ((L / p.2:Nat):Int)):=by
 obtain ⟨as0,ea⟩:=ml;have la:(as.map fun p=>p.1 * ((L / p.2:Nat):Int))=(as0.map fun p=>p.1 * ((L / p.2:Nat):Int)) ++ [(L:Int)]:=by
  rw [ea,List.map_append,List.map_cons,List.map_nil,Nat.div_one,Int.one_mul]
 refine ⟨?_,_,(L:Int),la,by omega⟩;have dv:=fF' (as.map fun p=>p.1 * ((L / p.2:Nat):Int)) 0;generalize hg:gN 0 (as.map fun p=>p.1 * ((L / p.2:Nat):Int))=g at dv;have gL:g ∣ L:=by
  have:=dv.2 (L:Int) (by rw [la]; simp)
  rwa [Int.natAbs_natCast] at this
 obtain ⟨q,eq⟩:=gL;have g0:0 < g:=Nat.pos_of_ne_zero fun z=>by rw [z,Nat.zero_mul] at eq; omega
 have all:∀p∈as,p.2 ∣ q:=fun p hp=>by
  obtain ⟨p0,cop,pL⟩:=h p hp;have d1:=dv.2 _ (List.mem_map.mpr ⟨p,hp,rfl⟩);rw [Int.natAbs_mul,Int.natAbs_natCast] at d1;obtain ⟨m,em⟩:=d1;have eL:=Nat.mul_div_cancel' pL;have e1:p.2 * (g * m)=g * (p.1.natAbs * q):=by
   rw [<- em,show p.2 * (p.1.natAbs * (L / p.2))=p.1.natAbs * (p.2 * (L / p.2)) from by rw [Nat.mul_left_comm],eL,eq,Nat.mul_left_comm]
  have e2:p.2 * m=p.1.natAbs * q:=by
   refine Nat.eq_of_mul_eq_mul_left g0 ?_;rw [<- e1,Nat.mul_left_comm]
  exact Nat.Coprime.dvd_of_dvd_mul_left cop ⟨m,e2.symm⟩
 have Lq:=mn q all;have q0:0 < q:=Nat.pos_of_ne_zero fun z=>by rw [z,Nat.mul_zero] at eq; omega
 have le:=Nat.le_of_dvd q0 Lq;rw [eq] at le;have:g * q<=1 * q:=by omega
 have:=Nat.le_of_mul_le_mul_right this q0;omega
theorem eG' {n C:Nat} (C0:0 < C) (cb:C < 2 ^ n) (n8:n<=7900) (as:List (Int×Nat)) (h:∀p∈as,0 < p.2/\Nat.gcd p.2 p.1.natAbs=1/\p.2 ∣ C/\p.1.natAbs < 2 ^ n/\p.2 < 2 ^ n) (ml:∃as0,as=as0 ++ [((1:Int),1)]) (hl:as.length<=1000) :
  ∃L:Nat,0 < L/\L < 2 ^ n/\(∀p∈as,p.2 ∣ L)/\Prim (as.map fun p=>p.1 * ((L / p.2:Nat):Int))/\F_qb [.lst (as.map fun p=>num [p.1] (p.2:Int))]=.ok (.lst ((as.map fun p=>p.1 * ((L / p.2:Nat):Int)).map .int)):=by
 obtain ⟨L,s2,e,L0,_,LC,dL,mn⟩:=eF' C0 cb n8 (.lst (as.map fun p=>num [p.1] (p.2:Int))) as 1 none (by decide) (Nat.one_dvd C) fun p hp=>⟨(h p hp).1,(h p hp).2.2.1,(h p hp).2.2.2.2⟩;have Lb:L < 2 ^ n:=Nat.lt_of_le_of_lt (Nat.le_of_dvd C0 LC) cb;refine ⟨L,L0,Lb,dL,ju' L0 (fun p hp=>⟨(h p hp).1,(h p hp).2.1,dL p hp⟩) ml fun M hM=>mn M (Nat.one_dvd M) hM,?_⟩;have el:∀as':List (Int×Nat),(∀p∈as',0 < p.2/\p.1.natAbs < 2 ^ n/\p.2 < 2 ^ n)->El (fun d=>((two (two (two (slotD 0) (fun _=>.ok (.int 0)) ixD) (fun _=>.ok (.int 0)) ixD) (two (slotD 1) (two (slotD 0) (fun _=>.ok (.int 1)) ixD) fdivD) mulE)) [some (.val d),some (.arg (.int (L:Int)))]) (as'.map fun p=>num [p.1] (p.2:Int)) ((as'.map fun p=>p.1 * ((L / p.2:Nat):Int)).map .int):=by
  intro as'
  induction as' with
  | nil=>intro _; exact .nil
  | cons p as' ih =>
   intro hp;obtain ⟨p0,pb,qb⟩:=hp p (by simp);refine .cons ?_ (ih fun q hq=>hp q (List.mem_cons_of_mem _ hq));have fd:fdivD (.int (L:Int)) (.int (p.2:Int))=_:=cs' (show (p.2:Int)≠0 by omega) (by rw [Int.natAbs_natCast]; exact Nat.lt_of_lt_of_le qb (bn' (by omega)));have fe:Int.fdiv (L:Int) (p.2:Int)=((L / p.2:Nat):Int):=by rw [Int.fdiv_eq_ediv_of_nonneg _ (by omega),Int.natCast_ediv]
   rw [fe] at fd;have mu:mulD (.int p.1) (.int ((L / p.2:Nat):Int))=_:=je' (Nat.lt_of_lt_of_le pb (bn' (by omega))) (by rw [Int.natAbs_natCast]; exact Nat.lt_of_le_of_lt (Nat.div_le_self _ _) (Nat.lt_of_lt_of_le Lb (bn' (by omega))));push_cast [List.map_cons,List.map_nil,fd,mu]
 have cc:(compD 1 [1] (tgtN 0) (two (two (two (slotD 0) (fun _=>.ok (.int 0)) ixD) (fun _=>.ok (.int 0)) ixD) (two (slotD 1) (two (slotD 0) (fun _=>.ok (.int 1)) ixD) fdivD) mulE) (bindL (slotD 0) seqItems)) [some (.val (.lst (as.map fun p=>num [p.1] (p.2:Int)))),some (.val (.int (L:Int))),(s2.map thaw2)]=.ok (.lst ((as.map fun p=>p.1 * ((L / p.2:Nat):Int)).map .int)) :=
  if' (rest:=[some (.arg (.int (L:Int)))]) rfl rfl (by rw [List.length_map]; exact hl) (el as fun p hp=>⟨(h p hp).1,(h p hp).2.2.2.1,(h p hp).2.2.2.2⟩)
 show outD (b_qb [some (.arg (.lst (as.map fun p=>num [p.1] (p.2:Int)))),none,none])=_;unfold b_qb;have th:thaw [some (.arg (.lst (as.map fun p=>num [p.1] (p.2:Int)))),some (.val (.int 1)),none]=[some (.val (.lst (as.map fun p=>num [p.1] (p.2:Int)))),some (.val (.int ((1:Nat):Int))),none]:=rfl;have tho:∀δ,thawO (Out.nxt δ)=.nxt (δ.map (Option.map thaw2)):=fun _=>rfl;have tv:∀d,thaw2 (.val d)=.val d:=fun _=>rfl;simp only [ap_seq,ap_set,on_ok,st1,sq_nxt,ap_for,ap_bL,sl0,bnd_ok,vw_arg,seq_lst,onl_ok,th,e,tho,List.map_cons,List.map_nil,Option.map_some,tv,ap_ret,cc,out_ret]
section
variable {rs:List (List Int)} {F:OF} {of:List Int->F.C}
theorem mD' {a c:F.C}:-(a / c)=-a / c:=by grind
theorem mE' {c:F.C} (h:c≠0):(1:F.C)=c / c:=by grind
theorem dJ' (T:Tow rs F of) (h3:rs.length<=3) {n:Nat} {d:D} {x:F.C} (hd:Nm of rs.length n d x) (n0:0 < n):∃z c,F_qy [d]=.ok z/\0 < c/\c.natAbs < 2 ^ n/\Pl of rs.length n c [z,num (1 :: List.replicate (2 ^ rs.length - 1) 0) 1] [-x,1]:=by
 obtain ⟨z,ez,hz⟩:=n_qy T h3 hd;obtain ⟨w,b,rfl,nf,lw,bw,bb,ew⟩:=hd;have bp:=nf.pos;have bz:=aG' T (show b≠0 by omega);have p1:=Nat.two_pow_pos rs.length;have one:=mn' T (n:=n) (k:=1) n0 (by have:=Nat.pow_le_pow_right (show 2 > 0 by decide) n0; have e:2 ^ (0 + 1)=2:=rfl; rw [e] at this; exact this);rw [Ring.intCast_one] at one;refine ⟨z,b,ez,bp,bb,.cons hz ⟨w.map fun t=>-t,by rw [List.length_map]; exact lw,fJ' bw,by rw [ew,fM' T lw,mD']⟩ (.cons one ⟨b :: List.replicate (2 ^ rs.length - 1) 0,by simp; omega,fun t ht=>?_,?_⟩ .nil)⟩
 ·rcases List.mem_cons.mp ht with q | q
  ·rw [q]; exact bb
  ·rw [List.eq_of_mem_replicate q]; exact Nat.two_pow_pos n
 ·rw [cm' T]; exact mE' bz
theorem kh' {d z:D} {told:List D} {row:List Int} (h3:rs.length<=3) (ea:F_qy [d]=.ok z) (hw:∀(s0 s1:Option SV) (f:Nat),rs.length < f->whileD (bindT (two (bindF (consD (slotD 3) (fun _=>.ok [])) lenG) (fun _=>.ok (.int 0)) (cmpD fun i j=>decide (j < i))) boolD) (seqD (ifS (notT (bindT (bindF (consD (compD 1 [] (tgtN 0) (bindF (consD (two (bindF (consD (slotD 0) (fun _=>.ok [])) F_qD) (fun _=>.ok (.int 1)) ixD) (fun _=>.ok [])) F_qt) (bindL (slotD 2) seqItems)) (fun _=>.ok [])) allG) truthD)) (setD 2 (bindF (consD (slotD 3) (consD (slotD 2) (consD (compD 1 [] (tgtN 0) (bindF (consD (slotD 0) (fun _=>.ok [])) F_qC) (bindL (slotD 2) seqItems)) (fun _=>.ok [])))) F_qz)) Out.nxt) (seqD (setD 2 (compD 1 [] (tgtN 0) (two (bindF (consD (slotD 0) (fun _=>.ok [])) F_qD) (fun _=>.ok (.int 0)) ixD) (bindL (slotD 2) seqItems))) (setD 3 (sliceF (slotD 3) noPart (partF (negF (fun _=>.ok (.int 1)))))))) f [s0,s1,some (.val (.lst [z,num (1 :: List.replicate (2 ^ rs.length - 1) 0) 1])),some (.val (RT rs))]=.nxt [s0,s1,some (.val (.lst told)),some (.val (RT []))])
  (hb:F_qb [.lst told]=.ok (.lst (row.map .int))):F_qx [RT rs,d]=.ok (.lst (row.map .int)):=by
 have ln:=cU' rs;have lf:=kg' h3 1;have w:=hw (some (.arg (RT rs))) (some (.arg d)) 4 (by omega);show outD (b_qx [some (.arg (RT rs)),some (.arg d),none,none])=_;unfold b_qx;have fu:∀δ,fuel_qx_1 δ=4:=fun _=>rfl;simp only [ap_seq (setD _ _),ap_seq (whileF _ _ _),ap_set,ap_lst,ap_bF,ap_cons,ap_tup,bnd_ok,sl0,sl1,sl2,vw_arg,vw_val,ea,ln,lf,on_ok,st2,st3,sq_nxt,fE',fu,w,ap_ret,hb,out_ret,tup1,tup2,lst2]
theorem ii' {as:List (Int×Nat)} (hp:∀p∈as,0 < p.2/\Nat.gcd p.2 p.1.natAbs=1) (h:Mo (A:=ratOF) (as.map fun p=>((p.1:ratOF.C) / ((p.2:Int):ratOF.C)))):∃as0,as=as0 ++ [((1:Int),1)]:=by
 obtain ⟨P0,e⟩:=h;have ne:as≠[]:=fun z=>by rw [z] at e; simp at e
 have ed:=List.dropLast_concat_getLast ne;refine ⟨as.dropLast,?_⟩;rw [<- ed,List.map_append,List.map_cons,List.map_nil] at e;have el:=(List.append_inj' e (by simp)).2;obtain ⟨m0,cop⟩:=hp (as.getLast ne) (List.getLast_mem ne);rw [List.cons.injEq] at el;have e1:=el.1;have mz:(((as.getLast ne).2:Int):ratOF.C)≠0:=aG' Tow.nil (show ((as.getLast ne).2:Int)≠0 by omega);have e2:((as.getLast ne).1:ratOF.C)=(((as.getLast ne).2:Int):ratOF.C):=by
  generalize ((as.getLast ne).1:ratOF.C)=a at *;generalize (((as.getLast ne).2:Int):ratOF.C)=b at *
  grind
 have e3:=bL' e2;have e4:(as.getLast ne).2=1:=by
  rw [e3,Int.natAbs_natCast,Nat.gcd_self] at cop;exact cop
 have e5:as.getLast ne=((1:Int),1):=Prod.ext (by rw [e3,e4]; rfl) e4;rw [e5] at ed;exact ed.symm
theorem mF' {n L:Nat} {as:List (Int×Nat)} (Lb:L < 2 ^ n) (h:∀p∈as,p.1.natAbs < 2 ^ n):Bd (n + n) (as.map fun p=>p.1 * ((L / p.2:Nat):Int)):=fun t ht=>by
 obtain ⟨p,hp,rfl⟩:=List.mem_map.mp ht;rw [Int.natAbs_mul,Int.natAbs_natCast,Nat.pow_add];exact Nat.mul_lt_mul'' (h p hp) (Nat.lt_of_le_of_lt (Nat.div_le_self _ _) Lb)
theorem lm' (T:Tow rs F of) (h3:rs.length<=3) (hr:∀r∈rs,Bd 10 r) {n:Nat} (n0:0 < n) (hn:n<=148) {d e:D} {x y:F.C} (hd:Nm of rs.length n d x) (he:Nm of rs.length n e y) {α β:Int->Int} (hα:∀a b,α a=α b->a=b) (hβ:∀a b,β a=β b->a=b) {k:Int} (k0:k≠0) (rel:∀t:Int,((β t:Int):F.C) - y=(k:F.C) * (((α t:Int):F.C) - x)) :
  ∃row row2:List Int,F_qx [RT rs,d]=.ok (.lst (row.map .int))/\F_qx [RT rs,e]=.ok (.lst (row2.map .int))/\Prim row/\Prim row2/\row.length=row2.length/\(∃j,row.length=2 ^ j + 1/\j<=rs.length)/\Bd 4000 row/\(∃a b:Int,a≠0/\b≠0/\∀t:Int,a * evi (β t) row2=b * evi (α t) row)/\evI (B:=F) x row=0/\∃z told,F_qy [d]=.ok z/\told.length=row.length/\∀(s0 s1:Option SV) (f:Nat),rs.length < f->whileD (bindT (two (bindF (consD (slotD 3) (fun _=>.ok [])) lenG) (fun _=>.ok (.int 0)) (cmpD fun i j=>decide (j < i))) boolD) (seqD (ifS (notT (bindT (bindF (consD (compD 1 [] (tgtN 0) (bindF (consD (two (bindF (consD (slotD 0) (fun _=>.ok [])) F_qD) (fun _=>.ok (.int 1)) ixD) (fun _=>.ok [])) F_qt) (bindL (slotD 2) seqItems)) (fun _=>.ok [])) allG) truthD)) (setD 2 (bindF (consD (slotD 3) (consD (slotD 2) (consD (compD 1 [] (tgtN 0) (bindF (consD (slotD 0) (fun _=>.ok [])) F_qC) (bindL (slotD 2) seqItems)) (fun _=>.ok [])))) F_qz)) Out.nxt) (seqD (setD 2 (compD 1 [] (tgtN 0) (two (bindF (consD (slotD 0) (fun _=>.ok [])) F_qD) (fun _=>.ok (.int 0)) ixD) (bindL (slotD 2) seqItems))) (setD 3 (sliceF (slotD 3) noPart (partF (negF (fun _=>.ok (.int 1)))))))) f [s0,s1,some (.val (.lst [z,num (1 :: List.replicate (2 ^ rs.length - 1) 0) 1])),some (.val (RT rs))]=.nxt [s0,s1,some (.val (.lst told)),some (.val (RT []))]:=by
 obtain ⟨z1,c1,ez1,c10,c1b,pl1⟩:=dJ' T h3 hd n0;obtain ⟨z2,c2,ez2,c20,c2b,pl2⟩:=dJ' T h3 he n0;have p8:2 ^ rs.length<=8:=br' h3;have b2:(n + 102) * 2 ^ rs.length<=2000:=Nat.le_trans (Nat.mul_le_mul (show n + 102<=250 by omega) p8) (by decide);have rl:Rl (A:=F) α β k [-x,1] [-y,1]:=⟨rfl,fun t=>by
  have:=rel t;show -y + ((β t:Int):F.C) * (1 + ((β t:Int):F.C) * 0)=(k:F.C) * (-x + ((α t:Int):F.C) * (1 + ((α t:Int):F.C) * 0));generalize ((β t:Int):F.C)=bt at *;generalize ((α t:Int):F.C)=at_ at *;generalize (k:F.C)=kk at *
  grind⟩
 obtain ⟨ds,es,w1,w2,⟨P,Q,m,c,e',k',j',φ,cc0,ee0,cbb,ebb,m2,hP,hQ,hR,kk0,mP,mQ,lP,hφ,root⟩,j,lj,jj⟩:=eq_loop T x α β hα hβ (fun a=>a) n c1 c2 k 0 _ _ _ _ hR' h3 hr c10 c20 c1b c2b b2 pl1 pl2 rl k0 ⟨[-x],rfl⟩ ⟨[-y],rfl⟩ rfl (by omega) (by
  show -x + x * (1 + x * 0)=0
  grind)
 obtain ⟨as,ea,eP,ha⟩:=fT' hP cc0;obtain ⟨bs,eb,eQ,hb⟩:=fT' hQ ee0;have hj3:2 ^ j<=8:=Nat.le_trans (Nat.pow_le_pow_right (by decide) (show j<=rs.length by omega)) p8;have la:as.length<=1000:=by rw [ea,List.length_map] at lj; omega
 have lab:as.length=bs.length:=by
  have:=hR.len;rw [eP,eQ,List.length_map,List.length_map] at this; exact this
 rw [eP] at mP hR root;rw [eQ] at mQ hR;have C0:0 < c.natAbs:=by omega
 have E0:0 < e'.natAbs:=by omega
 obtain ⟨L,L0,Lb,dL,pr,fw⟩:=eG' C0 cbb (by omega) as ha (ii' (fun p hp=>⟨(ha p hp).1,(ha p hp).2.1⟩) mP) la;obtain ⟨M,M0,Mb,dM,pr2,fw2⟩:=eG' E0 ebb (by omega) bs hb (ii' (fun p hp=>⟨(hb p hp).1,(hb p hp).2.1⟩) mQ) (by omega);have evL:=fun (t:Int)=>fU' (B:=ratOF) hR' (t:ratOF.C) L as fun p hp=>⟨(ha p hp).1,dL p hp⟩;have evM:=fun (t:Int)=>fU' (B:=ratOF) hR' (t:ratOF.C) M bs fun p hp=>⟨(hb p hp).1,dM p hp⟩;refine ⟨_,_,kh' h3 ez1 w1 (by rw [ea]; exact fw),kh' h3 ez2 w2 (by rw [eb]; exact fw2),pr,pr2,by rw [List.length_map,List.length_map,lab],⟨j,by rw [List.length_map]; rw [ea,List.length_map] at lj; exact lj,by omega⟩,(mF' Lb fun p hp=>(ha p hp).2.2.2.1).mono (by omega),⟨(L:Int),k' * (M:Int),by omega,Int.mul_ne_zero kk0 (by omega),fun t=>?_⟩,?_,z1,ds,ez1,by rw [ea,List.length_map,List.length_map],w1⟩
 ·have h1:=evL (α t);have h2:=evM (β t);have h:=hR.rel t;rw [ih'] at h1 h2;refine bL' (A:=ratOF) ?_;rw [Ring.intCast_mul,Ring.intCast_mul,Ring.intCast_mul,<- h1,<- h2];have h':ev (B:=ratOF) (fun a=>a) ((β t:Int):ratOF.C) (bs.map fun p=>((p.1:ratOF.C) / ((p.2:Int):ratOF.C)))=(k':ratOF.C) * ev (B:=ratOF) (fun a=>a) ((α t:Int):ratOF.C) (as.map fun p=>((p.1:ratOF.C) / ((p.2:Int):ratOF.C))):=h;rw [h'];generalize ev (B:=ratOF) (fun a=>a) ((α t:Int):ratOF.C) (as.map fun p=>((p.1:ratOF.C) / ((p.2:Int):ratOF.C)))=u;generalize ((L:Int):ratOF.C)=l1;generalize ((M:Int):ratOF.C)=l2;generalize (k':ratOF.C)=l3
  grind
 ·rw [<- fU' hφ x L as fun p hp=>⟨(ha p hp).1,dL p hp⟩,root]
  grind
end
theorem ln' (fe:DS->Res D) (fs:DS->Res (Option Int)) (δ:DS):revF fe fs δ=(fe δ).bind fun d=>(fs δ).bind fun st=>revD d st:=Eq.trans rfl rfl
theorem mG' (ds:List D):revD (.lst ds) (some (-1))=.ok (.lst ds.reverse):=Eq.trans rfl rfl
theorem lo' {a b:Int} (h:a.natAbs < 2 ^ 64):mulD (.int a) (.int b)=.ok (.int (a * b)):=by
 unfold mulD;exact if_pos (.inr (.inl (intBits_le h)))
theorem jv' (r0:List Int) (b:Int) (h:r0.length<=1000):ixD (.lst ((r0 ++ [b]).map .int)) (.int (-1))=.ok (.int b):=by
 have e:atI ((r0 ++ [b]).map D.int) (-1)=some (.int b):=by
  unfold atI ixN;have hl:((r0 ++ [b]).map D.int).length=r0.length + 1:=by simp
  rw [hl,if_neg (by decide),if_pos (by omega)];have e2:((-1:Int) + ((r0.length + 1:Nat):Int)).toNat=r0.length:=by omega
  rw [e2];simp
 show (match atI ((r0 ++ [b]).map D.int) (-1) with | some d=>Res.ok d | none=>.stuck)=_
 rw [e]
theorem th_o (δ:DS):thawO (Out.nxt δ)=.nxt (δ.map (Option.map thaw2)):=Eq.trans rfl rfl
theorem nr' (ts:List Int):ts.foldl cm 0=((gN 0 ts:Nat):Int):=fb' ts 0
theorem w_plain {row:List Int} (hp:Prim row) {j k:Nat} (hj:row.length=2 ^ j + 1) (jk:j<=k) (k3:k<=3):F_qd [.lst (row.map .int),.int ((2 ^ k:Nat):Int)]=.ok (.bl true):=by
 obtain ⟨r0,b,er,b0⟩:=hp.last;have one:=hp.one;have le:2 ^ j<=2 ^ k:=Nat.pow_le_pow_right (by decide) jk;have j8:2 ^ k<=8:=Nat.le_trans (Nat.pow_le_pow_right (by decide) k3) (by decide);have ln:lenG [.lst (row.map .int)]=.ok (.int ((2 ^ j + 1:Nat):Int)):=by
  show Res.ok (D.int ((row.map D.int).length:Int))=_;rw [List.length_map,hj]
 have ni:notInD (.int ((2 ^ j + 1:Nat):Int)) (.tup [.int 2,.int 3,.int 5,.int 9])=.ok (.bl false):=by
  have:j=0\/j=1\/j=2\/j=3:=by omega
  rcases this with z | z | z | z <;> subst z <;> rfl
 have lt:¬(((2 ^ k:Nat):Int) + 1 < ((2 ^ j + 1:Nat):Int)):=by omega
 have il:isG Bk.is_list (.lst (row.map .int))=.ok (.bl true):=rfl;have si:ixD (.lst (row.map .int)) (.int (-1))=.ok (.int b):=by rw [er]; exact jv' r0 b (by rw [er] at hj; simp at hj; omega)
 have lp:∃z',forD (tgtN 3) (seqD (ifS (notT (bindT (bindF (consD (slotD 3) (fun _=>.ok [])) F_qp) truthD)) (retD (fun _=>.ok (.bl false))) Out.nxt) (setD 2 (bindF (consD (slotD 2) (consD (slotD 3) (fun _=>.ok []))) F_qk))) (row.map .int) [some (.val (.lst (row.map .int))),some (.val (.int ((2 ^ k:Nat):Int))),some (.val (.int 0)),none]=.nxt [some (.val (.lst (row.map .int))),some (.val (.int ((2 ^ k:Nat):Int))),some (.val (.int (row.foldl cm 0))),z'] :=
  cD' (i:=3) (f:=cm) (fun acc z=>[some (.val (.lst (row.map .int))),some (.val (.int ((2 ^ k:Nat):Int))),some (.val (.int acc)),z]) (fun acc z t=>by
   have w:=cz' acc t;have wh:=fi' t;push_cast [w,wh]) row 0 none
 obtain ⟨z',e⟩:=lp;rw [nr',one] at e;have th:thaw [some (.arg (.lst (row.map .int))),some (.arg (.int ((2 ^ k:Nat):Int))),some (.val (.int 0)),none]=[some (.val (.lst (row.map .int))),some (.val (.int ((2 ^ k:Nat):Int))),some (.val (.int 0)),none]:=rfl;have tv:∀d,thaw2 (.val d)=.val d:=fun _=>rfl;have e1:eqD (.int ((1:Nat):Int)) (.int 1)=.ok (.bl true):=rfl;show outD (b_qd [some (.arg (.lst (row.map .int))),some (.arg (.int ((2 ^ k:Nat):Int))),none,none])=_;unfold b_qd;push_cast [il,ln,ni,lt,th,e,th_o,List.map_cons,List.map_nil,Option.map_some,tv,e1,si,b0]
theorem tt2n:∀n,Fr_qa n=Bk.Fr_law_tops_times n
 | 0=>rfl
 | n + 1=>by
  show fnD 3 8 (b_qa (Fr_qa n))=fnD 3 8 (Bk.b_law_tops_times (Bk.Fr_law_tops_times n));rw [tt2n n]; rfl
theorem tt2:F_law_tops_times=F_qa:=(tt2n 4).symm
noncomputable def hor {B:OF} (X:B.C):B.C->List Int->B.C
 | h,[]=>h
 | h,a :: L=>hor X (h * X + (a:B.C)) L
theorem ij' {B:OF} (X:B.C) (a:Int):∀(L:List Int) (h:B.C),hor X h (L ++ [a])=hor X h L * X + (a:B.C)
 | [],h=>rfl
 | b :: L,h=>ij' X a L _
theorem ik' {B:OF} (X:B.C):∀row:List Int,hor X (0:B.C) row.reverse=evI X row
 | []=>rfl
 | a :: p=>by
  rw [List.reverse_cons,ij',ik' X p];show evI X p * X + (a:B.C)=(a:B.C) + X * evI X p
  grind
section
variable {rs:List (List Int)} {F:OF} {of:List Int->F.C}
theorem mH' {t s H X a b:F.C} (h:b * t=s * H):b * (t * (b * X) + a * s)=s * b * (H * X + a):=by grind
theorem eH' (T:Tow rs F of) (h3:rs.length<=3) (hr:∀r∈rs,Bd 10 r) {w:List Int} {b:Int} (lw:w.length=2 ^ rs.length) (bw:Bd 148 w) (bb:b.natAbs < 2 ^ 148) {X:F.C} (eX:of w=(b:F.C) * X) (rw_:D) :
  ∀(L:List Int) (i:Nat) (tot:List Int) (s:Int) (H:F.C) (z:Option SV),Bd 4000 L->L.length + i<=9->tot.length=2 ^ rs.length->Bd (5000 + 300 * i) tot->s.natAbs < 2 ^ (148 * i + 1)->(b:F.C) * of tot=(s:F.C) * H ->
   ∃tot' s' z',forD (tgtN 6) (seqD (setD 4 (bindF (consD (bindF (consD (slotD 0) (consD (slotD 4) (consD (two (slotD 1) (fun _=>.ok (.int 0)) ixD) (fun _=>.ok [])))) F_qa) (consD (two (tupF (consD (two (slotD 6) (slotD 5) mulE) (fun _=>.ok []))) (bindF (consD (lstRep (consD (fun _=>.ok (.int 0)) (fun _=>.ok [])) (two (slotD 3) (fun _=>.ok (.int 1)) subD)) (fun _=>.ok [])) tupleG) addD) (fun _=>.ok []))) F_qr)) (setD 5 (two (slotD 5) (two (slotD 1) (fun _=>.ok (.int 1)) ixD) mulE))) (L.map .int) [some (.val (RT rs)),some (.val (num w b)),some (.val rw_),some (.val (.int ((2 ^ rs.length:Nat):Int))),some (.val (TI tot)),some (.val (.int s)),z]=.nxt [some (.val (RT rs)),some (.val (num w b)),some (.val rw_),some (.val (.int ((2 ^ rs.length:Nat):Int))),some (.val (TI tot')),some (.val (.int s')),z']/\tot'.length=2 ^ rs.length/\(b:F.C) * of tot'=(s':F.C) * hor X H L
 | [],i,tot,s,H,z,_,_,lt,_,_,e=>⟨tot,s,z,rfl,lt,e⟩
 | a :: L,i,tot,s,H,z,bL,hl,lt,bt,bs,e=>by
  have e77:eT 10 rs.length<=77:=ms' h3;have e8:=br' h3;have p0:=Nat.two_pow_pos rs.length;have hl':L.length + 1 + i<=9:=hl;have ba:a.natAbs < 2 ^ 4000:=bL a (by simp);have tt:F_qa [RT rs,TI tot,TI w]=_:=(congrFun tt2.symm _).trans (w_lt rs 4 tot w (5000 + 300 * i) 148 (by omega) T.sc hr lt lw bt bw (by omega) (by omega));rw [cu'] at tt;have mu:mulD (.int a) (.int s)=_:=je' (Nat.lt_of_lt_of_le ba (bn' (by omega))) (Nat.lt_of_lt_of_le bs (bn' (by omega)));have mu2:mulD (.int s) (.int b)=_:=je' (Nat.lt_of_lt_of_le bs (bn' (by omega))) (Nat.lt_of_lt_of_le bb (bn' (by omega)));have rp:repLG [.int 0] (.int (((2 ^ rs.length:Nat):Int) - 1))=.ok (.lst ((List.replicate (2 ^ rs.length - 1) (0:Int)).map .int)):=by
   unfold repLG;dsimp only;have e1:(((2 ^ rs.length:Nat):Int) - 1).toNat=2 ^ rs.length - 1:=by omega
   rw [e1,if_pos ⟨by omega,by omega,by simp,by simp; omega⟩,dH',List.map_replicate]
  have ls:lstRep (consD (fun _=>.ok (.int 0)) (fun _=>.ok [])) (two (slotD 3) (fun _=>.ok (.int 1)) subD) [some (.val (RT rs)),some (.val (num w b)),some (.val rw_),some (.val (.int ((2 ^ rs.length:Nat):Int))),some (.val (TI tot)),some (.val (.int s)),some (.val (.int a))]=.ok (.lst ((List.replicate (2 ^ rs.length - 1) (0:Int)).map .int)):=by
   unfold lstRep noX;push_cast [rp]
  have ad:addD (.tup [.int (a * s)]) (.tup ((List.replicate (2 ^ rs.length - 1) (0:Int)).map .int))=.ok (TI ((a * s) :: List.replicate (2 ^ rs.length - 1) 0)):=fI' (a:=[a * s]) (b:=List.replicate (2 ^ rs.length - 1) 0) (by simp) (by simp; omega);have lp:=aP' rs tot w T.sc lt lw;have la:((a * s) :: List.replicate (2 ^ rs.length - 1) (0:Int)).length=2 ^ rs.length:=by simp; omega
  have wa:=fk' (pt rs tot w) ((a * s) :: List.replicate (2 ^ rs.length - 1) 0) (by omega);have ct:=ptB rs hr bt bw;have bas:(a * s).natAbs < 2 ^ (4000 + (148 * i + 1)):=by rw [Int.natAbs_mul,Nat.pow_add]; exact Nat.mul_lt_mul'' ba bs
  have b1:Bd (5000 + 300 * i + 225) (pt rs tot w):=ct.mono (by omega);have b2:Bd (5000 + 300 * i + 225) ((a * s) :: List.replicate (2 ^ rs.length - 1) 0):=fun t ht=>by
   rcases List.mem_cons.mp ht with q | q
   ·rw [q]; exact Nat.lt_of_lt_of_le bas (bn' (by omega))
   ·rw [List.eq_of_mem_replicate q]; exact Nat.two_pow_pos _
  have bsb:(s * b).natAbs < 2 ^ (148 * (i + 1) + 1):=by
   rw [Int.natAbs_mul,show 148 * (i + 1) + 1=(148 * i + 1) + 148 by omega,Nat.pow_add]; exact Nat.mul_lt_mul'' bs bb
  have ev:(b:F.C) * of (addL (pt rs tot w) ((a * s) :: List.replicate (2 ^ rs.length - 1) 0))=((s * b:Int):F.C) * (H * X + (a:F.C)):=by
   rw [eA' T lp la,hL' T lt lw,eX,cm' T,Ring.intCast_mul,Ring.intCast_mul];exact mH' e
  obtain ⟨tot',s',z',e1,l1,e2⟩:=eH' T h3 hr lw bw bb eX rw_ L (i + 1) _ (s * b) (H * X + (a:F.C)) (some (.val (.int a))) (fun t ht=>bL t (List.mem_cons_of_mem _ ht)) (by omega) (bi' lp la) ((b1.add b2).mono (by omega)) bsb ev;refine ⟨tot',s',z',?_,l1,e2⟩;rw [List.map_cons];refine Eq.trans (bB' (δ1:=[some (.val (RT rs)),some (.val (num w b)),some (.val rw_),some (.val (.int ((2 ^ rs.length:Nat):Int))),some (.val (TI tot)),some (.val (.int s)),some (.val (.int a))]) rfl ?_) e1;push_cast [tt,mu,ls,ad,wa,mu2]
theorem ns' {a b:F.C} (h:b≠0):a=b * (a / b):=by grind
theorem fl_z {b t:F.C} (h:b≠0) (e:b * t=0):t=0:=by grind
theorem mI' (T:Tow rs F of) (h3:rs.length<=3) (hr:∀r∈rs,Bd 10 r) {n:Nat} (hn:n<=148) {d:D} {x:F.C} (hd:Nm of rs.length n d x) {row:List Int} (br:Bd 4000 row) (lr:row.length<=9) (root:evI (B:=F) x row=0):F_qw [RT rs,d,.lst (row.map .int)]=.ok (.bl true):=by
 obtain ⟨w,b,rfl,nf,lw,bw,bb,ex⟩:=hd;have e8:=br' h3;have bp:=nf.pos;have bz:=aG' T (show b≠0 by omega);have eX:of w=(b:F.C) * x:=by rw [ex]; exact ns' bz
 have bb':=Nat.lt_of_lt_of_le bb (bn' hn);have sc:=jq' 0 w (by omega) (Nat.lt_of_lt_of_le (show Int.natAbs 0 < 2 ^ 1 by decide) (bn' (by decide))) (bw.mono (by omega));have zz:w.map ((0:Int) * ·)=List.replicate (2 ^ rs.length) 0:=by
  rw [<- lw,<- mh' (0:Int) w];exact List.map_congr_left fun t _=>Int.zero_mul t
 rw [zz] at sc;have ln:lenG [TI w]=.ok (.int ((2 ^ rs.length:Nat):Int)):=by
  show Res.ok (D.int ((w.map D.int).length:Int))=_;rw [List.length_map,lw]
 obtain ⟨tot,s,z',e1,l1,e2⟩:=eH' T h3 hr lw (bw.mono hn) bb' eX (.lst (row.map .int)) row.reverse 0 (List.replicate (2 ^ rs.length) 0) 1 0 none (fun t ht=>br t (by simpa using ht)) (by simp; exact lr) (by simp) (fun t ht=>by rw [List.eq_of_mem_replicate ht]; exact Nat.two_pow_pos _) (by decide) (by rw [cx' T]; grind);rw [ik',root] at e2;have t0:of tot=0:=fl_z bz (by rw [e2]; grind);have tz:tot=List.replicate (2 ^ rs.length) 0:=jR' T l1 (by simp) (by rw [t0,cx' T]);subst tz;have an:anyT [TI (List.replicate (2 ^ rs.length) 0)]=.ok (.bl false):=by
  show (match intsOf ((List.replicate (2 ^ rs.length) (0:Int)).map .int) with | some ns=>Res.ok (D.bl (ns.any (· != 0))) | none=>.stuck)=_
  rw [dj'];have:(List.replicate (2 ^ rs.length) (0:Int)).any (· != 0)=false:=by
   rw [List.any_eq_false];intro t ht;rw [List.eq_of_mem_replicate ht]; decide
  dsimp only;rw [this]
 have rv:revD (.lst (row.map .int)) (some (-1))=.ok (.lst (row.reverse.map .int)):=by rw [mG',List.map_reverse]
 have th:thaw [some (.arg (RT rs)),some (.arg (num w b)),some (.arg (.lst (row.map .int))),some (.val (.int ((2 ^ rs.length:Nat):Int))),some (.val (TI (List.replicate (2 ^ rs.length) 0))),some (.val (.int 1)),none]=[some (.val (RT rs)),some (.val (num w b)),some (.val (.lst (row.map .int))),some (.val (.int ((2 ^ rs.length:Nat):Int))),some (.val (TI (List.replicate (2 ^ rs.length) 0))),some (.val (.int 1)),none]:=rfl;have tv:∀d,thaw2 (.val d)=.val d:=fun _=>rfl;show outD (b_qw [some (.arg (RT rs)),some (.arg (num w b)),some (.arg (.lst (row.map .int))),none,none,none,none])=_;unfold b_qw;push_cast [ln',rv,sc,ln,th,e1,th_o,List.map_cons,List.map_nil,Option.map_some,tv,an]
end
noncomputable def Lg (rs:List (List Int)) {F:OF} (of:List Int->F.C) (P:List F.C) (L:Nat):Prop :=
 ∀(n:Nat) (c:Int) (ds:List D),0 < c->c.natAbs < 2 ^ n->(n + 102) * 2 ^ rs.length<=2000->Pl of rs.length n c ds P->∀(s0 s1:Option SV) (f:Nat),rs.length < f->∃ds',whileD (bindT (two (bindF (consD (slotD 3) (fun _=>.ok [])) lenG) (fun _=>.ok (.int 0)) (cmpD fun i j=>decide (j < i))) boolD) (seqD (ifS (notT (bindT (bindF (consD (compD 1 [] (tgtN 0) (bindF (consD (two (bindF (consD (slotD 0) (fun _=>.ok [])) F_qD) (fun _=>.ok (.int 1)) ixD) (fun _=>.ok [])) F_qt) (bindL (slotD 2) seqItems)) (fun _=>.ok [])) allG) truthD)) (setD 2 (bindF (consD (slotD 3) (consD (slotD 2) (consD (compD 1 [] (tgtN 0) (bindF (consD (slotD 0) (fun _=>.ok [])) F_qC) (bindL (slotD 2) seqItems)) (fun _=>.ok [])))) F_qz)) Out.nxt) (seqD (setD 2 (compD 1 [] (tgtN 0) (two (bindF (consD (slotD 0) (fun _=>.ok [])) F_qD) (fun _=>.ok (.int 0)) ixD) (bindL (slotD 2) seqItems))) (setD 3 (sliceF (slotD 3) noPart (partF (negF (fun _=>.ok (.int 1)))))))) f [s0,s1,some (.val (.lst ds)),some (.val (RT rs))]=.nxt [s0,s1,some (.val (.lst ds')),some (.val (RT []))]/\ds'.length=L
theorem il' (P:List ratOF.C):Lg [] onil P P.length:=fun n c ds c0 cb hb hP s0 s1 f hf=>by
 obtain ⟨g,rfl⟩:∃g,f=g + 1:=⟨f - 1,by have:0 < f:=hf; omega⟩;refine ⟨ds,aJ' ?_,hP.len⟩;have ln:=cU' [];push_cast [ln]
section
variable {rs:List (List Int)} {F:OF} {of:List Int->F.C} {r:List Int} {hr:0 < of r} {hn:∀z:F.C,z * z≠of r} {P:List (EF F (of r) hr hn).C} {L:Nat}
theorem im' (ds:List D) (s0 s1:Option SV) (r:List Int) (rs:List (List Int)):(bindT (two (bindF (consD (slotD 3) (fun _=>.ok [])) lenG) (fun _=>.ok (.int 0)) (cmpD fun i j=>decide (j < i))) boolD) [s0,s1,some (.val (.lst ds)),some (.val (RT (r :: rs)))]=.ok true:=by
 have ln:=cU' (r :: rs);have ps:(0:Int) < (((r :: rs).length:Nat):Int):=by rw [List.length_cons]; omega
 simp only [ap_seq,sq_nxt,sq_ret,ap_set,on_ok,ont_ok,onl_ok,ap_if,ap_two,ap_bF,ap_bT,ap_bL,ap_bR,ap_cons,ap_tup,ap_lst,ap_ret,ap_neg,neg_ok,ap_notT,ap_andT,ap_orT,ap_andV,ap_notV,ap_for,ap_slice,ap_part,ap_noPart,part_int,out_ret,cmp_ok,add_ok,sub_ok,bool_ok,truth_bl,abs_ok,len_tup,len_lst,tuple_lst,seq_tup,seq_lst,vw_val,vw_arg,eqI,neI,bnd_ok,mulE_i,sl0,st0,sl1,st1,sl2,st2,sl3,st3,sl4,st4,sl5,st5,sl6,st6,sl7,st7,sl8,st8,sl9,st9,sl10,st10,sl11,st11,tup1,tup2,lst2,tup3,tup4,lst4,lst5,lst6,ix_tup0,ix_lst0,ix_tup1,ix_lst1,ix_lst2,ix_lst3,↓reduceIte,decide_true,decide_false,Bool.not_true,Bool.not_false,Bool.false_eq_true,Int.reduceEq,Int.reduceNe,Int.reduceLT,Int.reduceLE,Nat.reduceAdd,cN0,cN1,cN2,List.length_cons,List.length_nil] at ps;push_cast [ln,ps]
theorem fo' (T:Tow rs F of) (hl:r.length=2 ^ rs.length) (h3:rs.length + 1<=3) (hrs:∀u∈r :: rs,Bd 10 u) (l1:1<=P.length) (l5:P.length<=5) (z:∀v∈P,Ext.b (r:=of r) v=0) (h:Lg rs of (pa P) L):Lg (r :: rs) (exOf of r hr hn) P L:=fun n c ds c0 cb hb hP s0 s1 f hf=>by
 have hf':rs.length + 1 < f:=hf;obtain ⟨g,rfl⟩:∃g,f=g + 1:=⟨f - 1,by omega⟩;have hb':(n + 102) * 2 ^ rs.length * 2<=2000:=by
  have:(n + 102) * 2 ^ (rs.length + 1)<=2000:=hb
  rwa [Nat.pow_succ,<- Nat.mul_assoc] at this
 have n1:n + 102<=(n + 102) * 2 ^ rs.length:=Nat.le_mul_of_pos_right _ (Nat.two_pow_pos rs.length);obtain ⟨d1,w1,q1⟩:=bw' T hl h3 hrs c0 cb (by omega) hP l1 l5 s0 s1;rcases q1 with ⟨_,p⟩ | ⟨y,_⟩
 ·obtain ⟨ds',e,el⟩:=h n c d1 c0 cb (by omega) p s0 s1 g (by omega);exact ⟨ds',(aW' (im' ds s0 s1 r rs) w1).trans e,el⟩
 ·exact (y z).elim
theorem in' (T:Tow rs F of) (hl:r.length=2 ^ rs.length) (h3:rs.length + 1<=3) (hrs:∀u∈r :: rs,Bd 10 u) (l1:1<=P.length) (l5:P.length<=5) (z:¬ ∀v∈P,Ext.b (r:=of r) v=0) (h:Lg rs of (pa (wn P)) L):Lg (r :: rs) (exOf of r hr hn) P L:=fun n c ds c0 cb hb hP s0 s1 f hf=>by
 have hf':rs.length + 1 < f:=hf;obtain ⟨g,rfl⟩:∃g,f=g + 1:=⟨f - 1,by omega⟩;have hb':(n + 102) * 2 ^ rs.length * 2<=2000:=by
  have:(n + 102) * 2 ^ (rs.length + 1)<=2000:=hb
  rwa [Nat.pow_succ,<- Nat.mul_assoc] at this
 have n1:n + 102<=(n + 102) * 2 ^ rs.length:=Nat.le_mul_of_pos_right _ (Nat.two_pow_pos rs.length);obtain ⟨d1,w1,q1⟩:=bw' T hl h3 hrs c0 cb (by omega) hP l1 l5 s0 s1;rcases q1 with ⟨y,_⟩ | ⟨_,p⟩
 ·exact (z y).elim
 ·have bb:(2 * n + 102 + 102) * 2 ^ rs.length<=2000:=by
   have:(2 * n + 102 + 102) * 2 ^ rs.length=(n + 102) * 2 ^ rs.length * 2:=by
    rw [show 2 * n + 102 + 102=2 * (n + 102) by omega,Nat.mul_assoc,Nat.mul_comm]
   omega
  obtain ⟨ds',e,el⟩:=h (2 * n + 102) (c * c) d1 (Int.mul_pos c0 c0) (ll' cb) bb p s0 s1 g (by omega);exact ⟨ds',(aW' (im' ds s0 s1 r rs) w1).trans e,el⟩
end
theorem lp' {rs:List (List Int)} {F:OF} {of:List Int->F.C} (T:Tow rs F of) (h3:rs.length<=3) (hr:∀r∈rs,Bd 10 r) {d:D} {x:F.C} (hd:Nm of rs.length 31 d x) {L:Nat} (hL:Lg rs of [-x,1] L) :
  ∃row:List Int,F_qx [RT rs,d]=.ok (.lst (row.map .int))/\row.length=L/\F_qd [.lst (row.map .int),.int ((2 ^ rs.length:Nat):Int)]=.ok (.bl true)/\F_qw [RT rs,d,.lst (row.map .int)]=.ok (.bl true):=by
 obtain ⟨row,_,e1,_,p1,_,_,⟨j,lj,jj⟩,b1,_,root,z,told,ez,lt,w⟩:=lm' T h3 hr (by decide) (by decide) hd hd id' id' (k:=1) (by decide) (fun t=>by rw [Ring.intCast_one]; grind);have p8:2 ^ rs.length<=8:=br' h3;have hj3:2 ^ j<=8:=Nat.le_trans (Nat.pow_le_pow_right (by decide) jj) p8;obtain ⟨z',c,ez',c0,cb,pl⟩:=dJ' T h3 hd (by decide);have zz:z'=z:=by rw [ez] at ez'; injection ez' with q; exact q.symm
 subst zz;obtain ⟨ds',e,el⟩:=hL 31 c _ c0 cb (Nat.le_trans (Nat.mul_le_mul (show 31 + 102<=250 by omega) p8) (by decide)) pl none none (rs.length + 1) (by omega);have w':=w none none (rs.length + 1) (by omega);rw [w'] at e;have td:told=ds':=by injection e with e; injection e with _ e; injection e with _ e; injection e with e; injection e with e; injection e with e; injection e with e
 refine ⟨row,e1,by rw [<- lt,td,el],w_plain p1 lj jj h3,mI' T h3 hr (by decide) hd b1 (by omega) root⟩
section
variable {F:OF} {r:F.C} {hr:0 < r} {hn:∀z:F.C,z * z≠r}
theorem fb_1 (x y r:F.C):0 + (-x * -x + -y * -(-y) * r)=x * x - y * y * r:=by grind
theorem fb_2 (x y r:F.C):0 + (-x * 1 + -y * -0 * r) + (1 * -x + 0 * -(-y) * r)=-(2 * x):=by grind
theorem fb_3 (r:F.C):(0:F.C) + (1 * 1 + 0 * -0 * r)=1:=by grind
theorem wn2 (x:(EF F r hr hn).C):pa (wn [-x,1])=[exa x * exa x - exb x * exb x * r,-(2 * exa x),1]:=by
 show [0 + (-(exa x) * -(exa x) + -(exb x) * -(-(exb x)) * r),0 + (-(exa x) * 1 + -(exb x) * -0 * r) + (1 * -(exa x) + 0 * -(-(exb x)) * r),0 + (1 * 1 + 0 * -0 * r)]=_;rw [fb_1,fb_2,fb_3]
theorem fb_4 (q s r:F.C):0 + (q * q + s * -s * r)=q * q - s * s * r:=by grind
theorem fb_5 (q s p t r:F.C):0 + (q * p + s * -t * r) + (p * q + t * -s * r)=2 * (q * p - s * t * r):=by grind
theorem fb_6 (q s p t r:F.C):0 + (q * 1 + s * -0 * r) + (p * p + t * -t * r) + (1 * q + 0 * -s * r)=2 * q + p * p - t * t * r:=by grind
theorem fb_7 (p t r:F.C):0 + (p * 1 + t * -0 * r) + (1 * p + 0 * -t * r)=2 * p:=by grind
theorem wn3 (q p:(EF F r hr hn).C):pa (wn [q,p,1])=[exa q * exa q - exb q * exb q * r,2 * (exa q * exa p - exb q * exb p * r),2 * exa q + exa p * exa p - exb p * exb p * r,2 * exa p,1]:=by
 show [0 + (exa q * exa q + exb q * -exb q * r),0 + (exa q * exa p + exb q * -exb p * r) + (exa p * exa q + exb p * -exb q * r),0 + (exa q * 1 + exb q * -0 * r) + (exa p * exa p + exb p * -exb p * r) + (1 * exa q + 0 * -exb q * r),0 + (exa p * 1 + exb p * -0 * r) + (1 * exa p + 0 * -exb p * r),0 + (1 * 1 + 0 * -0 * r)]=_;rw [fb_4,fb_5,fb_6,fb_7,fb_3]
theorem hm_cj:Hm (A:=EF F r hr hn) (B:=EF F r hr hn) cj:=⟨kc',fP',fun n=>Ext.eqs (r:=r) rfl (show -(0:F.C)=0 by grind)⟩
theorem fb_8 {b:F.C}:-b=b↔b=0:=by
 constructor
 ·intro h; exact bs' (by grind)
 ·intro h; rw [h]; grind
theorem fV' (x:(EF F r hr hn).C):cj x=x↔exb x=0:=by
 constructor
 ·intro h;have:=congrArg (Ext.b (r:=r)) h;exact fb_8.mp this
 ·intro h;exact Ext.eqs (r:=r) rfl (fb_8.mpr h)
theorem mJ' (x:(EF F r hr hn).C):cj x=-x↔exa x=0:=by
 constructor
 ·intro h;have h1:Ext.a (r:=r) x=-Ext.a (r:=r) x:=congrArg (Ext.a (r:=r)) h;exact fb_8.mp h1.symm
 ·intro h;exact Ext.eqs (r:=r) (fb_8.mpr h).symm rfl
theorem io' (P:List (EF F r hr hn).C):(∀v∈P,Ext.b (r:=r) v=0)↔P.map cj=P:=by
 induction P with
 | nil=>simp
 | cons v P ih =>
  rw [List.map_cons,List.cons.injEq,<- ih]
  constructor
  ·intro h; exact ⟨(fV' v).mpr (h v (by simp)),fun u hu=>h u (List.mem_cons_of_mem _ hu)⟩
  ·intro h u hu;rcases List.mem_cons.mp hu with z | z
   ·rw [z]; exact (fV' v).mp h.1
   ·exact h.2 u z
end
section
variable {rs:List (List Int)} {F:OF} {of:List Int->F.C} {r:List Int} {hr:0 < of r} {hn:∀z:F.C,z * z≠of r} {L:Nat}
theorem fb_n {b:F.C}:-b=0↔b=0:=by constructor <;> intro h <;> grind
theorem lv0 (T:Tow rs F of) (hl:r.length=2 ^ rs.length) (h3:rs.length + 1<=3) (hrs:∀u∈r :: rs,Bd 10 u) {x:(EF F (of r) hr hn).C} (z:exb x=0) (h:Lg rs of [-(exa x),1] L):Lg (r :: rs) (exOf of r hr hn) [-x,1] L :=
 fo' T hl h3 hrs (by simp) (by simp) (fun v hv=>by
  simp only [List.mem_cons,List.not_mem_nil,or_false] at hv;rcases hv with q | q
  ·rw [q]; exact fb_n.mpr z
  ·rw [q]; rfl) h
theorem lv1 (T:Tow rs F of) (hl:r.length=2 ^ rs.length) (h3:rs.length + 1<=3) (hrs:∀u∈r :: rs,Bd 10 u) {x:(EF F (of r) hr hn).C} (z:exb x≠0) (h:Lg rs of [exa x * exa x - exb x * exb x * of r,-(2 * exa x),1] L):Lg (r :: rs) (exOf of r hr hn) [-x,1] L :=
 in' T hl h3 hrs (by simp) (by simp) (fun v=>z (fb_n.mp (v (-x) (by simp)))) (by rw [wn2]; exact h)
theorem lq0 (T:Tow rs F of) (hl:r.length=2 ^ rs.length) (h3:rs.length + 1<=3) (hrs:∀u∈r :: rs,Bd 10 u) {q p:(EF F (of r) hr hn).C} (z1:exb q=0) (z2:exb p=0) (h:Lg rs of [exa q,exa p,1] L):Lg (r :: rs) (exOf of r hr hn) [q,p,1] L :=
 fo' T hl h3 hrs (by simp) (by simp) (fun v hv=>by
  simp only [List.mem_cons,List.not_mem_nil,or_false] at hv;rcases hv with w | w | w
  ·rw [w]; exact z1
  ·rw [w]; exact z2
  ·rw [w]; rfl) h
theorem lq1 (T:Tow rs F of) (hl:r.length=2 ^ rs.length) (h3:rs.length + 1<=3) (hrs:∀u∈r :: rs,Bd 10 u) {q p:(EF F (of r) hr hn).C} (z:¬(exb q=0/\exb p=0)) (h:Lg rs of (pa (wn [q,p,1])) L):Lg (r :: rs) (exOf of r hr hn) [q,p,1] L :=
 in' T hl h3 hrs (by simp) (by simp) (fun v=>z ⟨v q (by simp),v p (by simp)⟩) h
end
noncomputable def dg1 (b1:Bool):Nat:=if b1 then 1 else 2
noncomputable def d20 (b1 b2 b3:Bool):Nat:=if b2 && b3 then dg1 b1 else if b1 && (b2 || b3) then 2 else 4
noncomputable def d21 (b1 b2 b3:Bool):Nat:=if b2 && b3 then dg1 b1 else 4
noncomputable def d30 (b1 b2 b3 b4 b5 b6 b7:Bool):Nat:=if b4 && b5 && (b6 && b7) then d20 b1 b2 b3 else if (b2 && b3) && ((b4 && b5) || (b6 && b7)) then (if b1 && ((b4 || b5) && (b6 || b7)) then 2 else 4) else if b1 && ((b2 || b3) && ((b4 || b5) && (b6 || b7))) && ((b2 && b3) || (b4 && b5) || (b6 && b7) || !(xor b2 (xor b4 b6))) then 4 else 8
noncomputable def d31 (b1 b2 b3 b4 b5 b6 b7:Bool):Nat:=if b4 && b5 && (b6 && b7) then d21 b1 b2 b3 else 8
noncomputable def d32 (b1 b2 b3 b4 b5 b6 b7:Bool):Nat:=if b4 && b5 && (b6 && b7) then d20 b1 b2 b3 else if b1 && (b3 && ((b5 && b7) || (b4 && b6))) then 4 else 8
section
variable {R1:List Int} {h1:0 < onil R1} {n1:∀z:ratOF.C,z * z≠onil R1}
structure Fg (z:(EF ratOF (onil R1) h1 n1).C) (a b:Bool):Prop where
 fa:a=true↔exa z=0
 fb:b=true↔exb z=0
variable {z:(EF ratOF (onil R1) h1 n1).C} {a b:Bool}
theorem Fg.zero (h:Fg z a b):(a && b)=true↔z=0:=by
 rw [Bool.and_eq_true,h.fa,h.fb]
 constructor
 ·intro q; exact Ext.eqs (r:=onil R1) q.1 q.2
 ·intro q; rw [q]; exact ⟨rfl,rfl⟩
theorem Fg.fix (h:Fg z a b):b=true↔cj z=z:=h.fb.trans (fV' z).symm
theorem Fg.neg (h:Fg z a b):a=true↔cj z=-z:=h.fa.trans (mJ' z).symm
theorem Fg.sq (h:Fg z a b):(a || b)=true↔cj z * cj z=z * z:=by
 rw [Bool.or_eq_true,h.neg,h.fix]
 constructor
 ·intro q;rcases q with q | q <;> rw [q]
  grind
 ·intro q;rcases hV' q with w | w
  ·exact .inr w
  ·exact .inl w
theorem lgF (hl:R1.length=1) (hb:Bd 10 R1) {P:List (EF ratOF (onil R1) h1 n1).C} (p1:1<=P.length) (p5:P.length<=5) (h:P.map cj=P):Lg [R1] (exOf onil R1 h1 n1) P P.length:=by
 have:=il' (pa P);rw [cA'] at this;exact fo' Tow.nil hl (by decide) (fun u hu=>by rw [List.mem_singleton.mp hu]; exact hb) p1 p5 ((io' P).mpr h) this
theorem lgN (hl:R1.length=1) (hb:Bd 10 R1) {P:List (EF ratOF (onil R1) h1 n1).C} (p1:1<=P.length) (p5:P.length<=5) (h:¬P.map cj=P):Lg [R1] (exOf onil R1 h1 n1) P (P.length + P.length - 1):=by
 have:=il' (pa (wn P));rw [cA',eE'] at this;exact in' Tow.nil hl (by decide) (fun u hu=>by rw [List.mem_singleton.mp hu]; exact hb) p1 p5 (fun q=>h ((io' P).mp q)) this
theorem deg1 (hl:R1.length=1) (hb:Bd 10 R1) (h:Fg z a b):Lg [R1] (exOf onil R1 h1 n1) [-z,1] (dg1 b + 1):=by
 have hh:=hm_cj (r:=onil R1) (hr:=h1) (hn:=n1);have ee:[-z,1].map cj=[-z,1]↔b=true:=by
  rw [h.fix];simp only [List.map_cons,List.map_nil,List.cons.injEq,and_true,hh.neg,hh.one]
  constructor <;> intro q <;> grind
 cases b with
 | true=>exact lgF hl hb (by simp) (by simp) (ee.mpr rfl)
 | false=>exact lgN hl hb (by simp) (by simp) (fun q=>Bool.noConfusion (ee.mp q))
end
section
variable {R1 R2:List Int} {h1:0 < onil R1} {n1:∀z:ratOF.C,z * z≠onil R1} {h2:0 < exOf onil R1 h1 n1 R2} {n2:∀z:(EF ratOF (onil R1) h1 n1).C,z * z≠exOf onil R1 h1 n1 R2}
variable {x:(EF (EF ratOF (onil R1) h1 n1) (exOf onil R1 h1 n1 R2) h2 n2).C} {b0 b1 b2 b3:Bool}
theorem fc_1 {F:OF} {u v r u' v' r':F.C}:[u' * u' - v' * v' * r',-(2 * u'),1]=[u * u - v * v * r,-(2 * u),(1:F.C)]↔u'=u/\v' * v' * r'=v * v * r:=by
 simp only [List.cons.injEq,and_true]
 constructor
 ·rintro ⟨p,q⟩
  have e:u'=u:=by
   have:=bs' (F:=F) (x:=u' - u) (by grind)
   grind
  subst e;exact ⟨rfl,by grind⟩
 ·rintro ⟨p,q⟩
  rw [p,q]; exact ⟨rfl,rfl⟩
theorem bd2 (b1:Bd 10 R1) (b2:Bd 10 R2):∀u∈[R2,R1],Bd 10 u:=fun u hu=>by
 rcases List.mem_cons.mp hu with q | q
 ·rw [q]; exact b2
 ·rw [List.mem_singleton.mp q]; exact b1
theorem deg2 (l1:R1.length=1) (l2:R2.length=2) (c1:Bd 10 R1) (c2:Bd 10 R2) (hu:Fg (exa x) b0 b1) (hv:Fg (exb x) b2 b3) {B:Bool} (hB:(b2 && b3)=false->(B=true↔cj (exa x)=exa x/\cj (exb x) * cj (exb x) * cj (exOf onil R1 h1 n1 R2)=exb x * exb x * exOf onil R1 h1 n1 R2)) :
  Lg [R2,R1] (exOf (exOf onil R1 h1 n1) R2 h2 n2) [-x,1] ((if b2 && b3 then dg1 b1 else if B then 2 else 4) + 1):=by
 have T1:=Tow.cons Tow.nil R1 l1 h1 n1;have hh:=hm_cj (r:=onil R1) (hr:=h1) (hn:=n1)
 cases hz:b2 && b3 with
 | true =>
  exact lv0 T1 l2 (by simp) (bd2 c1 c2) (hv.zero.mp hz) (deg1 l1 c1 hu)
 | false =>
  have nz:exb x≠0:=fun q=>by have:=hv.zero.mpr q; rw [hz] at this; exact Bool.noConfusion this
  have ee:[exa x * exa x - exb x * exb x * exOf onil R1 h1 n1 R2,-(2 * exa x),1].map cj=[exa x * exa x - exb x * exb x * exOf onil R1 h1 n1 R2,-(2 * exa x),1]↔B=true:=by
   rw [hB hz,<- fc_1];simp only [List.map_cons,List.map_nil,hh.sub,hh.mul,hh.neg,hh.two,hh.one]
  cases B with
  | true=>exact lv1 T1 l2 (by simp) (bd2 c1 c2) nz (lgF l1 c1 (by simp) (by simp) (ee.mpr rfl))
  | false=>exact lv1 T1 l2 (by simp) (bd2 c1 c2) nz (lgN l1 c1 (by simp) (by simp) (fun q=>Bool.noConfusion (ee.mp q)))
theorem jw' (l1:R1.length=1) (l2:R2.length=2) (c1:Bd 10 R1) (c2:Bd 10 R2) (hf:cj (exOf onil R1 h1 n1 R2)=exOf onil R1 h1 n1 R2) (hu:Fg (exa x) b0 b1) (hv:Fg (exb x) b2 b3):Lg [R2,R1] (exOf (exOf onil R1 h1 n1) R2 h2 n2) [-x,1] (d20 b1 b2 b3 + 1) :=
 deg2 l1 l2 c1 c2 hu hv (B:=b1 && (b2 || b3)) fun _=>by
  have r0:exOf onil R1 h1 n1 R2≠0:=by
   intro q; rw [q] at h2; exact Std.lt_irrefl h2
  rw [Bool.and_eq_true,hu.fix,hv.sq,hf]
  constructor
  ·rintro ⟨p,q⟩; exact ⟨p,by rw [q]⟩
  ·rintro ⟨p,q⟩; exact ⟨p,bm' r0 q⟩
theorem mK' (hd:Ext.nrm (r:=onil R1) (exOf onil R1 h1 n1 R2) < 0) (z:(EF ratOF (onil R1) h1 n1).C) (e:cj z * cj z * cj (exOf onil R1 h1 n1 R2)=z * z * exOf onil R1 h1 n1 R2):z=0:=by
 rw [<- fP',<- fP',fV'] at e;generalize exOf onil R1 h1 n1 R2=r at hd e;have e':(Ext.a (r:=onil R1) z * Ext.a z + Ext.b z * Ext.b z * onil R1) * Ext.b (r:=onil R1) r + (Ext.a (r:=onil R1) z * Ext.b z + Ext.b z * Ext.a z) * Ext.a (r:=onil R1) r=0:=e;obtain ⟨p,q⟩:=hW' (F:=ratOF) hd e';exact Ext.eqs (r:=onil R1) p q
theorem mL' (l1:R1.length=1) (l2:R2.length=2) (c1:Bd 10 R1) (c2:Bd 10 R2) (hd:Ext.nrm (r:=onil R1) (exOf onil R1 h1 n1 R2) < 0) (hu:Fg (exa x) b0 b1) (hv:Fg (exb x) b2 b3):Lg [R2,R1] (exOf (exOf onil R1 h1 n1) R2 h2 n2) [-x,1] (d21 b1 b2 b3 + 1) :=
 deg2 l1 l2 c1 c2 hu hv (B:=false) fun hz=>by
  constructor
  ·intro q; exact Bool.noConfusion q
  ·rintro ⟨_,q⟩
   have:=hv.zero.mpr (mK' hd _ q);rw [hz] at this; exact this
end
section
variable {R1 R2 R3:List Int} {h1:0 < onil R1} {n1:∀z:ratOF.C,z * z≠onil R1} {h2:0 < exOf onil R1 h1 n1 R2} {n2:∀z:(EF ratOF (onil R1) h1 n1).C,z * z≠exOf onil R1 h1 n1 R2} {h3:0 < exOf (exOf onil R1 h1 n1) R2 h2 n2 R3} {n3:∀z:(EF (EF ratOF (onil R1) h1 n1) (exOf onil R1 h1 n1 R2) h2 n2).C,z * z≠exOf (exOf onil R1 h1 n1) R2 h2 n2 R3}
variable {x:(EF (EF (EF ratOF (onil R1) h1 n1) (exOf onil R1 h1 n1 R2) h2 n2) (exOf (exOf onil R1 h1 n1) R2 h2 n2 R3) h3 n3).C} {b0 b1 b2 b3 b4 b5 b6 b7:Bool}
section
variable {F:OF} {r:F.C} {hr:0 < r} {hn:∀z:F.C,z * z≠r}
theorem fd_1 (a b r:F.C):-(2 * a + 0 * b * r)=-(2 * a):=by grind
theorem fd_2 (a b:F.C):-(2 * b + 0 * a)=-(2 * b):=by grind
theorem fd_3 (a b:F.C):a * b + b * a=2 * (a * b):=by grind
theorem q_a (u v w:(EF F r hr hn).C):exa (u * u - v * v * w)=exa u * exa u + exb u * exb u * r - wA (exa v) (exb v) (exa w) (exb w) r:=rfl
theorem q_b (u v w:(EF F r hr hn).C):exb (u * u - v * v * w)=2 * (exa u * exb u) - wB (exa v) (exb v) (exa w) (exb w) r:=by
 rw [<- fd_3]; rfl
theorem p_a (u:(EF F r hr hn).C):exa (-(2 * u))=-(2 * exa u):=fd_1 (exa u) (exb u) r
theorem p_b (u:(EF F r hr hn).C):exb (-(2 * u))=-(2 * exb u):=fd_2 (exa u) (exb u)
theorem wn4 (u v w:(EF F r hr hn).C):pa (wn [u * u - v * v * w,-(2 * u),1])=cf (exa u) (exb u) (wA (exa v) (exb v) (exa w) (exb w) r) (wB (exa v) (exb v) (exa w) (exb w) r) r:=by
 rw [wn3,q_a,q_b,p_a,p_b]; rfl
theorem dK' (v:(EF F r hr hn).C):v=0↔exa v=0/\exb v=0:=by
 constructor
 ·intro q; rw [q]; exact ⟨rfl,rfl⟩
 ·intro q; exact Ext.eqs (r:=r) q.1 q.2
theorem pq_z (u v w:(EF F r hr hn).C):(exb (u * u - v * v * w)=0/\exb (-(2 * u))=0)↔exb u=0/\wB (exa v) (exb v) (exa w) (exb w) r=0:=by
 rw [q_b,p_b];generalize exa u=a;generalize exb u=b;generalize wB (exa v) (exb v) (exa w) (exb w) r=c
 constructor
 ·rintro ⟨p,q⟩
  have z:b=0:=bs' (by grind);subst z;exact ⟨rfl,by grind⟩
 ·rintro ⟨p,q⟩
  subst p; subst q;exact ⟨by grind,by grind⟩
end
theorem bd3 (b1:Bd 10 R1) (b2:Bd 10 R2) (b3:Bd 10 R3):∀u∈[R3,R2,R1],Bd 10 u:=fun u hu=>by
 rcases List.mem_cons.mp hu with q | q
 ·rw [q]; exact b3
 ·exact bd2 b1 b2 u q
theorem Fg.zero2 {v:(EF (EF ratOF (onil R1) h1 n1) (exOf onil R1 h1 n1 R2) h2 n2).C} (h4:Fg (exa v) b4 b5) (h6:Fg (exb v) b6 b7):(b4 && b5 && (b6 && b7))=true↔v=0:=by
 rw [Bool.and_eq_true,h4.zero,h6.zero]; exact (dK' v).symm
theorem bW' {F:OF} (a b c d e:F.C):(cf a b c d e).length=5:=rfl
theorem deg3 (l1:R1.length=1) (l2:R2.length=2) (l3:R3.length=4) (c1:Bd 10 R1) (c2:Bd 10 R2) (c3:Bd 10 R3) {L:Nat} (h4:Fg (exa (exb x)) b4 b5) (h6:Fg (exb (exb x)) b6 b7) (hz:(b4 && b5 && (b6 && b7))=true->Lg [R2,R1] (exOf (exOf onil R1 h1 n1) R2 h2 n2) [-(exa x),1] L)
  (hq:(b4 && b5 && (b6 && b7))=false->exb (exa x)=0->wB (exa (exb x)) (exb (exb x)) (exa (exOf (exOf onil R1 h1 n1) R2 h2 n2 R3)) (exb (exOf (exOf onil R1 h1 n1) R2 h2 n2 R3)) (exOf onil R1 h1 n1 R2)=0->Lg [R1] (exOf onil R1 h1 n1) [exa (exa x) * exa (exa x) + exb (exa x) * exb (exa x) * exOf onil R1 h1 n1 R2 - wA (exa (exb x)) (exb (exb x)) (exa (exOf (exOf onil R1 h1 n1) R2 h2 n2 R3)) (exb (exOf (exOf onil R1 h1 n1) R2 h2 n2 R3)) (exOf onil R1 h1 n1 R2),-(2 * exa (exa x)),1] L)
  (hd:(b4 && b5 && (b6 && b7))=false->¬(exb (exa x)=0/\wB (exa (exb x)) (exb (exb x)) (exa (exOf (exOf onil R1 h1 n1) R2 h2 n2 R3)) (exb (exOf (exOf onil R1 h1 n1) R2 h2 n2 R3)) (exOf onil R1 h1 n1 R2)=0)->Lg [R1] (exOf onil R1 h1 n1) (cf (exa (exa x)) (exb (exa x)) (wA (exa (exb x)) (exb (exb x)) (exa (exOf (exOf onil R1 h1 n1) R2 h2 n2 R3)) (exb (exOf (exOf onil R1 h1 n1) R2 h2 n2 R3)) (exOf onil R1 h1 n1 R2)) (wB (exa (exb x)) (exb (exb x)) (exa (exOf (exOf onil R1 h1 n1) R2 h2 n2 R3)) (exb (exOf (exOf onil R1 h1 n1) R2 h2 n2 R3)) (exOf onil R1 h1 n1 R2)) (exOf onil R1 h1 n1 R2)) L) :
  Lg [R3,R2,R1] (exOf (exOf (exOf onil R1 h1 n1) R2 h2 n2) R3 h3 n3) [-x,1] L:=by
 have T1:=Tow.cons Tow.nil R1 l1 h1 n1;have T2:=Tow.cons T1 R2 l2 h2 n2
 cases hv:(b4 && b5 && (b6 && b7)) with
 | true=>exact lv0 T2 l3 (by simp) (bd3 c1 c2 c3) ((Fg.zero2 h4 h6).mp hv) (hz hv)
 | false =>
  have nz:exb x≠0:=fun q=>by have:=(Fg.zero2 h4 h6).mpr q; rw [hv] at this; exact Bool.noConfusion this
  refine lv1 T2 l3 (by simp) (bd3 c1 c2 c3) nz ?_
  by_cases w:exb (exa x)=0/\wB (exa (exb x)) (exb (exb x)) (exa (exOf (exOf onil R1 h1 n1) R2 h2 n2 R3)) (exb (exOf (exOf onil R1 h1 n1) R2 h2 n2 R3)) (exOf onil R1 h1 n1 R2)=0
  ·have pz:=(pq_z (exa x) (exb x) (exOf (exOf onil R1 h1 n1) R2 h2 n2 R3)).mpr w;refine lq0 T1 l2 (by simp) (bd2 c1 c2) pz.1 pz.2 ?_;rw [q_a,p_a];exact hq hv w.1 w.2
  ·refine lq1 T1 l2 (by simp) (bd2 c1 c2) (fun z=>w ((pq_z (exa x) (exb x) (exOf (exOf onil R1 h1 n1) R2 h2 n2 R3)).mp z)) ?_;rw [wn4];exact hd hv w
end
section
variable {R1 R2 R3:List Int} {h1:0 < onil R1} {n1:∀z:ratOF.C,z * z≠onil R1} {h2:0 < exOf onil R1 h1 n1 R2} {n2:∀z:(EF ratOF (onil R1) h1 n1).C,z * z≠exOf onil R1 h1 n1 R2} {h3:0 < exOf (exOf onil R1 h1 n1) R2 h2 n2 R3} {n3:∀z:(EF (EF ratOF (onil R1) h1 n1) (exOf onil R1 h1 n1 R2) h2 n2).C,z * z≠exOf (exOf onil R1 h1 n1) R2 h2 n2 R3}
variable {x:(EF (EF (EF ratOF (onil R1) h1 n1) (exOf onil R1 h1 n1 R2) h2 n2) (exOf (exOf onil R1 h1 n1) R2 h2 n2 R3) h3 n3).C} {b0 b1 b2 b3 b4 b5 b6 b7:Bool}
structure Kd1 (h1:0 < onil R1) (n1:∀z:ratOF.C,z * z≠onil R1) (h2:0 < exOf onil R1 h1 n1 R2) (n2:∀z:(EF ratOF (onil R1) h1 n1).C,z * z≠exOf onil R1 h1 n1 R2) (R3:List Int):Prop where
 fe:cj (exa (exOf (exOf onil R1 h1 n1) R2 h2 n2 R3))=exa (exOf (exOf onil R1 h1 n1) R2 h2 n2 R3)
 fk:cj (exb (exOf (exOf onil R1 h1 n1) R2 h2 n2 R3))=exb (exOf (exOf onil R1 h1 n1) R2 h2 n2 R3)
 nn:exa (exOf (exOf onil R1 h1 n1) R2 h2 n2 R3) * exa (exOf (exOf onil R1 h1 n1) R2 h2 n2 R3) - exb (exOf (exOf onil R1 h1 n1) R2 h2 n2 R3) * exb (exOf (exOf onil R1 h1 n1) R2 h2 n2 R3) * exOf onil R1 h1 n1 R2 < 0
theorem nt' (l1:R1.length=1) (l2:R2.length=2) (l3:R3.length=4) (c1:Bd 10 R1) (c2:Bd 10 R2) (c3:Bd 10 R3) (hd:Ext.nrm (r:=onil R1) (exOf onil R1 h1 n1 R2) < 0) (hk:Kd1 h1 n1 h2 n2 R3) (g0:Fg (exa (exa x)) b0 b1) (g2:Fg (exb (exa x)) b2 b3) (g4:Fg (exa (exb x)) b4 b5) (g6:Fg (exb (exb x)) b6 b7):Lg [R3,R2,R1] (exOf (exOf (exOf onil R1 h1 n1) R2 h2 n2) R3 h3 n3) [-x,1] (d31 b1 b2 b3 b4 b5 b6 b7 + 1):=by
 have hh:=hm_cj (r:=onil R1) (hr:=h1) (hn:=n1);have nz:(b4 && b5 && (b6 && b7))=false->¬(exa (exb x)=0/\exb (exb x)=0):=fun hv q=>by
  have:=(Fg.zero2 g4 g6).mpr ((dK' (exb x)).mpr q);rw [hv] at this; exact Bool.noConfusion this
 refine deg3 l1 l2 l3 c1 c2 c3 g4 g6 (fun hz=>?_) (fun hz _ w=>?_) (fun hz _=>?_)
 ·unfold d31;rw [if_pos hz];exact mL' l1 l2 c1 c2 hd g0 g2
 ·exact (nz hz (hW' hk.nn w)).elim
 ·unfold d31;rw [if_neg (by rw [hz]; exact Bool.noConfusion)];refine lgN l1 c1 (by rw [bW']; decide) (by rw [bW']; decide) (fun q=>?_);rw [cf_s hh,wA_s hh,wB_s hh,hk.fe,hk.fk] at q;refine nf' n2 hk.nn (fun z z' e o=>?_) (nz hz) q;have zz:z'=cj z:=by
   rcases o with ⟨p,q⟩ | ⟨p,q⟩
   ·rw [p,q]
   ·rw [p,q,wB_s hh,hk.fe,hk.fk]
  rw [zz] at e ⊢;have:=mK' hd z e;exact ⟨this,by rw [this,hh.zero]⟩
theorem nu' (l1:R1.length=1) (l2:R2.length=2) (l3:R3.length=4) (c1:Bd 10 R1) (c2:Bd 10 R2) (c3:Bd 10 R3) (hf:cj (exOf onil R1 h1 n1 R2)=exOf onil R1 h1 n1 R2) (hk:Kd1 h1 n1 h2 n2 R3) (g0:Fg (exa (exa x)) b0 b1) (g2:Fg (exb (exa x)) b2 b3) (g4:Fg (exa (exb x)) b4 b5) (g6:Fg (exb (exb x)) b6 b7):Lg [R3,R2,R1] (exOf (exOf (exOf onil R1 h1 n1) R2 h2 n2) R3 h3 n3) [-x,1] (d32 b1 b2 b3 b4 b5 b6 b7 + 1):=by
 have hh:=hm_cj (r:=onil R1) (hr:=h1) (hn:=n1);have nz:(b4 && b5 && (b6 && b7))=false->¬(exa (exb x)=0/\exb (exb x)=0):=fun hv q=>by
  have:=(Fg.zero2 g4 g6).mpr ((dK' (exb x)).mpr q);rw [hv] at this; exact Bool.noConfusion this
 refine deg3 l1 l2 l3 c1 c2 c3 g4 g6 (fun hz=>?_) (fun hz _ w=>?_) (fun hz _=>?_)
 ·unfold d32;rw [if_pos hz];exact jw' l1 l2 c1 c2 hf g0 g2
 ·exact (nz hz (hW' hk.nn w)).elim
 ·unfold d32;rw [if_neg (by rw [hz]; exact Bool.noConfusion)];have ee:(b1 && (b3 && ((b5 && b7) || (b4 && b6))))=true↔cj (exa (exa x))=exa (exa x)/\cj (exb (exa x))=exb (exa x)/\((cj (exa (exb x))=exa (exb x)/\cj (exb (exb x))=exb (exb x))\/(cj (exa (exb x))=-exa (exb x)/\cj (exb (exb x))=-exb (exb x))):=by
   rw [Bool.and_eq_true,Bool.and_eq_true,Bool.or_eq_true,Bool.and_eq_true,Bool.and_eq_true,g0.fix,g2.fix,g4.fix,g6.fix,g4.neg,g6.neg]
  cases hB:(b1 && (b3 && ((b5 && b7) || (b4 && b6)))) with
  | true =>
   obtain ⟨e0,e1,e2⟩:=ee.mp hB;refine lgF l1 c1 (by rw [bW']; decide) (by rw [bW']; decide) ?_;rw [cf_s hh,wA_s hh,wB_s hh,hk.fe,hk.fk,hf,e0,e1];have sA:∀a b e k r:(EF ratOF (onil R1) h1 n1).C,wA (-a) (-b) e k r=wA a b e k r:=fun a b e k r=>by unfold wA; grind
   have sB:∀a b e k r:(EF ratOF (onil R1) h1 n1).C,wB (-a) (-b) e k r=wB a b e k r:=fun a b e k r=>by unfold wB; grind
   rcases e2 with ⟨p,q⟩ | ⟨p,q⟩ <;> rw [p,q]
   rw [sA,sB]
  | false =>
   refine lgN l1 c1 (by rw [bW']; decide) (by rw [bW']; decide) (fun q=>?_);rw [cf_s hh,wA_s hh,wB_s hh,hk.fe,hk.fk,hf] at q;have:=ee.mpr (ne' h2 n2 hk.nn (nz hz) q);rw [hB] at this; exact Bool.noConfusion this
end
section
variable {R1 R2 R3:List Int} {h1:0 < onil R1} {n1:∀z:ratOF.C,z * z≠onil R1} {h2:0 < exOf onil R1 h1 n1 R2} {n2:∀z:(EF ratOF (onil R1) h1 n1).C,z * z≠exOf onil R1 h1 n1 R2} {h3:0 < exOf (exOf onil R1 h1 n1) R2 h2 n2 R3} {n3:∀z:(EF (EF ratOF (onil R1) h1 n1) (exOf onil R1 h1 n1 R2) h2 n2).C,z * z≠exOf (exOf onil R1 h1 n1) R2 h2 n2 R3}
variable {x:(EF (EF (EF ratOF (onil R1) h1 n1) (exOf onil R1 h1 n1 R2) h2 n2) (exOf (exOf onil R1 h1 n1) R2 h2 n2 R3) h3 n3).C} {b0 b1 b2 b3 b4 b5 b6 b7:Bool}
theorem Fg.three {z:(EF ratOF (onil R1) h1 n1).C} {a b:Bool} (g:Fg z a b) (o:(a || b)=true):(a=true/\b=true/\z=0/\cj z=0)\/(a=true/\b=false/\cj z=-z/\z≠0)\/(a=false/\b=true/\cj z=z/\z≠0):=by
 have hh:=hm_cj (r:=onil R1) (hr:=h1) (hn:=n1);have z0:=g.zero;have zf:=g.fix;have zn:=g.neg
 cases a <;> cases b
 ·exact Bool.noConfusion o
 ·exact .inr (.inr ⟨rfl,rfl,zf.mp rfl,fun q=>Bool.noConfusion (z0.mpr q)⟩)
 ·exact .inr (.inl ⟨rfl,rfl,zn.mp rfl,fun q=>Bool.noConfusion (z0.mpr q)⟩)
 ·have:=z0.mp rfl;exact .inl ⟨rfl,rfl,this,by rw [this,hh.zero]⟩
theorem ff_1 {F:OF} {a b c:F.C} (ha:a≠0) (hb:b≠0) (hc:c≠0) (e:-(a * b * c)=a * b * c):False:=by
 rcases mul0 (fb_8.mp e) with q | q
 ·rcases mul0 q with q | q
  ·exact ha q
  ·exact hb q
 ·exact hc q
theorem par0 {F:OF} {z1 z2 z3 y1 y2 y3:F.C} {a1 a2 a3 c1 c2 c3:Bool} (t1:(a1=true/\c1=true/\z1=0/\y1=0)\/(a1=true/\c1=false/\y1=-z1/\z1≠0)\/(a1=false/\c1=true/\y1=z1/\z1≠0)) (t2:(a2=true/\c2=true/\z2=0/\y2=0)\/(a2=true/\c2=false/\y2=-z2/\z2≠0)\/(a2=false/\c2=true/\y2=z2/\z2≠0)) (t3:(a3=true/\c3=true/\z3=0/\y3=0)\/(a3=true/\c3=false/\y3=-z3/\z3≠0)\/(a3=false/\c3=true/\y3=z3/\z3≠0)):((a1 && c1) || (a2 && c2) || (a3 && c3) || !(xor a1 (xor a2 a3)))=true↔y1 * y2 * y3=z1 * z2 * z3:=by
 rcases t1 with ⟨rfl,rfl,rfl,rfl⟩ | ⟨rfl,rfl,rfl,p2⟩ | ⟨rfl,rfl,rfl,p2⟩ <;> rcases t2 with ⟨rfl,rfl,rfl,rfl⟩ | ⟨rfl,rfl,rfl,q2⟩ | ⟨rfl,rfl,rfl,q2⟩ <;> rcases t3 with ⟨rfl,rfl,rfl,rfl⟩ | ⟨rfl,rfl,rfl,r2⟩ | ⟨rfl,rfl,rfl,r2⟩ <;> first
  | exact ⟨fun _=>by grind,fun _=>rfl⟩
  | exact ⟨fun h=>by simp at h,fun h=>(ff_1 p2 q2 r2 (by clear p2 q2 r2; grind)).elim⟩
theorem par3 {z1 z2 z3:(EF ratOF (onil R1) h1 n1).C} {a1 a2 a3 c1 c2 c3:Bool} (g1:Fg z1 a1 c1) (g2:Fg z2 a2 c2) (g3:Fg z3 a3 c3) (o1:(a1 || c1)=true) (o2:(a2 || c2)=true) (o3:(a3 || c3)=true):((a1 && c1) || (a2 && c2) || (a3 && c3) || !(xor a1 (xor a2 a3)))=true↔cj z1 * cj z2 * cj z3=z1 * z2 * z3:=par0 (g1.three o1) (g2.three o2) (g3.three o3)
theorem ff_6 {F:OF} {z r e:F.C} (r0:r≠0) (q:z * z=r * e):0 * 0 + z / r * (z / r) * r=e:=by grind
theorem ff_7 {F:OF} (z r:F.C):z * z + 0 * 0 * r=z * z:=by grind
theorem ff_8 {F:OF} (z:F.C):z * 0 + 0 * z=0:=by grind
theorem ff_9 {F:OF} (z:F.C):0 * z + z * 0=0:=by grind
theorem fc_2 {F:OF} {u s w u' s' w':F.C}:[u' * u' + s' - w',-(2 * u'),1]=[u * u + s - w,-(2 * u),(1:F.C)]↔u'=u/\s' - w'=s - w:=by
 simp only [List.cons.injEq,and_true]
 constructor
 ·rintro ⟨p,q⟩
  have e:u'=u:=by
   have:=bs' (F:=F) (x:=u' - u) (by grind)
   grind
  subst e;exact ⟨rfl,by grind⟩
 ·rintro ⟨p,q⟩
  rw [p]; exact ⟨by grind,rfl⟩
theorem wA0 {F:OF} (a b e r:F.C):wA a b e 0 r=(a * a + b * b * r) * e:=by unfold wA; grind
theorem wB0 {F:OF} {a b e r:F.C} (q0:e≠0):wB a b e 0 r=0↔a=0\/b=0:=by
 unfold wB
 constructor
 ·intro h;have:2 * (a * b * e)=0:=by grind
  rcases mul0 (bs' this) with q | q
  ·exact mul0 q
  ·exact (q0 q).elim
 ·rintro (q | q) <;> subst q <;> grind
theorem ff_2 {F:OF} {s w w':F.C}:s - w'=s - w↔w'=w:=by constructor <;> intro h <;> grind
theorem ff_3 {F:OF} {a b a' b' e r:F.C} (q0:e≠0) (r0:r≠0) (i1:a=0/\a'=0\/b=0/\b'=0):(a' * a' + b' * b' * r) * e=(a * a + b * b * r) * e↔a' * a'=a * a/\b' * b'=b * b:=by
 constructor
 ·intro h;have h':=bm' q0 h;rcases i1 with ⟨p,q⟩ | ⟨p,q⟩ <;> subst p <;> subst q
  ·exact ⟨rfl,bm' r0 (by grind)⟩
  ·exact ⟨by grind,rfl⟩
 ·rintro ⟨p,q⟩; rw [p,q]
theorem ff_4 {F:OF} {a b c d e r:F.C}:4 * (a * a * r * ((b * b + c * c * r) * e)) + ((b * b + c * c * r) * 0 + (b * c + c * b) * e) * ((b * b + c * c * r) * 0 + (b * c + c * b) * e) * r=4 * (a * a * r * ((b * b + c * c * r) * e)) + 4 * ((b * b) * (c * c) * (e * e) * r):=by grind
theorem ff_5 {F:OF} {a b c e r:F.C}:a * wB b c e 0 r * r=2 * (a * b * c) * (e * r):=by unfold wB; grind
theorem nv' (l1:R1.length=1) (l2:R2.length=2) (l3:R3.length=4) (c1:Bd 10 R1) (c2:Bd 10 R2) (c3:Bd 10 R3) (hf:cj (exOf onil R1 h1 n1 R2)=exOf onil R1 h1 n1 R2) (fe:cj (exa (exOf (exOf onil R1 h1 n1) R2 h2 n2 R3))=exa (exOf (exOf onil R1 h1 n1) R2 h2 n2 R3)) (k0:exb (exOf (exOf onil R1 h1 n1) R2 h2 n2 R3)=0) (g0:Fg (exa (exa x)) b0 b1) (g2:Fg (exb (exa x)) b2 b3) (g4:Fg (exa (exb x)) b4 b5) (g6:Fg (exb (exb x)) b6 b7):Lg [R3,R2,R1] (exOf (exOf (exOf onil R1 h1 n1) R2 h2 n2) R3 h3 n3) [-x,1] (d30 b1 b2 b3 b4 b5 b6 b7 + 1):=by
 have hh:=hm_cj (r:=onil R1) (hr:=h1) (hn:=n1);have inj:∀z:(EF ratOF (onil R1) h1 n1).C,cj z=0->z=0:=fun z q=>by rw [<- nh' z,q,hh.zero]
 have r0:exOf onil R1 h1 n1 R2≠0:=fun q=>by rw [q] at h2; exact Std.lt_irrefl h2
 have q0:exa (exOf (exOf onil R1 h1 n1) R2 h2 n2 R3)≠0:=fun q=>by
  have z:=(dK' (exOf (exOf onil R1 h1 n1) R2 h2 n2 R3)).mpr ⟨q,k0⟩;rw [z] at h3; exact Std.lt_irrefl h3
 have m2:∀z:(EF ratOF (onil R1) h1 n1).C,z * z≠exa (exOf (exOf onil R1 h1 n1) R2 h2 n2 R3):=fun z q=>n3 (mkE h2 n2 z 0) (Ext.eqs (r:=exOf onil R1 h1 n1 R2) ((ff_7 z _).trans q) ((ff_8 z).trans k0.symm));have m3:∀z:(EF ratOF (onil R1) h1 n1).C,z * z≠exOf onil R1 h1 n1 R2 * exa (exOf (exOf onil R1 h1 n1) R2 h2 n2 R3):=fun z q=>n3 (mkE h2 n2 0 (z / exOf onil R1 h1 n1 R2)) (Ext.eqs (r:=exOf onil R1 h1 n1 R2) (ff_6 r0 q) ((ff_9 (z / exOf onil R1 h1 n1 R2)).trans k0.symm));have fl:((b2 && b3) && ((b4 && b5) || (b6 && b7)))=true↔exb (exa x)=0/\wB (exa (exb x)) (exb (exb x)) (exa (exOf (exOf onil R1 h1 n1) R2 h2 n2 R3)) 0 (exOf onil R1 h1 n1 R2)=0:=by
  rw [Bool.and_eq_true,Bool.or_eq_true,g2.zero,g4.zero,g6.zero,wB0 q0]
 refine deg3 l1 l2 l3 c1 c2 c3 g4 g6 (fun hz=>?_) (fun hz u w=>?_) (fun hz w=>?_)
 ·unfold d30;rw [if_pos hz];exact jw' l1 l2 c1 c2 hf g0 g2
 ·rw [k0] at w ⊢;unfold d30;rw [if_neg (by rw [hz]; exact Bool.noConfusion),if_pos (fl.mpr ⟨u,w⟩)];rw [wB0 q0] at w;rw [wA0];have i1:exa (exb x)=0/\cj (exa (exb x))=0\/exb (exb x)=0/\cj (exb (exb x))=0:=by
   rcases w with q | q
   ·exact .inl ⟨q,by rw [q,hh.zero]⟩
   ·exact .inr ⟨q,by rw [q,hh.zero]⟩
  have ee:[exa (exa x) * exa (exa x) + exb (exa x) * exb (exa x) * exOf onil R1 h1 n1 R2 - (exa (exb x) * exa (exb x) + exb (exb x) * exb (exb x) * exOf onil R1 h1 n1 R2) * exa (exOf (exOf onil R1 h1 n1) R2 h2 n2 R3),-(2 * exa (exa x)),1].map cj=[exa (exa x) * exa (exa x) + exb (exa x) * exb (exa x) * exOf onil R1 h1 n1 R2 - (exa (exb x) * exa (exb x) + exb (exb x) * exb (exb x) * exOf onil R1 h1 n1 R2) * exa (exOf (exOf onil R1 h1 n1) R2 h2 n2 R3),-(2 * exa (exa x)),1]↔(b1 && ((b4 || b5) && (b6 || b7)))=true:=by
   rw [Bool.and_eq_true,Bool.and_eq_true,g0.fix,g4.sq,g6.sq,<- ff_3 q0 r0 i1];simp only [List.map_cons,List.map_nil,hh.sub,hh.mul,hh.add,hh.neg,hh.two,hh.one,hf,fe];rw [fc_2,u,hh.zero,ff_2]
  cases hB:(b1 && ((b4 || b5) && (b6 || b7))) with
  | true=>exact lgF l1 c1 (by simp) (by simp) (ee.mpr hB)
  | false=>exact lgN l1 c1 (by simp) (by simp) (fun q=>by have:=ee.mp q; rw [hB] at this; exact Bool.noConfusion this)
 ·rw [k0] at w ⊢;unfold d30;rw [if_neg (by rw [hz]; exact Bool.noConfusion),if_neg (fun q=>w (fl.mp q))];have ee:(b1 && ((b2 || b3) && ((b4 || b5) && (b6 || b7))) && ((b2 && b3) || (b4 && b5) || (b6 && b7) || !(xor b2 (xor b4 b6))))=true↔cj (exa (exa x))=exa (exa x)/\cj (exb (exa x)) * cj (exb (exa x))=exb (exa x) * exb (exa x)/\cj (exa (exb x)) * cj (exa (exb x))=exa (exb x) * exa (exb x)/\cj (exb (exb x)) * cj (exb (exb x))=exb (exb x) * exb (exb x)/\cj (exb (exa x)) * cj (exa (exb x)) * cj (exb (exb x))=exb (exa x) * exa (exb x) * exb (exb x):=by
   rw [Bool.and_eq_true,Bool.and_eq_true,Bool.and_eq_true,Bool.and_eq_true,g0.fix,<- g2.sq,<- g4.sq,<- g6.sq]
   constructor
   ·rintro ⟨⟨p0,p1,p2,p3⟩,p4⟩; exact ⟨p0,p1,p2,p3,(par3 g2 g4 g6 p1 p2 p3).mp p4⟩
   ·rintro ⟨p0,p1,p2,p3,p4⟩; exact ⟨⟨p0,p1,p2,p3⟩,(par3 g2 g4 g6 p1 p2 p3).mpr p4⟩
  cases hB:(b1 && ((b2 || b3) && ((b4 || b5) && (b6 || b7))) && ((b2 && b3) || (b4 && b5) || (b6 && b7) || !(xor b2 (xor b4 b6)))) with
  | true =>
   obtain ⟨e0,e1,e2,e3,e4⟩:=ee.mp hB;refine lgF l1 c1 (by rw [bW']; decide) (by rw [bW']; decide) ?_;rw [cf_s hh,wA_s hh,wB_s hh,fe,hh.zero,hf,wA0,wA0];refine nd' e0 (by rw [e1,e2,e3]) (by rw [ff_5,ff_5,e4]) ?_;unfold wB;rw [ff_4 (d:=0),ff_4 (d:=0),e1,e2,e3]
  | false =>
   refine lgN l1 c1 (by rw [bW']; decide) (by rw [bW']; decide) (fun q=>?_);rw [cf_s hh,wA_s hh,wB_s hh,fe,hh.zero,hf] at q;have:=ee.mpr (ng' r0 q0 n2 m2 m3 (inj _) (inj _) (inj _) q);rw [hB] at this; exact Bool.noConfusion this
end
theorem jx' {t:TGD} {b:DS->Out} {d:D} {ds:List D} {δ δ1:DS} {x:D} (h1:t d δ=some δ1) (h2:b δ1=.ret x):forD t b (d :: ds) δ=.ret x:=by
 rw [forD,h1];dsimp only;rw [h2]
noncomputable def parN (i g:Nat):Nat:=(i % 2) * (g % 2) + (i / 2 % 2) * (g / 2 % 2) + (i / 4 % 2) * (g / 4 % 2)
noncomputable def stN (g:Nat):Nat->List Bool->Bool
 | _,[]=>true
 | i,b :: bs=>if b=false/\parN i g % 2=1 then false else stN g (i + 1) bs
abbrev zs (ts:List Int):List Bool:=ts.map fun t=>decide (t=0)
noncomputable def pI (i g t:Int):Int:=Int.fmod (Int.fdiv i t) 2 * Int.fmod (Int.fdiv g t) 2
theorem mM':∀i < 8,∀g < 8,(decide (Int.fmod ([pI (i:Nat) (g:Nat) 1,pI (i:Nat) (g:Nat) 2,pI (i:Nat) (g:Nat) 4].sum) 2=1))=decide (parN i g % 2=1):=by decide
theorem lq' {i g:Nat} (hi:i < 8) (hg:g < 8) {t:Int} {s0 z4:Option SV}:(compD 1 [2,1] (tgtN 0) (two (two (two (slotD 1) (slotD 0) fdivD) (fun _=>.ok (.int 2)) modD) (two (two (slotD 2) (slotD 0) fdivD) (fun _=>.ok (.int 2)) modD) mulE) (bindL (lstF (consD (fun _=>.ok (.int 1)) (consD (fun _=>.ok (.int 2)) (consD (fun _=>.ok (.int 4)) (fun _=>.ok []))))) seqItems)) [s0,some (.val (.int (g:Int))),some (.val (.int (i:Int))),some (.val (.int t)),z4]=.ok (.lst [.int (pI i g 1),.int (pI i g 2),.int (pI i g 4)]):=by
 refine (bl' (rest:=[some (.arg (.int (i:Int))),some (.arg (.int (g:Int)))]) (ts:=[1,2,4]) (g:=fun t=>.int (pI i g t)) rfl rfl (by decide) (fun t ht=>?_)).trans rfl;have t0:t≠0/\t.natAbs < 2 ^ 8000:=by
  simp only [List.mem_cons,List.not_mem_nil,or_false] at ht;have p:(2:Nat) ^ 3<=2 ^ 8000:=bn' (by decide);rcases ht with q | q | q <;> subst q <;> exact ⟨by decide,Nat.lt_of_lt_of_le (by decide) p⟩
 have f1:fdivD (.int (i:Int)) (.int t)=_:=cs' t0.1 t0.2;have f2:fdivD (.int (g:Int)) (.int t)=_:=cs' t0.1 t0.2;have m1:modD (.int (Int.fdiv (i:Int) t)) (.int 2)=_:=modI (show (2:Int)≠0 by decide);have m2:modD (.int (Int.fdiv (g:Int) t)) (.int 2)=_:=modI (show (2:Int)≠0 by decide);have b1:=Int.fmod_nonneg_of_pos (Int.fdiv (i:Int) t) (b:=2) (by decide);have b2:=Int.fmod_lt_of_pos (Int.fdiv (i:Int) t) (b:=2) (by decide);have mu:mulD (.int (Int.fmod (Int.fdiv (i:Int) t) 2)) (.int (Int.fmod (Int.fdiv (g:Int) t) 2))=_:=lo' (Nat.lt_of_lt_of_le (show (Int.fmod (Int.fdiv (i:Int) t) 2).natAbs < 2 ^ 1 by omega) (by decide));push_cast [f1,f2,m1,m2,mu];rfl
theorem lr' {i g:Nat} (hi:i < 8) (hg:g < 8) {t:Int} {s0 z4:Option SV}:(seqD (setD 4 (compD 1 [2,1] (tgtN 0) (two (two (two (slotD 1) (slotD 0) fdivD) (fun _=>.ok (.int 2)) modD) (two (two (slotD 2) (slotD 0) fdivD) (fun _=>.ok (.int 2)) modD) mulE) (bindL (lstF (consD (fun _=>.ok (.int 1)) (consD (fun _=>.ok (.int 2)) (consD (fun _=>.ok (.int 4)) (fun _=>.ok []))))) seqItems))) (ifS (andT (bindT (two (slotD 3) (fun _=>.ok (.int 0)) neD) boolD) (bindT (two (two (bindF (consD (slotD 4) (fun _=>.ok [])) sumG) (fun _=>.ok (.int 2)) modD) (fun _=>.ok (.int 1)) eqD) boolD)) (retD (fun _=>.ok (.bl false))) Out.nxt)) [s0,some (.val (.int (g:Int))),some (.val (.int (i:Int))),some (.val (.int t)),z4]=if decide (t=0)=false/\parN i g % 2=1 then .ret (.bl false) else .nxt [s0,some (.val (.int (g:Int))),some (.val (.int (i:Int))),some (.val (.int t)),some (.val (.lst [.int (pI i g 1),.int (pI i g 2),.int (pI i g 4)]))]:=by
 have c:=lq' hi hg (t:=t) (s0:=s0) (z4:=z4);have q0:setD 4 (compD 1 [2,1] (tgtN 0) (two (two (two (slotD 1) (slotD 0) fdivD) (fun _=>.ok (.int 2)) modD) (two (two (slotD 2) (slotD 0) fdivD) (fun _=>.ok (.int 2)) modD) mulE) (bindL (lstF (consD (fun _=>.ok (.int 1)) (consD (fun _=>.ok (.int 2)) (consD (fun _=>.ok (.int 4)) (fun _=>.ok []))))) seqItems)) [s0,some (.val (.int (g:Int))),some (.val (.int (i:Int))),some (.val (.int t)),z4]=.nxt [s0,some (.val (.int (g:Int))),some (.val (.int (i:Int))),some (.val (.int t)),some (.val (.lst [.int (pI i g 1),.int (pI i g 2),.int (pI i g 4)]))]:=by
  rw [ap_set,c]; rfl
 have pp:=mM' i hi g hg;have sm:sumG [.lst [.int (pI i g 1),.int (pI i g 2),.int (pI i g 4)]]=.ok (.int ([pI (i:Nat) (g:Nat) 1,pI (i:Nat) (g:Nat) 2,pI (i:Nat) (g:Nat) 4].sum)):=rfl;generalize [pI (i:Nat) (g:Nat) 1,pI (i:Nat) (g:Nat) 2,pI (i:Nat) (g:Nat) 4].sum=S at pp sm;have mo:modD (.int S) (.int 2)=_:=modI (show (2:Int)≠0 by decide);rw [ap_seq,q0,sq_nxt];generalize D.lst [.int (pI i g 1),.int (pI i g 2),.int (pI i g 4)]=LL at *
 by_cases t0:t=0
 ·subst t0;rw [if_neg (by simp)];push_cast [decide_not]
 ·by_cases p:parN i g % 2=1
  ·rw [if_pos ⟨decide_eq_false t0,p⟩];rw [decide_eq_true p] at pp;have pp':=_root_.of_decide_eq_true pp;push_cast [t0,sm,mo,pp',ne_eq,not_false_eq_true]
  ·rw [if_neg (fun q=>p q.2)];rw [decide_eq_false p] at pp;have pp':=_root_.of_decide_eq_false pp;push_cast [t0,sm,mo,pp',ne_eq,not_false_eq_true]
theorem ip' {g:Nat} (hg:g < 8) (s0:Option SV):∀(ts:List Int) (i:Nat) (z2 z3 z4:Option SV),i + ts.length<=8 ->
  (stN g i (zs ts)=true->∃z2' z3' z4',forD (tupTgt [2,3]) (seqD (setD 4 (compD 1 [2,1] (tgtN 0) (two (two (two (slotD 1) (slotD 0) fdivD) (fun _=>.ok (.int 2)) modD) (two (two (slotD 2) (slotD 0) fdivD) (fun _=>.ok (.int 2)) modD) mulE) (bindL (lstF (consD (fun _=>.ok (.int 1)) (consD (fun _=>.ok (.int 2)) (consD (fun _=>.ok (.int 4)) (fun _=>.ok []))))) seqItems))) (ifS (andT (bindT (two (slotD 3) (fun _=>.ok (.int 0)) neD) boolD) (bindT (two (two (bindF (consD (slotD 4) (fun _=>.ok [])) sumG) (fun _=>.ok (.int 2)) modD) (fun _=>.ok (.int 1)) eqD) boolD)) (retD (fun _=>.ok (.bl false))) Out.nxt)) (enF i (ts.map .int)) [s0,some (.val (.int (g:Int))),z2,z3,z4]=.nxt [s0,some (.val (.int (g:Int))),z2',z3',z4']) /\
  (stN g i (zs ts)=false->forD (tupTgt [2,3]) (seqD (setD 4 (compD 1 [2,1] (tgtN 0) (two (two (two (slotD 1) (slotD 0) fdivD) (fun _=>.ok (.int 2)) modD) (two (two (slotD 2) (slotD 0) fdivD) (fun _=>.ok (.int 2)) modD) mulE) (bindL (lstF (consD (fun _=>.ok (.int 1)) (consD (fun _=>.ok (.int 2)) (consD (fun _=>.ok (.int 4)) (fun _=>.ok []))))) seqItems))) (ifS (andT (bindT (two (slotD 3) (fun _=>.ok (.int 0)) neD) boolD) (bindT (two (two (bindF (consD (slotD 4) (fun _=>.ok [])) sumG) (fun _=>.ok (.int 2)) modD) (fun _=>.ok (.int 1)) eqD) boolD)) (retD (fun _=>.ok (.bl false))) Out.nxt)) (enF i (ts.map .int)) [s0,some (.val (.int (g:Int))),z2,z3,z4]=.ret (.bl false))
 | [],i,z2,z3,z4,_=>⟨fun _=>⟨z2,z3,z4,fQ'⟩,fun h=>Bool.noConfusion h⟩
 | t :: ts,i,z2,z3,z4,hl=>by
  have hl':i + (ts.length + 1)<=8:=hl;have st:=lr' (i:=i) (g:=g) (by omega) hg (t:=t) (s0:=s0) (z4:=z4);have tg:tupTgt [2,3] (.tup [.int (i:Int),.int t]) [s0,some (.val (.int (g:Int))),z2,z3,z4]=some [s0,some (.val (.int (g:Int))),some (.val (.int (i:Int))),some (.val (.int t)),z4]:=rfl;have ih:=ip' hg s0 ts (i + 1) (some (.val (.int (i:Int)))) (some (.val (.int t))) (some (.val (.lst [.int (pI i g 1),.int (pI i g 2),.int (pI i g 4)]))) (by omega);have un:stN g i (zs (t :: ts))=if decide (t=0)=false/\parN i g % 2=1 then false else stN g (i + 1) (zs ts):=rfl
  rw [un]
  by_cases c:decide (t=0)=false/\parN i g % 2=1
  ·rw [if_pos c] at st ⊢;exact ⟨fun h=>Bool.noConfusion h,fun _=>jx' tg st⟩
  ·rw [if_neg c] at st ⊢;refine ⟨fun h=>?_,fun h=>(bB' tg st).trans (ih.2 h)⟩;obtain ⟨a,b,c,e⟩:=ih.1 h;exact ⟨a,b,c,(bB' tg st).trans e⟩
theorem ls' {ts:List Int} (hl:ts.length<=8) {g:Nat} (hg:g < 8):F_qs [TI ts,.int (g:Int)]=.ok (.bl (stN g 0 (zs ts))):=by
 have lp:=ip' hg (some (.val (TI ts))) ts 0 none none none (by omega);have en:enumT [TI ts]=.ok (enF 0 (ts.map .int)):=by
  show Res.ok (enumD (ts.map D.int))=_;rw [da']
 have th:thaw [some (.arg (TI ts)),some (.arg (.int (g:Int))),none,none,none]=[some (.val (TI ts)),some (.val (.int (g:Int))),none,none,none]:=rfl;show outD (b_qs [some (.arg (TI ts)),some (.arg (.int (g:Int))),none,none,none])=_;unfold b_qs
 cases h:stN g 0 (zs ts) with
 | true =>
  obtain ⟨a,b,c,e⟩:=lp.1 h;simp only [ap_seq,ap_for,ap_bR,ap_cons,sl0,vw_arg,bnd_ok,en,onl_ok,th,e,th_o,sq_nxt,ap_ret,on_ok,out_ret]
 | false =>
  have e:=lp.2 h;have tr:thawO (Out.ret (D.bl false))=.ret (.bl false):=rfl;simp only [ap_seq,ap_for,ap_bR,ap_cons,sl0,vw_arg,bnd_ok,en,onl_ok,th,e,tr,sq_ret,out_ret]
theorem lt' {ts:List Int} (hl:ts.length<=8) {δ:DS} (hr:compS 1 [0] δ=[none,some (.arg (TI ts))]) (L:List Nat) (hL:∀g∈L,g < 8) (h8:L.length<=8) (hs:bindL (slotD 3) seqItems δ=.ok (L.map fun g:Nat=>D.int (g:Int))):compI 1 [0] (tgtN 0) (bindT (bindF (consD (slotD 1) (consD (slotD 0) (fun _=>.ok []))) F_qs) truthD) (slotD 0) (bindL (slotD 3) seqItems) δ=.ok (.lst ((L.filter fun g=>stN g 0 (zs ts)).map fun g:Nat=>D.int (g:Int))):=by
 have m:∀L:List Nat,(∀g∈L,g < 8)->∃rs,mapR (eltI (tgtN 0) (bindT (bindF (consD (slotD 1) (consD (slotD 0) (fun _=>.ok []))) F_qs) truthD) (slotD 0) [none,some (.arg (TI ts))]) (L.map fun g:Nat=>D.int (g:Int))=.ok rs/\rs.flatMap unI=(L.filter fun g=>stN g 0 (zs ts)).map fun g:Nat=>D.int (g:Int):=by
  intro L
  induction L with
  | nil=>intro _; exact ⟨[],rfl,rfl⟩
  | cons g L ih =>
   intro h;obtain ⟨rs,e1,e2⟩:=ih fun u hu=>h u (List.mem_cons_of_mem _ hu);have w:=ls' hl (h g (by simp));have fc:(bindT (bindF (consD (slotD 1) (consD (slotD 0) (fun _=>.ok []))) F_qs) truthD) [some (.val (.int (g:Int))),some (.arg (TI ts))]=.ok (stN g 0 (zs ts)):=by
    push_cast [w]
   have fe:slotD 0 [some (.val (.int (g:Int))),some (.arg (TI ts))]=.ok (.int (g:Int)):=rfl;have el:eltI (tgtN 0) (bindT (bindF (consD (slotD 1) (consD (slotD 0) (fun _=>.ok []))) F_qs) truthD) (slotD 0) [none,some (.arg (TI ts))] (.int (g:Int))=.ok (if stN g 0 (zs ts) then .tup [.int (g:Int)] else .tup []):=by
    unfold eltI;have tg:tgtN 0 (.int (g:Int)) [none,some (.arg (TI ts))]=some [some (.val (.int (g:Int))),some (.arg (TI ts))]:=rfl;rw [tg];dsimp only;rw [fc]
    cases stN g 0 (zs ts) with
    | true=>dsimp only; rw [fe]; rfl
    | false=>rfl
   refine ⟨(if stN g 0 (zs ts) then .tup [.int (g:Int)] else .tup []) :: rs,?_,?_⟩
   ·rw [List.map_cons,mapR,el,Res.bind_ok,e1,Res.bind_ok]
   ·rw [List.flatMap_cons,e2,List.filter_cons]
    cases stN g 0 (zs ts) <;> rfl
 obtain ⟨rs,e1,e2⟩:=m L hL;unfold compI;rw [hs,Res.bind_ok];unfold compK;rw [if_pos (by rw [List.length_map]; exact Nat.le_trans h8 (by decide)),hr,e1,Res.bind_ok,e2]
noncomputable def cnt (L:List Nat) (bs:List Bool):Nat:=(L.filter fun g=>stN g 0 bs).length
theorem stN0:∀(bs:List Bool) (i:Nat),stN 0 i bs=true
 | [],_=>rfl
 | b :: bs,i=>by
  have p:parN i 0=0:=by unfold parN; simp
  rw [stN,p,if_neg (by simp)];exact stN0 bs (i + 1)
theorem lu' (L:List Nat) (bs:List Bool):0 < cnt (0 :: L) bs:=List.length_pos_of_mem (List.mem_filter.mpr ⟨List.mem_cons_self ..,stN0 bs 0⟩)
theorem mN' (L:List Nat) (bs:List Bool):cnt L bs<=L.length:=List.length_filter_le _ _
theorem mO' {n:Nat} (L:List Nat) (h8:L.length<=8) (bs:List Bool):fdivD (.int (n:Int)) (.int ((cnt (0 :: L) bs:Nat):Int))=.ok (.int ((n / cnt (0 :: L) bs:Nat):Int)):=by
 have p:=lu' L bs;have q:=mN' (0 :: L) bs;have q':cnt (0 :: L) bs<=L.length + 1:=q;have e:fdivD (.int (n:Int)) (.int ((cnt (0 :: L) bs:Nat):Int))=_:=cs' (by omega) (by
  rw [Int.natAbs_natCast];have:(2:Nat) ^ 4<=2 ^ 8000:=bn' (by decide);have e4:(2:Nat) ^ 4=16:=by decide
  omega)
 rw [e,Int.fdiv_eq_ediv_of_nonneg _ (by omega),Int.natCast_ediv]
theorem tb1:∀b0 b1:Bool,2 / cnt [0,1] [b0,b1]=dg1 b1:=by decide
theorem tb2:∀b0 b1 b2 b3:Bool,4 / cnt [0,1,2,3] [b0,b1,b2,b3]=d20 b1 b2 b3:=by decide
theorem tb3:∀b0 b1 b2 b3 b4 b5 b6 b7:Bool,8 / cnt [0,1,2,3,4,5,6,7] [b0,b1,b2,b3,b4,b5,b6,b7]=d30 b1 b2 b3 b4 b5 b6 b7:=by decide +kernel
theorem tb4:∀b0 b1 b2 b3 b4 b5 b6 b7:Bool,(b4 && b5 && (b6 && b7))=false->8 / cnt [0,1,4,5] [b0,b1,b2,b3,b4,b5,b6,b7]=d32 b1 b2 b3 b4 b5 b6 b7:=by decide +kernel
theorem any4 (a b c d:Int):anyT [TI [a,b,c,d]]=.ok (.bl (!(decide (a=0) && decide (b=0) && (decide (c=0) && decide (d=0))))):=by
 show Res.ok (D.bl (!decide (a=0) || (!decide (b=0) || (!decide (c=0) || (!decide (d=0) || false)))))=_
 cases decide (a=0) <;> cases decide (b=0) <;> cases decide (c=0) <;> cases decide (d=0) <;> rfl
theorem any2 (a b:Int):anyT [TI [a,b]]=.ok (.bl (!(decide (a=0) && decide (b=0)))):=by
 show Res.ok (D.bl (!decide (a=0) || (!decide (b=0) || false)))=_
 cases decide (a=0) <;> cases decide (b=0) <;> rfl
theorem any1 (a:Int):anyT [TI [a]]=.ok (.bl (!decide (a=0))):=by
 show Res.ok (D.bl (!decide (a=0) || false))=_
 cases decide (a=0) <;> rfl
theorem rg1:lrG [.int 1]=.ok (.lst ([0].map fun g:Nat=>D.int (g:Int))):=rfl
theorem rg2:lrG [.int 2]=.ok (.lst ([0,1].map fun g:Nat=>D.int (g:Int))):=rfl
theorem rg4:lrG [.int 4]=.ok (.lst ([0,1,2,3].map fun g:Nat=>D.int (g:Int))):=rfl
theorem rg8:lrG [.int 8]=.ok (.lst ([0,1,2,3,4,5,6,7].map fun g:Nat=>D.int (g:Int))):=rfl
section
variable {ts:List Int}
theorem iq' (hl:ts.length<=8) {s0 s1:Option SV} (hr:compS 1 [0] [s0]=[none,some (.arg (TI ts))]) {n:Nat} (L:List Nat) (hL:∀g∈0 :: L,g < 8) (h7:L.length<=7):(retD (two (slotD 2) (bindF (consD (compI 1 [0] (tgtN 0) (bindT (bindF (consD (slotD 1) (consD (slotD 0) (fun _=>.ok []))) F_qs) truthD) (slotD 0) (bindL (slotD 3) seqItems)) (fun _=>.ok [])) lenG) fdivD)) [s0,s1,some (.val (.int (n:Int))),some (.val (.lst ((0 :: L).map fun g:Nat=>D.int (g:Int))))]=.ret (.int ((n / cnt (0 :: L) (zs ts):Nat):Int)):=by
 have c:=lt' hl (δ:=[s0,s1,some (.val (.int (n:Int))),some (.val (.lst ((0 :: L).map fun g:Nat=>D.int (g:Int))))]) hr (0 :: L) hL (Nat.succ_le_succ h7) rfl;have ln:lenG [.lst (((0 :: L).filter fun g=>stN g 0 (zs ts)).map fun g:Nat=>D.int (g:Int))]=.ok (.int ((cnt (0 :: L) (zs ts):Nat):Int)):=by
  show Res.ok (D.int ((List.map _ _).length:Int))=_;rw [List.length_map]; rfl
 have fd:=mO' (n:=n) L (Nat.le_succ_of_le h7) (zs ts);generalize D.lst ((0 :: L).map fun g:Nat=>D.int (g:Int))=LL at *;push_cast [c,ln,fd]
theorem jy' {n:Nat} (hn:ts.length=n) (hl:n<=8) (L:List Nat) (hL:∀g∈0 :: L,g < 8) (h7:L.length<=7) (rg:lrG [.int (n:Int)]=.ok (.lst ((0 :: L).map fun g:Nat=>D.int (g:Int)))) {k:Int} (hk:k=0\/(k=2/\n < 8)):F_qm [TI ts,.int k]=.ok (.int ((n / cnt (0 :: L) (zs ts):Nat):Int)):=by
 have ln:lenG [TI ts]=.ok (.int (n:Int)):=by
  show Res.ok (D.int ((ts.map D.int).length:Int))=_;rw [List.length_map,hn]
 have rt:=iq' (ts:=ts) (by omega) (s0:=some (.arg (TI ts))) (s1:=some (.arg (.int k))) rfl (n:=n) L hL h7;show outD (b_qm [some (.arg (TI ts)),some (.arg (.int k)),none,none])=_;unfold b_qm;have k1:¬k=1:=by omega
 have q0:(setD 2 (bindF (consD (slotD 0) (fun _=>.ok [])) lenG)) [some (.arg (TI ts)),some (.arg (.int k)),none,none]=.nxt [some (.arg (TI ts)),some (.arg (.int k)),some (.val (.int (n:Int))),none]:=by push_cast [ln]
 have q1:(ifS (bindT (two (slotD 1) (fun _=>.ok (.int 1)) eqD) boolD) (seqD (whileF fuel_qm_1 (andT (bindT (two (slotD 2) (fun _=>.ok (.int 1)) (cmpD fun i j=>decide (j < i))) boolD) (notT (bindT (bindF (consD (sliceF (slotD 0) (partF (two (slotD 2) (fun _=>.ok (.int 2)) fdivD)) (partF (slotD 2))) (fun _=>.ok [])) anyT) truthD))) (setD 2 (two (slotD 2) (fun _=>.ok (.int 2)) fdivD))) (retD (slotD 2))) Out.nxt) [some (.arg (TI ts)),some (.arg (.int k)),some (.val (.int (n:Int))),none]=.nxt [some (.arg (TI ts)),some (.arg (.int k)),some (.val (.int (n:Int))),none]:=by push_cast [k1]
 have q2:(setD 3 (bindF (consD (slotD 2) (fun _=>.ok [])) lrG)) [some (.arg (TI ts)),some (.arg (.int k)),some (.val (.int (n:Int))),none]=.nxt [some (.arg (TI ts)),some (.arg (.int k)),some (.val (.int (n:Int))),some (.val (.lst ((0 :: L).map fun g:Nat=>D.int (g:Int))))]:=by push_cast [rg]
 have q3:∀LL,(ifS (andT (bindT (two (slotD 1) (fun _=>.ok (.int 2)) eqD) boolD) (andT (bindT (two (slotD 2) (fun _=>.ok (.int 8)) eqD) boolD) (bindT (bindF (consD (sliceF (slotD 0) (partF (fun _=>.ok (.int 4))) noPart) (fun _=>.ok [])) anyT) truthD))) (setD 3 (lstF (consD (fun _=>.ok (.int 0)) (consD (fun _=>.ok (.int 1)) (consD (fun _=>.ok (.int 4)) (consD (fun _=>.ok (.int 5)) (fun _=>.ok []))))))) (ifS (andT (bindT (two (slotD 1) (fun _=>.ok (.int 2)) eqD) boolD) (bindT (two (slotD 2) (fun _=>.ok (.int 8)) eqD) boolD)) (seqD (setD 0 (sliceF (slotD 0) noPart (partF (fun _=>.ok (.int 4))))) (seqD (setD 2 (fun _=>.ok (.int 4))) (setD 3 (lstF (consD (fun _=>.ok (.int 0)) (consD (fun _=>.ok (.int 1)) (consD (fun _=>.ok (.int 2)) (consD (fun _=>.ok (.int 3)) (fun _=>.ok []))))))))) Out.nxt)) [some (.arg (TI ts)),some (.arg (.int k)),some (.val (.int (n:Int))),some (.val LL)]=.nxt [some (.arg (TI ts)),some (.arg (.int k)),some (.val (.int (n:Int))),some (.val LL)]:=fun LL=>by
  rcases hk with q | ⟨q,q8⟩
  ·subst q; push_cast [DL.ap_seq]
  ·subst q;have n8:¬(n:Int)=8:=by omega
   push_cast [n8]
 rw [ap_seq,q0,sq_nxt,ap_seq,q1,sq_nxt,ap_seq,q2,sq_nxt,ap_seq,q3,sq_nxt,rt,out_ret]
end
theorem nw' (t0 t1 t2 t3 t4 t5 t6 t7:Int):F_qm [TI [t0,t1,t2,t3,t4,t5,t6,t7],.int 2]=.ok (.int ((d32 (decide (t1=0)) (decide (t2=0)) (decide (t3=0)) (decide (t4=0)) (decide (t5=0)) (decide (t6=0)) (decide (t7=0)):Nat):Int)):=by
 have ln:lenG [TI [t0,t1,t2,t3,t4,t5,t6,t7]]=.ok (.int 8):=rfl;have an:=any4 t4 t5 t6 t7;have cu:cutD (TI [t0,t1,t2,t3,t4,t5,t6,t7]) (some 4) none=.ok (TI [t4,t5,t6,t7]):=rfl;have cv:cutD (TI [t0,t1,t2,t3,t4,t5,t6,t7]) none (some 4)=.ok (TI [t0,t1,t2,t3]):=rfl;have rg:=rg8;show outD (b_qm [some (.arg (TI [t0,t1,t2,t3,t4,t5,t6,t7])),some (.arg (.int 2)),none,none])=_;unfold b_qm
 cases hz:(decide (t4=0) && decide (t5=0) && (decide (t6=0) && decide (t7=0))) with
 | false =>
  rw [hz] at an;have rt:=iq' (ts:=[t0,t1,t2,t3,t4,t5,t6,t7]) (by simp) (s0:=some (.arg (TI [t0,t1,t2,t3,t4,t5,t6,t7]))) (s1:=some (.arg (.int 2))) rfl (n:=8) [1,4,5] (by decide) (by decide);have tb:=tb4 (decide (t0=0)) (decide (t1=0)) (decide (t2=0)) (decide (t3=0)) (decide (t4=0)) (decide (t5=0)) (decide (t6=0)) (decide (t7=0)) hz;have tb':8 / cnt [0,1,4,5] (zs [t0,t1,t2,t3,t4,t5,t6,t7])=_:=tb;rw [tb'] at rt;generalize TI [t0,t1,t2,t3,t4,t5,t6,t7]=TT at *;have q0:(setD 2 (bindF (consD (slotD 0) (fun _=>.ok [])) lenG)) [some (.arg TT),some (.arg (.int 2)),none,none]=.nxt [some (.arg TT),some (.arg (.int 2)),some (.val (.int 8)),none]:=by push_cast [ln]
  have q1:(ifS (bindT (two (slotD 1) (fun _=>.ok (.int 1)) eqD) boolD) (seqD (whileF fuel_qm_1 (andT (bindT (two (slotD 2) (fun _=>.ok (.int 1)) (cmpD fun i j=>decide (j < i))) boolD) (notT (bindT (bindF (consD (sliceF (slotD 0) (partF (two (slotD 2) (fun _=>.ok (.int 2)) fdivD)) (partF (slotD 2))) (fun _=>.ok [])) anyT) truthD))) (setD 2 (two (slotD 2) (fun _=>.ok (.int 2)) fdivD))) (retD (slotD 2))) Out.nxt) [some (.arg TT),some (.arg (.int 2)),some (.val (.int 8)),none]=.nxt [some (.arg TT),some (.arg (.int 2)),some (.val (.int 8)),none]:=by push_cast [DL.ap_seq]
  have q2:∃LL,(setD 3 (bindF (consD (slotD 2) (fun _=>.ok [])) lrG)) [some (.arg TT),some (.arg (.int 2)),some (.val (.int 8)),none]=.nxt [some (.arg TT),some (.arg (.int 2)),some (.val (.int 8)),some (.val LL)]:=⟨.lst ([0,1,2,3,4,5,6,7].map fun g:Nat=>D.int (g:Int)),by push_cast [rg]⟩;obtain ⟨LL,q2⟩:=q2;have q3:(ifS (andT (bindT (two (slotD 1) (fun _=>.ok (.int 2)) eqD) boolD) (andT (bindT (two (slotD 2) (fun _=>.ok (.int 8)) eqD) boolD) (bindT (bindF (consD (sliceF (slotD 0) (partF (fun _=>.ok (.int 4))) noPart) (fun _=>.ok [])) anyT) truthD))) (setD 3 (lstF (consD (fun _=>.ok (.int 0)) (consD (fun _=>.ok (.int 1)) (consD (fun _=>.ok (.int 4)) (consD (fun _=>.ok (.int 5)) (fun _=>.ok []))))))) (ifS (andT (bindT (two (slotD 1) (fun _=>.ok (.int 2)) eqD) boolD) (bindT (two (slotD 2) (fun _=>.ok (.int 8)) eqD) boolD)) (seqD (setD 0 (sliceF (slotD 0) noPart (partF (fun _=>.ok (.int 4))))) (seqD (setD 2 (fun _=>.ok (.int 4))) (setD 3 (lstF (consD (fun _=>.ok (.int 0)) (consD (fun _=>.ok (.int 1)) (consD (fun _=>.ok (.int 2)) (consD (fun _=>.ok (.int 3)) (fun _=>.ok []))))))))) Out.nxt)) [some (.arg TT),some (.arg (.int 2)),some (.val (.int 8)),some (.val LL)]=.nxt [some (.arg TT),some (.arg (.int 2)),some (.val (.int 8)),some (.val (.lst [.int 0,.int 1,.int 4,.int 5]))]:=by push_cast [cu,an]
  rw [ap_seq,q0,sq_nxt,ap_seq,q1,sq_nxt,ap_seq,q2,sq_nxt,ap_seq,q3,sq_nxt];exact (congrArg outD rt).trans rfl
 | true =>
  rw [hz] at an;have rt:=iq' (ts:=[t0,t1,t2,t3]) (by simp) (s0:=some (.val (TI [t0,t1,t2,t3]))) (s1:=some (.arg (.int 2))) rfl (n:=4) [1,2,3] (by decide) (by decide);have tb':4 / cnt [0,1,2,3] (zs [t0,t1,t2,t3])=_:=tb2 (decide (t0=0)) (decide (t1=0)) (decide (t2=0)) (decide (t3=0));have dd:d32 (decide (t1=0)) (decide (t2=0)) (decide (t3=0)) (decide (t4=0)) (decide (t5=0)) (decide (t6=0)) (decide (t7=0))=d20 (decide (t1=0)) (decide (t2=0)) (decide (t3=0)):=by
   unfold d32; rw [if_pos hz]
  rw [tb',<- dd] at rt;generalize TI [t0,t1,t2,t3,t4,t5,t6,t7]=TT at *;have q0:(setD 2 (bindF (consD (slotD 0) (fun _=>.ok [])) lenG)) [some (.arg TT),some (.arg (.int 2)),none,none]=.nxt [some (.arg TT),some (.arg (.int 2)),some (.val (.int 8)),none]:=by push_cast [ln]
  have q1:(ifS (bindT (two (slotD 1) (fun _=>.ok (.int 1)) eqD) boolD) (seqD (whileF fuel_qm_1 (andT (bindT (two (slotD 2) (fun _=>.ok (.int 1)) (cmpD fun i j=>decide (j < i))) boolD) (notT (bindT (bindF (consD (sliceF (slotD 0) (partF (two (slotD 2) (fun _=>.ok (.int 2)) fdivD)) (partF (slotD 2))) (fun _=>.ok [])) anyT) truthD))) (setD 2 (two (slotD 2) (fun _=>.ok (.int 2)) fdivD))) (retD (slotD 2))) Out.nxt) [some (.arg TT),some (.arg (.int 2)),some (.val (.int 8)),none]=.nxt [some (.arg TT),some (.arg (.int 2)),some (.val (.int 8)),none]:=by push_cast [DL.ap_seq]
  have q2:∃LL,(setD 3 (bindF (consD (slotD 2) (fun _=>.ok [])) lrG)) [some (.arg TT),some (.arg (.int 2)),some (.val (.int 8)),none]=.nxt [some (.arg TT),some (.arg (.int 2)),some (.val (.int 8)),some (.val LL)]:=⟨.lst ([0,1,2,3,4,5,6,7].map fun g:Nat=>D.int (g:Int)),by push_cast [rg]⟩;obtain ⟨LL,q2⟩:=q2;have q3:(ifS (andT (bindT (two (slotD 1) (fun _=>.ok (.int 2)) eqD) boolD) (andT (bindT (two (slotD 2) (fun _=>.ok (.int 8)) eqD) boolD) (bindT (bindF (consD (sliceF (slotD 0) (partF (fun _=>.ok (.int 4))) noPart) (fun _=>.ok [])) anyT) truthD))) (setD 3 (lstF (consD (fun _=>.ok (.int 0)) (consD (fun _=>.ok (.int 1)) (consD (fun _=>.ok (.int 4)) (consD (fun _=>.ok (.int 5)) (fun _=>.ok []))))))) (ifS (andT (bindT (two (slotD 1) (fun _=>.ok (.int 2)) eqD) boolD) (bindT (two (slotD 2) (fun _=>.ok (.int 8)) eqD) boolD)) (seqD (setD 0 (sliceF (slotD 0) noPart (partF (fun _=>.ok (.int 4))))) (seqD (setD 2 (fun _=>.ok (.int 4))) (setD 3 (lstF (consD (fun _=>.ok (.int 0)) (consD (fun _=>.ok (.int 1)) (consD (fun _=>.ok (.int 2)) (consD (fun _=>.ok (.int 3)) (fun _=>.ok []))))))))) Out.nxt)) [some (.arg TT),some (.arg (.int 2)),some (.val (.int 8)),some (.val LL)]=.nxt [some (.val (TI [t0,t1,t2,t3])),some (.arg (.int 2)),some (.val (.int 4)),some (.val (.lst [.int 0,.int 1,.int 2,.int 3]))]:=by push_cast [cu,an,cv]
  rw [ap_seq,q0,sq_nxt,ap_seq,q1,sq_nxt,ap_seq,q2,sq_nxt,ap_seq,q3,sq_nxt];exact (congrArg outD rt).trans rfl
theorem gy' {TT:D} (s1:Option SV) {m lo:Nat} (hm:1 < m) (h8:m<=8) (e:m / 2=lo) {us:List Int} {b:Bool} (cu:cutD TT (some (lo:Int)) (some (m:Int))=.ok (TI us)) (an:anyT [TI us]=.ok (.bl b)):(andT (bindT (two (slotD 2) (fun _=>.ok (.int 1)) (cmpD fun i j=>decide (j < i))) boolD) (notT (bindT (bindF (consD (sliceF (slotD 0) (partF (two (slotD 2) (fun _=>.ok (.int 2)) fdivD)) (partF (slotD 2))) (fun _=>.ok [])) anyT) truthD))) [some (.arg TT),s1,some (.val (.int (m:Int))),none]=.ok (!b)/\(setD 2 (two (slotD 2) (fun _=>.ok (.int 2)) fdivD)) [some (.arg TT),s1,some (.val (.int (m:Int))),none]=.nxt [some (.arg TT),s1,some (.val (.int (lo:Int))),none]:=by
 have fd:fdivD (.int (m:Int)) (.int 2)=.ok (.int (lo:Int)):=by
  have:fdivD (.int (m:Int)) (.int 2)=_:=cs' (show (2:Int)≠0 by decide) (Nat.lt_of_lt_of_le (show (2:Int).natAbs < 2 ^ 2 by decide) (bn' (by decide)));rw [this,Int.fdiv_eq_ediv_of_nonneg _ (by omega),<- e]; rfl
 have lt:(1:Int) < (m:Int):=by omega
 constructor
 ·cases b <;> push_cast [fd,cu,an,lt]
 ·push_cast [fd]
theorem jz' {TT:D} (s1:Option SV):(andT (bindT (two (slotD 2) (fun _=>.ok (.int 1)) (cmpD fun i j=>decide (j < i))) boolD) (notT (bindT (bindF (consD (sliceF (slotD 0) (partF (two (slotD 2) (fun _=>.ok (.int 2)) fdivD)) (partF (slotD 2))) (fun _=>.ok [])) anyT) truthD))) [some (.arg TT),s1,some (.val (.int ((1:Nat):Int))),none]=.ok false:=by
 push_cast [show ¬((1:Int) < ((1:Nat):Int)) by decide]
theorem jA' {TT:D} {n m:Nat} (ln:lenG [TT]=.ok (.int (n:Int))) (hw:whileD (andT (bindT (two (slotD 2) (fun _=>.ok (.int 1)) (cmpD fun i j=>decide (j < i))) boolD) (notT (bindT (bindF (consD (sliceF (slotD 0) (partF (two (slotD 2) (fun _=>.ok (.int 2)) fdivD)) (partF (slotD 2))) (fun _=>.ok [])) anyT) truthD))) (setD 2 (two (slotD 2) (fun _=>.ok (.int 2)) fdivD)) 5 [some (.arg TT),some (.arg (.int 1)),some (.val (.int (n:Int))),none]=.nxt [some (.arg TT),some (.arg (.int 1)),some (.val (.int (m:Int))),none]):F_qm [TT,.int 1]=.ok (.int (m:Int)):=by
 show outD (b_qm [some (.arg TT),some (.arg (.int 1)),none,none])=_;unfold b_qm;have q0:(setD 2 (bindF (consD (slotD 0) (fun _=>.ok [])) lenG)) [some (.arg TT),some (.arg (.int 1)),none,none]=.nxt [some (.arg TT),some (.arg (.int 1)),some (.val (.int (n:Int))),none]:=by push_cast [ln]
 have fu:∀δ,fuel_qm_1 δ=5:=fun _=>rfl;have q1:(ifS (bindT (two (slotD 1) (fun _=>.ok (.int 1)) eqD) boolD) (seqD (whileF fuel_qm_1 (andT (bindT (two (slotD 2) (fun _=>.ok (.int 1)) (cmpD fun i j=>decide (j < i))) boolD) (notT (bindT (bindF (consD (sliceF (slotD 0) (partF (two (slotD 2) (fun _=>.ok (.int 2)) fdivD)) (partF (slotD 2))) (fun _=>.ok [])) anyT) truthD))) (setD 2 (two (slotD 2) (fun _=>.ok (.int 2)) fdivD))) (retD (slotD 2))) Out.nxt) [some (.arg TT),some (.arg (.int 1)),some (.val (.int (n:Int))),none]=.ret (.int (m:Int)):=by
  simp only [ap_if,ap_bT,ap_two,sl1,vw_arg,bnd_ok,eqI,bool_ok,ont_ok,decide_true,↓reduceIte,ap_seq,fE',fu,hw,sq_nxt,ap_ret,sl2,vw_val,on_ok]
 rw [ap_seq,q0,sq_nxt,ap_seq,q1,sq_ret,out_ret]
theorem nx' (t0:Int):F_qm [TI [t0],.int 1]=.ok (.int ((1:Nat):Int)):=jA' (n:=1) rfl (aJ' (jz' _))
theorem ny' (t0 t1:Int):F_qm [TI [t0,t1],.int 1]=.ok (.int ((dg1 (decide (t1=0)):Nat):Int)):=by
 obtain ⟨c,b⟩:=gy' (TT:=TI [t0,t1]) (some (.arg (.int 1))) (m:=2) (lo:=1) (by decide) (by decide) rfl (us:=[t1]) rfl (any1 t1);refine jA' (n:=2) rfl ?_;unfold dg1
 cases h1:decide (t1=0) with
 | true=>rw [h1] at c; exact (aW' c b).trans (aJ' (jz' _))
 | false=>rw [h1] at c; exact aJ' c
theorem nz' (t0 t1 t2 t3:Int):F_qm [TI [t0,t1,t2,t3],.int 1]=.ok (.int ((d21 (decide (t1=0)) (decide (t2=0)) (decide (t3=0)):Nat):Int)):=by
 obtain ⟨c2,e2⟩:=gy' (TT:=TI [t0,t1,t2,t3]) (some (.arg (.int 1))) (m:=4) (lo:=2) (by decide) (by decide) rfl (us:=[t2,t3]) rfl (any2 t2 t3);obtain ⟨c,b⟩:=gy' (TT:=TI [t0,t1,t2,t3]) (some (.arg (.int 1))) (m:=2) (lo:=1) (by decide) (by decide) rfl (us:=[t1]) rfl (any1 t1);refine jA' (n:=4) rfl ?_;unfold d21 dg1
 cases h2:(decide (t2=0) && decide (t3=0)) with
 | true =>
  rw [h2] at c2;refine (aW' c2 e2).trans ?_
  cases h1:decide (t1=0) with
  | true=>rw [h1] at c; exact (aW' c b).trans (aJ' (jz' _))
  | false=>rw [h1] at c; exact aJ' c
 | false =>
  rw [h2] at c2;exact aJ' c2
theorem nA' (t0 t1 t2 t3 t4 t5 t6 t7:Int):F_qm [TI [t0,t1,t2,t3,t4,t5,t6,t7],.int 1]=.ok (.int ((d31 (decide (t1=0)) (decide (t2=0)) (decide (t3=0)) (decide (t4=0)) (decide (t5=0)) (decide (t6=0)) (decide (t7=0)):Nat):Int)):=by
 obtain ⟨c3,e3⟩:=gy' (TT:=TI [t0,t1,t2,t3,t4,t5,t6,t7]) (some (.arg (.int 1))) (m:=8) (lo:=4) (by decide) (by decide) rfl (us:=[t4,t5,t6,t7]) rfl (any4 t4 t5 t6 t7);obtain ⟨c2,e2⟩:=gy' (TT:=TI [t0,t1,t2,t3,t4,t5,t6,t7]) (some (.arg (.int 1))) (m:=4) (lo:=2) (by decide) (by decide) rfl (us:=[t2,t3]) rfl (any2 t2 t3);obtain ⟨c,b⟩:=gy' (TT:=TI [t0,t1,t2,t3,t4,t5,t6,t7]) (some (.arg (.int 1))) (m:=2) (lo:=1) (by decide) (by decide) rfl (us:=[t1]) rfl (any1 t1);refine jA' (n:=8) rfl ?_;unfold d31 d21 dg1
 cases h3:(decide (t4=0) && decide (t5=0) && (decide (t6=0) && decide (t7=0))) with
 | false =>
  rw [h3] at c3;exact aJ' c3
 | true =>
  rw [h3] at c3;refine (aW' c3 e3).trans ?_
  cases h2:(decide (t2=0) && decide (t3=0)) with
  | true =>
   rw [h2] at c2;refine (aW' c2 e2).trans ?_
   cases h1:decide (t1=0) with
   | true=>rw [h1] at c; exact (aW' c b).trans (aJ' (jz' _))
   | false=>rw [h1] at c; exact aJ' c
  | false =>
   rw [h2] at c2;exact aJ' c2
structure Sc3 (R1 R2 R3:List Int) (κ:Nat):Prop where
 l1:R1.length=1
 l2:R2.length=2
 l3:R3.length=4
 c1:Bd 10 R1
 c2:Bd 10 R2
 c3:Bd 10 R3
 ex:∃(h1:0 < onil R1) (n1:∀z:ratOF.C,z * z≠onil R1) (h2:0 < exOf onil R1 h1 n1 R2) (n2:∀z:(EF ratOF (onil R1) h1 n1).C,z * z≠exOf onil R1 h1 n1 R2) (_:0 < exOf (exOf onil R1 h1 n1) R2 h2 n2 R3) (_:∀z:(EF (EF ratOF (onil R1) h1 n1) (exOf onil R1 h1 n1 R2) h2 n2).C,z * z≠exOf (exOf onil R1 h1 n1) R2 h2 n2 R3),
  (κ=0/\cj (exOf onil R1 h1 n1 R2)=exOf onil R1 h1 n1 R2/\cj (exa (exOf (exOf onil R1 h1 n1) R2 h2 n2 R3))=exa (exOf (exOf onil R1 h1 n1) R2 h2 n2 R3)/\exb (exOf (exOf onil R1 h1 n1) R2 h2 n2 R3)=0)\/(κ=1/\Ext.nrm (r:=onil R1) (exOf onil R1 h1 n1 R2) < 0/\Kd1 h1 n1 h2 n2 R3)\/(κ=2/\cj (exOf onil R1 h1 n1 R2)=exOf onil R1 h1 n1 R2/\Kd1 h1 n1 h2 n2 R3)
theorem tow1 {R1:List Int} (l1:R1.length=1) (h1:0 < onil R1) (n1:∀z:ratOF.C,z * z≠onil R1):Tow [R1] (EF ratOF (onil R1) h1 n1) (exOf onil R1 h1 n1):=Tow.cons Tow.nil R1 l1 h1 n1
theorem ir' {R1:List Int} (l1:R1.length=1) (h1:0 < onil R1) (n1:∀z:ratOF.C,z * z≠onil R1) (v:Int):cj (exOf onil R1 h1 n1 [v,0])=exOf onil R1 h1 n1 [v,0]:=by
 have e:exOf onil R1 h1 n1 [v,0]=((v:Int):(EF ratOF (onil R1) h1 n1).C):=cm' (tow1 l1 h1 n1) v;rw [e]; exact hm_cj.int v
theorem mkd {R1 R2:List Int} (l1:R1.length=1) (l2:R2.length=2) (h1:0 < onil R1) (n1:∀z:ratOF.C,z * z≠onil R1) (h2:0 < exOf onil R1 h1 n1 R2) (n2:∀z:(EF ratOF (onil R1) h1 n1).C,z * z≠exOf onil R1 h1 n1 R2) (o2:1 < exOf onil R1 h1 n1 R2) {e k:Int} (he:0<=e) (hk:e < k) :
  0 < exOf (exOf onil R1 h1 n1) R2 h2 n2 [e,0,k,0]/\(∀z:(EF (EF ratOF (onil R1) h1 n1) (exOf onil R1 h1 n1 R2) h2 n2).C,z * z≠exOf (exOf onil R1 h1 n1) R2 h2 n2 [e,0,k,0])/\Kd1 h1 n1 h2 n2 [e,0,k,0]:=by
 have T1:=tow1 l1 h1 n1;have ea:exOf onil R1 h1 n1 [e,0]=((e:Int):(EF ratOF (onil R1) h1 n1).C):=cm' T1 e;have eb:exOf onil R1 h1 n1 [k,0]=((k:Int):(EF ratOF (onil R1) h1 n1).C):=cm' T1 k;obtain ⟨p3,s3,_⟩:=nest T1 (r:=R2) l2 h2 n2 o2 he hk (r':=[e,0,k,0]) rfl (by rw [frH4]; exact ea) (by rw [bhH4]; exact eb);have xa:exa (exOf (exOf onil R1 h1 n1) R2 h2 n2 [e,0,k,0])=((e:Int):(EF ratOF (onil R1) h1 n1).C):=by
  show exOf onil R1 h1 n1 (frH [e,0,k,0])=_;rw [frH4]; exact ea
 have xb:exb (exOf (exOf onil R1 h1 n1) R2 h2 n2 [e,0,k,0])=((k:Int):(EF ratOF (onil R1) h1 n1).C):=by
  show exOf onil R1 h1 n1 (bhH [e,0,k,0])=_;rw [bhH4]; exact eb
 refine ⟨p3,s3,⟨by rw [xa]; exact hm_cj.int e,by rw [xb]; exact hm_cj.int k,?_⟩⟩;rw [xa,xb];have c0:(0:(EF ratOF (onil R1) h1 n1).C)<=((e:Int):(EF ratOF (onil R1) h1 n1).C):=by have:=cV' T1 he; rwa [Ring.intCast_zero] at this
 have ck:((e:Int):(EF ratOF (onil R1) h1 n1).C) + 1<=((k:Int):(EF ratOF (onil R1) h1 n1).C):=by
  have:=cV' T1 (show e + 1<=k by omega)
  rwa [Ring.intCast_add,Ring.intCast_one] at this
 exact (fk_1 o2 c0 ck).1
theorem fq_1 {F:OF} {y:F.C} (h:0 < y - 1):1 < y:=by grind
theorem fq_2 {F:OF}:(1:F.C) * 1=1:=by grind
theorem z10:(0:Int).natAbs < 2 ^ 10:=by decide
theorem nB' {m r c b e k:Int} (hr:0 < r) (h1:r * r < m) (h2:m < (r + 1) * (r + 1)) (hb:0 < b) (hc0:0<=c) (hc:c<=b * r) (he:0<=e) (hk:e < k) (bm:m.natAbs < 2 ^ 10) (bc:c.natAbs < 2 ^ 10) (bb:b.natAbs < 2 ^ 10) (bk:k.natAbs < 2 ^ 10):Sc3 [m] [c,b] [e,0,k,0] 1:=by
 obtain ⟨hp,hn,T1⟩:=jU' (Int.le_of_lt hr) h1 h2;have br:1<=b * r:=Int.mul_pos hb hr;have Q:∀x:Int,x * x<=b * r * (b * r)->((x:Int):Rat) * ((x:Int):Rat) - ((b:Int):Rat) * ((b:Int):Rat) * ((m:Int):Rat) < 0:=fun x hx=>by
  have q:x * x - b * b * m < 0:=by
   have q2:=Int.mul_lt_mul_of_pos_left h1 (Int.mul_pos hb hb);have e1:b * r * (b * r)=b * b * (r * r):=by grind
   omega
  have:=jo' q
  rwa [show ((x * x - b * b * m:Int):Rat)=((x:Int):Rat) * ((x:Int):Rat) - ((b:Int):Rat) * ((b:Int):Rat) * ((m:Int):Rat) by rw [Rat.intCast_sub,Rat.intCast_mul,Rat.intCast_mul,Rat.intCast_mul]] at this
 have q1:=Q c (Int.mul_le_mul hc hc hc0 (by omega));have q2:=Q (c - 1) (by
  by_cases z:c=0
  ·subst z;have:=Int.mul_le_mul br br (by decide) (by omega);omega
  ·exact Int.mul_le_mul (by omega) (by omega) (by omega) (by omega))
 have b0:(0:ratOF.C) < ((b:Int):Rat):=jo' hb;have p2:0 < exOf (F:=ratOF) hd0 [m] hp hn [c,b]:=by rw [ex2]; exact cE' (F:=ratOF) b0 q1
 have s2:NS (exOf (F:=ratOF) hd0 [m] hp hn [c,b]):=by rw [ex2]; exact jT' (F:=ratOF) q1
 have o2:1 < exOf (F:=ratOF) hd0 [m] hp hn [c,b]:=by
  have p:0 < mkE (F:=ratOF) hp hn (((c - 1:Int):Int):Rat) ((b:Int):Rat):=cE' (F:=ratOF) b0 q2;have s:mkE (F:=ratOF) hp hn ((c - 1:Int):Rat) ((b:Int):Rat)=mkE (F:=ratOF) hp hn ((c:Int):Rat) ((b:Int):Rat) - 1:=by
   refine Ext.eqs (F:=ratOF) ?_ ?_
   ·show ((c - 1:Int):Rat)=((c:Int):Rat) - 1;rw [Rat.intCast_sub]; rfl
   ·show ((b:Int):Rat)=((b:Int):Rat) - 0
    grind
  rw [s] at p;rw [ex2]
  grind
 have nn:Ext.nrm (r:=onil [m]) (exOf (F:=ratOF) hd0 [m] hp hn [c,b]) < 0:=by rw [ex2]; exact q1
 obtain ⟨p3,s3,kd⟩:=mkd (R1:=[m]) (R2:=[c,b]) rfl rfl hp hn p2 s2 o2 he hk;exact ⟨rfl,rfl,rfl,bd1 bm,bdc bc (bd1 bb),bdc (by omega) (bdc z10 (bdc bk (bd1 z10))),hp,hn,p2,s2,p3,s3,.inr (.inl ⟨rfl,nn,kd⟩)⟩
theorem nC' {p q s:Int} (h:IsSc [[s,0,0,0],[q,0],[p]]) (bp:p.natAbs < 2 ^ 10) (bq:q.natAbs < 2 ^ 10) (bs:s.natAbs < 2 ^ 10):Sc3 [p] [q,0] [s,0,0,0] 0/\∀e k:Int,0<=e->e < k->k.natAbs < 2 ^ 10->Sc3 [p] [q,0] [e,0,k,0] 2:=by
 obtain ⟨F,of,T⟩:=h
 cases T with
 | cons T2 _ l3 h3 n3 =>
  cases T2 with
  | cons T1 _ l2 h2 n2 =>
   cases T1 with
   | cons T0 _ l1 h1 n1 =>
    cases T0
    have f2:=ir' (R1:=[p]) rfl h1 n1 q;have T1:=tow1 (R1:=[p]) rfl h1 n1;have eq:exOf onil [p] h1 n1 [q,0]=((q:Int):(EF ratOF (onil [p]) h1 n1).C):=cm' T1 q;refine ⟨⟨rfl,rfl,rfl,bd1 bp,bdc bq (bd1 z10),bdc bs (bdc z10 (bdc z10 (bd1 z10))),h1,n1,h2,n2,h3,n3,.inl ⟨rfl,f2,?_,?_⟩⟩,fun e k he hk bk=>?_⟩
    ·show cj (exOf onil [p] h1 n1 (frH [s,0,0,0]))=exOf onil [p] h1 n1 (frH [s,0,0,0]);rw [frH4]; exact ir' (R1:=[p]) rfl h1 n1 s
    ·show exOf onil [p] h1 n1 (bhH [s,0,0,0])=0;rw [bhH4]; exact cx' T1
    ·have o2:1 < exOf onil [p] h1 n1 [q,0]:=by
      have q0:0 < q:=by
       by_cases z:0 < q
       ·exact z
       ·exfalso;have w:=cV' T1 (show q<=0 by omega);have h2':0 < exOf onil [p] h1 n1 [q,0]:=h2;rw [Ring.intCast_zero,<- eq] at w;exact Std.lt_irrefl (Std.lt_of_lt_of_le h2' w)
      have q1:q≠1:=fun z=>by
       subst z;refine n2 1 ?_;have e1:exOf onil [p] h1 n1 [1,0]=(((1:Int)):(EF ratOF (onil [p]) h1 n1).C):=cm' T1 1;refine Eq.trans ?_ e1.symm;rw [Ring.intCast_one];exact fq_2
      have w:=bQ' T1 (show 0 < q - 1 by omega);rw [Ring.intCast_sub,<- eq,Ring.intCast_one] at w;exact fq_1 w
     obtain ⟨p3,s3,kd⟩:=mkd (R1:=[p]) (R2:=[q,0]) rfl rfl h1 n1 h2 n2 o2 he hk;exact ⟨rfl,rfl,rfl,bd1 bp,bdc bq (bd1 z10),bdc (by omega) (bdc z10 (bdc bk (bd1 z10))),h1,n1,h2,n2,p3,s3,.inr (.inr ⟨rfl,f2,kd⟩)⟩
theorem lv' (ns:List Int):∃(R1 R2 R3:List Int) (κ:Nat),Sc3 R1 R2 R3 κ/\F_qu [.lst (ns.map .int)]=.ok (.tup [.tup [TI R1,TI R2,TI R3],.int (κ:Int)]):=by
 have c0:F_qv [.lst (ns.map .int),.int 0]=_:=ka' ns 0;generalize cell ns 0=c at c0;have b0:=bM' c 0 (m:=6) (by decide);have x0:F_qq [.int c,.int 0,.int 6]=_:=bh' c 0 6 (by decide) (by decide);generalize mix c 0 6=y0 at b0 x0;have sq:(1 + y0) * (1 + y0)<=6 * 6:=Int.mul_le_mul (by omega) (by omega) (by omega) (by decide);have sq0:0<=(1 + y0) * (1 + y0):=Int.mul_nonneg (by omega) (by omega);have b1:=bM' c 1 (m:=2 * (1 + y0)) (by omega);have x1:F_qq [.int c,.int 1,.int (2 * (1 + y0))]=_:=bh' c 1 (2 * (1 + y0)) (by decide) (by omega);generalize mix c 1 (2 * (1 + y0))=y1 at b1 x1;have b2:=bM' c 2 (m:=3) (by decide);have x2:F_qq [.int c,.int 2,.int 3]=_:=bh' c 2 3 (by decide) (by decide);generalize mix c 2 3=y2 at b2 x2;have b3:=bM' c 3 (m:=3) (by decide);have x3:F_qq [.int c,.int 3,.int 3]=_:=bh' c 3 3 (by decide) (by decide);generalize mix c 3 3=y3 at b3 x3;have br:(1 + y2) * (1 + y0)<=3 * 6:=Int.mul_le_mul (by omega) (by omega) (by omega) (by decide);have br0:0<=(1 + y2) * (1 + y0):=Int.mul_nonneg (by omega) (by omega);have b4:=bM' c 4 (m:=(1 + y2) * (1 + y0) + 1) (by omega);have x4:F_qq [.int c,.int 4,.int ((1 + y2) * (1 + y0) + 1)]=_:=bh' c 4 ((1 + y2) * (1 + y0) + 1) (by decide) (by omega);generalize mix c 4 ((1 + y2) * (1 + y0) + 1)=y4 at b4 x4;have b9:=bM' c 9 (m:=4) (by decide);have x9:F_qq [.int c,.int 9,.int 4]=_:=bh' c 9 4 (by decide) (by decide);generalize mix c 9 4=y9 at b9 x9;have b59:=bM' c 5 (m:=1 + y9) (by omega);have x59:F_qq [.int c,.int 5,.int (1 + y9)]=_:=bh' c 5 (1 + y9) (by decide) (by omega);generalize mix c 5 (1 + y9)=y59 at b59 x59;have b5:=bM' c 5 (m:=1 + y3) (by omega);have x5:F_qq [.int c,.int 5,.int (1 + y3)]=_:=bh' c 5 (1 + y3) (by decide) (by omega);generalize mix c 5 (1 + y3)=y5 at b5 x5;have x6:F_qq [.int c,.int 6,.int 3]=_:=bh' c 6 3 (by decide) (by decide);generalize mix c 6 3=y6 at x6;have b7:=bM' c 7 (m:=6) (by decide);have x7:F_qq [.int c,.int 7,.int 6]=_:=bh' c 7 6 (by decide) (by decide);generalize mix c 7 6=y7 at b7 x7;have x8:F_qq [.int c,.int 8,.int 2]=_:=bh' c 8 2 (by decide) (by decide);generalize mix c 8 2=y8 at x8;have big:(1024:Nat)=2 ^ 10:=by decide
 have tiny:∀{a:Int},0<=a->a < 1000->a.natAbs < 2 ^ 1000:=fun {a} h1 h2=>Nat.lt_of_lt_of_le (show a.natAbs < 2 ^ 10 by rw [<- big]; omega) (Nat.pow_le_pow_right (by decide) (by decide));have m1:=mulI (a:=1 + y0) (b:=1 + y0) (tiny (by omega) (by omega)) (tiny (by omega) (by omega));have m2:=mulI (a:=2) (b:=1 + y0) (tiny (by omega) (by omega)) (tiny (by omega) (by omega));have m3:=mulI (a:=1 + y2) (b:=1 + y0) (tiny (by omega) (by omega)) (tiny (by omega) (by omega))
 by_cases h:y6=0
 ·obtain ⟨v1,v2,v3,e1,e2,e3,w1,w2,w3,_,_,sc⟩:=hY' y7 b7.1 b7.2;obtain ⟨s0,s2⟩:=nC' sc w1 w2 w3;have sf:F_qc [.int c,.int 3]=.ok (.tup [TI [v1],TI [v2,0],TI [v3,0,0,0]]):=by
   show outD (b_qc [some (.arg (.int c)),some (.arg (.int 3)),none,none,none,none,none,none,none])=_;unfold b_qc;have ct:=dA' [TI [v1],TI [v2,0],TI [v3,0,0,0]] 3;push_cast [x0,x1,x2,x3,x4,x5,x6,x7,m1,m2,m3,h,e1,e2,e3,modI (show (6:Int)≠0 by decide)];rfl
  have i1:ixD (.tup [TI [v1],TI [v2,0],TI [v3,0,0,0]]) (.int 1)=.ok (TI [v2,0]):=rfl;have i2:ixD (TI [v2,0]) (.int 1)=.ok (.int 0):=rfl;have cu:cutD (.tup [TI [v1],TI [v2,0],TI [v3,0,0,0]]) none (some 2)=.ok (.tup [TI [v1],TI [v2,0]]):=rfl
  by_cases h8:y8=0
  ·refine ⟨_,_,_,0,s0,?_⟩;show outD (b_qu [some (.arg (.lst (ns.map .int))),none,none,none])=_;unfold b_qu;generalize D.tup [TI [v1],TI [v2,0],TI [v3,0,0,0]]=GG at *;push_cast [c0,sf,i1,i2,x8,h8,decide_not]
  ·have k9:=s2 y59 (1 + y9) b59.1 b59.2 (by rw [<- big]; omega);refine ⟨_,_,_,2,k9,?_⟩;have ad:addD (.tup [TI [v1],TI [v2,0]]) (.tup [.tup [.int y59,.int 0,.int (1 + y9),.int 0]])=.ok (.tup [TI [v1],TI [v2,0],TI [y59,0,1 + y9,0]]):=rfl;show outD (b_qu [some (.arg (.lst (ns.map .int))),none,none,none])=_;unfold b_qu;generalize D.tup [TI [v1],TI [v2,0],TI [v3,0,0,0]]=GG at *;generalize D.tup [TI [v1],TI [v2,0]]=G2 at *;push_cast [c0,sf,i1,i2,x8,h8,x9,x59,cu,ad,decide_not]
 ·have ex:(1 + y0 + 1) * (1 + y0 + 1)=(1 + y0) * (1 + y0) + 2 * (1 + y0) + 1:=by grind
  have s1:=nB' (m:=(1 + y0) * (1 + y0) + 1 + y1) (r:=1 + y0) (c:=y4) (b:=1 + y2) (e:=y5) (k:=1 + y3) (by omega) (by omega) (by omega) (by omega) (by omega) (by omega) (by omega) (by omega) (by rw [<- big]; omega) (by rw [<- big]; omega) (by rw [<- big]; omega) (by rw [<- big]; omega);refine ⟨_,_,_,1,s1,?_⟩;have sf:F_qc [.int c,.int 3]=.ok (.tup [TI [(1 + y0) * (1 + y0) + 1 + y1],TI [y4,1 + y2],TI [y5,0,1 + y3,0]]):=by
   show outD (b_qc [some (.arg (.int c)),some (.arg (.int 3)),none,none,none,none,none,none,none])=_;unfold b_qc;push_cast [x0,x1,x2,x3,x4,x5,x6,m1,m2,m3,h];rfl
  have i1:ixD (.tup [TI [(1 + y0) * (1 + y0) + 1 + y1],TI [y4,1 + y2],TI [y5,0,1 + y3,0]]) (.int 1)=.ok (TI [y4,1 + y2]):=rfl;have i2:ixD (TI [y4,1 + y2]) (.int 1)=.ok (.int (1 + y2)):=rfl;have nz:¬(1 + y2=0):=by omega
  show outD (b_qu [some (.arg (.lst (ns.map .int))),none,none,none])=_;unfold b_qu;generalize D.tup [TI [(1 + y0) * (1 + y0) + 1 + y1],TI [y4,1 + y2],TI [y5,0,1 + y3,0]]=GG at *;push_cast [c0,sf,i1,i2,ne_eq,nz,not_false_eq_true]
section
variable {rs:List (List Int)} {F:OF} {of:List Int->F.C} {r:List Int} {hr:0 < of r} {hn:∀z:F.C,z * z≠of r}
theorem da (T:Tow rs F of) {b:Int} (hb:b≠0) (w:List Int):exa (exOf of r hr hn w / (b:(EF F (of r) hr hn).C))=of (frH w) / (b:F.C):=cy' _ b (aG' T hb)
theorem db (T:Tow rs F of) {b:Int} (hb:b≠0) (w:List Int):exb (exOf of r hr hn w / (b:(EF F (of r) hr hn).C))=of (bhH w) / (b:F.C):=cZ' _ b (aG' T hb)
end
theorem fz {F:OF} {a b:F.C} (h:b≠0):a / b=0↔a=0:=by
 constructor <;> intro q <;> grind
theorem fp' {R1:List Int} {h1:0 < onil R1} {n1:∀z:ratOF.C,z * z≠onil R1} {b:Int} (hb:b≠0) (t0 t1:Int):Fg (exOf onil R1 h1 n1 [t0,t1] / (b:(EF ratOF (onil R1) h1 n1).C)) (decide (t0=0)) (decide (t1=0)):=by
 have bz:(b:ratOF.C)≠0:=aG' Tow.nil hb;have ct:∀t:Int,((t:Int):ratOF.C)=0↔t=0:=fun t=>by
  constructor
  ·intro q;refine bL' (A:=ratOF) ?_;rw [Ring.intCast_zero]; exact q
  ·intro q; rw [q,Ring.intCast_zero]
 constructor
 ·have e:exa (exOf onil R1 h1 n1 [t0,t1] / (b:(EF ratOF (onil R1) h1 n1).C))=((t0:Int):ratOF.C) / (b:ratOF.C):=(da Tow.nil hb _).trans (congrArg (fun w=>onil w / (b:ratOF.C)) (frH2 t0 t1));rw [e,decide_eq_true_iff]; exact (ct t0).symm.trans (fz bz).symm
 ·have e:exb (exOf onil R1 h1 n1 [t0,t1] / (b:(EF ratOF (onil R1) h1 n1).C))=((t1:Int):ratOF.C) / (b:ratOF.C):=(db Tow.nil hb _).trans (congrArg (fun w=>onil w / (b:ratOF.C)) (bhH2 t0 t1));rw [e,decide_eq_true_iff]; exact (ct t1).symm.trans (fz bz).symm
theorem frH8 (a b c d e f g h:Int):frH [a,b,c,d,e,f,g,h]=[a,b,c,d]:=by simp [frH]
theorem bhH8 (a b c d e f g h:Int):bhH [a,b,c,d,e,f,g,h]=[e,f,g,h]:=by simp [bhH]
theorem tb0:∀b0:Bool,1 / cnt [0] [b0]=1:=by decide
theorem l1of {w:List Int} (h:w.length=1):∃t0,w=[t0]:=match w,h with | [a],_=>⟨a,rfl⟩
theorem l2of {w:List Int} (h:w.length=2):∃t0 t1,w=[t0,t1]:=match w,h with | [a,b],_=>⟨a,b,rfl⟩
theorem l4of {w:List Int} (h:w.length=4):∃t0 t1 t2 t3,w=[t0,t1,t2,t3]:=match w,h with | [a,b,c,d],_=>⟨a,b,c,d,rfl⟩
theorem l8of {w:List Int} (h:w.length=8):∃t0 t1 t2 t3 t4 t5 t6 t7,w=[t0,t1,t2,t3,t4,t5,t6,t7]:=match w,h with | [a,b,c,d,e,f,g,i],_=>⟨a,b,c,d,e,f,g,i,rfl⟩
theorem mP' {R1 R2 R3:List Int} {κ:Nat} (S:Sc3 R1 R2 R3 κ) {l:Nat} (hl:l<=3):∃rs F of,Tow rs F of/\rs.length=l/\(∀r∈rs,Bd 10 r)/\RT rs=.tup ([TI R1,TI R2,TI R3].take l)/\∀(d:D) (x:F.C),Nm of rs.length 31 d x->∃(w:List Int) (b:Int) (Dg:Nat),d=num w b/\F_qm [TI w,.int (κ:Int)]=.ok (.int (Dg:Int))/\Lg rs of [-x,1] (Dg + 1):=by
 obtain ⟨l1,l2,l3,c1,c2,c3,h1,n1,h2,n2,h3,n3,kk⟩:=S;have T1:=tow1 l1 h1 n1;have T2:=Tow.cons T1 R2 l2 h2 n2;have T3:=Tow.cons T2 R3 l3 h3 n3;have k3:κ=1\/((κ:Int)=0\/(κ:Int)=2):=by
  rcases kk with ⟨q,_⟩ | ⟨q,_⟩ | ⟨q,_⟩ <;> omega
 have:l=0\/l=1\/l=2\/l=3:=by omega
 rcases this with z | z | z | z <;> subst z
 ·refine ⟨[],_,_,Tow.nil,rfl,fun r hr=>absurd hr (by simp),rfl,fun d x hx=>?_⟩;obtain ⟨w,b,rfl,nf,lw,_⟩:=hx;obtain ⟨t0,rfl⟩:=l1of lw;refine ⟨_,b,1,rfl,?_,il' _⟩;rcases k3 with q | q
  ·subst q; exact nx' t0
  ·have:=jy' (ts:=[t0]) (n:=1) rfl (by decide) [] (by decide) (by decide) rg1 (k:=(κ:Int)) (by omega);have tb:1 / cnt [0] (zs [t0])=1:=tb0 (decide (t0=0));rw [tb] at this; exact this
 ·refine ⟨[R1],_,_,T1,rfl,fun r hr=>by rw [List.mem_singleton.mp hr]; exact c1,rfl,fun d x hx=>?_⟩;obtain ⟨w,b,rfl,nf,lw,_,_,ex⟩:=hx;have b0:b≠0:=by have:=nf.pos; omega
  obtain ⟨t0,t1,rfl⟩:=l2of lw;have g:=fp' (R1:=R1) (h1:=h1) (n1:=n1) b0 t0 t1;rw [<- ex] at g;refine ⟨_,b,dg1 (decide (t1=0)),rfl,?_,deg1 l1 c1 g⟩;rcases k3 with q | q
  ·subst q; exact ny' t0 t1
  ·have:=jy' (ts:=[t0,t1]) (n:=2) rfl (by decide) [1] (by decide) (by decide) rg2 (k:=(κ:Int)) (by omega);have tb:2 / cnt [0,1] (zs [t0,t1])=_:=tb1 (decide (t0=0)) (decide (t1=0));rw [tb] at this; exact this
 ·refine ⟨[R2,R1],_,_,T2,rfl,bd2 c1 c2,rfl,fun d x hx=>?_⟩;obtain ⟨w,b,rfl,nf,lw,_,_,ex⟩:=hx;have b0:b≠0:=by have:=nf.pos; omega
  obtain ⟨t0,t1,t2,t3,rfl⟩:=l4of lw;have gu:Fg (exa x) (decide (t0=0)) (decide (t1=0)):=by
   rw [ex,da T1 b0,frH4]; exact fp' b0 t0 t1
  have gv:Fg (exb x) (decide (t2=0)) (decide (t3=0)):=by
   rw [ex,db T1 b0,bhH4]; exact fp' b0 t2 t3
  have p20:((κ:Int)=0\/(κ:Int)=2)->F_qm [TI [t0,t1,t2,t3],.int (κ:Int)]=.ok (.int ((d20 (decide (t1=0)) (decide (t2=0)) (decide (t3=0)):Nat):Int)):=fun q=>by
   have:=jy' (ts:=[t0,t1,t2,t3]) (n:=4) rfl (by decide) [1,2,3] (by decide) (by decide) rg4 (k:=(κ:Int)) (by omega);have tb:4 / cnt [0,1,2,3] (zs [t0,t1,t2,t3])=_:=tb2 (decide (t0=0)) (decide (t1=0)) (decide (t2=0)) (decide (t3=0));rw [tb] at this; exact this
  rcases kk with ⟨q,f2,_⟩ | ⟨q,nn,_⟩ | ⟨q,f2,_⟩
  ·exact ⟨_,b,_,rfl,p20 (.inl (by omega)),jw' l1 l2 c1 c2 f2 gu gv⟩
  ·subst q; exact ⟨_,b,_,rfl,nz' t0 t1 t2 t3,mL' l1 l2 c1 c2 nn gu gv⟩
  ·exact ⟨_,b,_,rfl,p20 (.inr (by omega)),jw' l1 l2 c1 c2 f2 gu gv⟩
 ·refine ⟨[R3,R2,R1],_,_,T3,rfl,bd3 c1 c2 c3,rfl,fun d x hx=>?_⟩;obtain ⟨w,b,rfl,nf,lw,_,_,ex⟩:=hx;have b0:b≠0:=by have:=nf.pos; omega
  obtain ⟨t0,t1,t2,t3,t4,t5,t6,t7,rfl⟩:=l8of lw;have g0:Fg (exa (exa x)) (decide (t0=0)) (decide (t1=0)):=by
   rw [ex,da T2 b0,frH8,da T1 b0,frH4]; exact fp' b0 t0 t1
  have g2:Fg (exb (exa x)) (decide (t2=0)) (decide (t3=0)):=by
   rw [ex,da T2 b0,frH8,db T1 b0,bhH4]; exact fp' b0 t2 t3
  have g4:Fg (exa (exb x)) (decide (t4=0)) (decide (t5=0)):=by
   rw [ex,db T2 b0,bhH8,da T1 b0,frH4]; exact fp' b0 t4 t5
  have g6:Fg (exb (exb x)) (decide (t6=0)) (decide (t7=0)):=by
   rw [ex,db T2 b0,bhH8,db T1 b0,bhH4]; exact fp' b0 t6 t7
  rcases kk with ⟨q,f2,f3,f4⟩ | ⟨q,nn,kd⟩ | ⟨q,f2,kd⟩
  ·have:=jy' (ts:=[t0,t1,t2,t3,t4,t5,t6,t7]) (n:=8) rfl (by decide) [1,2,3,4,5,6,7] (by decide) (by decide) rg8 (k:=(κ:Int)) (by omega);have tb:8 / cnt [0,1,2,3,4,5,6,7] (zs [t0,t1,t2,t3,t4,t5,t6,t7])=_:=tb3 (decide (t0=0)) (decide (t1=0)) (decide (t2=0)) (decide (t3=0)) (decide (t4=0)) (decide (t5=0)) (decide (t6=0)) (decide (t7=0));rw [tb] at this;exact ⟨_,b,_,rfl,this,nv' l1 l2 l3 c1 c2 c3 f2 f3 f4 g0 g2 g4 g6⟩
  ·subst q; exact ⟨_,b,_,rfl,nA' t0 t1 t2 t3 t4 t5 t6 t7,nt' l1 l2 l3 c1 c2 c3 nn kd g0 g2 g4 g6⟩
  ·subst q; exact ⟨_,b,_,rfl,nw' t0 t1 t2 t3 t4 t5 t6 t7,nu' l1 l2 l3 c1 c2 c3 f2 kd g0 g2 g4 g6⟩
theorem lw' (fe:DS->Res D) (fl fu fs:DS->Res (Option Int)) (δ:DS):stepF fe fl fu fs δ=(fe δ).bind fun d=>(fl δ).bind fun l=>(fu δ).bind fun u=>(fs δ).bind fun st=>stepD d l u st:=Eq.trans rfl rfl
theorem is' (ns:List Int) (lo hi:Option Int) (k:Nat):stepL (ns.map D.int) lo hi k=(stepL ns lo hi k).map .int:=by
 unfold stepL;rw [List.length_map,List.map_filterMap]
 congr 1
 funext i
 rw [List.getElem?_map]
theorem jB' {ts:List Int} {d:D} (h:d∈enumD (ts.map D.int)):∃(i:Nat) (c:Int),i < ts.length/\d=.tup [.int (i:Int),.int c]:=by
 obtain ⟨i,hi⟩:=List.mem_iff_getElem?.mp h;rw [cQ',List.getElem?_map] at hi
 cases e:ts[i]? with
 | none=>rw [e] at hi; simp at hi
 | some c =>
  rw [e] at hi;simp only [Option.map_some,Option.some.injEq] at hi;exact ⟨i,c,(List.getElem?_eq_some_iff.mp e).1,hi.symm⟩
theorem eI' {s0 s1 s2 s3 s4 s5 t9 t10 t11:Option SV}:∀(L:List D),(∀d∈L,∃(i:Nat) (c:Int),i < 1000/\d=.tup [.int (i:Int),.int c])->∀(a:Int) (z8 z9:Option SV),∃(a':Int) (z8' z9':Option SV),
  forD (tupTgt [7,8]) (setD 6 (two (slotD 6) (two (two (two (fun _=>.ok (.int 2)) (slotD 7) mulE) (fun _=>.ok (.int 1)) addD) (two (slotD 8) (two (fun _=>.ok (.int 10)) (fun _=>.ok (.int 30)) powD) modD) mulE) addD)) L [s0,s1,s2,s3,s4,s5,some (.val (.int a)),z8,z9,t9,t10,t11]=.nxt [s0,s1,s2,s3,s4,s5,some (.val (.int a')),z8',z9',t9,t10,t11]
 | [],_,a,z8,z9=>⟨a,z8,z9,fQ'⟩
 | d :: L,h,a,z8,z9=>by
  obtain ⟨i,c,hi,rfl⟩:=h d (by simp);obtain ⟨a',z8',z9',e⟩:=eI' (s0:=s0) (s1:=s1) (s2:=s2) (s3:=s3) (s4:=s4) (s5:=s5) (t9:=t9) (t10:=t10) (t11:=t11) L (fun d hd=>h d (List.mem_cons_of_mem _ hd)) (a + (2 * (i:Int) + 1) * Int.fmod c (10 ^ 30)) (some (.val (.int (i:Int)))) (some (.val (.int c)));refine ⟨a',z8',z9',Eq.trans (bB' (δ1:=[s0,s1,s2,s3,s4,s5,some (.val (.int a)),some (.val (.int (i:Int))),some (.val (.int c)),t9,t10,t11]) ?_ ?_) e⟩
  ·rfl
  ·have m1:mulD (.int 2) (.int (i:Int))=_:=lo' (by decide);have pw:powD (.int 10) (.int 30)=.ok (.int (10 ^ 30)):=rfl;have mo:modD (.int c) (.int (10 ^ 30))=_:=modI (show (10 ^ 30:Int)≠0 by decide);have m2:mulD (.int (2 * (i:Int) + 1)) (.int (Int.fmod c (10 ^ 30)))=_:=lo' (by
    have e:(2:Nat) ^ 20=1048576:=by decide
    exact Nat.lt_of_lt_of_le (show (2 * (i:Int) + 1).natAbs < 2 ^ 20 by omega) (by decide))
   push_cast [m1,pw,mo,m2]
theorem ix4 {n:Nat} (h:n<=3):ixD (.lst [.int 1,.int 2,.int 4,.int 8]) (.int (n:Int))=.ok (.int ((2 ^ n:Nat):Int)):=by
 have:n=0\/n=1\/n=2\/n=3:=by omega
 rcases this with z | z | z | z <;> subst z <;> rfl
theorem lx' {G:D} {κ n Dg:Nat} {w:List Int} {b a:Int} {row:List Int} {s0 s4 s5 s7 s8 s10 s11:Option SV} (e1:F_qm [TI w,.int (κ:Int)]=.ok (.int (Dg:Int))) (e2:F_qx [G,num w b]=.ok (.lst (row.map .int))) (e3:F_qd [.lst (row.map .int),.int (n:Int)]=.ok (.bl true)) (e4:row.length=Dg + 1) (e5:F_qw [G,num w b,.lst (row.map .int)]=.ok (.bl true)) :
  (seqD (setD 10 (bindF (consD (two (slotD 9) (fun _=>.ok (.int 0)) ixD) (consD (slotD 2) (fun _=>.ok []))) F_qm)) (seqD (setD 11 (bindF (consD (slotD 1) (consD (slotD 9) (fun _=>.ok []))) F_qx)) (ifS (orT (notT (bindT (bindF (consD (slotD 11) (consD (slotD 3) (fun _=>.ok []))) F_qd) truthD)) (orT (bindT (two (bindF (consD (slotD 11) (fun _=>.ok [])) lenG) (two (slotD 10) (fun _=>.ok (.int 1)) addD) neD) boolD) (notT (bindT (bindF (consD (slotD 1) (consD (slotD 9) (consD (slotD 11) (fun _=>.ok [])))) F_qw) truthD)))) (retD (fun _=>.ok (.bl false))) Out.nxt))) [s0,some (.val G),some (.val (.int (κ:Int))),some (.val (.int (n:Int))),s4,s5,some (.val (.int a)),s7,s8,some (.val (num w b)),s10,s11]=.nxt [s0,some (.val G),some (.val (.int (κ:Int))),some (.val (.int (n:Int))),s4,s5,some (.val (.int a)),s7,s8,some (.val (num w b)),some (.val (.int (Dg:Int))),some (.val (.lst (row.map .int)))]:=by
 have i0:ixD (num w b) (.int 0)=.ok (TI w):=ix_tup0 _ _;have ln:lenG [.lst (row.map .int)]=.ok (.int ((Dg:Int) + 1)):=by
  show Res.ok (D.int ((row.map D.int).length:Int))=_;rw [List.length_map,e4]; rfl
 generalize num w b=NN at *;generalize D.lst (row.map .int)=RR at *;generalize TI w=WW at *;push_cast [i0,e1,e2,e3,ln,e5,decide_not]
theorem nD' (ns:List Int) (hl63:ns.length<=63):F_law [.lst (ns.map .int)]=.ok (.bl true):=by
 obtain ⟨l,l3,hl⟩:∃l:Nat,l<=3/\Int.fmod (cell ns 1) 4=(l:Int):=by
  have a:=Int.fmod_nonneg_of_pos (cell ns 1) (b:=4) (by decide);have b:=Int.fmod_lt_of_pos (cell ns 1) (b:=4) (by decide);exact ⟨(Int.fmod (cell ns 1) 4).toNat,by omega,by omega⟩
 have c1:F_qv [.lst (ns.map .int),.int 1]=_:=ka' ns 1;have m4:modD (.int (cell ns 1)) (.int 4)=_:=modI (show (4:Int)≠0 by decide);rw [hl] at m4;obtain ⟨R1,R2,R3,κ,S,er⟩:=lv' ns;obtain ⟨rs,F,of,T,rl,hr,eR,all⟩:=mP' S l3;have ct:=dA' [TI R1,TI R2,TI R3] l;rw [<- eR] at ct;have mi:=ix4 l3;have ln:=cU' rs;rw [rl] at ln;have stp:∃st:Nat,0 < st/\st<=8/\ixD (.lst [.int 8,.int 6,.int 4,.int 2]) (.int (l:Int))=.ok (.int (st:Int)):=by
  have:l=0\/l=1\/l=2\/l=3:=by omega
  rcases this with z | z | z | z <;> rw [z]
  ·exact ⟨8,by decide,by decide,ix_lst0 _ _⟩
  ·exact ⟨6,by decide,by decide,ix_lst1 _ _ _⟩
  ·exact ⟨4,by decide,by decide,ix_lst2 _ _ _ _⟩
  ·exact ⟨2,by decide,by decide,ix_lst3 _ _ _ _ _⟩
 obtain ⟨st,sp0,sp8,ist⟩:=stp;have one:∀a':Int,∃(w:List Int) (b:Int) (Dg:Nat) (row:List Int),F_qh [.int a',.int ((2 ^ l:Nat):Int)]=.ok (num w b)/\F_qm [TI w,.int (κ:Int)]=.ok (.int (Dg:Int))/\F_qx [RT rs,num w b]=.ok (.lst (row.map .int))/\F_qd [.lst (row.map .int),.int ((2 ^ l:Nat):Int)]=.ok (.bl true)/\row.length=Dg + 1/\F_qw [RT rs,num w b,.lst (row.map .int)]=.ok (.bl true):=fun a'=>by
  obtain ⟨d,v,ed,hd⟩:=ib' T (by omega) a';obtain ⟨w,b,Dg,rfl,g1,g2⟩:=all d v hd;obtain ⟨row,f1,f2,f3,f4⟩:=lp' T (by omega) hr hd g2;rw [rl] at ed f3;exact ⟨w,b,Dg,row,ed,g1,f1,f3,f2,f4⟩
 generalize RT rs=G at *;have rg:=hD' st (by omega);have cp:(compD 1 [0,4] (tgtN 0) (stepF (slotD 1) (partF (two (fun _=>.ok (.int 2)) (slotD 0) addD)) (partF (fun _=>.ok (.int 64))) (partF (slotD 2))) (bindRg (consD (slotD 4) (fun _=>.ok [])) rng1)) [some (SV.arg (.lst (ns.map .int))),some (.val G),some (.val (.int (κ:Int))),some (.val (.int ((2 ^ l:Nat):Int))),some (.val (.int (st:Int))),none,none,none,none,none,none,none]=.ok (.lst (((List.range st).map fun (k:Nat)=>(k:Int)).map fun t=>.lst ((stepL ns (some (2 + t)) (some 64) st).map .int))):=by
  refine bl' (rest:=[some (.arg (.lst (ns.map .int))),some (.arg (.int (st:Int)))]) (rngF (ds:=[.int (st:Int)]) rfl rg) rfl (by simp only [List.length_map,List.length_range]; exact Nat.le_trans sp8 (by decide)) fun t ht=>?_;have sd:stepD (.lst (ns.map .int)) (some (2 + t)) (some 64) (some (st:Int))=.ok (.lst ((stepL ns (some (2 + t)) (some 64) st).map .int)):=by
   show (if 1<=(st:Int) then Res.ok (D.lst (stepL (ns.map D.int) (some (2 + t)) (some 64) (st:Int).toNat)) else .stuck)=_
   rw [if_pos (by omega),Int.toNat_natCast,is']
  push_cast [lw',sd]
 have lp:=fK' (t:=tgtN 5) (b:=(seqD (setD 6 (fun _=>.ok (.int 0))) (seqD (forS (tupTgt [7,8]) (bindRg (consD (slotD 5) (fun _=>.ok [])) enumG) (setD 6 (two (slotD 6) (two (two (two (fun _=>.ok (.int 2)) (slotD 7) mulE) (fun _=>.ok (.int 1)) addD) (two (slotD 8) (two (fun _=>.ok (.int 10)) (fun _=>.ok (.int 30)) powD) modD) mulE) addD))) (seqD (setD 9 (bindF (consD (slotD 6) (consD (slotD 3) (fun _=>.ok []))) F_qh)) (seqD (setD 10 (bindF (consD (two (slotD 9) (fun _=>.ok (.int 0)) ixD) (consD (slotD 2) (fun _=>.ok []))) F_qm)) (seqD (setD 11 (bindF (consD (slotD 1) (consD (slotD 9) (fun _=>.ok []))) F_qx)) (ifS (orT (notT (bindT (bindF (consD (slotD 11) (consD (slotD 3) (fun _=>.ok []))) F_qd) truthD)) (orT (bindT (two (bindF (consD (slotD 11) (fun _=>.ok [])) lenG) (two (slotD 10) (fun _=>.ok (.int 1)) addD) neD) boolD) (notT (bindT (bindF (consD (slotD 1) (consD (slotD 9) (consD (slotD 11) (fun _=>.ok [])))) F_qw) truthD)))) (retD (fun _=>.ok (.bl false))) Out.nxt))))))) (P:=fun δ=>∃z5 z6 z7 z8 z9 z10 z11,δ=[some (SV.val (.lst (ns.map .int))),some (.val G),some (.val (.int (κ:Int))),some (.val (.int ((2 ^ l:Nat):Int))),some (.val (.int (st:Int))),z5,z6,z7,z8,z9,z10,z11])
  (((List.range st).map fun (k:Nat)=>(k:Int)).map fun t=>.lst ((stepL ns (some (2 + t)) (some 64) st).map .int)) (fun d hd δ hδ=>by
   obtain ⟨z5,z6,z7,z8,z9,z10,z11,rfl⟩:=hδ;obtain ⟨t,_,rfl⟩:=List.mem_map.mp hd;have sl:=ei' ns (some (2 + t)) (some 64) (k:=st) sp0;generalize stepL ns (some (2 + t)) (some 64) st=ts at *;obtain ⟨a',y7,y8,e⟩:=eI' (s0:=some (SV.val (.lst (ns.map .int)))) (s1:=some (.val G)) (s2:=some (.val (.int (κ:Int)))) (s3:=some (.val (.int ((2 ^ l:Nat):Int)))) (s4:=some (.val (.int (st:Int)))) (s5:=some (.val (.lst (ts.map .int)))) (t9:=z9.map thaw1) (t10:=z10.map thaw1) (t11:=z11.map thaw1) (enumD (ts.map .int)) (fun d hd=>by
    obtain ⟨i,c,hi,e⟩:=jB' hd;exact ⟨i,c,by omega,e⟩) 0 (z7.map thaw1) (z8.map thaw1)
   obtain ⟨w,b,Dg,row,ed,g1,f1,f3,f2,f4⟩:=one a';have rn:=lx' (a:=a') (s0:=some (SV.val (.lst (ns.map .int)))) (s4:=some (.val (.int (st:Int)))) (s5:=some (.val (.lst (ts.map .int)))) (s7:=y7.map thaw2) (s8:=y8.map thaw2) (s10:=(z10.map thaw1).map thaw2) (s11:=(z11.map thaw1).map thaw2) g1 f1 f3 f2 f4;have en:enumG [.lst (ts.map .int)]=.ok (enumD (ts.map .int)):=rfl;have q0:(setD 6 (fun _=>.ok (.int 0))) [some (SV.val (.lst (ns.map .int))),some (.val G),some (.val (.int (κ:Int))),some (.val (.int ((2 ^ l:Nat):Int))),some (.val (.int (st:Int))),some (.val (.lst (ts.map .int))),z6,z7,z8,z9,z10,z11]=.nxt [some (SV.val (.lst (ns.map .int))),some (.val G),some (.val (.int (κ:Int))),some (.val (.int ((2 ^ l:Nat):Int))),some (.val (.int (st:Int))),some (.val (.lst (ts.map .int))),some (.val (.int 0)),z7,z8,z9,z10,z11]:=rfl;have th:thaw [some (SV.val (.lst (ns.map .int))),some (.val G),some (.val (.int (κ:Int))),some (.val (.int ((2 ^ l:Nat):Int))),some (.val (.int (st:Int))),some (.val (.lst (ts.map .int))),some (.val (.int 0)),z7,z8,z9,z10,z11]=[some (SV.val (.lst (ns.map .int))),some (.val G),some (.val (.int (κ:Int))),some (.val (.int ((2 ^ l:Nat):Int))),some (.val (.int (st:Int))),some (.val (.lst (ts.map .int))),some (.val (.int 0)),z7.map thaw1,z8.map thaw1,z9.map thaw1,z10.map thaw1,z11.map thaw1]:=rfl;have to:thawO (.nxt [some (SV.val (.lst (ns.map .int))),some (.val G),some (.val (.int (κ:Int))),some (.val (.int ((2 ^ l:Nat):Int))),some (.val (.int (st:Int))),some (.val (.lst (ts.map .int))),some (.val (.int a')),y7,y8,z9.map thaw1,z10.map thaw1,z11.map thaw1])=.nxt [some (SV.val (.lst (ns.map .int))),some (.val G),some (.val (.int (κ:Int))),some (.val (.int ((2 ^ l:Nat):Int))),some (.val (.int (st:Int))),some (.val (.lst (ts.map .int))),some (.val (.int a')),y7.map thaw2,y8.map thaw2,(z9.map thaw1).map thaw2,(z10.map thaw1).map thaw2,(z11.map thaw1).map thaw2]:=rfl;have q1:(forS (tupTgt [7,8]) (bindRg (consD (slotD 5) (fun _=>.ok [])) enumG) (setD 6 (two (slotD 6) (two (two (two (fun _=>.ok (.int 2)) (slotD 7) mulE) (fun _=>.ok (.int 1)) addD) (two (slotD 8) (two (fun _=>.ok (.int 10)) (fun _=>.ok (.int 30)) powD) modD) mulE) addD))) [some (SV.val (.lst (ns.map .int))),some (.val G),some (.val (.int (κ:Int))),some (.val (.int ((2 ^ l:Nat):Int))),some (.val (.int (st:Int))),some (.val (.lst (ts.map .int))),some (.val (.int 0)),z7,z8,z9,z10,z11]=.nxt [some (SV.val (.lst (ns.map .int))),some (.val G),some (.val (.int (κ:Int))),some (.val (.int ((2 ^ l:Nat):Int))),some (.val (.int (st:Int))),some (.val (.lst (ts.map .int))),some (.val (.int a')),y7.map thaw2,y8.map thaw2,(z9.map thaw1).map thaw2,(z10.map thaw1).map thaw2,(z11.map thaw1).map thaw2]:=by
    push_cast [en,th,e,to]
   have q2:(setD 9 (bindF (consD (slotD 6) (consD (slotD 3) (fun _=>.ok []))) F_qh)) [some (SV.val (.lst (ns.map .int))),some (.val G),some (.val (.int (κ:Int))),some (.val (.int ((2 ^ l:Nat):Int))),some (.val (.int (st:Int))),some (.val (.lst (ts.map .int))),some (.val (.int a')),y7.map thaw2,y8.map thaw2,(z9.map thaw1).map thaw2,(z10.map thaw1).map thaw2,(z11.map thaw1).map thaw2]=.nxt [some (SV.val (.lst (ns.map .int))),some (.val G),some (.val (.int (κ:Int))),some (.val (.int ((2 ^ l:Nat):Int))),some (.val (.int (st:Int))),some (.val (.lst (ts.map .int))),some (.val (.int a')),y7.map thaw2,y8.map thaw2,some (.val (num w b)),(z10.map thaw1).map thaw2,(z11.map thaw1).map thaw2]:=by
    push_cast [ed]
   refine ⟨[some (SV.val (.lst (ns.map .int))),some (.val G),some (.val (.int (κ:Int))),some (.val (.int ((2 ^ l:Nat):Int))),some (.val (.int (st:Int))),some (.val (.lst (ts.map .int))),z6,z7,z8,z9,z10,z11],[some (SV.val (.lst (ns.map .int))),some (.val G),some (.val (.int (κ:Int))),some (.val (.int ((2 ^ l:Nat):Int))),some (.val (.int (st:Int))),some (.val (.lst (ts.map .int))),some (.val (.int a')),y7.map thaw2,y8.map thaw2,some (.val (num w b)),some (.val (.int (Dg:Int))),some (.val (.lst (row.map .int)))],rfl,?_,_,_,_,_,_,_,_,rfl⟩;rw [ap_seq,q0,sq_nxt,ap_seq,q1,sq_nxt,ap_seq,q2,sq_nxt,rn]) [some (SV.val (.lst (ns.map .int))),some (.val G),some (.val (.int (κ:Int))),some (.val (.int ((2 ^ l:Nat):Int))),some (.val (.int (st:Int))),none,none,none,none,none,none,none] ⟨_,_,_,_,_,_,_,rfl⟩
 obtain ⟨δ',el,_⟩:=lp;have th0:thaw [some (SV.arg (.lst (ns.map .int))),some (.val G),some (.val (.int (κ:Int))),some (.val (.int ((2 ^ l:Nat):Int))),some (.val (.int (st:Int))),none,none,none,none,none,none,none]=[some (SV.val (.lst (ns.map .int))),some (.val G),some (.val (.int (κ:Int))),some (.val (.int ((2 ^ l:Nat):Int))),some (.val (.int (st:Int))),none,none,none,none,none,none,none]:=rfl;show outD (b_law [some (.arg (.lst (ns.map .int))),none,none,none,none,none,none,none,none,none,none,none])=_;unfold b_law;have t0:(asgD (tupTgt [1,2]) (bindF (consD (slotD 0) (fun _=>.ok [])) F_qu)) [some (.arg (.lst (ns.map .int))),none,none,none,none,none,none,none,none,none,none,none]=.nxt [some (.arg (.lst (ns.map .int))),some (.val (.tup [TI R1,TI R2,TI R3])),some (.val (.int (κ:Int))),none,none,none,none,none,none,none,none,none]:=by
  unfold asgD;push_cast [er];rfl
 have t1:(setD 1 (sliceF (slotD 1) noPart (partF (two (bindF (consD (slotD 0) (consD (fun _=>.ok (.int 1)) (fun _=>.ok []))) F_qv) (fun _=>.ok (.int 4)) modD)))) [some (.arg (.lst (ns.map .int))),some (.val (.tup [TI R1,TI R2,TI R3])),some (.val (.int (κ:Int))),none,none,none,none,none,none,none,none,none]=.nxt [some (.arg (.lst (ns.map .int))),some (.val G),some (.val (.int (κ:Int))),none,none,none,none,none,none,none,none,none]:=by
  generalize D.tup [TI R1,TI R2,TI R3]=GG at *;push_cast [c1,m4,ct]
 have t2:(setD 3 (two (lstF (consD (fun _=>.ok (.int 1)) (consD (fun _=>.ok (.int 2)) (consD (fun _=>.ok (.int 4)) (consD (fun _=>.ok (.int 8)) (fun _=>.ok [])))))) (bindF (consD (slotD 1) (fun _=>.ok [])) lenG) ixD)) [some (.arg (.lst (ns.map .int))),some (.val G),some (.val (.int (κ:Int))),none,none,none,none,none,none,none,none,none]=.nxt [some (.arg (.lst (ns.map .int))),some (.val G),some (.val (.int (κ:Int))),some (.val (.int ((2 ^ l:Nat):Int))),none,none,none,none,none,none,none,none]:=by push_cast [ln,mi]
 have t3:(setD 4 (two (lstF (consD (fun _=>.ok (.int 8)) (consD (fun _=>.ok (.int 6)) (consD (fun _=>.ok (.int 4)) (consD (fun _=>.ok (.int 2)) (fun _=>.ok [])))))) (bindF (consD (slotD 1) (fun _=>.ok [])) lenG) ixD)) [some (.arg (.lst (ns.map .int))),some (.val G),some (.val (.int (κ:Int))),some (.val (.int ((2 ^ l:Nat):Int))),none,none,none,none,none,none,none,none]=.nxt [some (SV.arg (.lst (ns.map .int))),some (.val G),some (.val (.int (κ:Int))),some (.val (.int ((2 ^ l:Nat):Int))),some (.val (.int (st:Int))),none,none,none,none,none,none,none]:=by push_cast [ln,ist]
 rw [ap_seq,t0,sq_nxt,ap_seq,t1,sq_nxt,ap_seq,t2,sq_nxt,ap_seq,t3,sq_nxt];push_cast [cp,th0,el,th_o]
theorem eJ' {K:PySem.W.Frag} {H:Hp}:∀ns:List Int,Reps K H (ns.map .int) (ns.map V.int)
 | []=>.nil
 | n :: ns=>.cons mkI (eJ' ns)
end K40
namespace K40
open PySem PySem.Spec PyProof.Rows L2 DL
theorem all_mk {l:PySem.W.OpenLaw} {w:World} {K:PySem.W.Frag} {h:Heap} {mg:Str->Option Value} {fa c_HallError c_NoOver f_law:Addr} (X:K.In h) (G:h.Ns mainGlobals mg) (hfa:mg "law" = some (.ref fa))
  {od_law an_law:Option Addr} {sl_law:Array (Option Value)} {oc_law kV_law dc_law pm_law cd_law ct_law:Value}
  (n_HallError:PySem.W.nsIn K mainGlobals "HallError" = some (some (.ref c_HallError)))
  (n_NoOver:PySem.W.nsIn K mainGlobals "NoOver" = some (some (.ref c_NoOver)))
  (x_NoOver:PySem.W.excIn K c_NoOver [.type "ValueError",.type "Exception",.type "BaseException",.type "object"] "ValueError.__new__" = true)
  (l_qA:Lk K "common" st_qA)
  (l_qB:Lk K "lifted" st_qB)
  (l_qf:Lk K "are_noughts" st_qf)
  (l_qi:Lk K "front_tops" st_qi)
  (l_qg:Lk K "behind_tops" st_qg)
  (l_qo:Lk K "plus_tops" st_qo)
  (l_qe:Lk K "against_tops" st_qe)
  (l_qv:Lk K "_law_cell" st_qv)
  (l_qp:Lk K "_law_whole" st_qp)
  (l_qq:Lk K "_law_mixed" st_qq)
  (l_qr:Lk K "_law_added" st_qr)
  (l_qj:Lk K "_law_scaled" st_qj)
  (l_qk:Lk K "_law_common" st_qk)
  (l_qs:Lk K "_law_stays" st_qs)
  (l_qF:Lk K "made" st_qF)
  (l_qy:Lk K "against" st_qy)
  (l_qt:Lk K "is_nought" st_qt)
  (l_qC:Lk K "turned" st_qC)
  (l_qb:Lk K "without_bottoms" st_qb)
  (l_qc:Lk K "_law_scaffold" st_qc)
  (l_ql:Lk K "_law_lowest" st_ql)
  (l_qd:Lk K "_law_plain_row" st_qd)
  (l_qm:Lk K "_law_degree" st_qm)
  (l_qG:Lk K "plus" st_qG)
  (l_qD:Lk K "halves" st_qD)
  (l_qh:Lk K "_law_drawn" st_qh)
  (l_qu:Lk K "_law_roots" st_qu)
  (l_qn:Lk K "times_tops" st_qn)
  (l_qa:Lk K "_law_tops_times" st_qa)
  (l_qE:Lk K "times" st_qE)
  (l_qw:Lk K "_law_fits" st_qw)
  (l_qz:Lk K "product" st_qz)
  (l_qx:Lk K "equation" st_qx)
  (n_law:PySem.W.nsIn K mainGlobals "law" = some (some (.ref f_law)))
  (l_law:K.lookup f_law=some ⟨oc_law,od_law,.func (PySem.W.fnOf "law" "law" (defArgs bV') (defBody bV') (defScope bV') .none kV_law dc_law pm_law an_law cd_law ct_law),sl_law⟩)
  (c_law:PySem.W.codeIn K cd_law "law" = true)
  (k_law:PySem.W.keepIn K (.ref f_law)=true)
  (z_abs:PySem.W.nsIn K mainGlobals "abs" = some none)
  (z_all:PySem.W.nsIn K mainGlobals "all" = some none)
  (z_any:PySem.W.nsIn K mainGlobals "any" = some none)
  (z_bool:PySem.W.nsIn K mainGlobals "bool" = some none)
  (z_enumerate:PySem.W.nsIn K mainGlobals "enumerate" = some none)
  (z_int:PySem.W.nsIn K mainGlobals "int" = some none)
  (z_isinstance:PySem.W.nsIn K mainGlobals "isinstance" = some none)
  (z_len:PySem.W.nsIn K mainGlobals "len" = some none)
  (z_list:PySem.W.nsIn K mainGlobals "list" = some none)
  (z_range:PySem.W.nsIn K mainGlobals "range" = some none)
  (z_sum:PySem.W.nsIn K mainGlobals "sum" = some none)
  (z_tuple:PySem.W.nsIn K mainGlobals "tuple" = some none)
  (z_zip:PySem.W.nsIn K mainGlobals "zip" = some none)
  (e4:PySem.W.specialIn K (.builtin "object.__class__") "__get__" = some (some (.builtin "getset_descriptor.__get__")))
  (e5:PySem.W.takesIn K (.builtin "object.__class__")=some true)
  (i_int_int:PySem.W.kitOne K (.type "int") (.type "int")=some true)
  (i_bool_int:PySem.W.kitOne K (.type "bool") (.type "int")=some true)
  (i_NoneType_int:PySem.W.kitOne K (.type "NoneType") (.type "int")=some false)
  (i_str_int:PySem.W.kitOne K (.type "str") (.type "int")=some false)
  (i_tuple_int:PySem.W.kitOne K (.type "tuple") (.type "int")=some false)
  (i_list_int:PySem.W.kitOne K (.type "list") (.type "int")=some false)
  (i_dict_int:PySem.W.kitOne K (.type "dict") (.type "int")=some false)
  (i_int_bool:PySem.W.kitOne K (.type "int") (.type "bool")=some false)
  (i_bool_bool:PySem.W.kitOne K (.type "bool") (.type "bool")=some true)
  (i_NoneType_bool:PySem.W.kitOne K (.type "NoneType") (.type "bool")=some false)
  (i_str_bool:PySem.W.kitOne K (.type "str") (.type "bool")=some false)
  (i_tuple_bool:PySem.W.kitOne K (.type "tuple") (.type "bool")=some false)
  (i_list_bool:PySem.W.kitOne K (.type "list") (.type "bool")=some false)
  (i_dict_bool:PySem.W.kitOne K (.type "dict") (.type "bool")=some false)
  (i_int_list:PySem.W.kitOne K (.type "int") (.type "list")=some false)
  (i_bool_list:PySem.W.kitOne K (.type "bool") (.type "list")=some false)
  (i_NoneType_list:PySem.W.kitOne K (.type "NoneType") (.type "list")=some false)
  (i_str_list:PySem.W.kitOne K (.type "str") (.type "list")=some false)
  (i_tuple_list:PySem.W.kitOne K (.type "tuple") (.type "list")=some false)
  (i_list_list:PySem.W.kitOne K (.type "list") (.type "list")=some true)
  (i_dict_list:PySem.W.kitOne K (.type "dict") (.type "list")=some false)
  : ∃fd:FuncData,(∀(s:Shared) (v:Value),BindsTo s fd ⟨[v],[]⟩ [("_law_script",v)])/\∀base:Heap,K.In base->base.Ns mainGlobals mg->FnOk l.prog w K mg base (CX1 l.prog w) 9 fa fd ["_law_script"] (spD K F_law):=by
 have e:=hfa.symm.trans (PySem.W.mg_of X G n_law)
 cases e
 have F_law:=jF' (st:=bV') l_law c_law k_law;have T:Txt K mg { c_HallError:=c_HallError,c_NoOver:=c_NoOver }:={
  m_HallError:=PySem.W.mg_of X G n_HallError
  m_NoOver:=PySem.W.mg_of X G n_NoOver
  n_NoOver:=n_NoOver
  x_NoOver:=x_NoOver
  z_abs:=PySem.W.mg_none_of X G z_abs
  z_all:=PySem.W.mg_none_of X G z_all
  z_any:=PySem.W.mg_none_of X G z_any
  z_bool:=PySem.W.mg_none_of X G z_bool
  z_enumerate:=PySem.W.mg_none_of X G z_enumerate
  z_int:=PySem.W.mg_none_of X G z_int
  z_isinstance:=PySem.W.mg_none_of X G z_isinstance
  z_len:=PySem.W.mg_none_of X G z_len
  z_list:=PySem.W.mg_none_of X G z_list
  z_range:=PySem.W.mg_none_of X G z_range
  z_sum:=PySem.W.mg_none_of X G z_sum
  z_tuple:=PySem.W.mg_none_of X G z_tuple
  z_zip:=PySem.W.mg_none_of X G z_zip
  i_int:=by
   intro d b hd
   cases d <;> simp only [Bk.is_int] at hd <;> cases hd <;> first | exact i_int_int | exact i_bool_int | exact i_NoneType_int | exact i_str_int | exact i_tuple_int | exact i_list_int | exact i_dict_int
  i_bool:=by
   intro d b hd
   cases d <;> simp only [Bk.is_bool] at hd <;> cases hd <;> first | exact i_int_bool | exact i_bool_bool | exact i_NoneType_bool | exact i_str_bool | exact i_tuple_bool | exact i_list_bool | exact i_dict_bool
  i_list:=by
   intro d b hd
   cases d <;> simp only [Bk.is_list] at hd <;> cases hd <;> first | exact i_int_list | exact i_bool_list | exact i_NoneType_list | exact i_str_list | exact i_tuple_list | exact i_list_list | exact i_dict_list
 }
 refine ⟨PySem.W.fnOf "law" "law" (defArgs bV') (defBody bV') (defScope bV') .none kV_law dc_law pm_law an_law cd_law ct_law,fun s v=>.of_eq rfl,fun base _ _=>?_⟩;have G_qA:=ok_qA (P:=l.prog) (w:=w) (base:=base) T (ent2 X G l_qA);have G_qB:=ok_qB (P:=l.prog) (w:=w) (base:=base) T (ent2 X G l_qB);have G_qf:=ok_qf (P:=l.prog) (w:=w) (base:=base) T (ent1 X G l_qf);have G_qi:=ok_qi (P:=l.prog) (w:=w) (base:=base) T (ent1 X G l_qi);have G_qg:=ok_qg (P:=l.prog) (w:=w) (base:=base) T (ent1 X G l_qg);have G_qo:=ok_qo (P:=l.prog) (w:=w) (base:=base) T (ent2 X G l_qo);have G_qe:=ok_qe (P:=l.prog) (w:=w) (base:=base) T (ent1 X G l_qe);have G_qv:=ok_qv (P:=l.prog) (w:=w) (base:=base) T (ent2 X G l_qv);have G_qp:=ok_qp (P:=l.prog) (w:=w) (base:=base) T (ent1 X G l_qp);have G_qq:=ok_qq (P:=l.prog) (w:=w) (base:=base) T (ent3 X G l_qq);have G_qr:=ok_qr (P:=l.prog) (w:=w) (base:=base) T (ent2 X G l_qr);have G_qj:=ok_qj (P:=l.prog) (w:=w) (base:=base) T (ent2 X G l_qj);have G_qk:=ok_qk (P:=l.prog) (w:=w) (base:=base) T (ent2 X G l_qk);have G_qs:=ok_qs (P:=l.prog) (w:=w) (base:=base) T (ent2 X G l_qs);have G_qF:=ok_qF T (ent2 X G l_qF) G_qA;have G_qy:=ok_qy T (ent1 X G l_qy) G_qe;have G_qt:=ok_qt T (ent1 X G l_qt) G_qf;have G_qC:=ok_qC T (ent1 X G l_qC) G_qi G_qe G_qg;have G_qb:=ok_qb T (ent1 X G l_qb) G_qA;have G_qc:=ok_qc T (ent2 X G l_qc) G_qq;have G_ql:=ok_ql T (ent1 X G l_ql) G_qk;have G_qd:=ok_qd T (ent2 X G l_qd) G_qk G_qp;have G_qm:=ok_qm T (ent2 X G l_qm) G_qs;have G_qG:=ok_qG T (ent2 X G l_qG) G_qF;have G_qD:=ok_qD T (ent1 X G l_qD) G_qF G_qi G_qg;have G_qh:=ok_qh T (ent2 X G l_qh) G_ql G_qq;have G_qu:=ok_qu T (ent1 X G l_qu) G_qv G_qc G_qq;have G_qn:=ok_qn T (ent3 X G l_qn) G_qi G_qg G_qo;have G_qa:=ok_qa T (ent3 X G l_qa) G_qr;have G_qE:=ok_qE T (ent3 X G l_qE) G_qF G_qn;have G_qw:=ok_qw T (ent3 X G l_qw) G_qj G_qr G_qa;have G_qz:=ok_qz T (ent3 X G l_qz) G_qB G_qG G_qE;have G_qx:=ok_qx T (ent2 X G l_qx) G_qb G_qy G_qB G_qz G_qD G_qt G_qC;exact mu' T F_law G_qu G_qh G_qm G_qx G_qv G_qd G_qw
theorem walk {l:PySem.W.OpenLaw} {q:Program} {loose:List Str} {XP:(Str->Option Value)->Heap->Prop} {YP:World->Heap->Prop} {d:DefRec} {K:Params->PySem.W.Frag} (hn:l.most=some 63) (hdf:d.params.defaults=[])
  (hY:∀(w:World) (h:Heap),YP w h->(K w.params).In h)
  (F:∀(w:World) (mg:Str->Option Value) (fa:Addr) (h:Heap),(K w.params).In h->h.Ns mainGlobals mg->mg d.name=some (.ref fa) ->
   ∃fd:FuncData,(∀(s:Shared) (u:Value),BindsTo s fd ⟨[u],[]⟩ [("_law_script",u)])/\∀base:Heap,(K w.params).In base->base.Ns mainGlobals mg->FnOk l.prog w (K w.params) mg base (CX1 l.prog w) 9 fa fd ["_law_script"] (spD (K w.params) F_law)) :
  PySem.W.WalkO q loose XP YP l.row.toRowW d [] (fun f vs=>PySem.call f vs) :=
 L2.walk_of (n:=63) (k:=9) (x:="_law_script") (CX:=fun w=>CX1 l.prog w) (sp:=fun w=>spD (K w.params) F_law) hn (by decide) hdf ⟨rfl,by decide,by decide⟩ hY F
  (fun w H a ns hl _ hS=>⟨[.lst (ns.map .int)],.cons (mkL hS (eJ' ns)) .nil,by rw [nD' ns hl]; exact fun v H' _ r=>by rw [Rep] at r; exact r⟩)
  fun _ _ _ _ _ z=>by obtain ⟨_,_,_,_,_,_,_,_,_,_,z⟩:=z; exact z
end K40
open PySem PySem.W PyProof.Rows
def PySem.W.Fast.tw610274657704207231:Unit:=()
def PySem.W.Fast.tw17614492275861008637:Unit:=()
def PySem.W.Fast.tw6617731969499401682:Unit:=()
def PySem.W.Fast.tw17091039877227851119:Unit:=()
def PySem.W.Fast.tw14905978547625142439:Unit:=()
def PySem.W.Fast.tw15342064901516199257:Unit:=()
def PySem.W.Fast.tw12353673441760279826:Unit:=()
def PySem.W.Fast.tw11755902609583289843:Unit:=()
def PySem.W.Fast.tw8359666054370142150:Unit:=()
def PySem.W.Fast.tw12391061941829549831:Unit:=()
def PySem.W.Fast.tw18066962493846841018:Unit:=()
def PySem.W.Fast.tw9503652521415645712:Unit:=()
def PySem.W.Fast.tw13942397094794069074:Unit:=()
def PySem.W.Fast.tw9852101618693735830:Unit:=()
def PySem.W.Fast.tw4229707027485349419:Unit:=()
def PySem.W.Fast.tw3311598592516394412:Unit:=()
def PySem.W.Fast.tw8398477166157157883:Unit:=()
def PySem.W.Fast.tw640446492295531291:Unit:=()
def PySem.W.Fast.tw4586481964485894598:Unit:=()
def PySem.W.Fast.tw17416501870517678069:Unit:=()
def PySem.W.Fast.tw11751345250965425190:Unit:=()
def PySem.W.Fast.tw8775557867873215608:Unit:=()
def PySem.W.Fast.tw508541814511597312:Unit:=()
def PySem.W.Fast.tw2432220650549319588:Unit:=()
def PySem.W.Fast.tw1822924675020852230:Unit:=()
def PySem.W.Fast.tw8541838795571547294:Unit:=()
def PySem.W.Fast.tw9883495166573400600:Unit:=()
def PySem.W.Fast.tw7398476805248919567:Unit:=()
def PySem.W.Fast.tw503489494955835345:Unit:=()
def PySem.W.Fast.tw14590155685113086705:Unit:=()
def PySem.W.Fast.tw8135771443706519942:Unit:=()
def PySem.W.Fast.tw3741840989883272903:Unit:=()
def PySem.W.Fast.tw13193991109281896521:Unit:=()
def PySem.W.Fast.tw15603602876864039600:Unit:=()
def PySem.W.Fast.tw14775954418497722143:Unit:=()
def PySem.W.Fast.tw2420612398159764290:Unit:=()
def PySem.W.Fast.tw1861765126526902747:Unit:=()
def PySem.W.Fast.tw6962274705223815329:Unit:=()
def PySem.W.Fast.tw443477180923829314:Unit:=()
def PySem.W.Fast.tw2411683452121480248:Unit:=()
def PySem.W.Fast.tw2091150189558681839:Unit:=()
def PySem.W.Fast.tw4315246211387715199:Unit:=()
def PySem.W.Fast.tw12902572106482009442:Unit:=()
set_option maxRecDepth 100000 in
set_option maxHeartbeats 0 in
theorem PySem.Challenge.cw_compasshall_k40_least_equations_holds : PySem.Challenge.rw_compasshall_k40_least_equations.Holds := by
  w_on; o_law; k_head; (case hw => w_witness2)
  k_fill
  refine K40.walk (l := PySem.Challenge.rw_compasshall_k40_least_equations) rfl rfl (fun w h Y => PySem.W.kIn_of Y) ?F
  case F =>
    intro w mg fa h KX G hmg
    refine' K40.all_mk KX G hmg ?q0 ?q1 ?q2 ?q3 ?q4 ?q5 ?q6 ?q7 ?q8 ?q9 ?q10 ?q11 ?q12 ?q13 ?q14 ?q15 ?q16 ?q17 ?q18 ?q19 ?q20 ?q21 ?q22 ?q23 ?q24 ?q25 ?q26 ?q27 ?q28 ?q29 ?q30 ?q31 ?q32 ?q33 ?q34 ?q35 ?q36 ?q37 ?q38 ?q39 ?q40 ?q41 ?q42 ?q43 ?q44 ?q45 ?q46 ?q47 ?q48 ?q49 ?q50 ?q51 ?q52 ?q53 ?q54 ?q55 ?q56 ?q57 ?q58 ?q59 ?q60 ?q61 ?q62 ?q63 ?q64 ?q65 ?q66 ?q67 ?q68 ?q69 ?q70 ?q71 ?q72 ?q73 ?q74 ?q75
    case q0 | q1 => k_is
    case q2 => k_exc
    case q3 | q4 | q5 | q6 | q7 | q8 | q9 | q10 | q11 | q12 | q13 | q14 | q15 | q16 | q17 | q18 | q19 | q20 | q21 | q22 | q23 | q24 | q25 | q26 | q27 | q28 | q29 | q30 | q31 | q32 | q33 | q34 | q35 => (refine' DL.lk_mk ?a ?b ?c ?d; (case a => k_is); (case b => k_is); (case c => k_is); (case d => k_is))
    case q36 | q37 | q38 | q39 | q40 | q41 | q42 | q43 | q44 | q45 | q46 | q47 | q48 | q49 | q50 | q51 | q52 | q53 | q54 => k_is
    case q55 | q56 | q57 | q58 | q59 | q60 | q61 | q62 | q63 | q64 | q65 | q66 | q67 | q68 | q69 | q70 | q71 | q72 | q73 | q74 | q75 => kit_is
