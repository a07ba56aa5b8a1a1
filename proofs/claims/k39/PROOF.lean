import PyProof.Rows.All
import Wide.All
import OpenK.AllK
import Wide.FinOn
import Lean
import PyProof.EqAt
import PyProof.EqKinds
import PyProof.TupleCall
import PySem.Challenge.RW_compasshall_k39_roots_that_are_not_there
noncomputable section
open PySem.W List
set_option Elab.async false
set_option linter.all false
set_option maxRecDepth 100000
namespace L2
open PySem PySem.Spec PyProof.Rows
abbrev Key:=Sum Int Str
noncomputable def ud:Key->Value->Bool
 | .inl k,v=>Value.isInt k v
 | .inr x,v=>Value.isStrOf x v
noncomputable def BP (w:World):Key->Int
 | .inl k=>hashInt k
 | .inr x=>hashStr w x
theorem rY:∀{k:Key} {v:Value},ud k v=true->(∃i t,k=Sum.inl i/\v=Value.int i t)\/(∃x t,k=Sum.inr x/\v=Value.str x t)
 | .inl i,v,h=>by
  obtain ⟨t,e⟩:=Value.isInt_shape (k:=i) (v:=v) h;exact .inl ⟨i,t,rfl,e⟩
 | .inr x,v,h=>by
  obtain ⟨t,e⟩:=Value.isStrOf_shape (x:=x) (v:=v) h;exact .inr ⟨x,t,rfl,e⟩
theorem Ks (a b:Int):decide ((Sum.inl a:Key)=Sum.inl b)=(a == b):=by
 by_cases e:a=b
 ·subst e; simp
 ·have h:¬(Sum.inl a:Key)=Sum.inl b:=fun q=>e (Sum.inl.inj q);rw [decide_eq_false h];exact (beq_eq_false_iff_ne.mpr e).symm
theorem Ku (a b:Str):decide ((Sum.inr a:Key)=Sum.inr b)=decide (a=b):=by
 by_cases e:a=b
 ·subst e; simp
 ·have h:¬(Sum.inr a:Key)=Sum.inr b:=fun q=>e (Sum.inr.inj q);rw [decide_eq_false h,decide_eq_false e]
theorem Kv (a:Int) (b:Str):decide ((Sum.inl a:Key)=Sum.inr b)=false:=decide_eq_false (fun q=>nomatch q)
theorem Kw (a:Str) (b:Int):decide ((Sum.inr a:Key)=Sum.inl b)=false:=decide_eq_false (fun q=>nomatch q)
noncomputable def jk (prog:Program) (w:World):PySem.KeyKind prog w Key where
 is:=ud
 hash:=BP w
 inj:=fun v a b ha hb=>by
  rcases rY ha with ⟨i,t,rfl,rfl⟩ | ⟨x,t,rfl,rfl⟩
  ·rcases rY hb with ⟨j,u,rfl,e⟩ | ⟨y,u,rfl,e⟩
   ·injection e with e1 _; rw [e1]
   ·exact nomatch e
  ·rcases rY hb with ⟨j,u,rfl,e⟩ | ⟨y,u,rfl,e⟩
   ·exact nomatch e
   ·injection e with e1 _; rw [e1]
 byValue:=fun k v h=>by
  rcases rY h with ⟨i,t,rfl,rfl⟩ | ⟨x,t,rfl,rfl⟩ <;> rfl
 pyHash:=fun hv h=>by
  rcases rY hv with ⟨i,t,rfl,rfl⟩ | ⟨x,t,rfl,rfl⟩
  ·exact wpAny_pyHash_int h
  ·exact wpAny_pyHash_str h
 eqBool:=fun hu hv h=>by
  rcases rY hu with ⟨i,t,rfl,rfl⟩ | ⟨x,t,rfl,rfl⟩
  ·rcases rY hv with ⟨j,u,rfl,rfl⟩ | ⟨y,u,rfl,rfl⟩
   ·rw [Ks] at h; exact wpAny_eqBool_int h
   ·rw [Kv] at h; exact SeqAt.EqAt.int_str i t y u _ _ _ _ h
  ·rcases rY hv with ⟨j,u,rfl,rfl⟩ | ⟨y,u,rfl,rfl⟩
   ·rw [Kw] at h; exact SeqAt.EqAt.str_int x t j u _ _ _ _ h
   ·rw [Ku] at h; exact wpAny_eqBool_str h
 «strs»:=fun k x t v h=>by
  rcases rY h with ⟨i,u,rfl,e⟩ | ⟨y,u,rfl,e⟩
  ·exact nomatch e
  ·injection e with e1 _
   subst e1
   cases v <;> rfl
inductive V where
 | non | bl (b:Bool) | int (i:Int) | str (x:Str) | byt (b:Array UInt8) | flt (b:UInt64) | ref (a:Addr) | ty (n:String)
 deriving DecidableEq
noncomputable def RelV:V->Value->Prop
 | .non,u=>u=Value.none
 | .bl b,u=>u=Value.bool b
 | .int i,u=>∃t,u=Value.int i t
 | .str x,u=>∃t,u=Value.str x t
 | .byt b,u=>∃t,u=Value.bytes b t
 | .flt b,u=>∃t,u=Value.float b t
 | .ref a,u=>u=Value.ref a
 | .ty n,u=>u=Value.type n
abbrev Vals:List V->List Value->Prop:=Paired RelV
theorem Vals.length {xs:List V} {us:List Value} (r:Vals xs us):xs.length=us.length:=Paired.length r
theorem Vals.get:∀{xs:List V} {us:List Value} {i:Nat} {x:V},Vals xs us->xs[i]? = some x->∃u,us[i]? = some u/\RelV x u
 | _,_,_,_,.nil,e=>by simp at e
 | _,_,0,_,.cons r _,e=>by simp at e; subst e; exact ⟨_,rfl,r⟩
 | _,_,i + 1,x,.cons _ t,e=>by
  obtain ⟨u,h1,h2⟩:=Vals.get (i:=i) (x:=x) t (by simpa using e);exact ⟨u,by simpa using h1,h2⟩
theorem Vals.set {x:V} {u:Value} (r:RelV x u):∀{xs:List V} {us:List Value} (i:Nat),Vals xs us->Vals (xs.set i x) (us.set i u)
 | _,_,_,.nil=>.nil
 | _,_,0,.cons _ t=>.cons r t
 | _,_,i + 1,.cons q t=>.cons q (Vals.set r i t)
theorem Vals.append:∀{xs ys:List V} {us ws:List Value},Vals xs us->Vals ys ws->Vals (xs ++ ys) (us ++ ws)
 | _,_,_,_,.nil,s=>s
 | _,_,_,_,.cons r t,s=>.cons r (Vals.append t s)
theorem Vals.take:∀{xs:List V} {us:List Value} (n:Nat),Vals xs us->Vals (xs.take n) (us.take n)
 | _,_,0,_=>.nil
 | _,_,_ + 1,.nil=>.nil
 | _,_,n + 1,.cons r t=>.cons r (Vals.take n t)
theorem Vals.drop:∀{xs:List V} {us:List Value} (n:Nat),Vals xs us->Vals (xs.drop n) (us.drop n)
 | _,_,0,r=>r
 | _,_,_ + 1,.nil=>.nil
 | _,_,n + 1,.cons _ t=>Vals.drop n t
noncomputable def uM:Option V->Option Value->Prop
 | some v,some u=>RelV v u
 | none,none=>True
 | _,_=>False
noncomputable def KV {κ:Type}:List (κ×V)->List (κ×Value)->Prop:=Paired fun (p:κ×V) (q:κ×Value)=>p.1=q.1/\RelV p.2 q.2
noncomputable def kV:Key->V
 | .inl i=>.int i
 | .inr x=>.str x
inductive HO where
 | lst (xs:List V)
 | tup (xs:List V)
 | dK (kvs:List (Key×V)) | dT (kvs:List (List Key×V))
 | set (S:Int->Bool) (n:Nat)
 | ins (C dx:Addr) (fs:List (Str×V))
 | own (x:Addr)
 | xd (fs:List (Str×V))
 | met (f x:Addr)
 | rng (lo hi:Int)
 | frz (o:Obj) (u:HO)
 | tbl (ps:Array Value)
 | ext (φ:Heap->Prop)
abbrev Hp:=Addr->Option HO
noncomputable def upd (H:Hp) (a:Addr) (o:HO):Hp:=fun b=>if b=a then some o else H b
theorem dR {H:Hp} {a:Addr} {o:HO}:upd H a o a=some o:=by unfold upd; rw [if_pos rfl]
theorem bT {H:Hp} {a b:Addr} {o:HO} (h:b≠a):upd H a o b=H b:=by unfold upd; rw [if_neg h]
theorem nM {H:Hp} {a b:Addr} {o:HO} (h:H a=some o) (h':H b=none):a≠b:=by
 intro e; subst e; rw [h] at h'; cases h'
section
variable (P:Program) (w:World)
noncomputable def ObjOk (H:Hp) (h:Heap) (a:Addr):HO->Prop
 | .lst xs=>xs.length<=sizeLine/\∃(its:List Value) (n:Nat),Vals xs its/\h.get? a=some { cls:=.type "list",data:=.seq its.toArray n }
 | .tup xs=>xs.length<=sizeLine/\∃its:List Value,Vals xs its/\IsTup h a its.toArray
 | .dK kvs=>kvs.length<=sizeLine/\(a == sysModules)=false/\∃vs,KV kvs vs/\h.DictOf (jk P w) a vs
 | .dT kvs=>kvs.length<=sizeLine/\(a == sysModules)=false/\∃xs:List (List Key×Addr×Value),
   Paired (fun (p:List Key×V) (q:List Key×Addr×Value)=>p.1=q.1/\H q.2.1=some (.tup (p.1.map kV))/\RelV p.2 q.2.2) kvs xs /\
   ∃o es ep,h.get? a=some o/\o.ExactDict/\o.data=.dict es ep/\es.toList=xs.map (entryOfKey (tupleKind (jk P w)))/\(xs.map (·.1)).Nodup
 | .set S n=>h.SetOf (intKind P w) a S n
 | .ins C dx fs=>H dx=some (.own a)/\fs.length<=1000/\dx≠a/\h.get? a=some (instObj C dx) /\
   ∃mA,h.Ns1 dx mA/\(∀f,uM (fs.lookup f) (mA f))/\PySem.Within mA (fs.map (·.1))
 | .own _=>∃o,h.get? a=some o
 | .xd fs=>∃mA,h.Ns1 a mA/\∀f,uM (fs.lookup f) (mA f)
 | .rng lo hi=>∃t u v,h.get? a=some { cls:=.type "range",data:=.fields #[.int lo t,.int hi u,.int 1 v] }
 | .frz o u=>h.get? a=some o/\ObjOk H h a u
 | .tbl ps=>h.get? a=some { cls:=.none,data:=.fields ps }
 | .met f x=>h.get? a=some (methodObj (.ref f) (.ref x))
 | .ext φ=>φ h/\(∃o,h.get? a=some o)/\∀h1 h2:Heap,φ h1->(∀o,h1.get? a=some o->h2.get? a=some o)->φ h2
noncomputable def HOk (H:Hp) (h:Heap):Prop:=∀a o,H a=some o->ObjOk P w H h a o
end
section
variable {P:Program} {w:World} {H H':Hp} {h h':Heap} {a:Addr} {o:HO}
theorem ObjOk.lt (x:ObjOk P w H h a o):a < h.objs.size:=by
 cases o with
 | lst xs=>obtain ⟨_,_,_,_,e⟩:=x; exact Heap.lt_size e
 | tup xs=>obtain ⟨_,_,_,p⟩:=x; exact p.lt
 | dK kvs=>obtain ⟨_,_,_,_,o,_,_,e,_⟩:=x; exact Heap.lt_size e
 | dT kvs=>obtain ⟨_,_,_,_,o,_,_,e,_⟩:=x; exact Heap.lt_size e
 | set S n=>obtain ⟨o,_,_,_,e,_⟩:=x; exact Heap.lt_size e
 | ins C dx fs=>obtain ⟨_,_,_,e,_⟩:=x; exact Heap.lt_size e
 | own y=>obtain ⟨_,e⟩:=x; exact Heap.lt_size e
 | xd fs=>obtain ⟨_,⟨_,_,_,e,_⟩,_⟩:=x; exact Heap.lt_size e
 | rng lo hi=>obtain ⟨_,_,_,e⟩:=x; exact Heap.lt_size e
 | frz ob u=>obtain ⟨e,_⟩:=x; exact Heap.lt_size e
 | tbl ps=>exact Heap.lt_size (show h.get? a=some _ from x)
 | met f y=>exact Heap.lt_size (show h.get? a=some _ from x)
 | ext φ=>obtain ⟨_,⟨_,e⟩,_⟩:=x; exact Heap.lt_size e
theorem Paired.mapP {α β:Type} {F G:α->β->Prop}:∀{l₁:List α} {l₂:List β},Paired F l₁ l₂->(∀a b,F a b->G a b)->Paired G l₁ l₂
 | _,_,.nil,_=>.nil
 | _,_,.cons r t,f=>.cons (f _ _ r) (Paired.mapP t f)
theorem ObjOk.stay (x:ObjOk P w H h a o) (k:∀b u,(b=a\/H b=some (.own a))->h.get? b=some u->h'.get? b=some u)
  (ho:∀b,H b=some (.own a)->H' b=some (.own a)) (ht:∀b xs,H b=some (.tup xs)->H' b=some (.tup xs)):ObjOk P w H' h' a o:=by
 induction o with
 | lst xs=>obtain ⟨z,its,n,r,e⟩:=x; exact ⟨z,its,n,r,k _ _ (.inl rfl) e⟩
 | tup xs=>obtain ⟨z,its,r,ob,e,c⟩:=x; exact ⟨z,its,r,ob,k _ _ (.inl rfl) e,c⟩
 | dK kvs=>obtain ⟨z,y,vs,r,ob,es,ep,e,c⟩:=x; exact ⟨z,y,vs,r,ob,es,ep,k _ _ (.inl rfl) e,c⟩
 | dT kvs =>
  obtain ⟨z,y,xs,r,ob,es,ep,e,c⟩:=x;exact ⟨z,y,xs,Paired.mapP r fun p q z=>⟨z.1,ht _ _ z.2.1,z.2.2⟩,ob,es,ep,k _ _ (.inl rfl) e,c⟩
 | set S n=>obtain ⟨ob,es,ep,t,e,c⟩:=x; exact ⟨ob,es,ep,t,k _ _ (.inl rfl) e,c⟩
 | ins C dx fs =>
  obtain ⟨d,z,ne,e,mA,⟨od,es,ep,e2,c⟩,r⟩:=x;exact ⟨ho _ d,z,ne,k _ _ (.inl rfl) e,mA,⟨od,es,ep,k _ _ (.inr d) e2,c⟩,r⟩
 | own y=>obtain ⟨ob,e⟩:=x; exact ⟨ob,k _ _ (.inl rfl) e⟩
 | xd fs=>obtain ⟨mA,⟨od,es,ep,e,c⟩,r⟩:=x; exact ⟨mA,⟨od,es,ep,k _ _ (.inl rfl) e,c⟩,r⟩
 | rng lo hi=>obtain ⟨t,u,v,e⟩:=x; exact ⟨t,u,v,k _ _ (.inl rfl) e⟩
 | frz ob u ih=>obtain ⟨e,q⟩:=x; exact ⟨k _ _ (.inl rfl) e,ih q⟩
 | tbl ps =>
  have e:h.get? a=some { cls:=.none,data:=.fields ps }:=x;show h'.get? a=some { cls:=.none,data:=.fields ps };exact k a _ (.inl rfl) e
 | met f y =>
  have e:h.get? a=some (methodObj (.ref f) (.ref y)):=x;show h'.get? a=some (methodObj (.ref f) (.ref y));exact k a _ (.inl rfl) e
 | ext φ=>obtain ⟨p,⟨o,e⟩,st⟩:=x; exact ⟨st _ _ p fun o q=>k _ _ (.inl rfl) q,⟨o,k _ _ (.inl rfl) e⟩,st⟩
theorem HOk.lt (x:HOk P w H h) (e:H a=some o):a < h.objs.size:=(x a o e).lt
theorem HOk.fresh (x:HOk P w H h) (e:h.objs.size<=a):H a=none:=by
 cases q:H a with
 | none=>rfl
 | some u=>exact absurd (Nat.lt_of_lt_of_le (x.lt q) e) (Nat.lt_irrefl _)
theorem HOk.kept (x:HOk P w H h) (k:∀b u,h.get? b=some u->h'.get? b=some u):HOk P w H h':=fun a o e =>
 (x a o e).stay (fun b u _ q=>k b u q) (fun _ q=>q) fun _ _ q=>q
theorem HOk.laid (x:HOk P w H h) (k:∀b u,h.get? b=some u->h'.get? b=some u) (hp:h.objs.size<=a) (new:ObjOk P w (upd H a o) h' a o):HOk P w (upd H a o) h':=fun b u e=>by
 have hn:=x.fresh hp
 by_cases hb:b=a
 ·subst hb; rw [dR] at e; cases e; exact new
 ·rw [bT hb] at e;exact (x b u e).stay (fun c v _ q=>k c v q) (fun c q=>by rw [bT (nM q hn)]; exact q) fun c xs q=>by rw [bT (nM q hn)]; exact q
end
noncomputable def Rd (H:Hp) (a:Addr) (u:HO):Prop:=H a=some u\/∃o,H a=some (.frz o u)
theorem Rd.of {H:Hp} {a:Addr} {u:HO} (h:H a=some u):Rd H a u:=.inl h
theorem Rd.ok {P:Program} {w:World} {H:Hp} {h:Heap} {a:Addr} {u:HO} (r:Rd H a u) (x:HOk P w H h):ObjOk P w H h a u:=by
 rcases r with r | ⟨o,r⟩
 ·exact x a u r
 ·obtain ⟨_,q⟩:=x a _ r;exact q
noncomputable def Ad:Option HO->Prop
 | some (.lst _)=>True
 | some (.dK _)=>True
 | some (.dT _)=>True
 | some (.set _ _)=>True
 | some (.ins _ _ _)=>True
 | some (.ext _)=>True
 | _=>False
section
variable {P:Program} {w:World} {H:Hp} {h h':Heap} {x e:Addr} {o':HO}
theorem HOk.write (ok:HOk P w H h) (mu:Ad (H x)) (he:e=x\/H e=some (.own x)) (k:∀b u,b≠e->h.get? b=some u->h'.get? b=some u) (heo:∃u,h'.get? e=some u)
  (new:ObjOk P w (upd H x o') h' x o'):HOk P w (upd H x o') h':=fun b u q=>by
 have nown:∀c y,H c=some (.own y)->c≠x:=fun c y r z=>by subst z; rw [r] at mu; exact mu
 have ntup:∀c xs,H c=some (.tup xs)->c≠x:=fun c xs r z=>by subst z; rw [r] at mu; exact mu
 by_cases hb:b=x
 ·subst hb; rw [dR] at q; cases q; exact new
 ·rw [bT hb] at q
  by_cases hbe:b=e
  ·have q':H b=some (.own x):=by
    rcases he with z | z
    ·exact absurd (hbe.trans z) hb
    ·rw [hbe]; exact z
   rw [q] at q'; cases q';obtain ⟨v,hv⟩:=heo;exact ⟨v,by rw [hbe]; exact hv⟩
  ·refine (ok b u q).stay (fun c v hc r=>k c v ?_ r) (fun c r=>by rw [bT (nown c b r)]; exact r) fun c xs r=>by rw [bT (ntup c xs r)]; exact r
   rcases hc with rfl | hc
   ·exact hbe
   ·rintro rfl
    rcases he with z | z
    ·exact nown c b hc z
    ·rw [hc] at z; cases z; exact hb rfl
end
structure Un (fs ex:List Addr) (H H':Hp) (h h':Heap):Prop where
 keep:∀b o,h.get? b=some o->H b=none->b∉fs->b∉ex->h'.get? b=some o
 slot:∀b o,h.get? b=some o->H b=none->b∈fs->b∉ex->∃sl,h'.get? b=some { o with slots:=sl }
 free:∀b o,h.get? b=some o->H b=none->b∉ex->H' b=none
 there:∀b o,h.get? b=some o->b∉ex->∃o',h'.get? b=some o'
 tups:∀b xs,H b=some (.tup xs)->H' b=some (.tup xs)
 frzs:∀b o u,H b=some (.frz o u)->H' b=some (.frz o u)
 tbls:∀b ps,H b=some (.tbl ps)->∃more,H' b=some (.tbl (ps ++ more))
section
variable {fs fs' ex ex':List Addr} {H H1 H2:Hp} {h h1 h2 h':Heap} {a x e:Addr} {o:HO}
theorem Un.any (u:Un fs ex H H1 h h1) {b:Addr} {ob:Obj} (q:h.get? b=some ob) (n:H b=none) (hx:b∉ex):∃sl,h1.get? b=some { ob with slots:=sl }:=by
 by_cases hb:b∈fs
 ·exact u.slot b ob q n hb hx
 ·exact ⟨ob.slots,u.keep b ob q n hb hx⟩
theorem Un.trans (a:Un fs ex H H1 h h1) (b:Un fs ex H1 H2 h1 h2):Un fs ex H H2 h h2 where
 keep:=fun c ob q n hc hx=>b.keep c ob (a.keep c ob q n hc hx) (a.free c ob q n hx) hc hx
 slot:=fun c ob q n hc hx=>by
  obtain ⟨sl,e1⟩:=a.slot c ob q n hc hx;obtain ⟨sl',e2⟩:=b.slot c _ e1 (a.free c ob q n hx) hc hx;exact ⟨sl',e2⟩
 free:=fun c ob q n hx=>by
  obtain ⟨o',e1⟩:=a.there c ob q hx;exact b.free c o' e1 (a.free c ob q n hx) hx
 there:=fun c ob q hx=>by
  obtain ⟨o',e1⟩:=a.there c ob q hx;exact b.there c o' e1 hx
 tups:=fun c xs q=>b.tups c xs (a.tups c xs q)
 frzs:=fun c ob xs q=>b.frzs c ob xs (a.frzs c ob xs q)
 tbls:=fun c ps q=>by
  obtain ⟨m1,e1⟩:=a.tbls c ps q;obtain ⟨m2,e2⟩:=b.tbls c _ e1;exact ⟨m1 ++ m2,by rw [e2,Array.append_assoc]⟩
theorem Un.kept (k:∀b u,h.get? b=some u->h'.get? b=some u):Un fs ex H H h h' :=
 ⟨fun b ob q _ _ _=>k b ob q,fun b ob q _ _ _=>⟨ob.slots,k b ob q⟩,fun _ _ _ n _=>n,fun b ob q _=>⟨ob,k b ob q⟩,fun _ _ q=>q,fun _ _ _ q=>q,fun _ ps q=>⟨#[],by rw [q]; simp⟩⟩
theorem Un.refl:Un fs ex H H h h:=Un.kept fun _ _ q=>q
theorem Un.laid (k:∀b u,h.get? b=some u->h'.get? b=some u) (hp:h.objs.size<=a) (hn:H a=none):Un fs ex H (upd H a o) h h' where
 keep:=fun b u q _ _ _=>k b u q
 slot:=fun b u q _ _ _=>⟨u.slots,k b u q⟩
 free:=fun b u q n _=>by rw [bT (Nat.ne_of_lt (Nat.lt_of_lt_of_le (Heap.lt_size q) hp))]; exact n
 there:=fun b u q _=>⟨u,k b u q⟩
 tups:=fun b xs q=>by rw [bT (nM q hn)]; exact q
 frzs:=fun b u xs q=>by rw [bT (nM q hn)]; exact q
 tbls:=fun b ps q=>⟨#[],by rw [bT (nM q hn),q]; simp⟩
theorem Un.write (mu:Ad (H x)) (he:e=x\/H e=some (.own x)) (k:∀b u,b≠e->h.get? b=some u->h'.get? b=some u) (heo:∃u,h'.get? e=some u):Un fs ex H (upd H x o) h h':=by
 have hx:∀b,H b=none->b≠x:=fun b n z=>by subst z; rw [n] at mu; exact mu
 have hb:∀b,H b=none->b≠e:=fun b n z=>by
  subst z;rcases he with r | r
  ·exact hx b n r
  ·rw [n] at r; cases r
 have hm:∀b u,H b=some u->¬Ad (some u)->b≠x:=fun b u q nm z=>by subst z; rw [q] at mu; exact nm mu
 refine ⟨fun b u q n _ _=>k b u (hb b n) q,fun b u q n _ _=>⟨u.slots,k b u (hb b n) q⟩,fun b u q n _=>by rw [bT (hx b n)]; exact n,fun b u q _=>?_,
  fun b xs q=>by rw [bT (hm b _ q fun z=>z)]; exact q,fun b u xs q=>by rw [bT (hm b _ q fun z=>z)]; exact q,fun b ps q=>⟨#[],by rw [bT (hm b _ q fun z=>z),q]; simp⟩⟩
 by_cases hbe:b=e
 ·subst hbe; exact heo
 ·exact ⟨u,k b u hbe q⟩
theorem Un.mono (u:Un fs ex H H1 h h1) (hs:∀b∈fs,b∈fs') (hx:∀b∈ex,b∈ex'):Un fs' ex' H H1 h h1 :=
 ⟨fun b ob q n hb he=>u.keep b ob q n (fun z=>hb (hs b z)) fun z=>he (hx b z),fun _ _ q n _ he=>u.any q n fun z=>he (hx _ z),fun b ob q n he=>u.free b ob q n fun z=>he (hx b z),fun b ob q he=>u.there b ob q fun z=>he (hx b z),u.tups,u.frzs,u.tbls⟩
end
noncomputable def trk (h:Heap) (H:Hp):List Addr:=(List.range h.objs.size).filter fun a=>(H a).isSome
noncomputable def jl (h:Heap) (H:Hp):Heap:=hideAll h (trk h H)
theorem ht' (h:Heap) (H:Hp):(jl h H).objs.size=h.objs.size:=hideAll_size _ _
theorem Ky {h:Heap} {H:Hp} {b:Addr} {o:Obj} (e:h.get? b=some o) (n:H b=none):(jl h H).get? b=some o :=
 hideAll_get _ e fun hm=>by
  have q:(H b).isSome=true:=(mem_filter.mp hm).2;rw [n] at q; simp at q
theorem lb' {h:Heap} {H:Hp} {b:Addr} {o:Obj} (e:(jl h H).get? b=some o):h.get? b=some o/\H b=none:=by
 have e':h.get? b=some o:=of_hideAll (trk h H) e;refine ⟨e',?_⟩
 cases q:H b with
 | none=>rfl
 | some x =>
  have hm:b∈trk h H:=mem_filter.mpr ⟨mem_range.mpr (Heap.lt_size e'),by simp [q]⟩;have z:(jl h H).get? b=none:=hideAll_none (trk h H) hm;rw [z] at e; cases e
noncomputable def rZ (g h:Heap) (L:Addr):List (Addr×Obj):=(List.range h.objs.size).filterMap fun a=>if a=L\/(g.get? a).isSome=true then none else (h.get? a).map fun o=>(a,o)
noncomputable def rest (g h:Heap) (L d:Addr):List (Addr×Obj):=(rZ g h L).filter fun p=>decide (p.1≠d)
structure Mod (K:Frag) (mg:Str->Option Value) (base:Heap):Prop where
 kin:K.In base
 glob:base.Ns mainGlobals mg
 blt:∃mb,base.Ns builtinsNs mb/\∀x:Str,x≠"__name__"->mb x=bootBuiltins x
 nolimit:base.NoLimit
structure Cx where
 prog:Program
 w:World
 K:Frag
 mg:Str->Option Value
 base:Heap
 A:Around
 N:List Str
 s₀:Shared
 H₀:Hp
 env:Env
 outer:List Env
 stack:List Env
 ex:List Addr
 fn:Str->Bool
 calm:Bool
 pn:List (Addr×Obj)
 xe:Value->Shared->Prop
noncomputable def frs (l:List Env):List Addr:=l.filterMap (·.frame)
abbrev Cx.fs (X:Cx):List Addr:=frs X.outer
noncomputable def sr (sc:Scope) (x:Str):Prop:=sc.names.lookup x=some .local\/sc.names.lookup x=some .cell\/sc.names.lookup x=some .free
noncomputable def Loc (sc:Scope) (x:Str):Prop:=sc.names.lookup x=some .local\/sc.names.lookup x=some .cell
noncomputable def Look (env:Env) (h:Heap) (m:Str->Option Value) (x:Str) (u:Value):Prop :=
 (env.kindOf x=some .local/\m x=some u)\/((env.kindOf x=some .cell\/env.kindOf x=some .free)/\∃c,env.cells.lookup x=some c/\h.IsCell c (some u))
structure Cx.Ok (X:Cx):Prop where
 mod:Mod X.K X.mg X.base
 kind:X.env.scope.kind=.function
 glob:X.env.globals=mainGlobals
 blt:X.env.builtins=builtinsNs
 above:X.s₀.heap.objs.size<=X.env.locals
 inj:∀x y c,X.env.cells.lookup x=some c->X.env.cells.lookup y=some c->x=y
 has:∀x,(X.env.kindOf x=some .cell\/X.env.kindOf x=some .free)->∃c,X.env.cells.lookup x=some c
 cab:∀x c,X.fn x=true->X.env.cells.lookup x=some c->X.s₀.heap.objs.size<=c
 hd:X.calm=true->X.A.handled=none
 frames:X.A.frames=some X.stack
 stk:X.stack=X.outer\/(X.stack=X.env :: X.outer/\X.env.frame=some X.env.locals)
 exf:∀b∈X.ex,b≠X.env.locals/\∀x c,X.env.cells.lookup x=some c->c≠b
 bs:∀b o,X.base.get? b=some o->X.s₀.heap.get? b=some o/\X.H₀ b=none
 bsz:X.base.objs.size<=X.s₀.heap.objs.size
 noex:∀b o,X.base.get? b=some o->b∉X.ex
 exfs:∀b∈X.ex,b∉X.fs
 funs:X.s₀.heap.FunFrames X.base X.outer
 frf:∀b∈X.fs,X.H₀ b=none
structure Inv (X:Cx) (pins:List (Addr×Obj)) (σ:List (Option V)) (H:Hp) (s:Shared):Prop where
 ok:X.Ok
 os:s.os=X.s₀.os
 bare:AllBare s.gens
 base:Un X.fs X.ex X.H₀ H X.s₀.heap s.heap
 loc:∃m,s.heap.Ns X.env.locals m/\∀(i:Nat) (x:Str) (v:V),X.N[i]? = some x->σ[i]? = some (some v)->sr X.env.scope x->∃u,RelV v u/\Look X.env s.heap m x u
 cell:∀x c,X.env.cells.lookup x=some c->∃v,s.heap.IsCell c v
 free:H X.env.locals=none
 freeC:∀x c,X.env.cells.lookup x=some c->H c=none
 pin:∀p∈X.pn ++ pins,s.heap.get? p.1=some p.2/\H p.1=none/\p.1≠X.env.locals/\p.1∉X.fs/\∀v,p.2.data≠.cell v
 hok:HOk X.prog X.w H s.heap
 len:σ.length=X.N.length
section
variable {X:Cx} {pins:List (Addr×Obj)} {σ:List (Option V)} {H H':Hp} {s:Shared} {h':Heap}
theorem Cx.Ok.nofr (ok:X.Ok) {b:Addr} {o:Obj} (e:X.base.get? b=some o):b∉X.fs:=fun hb=>by
 have:=(ok.funs.mem hb).1;rw [e] at this; cases this
theorem Inv.bs (I:Inv X pins σ H s):∀b o,X.base.get? b=some o->s.heap.get? b=some o/\H b=none:=fun b o e =>
 ⟨I.base.keep b o (I.ok.bs b o e).1 (I.ok.bs b o e).2 (I.ok.nofr e) (I.ok.noex b o e),I.base.free b o (I.ok.bs b o e).1 (I.ok.bs b o e).2 (I.ok.noex b o e)⟩
theorem Inv.bk (I:Inv X pins σ H s):∀b o,X.base.get? b=some o->s.heap.get? b=some o:=fun b o e=>(I.bs b o e).1
theorem Inv.mod (I:Inv X pins σ H s):Mod X.K X.mg X.base:=I.ok.mod
theorem Inv.kIn (I:Inv X pins σ H s):X.K.In s.heap:=I.ok.mod.kin.keeps I.bk
theorem Inv.nolimit (I:Inv X pins σ H s):s.heap.NoLimit:=I.ok.mod.nolimit.keeps I.bk
theorem Inv.fr (I:Inv X pins σ H s):∃m,Fr X.base X.env.locals s.heap m :=
 let ⟨m,hn,_⟩:=I.loc
 ⟨m,hn,I.bk,Nat.le_trans I.ok.bsz I.ok.above⟩
theorem Inv.lt (I:Inv X pins σ H s):X.env.locals < s.heap.objs.size:=let ⟨_,hn,_⟩:=I.loc; hn.lt
theorem Inv.sz (I:Inv X pins σ H s):X.s₀.heap.objs.size<=s.heap.objs.size:=Nat.le_trans I.ok.above (Nat.le_of_lt I.lt)
theorem Inv.nofs (I:Inv X pins σ H s) {a:Addr} (h:s.heap.objs.size<=a):a∉X.fs:=fun hb=>by
 obtain ⟨_,o,ho,_⟩:=I.ok.funs.mem hb;exact absurd (Nat.lt_of_lt_of_le (Heap.lt_size ho) (Nat.le_trans I.sz h)) (Nat.lt_irrefl _)
theorem Inv.cne (I:Inv X pins σ H s):∀x c,X.env.cells.lookup x=some c->c≠X.env.locals:=fun x c e z=>by
 obtain ⟨v,o,ho,hd⟩:=I.cell x c e;obtain ⟨m,⟨o',es,ep,ho',hd',_⟩,_⟩:=I.loc;rw [z,ho'] at ho; cases ho; rw [hd'] at hd; cases hd
theorem Inv.funs (I:Inv X pins σ H s):s.heap.FunFrames X.base X.outer:=by
 have all:∀(l:List Env),(∀b∈frs l,b∈X.fs)->X.s₀.heap.FunFrames X.base l->s.heap.FunFrames X.base l:=by
  intro l
  induction l with
  | nil=>intro _ _; trivial
  | cons env r ih =>
   intro hs hl;obtain ⟨hk,⟨L,o,hf,hn,ho,hd⟩,hr⟩:=hl;have hL:L∈X.fs:=hs L (by unfold frs; rw [filterMap_cons,hf]; exact mem_cons_self);obtain ⟨sl,e⟩:=I.base.slot L o ho (I.ok.frf L hL) hL fun z=>I.ok.exfs L z hL;exact ⟨hk,⟨L,_,hf,hn,e,hd⟩,ih (fun b hb=>hs b (by unfold frs; rw [filterMap_cons,hf]; exact mem_cons_of_mem _ hb)) hr⟩
 exact all X.outer (fun _ hb=>hb) I.ok.funs
theorem Inv.stack (I:Inv X pins σ H s):s.heap.FunFrames X.base X.stack:=by
 rcases I.ok.stk with e | ⟨e,hf⟩
 ·rw [e]; exact I.funs
 ·rw [e];obtain ⟨m,hn,_⟩:=I.loc;refine .cons (by rw [I.ok.kind]; decide) hf hn ?_ I.funs;exact Heap.get?_none_of_le (Nat.le_trans I.ok.bsz I.ok.above)
theorem Inv.stkSub (I:Inv X pins σ H s):∀b∈frs X.stack,b∈X.env.locals :: X.fs:=fun b hb=>by
 rcases I.ok.stk with e | ⟨e,hf⟩
 ·rw [e] at hb; exact mem_cons_of_mem _ hb
 ·rw [e] at hb;unfold frs at hb;rw [filterMap_cons,hf] at hb;exact hb
theorem Inv.stkFree (I:Inv X pins σ H s):∀b∈frs X.stack,H b=none:=fun b hb=>by
 rcases mem_cons.mp (I.stkSub b hb) with e | hb
 ·rw [e]; exact I.free
 ·obtain ⟨_,o,ho,_⟩:=I.ok.funs.mem hb;exact I.base.free b o ho (I.ok.frf b hb) fun z=>I.ok.exfs b z hb
theorem Inv.step {g':Array GenState} {t':Nat} {d':Drawn} {ch:List Addr} (I:Inv X pins σ H s)
  (hch:∀b∈ch,(b∈X.ex\/X.s₀.heap.objs.size<=b)/\b≠X.env.locals/\(∀x c,X.env.cells.lookup x=some c->c≠b)/\∀p∈X.pn ++ pins,p.1≠b)
  (keep:∀b o,b≠X.env.locals->b∉X.fs->b∉ch->s.heap.get? b=some o->H b=none->h'.get? b=some o)
  (slot:∀b o,b≠X.env.locals->b∈X.fs->b∉ch->s.heap.get? b=some o->H b=none->∃sl,h'.get? b=some { o with slots:=sl }) (free:∀b o,b∉ch->s.heap.get? b=some o->H b=none->H' b=none)
  (there:∀b o,b∉ch->s.heap.get? b=some o->∃o',h'.get? b=some o')
  (tups:∀b xs,H b=some (.tup xs)->H' b=some (.tup xs)) (frzs:∀b o u,H b=some (.frz o u)->H' b=some (.frz o u)) (tbls:∀b ps,H b=some (.tbl ps)->∃more,H' b=some (.tbl (ps ++ more)))
  (ns:∀m,s.heap.Ns X.env.locals m->h'.Ns X.env.locals m) (hok:HOk X.prog X.w H' h') (hg:AllBare g') :
  Inv X pins σ H' { s with heap:=h',gens:=g',drawn:=d',toks:=t' }:=by
 have neL:∀b o,X.s₀.heap.get? b=some o->b≠X.env.locals:=fun b o e=>Nat.ne_of_lt (Nat.lt_of_lt_of_le (Heap.lt_size e) I.ok.above);have neC:∀b o,X.s₀.heap.get? b=some o->b∉X.ex->b∉ch:=fun b o e hx hb=>by
  rcases (hch b hb).1 with z | z
  ·exact hx z
  ·exact absurd (Nat.lt_of_lt_of_le (Heap.lt_size e) z) (Nat.lt_irrefl _)
 have cellK:∀x c,X.env.cells.lookup x=some c->∀v,s.heap.IsCell c v->h'.IsCell c v:=fun x c e v ⟨o,ho,hd⟩=>by
  have nch:c∉ch:=fun z=>(hch c z).2.2.1 x c e rfl
  by_cases hc:c∈X.fs
  ·obtain ⟨sl,q⟩:=slot c o (I.cne x c e) hc nch ho (I.freeC x c e);exact ⟨_,q,hd⟩
  ·exact ⟨o,keep c o (I.cne x c e) hc nch ho (I.freeC x c e),hd⟩
 refine ⟨I.ok,I.os,hg,⟨fun b o e n hb hx=>?_,fun b o e n hb hx=>?_,fun b o e n hx=>?_,fun b o e hx=>?_,fun b xs e=>tups b xs (I.base.tups b xs e),fun b o xs e=>frzs b o xs (I.base.frzs b o xs e),fun b ps e=>?_⟩,?_,fun x c e=>?_,?_,fun x c e=>?_,fun p hp=>?_,hok,I.len⟩
 ·exact keep b o (neL b o e) hb (neC b o e hx) (I.base.keep b o e n hb hx) (I.base.free b o e n hx)
 ·obtain ⟨sl,e1⟩:=I.base.slot b o e n hb hx;obtain ⟨sl',e2⟩:=slot b _ (neL b o e) hb (neC b o e hx) e1 (I.base.free b o e n hx);exact ⟨sl',e2⟩
 ·obtain ⟨o',e1⟩:=I.base.there b o e hx;exact free b o' (neC b o e hx) e1 (I.base.free b o e n hx)
 ·obtain ⟨o',e1⟩:=I.base.there b o e hx;exact there b o' (neC b o e hx) e1
 ·obtain ⟨m1,e1⟩:=I.base.tbls b ps e;obtain ⟨m2,e2⟩:=tbls b _ e1;exact ⟨m1 ++ m2,by rw [e2,Array.append_assoc]⟩
 ·obtain ⟨m,hn,hl⟩:=I.loc;refine ⟨m,ns m hn,fun i x v e1 e2 e3=>?_⟩;obtain ⟨u,r,l⟩:=hl i x v e1 e2 e3;refine ⟨u,r,?_⟩;rcases l with l | ⟨k,c,e,z⟩
  ·exact .inl l
  ·exact .inr ⟨k,c,e,cellK x c e _ z⟩
 ·obtain ⟨v,z⟩:=I.cell x c e;exact ⟨v,cellK x c e v z⟩
 ·obtain ⟨m,⟨o,_,_,ho,_⟩,_⟩:=I.loc;exact free _ o (fun z=>(hch _ z).2.1 rfl) ho I.free
 ·obtain ⟨v,o,ho,hd⟩:=I.cell x c e;exact free c o (fun z=>(hch c z).2.2.1 x c e rfl) ho (I.freeC x c e)
 ·obtain ⟨e,n,ne,nf,d⟩:=I.pin p hp;have nch:p.1∉ch:=fun z=>(hch p.1 z).2.2.2 p hp rfl;exact ⟨keep p.1 p.2 ne nf nch e n,free p.1 p.2 nch e n,ne,nf,d⟩
theorem Inv.un {t':Nat} (I:Inv X pins σ H s) (u:Un X.fs [] H H' s.heap h') (hok:HOk X.prog X.w H' h'):Inv X pins σ H' { s with heap:=h',toks:=t' }:=by
 obtain ⟨m,⟨o,es,ep,ho,r⟩,_⟩:=id I.loc;obtain ⟨sl,hL⟩:=u.any ho I.free (by simp);exact I.step (g':=s.gens) (d':=s.drawn) (ch:=[]) (fun _ z=>nomatch z) (fun b o _ hb _ e n=>u.keep b o e n hb (by simp)) (fun b o _ hb _ e n=>u.slot b o e n hb (by simp)) (fun b o _ e n=>u.free b o e n (by simp)) (fun b o _ e=>u.there b o e (by simp)) u.tups u.frzs u.tbls (fun m' hm=>by
  obtain ⟨o',es',ep',ho',r'⟩:=hm;rw [ho] at ho'; cases ho';exact ⟨_,es',ep',hL,r'⟩) hok I.bare
theorem Inv.call {g':Array GenState} {t':Nat} {d':Drawn} {ch:List Addr} (I:Inv X pins σ H s) (u:Un (frs X.stack) ch H H' s.heap h') (hok:HOk X.prog X.w H' h') (hg:AllBare g')
  (hch:∀b∈ch,(b∈X.ex\/X.s₀.heap.objs.size<=b)/\b≠X.env.locals/\(∀x c,X.env.cells.lookup x=some c->c≠b)/\∀p∈X.pn ++ pins,p.1≠b) :
  Inv X pins σ H' { s with heap:=h',gens:=g',drawn:=d',toks:=t' }:=by
 obtain ⟨m,⟨o,es,ep,ho,r⟩,_⟩:=id I.loc;obtain ⟨sl,hL⟩:=u.any ho I.free fun z=>(hch _ z).2.1 rfl;exact I.step (ch:=ch) hch (fun b o hL hb hc e n=>u.keep b o e n (fun z=>(mem_cons.mp (I.stkSub b z)).elim hL hb) hc) (fun b o _ _ hc e n=>u.any e n hc) (fun b o hc e n=>u.free b o e n hc) (fun b o hc e=>u.there b o e hc) u.tups u.frzs u.tbls (fun m' hm=>by
  obtain ⟨o',es',ep',ho',r'⟩:=hm;rw [ho] at ho'; cases ho';exact ⟨_,es',ep',hL,r'⟩) hok hg
theorem Inv.turned {t':Nat} {it:Addr} (I:Inv X pins σ H s) (k:∀b o,b≠it->s.heap.get? b=some o->h'.get? b=some o) (hn:H it=none) (hL:it≠X.env.locals)
  (h1:it∈X.ex\/X.s₀.heap.objs.size<=it) (h2:∀x c,X.env.cells.lookup x=some c->c≠it) (h3:∀p∈X.pn ++ pins,p.1≠it):Inv X pins σ H { s with heap:=h',toks:=t' }:=by
 have nit:∀b u,H b=some u->b≠it:=fun b u e z=>by rw [z,hn] at e; cases e
 refine I.step (g':=s.gens) (d':=s.drawn) (ch:=[it]) (fun b hb=>?_) (fun b o _ _ hc e _=>k b o (fun z=>hc (by simp [z])) e) (fun b o _ _ hc e _=>⟨o.slots,k b o (fun z=>hc (by simp [z])) e⟩) (fun _ _ _ _ n=>n)
  (fun b o hc e=>⟨o,k b o (fun z=>hc (by simp [z])) e⟩) (fun _ _ e=>e) (fun _ _ _ e=>e) (fun b ps e=>⟨#[],by rw [e]; simp⟩) (fun m hm=>?_) (fun b u e=>?_) I.bare
 ·have e:b=it:=by simpa using hb
  subst e;exact ⟨h1,hL,h2,h3⟩
 ·obtain ⟨o,es,ep,ho,r⟩:=hm;exact ⟨o,es,ep,k _ o (Ne.symm hL) ho,r⟩
 ·refine (I.hok b u e).stay (fun c v hc q=>k c v ?_ q) (fun _ q=>q) fun _ _ q=>q;rcases hc with z | z
  ·rw [z]; exact nit b u e
  ·exact nit c _ z
theorem Inv.tok (I:Inv X pins σ H s) (t:Nat):Inv X pins σ H { s with toks:=t }:=I.un (h':=s.heap) (t':=t) Un.refl I.hok
theorem Inv.kept {t':Nat} (I:Inv X pins σ H s) (k:∀b u,s.heap.get? b=some u->h'.get? b=some u):Inv X pins σ H { s with heap:=h',toks:=t' }:=I.un (Un.kept k) (I.hok.kept k)
theorem Inv.laid {a:Addr} {o:HO} {t':Nat} (I:Inv X pins σ H s) (k:∀b u,s.heap.get? b=some u->h'.get? b=some u) (hp:s.heap.objs.size<=a) (new:ObjOk X.prog X.w (upd H a o) h' a o) :
  Inv X pins σ (upd H a o) { s with heap:=h',toks:=t' }:=I.un (Un.laid k hp (I.hok.fresh hp)) (I.hok.laid k hp new)
theorem Inv.write {x e:Addr} {o:HO} {t':Nat} (I:Inv X pins σ H s) (mu:Ad (H x)) (he:e=x\/H e=some (.own x)) (k:∀b u,b≠e->s.heap.get? b=some u->h'.get? b=some u) (heo:∃u,h'.get? e=some u)
  (new:ObjOk X.prog X.w (upd H x o) h' x o):Inv X pins σ (upd H x o) { s with heap:=h',toks:=t' }:=I.un (Un.write mu he k heo) (I.hok.write mu he k heo new)
theorem Inv.weak {σ':List (Option V)} (I:Inv X pins σ H s) (hl:σ'.length=σ.length) (w:∀(i:Nat) v,σ'[i]? = some (some v)->σ[i]? = some (some v)):Inv X pins σ' H s :=
 ⟨I.ok,I.os,I.bare,I.base,let ⟨m,hn,hl'⟩:=I.loc; ⟨m,hn,fun i x v e1 e2 e3=>hl' i x v e1 (w i v e2) e3⟩,I.cell,I.free,I.freeC,I.pin,I.hok,hl.trans I.len⟩
theorem Inv.pins_of {pins':List (Addr×Obj)} (I:Inv X pins σ H s) (h:∀p∈pins',s.heap.get? p.1=some p.2/\H p.1=none/\p.1≠X.env.locals/\p.1∉X.fs/\∀v,p.2.data≠.cell v):Inv X pins' σ H s :=
 ⟨I.ok,I.os,I.bare,I.base,I.loc,I.cell,I.free,I.freeC,fun p hp=>(mem_append.mp hp).elim (fun z=>I.pin p (mem_append_left _ z)) (h p),I.hok,I.len⟩
theorem BR {N:List Str} (hN:N.Nodup) {i j:Nat} {x:Str} (a:N[i]? = some x) (b:N[j]? = some x):i=j:=by
 obtain ⟨h1,e1⟩:=List.getElem?_eq_some_iff.mp a;obtain ⟨h2,e2⟩:=List.getElem?_eq_some_iff.mp b;exact (getElem_inj hN).mp (e1.trans e2.symm)
theorem BV {M:Model} {A:Around} {E:Value->Shared->Prop} {i:Nat} {x:Str} {v:V} {u:Value} {Q:Unit->Shared->Prop} (I:Inv X pins σ H s) (hN:X.N.Nodup) (hi:X.N[i]? = some x) (hx:Loc X.env.scope x) (r:RelV v u)
  (h:∀s',Inv X pins (σ.set i (some v)) H s'->(∃a,Heap.SameBut a s.heap s'.heap/\(a=X.env.locals\/X.env.cells.lookup x=some a))->Q () s') (hf:X.fn x=true\/X.env.scope.names.lookup x=some .local:=by first | exact .inl rfl | exact .inr rfl | assumption):wpAny M A (storeName X.env x u) Q E s:=by
 obtain ⟨m,hn,hl⟩:=id I.loc;have hcls:(X.env.scope.kind == .class || (X.env.scope.kind == .module && X.env.locals != X.env.globals))=false:=by rw [I.ok.kind]; rfl
 have hiσ:i < σ.length:=by rw [I.len]; exact (List.getElem?_eq_some_iff.mp hi).1
 have cne:=I.cne;have tracked:∀{a:Addr} {h':Heap},(∃o,s.heap.get? a=some o/\H a=none)->Heap.SameBut a s.heap h'->HOk X.prog X.w H h':=fun {a h'} ha hs b ob e=>by
  obtain ⟨_,_,hfree⟩:=ha;refine (I.hok b ob e).stay (fun c w' hc q=>(hs.2 c ?_).trans q) (fun _ q=>q) fun _ _ q=>q
  rintro rfl
  rcases hc with rfl | hc
  ·rw [hfree] at e; cases e
  ·rw [hfree] at hc; cases hc
 rcases hx with hk | hk
 ·refine wpAny_storeName_local hk hn (fun h' hn' hs=>?_) hcls;obtain ⟨oL,_,_,hoL,_⟩:=id hn;refine h _ ⟨I.ok,I.os,I.bare,⟨fun b o e n hb hx=>?_,fun b o e n hb hx=>?_,I.base.free,fun b o e hx=>?_,I.base.tups,I.base.frzs,I.base.tbls⟩,⟨_,hn',fun j y v' e1 e2 e3=>?_⟩,fun y c e=>?_,I.free,I.freeC,fun p hp=>?_,tracked ⟨oL,hoL,I.free⟩ hs,by simpa using I.len⟩ ⟨_,hs,.inl rfl⟩
  ·exact (hs.2 b (Nat.ne_of_lt (Nat.lt_of_lt_of_le (Heap.lt_size e) I.ok.above))).trans (I.base.keep b o e n hb hx)
  ·obtain ⟨sl,e1⟩:=I.base.slot b o e n hb hx;exact ⟨sl,(hs.2 b (Nat.ne_of_lt (Nat.lt_of_lt_of_le (Heap.lt_size e) I.ok.above))).trans e1⟩
  ·obtain ⟨o',e1⟩:=I.base.there b o e hx;exact ⟨o',(hs.2 b (Nat.ne_of_lt (Nat.lt_of_lt_of_le (Heap.lt_size e) I.ok.above))).trans e1⟩
  ·by_cases hj:j=i
   ·subst hj;rw [hi] at e1; cases e1;rw [List.getElem?_set_self hiσ] at e2
    cases e2
    exact ⟨u,r,.inl ⟨hk,by simp⟩⟩
   ·rw [List.getElem?_set_ne (Ne.symm hj)] at e2;obtain ⟨u',r',q⟩:=hl j y v' e1 e2 e3;refine ⟨u',r',?_⟩;rcases q with ⟨k,e⟩ | ⟨k,c,e,z⟩
    ·refine .inl ⟨k,?_⟩;have:y≠x:=fun e=>hj (BR hN e1 (e ▸ hi));simp [this,e]
    ·exact .inr ⟨k,c,e,z.sameBut hs (cne y c e)⟩
  ·obtain ⟨w',z⟩:=I.cell y c e;exact ⟨w',z.sameBut hs (cne y c e)⟩
  ·obtain ⟨e,n,ne,nf,d⟩:=I.pin p hp;exact ⟨(hs.2 p.1 ne).trans e,n,ne,nf,d⟩
 ·have hfn:X.fn x=true:=by
   rcases hf with z | z
   ·exact z
   ·rw [z] at hk; cases hk
  obtain ⟨c,hc⟩:=I.ok.has x (.inl hk);obtain ⟨w',z⟩:=I.cell x c hc;refine wpAny_storeName_cell I.ok.kind hk hc z (fun h' hc' hs=>?_);obtain ⟨oc,hoc,hocd⟩:=id z;refine h { s with heap:=h' } ⟨I.ok,I.os,I.bare,⟨fun b o e n hb hx=>?_,fun b o e n hb hx=>?_,I.base.free,fun b o e hx=>?_,I.base.tups,I.base.frzs,I.base.tbls⟩,⟨m,hn.sameBut hs (Ne.symm (cne x c hc)),fun j y v' e1 e2 e3=>?_⟩,fun y c' e=>?_,I.free,I.freeC,fun p hp=>?_,tracked ⟨oc,hoc,I.freeC x c hc⟩ hs,by simpa using I.len⟩ ⟨c,hs,.inr hc⟩
  ·exact (hs.2 b (Nat.ne_of_lt (Nat.lt_of_lt_of_le (Heap.lt_size e) (I.ok.cab x c hfn hc)))).trans (I.base.keep b o e n hb hx)
  ·obtain ⟨sl,e1⟩:=I.base.slot b o e n hb hx;exact ⟨sl,(hs.2 b (Nat.ne_of_lt (Nat.lt_of_lt_of_le (Heap.lt_size e) (I.ok.cab x c hfn hc)))).trans e1⟩
  ·obtain ⟨o',e1⟩:=I.base.there b o e hx;exact ⟨o',(hs.2 b (Nat.ne_of_lt (Nat.lt_of_lt_of_le (Heap.lt_size e) (I.ok.cab x c hfn hc)))).trans e1⟩
  ·by_cases hj:j=i
   ·subst hj;rw [hi] at e1; cases e1;rw [List.getElem?_set_self hiσ] at e2
    cases e2
    exact ⟨u,r,.inr ⟨.inl hk,c,hc,hc'⟩⟩
   ·rw [List.getElem?_set_ne (Ne.symm hj)] at e2;obtain ⟨u',r',q⟩:=hl j y v' e1 e2 e3;refine ⟨u',r',?_⟩;rcases q with q | ⟨k,c',e,z'⟩
    ·exact .inl q
    ·refine .inr ⟨k,c',e,z'.sameBut hs ?_⟩
     rintro rfl
     exact hj (BR hN e1 (I.ok.inj _ _ _ e hc ▸ hi))
  ·by_cases hcc:c'=c
   ·subst hcc; exact ⟨_,hc'⟩
   ·obtain ⟨w2,z2⟩:=I.cell y c' e;exact ⟨w2,z2.sameBut hs hcc⟩
  ·obtain ⟨e,n,ne,nf,d⟩:=I.pin p hp;refine ⟨(hs.2 p.1 ?_).trans e,n,ne,nf,d⟩;intro q;rw [q,hoc] at e;have q':oc=p.2:=Option.some.inj e;exact d w' (by rw [<- q']; exact hocd)
theorem cN' {M:Model} {A:Around} {E:Value->Shared->Prop} {i:Nat} {x:Str} {v:V} {u:Value} {Q:Unit->Shared->Prop} (I:Inv X pins σ H s) (hN:X.N.Nodup) (hi:X.N[i]? = some x) (hx:Loc X.env.scope x) (r:RelV v u)
  (h:∀s',Inv X pins (σ.set i (some v)) H s'->Q () s') (hf:X.fn x=true\/X.env.scope.names.lookup x=some .local:=by first | exact .inl rfl | exact .inr rfl | assumption):wpAny M A (storeName X.env x u) Q E s :=
 BV I hN hi hx r (fun s' I' _=>h s' I') hf
theorem Inv.call' {s':Shared} {ch:List Addr} (I:Inv X pins σ H s) (ho:s'.os=s.os) (u:Un (frs X.stack) ch H H' s.heap s'.heap) (hok:HOk X.prog X.w H' s'.heap) (hg:AllBare s'.gens)
  (hch:∀b∈ch,(b∈X.ex\/X.s₀.heap.objs.size<=b)/\b≠X.env.locals/\(∀x c,X.env.cells.lookup x=some c->c≠b)/\∀p∈X.pn ++ pins,p.1≠b):Inv X pins σ H' s':=by
 obtain ⟨h',g',d',t',o'⟩:=s';have e:o'=s.os:=ho;subst e;exact I.call (g':=g') (t':=t') (d':=d') u hok hg hch
end
abbrev XK:=Value->Option Addr->Hp->Prop
abbrev St:=List (Option V)
abbrev VK:=V->Hp->Prop
abbrev TE:=St->Hp->VK->Prop
abbrev TT:=St->Hp->(Bool->Hp->Prop)->Prop
abbrev TA:=St->Hp->(List V->Hp->Prop)->Prop
structure Ends where
 nx:St->Hp->Prop
 rt:VK
 bk:St->Hp->Prop:=fun _ _=>False
 ct:St->Hp->Prop:=fun _ _=>False
abbrev TS:=Ends->St->Hp->Prop
noncomputable def EP (X:Cx) (pins:List (Addr×Obj)) (σ:St) (Q:VK) (u:Value) (s':Shared):Prop:=∃v H',Inv X pins σ H' s'/\RelV v u/\Q v H'
noncomputable def TP (X:Cx) (pins:List (Addr×Obj)) (σ:St) (Q:Bool->Hp->Prop) (b:Bool) (s':Shared):Prop:=∃H',Inv X pins σ H' s'/\Q b H'
noncomputable def AP (X:Cx) (pins:List (Addr×Obj)) (σ:St) (Q:List V->Hp->Prop) (us:List Value) (s':Shared):Prop:=∃vs H',Inv X pins σ H' s'/\Vals vs us/\Q vs H'
noncomputable def SP (X:Cx) (pins:List (Addr×Obj)) (D:Ends) (f:Flow) (s':Shared):Prop :=
 match f with
 | .next=>∃σ' H',Inv X pins σ' H' s'/\D.nx σ' H'
 | .brk=>∃σ' H',Inv X pins σ' H' s'/\D.bk σ' H'
 | .cont=>∃σ' H',Inv X pins σ' H' s'/\D.ct σ' H'
 | .ret u=>∃v σ' H',Inv X pins σ' H' s'/\RelV v u/\D.rt v H'
noncomputable def PE (X:Cx) (e:Expr) (t:TE):Prop :=
 ∀(pins:List (Addr×Obj)) (s:Shared) (σ:St) (H:Hp) (Q:VK),Inv X pins σ H s->t σ H Q->wpAny (model X.prog X.w) X.A (eval e X.env) (EP X pins σ Q) X.xe s
noncomputable def PT (X:Cx) (e:Expr) (t:TT):Prop :=
 ∀(pins:List (Addr×Obj)) (s:Shared) (σ:St) (H:Hp) (Q:Bool->Hp->Prop),Inv X pins σ H s->t σ H Q->wpAny (model X.prog X.w) X.A (isTrue e X.env (eval e X.env)) (TP X pins σ Q) X.xe s
noncomputable def PW (X:Cx) (e:Expr) (t:TT):Prop :=
 ∀(whole:Sem Value) (pins:List (Addr×Obj)) (s:Shared) (σ:St) (H:Hp) (Q:Bool->Hp->Prop),Inv X pins σ H s->t σ H Q->wpAny (model X.prog X.w) X.A (isTrue e X.env whole) (TP X pins σ Q) X.xe s
theorem PW.pt {X:Cx} {e:Expr} {t:TT} (h:PW X e t):PT X e t:=h _
noncomputable def PA (X:Cx) (es:List Expr) (t:TA):Prop :=
 ∀(pos:Pos) (pins:List (Addr×Obj)) (s:Shared) (σ:St) (H:Hp) (Q:List V->Hp->Prop),Inv X pins σ H s->t σ H Q->wpAny (model X.prog X.w) X.A (spliced (backTo pos (starEach es X.env))) (AP X pins σ Q) X.xe s
noncomputable def PS (X:Cx) (st:Stmt) (t:TS):Prop :=
 ∀(pins:List (Addr×Obj)) (s:Shared) (σ:St) (H:Hp) (D:Ends),Inv X pins σ H s->t D σ H->wpAny (model X.prog X.w) X.A (exec st X.env) (SP X pins D) X.xe s
noncomputable def PSs (X:Cx) (st:List Stmt) (t:TS):Prop :=
 ∀(pins:List (Addr×Obj)) (s:Shared) (σ:St) (H:Hp) (D:Ends),Inv X pins σ H s->t D σ H->wpAny (model X.prog X.w) X.A (execs st X.env) (SP X pins D) X.xe s
theorem eX {α:Type} {t:Sem α} {Q Q':α->Shared->Prop} {M:Model} {A:Around} {E:Value->Shared->Prop} {s:Shared} (h:wpAny M A t Q E s) (hQ:∀a s,Q a s->Q' a s):wpAny M A t Q' E s:=wpAny_mono h hQ fun _ _ x=>x
section
variable {X:Cx}
noncomputable def nO (i:Nat):TE:=fun σ H Q=>∃v,σ[i]? = some (some v)/\Q v H
noncomputable def tC (v:V):TE:=fun _ H Q=>Q v H
theorem vD {i:Nat} {x:Str} {pos:Pos} (hN:X.N[i]? = some x) (hv:sr X.env.scope x) (hd:(x == ("__debug__" : Str))=false:=by decide) (hcd:(x == ("__classdict__" : Str))=false:=by decide):PE X (.Name x pos) (nO i):=by
 intro pins s σ H Q I h;obtain ⟨v,e,h⟩:=h;obtain ⟨m,hn,hl⟩:=I.loc;obtain ⟨u,r,l⟩:=hl i x v hN e hv;have fin:EP X pins σ Q u s:=⟨v,H,I,r,h⟩;rcases l with ⟨hk,hm⟩ | ⟨hk,c,hc,hcell⟩
 ·exact wpAny_Name (wpAny_loadName_local I.ok.kind hk hn hm fin) hd
 ·rcases hk with hk | hk
  ·exact wpAny_Name (wpAny_loadName_cell I.ok.kind hk hc hcell fin) hd
  ·exact wpAny_Name (wpAny_loadName_free I.ok.kind hk hc hcell fin hcd) hd
theorem Kz {i j pos}:PE X (.Constant (.int i) j pos) (tC (.int i)):=fun _ _ _ H _ I h=>wpAny_Constant_int ⟨.int i,H,I.tok _,⟨_,rfl⟩,h⟩
theorem KC {b j pos}:PE X (.Constant (.bool b) j pos) (tC (.bl b)):=fun _ _ _ H _ I h=>Constant_bool ⟨.bl b,H,I,rfl,h⟩
theorem mN' {j pos}:PE X (.Constant .none j pos) (tC .non):=fun _ _ _ H _ I h=>Constant_none ⟨.non,H,I,rfl,h⟩
theorem KD {x j pos}:PE X (.Constant (.str x) j pos) (tC (.str x)):=fun _ _ _ H _ I h=>Calls.Constant_str ⟨.str x,H,I.tok _,⟨_,rfl⟩,h⟩
noncomputable def Gl (X:Cx) (x:Str):Prop:=X.env.kindOf x=some .globalImplicit
theorem vG {E:Value->Shared->Prop} {pins:List (Addr×Obj)} {s:Shared} {σ:St} {H:Hp} {x:Str} {u:Value} {pos:Pos} {Q:Value->Shared->Prop} (I:Inv X pins σ H s) (hg:Gl X x) (hm:X.mg x=some u) (h:Q u s)
  (hd:(x == ("__debug__" : Str))=false:=by decide):wpAny (model X.prog X.w) X.A (eval (.Name x pos) X.env) Q E s :=
 Calls.Name_function_global I.ok.kind hg (Calls.loadGlobal_global (by rw [I.ok.glob]; exact I.mod.glob.keeps I.bk) hm h) hd
theorem ue {E:Value->Shared->Prop} {pins:List (Addr×Obj)} {s:Shared} {σ:St} {H:Hp} {x:Str} {u:Value} {pos:Pos} {Q:Value->Shared->Prop} (I:Inv X pins σ H s) (hg:Gl X x) (hm:X.mg x=none) (hv:bootBuiltins x=some u) (h:Q u s)
  (hn:x≠"__name__":=by decide) (hd:(x == ("__debug__" : Str))=false:=by decide):wpAny (model X.prog X.w) X.A (eval (.Name x pos) X.env) Q E s:=by
 obtain ⟨mb,h1,h2⟩:=I.mod.blt;exact Calls.Name_function_global I.ok.kind hg (Calls.loadGlobal_builtin (by rw [I.ok.glob]; exact I.mod.glob.keeps I.bk) hm (by rw [I.ok.blt]; exact h1.keeps I.bk) ((h2 x hn).trans hv) h) hd
noncomputable def KH (ta tb:TE) (k:Int->Int->Hp->Prop):St->Hp->Prop:=fun σ H=>ta σ H fun x H1=>tb σ H1 fun y H2=>∃i j,x=.int i/\y=.int j/\k i j H2
variable {a b:Expr} {ta tb:TE} {pos:Pos}
noncomputable def mL (p:Int->Int->Bool) (ta tb:TE):TE:=fun σ H Q=>KH ta tb (fun i j H2=>Q (.bl (p i j)) H2) σ H
abbrev Uh:TE->TE->TE:=mL fun i j=>decide (i < j)
abbrev Ui:TE->TE->TE:=mL fun i j=>decide (i<=j)
abbrev Uj:TE->TE->TE:=mL fun i j=>decide (j < i)
abbrev Uk:TE->TE->TE:=mL fun i j=>decide (j<=i)
abbrev KJ:TE->TE->TE:=mL fun i j=>decide (i=j)
abbrev KN:TE->TE->TE:=mL fun i j=>!decide (i=j)
noncomputable def tB (t:TE):TT:=fun σ H Q=>t σ H fun x H1=>∃c,x=.bl c/\Q c H1
variable {tA tB':TT} {rest:List Expr}
end
noncomputable def SqL (K:Frag) (H:Hp) (a:Addr) (xs:List V):Prop :=
 Rd H a (.lst xs) \/
  ∃(o:Obj) (its:Array Value) (n:Nat),K.lookup a=some o/\o.cls=.type "list"/\o.dict=none/\o.data=.seq its n/\its.size<=sizeLine/\Vals xs its.toList
noncomputable def SqT (K:Frag) (H:Hp) (a:Addr) (xs:List V):Prop :=
 Rd H a (.tup xs) \/
  ∃(o:Obj) (its:Array Value) (n:Nat),K.lookup a=some o/\o.cls=.type "tuple"/\o.data=.seq its n/\its.size<=sizeLine/\Vals xs its.toList
noncomputable def BW:Value->Option V
 | .none=>some .non
 | .bool b=>some (.bl b)
 | .int i _=>some (.int i)
 | .str x _=>some (.str x)
 | .bytes b _=>some (.byt b)
 | .float b _=>some (.flt b)
 | .ref a=>some (.ref a)
 | .type n=>some (.ty n)
 | _=>none
theorem RelV.abs {x:V} {u:Value} (r:RelV x u):BW u=some x:=by
 cases x with
 | non=>cases r; rfl
 | bl _=>cases r; rfl
 | int _=>obtain ⟨t,rfl⟩:=r; rfl
 | str _=>obtain ⟨t,rfl⟩:=r; rfl
 | byt _=>obtain ⟨t,rfl⟩:=r; rfl
 | flt _=>obtain ⟨t,rfl⟩:=r; rfl
 | ref _=>cases r; rfl
 | ty _=>cases r; rfl
theorem RelV.inj {x y:V} {u:Value} (r:RelV x u) (q:RelV y u):x=y:=Option.some.inj (r.abs.symm.trans q.abs)
theorem Vals.inj:∀{xs ys:List V} {us:List Value},Vals xs us->Vals ys us->xs=ys
 | _,_,_,.nil,.nil=>rfl
 | _,_,_,.cons r t,.cons r' t'=>by rw [r.inj r',Vals.inj t t']
section
variable {X:Cx} {pins:List (Addr×Obj)} {σ:St} {H:Hp} {s:Shared} {a:Addr} {xs ys:List V}
theorem SqL.of {K:Frag} (h:H a=some (.lst xs)):SqL K H a xs:=.inl (.inl h)
theorem SqT.of {K:Frag} (h:H a=some (.tup xs)):SqT K H a xs:=.inl (.inl h)
theorem Inv.list (I:Inv X pins σ H s) (h:SqL X.K H a xs):∃its:List Value,Vals xs its/\PlainL s.heap a its.toArray/\xs.length<=sizeLine:=by
 rcases h with h | ⟨o,its,n,hk,hc,hd,hs,hz,r⟩
 ·obtain ⟨z,its,n,r,e⟩:=h.ok I.hok;exact ⟨its,r,⟨_,n,e,rfl,rfl,rfl⟩,z⟩
 ·refine ⟨its.toList,r,⟨o,n,I.kIn a o hk,hc,hd,by simpa using hs⟩,?_⟩;have e:=r.length;simp only [Array.length_toList] at e;omega
theorem Inv.tuple (I:Inv X pins σ H s) (h:SqT X.K H a xs):∃its:List Value,Vals xs its/\IsTup s.heap a its.toArray/\xs.length<=sizeLine:=by
 rcases h with h | ⟨o,its,n,hk,hc,hs,hz,r⟩
 ·obtain ⟨z,its,r,p⟩:=h.ok I.hok;exact ⟨its,r,p,z⟩
 ·refine ⟨its.toList,r,⟨o,I.kIn a o hk,hc,n,by simpa using hs⟩,?_⟩;have e:=r.length;simp only [Array.length_toList] at e;omega
theorem Inv.list_inj (I:Inv X pins σ H s) (h:SqL X.K H a xs) (h':SqL X.K H a ys):xs=ys:=by
 obtain ⟨its,r,⟨o,n,e,_,_,d⟩,_⟩:=I.list h;obtain ⟨its',r',⟨o',n',e',_,_,d'⟩,_⟩:=I.list h';rw [e] at e'; cases e';rw [d] at d';injection d' with d1 _
 have:its=its':=by simpa using congrArg Array.toList d1
 subst this;exact r.inj r'
theorem Inv.tuple_inj (I:Inv X pins σ H s) (h:SqT X.K H a xs) (h':SqT X.K H a ys):xs=ys:=by
 obtain ⟨its,r,⟨o,e,_,n,d⟩,_⟩:=I.tuple h;obtain ⟨its',r',⟨o',e',_,n',d'⟩,_⟩:=I.tuple h';rw [e] at e'; cases e';rw [d] at d';injection d' with d1 _
 have:its=its':=by simpa using congrArg Array.toList d1
 subst this;exact r.inj r'
end
abbrev Cx.wish (X:Cx) (E:Value->Shared->Prop):Cx:={ X with xe:=E }
abbrev Cx.nox (X:Cx):Cx:=X.wish fun _ _=>False
theorem Cx.Ok.wish {X:Cx} (ok:X.Ok) (E:Value->Shared->Prop):(X.wish E).Ok :=
 ⟨ok.mod,ok.kind,ok.glob,ok.blt,ok.above,ok.inj,ok.has,ok.cab,ok.hd,ok.frames,ok.stk,ok.exf,ok.bs,ok.bsz,ok.noex,ok.exfs,ok.funs,ok.frf⟩
theorem Cx.Ok.unwish {X:Cx} {E:Value->Shared->Prop} (ok:(X.wish E).Ok):X.Ok :=
 ⟨ok.mod,ok.kind,ok.glob,ok.blt,ok.above,ok.inj,ok.has,ok.cab,ok.hd,ok.frames,ok.stk,ok.exf,ok.bs,ok.bsz,ok.noex,ok.exfs,ok.funs,ok.frf⟩
section
variable {X:Cx} {pins:List (Addr×Obj)} {σ:St} {H:Hp} {s:Shared} {E:Value->Shared->Prop}
theorem Inv.wish (I:Inv X pins σ H s) (E:Value->Shared->Prop):Inv (X.wish E) pins σ H s:=⟨I.ok.wish E,I.os,I.bare,I.base,I.loc,I.cell,I.free,I.freeC,I.pin,I.hok,I.len⟩
theorem Inv.unwish (I:Inv (X.wish E) pins σ H s):Inv X pins σ H s:=⟨I.ok.unwish,I.os,I.bare,I.base,I.loc,I.cell,I.free,I.freeC,I.pin,I.hok,I.len⟩
theorem SP.unwish {D:Ends} {f:Flow} {s':Shared} (h:SP (X.wish E) pins D f s'):SP X pins D f s':=by
 cases f with
 | next=>obtain ⟨σ',H',I,q⟩:=h; exact ⟨σ',H',I.unwish,q⟩
 | brk=>obtain ⟨σ',H',I,q⟩:=h; exact ⟨σ',H',I.unwish,q⟩
 | cont=>obtain ⟨σ',H',I,q⟩:=h; exact ⟨σ',H',I.unwish,q⟩
 | ret u=>obtain ⟨v,σ',H',I,r,q⟩:=h; exact ⟨v,σ',H',I.unwish,r,q⟩
theorem PE.nox {e:Expr} {t:TE} (h:PE X.nox e t):PE X e t:=fun pins s σ H Q I hw =>
 wpAny_mono (h pins s σ H Q (I.wish _) hw) (fun _ _ ⟨v,H',I',r,q⟩=>⟨v,H',I'.unwish,r,q⟩) fun _ _ z=>False.elim z
theorem PT.nox {e:Expr} {t:TT} (h:PT X.nox e t):PT X e t:=fun pins s σ H Q I hw =>
 wpAny_mono (h pins s σ H Q (I.wish _) hw) (fun _ _ ⟨H',I',q⟩=>⟨H',I'.unwish,q⟩) fun _ _ z=>False.elim z
theorem PSs.nox {st:List Stmt} {t:TS} (h:PSs X.nox st t):PSs X st t:=fun pins s σ H D I hw =>
 wpAny_mono (h pins s σ H D (I.wish _) hw) (fun _ _ q=>q.unwish) fun _ _ z=>False.elim z
end
section
variable {X:Cx} {st:Stmt} {rest:List Stmt} {t u:TS} {e:Expr} {te:TE} {pos:Pos}
noncomputable def wg (t u:TS):TS:=fun D σ H=>t { D with nx:=u D } σ H
theorem FT (h1:PS X st t) (h2:PSs X rest u):PSs X (st :: rest) (wg t u):=by
 intro pins s σ H D I h;refine wpAny_execs_cons (eX (h1 pins s σ H { D with nx:=u D } I h) fun f s1 q=>?_)
 cases f with
 | next =>
  obtain ⟨σ',H',I',q⟩:=q;exact h2 pins s1 σ' H' D I' q
 | ret v=>exact q
 | brk=>exact q
 | cont=>exact q
theorem hv' (h1:PS X st t):PSs X [st] t:=by
 intro pins s σ H D I h;refine wpAny_execs_cons (eX (h1 pins s σ H D I h) fun f s1 q=>?_)
 cases f with
 | next=>exact wpAny_execs_nil q
 | ret v=>exact q
 | brk=>exact q
 | cont=>exact q
theorem Inv.quiet {pins:List (Addr×Obj)} {σ:St} {H:Hp} {s:Shared} (I:Inv X pins σ H s):interactive X.env=false:=by simp [interactive,I.ok.kind]
noncomputable def uf (te:TE):TS:=fun D σ H=>te σ H fun _ H1=>D.nx σ H1
theorem KQ (he:PE X e te) (hs:swapsWith e none pos.line X.env=pure false:=by rfl):PS X (.Expr e pos) (uf te):=by
 intro pins s σ H D I h;exact wpAny_Expr_any (eX (he pins s σ H _ I h) fun v s1 ⟨x,H1,I1,r1,q1⟩=>⟨σ,H1,I1,q1⟩) I.quiet hs
end
abbrev TG:=V->St->Hp->(St->Hp->Prop)->Prop
abbrev ug:=List V->St->Hp->(St->Hp->Prop)->Prop
noncomputable def PG (X:Cx) (target:Expr) (t:TG):Prop :=
 ∀(pins:List (Addr×Obj)) (s:Shared) (σ:St) (H:Hp) (v:V) (u:Value) (Q:St->Hp->Prop),Inv X pins σ H s->RelV v u->t v σ H Q ->
  wpAny (model X.prog X.w) X.A (assign target X.env u) (fun _ s'=>∃σ' H',Inv X pins σ' H' s'/\Q σ' H') X.xe s
noncomputable def uh (X:Cx) (ts:List Expr) (t:ug):Prop :=
 ∀(pins:List (Addr×Obj)) (s:Shared) (σ:St) (H:Hp) (vs:List V) (us:List Value) (Q:St->Hp->Prop),Inv X pins σ H s->Vals vs us->t vs σ H Q ->
  wpAny (model X.prog X.w) X.A (assignInOrder ((assignEach ts X.env).map (·.2)) us) (fun _ s'=>∃σ' H',Inv X pins σ' H' s'/\Q σ' H') X.xe s
abbrev BX:=V->V->V->Hp->(Hp->Prop)->Prop
noncomputable def BZ (X:Cx) (t:BX):Prop :=
 ∀(pins:List (Addr×Obj)) (s:Shared) (σ:St) (H:Hp) (o i v:V) (ov iv u:Value) (Q:Hp->Prop),Inv X pins σ H s->RelV o ov->RelV i iv->RelV v u->t o i v H Q ->
  wpAny (model X.prog X.w) X.A (setItem ov iv u) (fun _ s'=>∃H',Inv X pins σ H' s'/\Q H') X.xe s
abbrev Ul:=V->V->Hp->VK->Prop
section
variable {X:Cx} {pos:Pos}
noncomputable def wj (i:Nat):TG:=fun v σ H Q=>Q (σ.set i (some v)) H
theorem hw' {i:Nat} {x:Str} (hN:X.N.Nodup) (hi:X.N[i]? = some x) (hx:Loc X.env.scope x) (hf:X.fn x=true\/X.env.scope.names.lookup x=some .local:=by first | exact .inl rfl | exact .inr rfl | assumption):PG X (.Name x pos) (wj i):=by
 intro pins s σ H v u Q I r h;exact wpAny_assign_Name (cN' I hN hi hx r (fun s' I'=>⟨_,H,I',h⟩) hf)
noncomputable def B_:ug:=fun vs σ H Q=>vs=[]/\Q σ H
noncomputable def wk (t:TG) (u:ug):ug:=fun vs σ H Q=>∃v r,vs=v :: r/\t v σ H fun σ' H'=>u r σ' H' Q
theorem KR:uh X [] B_:=by
 intro pins s σ H vs us Q I r h;obtain ⟨e,h⟩:=h;subst e
 cases r
 exact assignInOrder_nil ⟨σ,H,I,h⟩
theorem KY {e:Expr} {es:List Expr} {t:TG} {u:ug} (h1:PG X e t) (h2:uh X es u)
  (hs:(assignEach (e :: es) X.env).map (·.2)=assign e X.env :: (assignEach es X.env).map (·.2):=by rfl):uh X (e :: es) (wk t u):=by
 intro pins s σ H vs us Q I r h;obtain ⟨v,vr,e1,h⟩:=h;subst e1
 cases r with
 | cons r rr =>
  rw [hs];refine assignInOrder_cons (eX (h1 pins s σ H _ _ _ I r h) fun _ s1 ⟨σ1,H1,I1,q1⟩=>?_);exact h2 pins s1 σ1 H1 _ _ Q I1 rr q1
noncomputable def Ca (K:Frag) (n:Nat) (t:ug):TG:=fun v σ H Q=>∃a xs,v=.ref a/\SqT K H a xs/\xs.length=n/\t xs σ H Q
theorem KZ {es:List Expr} {k:Nat} {t:ug} {n:Nat} (hc:X.calm=true) (h:uh X es t)
  (hn:(assignEach es X.env).length=n:=by rfl) (hst:(assignEach es X.env).findIdx? (·.1)=none:=by rfl):PG X (.Tuple es k pos) (Ca X.K n t):=by
 intro pins s σ H v u Q I r hw;obtain ⟨a,xs,e1,hq,hl,hw⟩:=hw;subst e1
 cases r
 obtain ⟨its,rv,ht,hz⟩:=I.tuple hq;refine assign_Tuple_tuple (I.ok.hd hc) ht (by simp [hn,<- hl,rv.length]) hst fun h' hx=>?_;have I1:Inv X pins σ H { s with heap:=h' }:=I.kept (t':=s.toks) fun b o e=>hx b o (Nat.ne_of_lt (Heap.lt_size e)) e
 exact h pins _ σ H xs _ Q I1 (by simpa using rv) hw
end
section
variable {X:Cx} {pos:Pos}
noncomputable def uN (c:TT) (tb:TS):TS:=fun D σ H=>∃W:Nat->St->Hp->Prop,(∃m,W m σ H)/\∀m σ H,W m σ H ->
 c σ H fun b H1=>if b=true then ∃N:St->Hp->Prop,(∀σ' H',N σ' H'->∃m',m' < m/\W m' σ' H')/\tb { D with nx:=N,ct:=N,bk:=D.nx } σ H1 else D.nx σ H1
theorem K3 {c:Expr} {body:List Stmt} {tc:TT} {tb:TS} (hp:PassesOwn (model X.prog X.w) X.A X.env X.xe) (hc:PT X c tc) (hb:PSs X body tb):PS X (.While c body [] pos) (uN tc tb):=by
 intro pins s σ H D I h;obtain ⟨W,⟨m0,w0⟩,turn⟩:=h;refine wpAny_While (codeAny_whileLoop (fun n s'=>∃σ' H',Inv X pins σ' H' s'/\W n σ' H') ?_ m0 ⟨σ,H,I,w0⟩)
 rintro n s1 ⟨σ1,H1,I1,w1⟩
 refine wpAny_passesOwn hp (eX (hc pins s1 σ1 H1 _ I1 (turn n σ1 H1 w1)) fun b s2 ⟨H2,I2,q2⟩=>?_)
 cases b with
 | true =>
  obtain ⟨N,hN,q2⟩:=q2;rw [if_pos rfl];refine wpAny_passesOwn hp (eX (hb pins s2 σ1 H2 _ I2 q2) fun f s3 q3=>?_)
  cases f with
  | next =>
   obtain ⟨σ3,H3,I3,n3⟩:=q3;obtain ⟨m',hm,w3⟩:=hN σ3 H3 n3;exact ⟨m',hm,σ3,H3,I3,w3⟩
  | cont =>
   obtain ⟨σ3,H3,I3,n3⟩:=q3;obtain ⟨m',hm,w3⟩:=hN σ3 H3 n3;exact ⟨m',hm,σ3,H3,I3,w3⟩
  | brk=>exact q3
  | ret v=>exact q3
 | false =>
  rw [if_neg Bool.false_ne_true];exact wpAny_execs_nil ⟨σ1,H2,I2,q2⟩
end
structure It where
 go:Nat->Hp->Prop
 yld:Nat->Hp->V->Hp->Prop
 stop:Nat->Hp->Prop
noncomputable def fW (X:Cx) (pins:List (Addr×Obj)) (H:Hp) (b:Addr):Prop :=
 H b=none/\b≠X.env.locals/\b∉X.fs/\(b∈X.ex\/X.s₀.heap.objs.size<=b)/\(∀x c,X.env.cells.lookup x=some c->c≠b)/\∀p∈X.pn ++ pins,p.1≠b
theorem Inv.fpOk {X:Cx} {pins:List (Addr×Obj)} {σ:St} {H H':Hp} {s:Shared} {b:Addr} (I:Inv X pins σ H s) (hb:s.heap.objs.size<=b) (hn:H' b=none):fW X pins H' b:=by
 refine ⟨hn,Nat.ne_of_gt (Nat.lt_of_lt_of_le I.lt hb),I.nofs hb,.inr (Nat.le_trans I.sz hb),fun x c e z=>?_,fun p hp z=>?_⟩
 ·obtain ⟨v,q⟩:=I.cell x c e;exact absurd (Nat.lt_of_lt_of_le q.lt (by rw [z]; exact hb)) (Nat.lt_irrefl _)
 ·exact absurd (Nat.lt_of_lt_of_le (Heap.lt_size (I.pin p hp).1) (by rw [z]; exact hb)) (Nat.lt_irrefl _)
structure Turn (P:Program) (w:World) (K:Frag) (tg:Expr) (J:It) (fp:List Addr) (it:Addr) (tn:Nat->Heap->Prop):Prop where
 mem:it∈fp
 obj:∀i h,tn i h->∀b∈fp,∃o,h.get? b=some o/\∀v,o.data≠.cell v
 keep:∀i h h',tn i h->(∀b∈fp,∀o,h.get? b=some o->h'.get? b=some o)->tn i h'
 item:∀(X:Cx),X.prog=P->X.w=w->X.K=K->X.calm=true->∀(i:Nat) (pins:List (Addr×Obj)) (s:Shared) (σ:St) (H:Hp) (E:Value->Shared->Prop),Inv X pins σ H s->(∀b∈fp,fW X pins H b)->tn i s.heap->J.go i H ->
  wpAny (model P w) X.A (pyNext (.ref it)) (fun r s1=>∃u,r=some u /\
   wpAny (model P w) X.A (letOwnedTupleGo tg (.ref it) u) (fun _ s2=>∃x H',Inv X pins σ H' s2/\RelV x u/\J.yld i H x H'/\tn (i + 1) s2.heap/\∀b∈fp,H' b=none) E s1) E s
 done:∀(X:Cx),X.prog=P->X.w=w->X.K=K->X.calm=true->∀(i:Nat) (pins:List (Addr×Obj)) (s:Shared) (σ:St) (H:Hp) (E:Value->Shared->Prop),Inv X pins σ H s->(∀b∈fp,fW X pins H b)->tn i s.heap->J.stop i H ->
  wpAny (model P w) X.A (pyNext (.ref it)) (fun r s1=>r=none/\Inv X pins σ H s1) E s
 self:∀(A:Around) (i:Nat) (s:Shared) (Q:Value->Shared->Prop) (E:Value->Shared->Prop),tn i s.heap->Q (.ref it) s->wpAny (model P w) A (pyIter (.ref it)) Q E s
abbrev TI:=St->Hp->(It->Hp->Prop)->Prop
noncomputable def PIE (X:Cx) (pins:List (Addr×Obj)) (σ:St) (tg:Expr) (R:It->Hp->Prop) (itv:Value) (s2:Shared):Prop :=
 ∃(it:Addr) (fp:List Addr) (tn:Nat->Heap->Prop) (J:It) (H':Hp),itv=.ref it/\Inv X pins σ H' s2/\Turn X.prog X.w X.K tg J fp it tn/\tn 0 s2.heap/\(∀b∈fp,fW X pins H' b)/\R J H'
noncomputable def PI (X:Cx) (tg iter:Expr) (wi:TI):Prop :=
 ∀(pins:List (Addr×Obj)) (s:Shared) (σ:St) (H:Hp) (R:It->Hp->Prop),Inv X pins σ H s->wi σ H R ->
  wpAny (model X.prog X.w) X.A (eval iter X.env) (fun v s1=>wpAny (model X.prog X.w) X.A (pyIter v) (PIE X pins σ tg R) X.xe s1) X.xe s
theorem Ae {M:Model} {A:Around} {E:Value->Shared->Prop} {s:Shared} {tg:Expr} {it:Addr} {u:Value} {o:Obj} {n:String} {vs:Array Value} {Q:Unit->Shared->Prop} (ho:s.heap.get? it=some o) (hc:o.cls=.type n) (hd:o.data=.fields vs)
    (hn:["enumerate", "zip", "dict_itemiterator", "dict_reverseitemiterator", "odict_iterator", "itertools.zip_longest", "itertools.pairwise"].contains n=false) (hQ:Q () s):wpAny M A (letOwnedTupleGo tg (.ref it) u) Q E s:=by
  unfold letOwnedTupleGo
  cases tg <;> first
    | exact wpAny_pure hQ
    | (cases u <;> first
        | exact wpAny_pure hQ
        | (refine wpAny_bind (wpAny_load ho ?_)
           rw [hc,hd];show wpAny M A (if (["enumerate", "zip", "dict_itemiterator", "dict_reverseitemiterator", "odict_iterator", "itertools.zip_longest", "itertools.pairwise"].contains n && vs[0]? == some (rawInt _))=true then _ else _) Q E s
           rw [if_neg (by intro h; rw [hn,Bool.false_and] at h; cases h)];exact wpAny_pure hQ))
noncomputable def FW (K:Frag) (a:Addr):It :=
 ⟨fun i H=>∃xs x,SqL K H a xs/\xs[i]? = some x,fun i H x H'=>H'=H/\∀xs,SqL K H a xs->xs[i]? = some x,fun i H=>∃xs,SqL K H a xs/\xs.length<=i⟩
noncomputable def FZ (K:Frag) (a:Addr):It :=
 ⟨fun i H=>∃xs x,SqT K H a xs/\xs[i]? = some x,fun i H x H'=>H'=H/\∀xs,SqT K H a xs->xs[i]? = some x,fun i H=>∃xs,SqT K H a xs/\xs.length<=i⟩
noncomputable def kW (lo:Int) (n:Nat):It:=⟨fun i _=>i < n,fun i H x H'=>H'=H/\x=.int (lo + i),fun i _=>n<=i⟩
theorem hy' {P:Program} {w:World} {K:Frag} {tg:Expr} (a it:Addr):Turn P w K tg (FW K a) [it] it (fun i h=>h.IsListIter it a i) where
 mem:=by simp
 obj:=fun i h st b hb=>by
  have e:b=it:=by simpa using hb
  subst e;obtain ⟨o,e,c,d⟩:=st;exact ⟨o,e,fun v z=>by rw [d] at z; cases z⟩
 keep:=fun i h h' st k=>st.at fun o e=>k it (by simp) o e
 item:=by
  intro X hP hw hK hc i pins s σ H E I hf st hg;subst hP hw hK;obtain ⟨xs,x,hq,hx⟩:=hg;obtain ⟨its,rv,p,hz⟩:=I.list hq;obtain ⟨u,hu,ru⟩:=rv.get hx;obtain ⟨f0,f1,f2,f3,f4,f5⟩:=hf it (by simp);refine wpAny_pyNext_list_item st p.isList (x:=u) (by simpa using hu) fun h' st' sb=>?_;have I1:Inv X pins σ H { s with heap:=h' }:=I.turned (t':=s.toks) (fun b o hb e=>(sb.2 b hb).trans e) f0 f1 f3 f4 f5
  obtain ⟨o,e,c,d⟩:=id st';exact ⟨u,rfl,Ae (s:={ s with heap:=h' }) e c d (by decide) ⟨x,H,I1,ru,⟨rfl,fun ys hy=>by rw [I.list_inj hy hq]; exact hx⟩,st',fun b hb=>(hf b hb).1⟩⟩
 done:=by
  intro X hP hw hK hc i pins s σ H E I hf st hg;subst hP hw hK;obtain ⟨xs,hq,hx⟩:=hg;obtain ⟨its,rv,p,hz⟩:=I.list hq;obtain ⟨f0,f1,f2,f3,f4,f5⟩:=hf it (by simp);have hl:=rv.length;exact wpAny_pyNext_list_end (I.ok.hd hc) st p.isList (by simp; omega) fun h' eb=>⟨rfl,I.turned (t':=s.toks) (fun b o hb e=>eb b o hb e) f0 f1 f3 f4 f5⟩
 self:=fun _ _ _ _ _ st h=>wpAny_pyIter_listiter st h
theorem K4 {P:Program} {w:World} {K:Frag} {tg:Expr} (a it:Addr):Turn P w K tg (FZ K a) [it] it (fun i h=>h.IsTupleIter it a i) where
 mem:=by simp
 obj:=fun i h st b hb=>by
  have e:b=it:=by simpa using hb
  subst e;obtain ⟨o,e,c,d⟩:=st;exact ⟨o,e,fun v z=>by rw [d] at z; cases z⟩
 keep:=fun i h h' st k=>st.at fun o e=>k it (by simp) o e
 item:=by
  intro X hP hw hK hc i pins s σ H E I hf st hg;subst hP hw hK;obtain ⟨xs,x,hq,hx⟩:=hg;obtain ⟨its,rv,p,hz⟩:=I.tuple hq;obtain ⟨u,hu,ru⟩:=rv.get hx;obtain ⟨f0,f1,f2,f3,f4,f5⟩:=hf it (by simp);refine wpAny_pyNext_tuple_item st (show s.heap.IsTuple a its.toArray from p) (x:=u) (by simpa using hu) fun h' st' sb=>?_
  have I1:Inv X pins σ H { s with heap:=h' }:=I.turned (t':=s.toks) (fun b o hb e=>(sb.2 b hb).trans e) f0 f1 f3 f4 f5
  obtain ⟨o,e,c,d⟩:=id st';exact ⟨u,rfl,Ae (s:={ s with heap:=h' }) e c d (by decide) ⟨x,H,I1,ru,⟨rfl,fun ys hy=>by rw [I.tuple_inj hy hq]; exact hx⟩,st',fun b hb=>(hf b hb).1⟩⟩
 done:=by
  intro X hP hw hK hc i pins s σ H E I hf st hg;subst hP hw hK;obtain ⟨xs,hq,hx⟩:=hg;obtain ⟨its,rv,p,hz⟩:=I.tuple hq;obtain ⟨f0,f1,f2,f3,f4,f5⟩:=hf it (by simp);have hl:=rv.length;exact wpAny_pyNext_tuple_end (I.ok.hd hc) st (show s.heap.IsTuple a its.toArray from p) (by simp; omega) fun h' eb=>⟨rfl,I.turned (t':=s.toks) (fun b o hb e=>eb b o hb e) f0 f1 f3 f4 f5⟩
 self:=fun _ _ _ _ _ st h=>wpAny_pyIter_tupleiter st h
theorem K5 {P:Program} {w:World} {K:Frag} {tg:Expr} (it:Addr) (lo:Int) (n:Nat):Turn P w K tg (kW lo n) [it] it (fun i h=>IsRangeIter h it (lo + (i:Nat) * 1) ((n:Int) - (i:Nat)) 1) where
 mem:=by simp
 obj:=fun i h st b hb=>by
  have e:b=it:=by simpa using hb
  subst e;exact ⟨_,st,fun v z=>by
   have z':Data.fields _=Data.cell v:=z
   cases z'⟩
 keep:=fun i h h' st k=>k it (by simp) _ st
 item:=by
  intro X hP hw hK hc i pins s σ H E I hf st hg;subst hP hw hK;obtain ⟨f0,f1,f2,f3,f4,f5⟩:=hf it (by simp);have W:=Walks.range (prog:=X.prog) (w:=X.w) (I.ok.hd hc) it lo 1 n;refine W.item i s _ _ hg st fun v h' tk hv st' kk=>?_;obtain ⟨t,rfl⟩:=hv;have I1:Inv X pins σ H { s with heap:=h',toks:=tk }:=I.turned (fun b o hb e=>kk b o (by simpa using hb) e) f0 f1 f3 f4 f5
  refine ⟨_,rfl,Ae (s:={ s with heap:=h',toks:=tk }) (n:="range_iterator") st' rfl rfl (by decide) ⟨.int (lo + i),H,I1,⟨t,?_⟩,⟨rfl,rfl⟩,st',fun b hb=>(hf b hb).1⟩⟩
  rw [Int.mul_one]
 done:=by
  intro X hP hw hK hc i pins s σ H E I hf st hg;subst hP hw hK;obtain ⟨f0,f1,f2,f3,f4,f5⟩:=hf it (by simp);exact wpAny_pyNext_range_end (I.ok.hd hc) st (by have:n<=i:=hg; omega) fun h' eb=>⟨rfl,I.turned (t':=s.toks) (fun b o hb e=>eb b o hb e) f0 f1 f3 f4 f5⟩
 self:=fun _ _ _ _ _ st h=>wpAny_pyIter_rangeiter st h
section
variable {X:Cx} {tg:Expr}
theorem F_ {pins:List (Addr×Obj)} {σ:St} {H:Hp} {s:Shared} {R:It->Hp->Prop} {E:Value->Shared->Prop} {lo hi:Int} {t u v:Tok} {tk:Nat} (I:Inv X pins σ H s) (h1:-(2 ^ 62)<=lo) (h2:lo < 2 ^ 62) (h3:-(2 ^ 62)<=hi) (h4:hi < 2 ^ 62)
  (q:R (kW lo (hi - lo).toNat) H):wpAny (model X.prog X.w) X.A (pyIter (.ref s.heap.objs.size)) (PIE X pins σ tg R) E { s with heap:=s.heap.push { cls:=.type "range",data:=.fields #[.int lo t,.int hi u,.int 1 v] },toks:=tk }:=by
 refine wpAny_pyIter_range (IsRange.new ..) (small_one h1 h2 h3 h4) ?_;have I1:Inv X pins σ H { s with heap:=s.heap.push { cls:=.type "range",data:=.fields #[.int lo t,.int hi u,.int 1 v] },toks:=tk }:=I.kept fun b o e=>Heap.get?_push_of_some _ e
 refine ⟨(s.heap.push { cls:=.type "range",data:=.fields #[.int lo t,.int hi u,.int 1 v] }).objs.size,[(s.heap.push { cls:=.type "range",data:=.fields #[.int lo t,.int hi u,.int 1 v] }).objs.size],_,_,H,rfl,
  I1.kept (t':=tk) fun b o e=>Heap.get?_push_of_some _ e,K5 _ lo (hi - lo).toNat,?_,fun b hb=>?_,q⟩
 ·have e1:lo + ((0:Nat):Int) * 1=lo:=by simp
  have e2:(((hi - lo).toNat:Nat):Int) - ((0:Nat):Int)=Builtin.Range.rangeSize lo hi 1:=by rw [rangeSize_one]; split <;> omega
  show IsRangeIter _ _ (lo + ((0:Nat):Int) * 1) ((((hi - lo).toNat:Nat):Int) - ((0:Nat):Int)) 1;rw [e1,e2];exact Heap.get?_push_size _ rfl
 ·have e:b=(s.heap.push { cls:=.type "range",data:=.fields #[.int lo t,.int hi u,.int 1 v] }).objs.size:=by simpa using hb
  subst e;exact I1.fpOk (Nat.le_refl _) (I1.hok.fresh (Nat.le_refl _))
noncomputable def wu (ta:TA):TI:=fun σ H R=>ta σ H fun vs H1=>∃j:Int,vs=[.int j]/\-(2 ^ 62)<=j/\j < 2 ^ 62/\R (kW 0 j.toNat) H1
theorem Ga {a:Expr} {ta:TA} {p pos:Pos} (hg:Gl X "range") (hm:X.mg "range" = none) (ha:PA X [a] ta) (hs:starEach [a] X.env=[(false,eval a X.env)]:=by rfl):PI X tg (.Call (.Name "range" p) [a] [] pos) (wu ta):=by
 intro pins s σ H R I h;refine Call_ (ue I hg hm boot_range (PyProof.Rows.callWith_type1 (eX (ha pos pins s σ H _ I h) fun us s1 ⟨vs,H1,I1,r1,q1⟩=>?_) hs rfl));obtain ⟨j,e,q1,q2,q⟩:=q1;subst e
 cases r1 with
 | cons r rr =>
  cases rr
  obtain ⟨t,rfl⟩:=r;exact call_range_1 (F_ I1 (by omega) (by omega) q1 q2 (by simpa using q))
noncomputable def Cd (wi:TI) (g:TG) (tb:TS):TS:=fun D σ H=>wi σ H fun J H1=>∃W:Nat->Nat->St->Hp->Prop,(∃m,W 0 m σ H1)/\∀i m σ H,W i m σ H ->
 (J.stop i H/\D.nx σ H)\/(J.go i H/\∃N:St->Hp->Prop,(∀σ' H',N σ' H'->∃m',m' < m/\W (i + 1) m' σ' H')/\∀x H',J.yld i H x H'->g x σ H' fun σ2 H2=>tb { D with nx:=N,ct:=N,bk:=D.nx } σ2 H2)
noncomputable def jm (fp:List Addr) (h:Heap):List (Addr×Obj):=fp.filterMap fun b=>(h.get? b).map fun o=>(b,o)
theorem Af {fp:List Addr} {h:Heap} {b:Addr} {o:Obj} (hb:b∈fp) (e:h.get? b=some o):(b,o)∈jm fp h:=mem_filterMap.mpr ⟨b,hb,by rw [e]; rfl⟩
theorem hA' {fp:List Addr} {h:Heap} {p:Addr×Obj} (hp:p∈jm fp h):p.1∈fp/\h.get? p.1=some p.2:=by
 obtain ⟨b,hb,e⟩:=mem_filterMap.mp hp
 cases q:h.get? b with
 | none=>rw [q] at e; cases e
 | some o =>
  rw [q] at e;have e':(b,o)=p:=Option.some.inj e;subst e';exact ⟨hb,q⟩
theorem Inv.pinned {pins:List (Addr×Obj)} {σ:St} {H:Hp} {s:Shared} {fp:List Addr} (I:Inv X pins σ H s) (hf:∀b∈fp,fW X pins H b) (ho:∀b∈fp,∃o,s.heap.get? b=some o/\∀v,o.data≠.cell v):Inv X (pins ++ jm fp s.heap) σ H s :=
 I.pins_of fun p hp=>(mem_append.mp hp).elim (fun z=>I.pin p (mem_append_right _ z)) fun z=>by
  obtain ⟨hb,e⟩:=hA' z;obtain ⟨f0,f1,f2,_⟩:=hf p.1 hb;obtain ⟨o,e',d⟩:=ho p.1 hb;rw [e] at e'; cases e';exact ⟨e,f0,f1,f2,d⟩
theorem Inv.unpinned {pins pl:List (Addr×Obj)} {σ:St} {H:Hp} {s:Shared} (I:Inv X (pins ++ pl) σ H s):Inv X pins σ H s:=I.pins_of fun p hp=>I.pin p (mem_append_right _ (mem_append_left _ hp))
theorem hB' {iter:Expr} {body:List Stmt} {wi:TI} {g:TG} {tb:TS} {pos:Pos} (hp:PassesOwn (model X.prog X.w) X.A X.env X.xe) (hc:X.calm=true) (hi:PI X tg iter wi) (hg:PG X tg g) (hb:PSs X body tb)
  (hs:∀x,foldedSetIterable iter X.env x=pure x:=by intro _; rfl):PS X (.For tg iter body [] pos) (Cd wi g tb):=by
 intro pins s σ H D I h;refine wpAny_For (eX (hi pins s σ H _ I h) fun v s1 h1=>eX h1 fun itv s2 h2=>?_) hs;obtain ⟨it,fp,tn,J,H2,e,I2,T,st2,f2,W,⟨m0,w0⟩,turn⟩:=h2;subst e;have stat:∀{H':Hp},(∀b∈fp,H' b=none)->∀b∈fp,fW X pins H' b:=fun hn b hb=>⟨hn b hb,(f2 b hb).2⟩;refine codeAny_forLoop_any (fun n s'=>∃i σ' H',Inv X pins σ' H' s'/\tn i s'.heap/\(∀b∈fp,H' b=none)/\W i n σ' H') ?_ m0 ⟨0,σ,H2,I2,st2,fun b hb=>(f2 b hb).1,w0⟩
 rintro n s3 ⟨i,σ3,H3,I3,st3,fr3,w3⟩
 rcases turn i n σ3 H3 w3 with ⟨stop,qn⟩ | ⟨go,N,hN,step⟩
 ·refine wpAny_passesOwn hp (eX (T.done X rfl rfl rfl hc i pins s3 σ3 H3 X.xe I3 (stat fr3) st3 stop) fun r s4 ⟨hr,I4⟩=>?_)
  subst hr;exact wpAny_execs_nil ⟨σ3,H3,I4,qn⟩
 ·refine wpAny_passesOwn hp (eX (T.item X rfl rfl rfl hc i pins s3 σ3 H3 X.xe I3 (stat fr3) st3 go) fun r s4 ⟨u,hr,h4⟩=>?_);subst hr;refine wpAny_passesOwn hp (eX h4 fun _ s5 ⟨x,H5,I5,r5,y5,st5,fr5⟩=>?_);have I5':=I5.pinned (stat fr5) (T.obj _ _ st5);refine wpAny_passesOwn hp (eX (hg _ s5 σ3 H5 x u _ I5' r5 (step x H5 y5)) fun _ s6 ⟨σ6,H6,I6,q6⟩=>?_);refine wpAny_passesOwn hp (eX (hb _ s6 σ6 H6 _ I6 q6) fun f s7 q7=>?_);have again:∀{σ7:St} {H7:Hp},Inv X (pins ++ jm fp s5.heap) σ7 H7 s7->N σ7 H7->∃m,m < n/\∃i σ' H',Inv X pins σ' H' s7/\tn i s7.heap/\(∀b∈fp,H' b=none)/\W i m σ' H':=fun {σ7 H7} I7 n7=>by
   obtain ⟨m',hm,w7⟩:=hN σ7 H7 n7;refine ⟨m',hm,i + 1,σ7,H7,I7.unpinned,T.keep _ _ _ st5 fun b hb o e=>(I7.pin (b,o) (mem_append_right _ (mem_append_right _ (Af hb e)))).1,fun b hb=>?_,w7⟩;obtain ⟨o,e,d⟩:=T.obj _ _ st5 b hb;exact (I7.pin (b,o) (mem_append_right _ (mem_append_right _ (Af hb e)))).2.1
  cases f with
  | next=>obtain ⟨σ7,H7,I7,n7⟩:=q7; exact again I7 n7
  | cont=>obtain ⟨σ7,H7,I7,n7⟩:=q7; exact again I7 n7
  | brk=>obtain ⟨σ7,H7,I7,q7⟩:=q7; exact ⟨σ7,H7,I7.unpinned,q7⟩
  | ret v=>obtain ⟨x7,σ7,H7,I7,r7,q7⟩:=q7; exact ⟨x7,σ7,H7,I7.unpinned,r7,q7⟩
end
theorem Gb {lo:Int} {n:Nat} {g:TG} {tb:TS} {D:Ends} {σ:St} {H:Hp} (Pv:Nat->St->Hp->Prop) (h0:Pv 0 σ H)
  (hs:∀i σ H,i < n->Pv i σ H->g (.int (lo + i)) σ H fun σ2 H2=>tb { D with nx:=Pv (i + 1),ct:=Pv (i + 1),bk:=D.nx } σ2 H2) (hd:∀σ H,Pv n σ H->D.nx σ H) :
  ∃W:Nat->Nat->St->Hp->Prop,(∃m,W 0 m σ H)/\∀i m σ H,W i m σ H ->
   ((kW lo n).stop i H/\D.nx σ H)\/((kW lo n).go i H/\∃N:St->Hp->Prop,(∀σ' H',N σ' H'->∃m',m' < m/\W (i + 1) m' σ' H')/\∀x H',(kW lo n).yld i H x H'->g x σ H' fun σ2 H2=>tb { D with nx:=N,ct:=N,bk:=D.nx } σ2 H2):=by
 refine ⟨fun i m σ H=>m=n - i/\i<=n/\Pv i σ H,⟨n,by simp,Nat.zero_le _,h0⟩,?_⟩
 rintro i m σ H ⟨rfl,hi,p⟩
 by_cases hlt:i < n
 ·refine .inr ⟨hlt,Pv (i + 1),fun σ' H' p'=>⟨n - (i + 1),by omega,rfl,hlt,p'⟩,fun x H' y=>?_⟩;obtain ⟨e,y⟩:=y;subst e y;exact hs i σ _ hlt p
 ·have e:i=n:=by omega
  subst e;exact .inl ⟨Nat.le_refl _,hd σ H p⟩
abbrev R2:=V->V->Hp->VK->Prop
noncomputable def OpR (X:Cx) (f:Value->Value->Sem Value) (r:R2):Prop :=
 ∀(pins:List (Addr×Obj)) (s:Shared) (σ:St) (H:Hp) (x y:V) (v u:Value) (Q:VK),Inv X pins σ H s->RelV x v->RelV y u->r x y H Q ->
  wpAny (model X.prog X.w) X.A (f v u) (EP X pins σ Q) X.xe s
noncomputable def Gd (X:Cx) (f:Value->Sem Value) (r:V->Hp->VK->Prop):Prop :=
 ∀(pins:List (Addr×Obj)) (s:Shared) (σ:St) (H:Hp) (x:V) (v:Value) (Q:VK),Inv X pins σ H s->RelV x v->r x H Q ->
  wpAny (model X.prog X.w) X.A (f v) (EP X pins σ Q) X.xe s
noncomputable def CallR (X:Cx) (f:Value) (r:List V->Hp->VK->Prop):Prop :=
 ∀(pins:List (Addr×Obj)) (s:Shared) (σ:St) (H:Hp) (xs:List V) (us:List Value) (Q:VK),Inv X pins σ H s->Vals xs us->r xs H Q ->
  wpAny (model X.prog X.w) X.A (call f us) (EP X pins σ Q) X.xe s
noncomputable def Ce (X:Cx) (r:V->Hp->(Bool->Hp->Prop)->Prop):Prop :=
 ∀(pins:List (Addr×Obj)) (s:Shared) (σ:St) (H:Hp) (x:V) (v:Value) (Q:Bool->Hp->Prop),Inv X pins σ H s->RelV x v->r x H Q ->
  wpAny (model X.prog X.w) X.A (truthy v) (TP X pins σ Q) X.xe s
noncomputable def rI (C:Int->Int->Prop) (g:Int->Int->V):R2:=fun x y H Q=>∃i j,x=.int i/\y=.int j/\C i j/\Q (g i j) H
noncomputable def um (g:Int->Int->V):R2:=fun x y H Q=>∃i j,x=.int i/\y=.int j/\Q (g i j) H
noncomputable def rU (g:Int->V):V->Hp->VK->Prop:=fun x H Q=>∃i,x=.int i/\Q (g i) H
section
variable {X:Cx} {a b c:Expr} {ta tb tc:TE} {pos:Pos}
theorem wy {f:Value->Value->Sem Value} {C:Int->Int->Prop} {g:Int->Int->Int}
  (rule:∀(i j:Int) (t u:Tok) (s:Shared) (Q:Value->Shared->Prop) (E:Value->Shared->Prop),C i j->Q (.int (g i j) s.toks) { s with toks:=s.toks + 1 }->wpAny (model X.prog X.w) X.A (f (.int i t) (.int j u)) Q E s) :
  OpR X f (rI C fun i j=>.int (g i j)):=by
 intro pins s σ H x y v u Q I rx ry h;obtain ⟨i,j,rfl,rfl,hc,q⟩:=h;obtain ⟨t,rfl⟩:=rx;obtain ⟨t',rfl⟩:=ry;exact rule i j t t' s _ _ hc ⟨.int (g i j),H,I.tok _,⟨_,rfl⟩,q⟩
theorem wz {f:Value->Value->Sem Value} {g:Int->Int->Int}
  (rule:∀(i j:Int) (t u:Tok) (s:Shared) (Q:Value->Shared->Prop) (E:Value->Shared->Prop),Q (.int (g i j) s.toks) { s with toks:=s.toks + 1 }->wpAny (model X.prog X.w) X.A (f (.int i t) (.int j u)) Q E s) :
  OpR X f (um fun i j=>.int (g i j)):=by
 intro pins s σ H x y v u Q I rx ry h;obtain ⟨i,j,rfl,rfl,q⟩:=h;obtain ⟨t,rfl⟩:=rx;obtain ⟨t',rfl⟩:=ry;exact rule i j t t' s _ _ ⟨.int (g i j),H,I.tok _,⟨_,rfl⟩,q⟩
theorem wC {f:Value->Value->Sem Value} {g:Int->Int->Bool}
  (rule:∀(i j:Int) (t u:Tok) (s:Shared) (Q:Value->Shared->Prop) (E:Value->Shared->Prop),Q (.bool (g i j)) s->wpAny (model X.prog X.w) X.A (f (.int i t) (.int j u)) Q E s) :
  OpR X f (um fun i j=>.bl (g i j)):=by
 intro pins s σ H x y v u Q I rx ry h;obtain ⟨i,j,rfl,rfl,q⟩:=h;obtain ⟨t,rfl⟩:=rx;obtain ⟨t',rfl⟩:=ry;exact rule i j t t' s _ _ ⟨.bl (g i j),H,I,rfl,q⟩
noncomputable def wD (i j:Int):Prop:=0<=j/\j<=1000000/\i.natAbs < 2 ^ 64
noncomputable def CMul (i j:Int):Prop:=(-(2 ^ 64) < i/\i < 2 ^ 64)\/(-(2 ^ 64) < j/\j < 2 ^ 64)
theorem CMul.ok {i j:Int} (h:CMul i j):IntMulOk i j:=by
 rcases h with ⟨h1,h2⟩ | ⟨h1,h2⟩
 ·exact .of_left (intBits_le_64 h1 h2)
 ·exact .of_right (intBits_le_64 h1 h2)
theorem op_add:OpR X (binaryOp .Add) (um fun i j=>.int (i + j)):=wz fun _ _ _ _ _ _ _ q=>add_int q
theorem K6:OpR X (binaryOp .Sub) (um fun i j=>.int (i - j)):=wz fun _ _ _ _ _ _ _ q=>sub_int q
theorem K7:OpR X (binaryOp .Mod) (rI (fun _ j=>j≠0) fun i j=>.int (i.fmod j)):=wy fun _ _ _ _ _ _ _ hc q=>mod_int' hc q
theorem K8:OpR X (binaryOp .Pow) (rI wD fun i j=>.int (i ^ j.toNat)):=wy fun _ _ _ _ _ _ _ hc q=>pow_int_small hc.1 hc.2.1 hc.2.2 q
theorem K9:OpR X (binaryOp .LShift) (rI wD fun i j=>.int (i * 2 ^ j.toNat)):=wy fun _ _ _ _ _ _ _ hc q=>lshift_int_small hc.1 hc.2.1 hc.2.2 q
theorem unI {f:Value->Sem Value} {g:Int->Int}
  (rule:∀(i:Int) (t:Tok) (s:Shared) (Q:Value->Shared->Prop) (E:Value->Shared->Prop),Q (.int (g i) s.toks) { s with toks:=s.toks + 1 }->wpAny (model X.prog X.w) X.A (f (.int i t)) Q E s) :
  Gd X f (rU fun i=>.int (g i)):=by
 intro pins s σ H x v Q I rx h;obtain ⟨i,rfl,q⟩:=h;obtain ⟨t,rfl⟩:=rx;exact rule i t s _ _ ⟨.int (g i),H,I.tok _,⟨_,rfl⟩,q⟩
theorem K_:Gd X (unaryOp .USub) (rU fun i=>.int (-i)):=unI fun _ _ _ _ _ q=>neg_int q
end
section
variable {X:Cx} {a b c:Expr} {ta tb tc:TE} {pos:Pos}
theorem Ge {pins:List (Addr×Obj)} {σ:St} {H:Hp} {s:Shared} {Q:VK} {k k':Bool} (I:Inv X pins σ H s) (q:Q (.bl k) H) (e:k=k'):EP X pins σ Q (.bool k') s:=by
 subst e;exact ⟨.bl k,H,I,rfl,q⟩
theorem La:OpR X (compareOp .Lt) (um fun i j=>.bl (decide (i < j))):=wC fun _ _ _ _ _ _ _ q=>lt_int q
theorem Lb:OpR X (compareOp .Gt) (um fun i j=>.bl (decide (j < i))):=wC fun _ _ _ _ _ _ _ q=>gt_int q
theorem Ld:OpR X (compareOp .Is) (fun x y H Q=>y=.non/\Q (.bl (decide (x=.non))) H):=by
 intro pins s σ H x y v u Q I rx ry h;obtain ⟨rfl,q⟩:=h
 cases ry
 refine is_none_gen (Ge I q ?_)
 cases x <;> first
  | (cases rx; rfl)
  | (obtain ⟨t,rfl⟩:=rx; rfl)
theorem Le:OpR X (compareOp .IsNot) (fun x y H Q=>y=.non/\Q (.bl (!decide (x=.non))) H):=by
 intro pins s σ H x y v u Q I rx ry h;obtain ⟨rfl,q⟩:=h
 cases ry
 refine isnot_none_gen (Ge I q ?_)
 cases x <;> first
  | (cases rx; rfl)
  | (obtain ⟨t,rfl⟩:=rx; rfl)
theorem OpR.or {f:Value->Value->Sem Value} {r r':R2} (h:OpR X f r) (h':OpR X f r'):OpR X f (fun x y H Q=>r x y H Q\/r' x y H Q):=by
 intro pins s σ H x y v u Q I rx ry q;rcases q with q | q
 ·exact h pins s σ H x y v u Q I rx ry q
 ·exact h' pins s σ H x y v u Q I rx ry q
theorem dH (b:Expr) {op:CmpOp} (h:op≠.In:=by decide) (h2:op≠.NotIn:=by decide):behindInMarks op b=false:=by
 have e1:(op == CmpOp.In)=false:=by cases op <;> first | rfl | exact absurd rfl h
 have e2:(op == CmpOp.NotIn)=false:=by cases op <;> first | rfl | exact absurd rfl h2
 cases b <;> simp [behindInMarks,e1,e2]
noncomputable def Cg (K:Frag) (x:V) (H:Hp) (k:Bool):Prop :=
 match x with
 | .non=>k=false
 | .bl b=>k=b
 | .int i=>k=(i != 0)
 | .str y=>y.length<=sizeLine/\k=((y.length:Int) != 0)
 | .byt y=>y.size<=sizeLine/\k=((y.size:Int) != 0)
 | .ref p=>(∃xs,SqL K H p xs/\k = !xs.isEmpty)\/(∃xs,SqT K H p xs/\k = !xs.isEmpty)\/∃kvs,H p=some (.dK kvs)/\k = !kvs.isEmpty
 | _=>False
theorem Lf {κ:Type} {kvs:List (κ×V)} {vs:List (κ×Value)} (r:KV kvs vs):(!vs.isEmpty) = !kvs.isEmpty:=by
 cases r <;> rfl
theorem Gf {xs:List V} {its:List Value} (r:Vals xs its):(!its.toArray.isEmpty) = !xs.isEmpty:=by
 cases r <;> simp
theorem vH:(sizeLine:Nat) < 2 ^ 63:=by rw [sizeLine_eq]; decide
theorem Lg:Ce X (fun x H Q=>∃k,Cg X.K x H k/\Q k H):=by
 intro pins s σ H x v Q I rx h;obtain ⟨k,e,q⟩:=h;have hl:=vH;have hs:sizeLine=16777216:=sizeLine_eq
 cases x with
 | non =>
  cases rx
  have e':k=false:=e;subst e';exact truthy_none ⟨H,I,q⟩
 | bl b =>
  cases rx
  have e':k=b:=e;subst e';exact wpAny_truthy_bool ⟨H,I,q⟩
 | int i =>
  obtain ⟨t,rfl⟩:=rx;have e':k=(i != 0):=e;subst e';exact PySem.P.truthy_int ⟨H,I,q⟩
 | str y =>
  obtain ⟨t,rfl⟩:=rx;obtain ⟨hy,e'⟩:y.length<=sizeLine/\k=((y.length:Int) != 0):=e;subst e';exact PySem.P.truthy_str (by omega) ⟨H,I.tok _,q⟩
 | byt y =>
  obtain ⟨t,rfl⟩:=rx;obtain ⟨hy,e'⟩:y.size<=sizeLine/\k=((y.size:Int) != 0):=e;subst e';exact truthy_bytes (by omega) ⟨H,I.tok _,q⟩
 | ref p =>
  cases rx
  have e':(∃xs,SqL X.K H p xs/\k = !xs.isEmpty)\/(∃xs,SqT X.K H p xs/\k = !xs.isEmpty)\/∃kvs,H p=some (.dK kvs)/\k = !kvs.isEmpty:=e;rcases e' with ⟨xs,hx,e'⟩ | ⟨xs,hx,e'⟩ | ⟨kvs,hx,e'⟩
  ·subst e';obtain ⟨its,r,pl,hz⟩:=I.list hx;have hlen:=r.length;exact wpAny_truthy_list pl.isList (by simp only [size_toArray]; omega) ⟨H,I.tok _,by rw [Gf r]; exact q⟩
  ·subst e';obtain ⟨its,r,pl,hz⟩:=I.tuple hx;have hlen:=r.length;exact truthy_tuple pl (by simp only [size_toArray]; omega) ⟨H,I.tok _,by rw [Gf r]; exact q⟩
  ·subst e';obtain ⟨hz,hS,vs,r,m⟩:kvs.length<=sizeLine/\(p == sysModules)=false/\∃vs,KV kvs vs/\s.heap.DictOf (jk X.prog X.w) p vs:=I.hok p _ hx;have hlen:kvs.length=vs.length:=Paired.length r;exact wpAny_truthy_dict hS m (by omega) ⟨H,I.tok _,by rw [Lf r]; exact q⟩
 | _=>exact (show False from e).elim
theorem op_add_str:OpR X (binaryOp .Add) (fun x y H Q=>∃i j,x=.str i/\y=.str j/\i.length + j.length<=sizeLine/\Q (.str (i ++ j)) H):=by
 intro pins s σ H x y v u Q I rx ry h;obtain ⟨i,j,rfl,rfl,hz,q⟩:=h;obtain ⟨t,rfl⟩:=rx;obtain ⟨t',rfl⟩:=ry;exact add_str (fun t' tk=>⟨.str (i ++ j),H,I.tok _,⟨_,rfl⟩,q⟩) hz
theorem vals1 {x:V} {us:List Value} (r:Vals [x] us):∃u,us=[u]/\RelV x u:=by
 cases r with
 | cons r1 r2=>cases r2; exact ⟨_,rfl,r1⟩
theorem vals2 {x y:V} {us:List Value} (r:Vals [x,y] us):∃u w',us=[u,w']/\RelV x u/\RelV y w':=by
 cases r with
 | cons r1 r2 =>
  cases r2 with
  | cons r3 r4=>cases r4; exact ⟨_,_,rfl,r1,r3⟩
theorem Lh:CallR X (.builtin "abs") (fun xs H Q=>∃i,xs=[.int i]/\Q (.int (if i < 0 then -i else i)) H):=by
 intro pins s σ H xs us Q I r h;obtain ⟨i,rfl,q⟩:=h;obtain ⟨u,rfl,t,rfl⟩:=vals1 r;exact call_abs_int fun u tk=>⟨.int (if i < 0 then -i else i),H,I.tok _,⟨_,rfl⟩,q⟩
theorem hC' (hc:X.calm=true):CallR X (.builtin "min") (fun xs H Q=>∃i j,xs=[.int i,.int j]/\Q (.int (if j < i then j else i)) H):=by
 intro pins s σ H xs us Q I r h;obtain ⟨i,j,rfl,q⟩:=h;obtain ⟨u,w',rfl,⟨t,rfl⟩,⟨t',rfl⟩⟩:=vals2 r;refine min_two_ints (I.ok.hd hc) fun h' tk k=>⟨_,H,I.kept k,?_,q⟩
 by_cases hj:j < i
 ·rw [if_pos hj,if_pos hj]; exact ⟨_,rfl⟩
 ·rw [if_neg hj,if_neg hj]; exact ⟨_,rfl⟩
noncomputable def wF (K:Frag) (x:V) (H:Hp) (n:Nat):Prop :=
 match x with
 | .str y=>y.length<=sizeLine/\n=y.length
 | .byt y=>y.size<=sizeLine/\n=y.size
 | .ref p=>(∃xs,SqL K H p xs/\n=xs.length)\/∃xs,SqT K H p xs/\n=xs.length
 | _=>False
theorem Li:CallR X (.builtin "len") (fun xs H Q=>∃x n,xs=[x]/\wF X.K x H n/\Q (.int n) H):=by
 intro pins s σ H xs us Q I r h;obtain ⟨x,n,rfl,e,q⟩:=h;obtain ⟨u,rfl,rx⟩:=vals1 r;have hl:=vH;have hs:sizeLine=16777216:=sizeLine_eq
 cases x with
 | str y =>
  obtain ⟨t,rfl⟩:=rx;obtain ⟨hy,e'⟩:y.length<=sizeLine/\n=y.length:=e;subst e';exact len_str (by omega) ⟨.int _,H,I.tok _,⟨_,rfl⟩,q⟩
 | byt y =>
  obtain ⟨t,rfl⟩:=rx;obtain ⟨hy,e'⟩:y.size<=sizeLine/\n=y.size:=e;subst e';exact len_bytes (by omega) ⟨.int _,H,I.tok _,⟨_,rfl⟩,q⟩
 | ref p =>
  cases rx
  have e':(∃xs,SqL X.K H p xs/\n=xs.length)\/∃xs,SqT X.K H p xs/\n=xs.length:=e;rcases e' with ⟨xs,hx,e'⟩ | ⟨xs,hx,e'⟩
  ·subst e';obtain ⟨its,r',pl,hz⟩:=I.list hx;have hlen:=r'.length;exact Calls.call_len_list pl.isList (by simp only [size_toArray]; omega) ⟨.int xs.length,H,I.tok _,⟨_,by simp only [size_toArray]; rw [hlen]⟩,q⟩
  ·subst e';obtain ⟨its,r',pl,hz⟩:=I.tuple hx;have hlen:=r'.length;exact len_tuple pl (by simp only [size_toArray]; omega) ⟨.int xs.length,H,I.tok _,⟨_,by simp only [size_toArray]; rw [hlen]⟩,q⟩
 | _=>exact (show False from e).elim
end
structure ObjM (h:Heap) (x dx C:Addr) (mA:Str->Option Value):Prop where
 obj:h.get? x=some (instObj C dx)
 ns:h.Ns1 dx mA
 ne:dx≠x
theorem Gg {h:Heap} {dx:Addr} {mA:Str->Option Value} (n:h.Ns1 dx mA):∃od,h.get? dx=some od/\∀name,lookIn name od=some (mA name):=by
 obtain ⟨o,es,ep,ho,hd,hk,_,hm⟩:=n;refine ⟨o,ho,fun name=>?_⟩;have e:=hm name;unfold nsFind findBy at e;rw [<- Array.find?_toList] at e;unfold lookIn;rw [hd];dsimp only
 split
 ·rename_i y q;rw [q] at e;exact congrArg some e
 ·rename_i q;rw [q] at e;have a:es.toList.any (·.refKey)=false:=by
   rw [any_eq_false];intro y hy;obtain ⟨z,t,hkey⟩:=hk y (Array.mem_toList_iff.mp hy);simp [DictEntry.refKey,hkey]
  have a':¬es.toList.any (·.refKey)=true:=by rw [a]; exact Bool.false_ne_true
  rw [if_neg a'];exact congrArg some e
theorem ObjM.look {h:Heap} {x dx C:Addr} {mA:Str->Option Value} (I:ObjM h x dx C mA):∃od,InstAt h x (instObj C dx) C (some od)/\∀name,lookIn name od=some (mA name) :=
 let ⟨od,ho,hl⟩:=Gg I.ns
 ⟨od,⟨I.obj,rfl,rfl,ho⟩,hl⟩
section
variable {prog:Program} {w:World} {A:Around} {E:Value->Shared->Prop} {s:Shared} {K:Frag} {x dx C f:Addr} {mA:Str->Option Value} {name:Str} {v:Value}
end
section
variable {P:Program} {w:World} {H H':Hp} {h h':Heap} {a C dx:Addr} {fs fs':List (Str×V)}
theorem Lj (hok:HOk P w H h) (e:H a=some (.ins C dx fs)):∃mA,ObjM h a dx C mA/\(∀f,uM (fs.lookup f) (mA f))/\PySem.Within mA (fs.map (·.1))/\fs.length<=1000/\H dx=some (.own a):=by
 obtain ⟨d,z,ne,ob,mA,n,r,q⟩:=(show ObjOk P w H h a (.ins C dx fs) from hok a _ e)
 exact ⟨mA,⟨ob,n,ne⟩,r,q,z,d⟩
end
structure Cls (K:Frag) (C:Addr):Prop where
 pg:plainGet K C Str.empty=true
 hd:hasDictIn K C=true
 po:plainOver K C=true
 sa:findIn K (.ref C) "__setattr__" = some (some (.builtin "object.__setattr__"))
theorem Cls.get {K:Frag} {C:Addr} (c:Cls K C) (f:Str):plainGet K C f=true:=c.pg
structure Con (K:Frag) (C:Addr) (f:Str) (v:V) (u:Value):Prop where
 at_:findIn K (.ref C) f=some (some u)
 rel:RelV v u
 get:specialIn K u "__get__" = some none
 cp:copiedNames.contains f=false
structure Meth (K:Frag) (C:Addr) (m:Str) (f:Addr):Prop where
 at_:findIn K (.ref C) m=some (some (.ref f))
 fn:isFn K (.ref f)=true
 kp:keepIn K (.ref f)=true
section
variable {X:Cx} {pins:List (Addr×Obj)} {σ:St} {H:Hp} {s:Shared} {a C dx:Addr} {fs:List (Str×V)} {f:Str} {v:V} {A:Around} {E:Value->Shared->Prop}
theorem Inv.made (I:Inv X pins σ H s):Inv X pins σ (upd (upd H s.heap.objs.size (.own (s.heap.objs.size + 1))) (s.heap.objs.size + 1) (.ins C s.heap.objs.size []))
    { s with heap:=(s.heap.push emptyDict).push (instObj C s.heap.objs.size) }:=by
  have e1:(s.heap.push emptyDict).get? s.heap.objs.size=some emptyDict:=Heap.get?_push_size s.heap rfl;have e2:((s.heap.push emptyDict).push (instObj C s.heap.objs.size)).get? (s.heap.objs.size + 1)=some (instObj C s.heap.objs.size):=by
    have:=Heap.get?_push_size (s.heap.push emptyDict) (o:=instObj C s.heap.objs.size) rfl
    rwa [Heap.size_push] at this
  have e3:(s.heap.push emptyDict).Ns s.heap.objs.size (fun _=>none):=⟨emptyDict,#[],_,e1,rfl,(fun e he=>absurd he (by simp)),fun _=>rfl⟩;have I1:=I.laid (a:=s.heap.objs.size) (o:=.own (s.heap.objs.size + 1)) (h':=s.heap.push emptyDict) (t':=s.toks) (fun b u q=>Heap.get?_push_of_some _ q) (Nat.le_refl _) ⟨_,e1⟩;refine I1.laid (a:=s.heap.objs.size + 1) (o:=.ins C s.heap.objs.size []) (t':=s.toks) (fun b u q=>Heap.get?_push_of_some _ q) (Nat.le_of_eq (Heap.size_push _ _)) ?_;have ne:s.heap.objs.size≠s.heap.objs.size + 1:=Nat.ne_of_lt (Nat.lt_succ_self _);refine ⟨by rw [bT ne,dR],Nat.zero_le _,ne,e2,fun _=>none,(Heap.Ns1.of_empty e3).at fun o q=>Heap.get?_push_of_some _ q,fun _=>True.intro,fun y hy=>absurd rfl hy⟩
theorem Ln {prog:Program} {w:World} {env:Env} {e:Expr} {f:Str} {pos:Pos} {s:Shared} {Q:Value->Shared->Prop} (hb:attributeBase e f env (eval e env)=eval e env)
  (h:wpAny (model prog w) A (eval e env) (fun o s₁=>wpAny (model prog w) A (getAttr o f true) Q E s₁) E s):wpAny (model prog w) A (eval (.Attribute e f pos) env) Q E s :=
 Attribute_any_ h (by rw [arm_eval_Attribute,hb])
end
section
variable {X:Cx} {o e value:Expr} {f:Str} {pos pos' tpos:Pos} {ta tv:TE}
end
section
variable {X:Cx} {pins:List (Addr×Obj)} {σ:St} {H:Hp} {s:Shared} {A:Around} {E:Value->Shared->Prop} {Q:Value->Shared->Prop} {c:Value} {b:Bool}
inductive TyOf (K:Frag) (H:Hp):V->Value->Prop where
 | non:TyOf K H .non (.type "NoneType")
 | bl (x:Bool):TyOf K H (.bl x) (.type "bool")
 | int (i:Int):TyOf K H (.int i) (.type "int")
 | str (x:Str):TyOf K H (.str x) (.type "str")
 | flt (x:UInt64):TyOf K H (.flt x) (.type "float")
 | lst {a:Addr} {xs:List V} (e:H a=some (.lst xs)):TyOf K H (.ref a) (.type "list")
 | frz {a:Addr} {o:Obj} {xs:List V} (e:H a=some (.frz o (.lst xs))):TyOf K H (.ref a) (.type "list")
 | tup {a:Addr} {xs:List V} (e:H a=some (.tup xs)):TyOf K H (.ref a) (.type "tuple")
 | dK {a:Addr} {kvs:List (Key×V)} (e:H a=some (.dK kvs)):TyOf K H (.ref a) (.type "dict")
 | dT {a:Addr} {kvs:List (List Key×V)} (e:H a=some (.dT kvs)):TyOf K H (.ref a) (.type "dict")
 | ins {a C dx:Addr} {fs:List (Str×V)} (e:H a=some (.ins C dx fs)) (cl:Cls K C) (ha:findIn K (.ref C) "__class__" = some (some (.builtin "object.__class__")))
   (hn:specialIn K (.builtin "object.__class__") "__get__" = some (some (.builtin "getset_descriptor.__get__"))) (htk:takesIn K (.builtin "object.__class__")=some true)
   (hm:mroIn K C (.type "object")=some true):TyOf K H (.ref a) (.ref C)
theorem cn' {x:V} {u t:Value} (I:Inv X pins σ H s) (rx:RelV x u) (ty:TyOf X.K H x t) (e:kitOne X.K t c=some b) (h:∀tk,Q (.bool b) { s with toks:=tk }) :
  wpAny (model X.prog X.w) A (call (.builtin "isinstance") [u,c]) Q E s:=by
 cases ty with
 | non=>cases (show u=Value.none from rx); exact kia_one kitx_none I.kIn True.intro e (fun z=>nomatch z) h
 | bl y=>cases (show u=Value.bool y from rx); exact kia_one kitx_bool I.kIn True.intro e (fun z=>nomatch z) h
 | int i=>obtain ⟨t,q⟩:=(show ∃t,u=Value.int i t from rx); cases q; exact kia_one kitx_int I.kIn True.intro e (fun z=>nomatch z) h
 | str y=>obtain ⟨t,q⟩:=(show ∃t,u=Value.str y t from rx); cases q; exact kia_one kitx_str I.kIn True.intro e (fun z=>nomatch z) h
 | flt y=>obtain ⟨t,q⟩:=(show ∃t,u=Value.float y t from rx); cases q; exact kia_one kitx_float I.kIn True.intro e (fun z=>nomatch z) h
 | @lst a xs ea =>
  cases (show u=Value.ref a from rx)
  obtain ⟨_,_,n,_,h1⟩:=(show ObjOk X.prog X.w H s.heap a (.lst xs) from I.hok a _ ea)
  exact kia_one kitx_list I.kIn ⟨_,h1,rfl⟩ e (fun z=>nomatch z) h
 | @frz a ob xs ea =>
  cases (show u=Value.ref a from rx)
  obtain ⟨_,_,_,n,_,h1⟩:=(show ObjOk X.prog X.w H s.heap a (.frz ob (.lst xs)) from I.hok a _ ea)
  exact kia_one kitx_list I.kIn ⟨_,h1,rfl⟩ e (fun z=>nomatch z) h
 | @tup a xs ea =>
  cases (show u=Value.ref a from rx)
  obtain ⟨_,_,_,p⟩:=(show ObjOk X.prog X.w H s.heap a (.tup xs) from I.hok a _ ea)
  obtain ⟨o,h1,h2,_⟩:=p;exact kia_one kitx_tuple I.kIn ⟨o,h1,h2⟩ e (fun z=>nomatch z) h
 | @dK a kvs ea =>
  cases (show u=Value.ref a from rx)
  obtain ⟨_,_,vs,_,p⟩:=(show ObjOk X.prog X.w H s.heap a (.dK kvs) from I.hok a _ ea)
  obtain ⟨o,es,ep,h1,h2,_⟩:=p;exact kia_one kitx_dict I.kIn ⟨o,h1,h2.1⟩ e (fun z=>nomatch z) h
 | @dT a kvs ea =>
  cases (show u=Value.ref a from rx)
  obtain ⟨_,_,xs,_,o,es,ep,h1,h2,_⟩:=(show ObjOk X.prog X.w H s.heap a (.dT kvs) from I.hok a _ ea)
  exact kia_one kitx_dict I.kIn ⟨o,h1,h2.1⟩ e (fun z=>nomatch z) h
 | @ins a C dx fs ea cl ha hn htk hm =>
  cases (show u=Value.ref a from rx)
  obtain ⟨mA,O,_⟩:=Lj I.hok ea;obtain ⟨od,J,_⟩:=O.look;exact kia_one (kitx_own (cl.get _) cl.hd ha hn htk hm) I.kIn J e (fun z=>nomatch z) h
end
structure Room (k:Nat) (A:Around):Prop where
 hd:A.handled=none
 dp:A.depth + 3 * k + 5 < recursionLimit
 un:A.units + 16 * k + 200 < cLine
theorem Room.mono {j k:Nat} {A:Around} (r:Room k A) (h:j<=k):Room j A:=⟨r.hd,by have:=r.dp; omega,by have:=r.un; omega⟩
theorem Room.deeper {k:Nat} {A:Around} (r:Room (k + 1) A) (env:Env):Room k (A.deeper env) :=
 ⟨r.hd,by have:=r.dp; show A.depth + 1 + 3 * k + 5 < _; omega,by have:=r.un; show A.units + 3 + 16 * k + 200 < _; omega⟩
theorem Room.in1 {k:Nat} {A:Around} (r:Room (k + 1) A):Room k A.in1 :=
 ⟨r.hd,by have:=r.dp; show A.depth + 3 * k + 5 < _; omega,by have:=r.un; show A.units + 1 + 16 * k + 200 < _; omega⟩
theorem Lp {A:Around} {C:Addr} {us:List Value} {kw:List (Str×Value)}:(A.under (.builtin "type.__call__" ⟨.ref C :: us,kw⟩)).depth=A.depth + 1:=by
 first | rfl | simp [Around.under,Code.weight,Code.isCreation,Code.isGuard,Code.isCaller,Code.frames,Code.isFrame,guardIds]
theorem Lq {A:Around} {C:Addr} {us:List Value} {kw:List (Str×Value)}:(A.under (.builtin "type.__call__" ⟨.ref C :: us,kw⟩)).units=A.units + 1:=by
 first | rfl | simp [Around.under,Code.cUnits,Code.frames,Code.isFrame]
theorem Room.make {k:Nat} {A:Around} (r:Room (k + 1) A) (C:Addr) (us:List Value) (kw:List (Str×Value)):Room k (A.under (.builtin "type.__call__" ⟨.ref C :: us,kw⟩)) :=
 ⟨r.hd,by have:=r.dp; rw [Lp]; omega,by have:=r.un; rw [Lq]; omega⟩
theorem Room.depth {k:Nat} {A:Around} (r:Room k A):A.depth < recursionLimit:=by have:=r.dp; omega
theorem Room.units {k:Nat} {A:Around} (r:Room k A):A.units + 64 < cLine:=by have:=r.un; omega
noncomputable def wG:TA:=fun _ H Q=>Q [] H
noncomputable def nP (ta:TE) (tr:TA):TA:=fun σ H Q=>ta σ H fun x H1=>tr σ H1 fun xs H2=>Q (x :: xs) H2
section
variable {X:Cx} {e:Expr} {es:List Expr} {te:TE} {t:TA} {pos:Pos}
theorem Lr:PA X [] wG:=fun _ _ _ _ H Q I h=>Calls.spliced_nil ⟨[],H,I,.nil,h⟩
theorem hD' (ha:PE X e te) (hr:PA X es t) (hs:starEach (e :: es) X.env=(false,eval e X.env) :: starEach es X.env:=by rfl):PA X (e :: es) (nP te t):=by
 intro pos pins s σ H Q I h;rw [hs];show wpAny _ _ (spliced ((false,eval e X.env) :: backTo pos (starEach es X.env))) _ _ s;refine Calls.spliced_cons (eX (ha pins s σ H _ I h) fun u s1 ⟨x,H1,I1,r1,q1⟩=>?_);exact eX (hr pos pins s1 σ H1 _ I1 q1) fun us s2 ⟨xs,H2,I2,r2,q2⟩=>⟨x :: xs,H2,I2,.cons r1 r2,q2⟩
end
abbrev Sp:=List V->Hp->VK->XK->Prop
abbrev mO:=List Env->Hp->Shared->XK->Value->Shared->Prop
structure Env0 (P:Program) (w:World) (K:Frag) (mg:Str->Option Value) (base:Heap) (A:Around) (outer:List Env) (s:Shared) (H:Hp):Prop where
 frames:A.frames=some outer
 mod:Mod K mg base
 bs:∀b o,base.get? b=some o->s.heap.get? b=some o/\H b=none
 bsz:base.objs.size<=s.heap.objs.size
 funs:s.heap.FunFrames base outer
 frf:∀b∈frs outer,H b=none
 hok:HOk P w H s.heap
 bare:AllBare s.gens
noncomputable def CE (outer:List Env) (P:Program) (w:World) (H:Hp) (s:Shared) (Q:VK) (u:Value) (s':Shared):Prop :=
 ∃v H',s'.os=s.os/\AllBare s'.gens/\Un (frs outer) [] H H' s.heap s'.heap/\HOk P w H' s'.heap/\RelV v u/\Q v H'
noncomputable def CR (CX:mO) (outer:List Env) (P:Program) (w:World) (H:Hp) (s:Shared) (Q:VK) (E:XK) (r:Result) (s':Shared):Prop :=
 match r with
 | .ok (.ret u)=>CE outer P w H s Q u s'
 | .ok _=>False
 | .error e=>CX outer H s E e s'
structure FnOk (P:Program) (w:World) (K:Frag) (mg:Str->Option Value) (base:Heap) (CX:mO) (k:Nat) (f:Addr) (fd:FuncData) (ps:List Str) (sp:Sp):Prop where
 len:∀vs H Q E,sp vs H Q E->vs.length=ps.length
 run:∀(A:Around) (outer:List Env) (s:Shared) (H:Hp) (args:Args) (us:List Value) (vs:List V) (Q:VK) (E:XK),Room k A->Env0 P w K mg base A outer s H->BindsTo s fd args (ps.zip us)->Vals vs us->sp vs H Q E ->
  codeAny (model P w) A (.call (.ref f) args) (CR CX outer P w H s Q E) s
theorem FnOk.mono {P:Program} {w:World} {K:Frag} {mg:Str->Option Value} {base:Heap} {CX:mO} {j k:Nat} {f:Addr} {fd:FuncData} {ps:List Str} {sp:Sp} (F:FnOk P w K mg base CX j f fd ps sp) (h:j<=k) :
  FnOk P w K mg base CX k f fd ps sp:=⟨F.len,fun A outer s H args us vs Q E hr=>F.run A outer s H args us vs Q E (hr.mono h)⟩
theorem Env0.make {P:Program} {w:World} {K:Frag} {mg:Str->Option Value} {base:Heap} {A:Around} {outer:List Env} {s:Shared} {H:Hp} (e:Env0 P w K mg base A outer s H) (C:Addr) (us:List Value) (kw:List (Str×Value)) :
  Env0 P w K mg base (A.under (.builtin "type.__call__" ⟨.ref C :: us,kw⟩)) outer s H:=⟨by first | exact e.frames | (simpa [Around.under,Code.envs,Code.isFrame,pushEnvs] using e.frames),e.mod,e.bs,e.bsz,e.funs,e.frf,e.hok,e.bare⟩
theorem Env0.in1 {P:Program} {w:World} {K:Frag} {mg:Str->Option Value} {base:Heap} {A:Around} {outer:List Env} {s:Shared} {H:Hp} (e:Env0 P w K mg base A outer s H) :
  Env0 P w K mg base A.in1 outer s H:=⟨e.frames,e.mod,e.bs,e.bsz,e.funs,e.frf,e.hok,e.bare⟩
section
variable {X:Cx} {pins:List (Addr×Obj)} {σ:St} {H:Hp} {s s':Shared}
theorem Inv.env0 (I:Inv X pins σ H s):Env0 X.prog X.w X.K X.mg X.base X.A X.stack s H :=
 ⟨I.ok.frames,I.ok.mod,I.bs,Nat.le_trans I.ok.bsz I.sz,I.stack,I.stkFree,I.hok,I.bare⟩
theorem Inv.after {Q:VK} {u:Value} (I:Inv X pins σ H s) (h:CE X.stack X.prog X.w H s Q u s'):EP X pins σ Q u s':=by
 obtain ⟨v,H',os,bare,un,hok,r,q⟩:=h;obtain ⟨hh,g,d,t,os'⟩:=s';obtain rfl:os'=s.os:=os;exact ⟨v,H',I.call (h':=hh) (g':=g) (d':=d) (t':=t) (ch:=[]) un hok bare (fun b z=>absurd z (by simp)),r,q⟩
end
noncomputable def Binds (K:Frag) (fd:FuncData) (ps:List Str) (ds:List Value):Prop :=
 ∀(s:Shared) (us:List Value),K.In s.heap->(us ++ ds).length=ps.length->BindsTo s fd ⟨us,[]⟩ (ps.zip (us ++ ds))
theorem Binds.all {K:Frag} {fd:FuncData} {ps:List Str} (h:∀us:List Value,us.length=ps.length->bindArgs fd ⟨us,[]⟩=pure (ps.zip us)):Binds K fd ps []:=fun s us _ hl=>by
 rw [append_nil] at hl ⊢;exact .of_eq (h us hl)
noncomputable def uO (CX:mO) (X:Cx) (E:XK):Prop:=∀(pins:List (Addr×Obj)) (σ:St) (H:Hp) (s:Shared) (e:Value) (s':Shared),Inv X pins σ H s->CX X.stack H s E e s'->X.xe e s'
section
variable {X:Cx} {CX:mO} {k:Nat} {f C:Addr} {fd:FuncData} {ps:List Str} {sp:Sp} {dvs:List V} {ds:List Value} {E:XK} {x m:Str} {p pos apos:Pos} {e o:Expr} {es:List Expr} {ta:TE} {t:TA}
theorem kq' {pins:List (Addr×Obj)} {σ:St} {H:Hp} {s:Shared} {Q:VK} {us:List Value} {vs:List V} (F:FnOk X.prog X.w X.K X.mg X.base CX k f fd ps sp) (hr:Room k X.A) (hb:Binds X.K fd ps ds) (hd:Vals dvs ds) (hx:uO CX X E)
  (I:Inv X pins σ H s) (r:Vals vs us) (h:sp (vs ++ dvs) H Q E):wpAny (model X.prog X.w) X.A (call (.ref f) us) (EP X pins σ Q) X.xe s:=by
 have r2:Vals (vs ++ dvs) (us ++ ds):=r.append hd;have hl:(us ++ ds).length=ps.length:=by rw [<- r2.length]; exact F.len _ _ _ _ h
 refine wpAny_call (codeAny_mono (F.run X.A X.stack s H ⟨us,[]⟩ (us ++ ds) (vs ++ dvs) Q E hr I.env0 (hb s us I.kIn hl) r2 h) fun r s' hq=>?_)
 cases r with
 | error e=>exact hx pins σ H s e s' I hq
 | ok fl =>
  cases fl with
  | ret u=>exact I.after hq
  | next=>exact False.elim hq
  | brk=>exact False.elim hq
  | cont=>exact False.elim hq
structure Mk (K:Frag) (C f:Addr):Prop where
 makes:makesIn K C=true
 init:findIn K (.ref C) "__init__" = some (some (.ref f))
 fn:isFn K (.ref f)=true
 kp:keepIn K (.ref C)=true
end
section
variable {X:Cx} {CX:mO} {k:Nat} {f C:Addr} {fd:FuncData} {ps ks:List Str} {sp:Sp} {E:XK} {x m:Str} {p pos apos kpos:Pos} {e o:Expr} {es:List Expr} {kws:List Keyword} {te ta:TE} {t tk:TA} {nm:Option Str}
structure KBinds (K:Frag) (fd:FuncData) (ps ks:List Str) (g:List Value->List Value->List Value) (gV:List V->List V->List V):Prop where
 to:∀(s:Shared) (us ws:List Value),K.In s.heap->(g us ws).length=ps.length->BindsTo s fd ⟨us,ks.zip ws⟩ (ps.zip (g us ws))
 rel:∀{vs:List V} {us:List Value} {zs:List V} {ws:List Value},Vals vs us->Vals zs ws->Vals (gV vs zs) (g us ws)
variable {g:List Value->List Value->List Value} {gV:List V->List V->List V}
end
structure FnScope (N P:List Str) (sc:Scope):Prop where
 kind:sc.kind=.function
 co:sc.isCoroutine=false
 gen:sc.isGenerator=false
 nd:N.Nodup
 pre:N.take P.length=P
 par:∀x∈P,sc.names.lookup x=some .local\/sc.names.lookup x=some .cell
 nofree:∀y∈sc.names,y.2≠.free
theorem ed' {kindOf:Str->Option NameKind} {x:Str}:∀{binds:List (Str×Value)} {m:Str->Option Value},(∀v,(x,v)∉binds)->bindL kindOf binds m x=m x
 | [],_,_=>rfl
 | (n,v) :: r,m,h=>by
  unfold bindL;rw [ed' fun w hw=>h w (mem_cons_of_mem _ hw)]
  split
  ·have:x≠n:=by rintro rfl; exact h v mem_cons_self
   simp [this]
  ·rfl
theorem ef' {kindOf:Str->Option NameKind} {x:Str}:∀{binds:List (Str×Value)} {m:Str->Option Value},(∀v,(x,v)∉binds)->bindC kindOf binds m x=m x
 | [],_,_=>rfl
 | (n,v) :: r,m,h=>by
  unfold bindC;rw [ef' fun w hw=>h w (mem_cons_of_mem _ hw)]
  split
  ·rfl
  ·have:x≠n:=by rintro rfl; exact h v mem_cons_self
   simp [this]
theorem Gh {kindOf:Str->Option NameKind} {x:Str} {v:Value}:∀{P:List Str} {vs:List Value} {i:Nat} {m:Str->Option Value},P.Nodup->P[i]? = some x->vs[i]? = some v->kindOf x=some .local ->
  bindL kindOf (P.zip vs) m x=some v
 | [],_,_,_,_,h,_,_=>by simp at h
 | _ :: _,[],_,_,_,_,h,_=>by simp at h
 | p :: P,w :: vs,0,m,nd,h1,h2,hk=>by
  simp at h1 h2; subst h1; subst h2;show bindL kindOf ((p,w) :: P.zip vs) m p=_;unfold bindL;rw [ed' fun v hv=>(nodup_cons.mp nd).1 (of_mem_zip hv).1,if_pos hk];simp
 | p :: P,w :: vs,i + 1,m,nd,h1,h2,hk=>by
  show bindL kindOf ((p,w) :: P.zip vs) m x=_;unfold bindL;exact Gh (i:=i) (nodup_cons.mp nd).2 (by simpa using h1) (by simpa using h2) hk
theorem Gi {kindOf:Str->Option NameKind} {x:Str} {v:Value}:∀{P:List Str} {vs:List Value} {i:Nat} {m:Str->Option Value},P.Nodup->P[i]? = some x->vs[i]? = some v->kindOf x≠some .local ->
  bindC kindOf (P.zip vs) m x=some v
 | [],_,_,_,_,h,_,_=>by simp at h
 | _ :: _,[],_,_,_,_,h,_=>by simp at h
 | p :: P,w :: vs,0,m,nd,h1,h2,hk=>by
  simp at h1 h2; subst h1; subst h2;show bindC kindOf ((p,w) :: P.zip vs) m p=_;unfold bindC;rw [ef' fun v hv=>(nodup_cons.mp nd).1 (of_mem_zip hv).1,if_neg hk];simp
 | p :: P,w :: vs,i + 1,m,nd,h1,h2,hk=>by
  show bindC kindOf ((p,w) :: P.zip vs) m x=_;unfold bindC;exact Gi (i:=i) (nodup_cons.mp nd).2 (by simpa using h1) (by simpa using h2) hk
noncomputable def start (N:List Str) (vs:List V):St:=vs.map some ++ List.replicate (N.length - vs.length) none
noncomputable def dW (CX:mO) (P:Program) (w:World) (K:Frag) (mg:Str->Option Value) (base:Heap) (N:List Str) (qual:Str) (scope:Scope) (f:Addr) (cd:Value) (A:Around) (outer:List Env) (s:Shared) (H:Hp) (E:XK):Cx where
 prog:=P
 w:=w
 K:=K
 mg:=mg
 base:=base
 A:=A.deeper (envOfC qual scope s.heap.objs.size f cd)
 N:=N
 s₀:=s
 H₀:=H
 env:=envOfC qual scope s.heap.objs.size f cd
 outer:=outer
 stack:=envOfC qual scope s.heap.objs.size f cd :: outer
 ex:=[]
 calm:=true
 fn:=fun _=>true
 pn:=[]
 xe:=fun e s'=>wpAny (model P w) (A.deeper (envOfC qual scope s.heap.objs.size f cd)) (leaving (envOfC qual scope s.heap.objs.size f cd) e) (fun _ s''=>CX outer H s E e s'') (fun e' s''=>CX outer H s E e' s'') s'
theorem Ci {sc:Scope} {n:Nat} {x:Str} (h:sc.names.lookup x=some .cell):∃c,(cellsFrom n sc.names []).lookup x=some c:=by
 have q:=cellsFrom_some sc.names n [] (.inl h);exact Option.isSome_iff_exists.mp q
theorem hE' {CX:mO} {P:Program} {w:World} {K:Frag} {mg:Str->Option Value} {base:Heap} {N ps:List Str} {qual:Str} {scope:Scope} {f:Addr} {cd:Value} {A:Around} {outer:List Env} {s s1:Shared} {H:Hp} {E:XK} {us:List Value} {vs:List V}
  (S:FnScope N ps scope) (hd:A.handled=none) (e0:Env0 P w K mg base A outer s H) (hl:vs.length=ps.length) (r:Vals vs us)
  (x:InCallC s s.heap.objs.size (bindL (envOfC qual scope s.heap.objs.size f cd).kindOf (ps.zip us) fun _=>none) (cellsFrom (s.heap.objs.size + 1) scope.names []) (bindC (envOfC qual scope s.heap.objs.size f cd).kindOf (ps.zip us) fun _=>none) s1) :
  Inv (dW CX P w K mg base N qual scope f cd A outer s H E) [] (start N vs) H s1:=by
 have hpl:ps.length<=N.length:=by have:=congrArg List.length S.pre; rw [length_take] at this; omega
 obtain ⟨h1,tk,rfl,hk⟩:=x.done
 have noA:∀b:Addr,b∉(dW CX P w K mg base N qual scope f cd A outer s H E).ex:=fun b z=>absurd (show b∈([]:List Addr) from z) (by simp)
 refine ⟨⟨e0.mod,S.kind,rfl,rfl,Nat.le_refl _,fun y z c h1 h2=>?_,fun y hy=>?_,fun y c _ h=>?_,fun _=>hd,Around.frames_deeper e0.frames,.inr ⟨rfl,rfl⟩,fun b z=>absurd z (noA b),e0.bs,e0.bsz,fun b _ _=>noA b,fun b z=>absurd z (noA b),e0.funs,e0.frf⟩,
  rfl,e0.bare,Un.kept hk,⟨_,x.toInCall.ns,fun i y v h1 h2 h3=>?_⟩,fun y c h=>⟨_,x.cell y c h⟩,e0.hok.fresh (Nat.le_refl _),fun y c h=>?_,fun p hp=>absurd (show p∈([]:List (Addr×Obj)) from hp) (by simp),e0.hok.kept hk,?_⟩
 ·exact name_of_addr x.apart (PySem.mem_of_lookup h1) (PySem.mem_of_lookup h2)
 ·have hy:scope.names.lookup y=some .cell\/scope.names.lookup y=some .free:=hy;rcases hy with hy | hy
  ·exact Ci hy
  ·exact absurd rfl (S.nofree _ (PySem.mem_of_lookup hy))
 ·exact Nat.le_of_lt (x.above y c (PySem.mem_of_lookup h))
 ·have hi:i < vs.length:=by
   unfold start at h2
   by_cases hi:i < vs.length
   ·exact hi
   ·rw [List.getElem?_append_right (by simpa using hi)] at h2;rw [List.getElem?_replicate] at h2
    split at h2 <;> cases h2
  have ha:vs[i]? = some v:=by
   unfold start at h2;rw [List.getElem?_append_left (by simpa using hi),List.getElem?_map] at h2
   cases e:vs[i]? with
   | none=>rw [e] at h2; cases h2
   | some a=>rw [e] at h2; cases h2; rfl
  obtain ⟨u,hu,rv⟩:=r.get ha;have hp:ps[i]? = some y:=by
   rw [<- S.pre,List.getElem?_take_of_lt (by omega)]; exact h1
  have ndP:ps.Nodup:=by rw [<- S.pre]; exact S.nd.sublist (take_sublist _ _)
  refine ⟨u,rv,?_⟩;rcases S.par y (mem_of_getElem? hp) with k | k
  ·exact .inl ⟨k,Gh ndP hp hu k⟩
  ·obtain ⟨c,e⟩:=Ci (n:=s.heap.objs.size + 1) k;refine .inr ⟨.inl k,c,e,?_⟩;have q:=x.cell y c e;rw [Gi ndP hp hu (by show scope.names.lookup y≠_; rw [k]; decide)] at q;exact q
 ·exact e0.hok.fresh (Nat.le_of_lt (x.above y c (PySem.mem_of_lookup h)))
 ·unfold start;show _=N.length;rw [length_append,length_map,length_replicate];omega
theorem Ag {CX:mO} {P:Program} {w:World} {K:Frag} {mg:Str->Option Value} {base:Heap} {k:Nat} {f:Addr} {name qual:Str} {params:Arguments} {body:List Stmt} {scope:Scope} {dV kV doc pm cdv ct oc:Value} {an od:Option Addr}
  {osl:Array (Option Value)} {N ps:List Str} {sp:Sp} (lk:K.lookup f=some ⟨oc,od,.func (fnOf name qual params body scope dV kV doc pm an cdv ct),osl⟩) (hcd:codeIn K cdv qual=true) (S:FnScope N ps scope)
  (len:∀vs H Q E,sp vs H Q E->vs.length=ps.length)
  (hbody:∀(A:Around) (outer:List Env) (s:Shared) (H:Hp) (vs:List V) (Q:VK) (E:XK),Room k (A.deeper (envOfC qual scope s.heap.objs.size f cdv))->sp vs H Q E ->
   ∃t,PSs (dW CX P w K mg base N qual scope f cdv A outer s H E) body t/\t { nx:=fun _ H'=>Q .non H',rt:=Q } (start N vs) H) :
  FnOk P w K mg base CX (k + 1) f (fnOf name qual params body scope dV kV doc pm an cdv ct) ps sp:=by
 refine ⟨len,fun A outer s H args us vs Q E hr e0 hb r hsp=>?_⟩;have hl:=len _ _ _ _ hsp;have KX:K.In s.heap:=e0.mod.kin.keeps fun b o e=>(e0.bs b o e).1;have lim:s.heap.NoLimit:=e0.mod.nolimit.keeps fun b o e=>(e0.bs b o e).1;have hkind:∀y∈ps.zip us,scope.names.lookup y.1=some .local\/(scope.names.lookup y.1=some .cell/\((cellsFrom (s.heap.objs.size + 1) scope.names []).lookup y.1).isSome=true):=fun ⟨n,v⟩ hy=>by
  rcases S.par n (of_mem_zip hy).1 with q | q
  ·exact .inl q
  ·exact .inr ⟨q,cellsFrom_some _ _ _ (.inl q)⟩
 refine codeAny_call_function hr.depth (KX _ _ lk) rfl S.co S.gen rfl (codeRec_of KX hcd) (hb _ _ _ _ ?_);refine wpAny_newFunctionEnv_cells S.kind hkind fun env he s1 x=>?_;subst he;refine ⟨lim.keeps x.toInCall.keep,codeAny_func ?_⟩;obtain ⟨t,ht,hq⟩:=hbody A outer s H vs Q E (hr.deeper _) hsp;have I:Inv (dW CX P w K mg base N qual scope f cdv A outer s H E) [] (start N vs) H s1:=hE' S hr.hd e0 hl r x;refine wpAny_mono (ht [] s1 (start N vs) H _ I hq) (fun fl s' hs=>?_) fun e s' hs=>hs;have fin:∀{σ':St} {H':Hp} {v:V} {u:Value},Inv (dW CX P w K mg base N qual scope f cdv A outer s H E) [] σ' H' s'->RelV v u->Q v H'->CE outer P w H s Q u s' :=
  fun {σ' H' v u} J rv q=>⟨v,H',J.os,J.bare,J.base,J.hok,rv,q⟩
 cases fl with
 | ret u =>
  obtain ⟨v,σ',H',J,rv,q⟩:=hs;exact fin J rv q
 | next =>
  obtain ⟨σ',H',J,q⟩:=hs;exact fin (v:=V.non) (u:=Value.none) J rfl q
 | brk =>
  obtain ⟨_,_,_,q⟩:=hs;exact False.elim q
 | cont =>
  obtain ⟨_,_,_,q⟩:=hs;exact False.elim q
section
variable {X:Cx} {x:Str} {p pos:Pos} {e:Expr} {es:List Expr} {t:TA} {id T:String} {r:List V->Hp->VK->Prop}
end
end L2
namespace HT
open PySem PyProof.Rows
section
open PySem.SeqAt
open PySem.AutoSeq1 (wpAny_loadPart')
open PySem.MeetsSeq PySem.MeetsSeq2 PySem.MeetsSeq3
end
section
variable {prog:Program} {w:World} {A:Around} {E:Value->Shared->Prop} {s:Shared}
theorem cat_tup {t b:Addr} {vs ws:List Value} {Q:Value->Shared->Prop} (ht:IsTup s.heap t vs.toArray) (hb:IsTup s.heap b ws.toArray) (hv:vs≠[])
  (h1:ws=[]->Q (.ref t) s) (h2:ws≠[]->Q (.ref s.heap.objs.size) { s with heap:=s.heap.push { cls:=.type "tuple",data:=.seq (vs ++ ws).toArray } })
  (hsz:vs.length + ws.length<=sizeLine):wpAny (model prog w) A (binaryOp .Add (.ref t) (.ref b)) Q E s:=by
 obtain ⟨⟨cls,dd,data,sl⟩,ho,hc,n,hd⟩:=id ht;obtain ⟨⟨cls2,dd2,data2,sl2⟩,ho2,hc2,n2,hd2⟩:=id hb;simp only at hc hd hc2 hd2;subst hc hd hc2 hd2;have e:vs.toArray ++ ws.toArray=(vs ++ ws).toArray:=by simp
 by_cases hw:ws=[]
 ·exact concat_meets ⟨_,ho,rfl⟩ ⟨_,ho2,rfl⟩ noFill_tuple_add seq_tuple_add PySem.F.slot_tuple_add PySem.F.entry_tuple_add (PySem.F.args_tuple_add_2 _ _)
   (tuple_addW1 t b vs.toArray ws.toArray n n2 dd dd2 sl sl2 (by simpa using hv) (by simp [hw])) ⟨ho,ho2,h1 hw⟩
 ·refine concat_meets ⟨_,ho,rfl⟩ ⟨_,ho2,rfl⟩ noFill_tuple_add seq_tuple_add PySem.F.slot_tuple_add PySem.F.entry_tuple_add (PySem.F.args_tuple_add_2 _ _)
   (tuple_addW2 t b vs.toArray ws.toArray n n2 dd dd2 sl sl2 (by simpa using hv) (by simpa using hw) (by rw [size_toArray,size_toArray]; exact hsz)) ⟨ho,ho2,?_⟩
  rw [e];exact h2 hw
noncomputable def sIx (n d:Nat):Option Int->Nat
 | none=>d
 | some v=>if v < 0 then (v + (n:Int)).toNat else min v.toNat n
theorem sIx_none (n d:Nat):sIx n d none=d:=rfl
theorem sIx_nat (n d k:Nat):sIx n d (some (k:Int))=min k n:=by
 show (if (k:Int) < 0 then ((k:Int) + (n:Int)).toNat else min (k:Int).toNat n)=min k n
 rw [if_neg (by omega),Int.toNat_natCast]
theorem Ls (n d:Nat) (hd:d<=n) (o:Option Int):sIx n d o<=n:=by
 cases o with
 | none=>exact hd
 | some v =>
  show (if v < 0 then (v + (n:Int)).toNat else min v.toNat n)<=n
  by_cases hv:v < 0
  ·rw [if_pos hv]; omega
  ·rw [if_neg hv]; exact Nat.min_le_right _ _
theorem hF' (v:Int) (n d:Nat):(if v < 0 then max (v + (n:Int)) 0 else min v (n:Int))=((sIx n d (some v):Nat):Int):=by
 show (if v < 0 then max (v + (n:Int)) 0 else min v (n:Int))=(((if v < 0 then (v + (n:Int)).toNat else min v.toNat n):Nat):Int)
 by_cases hv:v < 0
 ·simp only [if_pos hv]; omega
 ·simp only [if_neg hv]; omega
theorem Lw (lo hi:Option Int) (n:Nat):Builtin.Slice.sliceAdjust lo hi 1 (n:Int)=(((sIx n 0 lo:Nat):Int),((sIx n n hi:Nat):Int)):=by
 have h1:¬((1:Int) < 0):=by omega
 unfold Builtin.Slice.sliceAdjust;simp only [h1,if_false];refine Prod.ext ?_ ?_
 ·cases lo with
  | none=>rfl
  | some v=>exact hF' v n 0
 ·cases hi with
  | none=>rfl
  | some v=>exact hF' v n n
theorem Lx (i j:Nat):Builtin.Slice.slicePlaces (i:Int) (j:Int) 1=j - i:=by
 unfold Builtin.Slice.slicePlaces;have h1:(1:Int) > 0:=by omega
 simp only [h1,if_true,Int.ediv_one]
 split <;> omega
theorem Gj {v:Value} {o:Option Int} {Q:Option Int->Shared->Prop} (p:IsPart v o) (h:Q o s):wpAny (model prog w) A (Builtin.Slice.slicePartIndex v) Q E s:=by
 cases p with
 | none=>exact slicePart_none h
 | int i t=>exact slicePart_int h
theorem Gk {sl:Addr} {vl vu:Value} {lo hi:Option Int} {n:Nat} {Q:Int×Int×Nat->Shared->Prop} (hs:s.heap.IsSliceOf sl vl vu .none) (pl:IsPart vl lo) (pu:IsPart vu hi)
  (h:Q (((sIx n 0 lo:Nat):Int),1,sIx n n hi - sIx n 0 lo) s):wpAny (model prog w) A (Builtin.Slice.sliceApplied (.ref sl) (pure (n:Int))) Q E s:=by
 obtain ⟨os,hos,hcs,hds⟩:=id hs;unfold Builtin.Slice.sliceApplied Builtin.Slice.sliceFields;refine wpAny_bind (wpAny_bind (wpAny_field hos hds (x:=vl) rfl (wpAny_bind (wpAny_field hos hds (x:=vu) rfl (wpAny_bind (wpAny_field hos hds (x:=.none) rfl (wpAny_pure ?_)))))));refine wpAny_bind (slicePart_none ?_);show wpAny _ _ (if ((1:Int) == 0)=true then _ else _) _ _ s
 rw [if_neg (by decide)];refine wpAny_bind (Gj pl (wpAny_bind (Gj pu (wpAny_bind (wpAny_pure ?_)))))
 show wpAny _ _ (match Builtin.Slice.sliceAdjust lo hi 1 (n:Int) with | (lo,hi)=>pure (lo,(1:Int),Builtin.Slice.slicePlaces lo hi 1)) _ _ s
 rw [Lw lo hi n];show wpAny _ _ (pure (((sIx n 0 lo:Nat):Int),(1:Int),Builtin.Slice.slicePlaces ((sIx n 0 lo:Nat):Int) ((sIx n n hi:Nat):Int) 1)) _ _ s;rw [Lx];exact wpAny_pure h
theorem Ly (xs:Array Value) (i k:Nat):((List.range k).filterMap fun (m:Nat)=>xs[((i:Int) + (m:Int) * 1).toNat]?).toArray=((xs.toList.drop i).take k).toArray:=by
 have e:(fun (m:Nat)=>xs[((i:Int) + (m:Int) * 1).toNat]?)=fun m=>xs[i + m]?:=by
  funext m
  have:((i:Int) + (m:Int) * 1).toNat=i + m:=by omega
  rw [this]
 rw [e];have:=pick_run xs i k;rw [filterMap_map] at this;have e2:((fun x=>xs[x]?) ∘ fun x=>i + x)=fun m=>xs[i + m]?:=rfl;rw [e2] at this;rw [this]
theorem getItem_tuple_cut {t sl:Addr} {items:Array Value} {vl vu:Value} {lo hi:Option Int} {Q:Value->Shared->Prop} (ht:IsTup s.heap t items) (hs:s.heap.IsSliceOf sl vl vu .none) (pl:IsPart vl lo) (pu:IsPart vu hi)
  (hw:¬(sIx items.size 0 lo=0/\sIx items.size items.size hi=items.size))
  (h:Q (.ref s.heap.objs.size) { s with heap:=s.heap.push { cls:=.type "tuple",data:=.seq ((items.toList.drop (sIx items.size 0 lo)).take (sIx items.size items.size hi - sIx items.size 0 lo)).toArray } })
  (hsz:items.size<=sizeLine):wpAny (model prog w) A (getItem (.ref t) (.ref sl)) Q E s:=by
 have htake:sizeOk (.seq ((items.toList.drop (sIx items.size 0 lo)).take (sIx items.size items.size hi - sIx items.size 0 lo)).toArray):=by
  show ((items.toList.drop (sIx items.size 0 lo)).take (sIx items.size items.size hi - sIx items.size 0 lo)).toArray.size<=sizeLine;rw [size_toArray,length_take,length_drop,Array.length_toList];omega
 have hj:sIx items.size items.size hi<=items.size:=Ls _ _ (Nat.le_refl _) hi;obtain ⟨os,hos,hcs,hds⟩:=id hs;have hTs:s.TypeIs (.ref sl) "slice":=⟨os,hos,hcs⟩;unfold getItem
 try with_reducible refine wpAny_holding ?_
 first | refine wpAny_bind (wpAny_pure ?_) | skip
 refine wpAny_bind (wpAny_sequenceKey ht.typeIs (by decide) ?_);refine wpAny_bind (wpAny_callSpecial?_slot (name:=Str.ofString "__getitem__") ht.typeIs PyProof.Rows.slot_tuple_getitem
  (wpAny_call_entry PyProof.Rows.slot_tuple_getitem ht.typeIs entry_tuple_getitem ?_ (args_tuple_getitem _ _)))
 show wpAny _ _ (Builtin.Tuple.tupleItemsOf (.ref t) >>= _) _ _ s;refine wpAny_bind (tupleItemsOf_ ht ?_);refine wpAny_bind (wpAny_typeOf hTs ?_);rw [if_pos (by decide)];refine wpAny_bind (Gk hs pl pu ?_);have hno:¬((((sIx items.size 0 lo:Nat):Int) == 0 && (1:Int) == 1 && (sIx items.size items.size hi - sIx items.size 0 lo) == items.size)=true):=by
  intro q;rw [Bool.and_eq_true,Bool.and_eq_true] at q;have q1:((sIx items.size 0 lo:Nat):Int)=0:=eq_of_beq q.1.1;have q2:sIx items.size items.size hi - sIx items.size 0 lo=items.size:=eq_of_beq q.2;exact hw ⟨by omega,by omega⟩
 show wpAny _ _ (if (((sIx items.size 0 lo:Nat):Int) == 0 && (1:Int) == 1 && (sIx items.size items.size hi - sIx items.size 0 lo) == items.size)=true then _ else _) _ _ s
 rw [if_neg hno,Ly]
 first
  | exact wpAny_bind (m:=Builtin.Tuple.tupleExact _) (wpAny_newObj_type (wpAny_pure ⟨_,rfl,wpAny_pure h⟩) htake)
  | exact wpAny_bind (m:=Builtin.Tuple.tupleExact _) (wpAny_newObj_type (wpAny_bind (wpAny_pure (wpAny_pure ⟨_,rfl,wpAny_pure h⟩))) htake)
  | exact wpAny_bind (wpAny_bind (m:=Builtin.Tuple.tupleExact _) (wpAny_newObj_type (wpAny_pure (wpAny_pure ⟨_,rfl,wpAny_pure h⟩)) htake))
  | exact wpAny_bind (wpAny_bind (m:=Builtin.Tuple.tupleExact _) (wpAny_newObj_type (wpAny_pure ⟨_,rfl,wpAny_pure h⟩) htake))
end
end HT
namespace L2
open PySem PySem.Spec PyProof.Rows
abbrev TO:=St->Hp->(Option Int->Hp->Prop)->Prop
section
variable {X:Cx} {e:Expr} {te:TE} {lo hi:Option Expr} {tl th:TO} {pos p2:Pos}
noncomputable def SlR (X:Cx) (r:V->Option Int->Option Int->Hp->VK->Prop):Prop :=
 ∀(pins:List (Addr×Obj)) (s:Shared) (σ:St) (H:Hp) (x:V) (v vl vu:Value) (lo hi:Option Int) (sl:Addr) (Q:VK),Inv X pins σ H s->RelV x v->s.heap.IsSliceOf sl vl vu .none->IsPart vl lo->IsPart vu hi->r x lo hi H Q ->
  ∃T id,typeLookup (.type T) "__getitem__" = pure (some (.builtin id))/\s.TypeIs v T/\wpAny (model X.prog X.w) X.A (getItem v (.ref sl)) (EP X pins σ Q) X.xe s
theorem SlR.or {r r':V->Option Int->Option Int->Hp->VK->Prop} (h:SlR X r) (h':SlR X r'):SlR X (fun x lo hi H Q=>r x lo hi H Q\/r' x lo hi H Q):=by
 intro pins s σ H x v vl vu lo hi sl Q I rx hs pl pu q;rcases q with q | q
 ·exact h pins s σ H x v vl vu lo hi sl Q I rx hs pl pu q
 ·exact h' pins s σ H x v vl vu lo hi sl Q I rx hs pl pu q
noncomputable def jM (xs:List V) (lo hi:Option Int):List V:=(xs.drop (HT.sIx xs.length 0 lo)).take (HT.sIx xs.length xs.length hi - HT.sIx xs.length 0 lo)
theorem Gm (xs:List V) (lo hi:Option Int):(jM xs lo hi).length<=xs.length:=by
 unfold jM;rw [length_take,length_drop];omega
noncomputable def wH (K:Frag):V->Option Int->Option Int->Hp->VK->Prop:=fun x lo hi H Q=>∃a xs,x=.ref a/\SqT K H a xs /\
 ¬(HT.sIx xs.length 0 lo=0/\HT.sIx xs.length xs.length hi=xs.length)/\∀p,H p=none->Q (.ref p) (upd H p (.tup (jM xs lo hi)))
theorem sl_tup:SlR X (wH X.K):=by
 intro pins s σ H x v vl vu lo hi sl Q I rx hs pl pu h;obtain ⟨a,xs,rfl,hx,hw,q⟩:=h
 cases rx
 obtain ⟨its,r,ht,hz⟩:=I.tuple hx;have hlen:its.toArray.size=xs.length:=by rw [size_toArray]; exact r.length.symm
 refine ⟨"tuple",_,PyProof.Rows.slot_tuple_getitem.lookup,ht.typeIs,?_⟩;refine HT.getItem_tuple_cut ht hs pl pu (by rw [hlen]; exact hw) ?_ (by rw [hlen]; exact hz);rw [hlen];refine ⟨.ref s.heap.objs.size,_,I.laid (t':=s.toks) (o:=.tup (jM xs lo hi)) (fun b ob q=>Heap.get?_push_of_some _ q) (Nat.le_refl _) ?_,rfl,q _ (I.hok.fresh (Nat.le_refl _))⟩;exact ⟨Nat.le_trans (Gm xs lo hi) hz,_,(r.drop (HT.sIx xs.length 0 lo)).take (HT.sIx xs.length xs.length hi - HT.sIx xs.length 0 lo),IsTup.new _ _⟩
noncomputable def uo (K:Frag):R2:=fun x y H Q=>∃a b xs ys,x=.ref a/\y=.ref b/\SqT K H a xs/\SqT K H b ys/\xs≠[]/\xs.length + ys.length<=sizeLine /\
 (ys=[]->Q (.ref a) H)/\(ys≠[]->∀p,H p=none->Q (.ref p) (upd H p (.tup (xs ++ ys))))
theorem Vals.nil_iff {xs:List V} {us:List Value} (r:Vals xs us):us=[]↔xs=[]:=by
 cases r with
 | nil=>simp
 | cons _ _=>simp
theorem Lz:OpR X (binaryOp .Add) (uo X.K):=by
 intro pins s σ H x y v u Q I rx ry h;obtain ⟨a,b,xs,ys,rfl,rfl,ha,hb,hx,hz,q1,q2⟩:=h
 cases rx
 cases ry
 obtain ⟨its,r1,p1,_⟩:=I.tuple ha;obtain ⟨its2,r2,p2,_⟩:=I.tuple hb;refine HT.cat_tup p1 p2 (fun z=>hx (r1.nil_iff.mp z)) (fun z=>⟨.ref a,H,I,rfl,q1 (r2.nil_iff.mp z)⟩) (fun z=>?_) (by rw [<- r1.length,<- r2.length]; exact hz);refine ⟨.ref s.heap.objs.size,_,I.laid (t':=s.toks) (o:=.tup (xs ++ ys)) (fun b ob q=>Heap.get?_push_of_some _ q) (Nat.le_refl _) ?_,rfl,q2 (fun w=>z (r2.nil_iff.mpr w)) _ (I.hok.fresh (Nat.le_refl _))⟩;exact ⟨by rw [length_append]; exact hz,_,r1.append r2,IsTup.new _ _⟩
end
noncomputable def jz (n:Nat) (i:Int):Option Nat:=if 0<=i then (if i < n then some i.toNat else none) else if -(n:Int)<=i then some (i + n).toNat else none
noncomputable def iY {α:Type} (xs:List α) (i:Int):Option α:=(jz xs.length i).bind fun j=>xs[j]?
theorem hG' {n:Nat} {i:Int} {j:Nat} (h:jz n i=some j):seqIndex? i n=some j/\j < n/\-(n:Int)<=i/\i < n:=by
 unfold jz at h
 by_cases h0:0<=i
 ·rw [if_pos h0] at h
  by_cases h1:i < n
  ·rw [if_pos h1] at h;have e:i.toNat=j:=Option.some.inj h;exact ⟨by rw [seqIndex_of h0 h1,e],by omega,by omega,h1⟩
  ·rw [if_neg h1] at h; cases h
 ·rw [if_neg h0] at h
  by_cases h1:-(n:Int)<=i
  ·rw [if_pos h1] at h;have e:(i + n).toNat=j:=Option.some.inj h;exact ⟨by rw [seqIndex_neg (by omega) h1,e],by omega,h1,by omega⟩
  ·rw [if_neg h1] at h; cases h
theorem Cj {α:Type} {xs:List α} {i:Int} {v:α} (h:iY xs i=some v):∃j,seqIndex? i xs.length=some j/\xs[j]? = some v/\j < xs.length/\-(xs.length:Int)<=i/\i < xs.length:=by
 unfold iY at h
 cases e:jz xs.length i with
 | none=>rw [e] at h; cases h
 | some j =>
  rw [e] at h;obtain ⟨h1,h2,h3,h4⟩:=hG' e;exact ⟨j,h1,h,h2,h3,h4⟩
noncomputable def sy (b:Expr):Prop:=∀o i,subscripted b false o i=operate [o,i] (getItem o i)
noncomputable def IxR (X:Cx) (r:R2):Prop :=
 ∀(value slice:Expr) (pins:List (Addr×Obj)) (s:Shared) (σ:St) (H:Hp) (x y:V) (v u:Value) (Q:VK),Inv X pins σ H s->RelV x v->RelV y u->r x y H Q ->
  subscripted slice false v u=operate [v,u] (getItem v u)->wpAny (model X.prog X.w) X.A (subscriptTail value slice v u) (EP X pins σ Q) X.xe s
noncomputable def MtR (X:Cx) (id:String) (r:V->List V->Hp->VK->Prop):Prop :=
 ∀(pins:List (Addr×Obj)) (s:Shared) (σ:St) (H:Hp) (x:V) (xs:List V) (v:Value) (us:List Value) (Q:VK),Inv X pins σ H s->RelV x v->Vals xs us->r x xs H Q ->
  wpAny (model X.prog X.w) X.A (call (.builtin id) (v :: us)) (EP X pins σ Q) X.xe s
section
variable {X:Cx} {a b:Expr} {ta tb:TE} {pos:Pos}
theorem IxR.or {r r':R2} (h:IxR X r) (h':IxR X r'):IxR X (fun x y H Q=>r x y H Q\/r' x y H Q):=by
 intro value slice pins s σ H x y v u Q I rx ry q hs;rcases q with q | q
 ·exact h value slice pins s σ H x y v u Q I rx ry q hs
 ·exact h' value slice pins s σ H x y v u Q I rx ry q hs
theorem MtR.or {id:String} {r r':V->List V->Hp->VK->Prop} (h:MtR X id r) (h':MtR X id r'):MtR X id (fun x xs H Q=>r x xs H Q\/r' x xs H Q):=by
 intro pins s σ H x xs v us Q I rx rs q;rcases q with q | q
 ·exact h pins s σ H x xs v us Q I rx rs q
 ·exact h' pins s σ H x xs v us Q I rx rs q
noncomputable def wI (K:Frag):R2:=fun x y H Q=>∃p xs i v,x=.ref p/\y=.int i/\SqL K H p xs/\iY xs i=some v/\Q v H
noncomputable def wJ (K:Frag):R2:=fun x y H Q=>∃p xs i v,x=.ref p/\y=.int i/\SqT K H p xs/\iY xs i=some v/\Q v H
noncomputable def wK:R2:=fun x y H Q=>∃z i c,x=.str z/\y=.int i/\z.length<=sizeLine/\iY z.cps.toList i=some c/\Q (.str ⟨#[c]⟩) H
theorem ix_list:IxR X (wI X.K):=by
 intro value slice pins s σ H x y v u Q I rx ry h hs;obtain ⟨p,xs,i,z,rfl,rfl,hq,he,q⟩:=h
 cases rx
 obtain ⟨t,rfl⟩:=ry;obtain ⟨its,r,pl,hz⟩:=I.list hq;obtain ⟨j,h1,h2,h3,h4,h5⟩:=Cj he;obtain ⟨w,ew,rw'⟩:=r.get h2;have hl:=r.length;have hn:=vH;have fin:EP X pins σ Q w s:=⟨z,H,I,rw',q⟩
 by_cases h0:0<=i
 ·have hj:i.toNat=j:=by
   rw [seqIndex_of h0 h5] at h1;exact Option.some.inj h1
  exact item_listR pl.isList h0 (by omega) (by rw [hj]; simpa using ew) fin hs
 ·have hj:(i + (its.toArray.size:Int)).toNat=j:=by
   rw [seqIndex_neg (by omega) h4] at h1;rw [size_toArray,<- hl];exact Option.some.inj h1
  exact subscriptTail_builtinR (x:=w) pl.isList.typeIs slot_list_getitem.lookup
   (wpAny_getItem_list_neg (Q:=fun r s'=>r=w/\EP X pins σ Q r s') pl.isList (by omega) (by rw [size_toArray] <;> omega) (by omega) (by rw [hj]; simpa using ew) ⟨rfl,fin⟩) hs
theorem ix_tup:IxR X (wJ X.K):=by
 intro value slice pins s σ H x y v u Q I rx ry h hs;obtain ⟨p,xs,i,z,rfl,rfl,hq,he,q⟩:=h
 cases rx
 obtain ⟨t,rfl⟩:=ry;obtain ⟨its,r,pl,hz⟩:=I.tuple hq;obtain ⟨j,h1,h2,h3,h4,h5⟩:=Cj he;obtain ⟨w,ew,rw'⟩:=r.get h2;have hl:=r.length;have hn:=vH;have fin:EP X pins σ Q w s:=⟨z,H,I,rw',q⟩;exact subscriptTail_builtinR (x:=w) pl.typeIs slot_tuple_getitem.lookup
  (getItem_tuple (j:=j) (Q:=fun r s'=>r=w/\EP X pins σ Q r s') pl (by omega) (by omega) (by rw [size_toArray,<- hl]; exact h1) (by simpa using ew) ⟨rfl,fin⟩) hs
theorem LC:IxR X wK:=by
 intro value slice pins s σ H x y v u Q I rx ry h hs;obtain ⟨z,i,c,rfl,rfl,hz,he,q⟩:=h;obtain ⟨t,rfl⟩:=rx;obtain ⟨t',rfl⟩:=ry;obtain ⟨j,h1,h2,h3,h4,h5⟩:=Cj he;have hl:z.cps.toList.length=z.length:=by simp [Str.length]
 rw [hl] at h1 h4 h5;have hn:=vH;exact tail_any (typeIs_str s z t) slot_str_getitem.lookup (getItem_str (c:=c) (by
  have e1:decide (i < -(2 ^ 63:Int))=false:=decide_eq_false (by omega);have e2:decide (i>=2 ^ 63)=false:=decide_eq_false (by omega);rw [e1,e2,Bool.or_false]) (by rw [h1]; simpa using h2) ⟨.str ⟨#[c]⟩,H,I.tok _,⟨_,rfl⟩,q⟩) hs
noncomputable def LK (K:Frag):R2:=fun x y H Q=>wI K x y H Q\/wJ K x y H Q\/wK x y H Q
theorem LQ:IxR X (LK X.K):=ix_list.or (ix_tup.or LC)
theorem LR (its:List Value) (n j:Nat) (u:Value):Obj.mapSeq (·.setIfInBounds j u) { cls:=.type "list",data:=.seq its.toArray n }={ cls:=.type "list",data:=.seq (its.set j u).toArray n }:=by
 simp [Obj.mapSeq]
theorem Inv.lst {pins:List (Addr×Obj)} {σ:St} {H:Hp} {s:Shared} {p:Addr} {xs:List V} (I:Inv X pins σ H s) (h:H p=some (.lst xs)) :
  ∃(its:List Value) (n:Nat),Vals xs its/\s.heap.get? p=some { cls:=.type "list",data:=.seq its.toArray n }/\xs.length<=sizeLine:=by
 obtain ⟨z,its,n,r,e⟩:=I.hok p _ h;exact ⟨its,n,r,e,z⟩
theorem Inv.lstUpd {pins:List (Addr×Obj)} {σ:St} {H:Hp} {s:Shared} {p:Addr} {xs ys:List V} {its its':List Value} {n n':Nat} {f:Obj->Obj} (I:Inv X pins σ H s) (h:H p=some (.lst xs))
  (ho:s.heap.get? p=some { cls:=.type "list",data:=.seq its.toArray n }) (hf:f { cls:=.type "list",data:=.seq its.toArray n }={ cls:=.type "list",data:=.seq its'.toArray n' }) (r:Vals ys its') (hz:ys.length<=sizeLine) (t:Nat) :
  Inv X pins σ (upd H p (.lst ys)) { s with heap:=s.heap.update p f,toks:=t }:=by
 have e:(s.heap.update p f).get? p=some { cls:=.type "list",data:=.seq its'.toArray n' }:=by
  rw [Heap.get?_update_self f ho (by rw [hf] <;> rfl),hf]
 refine I.write (x:=p) (e:=p) (by rw [h]; trivial) (.inl rfl) (fun b u hb q=>(Heap.get?_update_other _ _ (Ne.symm hb)).trans q) ⟨_,e⟩ ?_;exact ⟨hz,its',n',r,e⟩
noncomputable def wL:V->V->V->Hp->(Hp->Prop)->Prop:=fun o i v H Q=>∃p xs k j,o=.ref p/\i=.int k/\H p=some (.lst xs)/\jz xs.length k=some j/\Q (upd H p (.lst (xs.set j v)))
theorem set_list:BZ X wL:=by
 intro pins s σ H o i v ov iv u Q I ro ri rv h;obtain ⟨p,xs,k,j,rfl,rfl,hp,hj,q⟩:=h
 cases ro
 obtain ⟨t,rfl⟩:=ri;obtain ⟨its,n,r,ho,hz⟩:=I.lst hp;obtain ⟨h1,h2,h3,h4⟩:=hG' hj;have hl:=r.length;have hn:=vH;have I':Inv X pins σ (upd H p (.lst (xs.set j v))) { s with heap:=s.heap.update p (Obj.mapSeq (·.setIfInBounds j u)) } :=
  I.lstUpd hp ho (LR its n j u) (r.set rv j) (by rw [length_set]; exact hz) s.toks
 by_cases h0:0<=k
 ·have hk:k.toNat=j:=by
   rw [seqIndex_of h0 h4] at h1;exact Option.some.inj h1
  exact ki_setAt ho h0 (by omega) (by rw [size_toArray,<- hl]; exact h4) (by rw [hk]; exact ⟨_,I',q⟩)
 ·have hk:(k + (its.toArray.size:Int)).toNat=j:=by
   rw [seqIndex_neg (by omega) h3] at h1;rw [size_toArray,<- hl];exact Option.some.inj h1
  exact ki_setBack ho (by omega) (by rw [size_toArray,<- hl]; exact h3) (by omega) (by rw [hk]; exact ⟨_,I',q⟩)
theorem L_ (lo hi:Option Int) (n:Nat):(sliceBounds lo hi none n).1=((HT.sIx n 0 lo:Nat):Int)/\(sliceBounds lo hi none n).2.1=((HT.sIx n n hi:Nat):Int)/\(sliceBounds lo hi none n).2.2=1:=by
 refine ⟨?_,?_,rfl⟩
 ·cases lo with
  | none=>simp [sliceBounds,HT.sIx]
  | some i =>
   simp only [sliceBounds,HT.sIx,Option.getD_none,show (1:Int) > 0 by decide,if_true]
   by_cases h:i < 0
   ·simp only [h,if_true] <;> omega
   ·simp only [h,if_false] <;> omega
 ·cases hi with
  | none=>simp [sliceBounds,HT.sIx]
  | some i =>
   simp only [sliceBounds,HT.sIx,Option.getD_none,show (1:Int) > 0 by decide,if_true]
   by_cases h:i < 0
   ·simp only [h,if_true] <;> omega
   ·simp only [h,if_false] <;> omega
theorem Ma (its:List Value) (lo hi:Option Int):slicePick its.toArray lo hi none=((its.drop (HT.sIx its.length 0 lo)).take (HT.sIx its.length its.length hi - HT.sIx its.length 0 lo)).toArray:=by
 obtain ⟨h1,h2,h3⟩:=L_ lo hi its.toArray.size;unfold slicePick;rw [h1,h2,h3];simp only [sliceRange_one,pick_run,size_toArray] <;> rfl
noncomputable def wM (K:Frag):V->Option Int->Option Int->Hp->VK->Prop:=fun x lo hi H Q=>∃a xs,x=.ref a/\SqL K H a xs/\∀p,H p=none->Q (.ref p) (upd H p (.lst (jM xs lo hi)))
theorem sl_list:SlR X (wM X.K):=by
 intro pins s σ H x v vl vu lo hi sl Q I rx hs pl pu h;obtain ⟨a,xs,rfl,hx,q⟩:=h
 cases rx
 obtain ⟨its,r,ht,hz⟩:=I.list hx;have hlen:=r.length;refine ⟨"list",_,slot_list_getitem.lookup,ht.isList.typeIs,?_⟩;refine wpAny_getItem_list_slice ht.isList hs pl pu .none (by simp) ?_ (by rw [size_toArray] <;> omega)
 rw [Ma,<- hlen];refine ⟨.ref s.heap.objs.size,_,I.laid (t':=s.toks) (o:=.lst (jM xs lo hi)) (fun b ob q=>Heap.get?_push_of_some _ q) (Nat.le_refl _) ?_,rfl,q _ (I.hok.fresh (Nat.le_refl _))⟩;exact ⟨Nat.le_trans (Gm xs lo hi) hz,_,0,(r.drop (HT.sIx xs.length 0 lo)).take (HT.sIx xs.length xs.length hi - HT.sIx xs.length 0 lo),Heap.get?_push_size _ rfl⟩
noncomputable def fX:V->Bool
 | .non=>true
 | .bl _=>true
 | .int _=>true
 | .str _=>true
 | _=>false
noncomputable def uq:V->V->Bool
 | .non,.non=>true
 | .bl a,.bl b=>a == b
 | .bl a,.int b=>(if a then 1 else 0) == b
 | .int a,.bl b=>a == (if b then 1 else 0)
 | .int a,.int b=>a == b
 | .str a,.str b=>a == b
 | _,_=>false
theorem Mf {A:Around} {s:Shared} {y x:V} {u v:Value} (ry:RelV y u) (rx:RelV x v) (fy:fX y=true) (fx:fX x=true):SeqAt.EqAt A s u v (uq y x):=by
 cases y with
 | non =>
  cases ry
  cases x with
  | non=>cases rx; exact SeqAt.EqAt.same _
  | bl b=>cases rx; exact SeqAt.EqAt.none_bool b
  | int b=>obtain ⟨t,rfl⟩:=rx; exact SeqAt.EqAt.none_int b t
  | str b=>obtain ⟨t,rfl⟩:=rx; exact SeqAt.EqAt.none_str b t
  | _=>exact absurd (show false=true from fx) Bool.false_ne_true
 | bl a =>
  cases ry
  cases x with
  | non=>cases rx; exact SeqAt.EqAt.bool_none a
  | bl b=>cases rx; exact SeqAt.EqAt.bool_bool a b
  | int b=>obtain ⟨t,rfl⟩:=rx; exact SeqAt.EqAt.bool_int a b t
  | str b=>obtain ⟨t,rfl⟩:=rx; exact SeqAt.EqAt.bool_str a b t
  | _=>exact absurd (show false=true from fx) Bool.false_ne_true
 | int a =>
  obtain ⟨t',rfl⟩:=ry
  cases x with
  | non=>cases rx; exact SeqAt.EqAt.int_none a t'
  | bl b=>cases rx; exact SeqAt.EqAt.int_bool a t' b
  | int b=>obtain ⟨t,rfl⟩:=rx; exact SeqAt.EqAt.int_int a t' b t
  | str b=>obtain ⟨t,rfl⟩:=rx; exact SeqAt.EqAt.int_str a t' b t
  | _=>exact absurd (show false=true from fx) Bool.false_ne_true
 | str a =>
  obtain ⟨t',rfl⟩:=ry
  cases x with
  | non=>cases rx; exact SeqAt.EqAt.str_none a t'
  | bl b=>cases rx; exact SeqAt.EqAt.str_bool a t' b
  | int b=>obtain ⟨t,rfl⟩:=rx; exact SeqAt.EqAt.str_int a t' b t
  | str b=>obtain ⟨t,rfl⟩:=rx; exact SeqAt.EqAt.str_str a t' b t
  | _=>exact absurd (show false=true from fx) Bool.false_ne_true
 | _=>exact absurd (show false=true from fy) Bool.false_ne_true
noncomputable def sE (x:V) (u:Value):Bool:=match u with
 | .none=>uq .non x
 | .bool b=>uq (.bl b) x
 | .int i _=>uq (.int i) x
 | .str z _=>uq (.str z) x
 | _=>false
theorem Gn {x y:V} {u:Value} (r:RelV y u) (f:fX y=true):sE x u=uq y x:=by
 cases y with
 | non=>cases r; rfl
 | bl b=>cases r; rfl
 | int i=>obtain ⟨t,rfl⟩:=r; rfl
 | str z=>obtain ⟨t,rfl⟩:=r; rfl
 | _=>exact absurd (show false=true from f) Bool.false_ne_true
theorem Ck {x:V}:∀{xs:List V} {us:List Value},Vals xs us->xs.all fX=true->us.any (sE x)=xs.any fun y=>uq y x
 | _,_,.nil,_=>rfl
 | y :: xs,u :: us,.cons r t,f=>by
  rw [all_cons,Bool.and_eq_true] at f;rw [any_cons,any_cons,Gn r f.1,Ck t f.2]
theorem Cm {A:Around} {s:Shared} {x:V} {v:Value} (rx:RelV x v) (fx:fX x=true):∀{xs:List V} {us:List Value},Vals xs us->xs.all fX=true->∀u∈us,SeqAt.EqAt A s u v (sE x u)
 | _,_,.nil,_=>fun u hu=>by cases hu
 | y :: xs,u :: us,.cons r t,f=>fun u' hu=>by
  rw [all_cons,Bool.and_eq_true] at f;rcases mem_cons.mp hu with rfl | hu
  ·rw [Gn r f.1]; exact Mf r rx f.1 fx
  ·exact Cm rx fx t f.2 u' hu
noncomputable def inV (x:V) (xs:List V):Bool:=xs.any fun y=>uq y x
noncomputable def Gp (K:Frag) (neg:Bool):R2:=fun x y H Q=>∃p xs,y=.ref p/\(SqL K H p xs\/SqT K H p xs)/\fX x=true/\xs.all fX=true/\Q (.bl (if neg then !inV x xs else inV x xs)) H
theorem ek':OpR X (compareOp .NotIn) (Gp X.K true):=by
 intro pins s σ H x y v u Q I rx ry h;obtain ⟨p,xs,rfl,hq,fx,fs,q⟩:=h
 cases ry
 rcases hq with hq | hq
 ·obtain ⟨its,r,pl,hz⟩:=I.list hq;refine SeqAt.notIn_listAt (sE x) pl.isList (fun w hw=>Cm rx fx r fs w (by simpa using hw)) ⟨.bl _,H,I,rfl,?_⟩;rw [show its.toArray.any (sE x)=its.any (sE x) by simp,Ck r fs];exact q
 ·obtain ⟨its,r,pl,hz⟩:=I.tuple hq;refine SeqAt.notIn_tupleAt (sE x) pl (fun w hw=>Cm rx fx r fs w (by simpa using hw)) ⟨.bl _,H,I,rfl,?_⟩;rw [show its.toArray.any (sE x)=its.any (sE x) by simp,Ck r fs];exact q
theorem CallR.or {f:Value} {r r':List V->Hp->VK->Prop} (h:CallR X f r) (h':CallR X f r'):CallR X f (fun xs H Q=>r xs H Q\/r' xs H Q):=by
 intro pins s σ H xs us Q I rs q;rcases q with q | q
 ·exact h pins s σ H xs us Q I rs q
 ·exact h' pins s σ H xs us Q I rs q
theorem Mg:CallR X (.type "tuple") (fun xs H Q=>∃p ys,xs=[.ref p]/\((SqL X.K H p ys/\∀l,H l=none->Q (.ref l) (upd H l (.tup ys)))\/(SqT X.K H p ys/\Q (.ref p) H))):=by
 intro pins s σ H xs us Q I r h;obtain ⟨p,ys,rfl,h⟩:=h;obtain ⟨u,rfl,rx⟩:=vals1 r
 cases rx
 rcases h with ⟨hq,q⟩ | ⟨hq,q⟩
 ·obtain ⟨its,r',pl,hz⟩:=I.list hq;have hlen:=r'.length;refine call_tuple_list pl.isList (fun h' kp=>?_) (by simp only [size_toArray] <;> omega)
  have I1:Inv X pins σ H { s with heap:=h' }:=I.kept (t':=s.toks) kp
  have I2:Inv X pins σ (upd H h'.objs.size (.tup ys)) { s with heap:=h'.push { cls:=.type "tuple",data:=.seq its.toArray } } :=
   I1.laid (t':=s.toks) (fun b o e=>Heap.get?_push_of_some _ e) (Nat.le_refl _) (show ObjOk X.prog X.w _ _ _ (.tup ys) from ⟨hz,its,r',IsTup.new _ _⟩)
  exact ⟨.ref h'.objs.size,_,I2,rfl,q _ (I1.hok.fresh (Nat.le_refl _))⟩
 ·obtain ⟨its,r',pl,hz⟩:=I.tuple hq;exact call_tuple_same pl ⟨.ref p,H,I,rfl,q⟩
noncomputable def Gq (K:Frag) (T:String) (x:V) (H:Hp):Prop:=match x with
 | .str _=>T = "str"
 | .int _=>T = "int"
 | .ref p=>(T = "list"/\∃xs,SqL K H p xs)\/(T = "tuple"/\∃o,K.lookup p=some o/\o.cls=.type "tuple"/\o.dict=none) \/
   (T = "dict"/\((∃kvs,H p=some (.dK kvs))\/∃kvs,H p=some (.dT kvs)))\/(T = "set"/\∃S n,H p=some (.set S n))
 | _=>False
theorem Ah {pins:List (Addr×Obj)} {σ:St} {H:Hp} {s:Shared} {T:String} {x:V} {v:Value} (I:Inv X pins σ H s) (r:RelV x v) (ty:Gq X.K T x H) :
  s.TypeIs v T/\∀a,v=.ref a->∃ob,s.heap.get? a=some ob/\ob.dict=none:=by
 cases x with
 | str z =>
  obtain ⟨t,rfl⟩:=r
  cases (show T = "str" from ty)
  exact ⟨typeIs_str s z t,fun _ e=>nomatch e⟩
 | int i =>
  obtain ⟨t,rfl⟩:=r
  cases (show T = "int" from ty)
  exact ⟨typeIs_int s i t,fun _ e=>nomatch e⟩
 | ref p =>
  cases r
  rcases ty with ⟨rfl,xs,hq⟩ | ⟨rfl,o,hk,hc,hd⟩ | ⟨rfl,hk⟩ | ⟨rfl,S,n,hk⟩
  ·obtain ⟨its,_,pl,_⟩:=I.list hq;refine ⟨pl.isList.typeIs,fun a e=>?_⟩
   cases e
   obtain ⟨o,n,e,c,hd,_⟩:=pl;exact ⟨o,e,hd⟩
  ·refine ⟨⟨o,I.kIn p o hk,hc⟩,fun a e=>?_⟩
   cases e
   exact ⟨o,I.kIn _ o hk,hd⟩
  ·have z:∃o,s.heap.get? p=some o/\o.ExactDict:=by
    rcases hk with ⟨kvs,hk⟩ | ⟨kvs,hk⟩
    ·obtain ⟨_,_,_,_,o,_,_,e,ex,_⟩:=I.hok p _ hk;exact ⟨o,e,ex⟩
    ·obtain ⟨_,_,_,_,o,_,_,e,ex,_⟩:=I.hok p _ hk;exact ⟨o,e,ex⟩
   obtain ⟨o,e,ex⟩:=z;refine ⟨⟨o,e,ex.1⟩,fun a e2=>?_⟩
   cases e2
   exact ⟨o,e,ex.2.1⟩
  ·obtain ⟨o,_,_,_,e,ex,_⟩:=I.hok p _ hk;refine ⟨⟨o,e,ex.1⟩,fun a e2=>?_⟩
   cases e2
   exact ⟨o,e,ex.2.1⟩
 | _=>exact False.elim ty
variable {o e:Expr} {es:List Expr} {to:TE} {t:TA} {name:Str} {apos cpos:Pos} {T id:String} {r:V->List V->Hp->VK->Prop}
end
noncomputable def Gr (X:Cx) (id:String) (r:V->List V->Hp->VK->Prop):Prop :=
 ∀(pins:List (Addr×Obj)) (s:Shared) (σ:St) (H:Hp) (x:V) (xs:List V) (v:Value) (us:List Value) (Q:VK),Inv X pins σ H s->RelV x v->Vals xs us->r x xs H Q ->
  wpAny (model X.prog X.w) X.A (call (.builtin id) (v :: us)) (EP X pins σ Q) X.xe s
theorem Vals.one:∀{x:V} {us:List Value},Vals [x] us->∃u,us=[u]/\RelV x u
 | _,_,.cons r .nil=>⟨_,rfl,r⟩
theorem Vals.two:∀{x y:V} {us:List Value},Vals [x,y] us->∃u v,us=[u,v]/\RelV x u/\RelV y v
 | _,_,_,.cons r (.cons q .nil)=>⟨_,_,rfl,r,q⟩
theorem Vals.zero:∀{us:List Value},Vals [] us->us=[]
 | _,.nil=>rfl
theorem Vals.dropLast {xs:List V} {us:List Value} (h:Vals xs us):Vals xs.dropLast us.dropLast:=by
 induction h with
 | nil=>exact .nil
 | cons r t ih =>
  cases t with
  | nil=>exact .nil
  | cons q t'=>exact .cons r ih
theorem Vals.eraseIdx:∀{xs:List V} {us:List Value} (i:Nat),Vals xs us->Vals (xs.eraseIdx i) (us.eraseIdx i)
 | _,_,_,.nil=>.nil
 | _,_,0,.cons _ t=>t
 | _,_,i + 1,.cons r t=>.cons r (Vals.eraseIdx i t)
theorem Vals.reverse {xs:List V} {us:List Value} (h:Vals xs us):Vals xs.reverse us.reverse:=by
 induction h with
 | nil=>exact .nil
 | cons r t ih=>rw [reverse_cons,reverse_cons]; exact Vals.append ih (.cons r .nil)
theorem Vals.rep {xs:List V} {us:List Value} (h:Vals xs us):∀k:Nat,Vals (List.replicate k xs).flatten (List.replicate k us).flatten
 | 0=>.nil
 | k + 1=>by
  rw [replicate_succ,replicate_succ,flatten_cons,flatten_cons];exact Vals.append h (Vals.rep h k)
theorem Gs {α:Type}:∀(l:List α) (i:Nat),(l.eraseIdx i).length<=l.length
 | [],_=>Nat.le_refl _
 | _ :: _,0=>Nat.le_succ _
 | _ :: r,i + 1=>Nat.succ_le_succ (Gs r i)
theorem foldl_rep (its:List Value):∀(k:Nat) (acc:List Value),
  List.foldl (fun x1 x2=>x1 ++ x2) acc.toArray (List.replicate k its.toArray)=(acc ++ (List.replicate k its).flatten).toArray
 | 0,acc=>by simp
 | k + 1,acc=>by
  have e:acc.toArray ++ its.toArray=(acc ++ its).toArray:=by simp
  have e2:(acc ++ its) ++ (List.replicate k its).flatten=acc ++ (List.replicate (k + 1) its).flatten:=by
   rw [replicate_succ,flatten_cons,append_assoc]
  rw [<- e2,<- foldl_rep its k (acc ++ its),<- e,replicate_succ,foldl_cons]
section
variable {X:Cx} {pins:List (Addr×Obj)} {σ:St} {H:Hp} {s:Shared} {l b:Addr} {xs ys zs:List V}
theorem Inv.lset {its its':List Value} {n:Nat} {f:Array Value->Array Value} {t':Nat} (I:Inv X pins σ H s) (hH:H l=some (.lst xs))
  (e:s.heap.get? l=some { cls:=.type "list",data:=.seq its.toArray n }) (hf:f its.toArray=its'.toArray) (hv:Vals ys its') (hz:ys.length<=sizeLine) :
  Inv X pins σ (upd H l (.lst ys)) { s with heap:=s.heap.update l (Obj.mapSeq f),toks:=t' }:=by
 have q:=PySem.IsL.update e f;rw [hf] at q;refine I.write (x:=l) (e:=l) (by rw [hH]; exact trivial) (.inl rfl) (fun b' u hb hu=>(Heap.get?_update_other s.heap (Obj.mapSeq f) (Ne.symm hb)).trans hu) ⟨_,q⟩ ?_;exact ⟨hz,its',_,hv,q⟩
theorem Inv.lnew {its:List Value} {t':Nat} (I:Inv X pins σ H s) (hv:Vals ys its) (hz:ys.length<=sizeLine) :
  Inv X pins σ (upd H s.heap.objs.size (.lst ys)) { s with heap:=s.heap.push { cls:=.type "list",data:=.seq its.toArray },toks:=t' } :=
 I.laid (fun _ _ q=>Heap.get?_push_of_some _ q) (Nat.le_refl _) ⟨hz,its,0,hv,Heap.get?_push_size _ rfl⟩
theorem Inv.fresh (I:Inv X pins σ H s):H s.heap.objs.size=none:=I.hok.fresh (Nat.le_refl _)
theorem Inv.lstM (I:Inv X pins σ H s) (hH:H l=some (.lst xs)):xs.length<=sizeLine/\∃(its:List Value) (n:Nat),Vals xs its/\xs.length=its.length/\s.heap.get? l=some { cls:=.type "list",data:=.seq its.toArray n }:=by
 obtain ⟨z,its,n,r,e⟩:=I.hok l _ hH;exact ⟨z,its,n,r,r.length,e⟩
theorem Mh {n:Nat} (h:n<=sizeLine):Builtin.List.listTooLong n=false:=by
 unfold Builtin.List.listTooLong;exact decide_eq_false (by omega)
end
section
variable {X:Cx}
noncomputable def sG:V->List V->Hp->VK->Prop:=fun x vs H Q=>∃l xs y,x=.ref l/\vs=[y]/\H l=some (.lst xs)/\xs.length < sizeLine/\Q .non (upd H l (.lst (xs ++ [y])))
theorem Gu:Gr X "list.append" sG:=by
 intro pins s σ H x vs v us Q I rx rv h;obtain ⟨l,xs,y,rfl,rfl,hH,hz,q⟩:=h
 cases rx
 obtain ⟨u,rfl,ru⟩:=rv.one;obtain ⟨z,its,n,r,hl,e⟩:=I.lstM hH;refine call_meets F.slot_list_append ⟨_,e,rfl⟩ F.entry_list_append (F.args_list_append_2 _ _) (PySem.list_append l its.toArray n u (by rw [size_toArray]; omega)) ⟨e,?_⟩;refine ⟨.non,_,I.lset (its':=its ++ [u]) hH e (by simp) (r.append (.cons ru .nil)) ?_,rfl,q⟩;rw [length_append,length_singleton];omega
noncomputable def uP:V->List V->Hp->VK->Prop:=fun x vs H Q=>∃l xs i k y,x=.ref l/\vs=[.int i]/\H l=some (.lst xs)/\-(2 ^ 63)<=i/\i < 2 ^ 63/\seqIndex? i xs.length=some k/\xs[k]? = some y/\Q y (upd H l (.lst (xs.eraseIdx k)))
theorem Mi:Gr X "list.pop" uP:=by
 intro pins s σ H x vs v us Q I rx rv h;obtain ⟨l,xs,i,k,y,rfl,rfl,hH,h1,h2,hk,hy,q⟩:=h
 cases rx
 obtain ⟨u,rfl,ru⟩:=rv.one;obtain ⟨t,rfl⟩:=ru;obtain ⟨z,its,n,r,hl,e⟩:=I.lstM hH;obtain ⟨w,hw,rw'⟩:=r.get hy;refine call_meets F.slot_list_pop ⟨_,e,rfl⟩ F.entry_list_pop (F.args_list_pop_2 _ _)
  (MeetsSeq.list_pop_at l its.toArray n i t k w (fitsIndex_both h1 h2) (by rw [size_toArray,<- hl]; exact hk) (by rw [<- Array.getElem?_toList]; exact hw) (by rw [size_toArray]; omega)) ⟨e,?_⟩
 refine ⟨y,_,I.lset (its':=its.eraseIdx k) hH e ?_ (r.eraseIdx k) ?_,rw',q⟩
 ·show its.toArray.eraseIdxIfInBounds k=(its.eraseIdx k).toArray;rw [eraseIdxIfInBounds_toArray]
 ·have:=Gs xs k;omega
noncomputable def Cp:R2:=fun x y H Q=>∃l k xs,x=.ref l/\y=.int k/\H l=some (.lst xs)/\-(2 ^ 63)<=k/\k < 2 ^ 63/\xs.length * k.toNat<=sizeLine /\
 ∀p,H p=none->Q (.ref p) (upd H p (.lst (List.replicate k.toNat xs).flatten))
theorem len_rep {α:Type} (xs:List α) (k:Nat):(List.replicate k xs).flatten.length=k * xs.length:=by
 induction k with
 | zero=>simp
 | succ k ih=>rw [replicate_succ,flatten_cons,length_append,ih,Nat.succ_mul,Nat.add_comm]
theorem Mj:OpR X (binaryOp .Mult) Cp:=by
 intro pins s σ H x y v u Q I rx ry h;obtain ⟨l,k,xs,rfl,rfl,hH,h1,h2,hz,q⟩:=h
 cases rx
 obtain ⟨t,rfl⟩:=ry;obtain ⟨z,its,n,r,hl,e⟩:=I.lstM hH;have hlen:its.toArray.size * k.toNat<=sizeLine:=by rw [size_toArray,<- hl]; exact hz
 have hcap:¬its.toArray.size * k.toNat > (2 ^ 63 - 1) / 8:=by
  have:(sizeLine:Nat)<=(2 ^ 63 - 1) / 8:=by decide
  omega
 have hfit:¬(!Builtin.List.listFitsIndex k)=true:=by
  rw [fitsIndex_both h1 h2];exact Bool.false_ne_true
 have hlong:¬Builtin.List.listTooLong (its.toArray.size * k.toNat)=true:=by
  rw [Mh hlen];exact Bool.false_ne_true
 have hnew:List.foldl (fun x1 x2=>x1 ++ x2) #[] (List.replicate (if its.toArray.isEmpty=true then 0 else k.toNat) its.toArray)=(List.replicate k.toNat its).flatten.toArray:=by
  have f0:∀m:Nat,List.foldl (fun x1 x2=>x1 ++ x2) #[] (List.replicate m its.toArray)=(List.replicate m its).flatten.toArray:=fun m=>by
   have:=foldl_rep its m [];rw [nil_append] at this;exact this
  rw [f0]
  cases its with
  | nil=>simp
  | cons a r'=>rw [if_neg (by simp)]
 refine wpAny_binaryOp_repeat_ref (T:="list") (U:="int") (by decide) ⟨_,e,rfl⟩ (fun s'=>typeIs_int s' k t) noFill_list_mul F.fills_int_mul F.slot_int_rmul repeat_list F.slot_int_index.lookup
  (call_meets F.slot_int_rmul (typeIs_int s k t) F.entry_int_rmul (F.args_int_rmul_2 _ _) (int___rmul___int_list k t l its.toArray n)
   ⟨e,rfl,⟨_,e,rfl⟩,call_meets F.slot_list_mul ⟨_,e,rfl⟩ F.entry_list_mul (F.args_list_mul_2 _ _) (AutoListH.list___mul___list_int_3 l its.toArray n k t hfit hcap hlong) ⟨e,?_⟩⟩)
 rw [hnew];exact ⟨.ref _,_,I.lnew (t':=s.toks) (r.rep k.toNat) (by rw [len_rep,Nat.mul_comm]; exact hz),rfl,q _ I.fresh⟩
end
section
variable {prog:Program} {w:World} {A:Around} {E:Value->Shared->Prop} {s:Shared}
end
section
variable {X:Cx}
end
end L2
namespace Att
open PySem PySem.W PySem.Calls PyProof.Rows
theorem Ml {P:Params} {h:Heap}:∀(ns:List Int) (vs:List Value),WellAll P h vs (ns.map WData.int)->IntsAre vs ns:=by
 intro ns
 induction ns with
 | nil =>
  intro vs w;rw [map_nil] at w
  cases w
  exact .nil
 | cons n ns ih =>
  intro vs w;rw [map_cons] at w
  cases w with
  | cons a b =>
   cases a
   exact .cons _ _ (ih _ b)
theorem hH' {l:OpenLaw} {n:Nat} (hn:l.most=some n) {P:Params} {h:Heap} {args:List WData} {vals:List Value}
  (hpre:l.row.toRowW.claim.pre args=true) (hwl:WellAll P h vals args) :
  ∃a vs ns,vals=[Value.ref a]/\args=[WData.list (ns.map WData.int)]/\h.get? a=some { cls:=.type "list",data:=.seq vs.toArray }/\IntsAre vs ns/\ns.length<=n:=by
 have hsh:WShape.hasAll [] args [.list .int]=true:=(pre_splitW hpre).1;have hc:l.pre.holds [] { args:=args }=true:=(pre_splitW hpre).2;obtain ⟨d,r,rfl,h1,h2⟩:=hasAllW_cons hsh;obtain rfl:=hasAllW_nil h2;obtain ⟨xs,rfl,h3⟩:=hasW_list h1;obtain ⟨ns,rfl⟩:=items_int h3;have hlen:ns.length<=n:=by
  unfold OpenLaw.pre at hc;have h4:(WTm.not (.lt (.lit (.int (n:Int))) (.len (.arg 0)))).holds [] { args:=[.list (ns.map .int)] }=true:=by
   have h4:=(holds_andW hc).1;rw [hn] at h4;exact h4
  have h5:=condW_of h4 (w_not (w_lt w_lit (w_len_list (w_arg rfl))));rw [length_map] at h5;refine Nat.le_of_not_lt fun q=>?_;have q':(n:Int) < ((ns.length:Nat):Int):=by omega
  first
   | (rw [decide_eq_true q'] at h5; exact absurd h5 (by decide))
   | (simp at h5; omega)
 cases hwl with
 | cons w1 w2 =>
  cases w2
  cases w1 with
  | list ho hall=>exact ⟨_,_,ns,rfl,rfl,ho,Ml ns _ hall,hlen⟩
theorem hI' (l:OpenLaw) (args:List WData):l.row.toRowW.claim.post args (.bool true) args=true :=
 postW_of (r:=l.row.toRowW) (X:=(true == true))
  (show WShape.has [] (.bool true) .bool=true by first | rfl | decide | simp [WShape.has,WShape.arms,WShape.armsAll])
  (show (WTm.eq .res (.lit (.bool true))).value [] { args:=args,res:=some (.bool true),after:=args }=some (.bool (true == true)) from w_eq_bool (w_res rfl) w_lit) rfl
theorem attach_call {l:OpenLaw} {n:Nat} {q:Program} {loose:List Str} {XP:(Str->Option Value)->Heap->Prop} {YP:World->Heap->Prop} {d:DefRec}
  (hn:l.most=some n) (hdf:d.params.defaults=[])
  (call:∀(w:World) (s₀ s₁:Shared) (mg mb:Str->Option Value) (fa:Addr) (o:Obj) (pm cd doc:Value) (a:Addr) (vs:List Value) (ns:List Int),
   Ground q loose [] XP w s₀ mg mb s₁.heap->YP w s₁.heap ->
   s₁.heap.get? fa=some o->o.data=.func (docDef d.name d.params d.body d.scope pm cd doc)->s₁.heap.CodeRec cd d.name->mg d.name=some (.ref fa) ->
   s₁.heap.get? a=some { cls:=.type "list",data:=.seq vs.toArray }->IntsAre vs ns->ns.length<=n->s₁.gens = #[] ->
   codeAny (model l.prog w) callerA (.call (.ref fa) ⟨[.ref a],[]⟩) (fun r s'=>r=.ok (.ret (.bool true))/\OldK s₁.heap s'.heap/\s'.os=s₁.os/\AllBare s'.gens) s₁) :
  WalkO q loose XP YP l.row.toRowW d [] (fun f vs=>PySem.call f vs):=by
 intro w s₀ s₁ mg mb G Y fa o pm cd doc dV kV ho hd hcd hD hmg hg args vals as hpre hlay hrd hwl hlo;obtain rfl:dV=.none:=Dflts.none hD hdf;obtain rfl:kV=.none:=Dflts.noKw hD;obtain ⟨a,vs,ns,rfl,rfl,hobj,hints,hlen⟩:=hH' hn hpre hwl;refine enter_call (codeAny_mono (call w s₀ s₁ mg mb fa o pm cd doc a vs ns G Y ho (fd_plain hd) hcd hmg hobj hints hlen hg) fun r s' hq=>?_);obtain ⟨rfl,h2,h3,h4⟩:=hq;exact ⟨.inl ⟨.bool true,.bool true,[],rfl,fun _=>rfl,.bool true,hI' l _,fun _=>⟨List.Pairwise.nil,fun _ hm=>(nomatch hm)⟩⟩,h2,h3,h4⟩
section
variable {prog:Program} {w:World} {A:Around} {E:Value->Shared->Prop} {s:Shared} {K:Frag}
noncomputable def noObjs (h:Heap):Heap:={ h with objs:=#[] }
end
end Att
namespace L2
open PySem PySem.Spec PyProof.Rows
theorem eq':∀{vs:List Value} {ns:List Int},IntsAre vs ns->Vals (ns.map V.int) vs
 | _,_,.nil=>.nil
 | _,_,.cons n t h=>.cons ⟨t,rfl⟩ (eq' h)
noncomputable def Only (H:Hp):Prop:=∀b,H b=none\/∃o xs,H b=some (.frz o (.lst xs))
theorem Mm {P:Program} {w:World} {K:Frag} {mg mb:Str->Option Value} {CX:mO} {k:Nat} {fa a:Addr} {fd:FuncData} {x:Str} {sp:Sp} {s₁:Shared} {vs:List Value} {ns:List Int}
  (KX:K.In s₁.heap) (hns:s₁.heap.Ns mainGlobals mg) (hb:s₁.heap.Ns builtinsNs mb) (hbb:∀x:Str,x≠"__name__"->mb x=bootBuiltins x) (hlim:s₁.heap.NoLimit) (hg:s₁.gens = #[])
  (ha:s₁.heap.get? a=some { cls:=.type "list",data:=.seq vs.toArray }) (hi:IntsAre vs ns) (hl:ns.length<=sizeLine) (hr:Room k callerA)
  (F:∀base:Heap,K.In base->base.Ns mainGlobals mg->FnOk P w K mg base CX k fa fd [x] sp) (hbind:∀(s:Shared) (u:Value),BindsTo s fd ⟨[u],[]⟩ [(x,u)])
  (hsp:∀H:Hp,Only H->SqL K H a (ns.map V.int)->sp [.ref a] H (fun v _=>v=.bl true) fun _ _ _=>False)
  (hCX:∀H e s',CX [] H s₁ (fun _ _ _=>False) e s'->False) :
  codeAny (model P w) callerA (.call (.ref fa) ⟨[.ref a],[]⟩) (fun r s'=>r=.ok (.ret (.bool true))/\OldK s₁.heap s'.heap/\s'.os=s₁.os/\AllBare s'.gens) s₁:=by
 have rv:=eq' hi;have lenV:=hi.length;have core:∀H:Hp,Only H->SqL K H a (ns.map V.int)->HOk P w H s₁.heap->(∀b,H b≠none->b=a)->(H a≠none->K.lookup a=none) ->
   codeAny (model P w) callerA (.call (.ref fa) ⟨[.ref a],[]⟩) (fun r s'=>r=.ok (.ret (.bool true))/\OldK s₁.heap s'.heap/\s'.os=s₁.os/\AllBare s'.gens) s₁:=by
  intro H hO hS hok hA hK;have base_of:∀{b:Addr} {o:Obj},s₁.heap.get? b=some o->H b=none->(jl s₁.heap H).get? b=some o:=fun e n=>Ky e n;have noA:∀{b:Addr} {o:Obj} {es:Array DictEntry} {ep:Nat},s₁.heap.get? b=some o->o.data=.dict es ep->H b=none:=fun {b o es ep} e d=>by
   cases q:H b with
   | none=>rfl
   | some u =>
    have e':b=a:=hA b (by rw [q]; simp);subst e';rw [ha] at e; cases e;have d':Data.seq vs.toArray _=Data.dict es ep:=d
    cases d'
  have nsK:∀{b:Addr} {m:Str->Option Value},s₁.heap.Ns b m->(jl s₁.heap H).Ns b m:=fun {b m} ⟨o,es,ep,e,d,r⟩=>⟨o,es,ep,base_of e (noA e d),d,r⟩;have hKb:K.In (jl s₁.heap H):=fun b o e=>base_of (KX b o e) (by
   cases q:H b with
   | none=>rfl
   | some u =>
    have e':b=a:=hA b (by rw [q]; simp);subst e';rw [hK (by rw [q]; simp)] at e; cases e)
  have hM:Mod K mg (jl s₁.heap H):=⟨hKb,nsK hns,⟨mb,nsK hb,hbb⟩,let ⟨mc,h1,h2⟩:=hlim; ⟨mc,nsK h1,h2⟩⟩;have e0:Env0 P w K mg (jl s₁.heap H) callerA [] s₁ H:=⟨rfl,hM,fun b o e=>lb' e,Nat.le_of_eq (ht' _ _),trivial,fun b hb=>absurd (show b∈([]:List Addr) from hb) (by simp),hok,.of_eq hg⟩
  refine codeAny_mono ((F _ hKb (nsK hns)).run callerA [] s₁ H ⟨[.ref a],[]⟩ [.ref a] [.ref a] _ _ hr e0 (hbind s₁ (.ref a)) (.cons rfl .nil) (hsp H hO hS)) fun r s' h=>?_
  cases r with
  | error e=>exact (hCX H e s' h).elim
  | ok fl =>
   cases fl with
   | next=>exact False.elim h
   | brk=>exact False.elim h
   | cont=>exact False.elim h
   | ret u =>
    obtain ⟨v,H',os,bare,un,hok',r',q⟩:=h;have q':v=.bl true:=q;subst q';obtain rfl:u=Value.bool true:=r';refine ⟨rfl,OldK.of_keep fun b o e=>?_,os,bare⟩
    cases q:H b with
    | none=>exact un.keep b o e q (by intro z; exact absurd (show b∈([]:List Addr) from z) (by simp)) (by simp)
    | some u =>
     rcases hO b with z | ⟨ob,xs,z⟩
     ·rw [q] at z; cases z
     ·have z2:=un.frzs b ob _ z;obtain ⟨e1,_⟩:=hok b _ z;obtain ⟨e2,_⟩:=hok' b _ z2;rw [e] at e1; cases e1;exact e2
 cases hk:K.lookup a with
 | some o =>
  have e:=KX a o hk;rw [ha] at e
  cases e
  refine core (fun _=>none) (fun _=>.inl rfl) (.inr ⟨_,vs.toArray,_,hk,rfl,rfl,rfl,by rw [size_toArray,lenV]; exact hl,by simpa using rv⟩) (fun b u z=>by have z':(none:Option HO)=some u:=z; cases z') (fun b z=>absurd rfl z) fun z=>absurd rfl z
 | none =>
  refine core (fun b=>if b=a then some (.frz { cls:=.type "list",data:=.seq vs.toArray } (.lst (ns.map V.int))) else none) (fun b=>?_) (.inl (.inr ⟨{ cls:=.type "list",data:=.seq vs.toArray },if_pos rfl⟩)) (fun b u z=>?_) (fun b z=>?_) fun _=>hk
  ·by_cases hb:b=a
   ·exact .inr ⟨_,_,if_pos hb⟩
   ·exact .inl (if_neg hb)
  ·by_cases hb:b=a
   ·have z':=(if_pos hb).symm.trans z
    cases z'
    subst hb;exact ⟨ha,by rw [length_map]; exact hl,vs,_,rv,ha⟩
   ·have z':=(if_neg hb).symm.trans z
    cases z'
  ·by_cases hb:b=a
   ·exact hb
   ·exact absurd (if_neg hb) z
abbrev KOf {K:Frag} {h:Heap} (_:K.In h):Frag:=K
theorem walk_of {l:OpenLaw} {n k:Nat} {q:Program} {loose:List Str} {XP:(Str->Option Value)->Heap->Prop} {YP:World->Heap->Prop} {d:DefRec} {K:Params->Frag} {CX:World->mO} {sp:World->Sp} {x:Str}
  (hn:l.most=some n) (hn2:n<=sizeLine) (hdf:d.params.defaults=[]) (hr:Room k callerA)
  (hY:∀(w:World) (h:Heap),YP w h->(K w.params).In h)
  (F:∀(w:World) (mg:Str->Option Value) (fa:Addr) (h:Heap),(K w.params).In h->h.Ns mainGlobals mg->mg d.name=some (.ref fa) ->
   ∃fd:FuncData,(∀(s:Shared) (u:Value),BindsTo s fd ⟨[u],[]⟩ [(x,u)]) /\
    ∀base:Heap,(K w.params).In base->base.Ns mainGlobals mg->FnOk l.prog w (K w.params) mg base (CX w) k fa fd [x] (sp w))
  (hsp:∀(w:World) (H:Hp) (a:Addr) (ns:List Int),ns.length<=n->Only H->SqL (K w.params) H a (ns.map V.int)->sp w [.ref a] H (fun v _=>v=.bl true) fun _ _ _=>False)
  (hCX:∀(w:World) (H:Hp) (s:Shared) (e:Value) (s':Shared),CX w [] H s (fun _ _ _=>False) e s'->False) :
  WalkO q loose XP YP l.row.toRowW d [] (fun f vs=>PySem.call f vs):=by
 refine Att.attach_call hn hdf fun w s₀ s₁ mg mb fa o pm cd doc a vs ns G Y ho hd hcd hmg hobj hints hlen hg=>?_;have KX:=hY w _ Y;obtain ⟨fd,hb,hF⟩:=F w mg fa _ KX G.T.g hmg;exact Mm KX G.T.g G.T.b G.T.builtins G.T.nolimit hg hobj hints (Nat.le_trans hlen hn2) hr hF hb (fun H hO hS=>hsp w H a ns hlen hO hS) fun H e s'=>hCX w H s₁ e s'
noncomputable def bO (s:Stmt):Arguments:=match s with
 | .FunctionDef _ a _ _ _ _ _ _ _ _=>a
 | _=>{ posonlyargs:=[],args:=[],vararg:=none,kwonlyargs:=[],kw_defaults:=[],kwarg:=none,defaults:=[] }
noncomputable def aV (s:Stmt):List Stmt:=match s with
 | .FunctionDef _ _ b _ _ _ _ _ _ _=>b
 | _=>[]
noncomputable def aq (s:Stmt):Scope:=match s with
 | .FunctionDef _ _ _ _ _ _ sc _ _ _=>sc
 | _=>{ kind:=.function,names:=[],isGenerator:=false,isCoroutine:=false }
abbrev Gv:mO:=fun _ _ _ _ _ _=>False
abbrev E0:XK:=fun _ _ _=>False
structure Fun (K:Frag) (x qual:Str) (st:Stmt) (f:Addr) (fd:FuncData):Prop where
 ex:∃(oc:Value) (od:Option Addr) (kV doc pm:Value) (an:Option Addr) (cdv ct:Value) (osl:Array (Option Value)),
  fd=fnOf x qual (bO st) (aV st) (aq st) .none kV doc pm an cdv ct/\K.lookup f=some ⟨oc,od,.func fd,osl⟩/\codeIn K cdv qual=true
 kp:keepIn K (.ref f)=true
section
variable {P:Program} {w:World} {K:Frag} {mg:Str->Option Value} {base:Heap}
theorem Fun.ok {x qual:Str} {st:Stmt} {f:Addr} {fd:FuncData} {N ps:List Str} {k:Nat} {sp:Sp} (F:Fun K x qual st f fd) (S:FnScope N ps (aq st)) (len:∀vs H Q E,sp vs H Q E->vs.length=ps.length)
  (hbody:∀(cdv:Value) (A:Around) (outer:List Env) (s:Shared) (H:Hp) (vs:List V) (Q:VK) (E:XK),Room k (A.deeper (envOfC qual (aq st) s.heap.objs.size f cdv))->sp vs H Q E ->
   ∃t,PSs (dW Gv P w K mg base N qual (aq st) f cdv A outer s H E).nox (aV st) t/\t { nx:=fun _ H'=>Q .non H',rt:=Q } (start N vs) H):FnOk P w K mg base Gv (k + 1) f fd ps sp:=by
 obtain ⟨oc,od,kV,doc,pm,an,cdv,ct,osl,rfl,lk,hcd⟩:=F.ex;refine Ag lk hcd S len fun A outer s H vs Q E hr hsp=>?_;obtain ⟨t,h,q⟩:=hbody cdv A outer s H vs Q E hr hsp;exact ⟨t,h.nox,q⟩
theorem Fun.binds {x qual:Str} {st:Stmt} {f:Addr} {fd:FuncData} {ps:List Str} (F:Fun K x qual st f fd)
  (h:∀(kV doc pm:Value) (an:Option Addr) (cdv ct:Value) (us:List Value),us.length=ps.length->bindArgs (fnOf x qual (bO st) (aV st) (aq st) .none kV doc pm an cdv ct) ⟨us,[]⟩=pure (ps.zip us)):Binds K fd ps []:=by
 obtain ⟨oc,od,kV,doc,pm,an,cdv,ct,osl,rfl,lk,hcd⟩:=F.ex;exact .all (h kV doc pm an cdv ct)
theorem hJ' {x qual:Str} {st:Stmt} {f:Addr} {oc:Value} {od an:Option Addr} {osl:Array (Option Value)} {kV doc pm cdv ct:Value} (l:K.lookup f=some ⟨oc,od,.func (fnOf x qual (bO st) (aV st) (aq st) .none kV doc pm an cdv ct),osl⟩)
  (c:codeIn K cdv qual=true) (k:keepIn K (.ref f)=true):Fun K x qual st f (fnOf x qual (bO st) (aV st) (aq st) .none kV doc pm an cdv ct):=⟨⟨oc,od,kV,doc,pm,an,cdv,ct,osl,rfl,l,c⟩,k⟩
end
section
variable {X:Cx}
theorem pv (i:Nat) {x:Str} {pos:Pos} (hN:X.N[i]? = some x:=by rfl) (hv:sr X.env.scope x:=by first | exact Or.inl rfl | exact Or.inr (Or.inl rfl) | exact Or.inr (Or.inr rfl)) (hd:(x == ("__debug__" : Str))=false:=by decide)
  (hcd:(x == ("__classdict__" : Str))=false:=by decide):PE X (.Name x pos) (nO i):=vD hN hv hd hcd
end
noncomputable def Same (H H':Hp):Prop:=∀b o,H b=some o->H' b=some o
theorem Same.refl (H:Hp):Same H H:=fun _ _ h=>h
theorem Same.trans {H H1 H2:Hp} (a:Same H H1) (b:Same H1 H2):Same H H2:=fun c o h=>b c o (a c o h)
theorem Same.free {H H':Hp} (e:Same H H') {l:Addr} (h:H' l=Option.none):H l=Option.none:=by
 cases q:H l with
 | none=>rfl
 | some o =>
  rw [e l o q] at h
  cases h
theorem Same.seq {K:Frag} {H H':Hp} {a:Addr} {xs:List V} (e:Same H H') (h:SqL K H a xs):SqL K H' a xs:=by
 rcases h with (h | ⟨o,h⟩) | h
 ·exact .inl (.inl (e _ _ h))
 ·exact .inl (.inr ⟨o,e _ _ h⟩)
 ·exact .inr h
end L2
namespace DL
open PySem PySem.Spec PyProof.Rows L2
abbrev St:=L2.St
inductive D where
 | non
 | bl (b:Bool)
 | int (i:Int)
 | str (x:Str)
 | tup (ds:List D)
 | lst (ds:List D)
 | exc (c:Str)
 | excf (c f:Str) (d:D)
 | dct
structure Exn where
 cls:Str
 pay:Option (Str×D):=none
inductive Res (α:Type) where
 | stuck
 | ok (a:α)
 | err (x:Exn)
noncomputable def Res.bind {α β:Type} (r:Res α) (f:α->Res β):Res β:=match r with
 | .stuck=>.stuck
 | .ok a=>f a
 | .err x=>.err x
@[simp] theorem Res.bind_ok {α β:Type} (a:α) (f:α->Res β):(Res.ok a).bind f=f a:=rfl
@[simp] theorem Res.bind_stuck {α β:Type} (f:α->Res β):(Res.stuck).bind f=.stuck:=rfl
@[simp] theorem Res.bind_err {α β:Type} (x:Exn) (f:α->Res β):(Res.err x).bind f=.err x:=rfl
noncomputable def excAt (a C:Addr) (dd:Option Addr) (h:Heap):Prop:=∃o vs,h.get? a=some o/\o.cls=.ref C/\o.dict=dd/\o.data=.fields vs
section
variable (K:Frag)
mutual
noncomputable def Rep (H:Hp):D->V->Prop
 | .non,v=>v=.non
 | .bl b,v=>v=.bl b
 | .int i,v=>v=.int i
 | .str x,v=>v=.str x
 | .tup ds,v=>∃a xs,v=.ref a/\SqT K H a xs/\Reps H ds xs
 | .lst ds,v=>∃a xs,v=.ref a/\SqL K H a xs/\Reps H ds xs
 | .exc c,v=>∃a C,v=.ref a/\nsIn K mainGlobals c=some (some (.ref C))/\H a=some (.ext (excAt a C none))
 | .excf c f d,v=>∃a C dx u,v=.ref a/\nsIn K mainGlobals c=some (some (.ref C))/\H a=some (.ext (excAt a C (some dx)))/\H dx=some (.xd [(f,u)])/\Rep H d u
 | .dct,v=>∃a,v=.ref a/\H a=some (.ext (KitAt a "dict"))
noncomputable def Reps (H:Hp):List D->List V->Prop
 | [],xs=>xs=[]
 | d :: ds,xs=>∃v vs,xs=v :: vs/\Rep H d v/\Reps H ds vs
end
end
theorem Ai {K:Frag} {H H':Hp} {a:Addr} {xs:List V} (e:Same H H') (h:SqT K H a xs):SqT K H' a xs:=by
 rcases h with (h | ⟨o,h⟩) | h
 ·exact .inl (.inl (e _ _ h))
 ·exact .inl (.inr ⟨o,e _ _ h⟩)
 ·exact .inr h
mutual
theorem Rep.mono {K:Frag} {H H':Hp} (e:Same H H'):∀{d:D} {v:V},Rep K H d v->Rep K H' d v
 | .non,_,h=>by rw [Rep] at h ⊢; exact h
 | .bl _,_,h=>by rw [Rep] at h ⊢; exact h
 | .int _,_,h=>by rw [Rep] at h ⊢; exact h
 | .str _,_,h=>by rw [Rep] at h ⊢; exact h
 | .tup ds,_,h=>by
  rw [Rep] at h ⊢;obtain ⟨a,xs,e1,e2,e3⟩:=h;exact ⟨a,xs,e1,Ai e e2,Reps.mono e e3⟩
 | .lst ds,_,h=>by
  rw [Rep] at h ⊢;obtain ⟨a,xs,e1,e2,e3⟩:=h;exact ⟨a,xs,e1,e.seq e2,Reps.mono e e3⟩
 | .exc _,_,h=>by
  rw [Rep] at h ⊢;obtain ⟨a,C,e1,e2,e3⟩:=h;exact ⟨a,C,e1,e2,e _ _ e3⟩
 | .excf _ _ d,_,h=>by
  rw [Rep] at h ⊢;obtain ⟨a,C,dx,u,e1,e2,e3,e4,e5⟩:=h;exact ⟨a,C,dx,u,e1,e2,e _ _ e3,e _ _ e4,Rep.mono e e5⟩
 | .dct,_,h=>by
  rw [Rep] at h ⊢;obtain ⟨a,e1,e2⟩:=h;exact ⟨a,e1,e _ _ e2⟩
theorem Reps.mono {K:Frag} {H H':Hp} (e:Same H H'):∀{ds:List D} {vs:List V},Reps K H ds vs->Reps K H' ds vs
 | [],_,h=>by rw [Reps] at h ⊢; exact h
 | d :: ds,_,h=>by
  rw [Reps] at h ⊢;obtain ⟨v,vs,e1,e2,e3⟩:=h;exact ⟨v,vs,e1,Rep.mono e e2,Reps.mono e e3⟩
end
theorem Reps.nil {K:Frag} {H:Hp}:Reps K H [] []:=by rw [Reps]
theorem Reps.cons {K:Frag} {H:Hp} {d:D} {v:V} {ds:List D} {vs:List V} (h:Rep K H d v) (t:Reps K H ds vs):Reps K H (d :: ds) (v :: vs):=by
 rw [Reps]; exact ⟨v,vs,rfl,h,t⟩
theorem Reps.nil_of {K:Frag} {H:Hp} {xs:List V} (h:Reps K H [] xs):xs=[]:=by rw [Reps] at h; exact h
theorem Reps.cons_of {K:Frag} {H:Hp} {d:D} {ds:List D} {xs:List V} (h:Reps K H (d :: ds) xs):∃v vs,xs=v :: vs/\Rep K H d v/\Reps K H ds vs:=by rw [Reps] at h; exact h
theorem Reps.length {K:Frag} {H:Hp}:∀{ds:List D} {vs:List V},Reps K H ds vs->vs.length=ds.length
 | [],_,h=>by rw [h.nil_of]; rfl
 | d :: ds,_,h=>by
  obtain ⟨v,vs,rfl,_,t⟩:=h.cons_of;simp [Reps.length t]
theorem Reps.isEmpty {K:Frag} {H:Hp} {ds:List D} {vs:List V} (h:Reps K H ds vs):vs.isEmpty=ds.isEmpty:=by
 cases ds with
 | nil=>rw [h.nil_of]; rfl
 | cons d ds=>obtain ⟨v,vs,rfl,_,_⟩:=h.cons_of; rfl
theorem Reps.get {K:Frag} {H:Hp}:∀{ds:List D} {vs:List V} {i:Nat} {d:D},Reps K H ds vs->ds[i]? = some d->∃v,vs[i]? = some v/\Rep K H d v
 | [],_,i,d,h,e=>by simp at e
 | d' :: ds,_,0,d,h,e=>by
  obtain ⟨v,vs,rfl,r,t⟩:=h.cons_of;simp at e; subst e;exact ⟨v,by simp,r⟩
 | d' :: ds,_,i + 1,d,h,e=>by
  obtain ⟨v,vs,rfl,r,t⟩:=h.cons_of;simp at e;obtain ⟨u,e1,e2⟩:=Reps.get t e;exact ⟨u,by simpa using e1,e2⟩
theorem Reps.get' {K:Frag} {H:Hp}:∀{ds:List D} {vs:List V} {i:Nat} {v:V},Reps K H ds vs->vs[i]? = some v->∃d,ds[i]? = some d/\Rep K H d v
 | [],_,i,v,h,e=>by rw [h.nil_of] at e; simp at e
 | d' :: ds,_,0,v,h,e=>by
  obtain ⟨v',vs,rfl,r,t⟩:=h.cons_of;simp at e; subst e;exact ⟨d',by simp,r⟩
 | d' :: ds,_,i + 1,v,h,e=>by
  obtain ⟨v',vs,rfl,r,t⟩:=h.cons_of;simp at e;obtain ⟨u,e1,e2⟩:=Reps.get' t e;exact ⟨u,by simpa using e1,e2⟩
theorem Reps.append {K:Frag} {H:Hp}:∀{ds es:List D} {vs ws:List V},Reps K H ds vs->Reps K H es ws->Reps K H (ds ++ es) (vs ++ ws)
 | [],_,_,_,h,t=>by rw [h.nil_of]; exact t
 | d :: ds,_,_,_,h,t=>by
  obtain ⟨v,vs,rfl,r,q⟩:=h.cons_of;exact Reps.cons r (Reps.append q t)
theorem Reps.take {K:Frag} {H:Hp}:∀(n:Nat) {ds:List D} {vs:List V},Reps K H ds vs->Reps K H (ds.take n) (vs.take n)
 | 0,_,_,_=>by simpa using Reps.nil
 | n + 1,[],_,h=>by rw [h.nil_of]; simpa using Reps.nil
 | n + 1,d :: ds,_,h=>by
  obtain ⟨v,vs,rfl,r,q⟩:=h.cons_of;simpa using Reps.cons r (Reps.take n q)
theorem Reps.drop {K:Frag} {H:Hp}:∀(n:Nat) {ds:List D} {vs:List V},Reps K H ds vs->Reps K H (ds.drop n) (vs.drop n)
 | 0,_,_,h=>by simpa using h
 | n + 1,[],_,h=>by rw [h.nil_of]; simpa using Reps.nil
 | n + 1,d :: ds,_,h=>by
  obtain ⟨v,vs,rfl,r,q⟩:=h.cons_of;simpa using Reps.drop n q
inductive SV where
 | val (d:D)
 | arg (d:D)
 | own (ds:List D)
abbrev DS:=List (Option SV)
noncomputable def SV.view:SV->D
 | .val d=>d
 | .arg d=>d
 | .own ds=>.lst ds
noncomputable def wN (K:Frag) (G H:Hp):SV->V->Prop
 | .val d,v=>Rep K H d v
 | .arg d,v=>Rep K G d v
 | .own ds,v=>∃a xs,v=.ref a/\H a=some (.lst xs)/\Reps K H ds xs/\G a=none
structure RepSt (K:Frag) (G H:Hp) (σ:St) (δ:DS):Prop where
 same:Same G H
 len:σ.length=δ.length
 at_:∀(i:Nat) (sv:SV),δ[i]? = some (some sv)->∃v,σ[i]? = some (some v)/\wN K G H sv v
 sep:∀(i j:Nat) (ds es:List D) (v:V),i≠j->δ[i]? = some (some (.own ds))->δ[j]? = some (some (.own es))->σ[i]? = some (some v)->σ[j]?≠some (some v)
structure TK (H H':Hp):Prop where
 tup:∀b xs,H b=some (.tup xs)->H' b=some (.tup xs)
 frz:∀b o u,H b=some (.frz o u)->H' b=some (.frz o u)
 trk:∀b,H' b=none->H b=none
theorem _root_.L2.Same.tk {H H':Hp} (e:Same H H'):TK H H':=⟨fun b xs h=>e b _ h,fun b o u h=>e b _ h,fun b h=>e.free h⟩
theorem TK.refl (H:Hp):TK H H:=⟨fun _ _ h=>h,fun _ _ _ h=>h,fun _ h=>h⟩
theorem TK.trans {H H1 H2:Hp} (a:TK H H1) (b:TK H1 H2):TK H H2:=⟨fun c xs h=>b.tup c xs (a.tup c xs h),fun c o u h=>b.frz c o u (a.frz c o u h),fun c h=>a.trk c (b.trk c h)⟩
theorem RepSt.mono {K:Frag} {G H H':Hp} {σ:St} {δ:DS} (R:RepSt K G H σ δ) (e:Same H H'):RepSt K G H' σ δ where
 same:=R.same.trans e
 len:=R.len
 at_:=fun i sv h=>by
  obtain ⟨v,e1,e2⟩:=R.at_ i sv h;refine ⟨v,e1,?_⟩
  cases sv with
  | val d=>exact Rep.mono e e2
  | arg d=>exact e2
  | own ds =>
   obtain ⟨a,xs,q1,q2,q3,q4⟩:=e2;exact ⟨a,xs,q1,e _ _ q2,q3.mono e,q4⟩
 sep:=R.sep
theorem RepSt.view {K:Frag} {G H:Hp} {σ:St} {δ:DS} (R:RepSt K G H σ δ) {i:Nat} {sv:SV} (h:δ[i]? = some (some sv)):∃v,σ[i]? = some (some v)/\Rep K H sv.view v:=by
 obtain ⟨v,e1,e2⟩:=R.at_ i sv h;refine ⟨v,e1,?_⟩
 cases sv with
 | val d=>exact e2
 | arg d=>exact Rep.mono R.same e2
 | own ds =>
  obtain ⟨a,xs,rfl,q2,q3,q4⟩:=e2;show Rep K H (.lst ds) _;rw [Rep];exact ⟨a,xs,rfl,SqL.of q2,q3⟩
theorem RepSt.set {K:Frag} {G H:Hp} {σ:St} {δ:DS} (R:RepSt K G H σ δ) (i:Nat) {d:D} {v:V} (h:Rep K H d v):RepSt K G H (σ.set i (some v)) (δ.set i (some (.val d))) where
 same:=R.same
 len:=by simpa using R.len
 at_:=fun j sv e=>by
  by_cases hj:i=j
  ·subst hj;have hl:i < δ.length:=by
    rw [List.getElem?_set] at e
    by_cases q:i < δ.length
    ·exact q
    ·simp [q] at e
   rw [List.getElem?_set_self hl] at e
   cases e
   exact ⟨v,by rw [List.getElem?_set_self (by rw [R.len]; exact hl)],h⟩
  ·rw [List.getElem?_set_ne hj] at e;obtain ⟨u,e1,e2⟩:=R.at_ j sv e;exact ⟨u,by rw [List.getElem?_set_ne hj]; exact e1,e2⟩
 sep:=fun j k ds es u hjk e1 e2 e3=>by
  have n1:i≠j:=by
   rintro rfl
   rw [List.getElem?_set] at e1
   split at e1
   ·split at e1 <;> cases e1
   ·omega
  have n2:i≠k:=by
   rintro rfl
   rw [List.getElem?_set] at e2
   split at e2
   ·split at e2 <;> cases e2
   ·omega
  rw [List.getElem?_set_ne n1] at e1 e3;rw [List.getElem?_set_ne n2] at e2;rw [List.getElem?_set_ne n2];exact R.sep j k ds es u hjk e1 e2 e3
theorem RepSt.setOwn {K:Frag} {G H H':Hp} {σ:St} {δ:DS} (R:RepSt K G H σ δ) (e:Same H H') (i:Nat) {ds:List D} {a:Addr} {xs:List V} (hn:H a=none) (h:H' a=some (.lst xs)) (r:Reps K H' ds xs) :
  RepSt K G H' (σ.set i (some (.ref a))) (δ.set i (some (.own ds))) where
 same:=R.same.trans e
 len:=by simpa using R.len
 at_:=fun j sv q=>by
  have R':=R.mono e
  by_cases hj:i=j
  ·subst hj;have hl:i < δ.length:=by
    rw [List.getElem?_set] at q
    by_cases z:i < δ.length
    ·exact z
    ·simp [z] at q
   rw [List.getElem?_set_self hl] at q
   cases q
   exact ⟨.ref a,by rw [List.getElem?_set_self (by rw [R.len]; exact hl)],a,xs,rfl,h,r,R.same.free hn⟩
  ·rw [List.getElem?_set_ne hj] at q;obtain ⟨u,e1,e2⟩:=R'.at_ j sv q;exact ⟨u,by rw [List.getElem?_set_ne hj]; exact e1,e2⟩
 sep:=fun j k ds' es u hjk e1 e2 e3=>by
  have old:∀(m:Nat) (fs:List D) (z:V),δ[m]? = some (some (.own fs))->σ[m]? = some (some z)->z≠.ref a:=fun m fs z q1 q2 q3=>by
   obtain ⟨v,w1,b,ys,w2,w3,_⟩:=R.at_ m _ q1;rw [q2] at w1
   cases w1
   rw [q3] at w2
   cases w2
   rw [hn] at w3
   cases w3
  by_cases hj:i=j
  ·subst hj;have nk:i≠k:=hjk;rw [List.getElem?_set_ne nk] at e2;rw [List.getElem?_set_ne nk];intro q;have ev:u=.ref a:=by
    rw [List.getElem?_set] at e3
    split at e3
    ·split at e3
     ·cases e3; rfl
     ·cases e3
    ·omega
   exact old k es u e2 q ev
  ·rw [List.getElem?_set_ne hj] at e1 e3
   by_cases hk:i=k
   ·subst hk;intro q;have ev:u=.ref a:=by
     rw [List.getElem?_set] at q
     split at q
     ·split at q
      ·cases q; rfl
      ·cases q
     ·omega
    exact old j ds' u e1 e3 ev
   ·rw [List.getElem?_set_ne hk] at e2;rw [List.getElem?_set_ne hk];exact R.sep j k ds' es u hjk e1 e2 e3
theorem obj_some {P:Program} {w:World} {H:Hp} {h:Heap} {a:Addr} {o:HO} (x:ObjOk P w H h a o):∃ob,h.get? a=some ob:=by
 cases o with
 | lst xs=>obtain ⟨_,_,_,_,e⟩:=x; exact ⟨_,e⟩
 | tup xs=>obtain ⟨_,_,_,o,e,_⟩:=x; exact ⟨o,e⟩
 | dK kvs=>obtain ⟨_,_,_,_,o,_,_,e,_⟩:=x; exact ⟨o,e⟩
 | dT kvs=>obtain ⟨_,_,_,_,o,_,_,e,_⟩:=x; exact ⟨o,e⟩
 | set S n=>obtain ⟨o,_,_,_,e,_⟩:=x; exact ⟨o,e⟩
 | ins C dx fs=>obtain ⟨_,_,_,e,_⟩:=x; exact ⟨_,e⟩
 | own y=>obtain ⟨o,e⟩:=x; exact ⟨o,e⟩
 | xd fs=>obtain ⟨_,⟨o,_,_,e,_⟩,_⟩:=x; exact ⟨o,e⟩
 | rng lo hi=>obtain ⟨_,_,_,e⟩:=x; exact ⟨_,e⟩
 | frz ob u=>obtain ⟨e,_⟩:=x; exact ⟨_,e⟩
 | tbl ps=>exact ⟨_,show h.get? a=some _ from x⟩
 | met f y=>exact ⟨_,show h.get? a=some _ from x⟩
 | ext φ=>obtain ⟨_,⟨o,e⟩,_⟩:=x; exact ⟨o,e⟩
noncomputable def dX (h:Heap) (e:Addr):Prop:=∀o vs,h.get? e=some o->o.data≠.fields vs
noncomputable def Back (H:Hp) (h h1:Heap):Prop:=∀e,H e=none->dX h1 e->dX h e
theorem Back.refl (H:Hp) (h:Heap):Back H h h:=fun _ _ q=>q
theorem Back.trans {H H1:Hp} {h h1 h2:Heap} (a:Back H h h1) (b:Back H1 h1 h2) (k:∀e,H e=none->dX h2 e->H1 e=none):Back H h h2:=fun e n q=>a e n (b e (k e n q) q)
noncomputable def Fly (h0:Heap) (H:Hp) (h:Heap) (e:Addr) (cls:Value×Option Addr):Prop :=
 dX h0 e/\H e=none/\∃oe vs a0,h.get? e=some oe/\(oe.cls=cls.1/\oe.dict=cls.2)/\oe.data=.fields vs/\vs[0]? = some a0 /\
  (vs[1]? = some .none\/∃T oT ts,vs[1]? = some (.ref T)/\dX h0 T/\H T=none/\T≠e/\h.get? T=some oT/\oT.data=.fields ts/\ts[3]? = some .none)
theorem Fly.back {h0 h1 h:Heap} {H0 H1 H:Hp} {e:Addr} {cls:Value×Option Addr} (f:Fly h1 H h e cls) (e1:TK H0 H1) (e2:TK H1 H) (b:Back H0 h0 h1):Fly h0 H h e cls:=by
 obtain ⟨n,he,oe,vs,a0,q1,q2,q3,q4,q5⟩:=f;refine ⟨b e (e1.trk e (e2.trk e he)) n,he,oe,vs,a0,q1,q2,q3,q4,?_⟩;rcases q5 with q5 | ⟨T,oT,ts,w1,w2,w3,w4⟩
 ·exact .inl q5
 ·exact .inr ⟨T,oT,ts,w1,b T (e1.trk T (e2.trk T w3)) w2,w3,w4⟩
noncomputable def Aj (K:Frag) (H:Hp) (x:Exn) (dd:Option Addr):Prop:=match x.pay with
 | none=>dd=none
 | some (f,d)=>∃dx u,dd=some dx/\H dx=some (.xd [(f,u)])/\Rep K H d u
noncomputable def FlyX (K:Frag) (x:Exn) (h0:Heap) (H:Hp) (h:Heap) (e C:Addr):Prop:=∃dd,Aj K H x dd/\Fly h0 H h e (.ref C,dd)
theorem FlyX.back {K:Frag} {x:Exn} {h0 h1 h:Heap} {H0 H1 H:Hp} {e C:Addr} (f:FlyX K x h1 H h e C) (e1:TK H0 H1) (e2:TK H1 H) (b:Back H0 h0 h1):FlyX K x h0 H h e C:=by
 obtain ⟨dd,p,f⟩:=f;exact ⟨dd,p,f.back e1 e2 b⟩
noncomputable def EPost (X:Cx) (pins:List (Addr×Obj)) (σ:St) (H:Hp) (r:Res D) (u:Value) (s1:Shared):Prop:=∃d v H1,r=.ok d/\Inv X pins σ H1 s1/\RelV v u/\Same H H1/\Rep X.K H1 d v
noncomputable def XPost {α:Type} (X:Cx) (pins:List (Addr×Obj)) (σ:St) (H:Hp) (h0:Heap) (r:Res α) (e:Value) (s1:Shared):Prop :=
 ∃x a C H1,r=.err x/\e=.ref a/\Inv X pins σ H1 s1/\Same H H1/\nsIn X.K mainGlobals x.cls=some (some (.ref C))/\FlyX X.K x h0 H1 s1.heap a C
theorem XPost.back {α β:Type} {X:Cx} {pins:List (Addr×Obj)} {σ:St} {H H1:Hp} {h h1:Heap} {r:Res α} {r':Res β} {e:Value} {s1:Shared} (p:XPost X pins σ H1 h1 r e s1) (e1:Same H H1) (b:Back H h h1) (hr:∀x,r=.err x->r'=.err x):XPost X pins σ H h r' e s1:=by
 obtain ⟨x,a,C,H2,q1,q2,q3,q4,q5,q6⟩:=p;exact ⟨x,a,C,H2,hr x q1,q2,q3,e1.trans q4,q5,q6.back e1.tk q4.tk b⟩
theorem XPost.same {α β:Type} {X:Cx} {pins:List (Addr×Obj)} {σ:St} {H:Hp} {h:Heap} {r:Res α} {r':Res β} {e:Value} {s1:Shared} (p:XPost X pins σ H h r e s1) (hr:∀x,r=.err x->r'=.err x):XPost X pins σ H h r' e s1:=p.back (Same.refl H) (Back.refl H h) hr
theorem XPost.none {α:Type} {X:Cx} {pins:List (Addr×Obj)} {σ:St} {H:Hp} {h0:Heap} {a:α} {e:Value} {s1:Shared} (p:XPost X pins σ H h0 (.ok a) e s1):False:=by
 obtain ⟨x,_,_,_,q,_⟩:=p; cases q
noncomputable def PD (X:Cx) (e:Expr) (f:DS->Res D):Prop :=
 ∀(pins:List (Addr×Obj)) (s:Shared) (σ:St) (G H:Hp) (δ:DS),Inv X pins σ H s->RepSt X.K G H σ δ->f δ≠.stuck ->
  wpAny (model X.prog X.w) X.A (eval e X.env) (EPost X pins σ H (f δ)) (XPost X pins σ H s.heap (f δ)) s
open Classical in
noncomputable def gj (X:Cx) (H:Hp) (h:Heap):List (Addr×Obj) :=
 (List.range h.objs.size).filterMap fun a=>(h.get? a).bind fun o=>if H a=none/\a≠X.env.locals/\a∉X.fs/\(∀v,o.data≠.cell v) then some (a,o) else none
theorem Mp {X:Cx} {H:Hp} {h:Heap} {p:Addr×Obj} (hp:p∈gj X H h):h.get? p.1=some p.2/\H p.1=none/\p.1≠X.env.locals/\p.1∉X.fs/\∀v,p.2.data≠.cell v:=by
 obtain ⟨a,_,e⟩:=mem_filterMap.mp hp
 cases q:h.get? a with
 | none=>rw [q] at e; cases e
 | some o =>
  rw [q] at e;simp only [Option.bind_some] at e
  split at e
  ·rename_i c
   cases e
   exact ⟨q,c⟩
  ·cases e
theorem Mq {X:Cx} {H:Hp} {h:Heap} {a:Addr} {o:Obj} (e:h.get? a=some o) (c:H a=none/\a≠X.env.locals/\a∉X.fs/\∀v,o.data≠.cell v):(a,o)∈gj X H h:=by
 refine mem_filterMap.mpr ⟨a,mem_range.mpr (Heap.lt_size e),?_⟩;rw [e];simp only [Option.bind_some];rw [if_pos c]
section
variable {X:Cx} {pins:List (Addr×Obj)} {s:Shared} {σ:St} {G H:Hp} {δ:DS}
theorem _root_.L2.Inv.all (I:Inv X pins σ H s):Inv X (pins ++ gj X H s.heap) σ H s :=
 I.pins_of fun p hp=>(mem_append.mp hp).elim (fun z=>I.pin p (mem_append_right _ z)) Mp
theorem _root_.L2.Inv.locals_dict (I:Inv X pins σ H s) {o:Obj} {vs:Array Value} (e:s.heap.get? X.env.locals=some o):o.data≠.fields vs:=by
 obtain ⟨m,⟨o',es,ep,ho,hd,_⟩,_⟩:=I.loc;rw [e] at ho; cases ho;rw [hd]; intro z; cases z
theorem _root_.L2.Inv.fs_rec (I:Inv X pins σ H s) {b:Addr} (hb:b∈X.fs) {o:Obj} {vs:Array Value} (e:s.heap.get? b=some o):o.data≠.fields vs:=by
 obtain ⟨_,o',ho,hd⟩:=I.funs.mem hb;rw [e] at ho; cases ho;exact hd vs
theorem _root_.L2.Inv.backTo {σ1:St} {H1:Hp} {s1:Shared} (I:Inv X pins σ H s) (J:Inv X (pins ++ gj X H s.heap) σ1 H1 s1):Back H s.heap s1.heap:=by
 intro e n q o vs ho hd;have hm:(e,o)∈gj X H s.heap:=Mq ho ⟨n,fun z=>by subst z; exact I.locals_dict ho hd,fun z=>I.fs_rec z ho hd,fun v z=>by rw [hd] at z; cases z⟩;exact q o vs (J.pin (e,o) (mem_append_right _ (mem_append_right _ hm))).1 hd
theorem PD.use {e:Expr} {f:DS->Res D} (h:PD X e f) (I:Inv X pins σ H s) (R:RepSt X.K G H σ δ) (hs:f δ≠.stuck) {P E:Value->Shared->Prop}
  (k:∀d u s1 v H1,f δ=.ok d->Inv X pins σ H1 s1->RelV v u->Same H H1->Back H s.heap s1.heap->Rep X.K H1 d v->P u s1)
  (kx:∀e s1,XPost X pins σ H s.heap (f δ) e s1->E e s1):wpAny (model X.prog X.w) X.A (eval e X.env) P E s:=by
 refine wpAny_mono (h (pins ++ gj X H s.heap) s σ G H δ I.all R hs) (fun u s1 ⟨d,v,H1,q1,q2,q3,q4,q5⟩=>k d u s1 v H1 q1 q2.unpinned q3 q4 (I.backTo q2) q5) fun e s1 ⟨x,a,C,H1,q1,q2,q3,q4,q5,q6⟩=>kx e s1 ⟨x,a,C,H1,q1,q2,q3.unpinned,q4,q5,q6⟩
end
section
variable {X:Cx} {e:Expr} {pos:Pos}
theorem Ak {d:D} {v:V} (h:∀E,PE (X.wish E) e (tC v)) (hr:∀H,Rep X.K H d v):PD X e (fun _=>.ok d):=by
 intro pins s σ G H δ I R _;refine wpAny_mono (h (fun _ _=>False) pins s σ H (fun v' H'=>v'=v/\H'=H) (I.wish _) ⟨rfl,rfl⟩) (fun u s1 q=>?_) fun _ _ z=>z.elim;obtain ⟨v',H',I',r',e1,e2⟩:=q;subst e1 e2;exact ⟨d,v',H',rfl,I'.unwish,r',Same.refl _,hr _⟩
theorem aC {i:Int} {j}:PD X (.Constant (.int i) j pos) (fun _=>.ok (.int i)):=Ak (fun _=>Kz) (fun _=>by rw [Rep])
theorem Cq {k:Bool} {j}:PD X (.Constant (.bool k) j pos) (fun _=>.ok (.bl k)):=Ak (fun _=>KC) (fun _=>by rw [Rep])
theorem mQ {j}:PD X (.Constant .none j pos) (fun _=>.ok .non):=Ak (fun _=>mN') (fun _=>by rw [Rep])
theorem hK' {x:Str} {j}:PD X (.Constant (.str x) j pos) (fun _=>.ok (.str x)):=Ak (fun _=>KD) (fun _=>by rw [Rep])
noncomputable def aj (i:Nat):DS->Res D:=fun δ=>match δ[i]? with | some (some sv)=>.ok sv.view | _=>.stuck
theorem au (i:Nat) {x:Str} (hN:X.N[i]? = some x:=by rfl) (hv:sr X.env.scope x:=by first | exact Or.inl rfl | exact Or.inr (Or.inl rfl) | exact Or.inr (Or.inr rfl)) (hd:(x == ("__debug__" : Str))=false:=by decide)
  (hcd:(x == ("__classdict__" : Str))=false:=by decide):PD X (.Name x pos) (aj i):=by
 intro pins s σ G H δ I R hs
 try dsimp only at hs ⊢
 unfold aj at hs ⊢
 split at hs
 ·rename_i sv e;obtain ⟨v,e1,e2⟩:=R.view e;refine wpAny_mono (vD (X:=X.wish fun _ _=>False) hN hv hd hcd pins s σ H (fun v' H'=>v'=v/\H'=H) (I.wish _) ⟨v,e1,rfl,rfl⟩) (fun u s1 q=>?_) fun _ _ z=>z.elim;obtain ⟨v',H',I',r',e3,e4⟩:=q;subst e3 e4;exact ⟨_,v',H',rfl,I'.unwish,r',Same.refl _,e2⟩
 ·exact (hs rfl).elim
end
noncomputable def OpD (X:Cx) (f:Value->Value->Sem Value) (g:D->D->Res D):Prop :=
 ∀(E:Value->Shared->Prop) (pins:List (Addr×Obj)) (s:Shared) (σ:St) (H:Hp) (x y:V) (v u:Value) (a b d:D),Inv X pins σ H s->RelV x v->RelV y u->Rep X.K H a x->Rep X.K H b y->g a b=.ok d ->
  wpAny (model X.prog X.w) X.A (f v u) (EPost X pins σ H (.ok d)) E s
noncomputable def aM {α:Type} (r:Res α):Prop:=∀x,r≠.err x
noncomputable def two (fa fb:DS->Res D) (g:D->D->Res D):DS->Res D:=fun δ=>(fa δ).bind fun x=>(fb δ).bind fun y=>g x y
theorem oI' {fa fb:DS->Res D} {g:D->D->Res D} {δ:DS} (h:two fa fb g δ≠.stuck):fa δ≠.stuck:=fun q=>h (by unfold two; rw [q]; rfl)
theorem Mr {fa fb:DS->Res D} {g:D->D->Res D} {δ:DS} {x:D} (h:two fa fb g δ≠.stuck) (q1:fa δ=.ok x):fb δ≠.stuck:=fun q=>h (by unfold two; rw [q1,Res.bind_ok,q]; rfl)
theorem Ms {fa fb:DS->Res D} {g:D->D->Res D} {δ:DS} {x y:D} (q1:fa δ=.ok x) (q2:fb δ=.ok y):two fa fb g δ=g x y:=by unfold two; rw [q1,Res.bind_ok,q2,Res.bind_ok]
theorem oL' {fa fb:DS->Res D} {g:D->D->Res D} {δ:DS} {x:Exn} (q1:fa δ=.err x):two fa fb g δ=.err x:=by unfold two; rw [q1]; rfl
theorem Mt {fa fb:DS->Res D} {g:D->D->Res D} {δ:DS} {x:D} {y:Exn} (q1:fa δ=.ok x) (q2:fb δ=.err y):two fa fb g δ=.err y:=by unfold two; rw [q1,Res.bind_ok,q2]; rfl
section
variable {X:Cx} {a b:Expr} {fa fb:DS->Res D} {pos:Pos}
theorem hL' {g:D->D->Res D} {pins:List (Addr×Obj)} {s:Shared} {σ:St} {G H:Hp} {δ:DS} (ha:PD X a fa) (hb:PD X b fb) (I:Inv X pins σ H s) (R:RepSt X.K G H σ δ) (hs:two fa fb g δ≠.stuck) {P:Value->Value->Shared->Prop} {E:Value->Shared->Prop}
  (k:∀x y v u s2 vx vy H2,two fa fb g δ=g x y->Inv X pins σ H2 s2->RelV vx v->RelV vy u->Same H H2->Rep X.K H2 x vx->Rep X.K H2 y vy->P v u s2)
  (kx:∀e s1,XPost X pins σ H s.heap (two fa fb g δ) e s1->E e s1) :
  wpAny (model X.prog X.w) X.A (eval a X.env) (fun v s1=>wpAny (model X.prog X.w) X.A (eval b X.env) (fun u s2=>P v u s2) E s1) E s:=by
 refine ha.use I R (oI' hs) (fun x u s1 v H1 qa I1 r1 e1 b1 p1=>?_) fun e s1 q=>kx e s1 (q.same fun x z=>oL' z);refine hb.use I1 (R.mono e1) (Mr hs qa) (fun y u2 s2 v2 H2 qb I2 r2 e2 b2 p2=>?_) fun e s2 q=>kx e s2 (q.back e1 b1 fun x z=>Mt qa z);exact k x y u u2 s2 v v2 H2 (Ms qa qb) I2 r1 r2 (e1.trans e2) (p1.mono e2) p2
theorem EPost.from {X:Cx} {pins:List (Addr×Obj)} {σ:St} {H H1:Hp} {r r':Res D} {u:Value} {s1:Shared} (p:EPost X pins σ H1 r u s1) (e:Same H H1) (q:r=r'):EPost X pins σ H r' u s1:=by
 obtain ⟨d,v,H2,q1,q2,q3,q4,q5⟩:=p;exact ⟨d,v,H2,q ▸ q1,q2,q3,e.trans q4,q5⟩
theorem hM' {g:D->D->Res D} {pins:List (Addr×Obj)} {s:Shared} {σ:St} {G H:Hp} {δ:DS} {f:Value->Value->Sem Value} (ho:OpD X f g) (hg:∀x y,aM (g x y)) (ha:PD X a fa) (hb:PD X b fb) (I:Inv X pins σ H s) (R:RepSt X.K G H σ δ) (hs:two fa fb g δ≠.stuck) {E:Value->Shared->Prop}
  (kx:∀e s1,XPost X pins σ H s.heap (two fa fb g δ) e s1->E e s1) :
  wpAny (model X.prog X.w) X.A (eval a X.env) (fun v s1=>wpAny (model X.prog X.w) X.A (eval b X.env) (fun u s2=>wpAny (model X.prog X.w) X.A (f v u) (EPost X pins σ H (two fa fb g δ)) E s2) E s1) E s:=by
 refine hL' ha hb I R hs (fun x y v u s2 vx vy H2 q I2 r1 r2 e2 p1 p2=>?_) kx
 cases qg:g x y with
 | stuck=>exact (hs (q.trans qg)).elim
 | err z=>exact (hg x y z qg).elim
 | ok d=>exact eX (ho E pins s2 σ H2 vx vy v u x y d I2 r1 r2 p1 p2 qg) fun w s3 p=>p.from e2 (qg.symm.trans q.symm)
theorem aY {op:Operator} {g:D->D->Res D} (ho:OpD X (binaryOp op) g) (hg:∀x y,aM (g x y)) (ha:PD X a fa) (hb:PD X b fb):PD X (.BinOp a op b pos) (two fa fb g) :=
 fun pins s σ G H δ I R hs=>wpAny_BinOp (hM' ho hg ha hb I R hs fun _ _ q=>q)
theorem hN' {op:CmpOp} {g:D->D->Res D} (ho:OpD X (compareOp op) g) (hg:∀x y,aM (g x y)) (ha:PD X a fa) (hb:PD X b fb) (hm:behindInMarks op b=false):PD X (.Compare a [op] [b] pos) (two fa fb g) :=
 fun pins s σ G H δ I R hs=>wpAny_Compare1 (hM' ho hg ha hb I R hs fun _ _ q=>q) hm
theorem OpD.of {f:Value->Value->Sem Value} {r:R2} {g:D->D->Res D} (ho:∀E,OpR (X.wish E) f r)
  (h:∀(H:Hp) (x y:V) (a b d:D) (Q:VK),Rep X.K H a x->Rep X.K H b y->g a b=.ok d->(∀z H',Same H H'->Rep X.K H' d z->Q z H')->r x y H Q):OpD X f g :=
 fun E pins s σ H x y v u a b d I r1 r2 p1 p2 e=>eX (ho E pins s σ H x y v u (fun z H'=>Same H H'/\Rep X.K H' d z) (I.wish _) r1 r2 (h H x y a b d _ p1 p2 e fun z H' a b=>⟨a,b⟩)) fun w s1 ⟨z,H1,I1,r3,e1,p3⟩=>⟨d,z,H1,rfl,I1.unwish,r3,e1,p3⟩
end
noncomputable def l_ (X:Cx) (pins:List (Addr×Obj)) (σ:St) (H:Hp) (r:Res Bool) (u:Bool) (s1:Shared):Prop:=∃H1,r=.ok u/\Inv X pins σ H1 s1/\Same H H1
noncomputable def PTD (X:Cx) (e:Expr) (f:DS->Res Bool):Prop :=
 ∀(pins:List (Addr×Obj)) (s:Shared) (σ:St) (G H:Hp) (δ:DS),Inv X pins σ H s->RepSt X.K G H σ δ->f δ≠.stuck ->
  wpAny (model X.prog X.w) X.A (isTrue e X.env (eval e X.env)) (l_ X pins σ H (f δ)) (XPost X pins σ H s.heap (f δ)) s
noncomputable def PWD (X:Cx) (e:Expr) (f:DS->Res Bool):Prop :=
 ∀(wh:Sem Value) (pins:List (Addr×Obj)) (s:Shared) (σ:St) (G H:Hp) (δ:DS),Inv X pins σ H s->RepSt X.K G H σ δ->f δ≠.stuck ->
  wpAny (model X.prog X.w) X.A (isTrue e X.env wh) (l_ X pins σ H (f δ)) (XPost X pins σ H s.heap (f δ)) s
theorem PWD.pt {X:Cx} {e:Expr} {f:DS->Res Bool} (h:PWD X e f):PTD X e f:=h _
section
variable {X:Cx} {pins:List (Addr×Obj)} {s:Shared} {σ:St} {G H:Hp} {δ:DS}
theorem Cr {t:Sem Bool} {f:DS->Res Bool} (h:∀pins,Inv X pins σ H s->wpAny (model X.prog X.w) X.A t (l_ X pins σ H (f δ)) (XPost X pins σ H s.heap (f δ)) s) (I:Inv X pins σ H s) {P:Bool->Shared->Prop} {E:Value->Shared->Prop}
  (k:∀d s1 H1,f δ=.ok d->Inv X pins σ H1 s1->Same H H1->Back H s.heap s1.heap->P d s1) (kx:∀e s1,XPost X pins σ H s.heap (f δ) e s1->E e s1):wpAny (model X.prog X.w) X.A t P E s:=by
 refine wpAny_mono (h (pins ++ gj X H s.heap) I.all) (fun d s1 ⟨H1,q1,q2,q3⟩=>k d s1 H1 q1 q2.unpinned q3 (I.backTo q2)) fun e s1 ⟨x,a,C,H1,q1,q2,q3,q4,q5,q6⟩=>kx e s1 ⟨x,a,C,H1,q1,q2,q3.unpinned,q4,q5,q6⟩
theorem PTD.use {e:Expr} {f:DS->Res Bool} (h:PTD X e f) (I:Inv X pins σ H s) (R:RepSt X.K G H σ δ) (hs:f δ≠.stuck) {P:Bool->Shared->Prop} {E:Value->Shared->Prop}
  (k:∀d s1 H1,f δ=.ok d->Inv X pins σ H1 s1->Same H H1->Back H s.heap s1.heap->P d s1) (kx:∀e s1,XPost X pins σ H s.heap (f δ) e s1->E e s1):wpAny (model X.prog X.w) X.A (isTrue e X.env (eval e X.env)) P E s :=
 Cr (f:=f) (δ:=δ) (fun pins I=>h pins s σ G H δ I R hs) I k kx
theorem PWD.use {e:Expr} {f:DS->Res Bool} (h:PWD X e f) (wh:Sem Value) (I:Inv X pins σ H s) (R:RepSt X.K G H σ δ) (hs:f δ≠.stuck) {P:Bool->Shared->Prop} {E:Value->Shared->Prop}
  (k:∀d s1 H1,f δ=.ok d->Inv X pins σ H1 s1->Same H H1->Back H s.heap s1.heap->P d s1) (kx:∀e s1,XPost X pins σ H s.heap (f δ) e s1->E e s1):wpAny (model X.prog X.w) X.A (isTrue e X.env wh) P E s :=
 Cr (f:=f) (δ:=δ) (fun pins I=>h wh pins s σ G H δ I R hs) I k kx
end
noncomputable def cU:D->Res Bool
 | .non=>.ok false
 | .bl b=>.ok b
 | .int i=>.ok (i != 0)
 | .str x=>if x.length<=sizeLine then .ok ((x.length:Int) != 0) else .stuck
 | .tup ds=>.ok (!ds.isEmpty)
 | .lst ds=>.ok (!ds.isEmpty)
 | _=>.stuck
noncomputable def aK:D->Res Bool
 | .bl b=>.ok b
 | _=>.stuck
theorem Cu {d:D} (h:aK d≠.stuck):∃b,d=.bl b:=by
 cases d with
 | bl b=>exact ⟨b,rfl⟩
 | _=>exact (h rfl).elim
theorem dY {α β:Type} {r:Res α} {f:α->Res β} (h:r.bind f≠.stuck):r≠.stuck:=fun q=>h (by rw [q]; rfl)
theorem fY {α β:Type} {r:Res α} {f:α->Res β} {a:α} (h:r.bind f≠.stuck) (e:r=.ok a):f a≠.stuck:=fun q=>h (by rw [e,Res.bind_ok,q])
theorem fL {α β:Type} {r:Res α} {f:α->Res β} {x:Exn} (e:r=.err x):r.bind f=.err x:=by rw [e]; rfl
section
variable {X:Cx} {a b:Expr} {rest:List Expr} {fa:DS->Res D} {ta tb:DS->Res Bool} {pos:Pos}
theorem dU {op:CmpOp} {fb:DS->Res D} {g:D->D->Res D} (ho:OpD X (compareOp op) g) (hg:∀x y,aM (g x y)) (ha:PD X a fa) (hb:PD X b fb) (hm:behindInMarks op b=false):PTD X (.Compare a [op] [b] pos) (fun δ=>(two fa fb g δ).bind aK):=by
 intro pins s σ G H δ I R hs
 try dsimp only at hs ⊢
 refine wpAny_isTrue_Compare1 (eX (hM' ho hg ha hb I R (dY hs) (fun _ _ q=>q.same fun x z=>fL z)) fun v s1 h1=>eX h1 fun u s2 h2=>eX h2 fun c s3 ⟨d,x,H1,q1,I1,r1,e1,p1⟩=>?_) hm;obtain ⟨k,rfl⟩:=Cu (fY hs q1);rw [Rep] at p1;subst p1
 cases r1
 exact wpAny_truthy_bool ⟨H1,by rw [q1]; rfl,I1,e1⟩
theorem vI (ha:PD X a fa) (he:∀whole,isTrue a X.env whole=(do let v <- whole; standAt a.pos; holding [v] (truthy v)):=by intro _; rfl):PTD X a (fun δ=>(fa δ).bind cU):=by
 intro pins s σ G H δ I R hs
 try dsimp only at hs ⊢
 refine isTrue_plain (ha.use I R (dY hs) (fun d u s1 v H1 q I1 r1 e1 b1 p1=>?_) fun e s1 q=>q.same fun x z=>fL z) (he _);have hd:=fY hs q;refine wpAny_mono (Lg (X:=X.wish fun _ _=>False) pins s1 σ H1 v u (fun k H2=>cU d=.ok k/\H2=H1) (I1.wish _) r1 ?_) (fun k s2 ⟨H2,I2,q2,e2⟩=>⟨H2,by rw [q,Res.bind_ok]; exact q2,I2.unwish,by rw [e2]; exact e1⟩) fun _ _ z=>z.elim
 cases d with
 | non=>rw [Rep] at p1; subst p1; exact ⟨false,rfl,rfl,rfl⟩
 | bl b=>rw [Rep] at p1; subst p1; exact ⟨b,rfl,rfl,rfl⟩
 | int i=>rw [Rep] at p1; subst p1; exact ⟨_,rfl,rfl,rfl⟩
 | str x =>
  rw [Rep] at p1; subst p1
  by_cases hz:x.length<=sizeLine
  ·exact ⟨_,⟨hz,rfl⟩,by simp only [cU,if_pos hz],rfl⟩
  ·simp only [cU,if_neg hz] at hd; exact (hd rfl).elim
 | tup ds =>
  rw [Rep] at p1;obtain ⟨b,xs,rfl,w1,w2⟩:=p1;exact ⟨!ds.isEmpty,.inr (.inl ⟨xs,w1,by rw [w2.isEmpty]⟩),rfl,rfl⟩
 | lst ds =>
  rw [Rep] at p1;obtain ⟨b,xs,rfl,w1,w2⟩:=p1;exact ⟨!ds.isEmpty,.inl ⟨xs,w1,by rw [w2.isEmpty]⟩,rfl,rfl⟩
 | exc c=>exact (hd rfl).elim
 | excf c f d=>exact (hd rfl).elim
 | dct=>exact (hd rfl).elim
theorem Cw (ha:PTD X a ta):PTD X (.UnaryOp .Not a pos) (fun δ=>(ta δ).bind fun c=>.ok (!c)):=by
 intro pins s σ G H δ I R hs
 try dsimp only at hs ⊢
 exact isTrue_not (ha.use I R (dY hs) (fun d s1 H1 q I1 e1 b1=>⟨H1,by rw [q]; rfl,I1,e1⟩) fun e s1 q=>q.same fun x z=>fL z)
noncomputable def nQ (ta tb:DS->Res Bool):DS->Res Bool:=fun δ=>(ta δ).bind fun c=>if c=true then tb δ else .ok false
noncomputable def uQ (ta tb:DS->Res Bool):DS->Res Bool:=fun δ=>(ta δ).bind fun c=>if c=true then .ok true else tb δ
theorem Mu (ha:PTD X a ta):PWD X (.BoolOp .And [a] pos) ta:=by
 intro wh pins s σ G H δ I R hs
 try dsimp only at hs ⊢
 refine isTrue_and (ha.use I R hs (fun c s1 H1 q I1 e1 b1=>?_) fun e s1 q=>q)
 cases c with
 | true=>exact isTrue_and_nil ⟨H1,q,I1,e1⟩
 | false=>exact ⟨H1,q,I1,e1⟩
theorem Gw (ha:PTD X a ta):PWD X (.BoolOp .Or [a] pos) ta:=by
 intro wh pins s σ G H δ I R hs
 try dsimp only at hs ⊢
 refine isTrue_or (ha.use I R hs (fun c s1 H1 q I1 e1 b1=>?_) fun e s1 q=>q)
 cases c with
 | false=>exact isTrue_or_nil ⟨H1,q,I1,e1⟩
 | true=>exact ⟨H1,q,I1,e1⟩
theorem Mv (ha:PTD X a ta) (hb:PWD X (.BoolOp .And (b :: rest) pos) tb):PWD X (.BoolOp .And (a :: b :: rest) pos) (nQ ta tb):=by
 intro wh pins s σ G H δ I R hs
 try dsimp only at hs ⊢
 have hs':(ta δ).bind (fun c=>if c=true then tb δ else .ok false)≠.stuck:=hs
 refine isTrue_and (ha.use I R (dY hs') (fun c s1 H1 q I1 e1 b1=>?_) fun e s1 q=>q.same fun x z=>fL z);have hc:=fY hs' q;have ev:nQ ta tb δ=if c=true then tb δ else .ok false:=by unfold nQ; rw [q]; rfl
 cases c with
 | false=>exact ⟨H1,ev,I1,e1⟩
 | true =>
  rw [if_pos rfl] at ev hc;exact hb.use wh I1 (R.mono e1) hc (fun d s2 H2 q2 I2 e2 b2=>⟨H2,ev.trans q2,I2,e1.trans e2⟩) fun e s2 q2=>q2.back e1 b1 fun x z=>ev.trans z
theorem hQ' (ha:PTD X a ta) (hb:PWD X (.BoolOp .Or (b :: rest) pos) tb):PWD X (.BoolOp .Or (a :: b :: rest) pos) (uQ ta tb):=by
 intro wh pins s σ G H δ I R hs
 try dsimp only at hs ⊢
 have hs':(ta δ).bind (fun c=>if c=true then .ok true else tb δ)≠.stuck:=hs
 refine isTrue_or (ha.use I R (dY hs') (fun c s1 H1 q I1 e1 b1=>?_) fun e s1 q=>q.same fun x z=>fL z);have hc:=fY hs' q;have ev:uQ ta tb δ=if c=true then .ok true else tb δ:=by unfold uQ; rw [q]; rfl
 cases c with
 | true=>exact ⟨H1,ev,I1,e1⟩
 | false =>
  rw [if_neg Bool.false_ne_true] at ev hc;exact hb.use wh I1 (R.mono e1) hc (fun d s2 H2 q2 I2 e2 b2=>⟨H2,ev.trans q2,I2,e1.trans e2⟩) fun e s2 q2=>q2.back e1 b1 fun x z=>ev.trans z
noncomputable def sH (fa fb:DS->Res D):DS->Res D:=fun δ=>(fa δ).bind fun x=>(aK x).bind fun c=>if c=true then fb δ else .ok (.bl false)
noncomputable def uR (fa:DS->Res D):DS->Res D:=fun δ=>(fa δ).bind fun x=>(aK x).bind fun c=>.ok (.bl (!c))
theorem Mw {op} (h:PD X a fa):PD X (.BoolOp op [a] pos) fa:=fun pins s σ G H δ I R hs=>BoolOp_one (h pins s σ G H δ I R hs)
theorem ne' {fb:DS->Res D} (ha:PD X a fa) (hb:PD X (.BoolOp .And (b :: rest) pos) fb):PD X (.BoolOp .And (a :: b :: rest) pos) (sH fa fb):=by
 intro pins s σ G H δ I R hs
 try dsimp only at hs ⊢
 have hs':(fa δ).bind (fun x=>(aK x).bind fun c=>if c=true then fb δ else .ok (.bl false))≠.stuck:=hs
 refine BoolOp_and (ha.use I R (dY hs') (fun d u s1 v H1 q I1 r1 e1 b1 p1=>?_) fun e s1 q=>q.same fun x z=>fL z);have h2:=fY hs' q;obtain ⟨k,rfl⟩:=Cu (dY h2);rw [Rep] at p1;subst p1
 cases r1
 have ev:sH fa fb δ=if k=true then fb δ else .ok (.bl false):=by unfold sH; rw [q]; rfl
 refine wpAny_truthy_bool ?_
 cases k with
 | false=>exact ⟨_,.bl false,H1,ev,I1,rfl,e1,by rw [Rep]⟩
 | true =>
  rw [if_pos rfl] at ev;exact hb.use I1 (R.mono e1) (fun z=>hs (ev.trans z)) (fun d2 u2 s2 v2 H2 q2 I2 r2 e2 b2 p2=>⟨d2,v2,H2,ev.trans q2,I2,r2,e1.trans e2,p2⟩) fun e s2 q2=>q2.back e1 b1 fun x z=>ev.trans z
theorem Mx (ha:PD X a fa):PD X (.UnaryOp .Not a pos) (uR fa):=by
 intro pins s σ G H δ I R hs
 try dsimp only at hs ⊢
 have hs':(fa δ).bind (fun x=>(aK x).bind fun c=>Res.ok (D.bl (!c)))≠.stuck:=hs;refine UnaryOp_ (ha.use I R (dY hs') (fun d u s1 v H1 q I1 r1 e1 b1 p1=>?_) fun e s1 q=>q.same fun x z=>fL z);have h2:=fY hs' q;obtain ⟨k,rfl⟩:=Cu (dY h2);rw [Rep] at p1;subst p1
 cases r1
 exact not_of (wpAny_truthy_bool ⟨_,.bl (!k),H1,by unfold uR; rw [q]; rfl,I1,rfl,e1,by rw [Rep]⟩)
noncomputable def vJ (tc:DS->Res Bool) (fa fb:DS->Res D):DS->Res D:=fun δ=>(tc δ).bind fun c=>if c=true then fa δ else fb δ
theorem Gx {c:Expr} {tc:DS->Res Bool} {fb:DS->Res D} (hc:PTD X c tc) (ha:PD X a fa) (hb:PD X b fb):PD X (.IfExp c a b pos) (vJ tc fa fb):=by
 intro pins s σ G H δ I R hs
 try dsimp only at hs ⊢
 have hs':(tc δ).bind (fun c=>if c=true then fa δ else fb δ)≠.stuck:=hs
 refine wpAny_IfExp (hc.use I R (dY hs') (fun k s1 H1 q I1 e1 b1=>?_) fun e s1 q=>q.same fun x z=>fL z);have ev:vJ tc fa fb δ=if k=true then fa δ else fb δ:=by unfold vJ; rw [q]; rfl
 cases k with
 | true =>
  rw [if_pos rfl] at ev;exact ha.use I1 (R.mono e1) (fun z=>hs (ev.trans z)) (fun d2 u2 s2 v2 H2 q2 I2 r2 e2 b2 p2=>⟨d2,v2,H2,ev.trans q2,I2,r2,e1.trans e2,p2⟩) fun e s2 q2=>q2.back e1 b1 fun x z=>ev.trans z
 | false =>
  rw [if_neg Bool.false_ne_true] at ev;exact hb.use I1 (R.mono e1) (fun z=>hs (ev.trans z)) (fun d2 u2 s2 v2 H2 q2 I2 r2 e2 b2 p2=>⟨d2,v2,H2,ev.trans q2,I2,r2,e1.trans e2,p2⟩) fun e s2 q2=>q2.back e1 b1 fun x z=>ev.trans z
theorem My {op:UnaryOp} {g:D->Res D} (ho:∀(E:Value->Shared->Prop) (pins:List (Addr×Obj)) (s:Shared) (σ:St) (H:Hp) (x:V) (v:Value) (d r:D),Inv X pins σ H s->RelV x v->Rep X.K H d x->g d=.ok r->wpAny (model X.prog X.w) X.A (unaryOp op v) (EPost X pins σ H (.ok r)) E s)
  (hg:∀x,aM (g x)) (ha:PD X a fa):PD X (.UnaryOp op a pos) (fun δ=>(fa δ).bind g):=by
 intro pins s σ G H δ I R hs
 try dsimp only at hs ⊢
 refine UnaryOp_ (ha.use I R (dY hs) (fun d u s1 v H1 q I1 r1 e1 b1 p1=>?_) fun e s1 q=>q.same fun x z=>fL z);have h2:=fY hs q
 cases qg:g d with
 | stuck=>exact (h2 qg).elim
 | err z=>exact (hg d z qg).elim
 | ok r=>exact eX (ho _ pins s1 σ H1 v u d r I1 r1 p1 qg) fun w s2 p=>p.from e1 (by rw [q,Res.bind_ok,qg])
end
end DL
namespace DL
open PySem PySem.Spec PyProof.Rows L2
noncomputable def aD (i:Int):Nat:=Builtin.Int.intBits i
noncomputable def aN:D->D->Res D
 | .int i,.int j=>.ok (.int (i + j))
 | .str x,.str y=>if x.length + y.length<=sizeLine then .ok (.str (x ++ y)) else .stuck
 | .tup xs,.tup ys=>if xs.length + ys.length<=sizeLine then .ok (.tup (xs ++ ys)) else .stuck
 | .lst xs,.lst ys=>if xs.length + ys.length<=sizeLine then .ok (.lst (xs ++ ys)) else .stuck
 | _,_=>.stuck
noncomputable def fM:D->D->Res D
 | .int i,.int j=>.ok (.int (i - j))
 | _,_=>.stuck
noncomputable def di:D->D->Res D
 | .int i,.int j=>if (aD i<=2 ^ 20/\aD j<=2 ^ 20)\/aD i<=64\/aD j<=64 then .ok (.int (i * j)) else .stuck
 | _,_=>.stuck
noncomputable def aO:D->D->Res D
 | .int i,.int j=>if j≠0/\Builtin.divisionGoesByPylong i j=false then .ok (.int (Int.fdiv i j)) else .stuck
 | _,_=>.stuck
noncomputable def bH:D->D->Res D
 | .int i,.int j=>if j≠0 then .ok (.int (Int.fmod i j)) else .stuck
 | _,_=>.stuck
noncomputable def kY:D->D->Res D
 | .int i,.int j=>if 0<=j/\j<=1000000/\i.natAbs < 2 ^ 64 then .ok (.int (i ^ j.toNat)) else .stuck
 | _,_=>.stuck
noncomputable def iD:D->D->Res D
 | .int i,.int j=>if 0<=j/\j<=1000000/\i.natAbs < 2 ^ 64 then .ok (.int (i * 2 ^ j.toNat)) else .stuck
 | _,_=>.stuck
noncomputable def dZ (p:Int->Int->Bool):D->D->Res D
 | .int i,.int j=>.ok (.bl (p i j))
 | _,_=>.stuck
theorem kJ {α:Type} {c:Prop} [Decidable c] {r r':Res α} (h:aM r) (h':aM r'):aM (if c then r else r'):=by
 intro x; by_cases hc:c
 ·rw [if_pos hc]; exact h x
 ·rw [if_neg hc]; exact h' x
theorem dD {α:Type} {a:α}:aM (Res.ok a):=fun _ h=>nomatch h
theorem cZ {α:Type}:aM (Res.stuck:Res α):=fun _ h=>nomatch h
theorem eZ (x y:D):aM (aN x y):=by cases x <;> cases y <;> first | exact cZ | exact dD | exact kJ dD cZ
theorem vK (x y:D):aM (fM x y):=by cases x <;> cases y <;> first | exact cZ | exact dD | exact kJ dD cZ
theorem Mz (x y:D):aM (di x y):=by cases x <;> cases y <;> first | exact cZ | exact dD | exact kJ dD cZ
theorem iz (x y:D):aM (aO x y):=by cases x <;> cases y <;> first | exact cZ | exact dD | exact kJ dD cZ
theorem iG (x y:D):aM (bH x y):=by cases x <;> cases y <;> first | exact cZ | exact dD | exact kJ dD cZ
theorem ks' (x y:D):aM (kY x y):=by cases x <;> cases y <;> first | exact cZ | exact dD | exact kJ dD cZ
theorem Gy (x y:D):aM (iD x y):=by cases x <;> cases y <;> first | exact cZ | exact dD | exact kJ dD cZ
theorem sI (p:Int->Int->Bool) (x y:D):aM (dZ p x y):=by cases x <;> cases y <;> first | exact cZ | exact dD | exact kJ dD cZ
section
variable {X:Cx} {a b:Expr} {fa fb:DS->Res D} {pos:Pos}
theorem cC {K:Frag} {H:Hp} {i:Int} {v:V} (h:Rep K H (.int i) v):v=.int i:=by rw [Rep] at h; exact h
theorem kZ {K:Frag} {H:Hp} {i:Str} {v:V} (h:Rep K H (.str i) v):v=.str i:=by rw [Rep] at h; exact h
theorem Cy {K:Frag} {H:Hp} {i:Bool} {v:V} (h:Rep K H (.bl i) v):v=.bl i:=by rw [Rep] at h; exact h
theorem d7 {K:Frag} {H:Hp} {ds:List D} {v:V} (h:Rep K H (.tup ds) v):∃a xs,v=.ref a/\SqT K H a xs/\Reps K H ds xs:=by rw [Rep] at h; exact h
theorem d_ {K:Frag} {H:Hp} {ds:List D} {v:V} (h:Rep K H (.lst ds) v):∃a xs,v=.ref a/\SqL K H a xs/\Reps K H ds xs:=by rw [Rep] at h; exact h
theorem gQ {K:Frag} {H:Hp} {i:Int}:Rep K H (.int i) (.int i):=by rw [Rep]
theorem Gz {K:Frag} {H:Hp} {i:Str}:Rep K H (.str i) (.str i):=by rw [Rep]
theorem uT {K:Frag} {H:Hp} {i:Bool}:Rep K H (.bl i) (.bl i):=by rw [Rep]
theorem GC {K:Frag} {H:Hp}:Rep K H .non .non:=by rw [Rep]
theorem mj {K:Frag} {H:Hp} {a:Addr} {xs:List V} {ds:List D} (h:SqT K H a xs) (r:Reps K H ds xs):Rep K H (.tup ds) (.ref a):=by rw [Rep]; exact ⟨a,xs,rfl,h,r⟩
theorem rG {K:Frag} {H:Hp} {a:Addr} {xs:List V} {ds:List D} (h:SqL K H a xs) (r:Reps K H ds xs):Rep K H (.lst ds) (.ref a):=by rw [Rep]; exact ⟨a,xs,rfl,h,r⟩
theorem gf {H:Hp} {p:Addr} (h:H p=none) (o:HO):Same H (upd H p o):=fun b u q=>by rw [bT (nM q h)]; exact q
theorem ln' {f:Value->Value->Sem Value} {C:Int->Int->Prop} [∀i j,Decidable (C i j)] {h:Int->Int->D} {k:Int->Int->V} {g:D->D->Res D} (ho:∀E,OpR (X.wish E) f (rI C k)) (hk:∀H i j,Rep X.K H (h i j) (k i j))
  (hg:∀x y d,g x y=.ok d->∃i j,x=.int i/\y=.int j/\C i j/\d=h i j):OpD X f g :=
 .of ho fun H x y a b d Q p1 p2 e q=>by
  obtain ⟨i,j,rfl,rfl,c,rfl⟩:=hg a b d e;exact ⟨i,j,cC p1,cC p2,c,q _ H (Same.refl H) (hk H i j)⟩
theorem GD {f:Value->Value->Sem Value} {h:Int->Int->D} {k:Int->Int->V} {g:D->D->Res D} (ho:∀E,OpR (X.wish E) f (um k)) (hk:∀H i j,Rep X.K H (h i j) (k i j))
  (hg:∀x y d,g x y=.ok d->∃i j,x=.int i/\y=.int j/\d=h i j):OpD X f g :=
 .of ho fun H x y a b d Q p1 p2 e q=>by
  obtain ⟨i,j,rfl,rfl,rfl⟩:=hg a b d e;exact ⟨i,j,cC p1,cC p2,q _ H (Same.refl H) (hk H i j)⟩
theorem vL:OpD X (binaryOp .Sub) fM:=GD (fun _=>K6) (fun _ _ _=>gQ) fun x y d e=>by
 cases x <;> cases y <;> first | (simp [fM] at e; done) | (simp only [fM,Res.ok.injEq] at e; exact ⟨_,_,rfl,rfl,e.symm⟩)
theorem GF {p:Int->Int->Bool} {op:CmpOp} (ho:∀E,OpR (X.wish E) (compareOp op) (um fun i j=>.bl (p i j))):OpD X (compareOp op) (dZ p):=GD ho (fun _ _ _=>uT) fun x y d e=>by
 cases x <;> cases y <;> first | (simp [dZ] at e; done) | (simp only [dZ,Res.ok.injEq] at e; exact ⟨_,_,rfl,rfl,e.symm⟩)
theorem vM:OpD X (compareOp .Lt) (dZ fun i j=>decide (i < j)):=GF fun _=>La
theorem lo':OpD X (compareOp .Gt) (dZ fun i j=>decide (j < i)):=GF fun _=>Lb
theorem MF:OpR X (binaryOp .Mult) (rI (fun i j=>(aD i<=2 ^ 20/\aD j<=2 ^ 20)\/aD i<=64\/aD j<=64) fun i j=>.int (i * j)):=wy fun _ _ _ _ _ _ _ hc q=>mul_int q (by
 rcases hc with hc | hc | hc
 ·exact PySem.IntMulOk.of_bits hc.1 hc.2
 ·exact PySem.IntMulOk.of_left hc
 ·exact PySem.IntMulOk.of_right hc)
theorem MJ:OpD X (binaryOp .Mult) di:=ln' (h:=fun i j=>.int (i * j)) (fun _=>MF) (fun _ _ _=>gQ) fun x y d e=>by
 cases x <;> cases y <;> first | (simp [di] at e; done) | skip
 rename_i i j;simp only [di] at e
 split at e
 ·rename_i c; cases e; exact ⟨_,_,rfl,rfl,c,rfl⟩
 ·cases e
theorem MK:OpR X (binaryOp .FloorDiv) (rI (fun i j=>j≠0/\Builtin.divisionGoesByPylong i j=false) fun i j=>.int (i.fdiv j)):=wy fun _ _ _ _ _ _ _ hc q=>floordiv_int hc.1 q (.inl hc.2)
theorem iB:OpD X (binaryOp .FloorDiv) aO:=ln' (h:=fun i j=>.int (i.fdiv j)) (fun _=>MK) (fun _ _ _=>gQ) fun x y d e=>by
 cases x <;> cases y <;> first | (simp [aO] at e; done) | skip
 rename_i i j;simp only [aO] at e
 split at e
 ·rename_i c; cases e; exact ⟨_,_,rfl,rfl,c,rfl⟩
 ·cases e
theorem iH:OpD X (binaryOp .Mod) bH:=ln' (h:=fun i j=>.int (i.fmod j)) (fun _=>K7) (fun _ _ _=>gQ) fun x y d e=>by
 cases x <;> cases y <;> first | (simp [bH] at e; done) | skip
 rename_i i j;simp only [bH] at e
 split at e
 ·rename_i c; cases e; exact ⟨_,_,rfl,rfl,c,rfl⟩
 ·cases e
theorem kw':OpD X (binaryOp .Pow) kY:=.of (fun _=>K8) fun H x y a b d Q p1 p2 e q=>by
 cases a <;> cases b <;> first | (simp [kY] at e; done) | skip
 rename_i i j;simp only [kY] at e
 split at e
 ·rename_i c; cases e; exact ⟨i,j,cC p1,cC p2,c,q _ H (Same.refl H) gQ⟩
 ·cases e
theorem GJ:OpD X (binaryOp .LShift) iD:=.of (fun _=>K9) fun H x y a b d Q p1 p2 e q=>by
 cases a <;> cases b <;> first | (simp [iD] at e; done) | skip
 rename_i i j;simp only [iD] at e
 split at e
 ·rename_i c; cases e; exact ⟨i,j,cC p1,cC p2,c,q _ H (Same.refl H) gQ⟩
 ·cases e
theorem MN (E:Value->Shared->Prop):OpR (X.wish E) (binaryOp .Add) (uo X.K):=Lz
noncomputable def ur (K:Frag):R2:=fun x y H Q=>∃a b ys,x=.ref a/\y=.ref b/\SqT K H a []/\SqT K H b ys/\Q (.ref b) H
theorem MP:OpR X (binaryOp .Add) (ur X.K):=by
 intro pins s σ H x y v u Q I rx ry h;obtain ⟨a,b,ys,rfl,rfl,h1,h2,q⟩:=h
 cases rx
 cases ry
 obtain ⟨its,r,ht,_⟩:=I.tuple h1;obtain ⟨its2,r2,ht2,_⟩:=I.tuple h2
 cases r
 obtain ⟨⟨cls,dd,data,sl⟩,ho,hc,n,hd⟩:=id ht;obtain ⟨⟨cls2,dd2,data2,sl2⟩,ho2,hc2,n2,hd2⟩:=id ht2;simp only at hc hd hc2 hd2;subst hc hd hc2 hd2;exact concat_meets ⟨_,ho,rfl⟩ ⟨_,ho2,rfl⟩ noFill_tuple_add seq_tuple_add PySem.F.slot_tuple_add PySem.F.entry_tuple_add (PySem.F.args_tuple_add_2 _ _) (tuple_addW0 a b _ its2.toArray n n2 dd dd2 sl sl2 rfl) ⟨ho,ho2,.ref b,H,I,rfl,q⟩
theorem MT (E:Value->Shared->Prop):OpR (X.wish E) (binaryOp .Add) (ur X.K):=MP
noncomputable def uv (K:Frag):R2:=fun x y H Q=>∃a b xs ys,x=.ref a/\y=.ref b/\SqL K H a xs/\SqL K H b ys/\xs.length + ys.length<=sizeLine/\∀p,H p=none->Q (.ref p) (upd H p (.lst (xs ++ ys)))
theorem M3:OpR X (binaryOp .Add) (uv X.K):=by
 intro pins s σ H x y v u Q I rx ry h;obtain ⟨a,b,xs,ys,rfl,rfl,h1,h2,hz,q⟩:=h
 cases rx
 cases ry
 obtain ⟨its,r,⟨⟨cls,dd,data,sl⟩,n,ho,hc,hdd,hd⟩,_⟩:=I.list h1;obtain ⟨its2,r2,⟨⟨cls2,dd2,data2,sl2⟩,n2,ho2,hc2,hdd2,hd2⟩,_⟩:=I.list h2;simp only at hc hd hc2 hd2;subst hc hd hc2 hd2;have l1:=r.length;have l2:=r2.length;refine concat_meets ⟨_,ho,rfl⟩ ⟨_,ho2,rfl⟩ noFill_list_add seq_list_add PySem.F.slot_list_add PySem.F.entry_list_add (PySem.F.args_list_add_2 _ _) (list_addW a b its.toArray its2.toArray n n2 dd dd2 sl sl2 (by simp only [size_toArray]; omega)) ⟨ho,ho2,?_⟩;have ea:its.toArray ++ its2.toArray=(its ++ its2).toArray:=by simp
 rw [ea];refine ⟨.ref s.heap.objs.size,_,I.laid (t':=s.toks) (o:=.lst (xs ++ ys)) (fun b ob q=>Heap.get?_push_of_some _ q) (Nat.le_refl _) ?_,rfl,q _ (I.hok.fresh (Nat.le_refl _))⟩;exact ⟨by rw [length_append]; omega,its ++ its2,0,r.append r2,Heap.get?_push_size _ rfl⟩
theorem M4 (E:Value->Shared->Prop):OpR (X.wish E) (binaryOp .Add) (uv X.K):=M3
theorem e_:OpD X (binaryOp .Add) aN:=.of (fun E=>op_add.or (op_add_str.or ((MN E).or ((M4 E).or (MT E))))) fun H x y a b d Q p1 p2 e q=>by
 cases a <;> cases b <;> first | (simp [aN] at e; done) | skip
 ·rename_i i j;simp only [aN,Res.ok.injEq] at e;subst e;exact .inl ⟨i,j,cC p1,cC p2,q _ H (Same.refl H) gQ⟩
 ·rename_i i j;simp only [aN] at e
  split at e
  ·rename_i c; cases e; exact .inr (.inl ⟨i,j,kZ p1,kZ p2,c,q _ H (Same.refl H) Gz⟩)
  ·cases e
 ·rename_i xs ys;simp only [aN] at e
  split at e
  ·rename_i c
   cases e
   obtain ⟨p,us,rfl,s1,t1⟩:=d7 p1;obtain ⟨p',ws,rfl,s2,t2⟩:=d7 p2
   by_cases hn:us=[]
   ·subst hn;have hx:xs=[]:=by
     have:=t1.length; exact eq_nil_of_length_eq_zero this.symm
    subst hx;exact .inr (.inr (.inr (.inr ⟨p,p',ws,rfl,rfl,s1,s2,q _ H (Same.refl H) (mj s2 t2)⟩)))
   refine .inr (.inr (.inl ⟨p,p',us,ws,rfl,rfl,s1,s2,hn,?_,fun z=>?_,fun _ z hz=>?_⟩))
   ·rw [t1.length,t2.length]; exact c
   ·have hy:ys=[]:=by
     have:=t2.length; rw [z] at this; exact eq_nil_of_length_eq_zero this.symm
    subst hy;exact q _ H (Same.refl H) (mj s1 (by simpa using t1))
   ·exact q _ _ (gf hz _) (mj (SqT.of dR) ((t1.append t2).mono (gf hz _)))
  ·cases e
 ·rename_i xs ys;simp only [aN] at e
  split at e
  ·rename_i c
   cases e
   obtain ⟨p,us,rfl,s1,t1⟩:=d_ p1;obtain ⟨p',ws,rfl,s2,t2⟩:=d_ p2;exact .inr (.inr (.inr (.inl ⟨p,p',us,ws,rfl,rfl,s1,s2,by rw [t1.length,t2.length]; exact c,fun z hz=>q _ _ (gf hz _) (rG (SqL.of dR) ((t1.append t2).mono (gf hz _)))⟩)))
  ·cases e
end
noncomputable def wO (X:Cx) (pins:List (Addr×Obj)) (σ:St) (H:Hp) (r:Res (List D)) (us:List Value) (s1:Shared):Prop:=∃ds vs H1,r=.ok ds/\Inv X pins σ H1 s1/\Vals vs us/\Same H H1/\Reps X.K H1 ds vs
noncomputable def PAD (X:Cx) (es:List Expr) (f:DS->Res (List D)):Prop :=
 ∀(pos:Pos) (pins:List (Addr×Obj)) (s:Shared) (σ:St) (G H:Hp) (δ:DS),Inv X pins σ H s->RepSt X.K G H σ δ->f δ≠.stuck ->
  wpAny (model X.prog X.w) X.A (spliced (backTo pos (starEach es X.env))) (wO X pins σ H (f δ)) (XPost X pins σ H s.heap (f δ)) s
noncomputable def ak (f:DS->Res D) (fs:DS->Res (List D)):DS->Res (List D):=fun δ=>(f δ).bind fun d=>(fs δ).bind fun ds=>.ok (d :: ds)
section
variable {X:Cx} {e:Expr} {es:List Expr} {f:DS->Res D} {fs:DS->Res (List D)} {pos:Pos}
theorem PAD.use {pins:List (Addr×Obj)} {s:Shared} {σ:St} {G H:Hp} {δ:DS} (h:PAD X es fs) (I:Inv X pins σ H s) (R:RepSt X.K G H σ δ) (hs:fs δ≠.stuck) {P:List Value->Shared->Prop} {E:Value->Shared->Prop}
  (k:∀ds us s1 vs H1,fs δ=.ok ds->Inv X pins σ H1 s1->Vals vs us->Same H H1->Back H s.heap s1.heap->Reps X.K H1 ds vs->P us s1) (kx:∀e s1,XPost X pins σ H s.heap (fs δ) e s1->E e s1) :
  wpAny (model X.prog X.w) X.A (spliced (backTo pos (starEach es X.env))) P E s:=by
 refine wpAny_mono (h pos (pins ++ gj X H s.heap) s σ G H δ I.all R hs) (fun us s1 ⟨ds,vs,H1,q1,q2,q3,q4,q5⟩=>k ds us s1 vs H1 q1 q2.unpinned q3 q4 (I.backTo q2) q5) fun e s1 ⟨x,a,C,H1,q1,q2,q3,q4,q5,q6⟩=>kx e s1 ⟨x,a,C,H1,q1,q2,q3.unpinned,q4,q5,q6⟩
theorem aF:PAD X [] (fun _=>.ok []):=fun pos pins s σ G H δ I R _=>Calls.spliced_nil ⟨[],[],H,rfl,I,.nil,Same.refl H,Reps.nil⟩
theorem az (ha:PD X e f) (hr:PAD X es fs) (hs:starEach (e :: es) X.env=(false,eval e X.env) :: starEach es X.env:=by rfl):PAD X (e :: es) (ak f fs):=by
 intro pos pins s σ G H δ I R hn;have hn':(f δ).bind (fun d=>(fs δ).bind fun ds=>.ok (d :: ds))≠.stuck:=hn;rw [hs];show wpAny _ _ (spliced ((false,eval e X.env) :: backTo pos (starEach es X.env))) _ _ s;refine Calls.spliced_cons (ha.use I R (dY hn') (fun d u s1 v H1 q I1 r1 e1 b1 p1=>?_) fun e s1 q=>q.same fun x z=>fL z);have hn2:=fY hn' q;refine hr.use I1 (R.mono e1) (dY hn2) (fun ds us s2 vs H2 q2 I2 r2 e2 b2 p2=>⟨d :: ds,v :: vs,H2,by unfold ak; rw [q,Res.bind_ok,q2]; rfl,I2,.cons r1 r2,e1.trans e2,Reps.cons (p1.mono e2) p2⟩) fun e s2 q2=>q2.back e1 b1 fun x z=>by unfold ak; rw [q,Res.bind_ok,z]; rfl
noncomputable def jN (r:Res (List D)):Res D:=r.bind fun ds=>if ds.length<=sizeLine then .ok (.tup ds) else .stuck
noncomputable def fj (r:Res (List D)):Res D:=r.bind fun ds=>if ds.length<=sizeLine then .ok (.lst ds) else .stuck
theorem fO {x1} (h:PAD X es fs):PD X (.Tuple es x1 pos) (fun δ=>jN (fs δ)):=by
 intro pins s σ G H δ I R hs
 try dsimp only at hs ⊢
 have hs':(fs δ).bind (fun ds=>if ds.length<=sizeLine then Res.ok (D.tup ds) else .stuck)≠.stuck:=hs
 refine wpAny_Tuple_spliced (h.use I R (dY hs') (fun ds us s1 vs H1 q I1 r1 e1 b1 p1=>?_) fun e s1 q=>q.same fun x z=>fL z);have h2:=fY hs' q;have hz:ds.length<=sizeLine:=by
  by_cases c:ds.length<=sizeLine
  ·exact c
  ·rw [if_neg c] at h2; exact (h2 rfl).elim
 refine ⟨by rw [<- r1.length,p1.length]; exact hz,?_⟩;have hf:H1 s1.heap.objs.size=none:=I1.hok.fresh (Nat.le_refl _);refine ⟨.tup ds,.ref s1.heap.objs.size,upd H1 s1.heap.objs.size (.tup vs),by unfold jN; rw [q,Res.bind_ok,if_pos hz],I1.laid (t':=s1.toks) (fun b u e=>Heap.get?_push_of_some _ e) (Nat.le_refl _) ?_,rfl,e1.trans (gf hf _),mj (SqT.of dR) (p1.mono (gf hf _))⟩;exact ⟨by rw [p1.length]; exact hz,us,r1,⟨_,Heap.get?_push_size _ rfl,rfl,_,rfl⟩⟩
theorem uw (h:PAD X es fs):PD X (.List es pos) (fun δ=>fj (fs δ)):=by
 intro pins s σ G H δ I R hs
 try dsimp only at hs ⊢
 have hs':(fs δ).bind (fun ds=>if ds.length<=sizeLine then Res.ok (D.lst ds) else .stuck)≠.stuck:=hs
 refine wpAny_List_spliced (h.use I R (dY hs') (fun ds us s1 vs H1 q I1 r1 e1 b1 p1=>?_) fun e s1 q=>q.same fun x z=>fL z);have h2:=fY hs' q;have hz:ds.length<=sizeLine:=by
  by_cases c:ds.length<=sizeLine
  ·exact c
  ·rw [if_neg c] at h2; exact (h2 rfl).elim
 refine ⟨by rw [<- r1.length,p1.length]; exact hz,?_⟩;have hf:H1 s1.heap.objs.size=none:=I1.hok.fresh (Nat.le_refl _);refine ⟨.lst ds,.ref s1.heap.objs.size,upd H1 s1.heap.objs.size (.lst vs),by unfold fj; rw [q,Res.bind_ok,if_pos hz],I1.laid (t':=s1.toks) (fun b u e=>Heap.get?_push_of_some _ e) (Nat.le_refl _) ?_,rfl,e1.trans (gf hf _),rG (SqL.of dR) (p1.mono (gf hf _))⟩;exact ⟨by rw [p1.length]; exact hz,us,0,r1,Heap.get?_push_size _ rfl⟩
noncomputable def bJ:D->D->Res D
 | .tup ds,.int i=>match iY ds i with | some d=>.ok d | none=>.stuck
 | .lst ds,.int i=>match iY ds i with | some d=>.ok d | none=>.stuck
 | .str z,.int i=>if z.length<=sizeLine then (match iY z.cps.toList i with | some c=>.ok (.str ⟨#[c]⟩) | none=>.stuck) else .stuck
 | _,_=>.stuck
theorem M5 (x y:D):aM (bJ x y):=by
 cases x <;> cases y <;> first | exact cZ | skip
 ·simp only [bJ]; split <;> first | (split <;> first | exact dD | exact cZ) | exact cZ
 ·simp only [bJ]; split <;> first | exact dD | exact cZ
 ·simp only [bJ]; split <;> first | exact dD | exact cZ
theorem hR' {K:Frag} {H:Hp} {ds:List D} {vs:List V} {i:Int} {d:D} (r:Reps K H ds vs) (e:iY ds i=some d):∃v,iY vs i=some v/\Rep K H d v:=by
 unfold iY at e ⊢;rw [r.length]
 cases q:jz ds.length i with
 | none=>rw [q] at e; cases e
 | some j =>
  rw [q] at e;exact r.get e
theorem bZ {o i:Expr} {fo fi:DS->Res D} (ho:PD X o fo) (hi:PD X i fi) (hp:sy i:=by intro _ _; rfl):PD X (.Subscript o i pos) (two fo fi bJ):=by
 intro pins s σ G H δ I R hs
 try dsimp only at hs ⊢
 refine Subscript_ (hL' ho hi I R hs (fun x y v u s2 vx vy H2 q I2 r1 r2 e2 p1 p2=>?_) fun _ _ q=>q);have hd:bJ x y≠.stuck:=fun z=>hs (q.trans z)
 cases qg:bJ x y with
 | stuck=>exact (hd qg).elim
 | err z=>exact (M5 x y z qg).elim
 | ok d =>
  refine wpAny_mono (LQ (X:=X.wish fun _ _=>False) o i pins s2 σ H2 vx vy v u (fun z H'=>H'=H2/\Rep X.K H2 d z) (I2.wish _) r1 r2 ?_ (hp _ _)) (fun w s3 q3=>?_) fun _ _ z=>z.elim
  rotate_left
  ·obtain ⟨z,H3,I3,r3,e3,p3⟩:=q3;subst e3;exact ⟨d,z,H3,q.trans qg,I3.unwish,r3,e2,p3⟩
  cases x with
  | tup ds =>
   cases y with
   | int k =>
    simp only [bJ] at qg
    split at qg
    ·rename_i d' e
     cases qg
     obtain ⟨b,xs,rfl,w1,w2⟩:=d7 p1;obtain ⟨z,z1,z2⟩:=hR' w2 e;exact .inr (.inl ⟨b,xs,k,z,rfl,cC p2,w1,z1,rfl,z2⟩)
    ·cases qg
   | _=>cases qg
  | lst ds =>
   cases y with
   | int k =>
    simp only [bJ] at qg
    split at qg
    ·rename_i d' e
     cases qg
     obtain ⟨b,xs,rfl,w1,w2⟩:=d_ p1;obtain ⟨z,z1,z2⟩:=hR' w2 e;exact .inl ⟨b,xs,k,z,rfl,cC p2,w1,z1,rfl,z2⟩
    ·cases qg
   | _=>cases qg
  | str z =>
   cases y with
   | int k =>
    simp only [bJ] at qg
    split at qg
    ·rename_i hz
     split at qg
     ·rename_i c e
      cases qg
      exact .inr (.inr ⟨z,k,c,kZ p1,cC p2,hz,e,rfl,Gz⟩)
     ·cases qg
    ·cases qg
   | _=>cases qg
  | _=>cases qg
end
noncomputable def CallD (X:Cx) (f:Value) (g:List D->Res D):Prop :=
 ∀(E:Value->Shared->Prop) (pins:List (Addr×Obj)) (s:Shared) (σ:St) (H:Hp) (xs:List V) (us:List Value) (ds:List D) (d:D),Inv X pins σ H s->Vals xs us->Reps X.K H ds xs->g ds=.ok d ->
  wpAny (model X.prog X.w) X.A (call f us) (EPost X pins σ H (.ok d)) E s
theorem CallD.of {X:Cx} {f:Value} {r:List V->Hp->VK->Prop} {g:List D->Res D} (hc:∀E,CallR (X.wish E) f r) (h:∀(H:Hp) (xs:List V) (ds:List D) (d:D) (Q:VK),Reps X.K H ds xs->g ds=.ok d->(∀z H',Same H H'->Rep X.K H' d z->Q z H')->r xs H Q):CallD X f g :=
 fun E pins s σ H xs us ds d I r1 p e=>eX (hc E pins s σ H xs us (fun z H'=>Same H H'/\Rep X.K H' d z) (I.wish _) r1 (h H xs ds d _ p e fun z H' a b=>⟨a,b⟩)) fun w s1 ⟨z,H1,I1,r3,e1,p3⟩=>⟨d,z,H1,rfl,I1.unwish,r3,e1,p3⟩
section
variable {X:Cx} {e:Expr} {es:List Expr} {fs:DS->Res (List D)} {x:Str} {p pos:Pos} {id T:String} {g:List D->Res D}
theorem GK {pins:List (Addr×Obj)} {s:Shared} {σ:St} {G H:Hp} {δ:DS} {f:Value} (hc:CallD X f g) (hg:∀ds,aM (g ds)) (ha:PAD X es fs) (I:Inv X pins σ H s) (R:RepSt X.K G H σ δ) (hs:(fs δ).bind g≠.stuck) :
  wpAny (model X.prog X.w) X.A (spliced (backTo pos (starEach es X.env))) (fun us s1=>wpAny (model X.prog X.w) X.A (call f us) (EPost X pins σ H ((fs δ).bind g)) (XPost X pins σ H s.heap ((fs δ).bind g)) s1) (XPost X pins σ H s.heap ((fs δ).bind g)) s:=by
 refine ha.use I R (dY hs) (fun ds us s1 vs H1 q I1 r1 e1 b1 p1=>?_) fun e s1 q=>q.same fun x z=>fL z;have h2:=fY hs q
 cases qg:g ds with
 | stuck=>exact (h2 qg).elim
 | err z=>exact (hg ds z qg).elim
 | ok d=>exact eX (hc _ pins s1 σ H1 vs us ds d I1 r1 p1 qg) fun w s2 p=>p.from e1 (by rw [q,Res.bind_ok,qg])
theorem gU (hc:CallD X (.builtin id) g) (hne:∀ds,aM (g ds)) (hg:Gl X x) (hm:X.mg x=none) (hv:bootBuiltins x=some (.builtin id)) (ha:PAD X (e :: es) fs) (hn:x≠"__name__":=by decide) (hdb:(x == ("__debug__" : Str))=false:=by decide)
  (he:starEach (e :: es) X.env=(false,eval e X.env) :: starEach es X.env:=by rfl) (hpl:(backTo pos (starEach es X.env)).any (·.1)=false:=by rfl):PD X (.Call (.Name x p) (e :: es) [] pos) (fun δ=>(fs δ).bind g):=by
 intro pins s σ G H δ I R hs
 try dsimp only at hs ⊢
 refine wpAny_Call_Name_kw (ue I hg hm hv ?_ hn hdb);exact PyProof.Rows.callWith_builtin1 (GK hc hne ha I R hs) he hpl
theorem rH (hc:CallD X (.type T) g) (hne:∀ds,aM (g ds)) (hg:Gl X x) (hm:X.mg x=none) (hv:bootBuiltins x=some (.type T)) (ha:PAD X (e :: es) fs) (hn:x≠"__name__":=by decide) (hdb:(x == ("__debug__" : Str))=false:=by decide)
  (he:starEach (e :: es) X.env=(false,eval e X.env) :: starEach es X.env:=by rfl) (hpl:(backTo pos (starEach es X.env)).any (·.1)=false:=by rfl):PD X (.Call (.Name x p) (e :: es) [] pos) (fun δ=>(fs δ).bind g):=by
 intro pins s σ G H δ I R hs
 try dsimp only at hs ⊢
 refine wpAny_Call_Name_kw (ue I hg hm hv ?_ hn hdb);exact PyProof.Rows.callWith_type1 (GK hc hne ha I R hs) he hpl
end
noncomputable def jO:List D->Res D
 | [.int i]=>.ok (.int (if i < 0 then -i else i))
 | _=>.stuck
theorem hS' {X:Cx}:CallD X (.builtin "abs") jO:=.of (fun _=>Lh) fun H xs ds d Q r e q=>by
 unfold jO at e
 split at e
 ·rename_i i
  cases e
  obtain ⟨v,vs,rfl,p1,t⟩:=r.cons_of
  cases t.nil_of
  exact ⟨i,by rw [cC p1],q _ H (Same.refl H) gQ⟩
 ·cases e
theorem hT' (ds:List D):aM (jO ds):=by
 unfold jO
 split
 ·exact dD
 ·exact cZ
noncomputable def cF:List D->Res D
 | [.tup ds]=>.ok (.int ds.length)
 | [.lst ds]=>.ok (.int ds.length)
 | [.str z]=>if z.length<=sizeLine then .ok (.int z.length) else .stuck
 | _=>.stuck
theorem jA (ds:List D):aM (cF ds):=by
 unfold cF
 split <;> first | exact dD | exact cZ | exact kJ dD cZ
theorem hU' {X:Cx} (E:Value->Shared->Prop):CallR (X.wish E) (.builtin "len") (fun xs H Q=>∃x n,xs=[x]/\wF X.K x H n/\Q (.int n) H):=Li
theorem jB {X:Cx}:CallD X (.builtin "len") cF:=.of hU' fun H xs ds d Q r e q=>by
 unfold cF at e
 split at e
 ·rename_i es
  cases e
  obtain ⟨v,vs,rfl,p1,t⟩:=r.cons_of
  cases t.nil_of
  obtain ⟨a,ys,rfl,w1,w2⟩:=d7 p1;exact ⟨_,es.length,rfl,.inr ⟨ys,w1,w2.length.symm⟩,q _ H (Same.refl H) gQ⟩
 ·rename_i es
  cases e
  obtain ⟨v,vs,rfl,p1,t⟩:=r.cons_of
  cases t.nil_of
  obtain ⟨a,ys,rfl,w1,w2⟩:=d_ p1;exact ⟨_,es.length,rfl,.inl ⟨ys,w1,w2.length.symm⟩,q _ H (Same.refl H) gQ⟩
 ·rename_i z
  split at e
  ·rename_i hz
   cases e
   obtain ⟨v,vs,rfl,p1,t⟩:=r.cons_of
   cases t.nil_of
   cases kZ p1
   exact ⟨_,z.length,rfl,⟨hz,rfl⟩,q _ H (Same.refl H) gQ⟩
  ·cases e
 ·cases e
inductive Out where
 | stuck
 | nxt (δ:DS)
 | ret (d:D)
 | brk (δ:DS)
 | cnt (δ:DS)
 | err (x:Exn) (δ:DS)
noncomputable def Out.seq (o:Out) (g:DS->Out):Out:=match o with
 | .nxt δ=>g δ
 | o=>o
noncomputable def SPost (X:Cx) (pins:List (Addr×Obj)) (G H:Hp) (o:Out) (fl:Flow) (s1:Shared):Prop:=match fl with
 | .next=>∃δ' σ' H',o=.nxt δ'/\Inv X pins σ' H' s1/\TK H H'/\RepSt X.K G H' σ' δ'
 | .brk=>∃δ' σ' H',o=.brk δ'/\Inv X pins σ' H' s1/\TK H H'/\RepSt X.K G H' σ' δ'
 | .cont=>∃δ' σ' H',o=.cnt δ'/\Inv X pins σ' H' s1/\TK H H'/\RepSt X.K G H' σ' δ'
 | .ret u=>∃d v σ' H',o=.ret d/\Inv X pins σ' H' s1/\TK H H'/\Same G H'/\RelV v u/\Rep X.K H' d v
noncomputable def SX (X:Cx) (pins:List (Addr×Obj)) (G H:Hp) (h0:Heap) (o:Out) (e:Value) (s1:Shared):Prop :=
 ∃x δ' a C σ' H',o=.err x δ'/\e=.ref a/\Inv X pins σ' H' s1/\TK H H'/\RepSt X.K G H' σ' δ'/\nsIn X.K mainGlobals x.cls=some (some (.ref C))/\FlyX X.K x h0 H' s1.heap a C
noncomputable def PSD (X:Cx) (st:Stmt) (f:DS->Out):Prop :=
 ∀(pins:List (Addr×Obj)) (s:Shared) (σ:St) (G H:Hp) (δ:DS),Inv X pins σ H s->RepSt X.K G H σ δ->f δ≠.stuck ->
  wpAny (model X.prog X.w) X.A (exec st X.env) (SPost X pins G H (f δ)) (SX X pins G H s.heap (f δ)) s
noncomputable def PSDs (X:Cx) (st:List Stmt) (f:DS->Out):Prop :=
 ∀(pins:List (Addr×Obj)) (s:Shared) (σ:St) (G H:Hp) (δ:DS),Inv X pins σ H s->RepSt X.K G H σ δ->f δ≠.stuck ->
  wpAny (model X.prog X.w) X.A (execs st X.env) (SPost X pins G H (f δ)) (SX X pins G H s.heap (f δ)) s
noncomputable def gK (r:Res D) (δ:DS) (k:D->Out):Out:=match r with
 | .stuck=>.stuck
 | .ok d=>k d
 | .err x=>.err x δ
noncomputable def uU (r:Res Bool) (δ:DS) (k:Bool->Out):Out:=match r with
 | .stuck=>.stuck
 | .ok d=>k d
 | .err x=>.err x δ
theorem sJ {r:Res D} {δ:DS} {k:D->Out} (h:gK r δ k≠.stuck):r≠.stuck:=fun q=>h (by rw [q]; rfl)
theorem M6 {r:Res Bool} {δ:DS} {k:Bool->Out} (h:uU r δ k≠.stuck):r≠.stuck:=fun q=>h (by rw [q]; rfl)
section
variable {X:Cx} {pins:List (Addr×Obj)} {G H H1:Hp} {h0 h1:Heap} {s1:Shared} {fl:Flow} {o o':Out} {e:Value}
theorem SPost.from (p:SPost X pins G H1 o fl s1) (t:TK H H1) (q:o=o'):SPost X pins G H o' fl s1:=by
 subst q
 cases fl with
 | next=>obtain ⟨δ',σ',H',q1,q2,q3,q4⟩:=p; exact ⟨δ',σ',H',q1,q2,t.trans q3,q4⟩
 | brk=>obtain ⟨δ',σ',H',q1,q2,q3,q4⟩:=p; exact ⟨δ',σ',H',q1,q2,t.trans q3,q4⟩
 | cont=>obtain ⟨δ',σ',H',q1,q2,q3,q4⟩:=p; exact ⟨δ',σ',H',q1,q2,t.trans q3,q4⟩
 | ret u=>obtain ⟨d,v,σ',H',q1,q2,q3,q4,q5,q6⟩:=p; exact ⟨d,v,σ',H',q1,q2,t.trans q3,q4,q5,q6⟩
theorem SX.from (p:SX X pins G H1 h1 o e s1) (t:TK H H1) (b:Back H h0 h1) (q:o=o'):SX X pins G H h0 o' e s1:=by
 subst q;obtain ⟨x,δ',a,C,σ',H',q1,q2,q3,q4,q5,q6,q7⟩:=p;exact ⟨x,δ',a,C,σ',H',q1,q2,q3,t.trans q4,q5,q6,q7.back t q4 b⟩
theorem XPost.sx {α:Type} {σ:St} {δ:DS} {r:Res α} (p:XPost X pins σ H h0 r e s1) (R:RepSt X.K G H σ δ) (q:∀x,r=.err x->o=.err x δ):SX X pins G H h0 o e s1:=by
 obtain ⟨x,a,C,H1,q1,q2,q3,q4,q5,q6⟩:=p;exact ⟨x,δ,a,C,σ,H1,q x q1,q2,q3,q4.tk,R.mono q4,q5,q6⟩
theorem GP {t:Sem Flow} {s:Shared} {σ:St} (h:∀pins,Inv X pins σ H s->wpAny (model X.prog X.w) X.A t (SPost X pins G H o) (SX X pins G H s.heap o) s) (I:Inv X pins σ H s) {P:Flow->Shared->Prop} {E:Value->Shared->Prop}
  (k:∀fl s1,SPost X pins G H o fl s1->Back H s.heap s1.heap->P fl s1) (kx:∀e s1,SX X pins G H s.heap o e s1->E e s1):wpAny (model X.prog X.w) X.A t P E s:=by
 refine wpAny_mono (h (pins ++ gj X H s.heap) I.all) (fun fl s1 p=>?_) fun e s1 ⟨x,δ',a,C,σ',H',q1,q2,q3,q4,q5,q6,q7⟩=>kx e s1 ⟨x,δ',a,C,σ',H',q1,q2,q3.unpinned,q4,q5,q6,q7⟩
 cases fl with
 | next=>obtain ⟨δ',σ',H',q1,q2,q3,q4⟩:=p; exact k .next s1 ⟨δ',σ',H',q1,q2.unpinned,q3,q4⟩ (I.backTo q2)
 | brk=>obtain ⟨δ',σ',H',q1,q2,q3,q4⟩:=p; exact k .brk s1 ⟨δ',σ',H',q1,q2.unpinned,q3,q4⟩ (I.backTo q2)
 | cont=>obtain ⟨δ',σ',H',q1,q2,q3,q4⟩:=p; exact k .cont s1 ⟨δ',σ',H',q1,q2.unpinned,q3,q4⟩ (I.backTo q2)
 | ret u=>obtain ⟨d,v,σ',H',q1,q2,q3,q4,q5,q6⟩:=p; exact k (.ret u) s1 ⟨d,v,σ',H',q1,q2.unpinned,q3,q4,q5,q6⟩ (I.backTo q2)
end
section
variable {X:Cx} {st:Stmt} {rest:List Stmt} {f g:DS->Out} {e:Expr} {fe:DS->Res D} {pos:Pos}
theorem at':PSDs X [] Out.nxt:=fun pins s σ G H δ I R _=>wpAny_execs_nil ⟨δ,σ,H,rfl,I,TK.refl H,R⟩
noncomputable def aA (f g:DS->Out):DS->Out:=fun δ=>(f δ).seq g
theorem aW (h1:PSD X st f) (h2:PSDs X rest g):PSDs X (st :: rest) (aA f g):=by
 intro pins s σ G H δ I R hs
 try dsimp only at hs ⊢
 have hf:f δ≠.stuck:=fun q=>hs (by unfold aA; rw [q]; rfl);refine wpAny_execs_cons (GP (fun pins I=>h1 pins s σ G H δ I R hf) I (fun fl s1 p b=>?_) fun e s1 p=>?_)
 ·cases fl with
  | next =>
   obtain ⟨δ',σ',H',q1,q2,q3,q4⟩:=p;have ev:aA f g δ=g δ':=by unfold aA; rw [q1]; rfl
   exact wpAny_mono (h2 pins s1 σ' G H' δ' q2 q4 fun z=>hs (ev.trans z)) (fun fl s2 p2=>p2.from q3 ev.symm) fun e s2 p2=>p2.from q3 b ev.symm
  | brk=>obtain ⟨δ',σ',H',q1,q2,q3,q4⟩:=p; exact ⟨δ',σ',H',by unfold aA; rw [q1]; rfl,q2,q3,q4⟩
  | cont=>obtain ⟨δ',σ',H',q1,q2,q3,q4⟩:=p; exact ⟨δ',σ',H',by unfold aA; rw [q1]; rfl,q2,q3,q4⟩
  | ret u=>obtain ⟨d,v,σ',H',q1,q2⟩:=p; exact ⟨d,v,σ',H',by unfold aA; rw [q1]; rfl,q2⟩
 ·obtain ⟨x,δ',a,C,σ',H',q1,q2⟩:=p;exact ⟨x,δ',a,C,σ',H',by unfold aA; rw [q1]; rfl,q2⟩
theorem bB (h1:PSD X st f):PSDs X [st] f:=by
 intro pins s σ G H δ I R hs
 try dsimp only at hs ⊢
 refine wpAny_execs_cons (wpAny_mono (h1 pins s σ G H δ I R hs) (fun fl s1 p=>?_) fun e s1 p=>p)
 cases fl with
 | next=>exact wpAny_execs_nil p
 | brk=>exact p
 | cont=>exact p
 | ret u=>exact p
noncomputable def NOut (X:Cx) (G H:Hp) (o:Out) (E:Ends):Prop:=match o with
 | .stuck=>False
 | .nxt δ=>∀σ' H',TK H H'->RepSt X.K G H' σ' δ->E.nx σ' H'
 | .ret d=>∀v H',TK H H'->Same G H'->Rep X.K H' d v->E.rt v H'
 | .brk δ=>∀σ' H',TK H H'->RepSt X.K G H' σ' δ->E.bk σ' H'
 | .cnt δ=>∀σ' H',TK H H'->RepSt X.K G H' σ' δ->E.ct σ' H'
 | .err _ _=>False
noncomputable def sD (X:Cx) (f:DS->Out):TS:=fun E σ H=>∃G δ,RepSt X.K G H σ δ/\NOut X G H (f δ) E
theorem NOut.tk {X:Cx} {G H H1:Hp} {o:Out} {E:Ends} (h:NOut X G H o E) (t:TK H H1):NOut X G H1 o E:=by
 cases o with
 | stuck=>exact h
 | nxt δ=>exact fun σ' H' t' r=>h σ' H' (t.trans t') r
 | ret d=>exact fun v H' t' r=>h v H' (t.trans t') r
 | brk δ=>exact fun σ' H' t' r=>h σ' H' (t.trans t') r
 | cnt δ=>exact fun σ' H' t' r=>h σ' H' (t.trans t') r
 | err x δ=>exact h
theorem GQ {pins:List (Addr×Obj)} {G H:Hp} {o:Out} {E:Ends} {fl:Flow} {s1:Shared} {W:Value->Shared->Prop} (h:NOut X G H o E) (p:SPost X pins G H o fl s1):SP (X.wish W) pins E fl s1:=by
 cases fl with
 | next=>obtain ⟨δ',σ',H',q1,q2,q3,q4⟩:=p; subst q1; exact ⟨σ',H',q2.wish _,h σ' H' q3 q4⟩
 | brk=>obtain ⟨δ',σ',H',q1,q2,q3,q4⟩:=p; subst q1; exact ⟨σ',H',q2.wish _,h σ' H' q3 q4⟩
 | cont=>obtain ⟨δ',σ',H',q1,q2,q3,q4⟩:=p; subst q1; exact ⟨σ',H',q2.wish _,h σ' H' q3 q4⟩
 | ret u=>obtain ⟨d,v,σ',H',q1,q2,q3,q4,q5,q6⟩:=p; subst q1; exact ⟨v,σ',H',q2.wish _,q5,h v H' q3 q4 q6⟩
theorem NOut.ns {G H:Hp} {o:Out} {E:Ends} (h:NOut X G H o E):o≠.stuck:=fun q=>by subst q; exact h
theorem NOut.sx {pins:List (Addr×Obj)} {G H:Hp} {h0:Heap} {o:Out} {E:Ends} {e:Value} {s1:Shared} (h:NOut X G H o E) (p:SX X pins G H h0 o e s1):False:=by
 obtain ⟨x,δ',_,_,_,_,q,_⟩:=p; subst q; exact h
theorem PSDs.ps (h:PSDs X rest f):PSs X.nox rest (sD X f):=by
 intro pins s σ H E I ⟨G,δ,R,n⟩;exact wpAny_mono (h pins s σ G H δ I.unwish R n.ns) (fun fl s1 p=>GQ n p) fun e s1 p=>n.sx p
theorem PSD.ps (h:PSD X st f):PS X.nox st (sD X f):=by
 intro pins s σ H E I ⟨G,δ,R,n⟩;exact wpAny_mono (h pins s σ G H δ I.unwish R n.ns) (fun fl s1 p=>GQ n p) fun e s1 p=>n.sx p
theorem PTD.pt {c:Expr} {tc:DS->Res Bool} (h:PTD X c tc):PT X.nox c (fun σ H Q=>∃G δ d,RepSt X.K G H σ δ/\tc δ=.ok d/\∀H',Same H H'->Q d H'):=by
 intro pins s σ H Q I ⟨G,δ,d,R,q,n⟩;refine wpAny_mono (h pins s σ G H δ I.unwish R (by rw [q]; intro z; cases z)) (fun b s1 ⟨H1,q1,I1,e1⟩=>?_) fun e s1 p=>?_
 ·rw [q] at q1; cases q1;exact ⟨H1,I1.wish _,n H1 e1⟩
 ·rw [q] at p; exact p.none
theorem PD.pe {fe:DS->Res D} (h:PD X e fe):PE X.nox e (fun σ H Q=>∃G δ d,RepSt X.K G H σ δ/\fe δ=.ok d/\∀v H',Same H H'->Rep X.K H' d v->Q v H'):=by
 intro pins s σ H Q I ⟨G,δ,d,R,q,n⟩;refine wpAny_mono (h pins s σ G H δ I.unwish R (by rw [q]; intro z; cases z)) (fun b s1 ⟨d',v,H1,q1,I1,r1,e1,p1⟩=>?_) fun e s1 p=>?_
 ·rw [q] at q1; cases q1;exact ⟨v,H1,I1.wish _,r1,n v H1 e1 p1⟩
 ·rw [q] at p; exact p.none
theorem PAD.pa {es:List Expr} {fs:DS->Res (List D)} (h:PAD X es fs):PA X.nox es (fun σ H Q=>∃G δ ds,RepSt X.K G H σ δ/\fs δ=.ok ds/\∀vs H',Same H H'->Reps X.K H' ds vs->Q vs H'):=by
 intro pos pins s σ H Q I ⟨G,δ,d,R,q,n⟩;refine wpAny_mono (h pos pins s σ G H δ I.unwish R (by rw [q]; intro z; cases z)) (fun b s1 ⟨d',v,H1,q1,I1,r1,e1,p1⟩=>?_) fun e s1 p=>?_
 ·rw [q] at q1; cases q1;exact ⟨v,H1,I1.wish _,r1,n v H1 e1 p1⟩
 ·rw [q] at p; exact p.none
theorem hW' (hne:∀δ x δ',f δ≠.err x δ') (h:PS X.nox st (sD X f)):PSD X st f:=by
 intro pins s σ G H δ I R hs
 try dsimp only at hs ⊢
 let E:Ends:={ nx:=fun σ' H'=>∃δ',f δ=.nxt δ'/\TK H H'/\RepSt X.K G H' σ' δ',rt:=fun v H'=>∃d,f δ=.ret d/\TK H H'/\Same G H'/\Rep X.K H' d v,bk:=fun σ' H'=>∃δ',f δ=.brk δ'/\TK H H'/\RepSt X.K G H' σ' δ',ct:=fun σ' H'=>∃δ',f δ=.cnt δ'/\TK H H'/\RepSt X.K G H' σ' δ' }
 have n:NOut X G H (f δ) E:=by
  cases q:f δ with
  | stuck=>exact (hs q).elim
  | nxt δ'=>exact fun σ' H' t r=>⟨δ',q,t,r⟩
  | brk δ'=>exact fun σ' H' t r=>⟨δ',q,t,r⟩
  | cnt δ'=>exact fun σ' H' t r=>⟨δ',q,t,r⟩
  | ret d=>exact fun v H' t g r=>⟨d,q,t,g,r⟩
  | err x δ'=>exact (hne δ x δ' q).elim
 refine wpAny_mono (h pins s σ H E (I.wish _) ⟨G,δ,R,n⟩) (fun fl s1 p=>?_) fun e s1 p=>p.elim
 cases fl with
 | next=>obtain ⟨σ',H',q2,δ',q1,q3,q4⟩:=p; exact ⟨δ',σ',H',q1,q2.unwish,q3,q4⟩
 | brk=>obtain ⟨σ',H',q2,δ',q1,q3,q4⟩:=p; exact ⟨δ',σ',H',q1,q2.unwish,q3,q4⟩
 | cont=>obtain ⟨σ',H',q2,δ',q1,q3,q4⟩:=p; exact ⟨δ',σ',H',q1,q2.unwish,q3,q4⟩
 | ret u=>obtain ⟨v,σ',H',q2,q5,d,q1,q3,q4,q6⟩:=p; exact ⟨d,v,σ',H',q1,q2.unwish,q3,q4,q5,q6⟩
theorem cA (he:PD X e fe):PSD X (.Return (some e) pos) (fun δ=>gK (fe δ) δ Out.ret):=by
 intro pins s σ G H δ I R hs
 try dsimp only at hs ⊢
 refine wpAny_Return_some (he.use I R (sJ hs) (fun d u s1 v H1 q I1 r1 e1 b1 p1=>⟨d,v,σ,H1,by rw [q]; rfl,I1,e1.tk,R.same.trans e1,r1,p1⟩) fun e s1 q=>q.sx R fun x z=>by rw [z]; rfl)
theorem M7 (he:PD X e fe) (hw:swapsWith e none pos.line X.env=pure false:=by rfl):PSD X (.Expr e pos) (fun δ=>gK (fe δ) δ fun _=>.nxt δ):=by
 intro pins s σ G H δ I R hs
 try dsimp only at hs ⊢
 exact wpAny_Expr_any (he.use I R (sJ hs) (fun d u s1 v H1 q I1 r1 e1 b1 p1=>⟨δ,σ,H1,by rw [q]; rfl,I1,e1.tk,R.mono e1⟩) fun e s1 q=>q.sx R fun x z=>by rw [z]; rfl) I.quiet hw
theorem fP {c:Expr} {a b:List Stmt} {tc:DS->Res Bool} {fa fb:DS->Out} (hc:PTD X c tc) (ha:PSDs X a fa) (hb:PSDs X b fb):PSD X (.If c a b pos) (fun δ=>uU (tc δ) δ fun k=>if k=true then fa δ else fb δ):=by
 intro pins s σ G H δ I R hs
 try dsimp only at hs ⊢
 refine wpAny_If (hc.use I R (M6 hs) (fun k s1 H1 q I1 e1 b1=>?_) fun e s1 q=>q.sx R fun x z=>by rw [z]; rfl)
 cases k with
 | true =>
  have ev:uU (tc δ) δ (fun k=>if k=true then fa δ else fb δ)=fa δ:=by rw [q]; rfl
  exact wpAny_mono (ha pins s1 σ G H1 δ I1 (R.mono e1) fun z=>hs (ev.trans z)) (fun fl s2 p=>p.from e1.tk ev.symm) fun e s2 p=>p.from e1.tk b1 ev.symm
 | false =>
  have ev:uU (tc δ) δ (fun k=>if k=true then fa δ else fb δ)=fb δ:=by rw [q]; rfl
  exact wpAny_mono (hb pins s1 σ G H1 δ I1 (R.mono e1) fun z=>hs (ev.trans z)) (fun fl s2 p=>p.from e1.tk ev.symm) fun e s2 p=>p.from e1.tk b1 ev.symm
noncomputable def aB (i:Nat) (fe:DS->Res D):DS->Out:=fun δ=>gK (fe δ) δ fun d=>.nxt (δ.set i (some (.val d)))
theorem bV (i:Nat) {x:Str} {pos':Pos} (he:PD X e fe) (hN:X.N.Nodup) (hi:X.N[i]? = some x:=by rfl) (hx:Loc X.env.scope x:=by first | exact Or.inl rfl | exact Or.inr rfl) (hw:swapsWith e (some (.Name x pos')) pos.line X.env=pure false:=by rfl)
  (hf:X.fn x=true\/X.env.scope.names.lookup x=some .local:=by first | exact .inl rfl | exact .inr rfl | assumption):PSD X (.Assign [.Name x pos'] e pos) (aB i fe):=by
 intro pins s σ G H δ I R hs
 try dsimp only at hs ⊢
 refine wpAny_Assign_Name (he.use I R (sJ hs) (fun d u s1 v H1 q I1 r1 e1 b1 p1=>?_) fun e s1 q=>q.sx R fun x z=>by unfold aB; rw [z]; rfl) hw;exact cN' I1 hN hi hx r1 (fun s2 I2=>⟨_,_,H1,by unfold aB; rw [q]; rfl,I2,e1.tk,(R.mono e1).set i p1⟩) hf
abbrev du:=D->DS->Option DS
noncomputable def PGD (X:Cx) (tg:Expr) (t:du):Prop :=
 ∀(E:Value->Shared->Prop) (pins:List (Addr×Obj)) (s:Shared) (σ:St) (G H:Hp) (δ δ':DS) (d:D) (v:V) (u:Value),Inv X pins σ H s->RelV v u->RepSt X.K G H σ δ->Rep X.K H d v->t d δ=some δ' ->
  wpAny (model X.prog X.w) X.A (assign tg X.env u) (fun _ s1=>∃σ',Inv X pins σ' H s1/\RepSt X.K G H σ' δ') E s
theorem k_ (i:Nat) {x:Str} (hN:X.N.Nodup) (hi:X.N[i]? = some x:=by rfl) (hx:Loc X.env.scope x:=by first | exact Or.inl rfl | exact Or.inr rfl) (hf:X.fn x=true\/X.env.scope.names.lookup x=some .local:=by first | exact .inl rfl | exact .inr rfl | assumption) :
  PGD X (.Name x pos) (fun d δ=>some (δ.set i (some (.val d)))):=by
 intro E pins s σ G H δ δ' d v u I r R p e
 cases e
 exact eX (hw' (X:=X.wish E) hN hi hx hf pins s σ H v u (fun σ' H'=>σ'=σ.set i (some v)/\H'=H) (I.wish _) r ⟨rfl,rfl⟩) fun _ s1 ⟨σ',H',I',e1,e2⟩=>by
  subst e1 e2;exact ⟨_,I'.unwish,R.set i p⟩
noncomputable def cV:List Nat->List D->DS->Option DS
 | [],[],δ=>some δ
 | i :: is,d :: ds,δ=>cV is ds (δ.set i (some (.val d)))
 | _,_,_=>none
theorem GR:∀{is:List Nat} {ds:List D} {δ δ':DS},cV is ds δ=some δ'->ds.length=is.length
 | [],[],_,_,_=>rfl
 | [],_ :: _,_,_,h=>by simp [cV] at h
 | _ :: _,[],_,_,h=>by simp [cV] at h
 | i :: is,d :: ds,δ,δ',h=>by
  have:=GR (is:=is) (ds:=ds) (by simpa [cV] using h);simp [this]
noncomputable def Am (X:Cx) (is:List Nat):ug:=fun vs σ H Q=>∃G δ ds δ',RepSt X.K G H σ δ/\Reps X.K H ds vs/\cV is ds δ=some δ'/\∀σ',RepSt X.K G H σ' δ'->Q σ' H
theorem vN:uh X [] (Am X []):=by
 intro pins s σ H vs us Q I r h;obtain ⟨G,δ,ds,δ',R,p,e,q⟩:=h
 cases ds with
 | nil =>
  cases e
  exact KR pins s σ H vs us Q I r ⟨p.nil_of,q σ R⟩
 | cons d ds=>cases e
theorem mR (i:Nat) {is:List Nat} {x:Str} {es:List Expr} (hN:X.N.Nodup) (h2:uh X es (Am X is)) (hi:X.N[i]? = some x:=by rfl) (hx:Loc X.env.scope x:=by first | exact Or.inl rfl | exact Or.inr rfl)
  (hf:X.fn x=true\/X.env.scope.names.lookup x=some .local:=by first | exact .inl rfl | exact .inr rfl | assumption) (hs:(assignEach (.Name x pos :: es) X.env).map (·.2)=assign (.Name x pos) X.env :: (assignEach es X.env).map (·.2):=by rfl) :
  uh X (.Name x pos :: es) (Am X (i :: is)):=by
 intro pins s σ H vs us Q I r h;obtain ⟨G,δ,ds,δ',R,p,e,q⟩:=h
 cases ds with
 | nil=>cases e
 | cons d ds =>
  obtain ⟨v,ws,rfl,p1,p2⟩:=p.cons_of;exact KY (hw' hN hi hx hf) h2 hs pins s σ H _ us Q I r ⟨v,ws,rfl,G,_,ds,δ',R.set i p1,p2,e,q⟩
noncomputable def aZ (is:List Nat):du:=fun d δ=>match d with
 | .tup ds=>cV is ds δ
 | _=>none
theorem vO {es:List Expr} {k:Nat} {is:List Nat} (hc:X.calm=true) (h:∀E,uh (X.wish E) es (Am X is)) (hn:(assignEach es X.env).length=is.length:=by rfl) (hst:(assignEach es X.env).findIdx? (·.1)=none:=by rfl):PGD X (.Tuple es k pos) (aZ is):=by
 intro E pins s σ G H δ δ' d v u I r R p e
 cases d with
 | tup ds =>
  obtain ⟨a,xs,rfl,w1,w2⟩:=d7 p;exact eX (KZ (X:=X.wish E) hc (h E) hn hst pins s σ H _ u (fun σ' H'=>H'=H/\RepSt X.K G H σ' δ') (I.wish _) r ⟨a,xs,rfl,w1,by rw [w2.length]; exact GR e,G,δ,ds,δ',R,w2,e,fun σ' R'=>⟨rfl,R'⟩⟩) fun _ s1 ⟨σ',H',I',e1,e2⟩=>by
   subst e1;exact ⟨σ',I'.unwish,e2⟩
 | _=>cases e
noncomputable def lg (t:du) (fe:DS->Res D):DS->Out:=fun δ=>gK (fe δ) δ fun d=>match t d δ with | some δ'=>.nxt δ' | none=>.stuck
theorem lt' {tg:Expr} {t:du} (he:PD X e fe) (hg:PGD X tg t) (hw1:swapsWithSole [tg] e pos.line X.env=pure false:=by rfl) (hw:swappedStores [tg] e X.env=pure none:=by rfl) (h1:(assignEach [tg] X.env).map (·.2)=[assign tg X.env]:=by rfl) :
  PSD X (.Assign [tg] e pos) (lg t fe):=by
 intro pins s σ G H δ I R hs
 try dsimp only at hs ⊢
 refine wpAny_Assign_stores (he.use I R (sJ hs) (fun d u s1 v H1 q I1 r1 e1 b1 p1=>?_) fun e s1 q=>q.sx R fun x z=>by unfold lg; rw [z]; rfl) hw1 hw;rw [h1]
 cases z:t d δ with
 | none=>exact (hs (by unfold lg; rw [q]; show (match t d δ with | some δ'=>Out.nxt δ' | none=>.stuck)=_; rw [z])).elim
 | some δ'=>exact eX (hg _ pins s1 σ G H1 δ δ' d v u I1 r1 (R.mono e1) p1 z) fun _ s2 ⟨σ',I2,R2⟩=>⟨δ',σ',H1,by unfold lg; rw [q]; show (match t d δ with | some δ'=>Out.nxt δ' | none=>.stuck)=_; rw [z],I2,e1.tk,R2⟩
end
noncomputable def bf (c:DS->Res Bool) (b:DS->Out):Nat->DS->Out
 | 0,_=>.stuck
 | n + 1,δ=>match c δ with
  | .ok true=>(match b δ with
   | .nxt δ'=>bf c b n δ'
   | .cnt δ'=>bf c b n δ'
   | .brk δ'=>.nxt δ'
   | .ret d=>.ret d
   | _=>.stuck)
  | .ok false=>.nxt δ
  | _=>.stuck
theorem GX (c:DS->Res Bool) (b:DS->Out):∀(n:Nat) (δ:DS) (x:Exn) (δ':DS),bf c b n δ≠.err x δ'
 | 0,_,_,_,h=>by simp [bf] at h
 | n + 1,δ,x,δ',h=>by
  rw [bf] at h
  split at h
  ·split at h <;> first | exact GX c b n _ x δ' h | cases h
  ·cases h
  ·cases h
theorem Cz {X:Cx} {c:Expr} {body:List Stmt} {tc:DS->Res Bool} {fb:DS->Out} {pos:Pos} (fuel:DS->Nat) (hc:PTD X c tc) (hb:PSDs X body fb) :
  PSD X (.While c body [] pos) (fun δ=>bf tc fb (fuel δ) δ):=by
 refine hW' (fun δ=>GX tc fb (fuel δ) δ) fun pins s σ H E I h=>?_;obtain ⟨G,δ,R,h⟩:=h;refine K3 PassesOwn.never hc.pt hb.ps pins s σ H E I ⟨fun m σ' H'=>∃δ',RepSt X.K G H' σ' δ'/\NOut X G H' (bf tc fb m δ') E,⟨fuel δ,δ,R,h⟩,?_⟩
 rintro m σ1 H1 ⟨δ1,R1,h1⟩
 cases m with
 | zero=>exact h1.elim
 | succ m =>
  rw [bf] at h1
  cases q:tc δ1 with
  | stuck=>simp only [q] at h1; exact h1.elim
  | err x=>simp only [q] at h1; exact h1.elim
  | ok k =>
   refine ⟨G,δ1,k,R1,q,fun H2 e2=>?_⟩
   cases k with
   | false =>
    simp only [q] at h1;rw [if_neg Bool.false_ne_true];exact h1 σ1 H2 e2.tk (R1.mono e2)
   | true =>
    simp only [q] at h1;rw [if_pos rfl];refine ⟨fun σ' H'=>∃δ',RepSt X.K G H' σ' δ'/\NOut X G H' (bf tc fb m δ') E,fun σ' H' z=>⟨m,Nat.lt_succ_self m,z⟩,G,δ1,R1.mono e2,?_⟩
    cases z:fb δ1 with
    | stuck=>rw [z] at h1; exact h1
    | err x δ'=>rw [z] at h1; exact h1
    | nxt δ'=>rw [z] at h1; exact fun σ' H' t r=>⟨δ',r,h1.tk (e2.tk.trans t)⟩
    | cnt δ'=>rw [z] at h1; exact fun σ' H' t r=>⟨δ',r,h1.tk (e2.tk.trans t)⟩
    | brk δ'=>rw [z] at h1; exact fun σ' H' t r=>h1 σ' H' (e2.tk.trans t) r
    | ret d=>rw [z] at h1; exact fun v H' t g r=>h1 v H' (e2.tk.trans t) g r
noncomputable def cI (t:du) (b:DS->Out):List D->DS->Out
 | [],δ=>.nxt δ
 | d :: ds,δ=>match t d δ with
  | none=>.stuck
  | some δ1=>match b δ1 with
   | .nxt δ'=>cI t b ds δ'
   | .cnt δ'=>cI t b ds δ'
   | .brk δ'=>.nxt δ'
   | .ret d=>.ret d
   | _=>.stuck
theorem CG (t:du) (b:DS->Out):∀(ds:List D) (δ:DS) (x:Exn) (δ':DS),cI t b ds δ≠.err x δ'
 | [],_,_,_,h=>by simp [cI] at h
 | d :: ds,δ,x,δ',h=>by
  rw [cI] at h
  split at h
  ·cases h
  ·split at h <;> first | exact CG t b ds _ x δ' h | cases h
noncomputable def bQ (lo:Int):Nat->List D
 | 0=>[]
 | n + 1=>.int lo :: bQ (lo + 1) n
theorem CJ (lo:Int) (n i:Nat) (h:i < n):(bQ lo n).drop i=.int (lo + i) :: (bQ lo n).drop (i + 1):=by
 induction i generalizing lo n with
 | zero =>
  cases n with
  | zero=>omega
  | succ n=>simp [bQ]
 | succ i ih =>
  cases n with
  | zero=>omega
  | succ n =>
   have q:=ih (lo + 1) n (by omega);simp only [bQ,drop_succ_cons];rw [q];have:lo + 1 + (i:Int)=lo + ((i + 1:Nat):Int):=by omega
   rw [this]
theorem An (lo:Int) (n:Nat):(bQ lo n).length=n:=by
 induction n generalizing lo with
 | zero=>rfl
 | succ n ih=>simp [bQ,ih]
noncomputable def gD (X:Cx) (t:du):TG:=fun v σ H Q=>∃G δ d δ',RepSt X.K G H σ δ/\Rep X.K H d v/\t d δ=some δ'/\∀σ',RepSt X.K G H σ' δ'->Q σ' H
noncomputable def ux (r:Res (List D)) (k:List D->Out):Out:=match r with
 | .ok d=>k d
 | _=>.stuck
theorem GZ {r:Res (List D)} {k:List D->Out} (h:∀ds x δ',k ds≠.err x δ') (x:Exn) (δ':DS):ux r k≠.err x δ':=by
 cases r with
 | ok d=>exact h d x δ'
 | stuck=>intro z; cases z
 | err _=>intro z; cases z
section
variable {X:Cx} {tg iter:Expr} {body:List Stmt} {t:du} {fb:DS->Out} {pos:Pos} {G H:Hp} {E:Ends}
theorem PGD.pg (h:PGD X tg t):PG X.nox tg (gD X t):=by
 intro pins s σ H v u Q I r hq;obtain ⟨G,δ,d,δ',R,p,e,q⟩:=hq;exact eX (h _ pins s σ G H δ δ' d v u I.unwish r R p e) fun _ s1 ⟨σ',I',R'⟩=>⟨σ',H,I'.wish _,q σ' R'⟩
theorem G3 {ds:List D} {d:D} {δ:DS} {v:V} {σ:St} {N:St->Hp->Prop} (R:RepSt X.K G H σ δ) (p:Rep X.K H d v) (h:NOut X G H (cI t fb (d :: ds) δ) E)
  (hN:∀δ' σ' H',TK H H'->RepSt X.K G H' σ' δ'->NOut X G H' (cI t fb ds δ') E->N σ' H'):gD X t v σ H fun σ2 H2=>sD X fb { E with nx:=N,ct:=N,bk:=E.nx } σ2 H2:=by
 rw [cI] at h
 cases z:t d δ with
 | none=>rw [z] at h; exact h.elim
 | some δ1 =>
  rw [z] at h;refine ⟨G,δ,d,δ1,R,p,z,fun σ' R'=>⟨G,δ1,R',?_⟩⟩;simp only at h
  cases q:fb δ1 with
  | stuck=>rw [q] at h; exact h
  | err x δ'=>rw [q] at h; exact h
  | nxt δ'=>rw [q] at h; exact fun σ2 H2 t2 r2=>hN δ' σ2 H2 t2 r2 (h.tk t2)
  | cnt δ'=>rw [q] at h; exact fun σ2 H2 t2 r2=>hN δ' σ2 H2 t2 r2 (h.tk t2)
  | brk δ'=>rw [q] at h; exact fun σ2 H2 t2 r2=>h σ2 H2 t2 r2
  | ret d=>rw [q] at h; exact fun v H2 t2 g r2=>h v H2 t2 g r2
noncomputable def dh:List D->Res (List D)
 | [.int j]=>if -(2 ^ 62)<=j/\j < 2 ^ 62 then .ok (bQ 0 j.toNat) else .stuck
 | _=>.stuck
theorem hX' {lo:Int} {n:Nat} {δ:DS} {σ:St} (R:RepSt X.K G H σ δ) (h:NOut X G H (cI t fb (bQ lo n) δ) E) :
  ∃W:Nat->Nat->St->Hp->Prop,(∃m,W 0 m σ H)/\∀i m σ H,W i m σ H ->
   ((kW lo n).stop i H/\E.nx σ H)\/((kW lo n).go i H/\∃N:St->Hp->Prop,(∀σ' H',N σ' H'->∃m',m' < m/\W (i + 1) m' σ' H')/\∀x H',(kW lo n).yld i H x H'->gD X t x σ H' fun σ2 H2=>sD X fb { E with nx:=N,ct:=N,bk:=E.nx } σ2 H2):=by
 refine Gb (fun i σ' H'=>∃δ',RepSt X.K G H' σ' δ'/\NOut X G H' (cI t fb ((bQ lo n).drop i) δ') E) ⟨δ,R,by simpa using h⟩ ?_ ?_
 ·rintro i σ1 H1 hi ⟨δ1,R1,h1⟩
  rw [CJ lo n i hi] at h1;exact G3 R1 gQ h1 fun δ' σ' H' _ r z=>⟨δ',r,z⟩
 ·rintro σ1 H1 ⟨δ1,R1,h1⟩
  rw [drop_eq_nil_of_le (by rw [An]; exact Nat.le_refl _)] at h1;exact h1 σ1 H1 (TK.refl H1) R1
theorem G4 {a:Expr} {fa:DS->Res (List D)} {p ps:Pos} (hc:X.calm=true) (hgl:Gl X "range") (hm:X.mg "range" = none) (ha:PAD X [a] fa) (hg:PGD X tg t) (hb:PSDs X body fb)
  (hs:starEach [a] X.env=[(false,eval a X.env)]:=by rfl) (hf:∀x,foldedSetIterable (.Call (.Name "range" p) [a] [] ps) X.env x=pure x:=by intro _; rfl) :
  PSD X (.For tg (.Call (.Name "range" p) [a] [] ps) body [] pos) (fun δ=>ux ((fa δ).bind dh) fun ds=>cI t fb ds δ):=by
 refine hW' (fun δ=>GZ fun ds=>CG t fb ds δ) fun pins s σ H E I h=>?_;obtain ⟨G,δ,R,h⟩:=h;refine hB' (X:=X.nox) PassesOwn.never hc (Ga (X:=X.nox) hgl hm ha.pa hs) hg.pg hb.ps hf pins s σ H E I ?_
 cases q:fa δ with
 | stuck=>simp only [q] at h; exact h.elim
 | err x=>simp only [q] at h; exact h.elim
 | ok ds =>
  simp only [q,Res.bind_ok] at h;refine ⟨G,δ,ds,R,q,fun vs H1 e1 p1=>?_⟩;unfold dh at h
  split at h
  ·rename_i j;obtain ⟨v,ws,rfl,w1,w2⟩:=p1.cons_of
   cases w2.nil_of
   cases cC w1
   split at h
   ·rename_i hj;exact ⟨j,rfl,hj.1,hj.2,hX' (R.mono e1) (h.tk e1.tk)⟩
   ·exact h.elim
  ·exact h.elim
end
theorem M8 (o:Obj) (f):(o.mapFields f).dict=o.dict:=by
 obtain ⟨c,d,dt,sl⟩:=o; cases dt <;> rfl
noncomputable def FlyT (h0:Heap) (H:Hp) (h:Heap) (e:Addr) (cls:Value×Option Addr) (fl:Value):Prop :=
 dX h0 e/\H e=none/\∃oe vs a0 T oT ts,h.get? e=some oe/\(oe.cls=cls.1/\oe.dict=cls.2)/\oe.data=.fields vs/\vs[0]? = some a0/\vs[1]? = some (.ref T)/\dX h0 T/\H T=none/\T≠e/\h.get? T=some oT/\oT.data=.fields ts/\ts[3]? = some fl
theorem FlyT.fly {h0:Heap} {H:Hp} {h:Heap} {e:Addr} {cls:Value×Option Addr} (f:FlyT h0 H h e cls .none):Fly h0 H h e cls:=by
 obtain ⟨n,he,oe,vs,a0,T,oT,ts,q1,q2,q3,q4,q5,q6⟩:=f;exact ⟨n,he,oe,vs,a0,q1,q2,q3,q4,.inr ⟨T,oT,ts,q5,q6⟩⟩
noncomputable def eE (h:Heap) (e b:Addr):Prop:=b=e\/∃oe vs,h.get? e=some oe/\oe.data=.fields vs/\vs[1]? = some (.ref b)
structure KF (e:Addr) (fs:List Addr) (h h':Heap):Prop where
 keep:∀b o,h.get? b=some o->b∉fs->¬eE h e b->h'.get? b=some o
 slot:∀b o,h.get? b=some o->b∈fs->¬eE h e b->∃sl,h'.get? b=some { o with slots:=sl }
 there:∀b o,h.get? b=some o->∃o',h'.get? b=some o'
theorem Fly.ex {h0 h:Heap} {H:Hp} {e b:Addr} {cls:Value×Option Addr} (f:Fly h0 H h e cls) (x:eE h e b):dX h0 b/\H b=none/\∃o vs,h.get? b=some o/\o.data=.fields vs:=by
 obtain ⟨n,he,oe,vs,a0,q1,q2,q3,q4,q5⟩:=f;rcases x with rfl | ⟨oe',vs',w1,w2,w3⟩
 ·exact ⟨n,he,oe,vs,q1,q3⟩
 ·rw [q1] at w1; cases w1;rw [q3] at w2; cases w2;rcases q5 with q5 | ⟨T,oT,ts,z1,z2,z3,z4,z5,z6,z7⟩
  ·rw [q5] at w3; cases w3
  ·rw [z1] at w3; cases w3;exact ⟨z2,z3,oT,ts,z5,z6⟩
theorem FlyT.ex {h0 h:Heap} {H:Hp} {e b:Addr} {cls:Value×Option Addr} {fl:Value} (f:FlyT h0 H h e cls fl) (x:eE h e b):dX h0 b/\H b=none/\∃o vs,h.get? b=some o/\o.data=.fields vs:=by
 obtain ⟨n,he,oe,vs,a0,T,oT,ts,q1,q2,q3,q4,z1,z2,z3,z4,z5,z6,z7⟩:=f;rcases x with rfl | ⟨oe',vs',w1,w2,w3⟩
 ·exact ⟨n,he,oe,vs,q1,q3⟩
 ·rw [q1] at w1; cases w1;rw [q3] at w2; cases w2;rw [z1] at w3; cases w3;exact ⟨z2,z3,oT,ts,z5,z6⟩
section
variable {M:Model} {A:Around} {E:Value->Shared->Prop} {s:Shared} {base h0:Heap} {H:Hp} {env:Env} {outer:List Env} {L e:Addr} {Q:Unit->Shared->Prop}
theorem G5 {oe:Obj} {vs:Array Value} {head a0:Value} {hadNext:Bool}
  (hfr:A.frames=some (env :: outer)) (hl:s.heap.FunFrames base (env :: outer)) (hf:env.frame=some L) (hz:h0.objs.size<=s.heap.objs.size) (hn:∀b,s.heap.objs.size<=b->H b=none)
  (nr:dX h0 e) (hH:H e=none) (he:s.heap.get? e=some oe) (hd:oe.data=.fields vs) (hsz:1 < vs.size) (h0':vs[0]? = some a0)
  (h:∀h',(∀b o,b≠e->s.heap.get? b=some o->b∉(env :: outer).filterMap (·.frame)->h'.get? b=some o)->(∀b o,b≠e->s.heap.get? b=some o->∃sl,h'.get? b=some { o with slots:=sl })->FlyT h0 H h' e (oe.cls,oe.dict) (rawInt L)->(∀b,eE h' e b->b=e\/s.heap.objs.size<=b)->Q () { s with heap:=h' }) :
  wpAny M A (do let a <- frameOf env; let pl <- entryPlaceOf L hadNext; let b <- EntryCells.newEntry head a .none (rawInt L) .none pl; setField (.ref e) 1 b) Q E s:=by
 have hene:e∉(env :: outer).filterMap (·.frame):=fun hm=>by
  obtain ⟨_,o,ho,hnf⟩:=hl.mem hm;rw [he] at ho; injection ho with ho; subst ho; exact hnf vs hd
 refine wpAny_bind (wpAny_frameOf_fun hfr hl hf fun h₁ hs₁=>?_);refine wpAny_bind (wpAny_entryPlaceOf fun pl hpl=>?_);unfold EntryCells.newEntry newFields;refine wpAny_bind (wpAny_newObj_type ?_ (hpl.sizeOk5 _ _ _ _ _));have he₁:h₁.get? e=some oe:=(hs₁.2.1 e hene).trans he;generalize hob:({ cls:=.type "traceback",dict:=none,data:=.fields ([head,.ref L,.none,rawInt L,.none] ++ (if pl.isEmpty then List.replicate 6 Value.none else pl)).toArray }:Obj)=ob
 have hobd:ob.data=.fields ([head,.ref L,.none,rawInt L,.none] ++ (if pl.isEmpty then List.replicate 6 Value.none else pl)).toArray:=by rw [<- hob]
 have hobf:ob.isFreed=false:=Obj.isFreed_of_fields hobd;have he₂:=Heap.get?_push_of_some (h:=h₁) ob he₁;refine wpAny_setField he₂ hd hsz ?_;have hTe:h₁.objs.size≠e:=Nat.ne_of_gt (Heap.lt_size he₁);have hd₃:=Obj.data_mapFields hd (·.setIfInBounds 1 (Value.ref h₁.objs.size));have he₃:=Heap.get?_update_self (Obj.mapFields (·.setIfInBounds 1 (Value.ref h₁.objs.size))) he₂ (Obj.isFreed_of_fields hd₃);have hT₃:=(Heap.get?_update_other (h₁.push ob) (Obj.mapFields (·.setIfInBounds 1 (Value.ref h₁.objs.size))) (Ne.symm hTe)).trans (Heap.get?_push_size h₁ hobf);have keep:∀b o,b≠e->h₁.get? b=some o->((h₁.push ob).update e (Obj.mapFields (·.setIfInBounds 1 (Value.ref h₁.objs.size)))).get? b=some o:=fun b o hbe hb=>by
  rw [Heap.get?_update_other _ _ (Ne.symm hbe)];exact Heap.get?_push_of_some _ hb
 refine h _ (fun b o hbe hb hbf=>keep b o hbe ((hs₁.2.1 b hbf).trans hb)) (fun b o hbe hb=>?_) ⟨nr,hH,_,_,a0,h₁.objs.size,_,_,he₃,⟨Obj.cls_mapFields _ _,M8 _ _⟩,hd₃,?_,?_,?_,?_,hTe,hT₃,hobd,?_⟩ fun b hx=>?_
 ·obtain ⟨sl,hs⟩:=hs₁.2.2 b o hb;exact ⟨sl,keep b _ hbe hs⟩
 ·rw [Array.getElem?_setIfInBounds_ne (by decide)]; exact h0'
 ·simp [hsz]
 ·intro o vs' ho;have:=Heap.lt_size ho;rw [hs₁.1] at this;exact absurd this (Nat.not_lt.mpr hz)
 ·exact hn _ (by rw [hs₁.1]; exact Nat.le_refl _)
 ·simp
 ·rcases hx with z | ⟨oe',vs',w1,w2,w3⟩
  ·exact .inl z
  ·rw [he₃] at w1; cases w1;rw [hd₃] at w2; cases w2;have w4:(vs.setIfInBounds 1 (Value.ref h₁.objs.size))[1]? = some (.ref h₁.objs.size):=by simp [hsz]
   rw [w4] at w3; cases w3;exact .inr (by rw [hs₁.1]; exact Nat.le_refl _)
theorem G6 {cls:Value×Option Addr} {fl:Value} (f:FlyT h0 H s.heap e cls fl) (h:∀h',(∀b o,s.heap.get? b=some o->¬eE s.heap e b->h'.get? b=some o)->(∀b o,s.heap.get? b=some o->∃o',h'.get? b=some o')->FlyT h0 H h' e cls .none->(∀b,eE h' e b->eE s.heap e b)->Q () { s with heap:=h' }):wpAny M A (setFlight (.ref e) none) Q E s:=by
 obtain ⟨nr,hH,oe,vs,a0,T,oT,ts,he,hc,hd,h0',h1,nT,hT,hTe,gT,dT,h3⟩:=f;have hsz:=(Array.getElem?_eq_some_iff.mp h3).1;refine wpAny_setFlight_none he hd h1 gT dT hsz ?_;have other:∀b,b≠T->(s.heap.update T (Obj.mapFields (·.setIfInBounds 3 Value.none))).get? b=s.heap.get? b:=fun b hb=>Heap.get?_update_other _ _ (Ne.symm hb);have hd₃:=Obj.data_mapFields dT (·.setIfInBounds 3 Value.none);have hT₃:=Heap.get?_update_self (Obj.mapFields (·.setIfInBounds 3 Value.none)) gT (Obj.isFreed_of_fields hd₃);refine h _ (fun b o hb hk=>(other b ?_).trans hb) (fun b o hb=>?_) ⟨nr,hH,oe,vs,a0,T,_,_,(other e (Ne.symm hTe)).trans he,hc,hd,h0',h1,nT,hT,hTe,hT₃,hd₃,by simp [hsz]⟩ fun b hx=>?_
 ·rintro rfl
  exact hk (.inr ⟨oe,vs,he,hd,h1⟩)
 ·by_cases hbT:b=T
  ·subst hbT; exact ⟨_,hT₃⟩
  ·exact ⟨o,(other b hbT).trans hb⟩
 ·rcases hx with z | ⟨oe',vs',w1,w2,w3⟩
  ·exact .inl z
  ·exact .inr ⟨oe',vs',(other e (Ne.symm hTe)).symm.trans w1,w2,w3⟩
theorem ev' {cls:Value×Option Addr} (hfr:A.frames=some (env :: outer)) (hl:s.heap.FunFrames base (env :: outer)) (hf:env.frame=some L) (hz:h0.objs.size<=s.heap.objs.size) (hn:∀b,s.heap.objs.size<=b->H b=none)
  (fl:Fly h0 H s.heap e cls) (h:∀h',KF e ((env :: outer).filterMap (·.frame)) s.heap h'->FlyT h0 H h' e cls .none->(∀b,eE h' e b->b=e\/s.heap.objs.size<=b)->Q () { s with heap:=h' }):wpAny M A (noteFrame (.ref e) env) (fun _ s'=>wpAny M A (setFlight (.ref e) none) Q E s') E s:=by
 have hex:=fun {b}=>fl.ex (b:=b);obtain ⟨nr,hH,oe,vs,a0,he,⟨hc,hdd⟩,hd,h0',q⟩:=fl;obtain ⟨c1,c2⟩:=cls;dsimp only at hc hdd;subst hc hdd;unfold noteFrame;simp only [hf];have fin:∀(hm:Heap),(∀b o,s.heap.get? b=some o->¬eE s.heap e b->hm.get? b=some o)->(∀b o,b≠e->s.heap.get? b=some o->∃o',hm.get? b=some o') ->
   ∀h1,(∀b o,b≠e->hm.get? b=some o->b∉(env :: outer).filterMap (·.frame)->h1.get? b=some o)->(∀b o,b≠e->hm.get? b=some o->∃sl,h1.get? b=some { o with slots:=sl })->FlyT h0 H h1 e (oe.cls,oe.dict) (rawInt L)->(∀b,eE h1 e b->b=e\/s.heap.objs.size<=b) ->
   wpAny M A (setFlight (.ref e) none) Q E { s with heap:=h1 }:=by
  intro hm k1 k2 h1 k4 k5 f1 k6;have nx:∀b o,s.heap.get? b=some o->b≠e->¬eE h1 e b:=fun b o hb hbe hx=>by
   rcases k6 b hx with z | z
   ·exact hbe z
   ·exact absurd (Heap.lt_size hb) (Nat.not_lt.mpr z)
  refine G6 (s:={ s with heap:=h1 }) f1 fun h2 k7 k8 f2 k9=>h h2 ⟨fun b o hb hbf hx=>?_,fun b o hb hbf hx=>?_,fun b o hb=>?_⟩ f2 fun b hx=>k6 b (k9 b hx)
  ·have hbe:b≠e:=fun z=>hx (.inl z);exact k7 b o (k4 b o hbe (k1 b o hb hx) hbf) (nx b o hb hbe)
  ·have hbe:b≠e:=fun z=>hx (.inl z);obtain ⟨sl,q1⟩:=k5 b o hbe (k1 b o hb hx);exact ⟨sl,k7 b _ q1 (nx b o hb hbe)⟩
  ·by_cases hbe:b=e
   ·subst hbe;obtain ⟨_,_,oe',_,_,_,_,_,q1,_⟩:=f1;exact k8 b oe' q1
   ·obtain ⟨o',q1⟩:=k2 b o hbe hb;obtain ⟨sl,q2⟩:=k5 b o' hbe q1;exact k8 b _ q2
 rcases q with h1 | ⟨T,oT,ts,h1,nT,hT,hTe,gT,dT,h3⟩
 ·refine wpAny_bind (wpAny_field he hd h1 ?_);rw [if_neg (by decide)];exact G5 hfr hl hf hz hn nr hH he hd (Array.getElem?_eq_some_iff.mp h1).1 h0' fun h1 k4 k5 f1 k6=>fin s.heap (fun b o hb _=>hb) (fun b o _ hb=>⟨o,hb⟩) h1 k4 k5 f1 k6
 ·refine wpAny_bind (wpAny_field he hd h1 ?_);rw [if_pos (show (Value.ref T != Value.none)=true from by simp)]
  refine wpAny_bind (wpAny_field gT dT h3 ?_);rw [if_neg (show ¬((Value.none == rawInt L)=true) from by simp [rawInt])]
  refine wpAny_bind (wpAny_setField gT dT (Array.getElem?_eq_some_iff.mp h3).1 ?_);have other:∀b,b≠T->(s.heap.update T (Obj.mapFields (·.setIfInBounds 3 Value.none))).get? b=s.heap.get? b:=fun b hb=>Heap.get?_update_other _ _ (Ne.symm hb);have noRecord:∀b o,s.heap.get? b=some o->(∀vs,o.data≠.fields vs)->b≠T:=fun b o hb hnf q=>by
   rw [q,gT] at hb; injection hb with hb; subst hb; exact hnf ts dT
  have hsize:(s.heap.update T (Obj.mapFields (·.setIfInBounds 3 Value.none))).objs.size=s.heap.objs.size:=by simp [Heap.update]
  have hl':(s.heap.update T (Obj.mapFields (·.setIfInBounds 3 Value.none))).FunFrames base (env :: outer):=hl.of_keeps fun b o hb hnf=>⟨o,(other b (noRecord b o hb hnf)).trans hb,rfl⟩;refine G5 (s:={ s with heap:=s.heap.update T (Obj.mapFields (·.setIfInBounds 3 Value.none)) }) hfr hl' hf (by rw [hsize]; exact hz) (fun b hb=>hn b (by rw [hsize] at hb; exact hb)) nr hH ((other e (Ne.symm hTe)).trans he) hd (Array.getElem?_eq_some_iff.mp h1).1 h0' fun h1' k4 k5 f1 k6=>fin _ (fun b o hb hx=>(other b fun z=>?_).trans hb) (fun b o hbe hb=>?_) h1' k4 k5 f1 (by rw [hsize] at k6; exact k6)
  ·subst z; exact hx (.inr ⟨oe,vs,he,hd,h1⟩)
  ·by_cases hbT:b=T
   ·subst hbT; exact ⟨_,Heap.get?_update_self _ gT (Obj.isFreed_of_fields (Obj.data_mapFields dT (·.setIfInBounds 3 Value.none)))⟩
   ·exact ⟨o,(other b hbT).trans hb⟩
end
theorem KF.plain {e:Addr} {fs:List Addr} {h h':Heap} (k:KF e fs h h') {b:Addr} {o:Obj} (q:h.get? b=some o) (n:¬eE h e b):∃sl,h'.get? b=some { o with slots:=sl }:=by
 by_cases hb:b∈fs
 ·exact k.slot b o q hb n
 ·exact ⟨o.slots,k.keep b o q hb n⟩
theorem _root_.L2.Inv.kf {X:Cx} {pins:List (Addr×Obj)} {σ:St} {H:Hp} {s:Shared} {h':Heap} {t':Nat} {a:Addr} (I:Inv X pins σ H s) (k:KF a (frs X.stack) s.heap h')
  (hr:∀b,eE s.heap a b->(∀o vs,X.s₀.heap.get? b=some o->X.H₀ b=none->b∉X.fs->b∉X.ex->o.data≠.fields vs)/\H b=none/\(∃o vs,s.heap.get? b=some o/\o.data=.fields vs)/\∀p∈X.pn ++ pins,p.1≠b):Inv X pins σ H { s with heap:=h',toks:=t' }:=by
 have old:∀b,b < X.s₀.heap.objs.size->b∉X.fs->b∉frs X.stack:=fun b hb hf hs=>by
  rcases mem_cons.mp (I.stkSub b hs) with z | z
  ·subst z; exact absurd hb (Nat.not_lt.mpr I.ok.above)
  ·exact hf z
 have insub:∀b,b∈X.fs->b∈frs X.stack:=fun b hb=>by
  rcases I.ok.stk with z | ⟨z,hf⟩
  ·rw [z]; exact hb
  ·rw [z]; unfold frs; rw [filterMap_cons,hf]; exact mem_cons_of_mem _ hb
 have norec:∀b o,s.heap.get? b=some o->(∀vs,o.data≠.fields vs)->¬eE s.heap a b:=fun b o hb hd hx=>by
  obtain ⟨_,_,⟨o',vs,e1,e2⟩,_⟩:=hr b hx;rw [hb] at e1; cases e1;exact hd vs e2
 have cellk:∀{c:Addr} {v:Option Value},s.heap.IsCell c v->h'.IsCell c v:=fun {c v} ⟨o,e,d⟩=>by
  obtain ⟨sl,e1⟩:=k.plain e (norec c o e fun vs z=>by rw [d] at z; cases z);exact ⟨_,e1,d⟩
 refine ⟨I.ok,I.os,I.bare,⟨fun b o e n hb hx=>?_,fun b o e n hb hx=>?_,I.base.free,fun b o e hx=>?_,I.base.tups,I.base.frzs,I.base.tbls⟩,?_,fun x c e=>?_,I.free,I.freeC,fun p hpp=>?_,fun b u q=>?_,I.len⟩
 ·have q:=I.base.keep b o e n hb hx;refine k.keep b o q (old b (Heap.lt_size e) hb) fun z=>?_;obtain ⟨n1,_,⟨o',vs,e1,e2⟩,_⟩:=hr b z;rw [q] at e1; cases e1;exact n1 o vs e n hb hx e2
 ·obtain ⟨sl,q⟩:=I.base.slot b o e n hb hx;obtain ⟨_,o',ho,hd⟩:=I.funs.mem hb;rw [q] at ho; cases ho;obtain ⟨sl2,q2⟩:=k.slot b _ q (insub b hb) (norec b _ q hd);exact ⟨sl2,q2⟩
 ·obtain ⟨o',q⟩:=I.base.there b o e hx;exact k.there b o' q
 ·obtain ⟨m,⟨o,es,ep,ho,hd,r⟩,hl⟩:=I.loc;obtain ⟨sl,e1⟩:=k.plain ho (norec _ o ho fun vs z=>by rw [hd] at z; cases z);refine ⟨m,⟨_,es,ep,e1,hd,r⟩,fun i x v h1 h2 h3=>?_⟩;obtain ⟨u,r1,l⟩:=hl i x v h1 h2 h3;refine ⟨u,r1,?_⟩;rcases l with l | ⟨l1,c,l2,l3⟩
  ·exact .inl l
  ·exact .inr ⟨l1,c,l2,cellk l3⟩
 ·obtain ⟨v,q⟩:=I.cell x c e;exact ⟨v,cellk q⟩
 ·obtain ⟨e,n,ne,nf,d⟩:=I.pin p hpp;refine ⟨k.keep p.1 p.2 e (fun z=>?_) (fun z=>(hr p.1 z).2.2.2 p hpp rfl),n,ne,nf,d⟩;rcases mem_cons.mp (I.stkSub _ z) with w | w
  ·exact ne w
  ·exact nf w
 ·refine (I.hok b u q).stay (fun c v hc e=>?_) (fun _ z=>z) fun _ _ z=>z;have hH:H c≠none:=by
   rcases hc with rfl | hc
   ·rw [q]; intro z; cases z
   ·rw [hc]; intro z; cases z
  exact k.keep c v e (fun z=>hH (I.stkFree c z)) fun z=>hH (hr c z).2.1
noncomputable def gW (P:Program) (w:World):mO:=fun outer H s E e s'=>∃a Cv H',e=.ref a/\s'.os=s.os/\AllBare s'.gens/\Un (frs outer) [] H H' s.heap s'.heap/\HOk P w H' s'.heap/\∃dd,Fly s.heap H' s'.heap a (Cv,dd)/\E Cv dd H'
noncomputable def rJ (K:Frag) (F:List D->Res D):Sp:=fun vs H Q E=>∃ds,Reps K H ds vs/\match F ds with
 | .stuck=>False
 | .ok d=>∀v H',Same H H'->Rep K H' d v->Q v H'
 | .err x=>∀C H' dd,nsIn K mainGlobals x.cls=some (some (.ref C))->Same H H'->Aj K H' x dd->E (.ref C) dd H'
section
variable {X:Cx} {k:Nat} {f:Addr} {fd:FuncData} {ps:List Str} {F:List D->Res D} {x:Str} {p pos:Pos} {e:Expr} {es:List Expr} {fs:DS->Res (List D)}
theorem M9 (Fn:FnOk X.prog X.w X.K X.mg X.base (gW X.prog X.w) k f fd ps (rJ X.K F)) (hr:Room k X.A) (hg:Gl X x) (hm:X.mg x=some (.ref f)) (hk:keepIn X.K (.ref f)=true) (hb:Binds X.K fd ps []) (ha:PAD X (e :: es) fs)
  (hdb:(x == ("__debug__" : Str))=false:=by decide) (he:starEach (e :: es) X.env=(false,eval e X.env) :: starEach es X.env:=by rfl) (hpl:(backTo pos (starEach es X.env)).any (·.1)=false:=by rfl) :
  PD X (.Call (.Name x p) (e :: es) [] pos) (fun δ=>(fs δ).bind F):=by
 intro pins s σ G H δ I R hs
 try dsimp only at hs ⊢
 refine wpAny_Call_Name_kw (vG I hg hm ?_ hdb);refine callWith_K (h₀:=X.base) I.ok.mod.kin hk (ha.use I R (dY hs) (fun ds us s1 vs H1 q I1 r1 e1 b1 p1=>⟨I1.kIn,?_⟩) fun e s1 q=>q.same fun x z=>fL z) he hpl;have h2:=fY hs q;have ev:(fs δ).bind F=F ds:=by rw [q]; rfl
 cases qg:F ds with
 | stuck=>exact (h2 qg).elim
 | ok d =>
  have hsp:rJ X.K F vs H1 (fun v H'=>Same H1 H'/\Rep X.K H' d v) (fun _ _ _=>False):=⟨ds,p1,by rw [qg]; exact fun v H' a b=>⟨a,b⟩⟩;have hl:us.length=ps.length:=by rw [<- r1.length]; exact Fn.len _ _ _ _ hsp
  refine wpAny_call (codeAny_mono (Fn.run X.A X.stack s1 H1 ⟨us,[]⟩ us vs _ _ hr I1.env0 (by simpa using hb s1 us I1.kIn (by simpa using hl)) r1 hsp) fun r s' hq=>?_)
  cases r with
  | error e=>obtain ⟨_,_,_,_,_,_,_,_,_,_,z⟩:=hq; exact z.elim
  | ok fl =>
   cases fl with
   | ret u =>
    obtain ⟨v,H',I',r',e',p'⟩:=I1.after hq;exact ⟨d,v,H',ev.trans qg,I',r',e1.trans e',p'⟩
   | next=>exact False.elim hq
   | brk=>exact False.elim hq
   | cont=>exact False.elim hq
 | err z =>
  have hsp:rJ X.K F vs H1 (fun v H'=>False) (fun Cv dd H'=>∃C,Cv=.ref C/\nsIn X.K mainGlobals z.cls=some (some (.ref C))/\Same H1 H'/\Aj X.K H' z dd):=⟨ds,p1,by rw [qg]; exact fun C H' dd a b c=>⟨C,rfl,a,b,c⟩⟩;have hl:us.length=ps.length:=by rw [<- r1.length]; exact Fn.len _ _ _ _ hsp
  refine wpAny_call (codeAny_mono (Fn.run X.A X.stack s1 H1 ⟨us,[]⟩ us vs _ _ hr I1.env0 (by simpa using hb s1 us I1.kIn (by simpa using hl)) r1 hsp) fun r s' hq=>?_)
  cases r with
  | error e =>
   obtain ⟨a,Cv,H',rfl,os,bare,un,hok,dd,fly,C,rfl,hC,sm,pay⟩:=hq;exact ⟨z,a,C,H',ev.trans qg,rfl,I1.call' (ch:=[]) os un hok bare (fun b z=>absurd z (by simp)),e1.trans sm,hC,dd,pay,fly.back e1.tk sm.tk b1⟩
  | ok fl =>
   cases fl with
   | ret u =>
    obtain ⟨v,H',_,_,_,_,_,z⟩:=hq;exact z.elim
   | next=>exact False.elim hq
   | brk=>exact False.elim hq
   | cont=>exact False.elim hq
end
noncomputable def dj (n N:Nat) (ds:List D):DS:=ds.map (fun d=>some (.arg d)) ++ List.replicate (N - n) none
noncomputable def outD:Out->Res D
 | .ret d=>.ok d
 | .nxt _=>.ok .non
 | .err x _=>.err x
 | _=>.stuck
noncomputable def bF (n N:Nat) (body:DS->Out):List D->Res D:=fun ds=>if ds.length=n then outD (body (dj n N ds)) else .stuck
theorem G7 {K:Frag} {H:Hp} {ds:List D} {vs:List V} (N:List Str) (r:Reps K H ds vs):RepSt K H H (start N vs) (dj ds.length N.length ds):=by
 have hl:=r.length;refine ⟨Same.refl H,?_,fun i sv e=>?_,fun i j as es v hij e1 e2=>?_⟩
 ·unfold L2.start dj;simp [hl]
 ·unfold dj at e
  by_cases hi:i < ds.length
  ·rw [List.getElem?_append_left (by simpa using hi),List.getElem?_map] at e
   cases q:ds[i]? with
   | none=>rw [q] at e; cases e
   | some d =>
    rw [q] at e;simp only [Option.map_some,Option.some.injEq] at e;subst e;obtain ⟨v,e1,e2⟩:=r.get q;refine ⟨v,?_,e2⟩;unfold L2.start;rw [List.getElem?_append_left (by simpa [hl] using hi),List.getElem?_map,e1];rfl
  ·rw [List.getElem?_append_right (by simpa using hi),List.getElem?_replicate] at e
   split at e <;> cases e
 ·exfalso;unfold dj at e1
  by_cases hi:i < ds.length
  ·rw [List.getElem?_append_left (by simpa using hi),List.getElem?_map] at e1
   cases q:ds[i]? with
   | none=>rw [q] at e1; cases e1
   | some d=>rw [q] at e1; cases e1
  ·rw [List.getElem?_append_right (by simpa using hi),List.getElem?_replicate] at e1
   split at e1 <;> cases e1
section
variable {P:Program} {w:World} {K:Frag} {mg:Str->Option Value} {base:Heap}
theorem ey' {N:List Str} {qual:Str} {scope:Scope} {f:Addr} {cdv:Value} {A:Around} {outer:List Env} {s:Shared} {H:Hp} {E:XK} {pins:List (Addr×Obj)} {σ':St} {H':Hp} {s':Shared} {a:Addr} {Cv:Value}
  (I:Inv (dW (gW P w) P w K mg base N qual scope f cdv A outer s H E) pins σ' H' s') {dd:Option Addr} (fl:Fly s.heap H' s'.heap a (Cv,dd)) (hE:E Cv dd H') :
  (dW (gW P w) P w K mg base N qual scope f cdv A outer s H E).xe (.ref a) s':=by
 show wpAny (model P w) (A.deeper (envOfC qual scope s.heap.objs.size f cdv)) (leaving (envOfC qual scope s.heap.objs.size f cdv) (.ref a)) (fun _ s''=>gW P w outer H s E (.ref a) s'') _ s';have hz:s.heap.objs.size<=s'.heap.objs.size:=I.sz;have hn:∀b,s'.heap.objs.size<=b->H' b=none:=fun b hb=>I.hok.fresh hb;unfold leaving;refine wpAny_bind (ev' (base:=base) I.ok.frames I.stack rfl hz hn fl fun h2 k2 f2 _=>?_);have I0:Inv (dW (gW P w) P w K mg base N qual scope f cdv A outer s H E) [] σ' H' s':=I.pins_of fun p hp=>absurd hp (by simp);have J:=I0.kf (h':=h2) (t':=s'.toks) k2 fun b hx=>by
  obtain ⟨n1,n2,n3⟩:=fl.ex hx;exact ⟨fun o vs e _ _ _=>n1 o vs e,n2,n3,fun p hp=>absurd (show p∈([]:List (Addr×Obj)) ++ [] from hp) (by simp)⟩
 exact ⟨a,Cv,H',rfl,I.os,I.bare,J.base,J.hok,dd,f2.fly,hE⟩
noncomputable def tB (X:Cx) (f:DS->Out):TS:=fun D σ H=>∃G δ,RepSt X.K G H σ δ/\f δ≠.stuck/\(∀pins fl s1,SPost X pins G H (f δ) fl s1->SP X pins D fl s1)/\∀pins s2 e s1,Inv X pins σ H s2->SX X pins G H s2.heap (f δ) e s1->X.xe e s1
theorem PSDs.tb {X:Cx} {st:List Stmt} {f:DS->Out} (h:PSDs X st f):PSs X st (tB X f):=by
 intro pins s σ H D I ⟨G,δ,R,n,k1,k2⟩;exact wpAny_mono (h pins s σ G H δ I R n) (fun fl s1 p=>k1 pins fl s1 p) fun e s1 p=>k2 pins s e s1 I p
theorem G8 {x qual:Str} {st:Stmt} {f:Addr} {fd:FuncData} {N ps:List Str} {k:Nat} {body:DS->Out} (F:Fun K x qual st f fd) (S:FnScope N ps (aq st))
  (hb:∀(cdv:Value) (A:Around) (outer:List Env) (s:Shared) (H:Hp) (E:XK),Room k (A.deeper (envOfC qual (aq st) s.heap.objs.size f cdv))->PSDs (dW (gW P w) P w K mg base N qual (aq st) f cdv A outer s H E) (aV st) body) :
  FnOk P w K mg base (gW P w) (k + 1) f fd ps (rJ K (bF ps.length N.length body)):=by
 obtain ⟨oc,od,kV,doc,pm,an,cdv,ct,osl,rfl,lk,hcd⟩:=F.ex;refine Ag lk hcd S (fun vs H Q E ⟨ds,r,h⟩=>?_) fun A outer s H vs Q E hr hsp=>?_
 ·rw [r.length];unfold bF at h
  by_cases c:ds.length=ps.length
  ·exact c
  ·rw [if_neg c] at h; exact h.elim
 ·obtain ⟨ds,r,h⟩:=hsp;have c:ds.length=ps.length:=by
   unfold bF at h
   by_cases c:ds.length=ps.length
   ·exact c
   ·rw [if_neg c] at h; exact h.elim
  have ev:bF ps.length N.length body ds=outD (body (dj ds.length N.length ds)):=by unfold bF; rw [if_pos c,c]
  rw [ev] at h;refine ⟨_,(hb cdv A outer s H E hr).tb,H,dj ds.length N.length ds,G7 N r,fun z=>?_,fun pins fl s1 p=>?_,fun pins s2 e s1 I p=>?_⟩
  ·rw [z] at h; exact h
  ·cases fl with
   | next =>
    obtain ⟨δ',σ',H',q1,q2,q3,q4⟩:=p;rw [q1] at h;exact ⟨σ',H',q2,h .non H' q4.same GC⟩
   | brk=>obtain ⟨δ',σ',H',q1,_⟩:=p; rw [q1] at h; exact h.elim
   | cont=>obtain ⟨δ',σ',H',q1,_⟩:=p; rw [q1] at h; exact h.elim
   | ret u =>
    obtain ⟨d,v,σ',H',q1,q2,q3,q4,q5,q6⟩:=p;rw [q1] at h;exact ⟨v,σ',H',q2,q5,h v H' q4 q6⟩
  ·obtain ⟨x,δ',a,C,σ',H',q1,rfl,q3,q4,q5,q6,dd,pay,q7⟩:=p;rw [q1] at h;refine ey' q3 ?_ (h C H' dd q6 q5.same pay);refine q7.back (h0:=s.heap) (H0:=H) (H1:=H) (TK.refl H) q4 fun e n z o vs ho hd=>?_
   by_cases hf:e∈frs outer
   ·obtain ⟨_,o',ho',hd'⟩:=I.ok.funs.mem hf;have ho2:s.heap.get? e=some o':=ho';rw [ho] at ho2
    cases ho2
    exact hd' vs hd
   ·exact z o vs (I.base.keep e o ho n hf (by intro z; exact absurd z (by show e∉([]:List Addr); simp))) hd
end
theorem hY' {K:Frag} {h₀:Heap} {mg:Str->Option Value} {x:Str} {C:Addr} {bmB:List Value} {newId:String} (X:K.In h₀) (hm:mg x=some (.ref C)) (q:excIn K C bmB newId=true):OwnCls x C bmB newId mg h₀:=by
 refine ⟨hm,?_⟩;unfold excIn at q
 split at q
 ·rename_i dd cd sl ho
  split at q
  ·rename_i C' bm k0 k1 k2 k3 n k5 hm hs;simp only [Bool.and_eq_true,beq_iff_eq,Bool.not_eq_true'] at q;obtain ⟨⟨⟨⟨⟨rfl,rfl⟩,hdel⟩,ht⟩,hok⟩,hni⟩:=q;obtain ⟨nm,bs,mro,ns,qn,hd,sn,sub,ab,col,del⟩:=cd;dsimp only at hm hdel hok hni;subst hm hdel;have hsl:sl = #[k0,k1,k2,k3,some (.builtin n),k5]:=by
    obtain ⟨l⟩:=sl;simp only at hs;rw [hs]
   subst hsl;exact ⟨bm,ns,nm,qn,bs,hd,sn,sub,ab,col,dd,k0,k1,k2,k3,k5,_,X _ _ ho,.of_isNs (isNs_of_in X hok),nsMap_none_of_in X hok hni,tail_of_in X ht⟩
  ·cases q
 ·cases q
noncomputable def fQ (x:Str) (fs:DS->Res (List D)):DS->Out:=fun δ=>match fs δ with
 | .ok _=>.err ⟨x,none⟩ δ
 | .err y=>.err y δ
 | .stuck=>.stuck
section
variable {X:Cx} {e:Expr} {es:List Expr} {fs:DS->Res (List D)} {np cpos pos:Pos} {x:Str} {C:Addr} {B newId initId:String} {bmB:List Value}
theorem CK (hc:X.calm=true) (FB:ExcBaseFacts B newId initId bmB) (hx:nsIn X.K mainGlobals x=some (some (.ref C))) (q:excIn X.K C bmB newId=true) (hg:Gl X x) (hm:X.mg x=some (.ref C)) (ha:PAD X (e :: es) fs) (hsz:(e :: es).length<=100)
  (hdb:(x == ("__debug__" : Str))=false:=by decide) (he:starEach (e :: es) X.env=(false,eval e X.env) :: starEach es X.env:=by rfl) (hplain:(backTo cpos (starEach es X.env)).any (·.1)=false:=by rfl) (hlen:∀δ ds,fs δ=.ok ds->ds.length<=sizeLine) :
  PSD X (.Raise (some (.Call (.Name x np) (e :: es) [] cpos)) none pos) (fQ x fs):=by
 intro pins s σ G H δ I R hs
 try dsimp only at hs ⊢
 have hs':fs δ≠.stuck:=fun z=>hs (by unfold fQ; rw [z]);obtain ⟨tl,N,nm,qn,bs,hdct,sn,sub,ab,col,dd,k0,k1,k2,k3,k5,mN,hC,hN,hni,T⟩:=(hY' I.ok.mod.kin hm q).obj;refine wpAny_Raise_call_subT (C:=C) (nm:=nm) (q:=qn) (N:=N) (bs:=bs) (bm:=tl) (hdct:=hdct) (sn:=sn) (sub:=sub) (ab:=ab) (col:=col) (dd:=dd) (k0:=k0) (k1:=k1) (k2:=k2) (k3:=k3) (k5:=k5)
  FB (mN:=mN) (T.hasType FB.hasBase) (I.ok.hd hc) (by rw [he]; show (false || (backTo cpos (starEach es X.env)).any (·.1))=false; rw [hplain]; rfl) hni (vG I hg hm ⟨rfl,?_⟩ hdb)
 have ha':=fun {P:List Value->Shared->Prop} {E:Value->Shared->Prop} k kx=>PAD.use (pos:=cpos) (P:=P) (E:=E) ha I R hs' k kx;rw [he] at ha' ⊢;refine Calls.evalArgs_plain (ha' (fun ds us s1 vs H1 q1 I1 r1 e1 b1 p1=>⟨rfl,?_,I1.bk _ _ hC,hN.keeps I1.bk,T.keeps I1.bk,fun h' a hme=>?_⟩) fun e s1 p=>?_)
 ·rw [<- r1.length,p1.length]; exact hlen δ ds q1
 ·obtain ⟨t,ht,ht2,ht3⟩:=hme.there;have hn:H1 a=none:=by
   cases z:H1 a with
   | none=>rfl
   | some u =>
    obtain ⟨ob,q⟩:=obj_some (I1.hok a u z);rw [hme.new] at q; cases q
  refine ⟨⟨x,none⟩,δ,a,C,σ,H1,by unfold fQ; rw [q1],rfl,I1.kept (t':=s1.toks) hme.keeps,e1.tk,R.mono e1,hx,?_⟩;refine ⟨none,rfl,b1 a (e1.free hn) (fun o vs ho=>by rw [hme.new] at ho; cases ho),hn,_,_,_,ht,⟨rfl,rfl⟩,rfl,rfl,.inl rfl⟩
 ·exact p.sx R fun x z=>by unfold fQ; rw [z]
end
theorem _root_.L2.Inv.goes {X:Cx} {pins:List (Addr×Obj)} {σ:St} {H:Hp} {s:Shared} {M:Model} {A:Around} {E:Value->Shared->Prop} {Q:Unit->Shared->Prop} {i:Nat} {n:Str} {pos:Pos}
  (I:Inv X pins σ H s) (hN:X.N.Nodup) (hi:X.N[i]? = some n) (hk:X.env.scope.names.lookup n=some .local) (h:∀s',Inv X pins (σ.set i none) H s'->Q () s'):wpAny M A (do bindName X.env n .none; unbindBehindTheSuite X.env n pos) Q E s:=by
 obtain ⟨m,hn,hl⟩:=id I.loc;have hcls:(X.env.scope.kind == .class || (X.env.scope.kind == .module && X.env.locals != X.env.globals))=false:=by rw [I.ok.kind]; rfl
 have cne:=I.cne;refine wpAny_nameGoes_keeps hk hn hcls fun h' v hn' hs=>h _ ?_;obtain ⟨oL,_,_,hoL,_⟩:=id hn;have tracked:HOk X.prog X.w H h':=fun b ob e=>by
  refine (I.hok b ob e).stay (fun c w' hc q=>(hs.2 c ?_).trans q) (fun _ q=>q) fun _ _ q=>q
  rintro rfl
  rcases hc with rfl | hc
  ·rw [I.free] at e; cases e
  ·rw [I.free] at hc; cases hc
 refine ⟨I.ok,I.os,I.bare,⟨fun b o e n hb hx=>?_,fun b o e n hb hx=>?_,I.base.free,fun b o e hx=>?_,I.base.tups,I.base.frzs,I.base.tbls⟩,⟨_,hn',fun j y v' e1 e2 e3=>?_⟩,fun y c e=>?_,I.free,I.freeC,fun p hp=>?_,tracked,by simpa using I.len⟩
 ·exact (hs.2 b (Nat.ne_of_lt (Nat.lt_of_lt_of_le (Heap.lt_size e) I.ok.above))).trans (I.base.keep b o e n hb hx)
 ·obtain ⟨sl,e1⟩:=I.base.slot b o e n hb hx;exact ⟨sl,(hs.2 b (Nat.ne_of_lt (Nat.lt_of_lt_of_le (Heap.lt_size e) I.ok.above))).trans e1⟩
 ·obtain ⟨o',e1⟩:=I.base.there b o e hx;exact ⟨o',(hs.2 b (Nat.ne_of_lt (Nat.lt_of_lt_of_le (Heap.lt_size e) I.ok.above))).trans e1⟩
 ·by_cases hj:j=i
  ·subst hj;rw [List.getElem?_set] at e2
   split at e2
   ·split at e2 <;> cases e2
   ·rename_i z; exact absurd rfl z
  ·rw [List.getElem?_set_ne (Ne.symm hj)] at e2;obtain ⟨u',r',q⟩:=hl j y v' e1 e2 e3;refine ⟨u',r',?_⟩;rcases q with ⟨k,e⟩ | ⟨k,c,e,z⟩
   ·refine .inl ⟨k,?_⟩;have:y≠n:=fun e=>hj (BR hN e1 (e ▸ hi));simp [this,e]
   ·exact .inr ⟨k,c,e,z.sameBut hs (cne y c e)⟩
 ·obtain ⟨w',z⟩:=I.cell y c e;exact ⟨w',z.sameBut hs (cne y c e)⟩
 ·obtain ⟨e,n,ne,nf,d⟩:=I.pin p hp;exact ⟨(hs.2 p.1 ne).trans e,n,ne,nf,d⟩
theorem RepSt.clear {K:Frag} {G H:Hp} {σ:St} {δ:DS} (R:RepSt K G H σ δ) (i:Nat):RepSt K G H (σ.set i none) (δ.set i none) where
 same:=R.same
 len:=by simpa using R.len
 at_:=fun j sv e=>by
  by_cases hj:i=j
  ·subst hj;rw [List.getElem?_set] at e
   split at e
   ·split at e <;> cases e
   ·rename_i z; exact absurd rfl z
  ·rw [List.getElem?_set_ne hj] at e;obtain ⟨u,e1,e2⟩:=R.at_ j sv e;exact ⟨u,by rw [List.getElem?_set_ne hj]; exact e1,e2⟩
 sep:=fun j k ds es u hjk e1 e2 e3=>by
  have n1:i≠j:=by
   rintro rfl
   rw [List.getElem?_set] at e1
   split at e1
   ·split at e1 <;> cases e1
   ·omega
  have n2:i≠k:=by
   rintro rfl
   rw [List.getElem?_set] at e2
   split at e2
   ·split at e2 <;> cases e2
   ·omega
  rw [List.getElem?_set_ne n1] at e1 e3;rw [List.getElem?_set_ne n2] at e2;rw [List.getElem?_set_ne n2];exact R.sep j k ds es u hjk e1 e2 e3
abbrev _root_.L2.Cx.marked (X:Cx) (a:Addr):Cx:={ X with A:=X.A.mark (some (.ref a)),calm:=false }
theorem _root_.L2.Inv.marked {X:Cx} {pins:List (Addr×Obj)} {σ:St} {H:Hp} {s:Shared} (I:Inv X pins σ H s) (a:Addr):Inv (X.marked a) pins σ H s :=
 ⟨⟨I.ok.mod,I.ok.kind,I.ok.glob,I.ok.blt,I.ok.above,I.ok.inj,I.ok.has,I.ok.cab,fun z=>(by cases z),I.ok.frames,I.ok.stk,I.ok.exf,I.ok.bs,I.ok.bsz,I.ok.noex,I.ok.exfs,I.ok.funs,I.ok.frf⟩,I.os,I.bare,I.base,I.loc,I.cell,I.free,I.freeC,I.pin,I.hok,I.len⟩
theorem _root_.L2.Inv.unmarked {X:Cx} {pins:List (Addr×Obj)} {σ:St} {H:Hp} {s:Shared} {a:Addr} (ok:X.Ok) (I:Inv (X.marked a) pins σ H s):Inv X pins σ H s :=
 ⟨ok,I.os,I.bare,I.base,I.loc,I.cell,I.free,I.freeC,I.pin,I.hok,I.len⟩
theorem _root_.L2.Inv.track {X:Cx} {pins:List (Addr×Obj)} {σ:St} {H:Hp} {s:Shared} {a:Addr} {o:HO} (I:Inv X pins σ H s) (hn:H a=none) (h0:∀ob,X.s₀.heap.get? a=some ob->X.H₀ a=none->a∈X.ex) (hl:a≠X.env.locals) (hc:∀x c,X.env.cells.lookup x=some c->c≠a) (hp:∀p∈X.pn ++ pins,p.1≠a)
  (new:ObjOk X.prog X.w (upd H a o) s.heap a o):Inv X pins σ (upd H a o) s:=by
 refine ⟨I.ok,I.os,I.bare,⟨I.base.keep,I.base.slot,fun b ob e n hx=>?_,I.base.there,fun b xs e=>?_,fun b ob u e=>?_,fun b ps e=>?_⟩,I.loc,I.cell,?_,fun x c e=>?_,fun p hpp=>?_,fun b u q=>?_,I.len⟩
 ·rw [bT (fun z=>?_)]
  ·exact I.base.free b ob e n hx
  ·subst z;exact hx (h0 ob e n)
 ·rw [bT (nM (I.base.tups b xs e) hn)]; exact I.base.tups b xs e
 ·rw [bT (nM (I.base.frzs b ob u e) hn)]; exact I.base.frzs b ob u e
 ·obtain ⟨more,q⟩:=I.base.tbls b ps e;exact ⟨more,by rw [bT (nM q hn)]; exact q⟩
 ·rw [bT (Ne.symm hl)]; exact I.free
 ·rw [bT (hc x c e)]; exact I.freeC x c e
 ·obtain ⟨e,n,ne,nf,d⟩:=I.pin p hpp;exact ⟨e,by rw [bT (hp p hpp)]; exact n,ne,nf,d⟩
 ·by_cases hb:b=a
  ·subst hb; rw [dR] at q; cases q; exact new
  ·rw [bT hb] at q;refine (I.hok b u q).stay (fun c v _ e=>e) (fun c z=>?_) fun c xs z=>?_
   ·rw [bT (nM z hn)]; exact z
   ·rw [bT (nM z hn)]; exact z
noncomputable def Exn.toD (x:Exn):D:=match x.pay with
 | none=>.exc x.cls
 | some (f,d)=>.excf x.cls f d
noncomputable def gm (i:Nat) (sub:Str->Option Bool) (fb fsu:DS->Out):DS->Out:=fun δ=>match fb δ with
 | .err x δ'=>(match sub x.cls with
  | some true=>(match fsu (δ'.set i (some (.val x.toD))) with
   | .nxt δ2=>.nxt (δ2.set i none)
   | .ret d=>.ret d
   | _=>.stuck)
  | _=>.stuck)
 | o=>o
noncomputable def noObjs (h:Heap):Heap:={ h with objs:=#[] }
theorem G9 (h:Heap) (b:Addr):dX (noObjs h) b:=fun o vs e=>absurd (Heap.lt_size e) (Nat.not_lt_zero _)
section
variable {X:Cx} {body suite:List Stmt} {b₀:Stmt} {fb fsu:DS->Out} {sub:Str->Option Bool} {n c:Str} {C':Addr} {cp hpos pos:Pos}
theorem lv' (i:Nat) (hcalm:X.calm=true) (hst:X.stack=X.env :: X.outer/\X.env.frame=some X.env.locals) (hN:X.N.Nodup) (hcn:Gl X c) (hcm:X.mg c=some (.ref C'))
  (hsub:∀x C,nsIn X.K mainGlobals x=some (some (.ref C))->sub x=some true->exmOne X.K (.ref C) (.ref C')=some true) (hb:PSDs X body fb) (hsu:∀a,PSDs (X.marked a) (b₀ :: suite) fsu)
  (hi:X.N[i]? = some n:=by rfl) (hk:X.env.scope.names.lookup n=some .local:=by rfl) (hdb:(c == ("__debug__" : Str))=false:=by decide) :
  PSD X (.Try body [.ExceptHandler (some (.Name c cp)) (some n) (b₀ :: suite) hpos] [] [] pos) (gm i sub fb fsu):=by
 intro pins s σ G H δ I R hs;have hfb:fb δ≠.stuck:=fun z=>hs (by unfold gm; rw [z]);refine wpAny_Try_except (GP (fun pins I=>hb pins s σ G H δ I R hfb) I (fun fl s1 p b=>?_) fun e s1 p=>?_)
 ·cases fl with
  | next=>obtain ⟨δ',σ',H',q1,q2⟩:=p; exact wpAny_execs_nil ⟨δ',σ',H',by unfold gm; rw [q1],q2⟩
  | brk=>obtain ⟨δ',σ',H',q1,q2⟩:=p; exact ⟨δ',σ',H',by unfold gm; rw [q1],q2⟩
  | cont=>obtain ⟨δ',σ',H',q1,q2⟩:=p; exact ⟨δ',σ',H',by unfold gm; rw [q1],q2⟩
  | ret u=>obtain ⟨d,v,σ',H',q1,q2⟩:=p; exact ⟨d,v,σ',H',by unfold gm; rw [q1],q2⟩
 ·obtain ⟨x,δ',a,C,σ',H',q1,rfl,I1,tk1,R1,hC,dd,pay,fly⟩:=p;have hsx:sub x.cls=some true:=by
   cases z:sub x.cls with
   | none=>exact (hs (by unfold gm; rw [q1]; simp only [z])).elim
   | some k =>
    cases k with
    | true=>rfl
    | false=>exact (hs (by unfold gm; rw [q1]; simp only [z])).elim
  have ev:gm i sub fb fsu δ=(match fsu (δ'.set i (some (.val x.toD))) with
   | .nxt δ2=>.nxt (δ2.set i none)
   | .ret d=>.ret d
   | _=>.stuck):=by unfold gm; rw [q1]; simp only [hsx]
  have hfs:fsu (δ'.set i (some (.val x.toD)))≠.stuck:=fun z=>hs (by rw [ev,z]);have flyE:Fly (noObjs s.heap) H' s1.heap a (.ref C,dd):=by
   obtain ⟨_,w2,oe,vs,a0,w3,w4,w5,w6,w7⟩:=fly;refine ⟨G9 _ _,w2,oe,vs,a0,w3,w4,w5,w6,?_⟩;rcases w7 with w7 | ⟨T,oT,ts,z1,z2,z3⟩
   ·exact .inl w7
   ·exact .inr ⟨T,oT,ts,z1,G9 _ _,z3⟩
  have own:∀b,eE s1.heap a b->(∀o,X.s₀.heap.get? b=some o->X.H₀ b=none->b∈X.ex)/\H' b=none/\(∃o vs,s1.heap.get? b=some o/\o.data=.fields vs)/\∀p∈X.pn ++ pins,p.1≠b:=fun b hx=>by
   obtain ⟨n1,n2,o1,vs1,g1,d1⟩:=fly.ex hx;refine ⟨fun o e n=>?_,n2,⟨o1,vs1,g1,d1⟩,fun p hp z=>?_⟩
   ·by_cases hxx:b∈X.ex
    ·exact hxx
    ·exfalso
     by_cases hf:b∈X.fs
     ·exact I1.fs_rec hf g1 d1
     ·have k1:=I1.base.keep b o e n hf hxx;have k0:=I.base.keep b o e n hf hxx;rw [g1] at k1; cases k1;exact n1 o1 vs1 k0 d1
   ·subst z;have k1:=(I1.pin p hp).1;have k0:=(I.pin p hp).1;rw [g1] at k1;rw [<- Option.some.inj k1] at k0;exact n1 o1 vs1 k0 d1
  have hfr:X.A.frames=some (X.env :: X.outer):=by rw [I.ok.frames,hst.1]
  have hfun:s1.heap.FunFrames X.base (X.env :: X.outer):=by have:=I1.stack; rw [hst.1] at this; exact this
  have hfs':(X.env :: X.outer).filterMap (·.frame)=frs X.stack:=by rw [hst.1]; rfl
  refine ev' (base:=X.base) hfr hfun hst.2 (Nat.zero_le _) (fun b hb=>I1.hok.fresh hb) flyE fun h2 k2 f2 new2=>?_;rw [hfs'] at k2;have J:=I1.kf (t':=s1.toks) k2 fun b hx=>by
   obtain ⟨w1,w2⟩:=own b hx;exact ⟨fun o vs e n _ hxx=>absurd (w1 o e n) hxx,w2⟩
  have own2:∀b,eE h2 a b->(∀o,X.s₀.heap.get? b=some o->X.H₀ b=none->b∈X.ex)/\H' b=none/\(∃o vs,h2.get? b=some o/\o.data=.fields vs)/\∀p∈X.pn ++ pins,p.1≠b:=fun b hx=>by
   obtain ⟨_,n2,n3⟩:=f2.ex hx;rcases new2 b hx with z | z
   ·subst z;obtain ⟨w1,_,_,w4⟩:=own b (.inl rfl);exact ⟨w1,n2,n3,w4⟩
   ·refine ⟨fun o e _=>absurd (Nat.lt_of_lt_of_le (Heap.lt_size e) (Nat.le_trans I1.sz z)) (Nat.lt_irrefl _),n2,n3,fun p hp w=>?_⟩;have:=Heap.lt_size (I1.pin p hp).1;rw [w] at this;exact absurd this (Nat.not_lt.mpr z)
  have exf2:=f2;obtain ⟨_,hHa,oe,vs,a0,T,oT,ts,ge,⟨ce,dde⟩,de,rest⟩:=exf2;have Jm:=J.marked a;refine wpAny_handleBy_cons (codeAny_handlers_test (vG (X:=X.marked a) Jm hcn hcm ?_ hdb)) (by intro q; cases q);have LT:Looks (model X.prog X.w) h2 (typeOf (.ref a)) (.ref C):=by
   have ce:oe.cls=.ref C:=ce;rw [<- ce];exact (Looks.ld ge).andThen .now
  refine exm_one J.kIn LT (hsub x.cls C hC hsx) _ _ _ _ (fun _ _ e=>e) ?_;refine codeAny_handlers_suite_as ?_;refine G6 (s:={ s1 with heap:=h2,toks:=s1.toks }) f2 fun h3 k3 k3' f3 in3=>?_
  have J3:Inv (X.marked a) pins σ' H' { s1 with heap:=h3,toks:=s1.toks }:=by
   have q:=L2.Inv.kf (X:=X.marked a) (s:={ s1 with heap:=h2,toks:=s1.toks }) (h':=h3) (t':=s1.toks) (a:=a) Jm ⟨fun b o hb _ hx=>k3 b o hb hx,fun b o hb _ hx=>⟨o.slots,k3 b o hb hx⟩,k3'⟩ fun b hx=>by
    obtain ⟨w1,w2⟩:=own2 b hx;exact ⟨fun o vs e n _ hxx=>absurd (w1 o e n) hxx,w2⟩
   exact q
  obtain ⟨_,_,oe3,vs3,_,_,_,_,ge3,⟨ce3,dde3⟩,de3,_⟩:=f3;have hHa':H' a=none:=hHa;have J4:=J3.track (o:=.ext (excAt a C dd)) hHa' (own a (.inl rfl)).1 (fun z=>by
    have g:h3.get? (X.marked a).env.locals=some oe3:=by rw [<- z]; exact ge3
    exact J3.locals_dict g de3) (fun y c' e z=>by
    obtain ⟨v,o,g,d⟩:=J3.cell y _ e;have g':h3.get? a=some o:=by rw [<- z]; exact g
    rw [ge3] at g'; cases g';rw [de3] at d; cases d) (own a (.inl rfl)).2.2.2
   ⟨⟨oe3,vs3,ge3,ce3,dde3,de3⟩,⟨oe3,ge3⟩,fun ha hb ⟨o,vs,g,q⟩ k=>⟨o,vs,k o g,q⟩⟩
  have sm:=gf hHa' (.ext (excAt a C dd));refine cN' (X:=X.marked a) J4 hN hi (Or.inl hk) (v:=.ref a) (u:=.ref a) rfl (fun s4 I4=>?_) (Or.inr hk);have R4:RepSt X.K G (upd H' a (.ext (excAt a C dd))) (σ'.set i (some (.ref a))) (δ'.set i (some (.val x.toD))) :=
   (R1.mono sm).set i (by
    unfold Exn.toD;unfold Aj at pay
    cases z:x.pay with
    | none =>
     rw [z] at pay;have pay:dd=none:=pay;subst pay;rw [Rep]; exact ⟨a,C,rfl,hC,dR⟩
    | some fd =>
     obtain ⟨f,d⟩:=fd;rw [z] at pay;obtain ⟨dx,u,rfl,w1,w2⟩:=pay;rw [Rep]; exact ⟨a,C,dx,u,rfl,hC,dR,sm _ _ w1,w2.mono sm⟩)
  refine wpAny_mono (hsu a pins s4 _ G _ _ I4 R4 hfs) (fun fl s5 p=>?_) fun e s5 p=>?_
  ·cases fl with
   | next =>
    obtain ⟨δ2,σ2,H2,q2,I5,t5,R5⟩:=p;refine (I5.unmarked I.ok).goes hN hi hk fun s6 I6=>?_;exact ⟨δ2.set i none,_,H2,by rw [ev,q2],I6,tk1.trans (sm.tk.trans t5),R5.clear i⟩
   | brk=>obtain ⟨δ2,σ2,H2,q2,_⟩:=p; exact (hs (by rw [ev,q2])).elim
   | cont=>obtain ⟨δ2,σ2,H2,q2,_⟩:=p; exact (hs (by rw [ev,q2])).elim
   | ret u =>
    obtain ⟨d,v,σ2,H2,q2,I5,t5,g5,r5,p5⟩:=p;refine (I5.unmarked I.ok).goes hN hi hk fun s6 I6=>?_;exact ⟨d,v,_,H2,by rw [ev,q2],I6,tk1.trans (sm.tk.trans t5),g5,r5,p5⟩
  ·obtain ⟨y,δ2,_,_,_,_,q2,_⟩:=p;exact (hs (by rw [ev,q2])).elim
end
noncomputable def bW (X:Cx) (N':List Str) (scope:Scope) (cl:List (Str×Addr)) (C:Addr) (s:Shared) (H:Hp) (fp:List Addr):Cx where
 prog:=X.prog
 w:=X.w
 K:=X.K
 mg:=X.mg
 base:=X.base
 A:=X.A
 N:=N'
 s₀:=s
 H₀:=H
 env:=compEnvC scope cl C X.env
 outer:=X.stack
 stack:=X.stack
 ex:=fp
 fn:=fun _=>false
 calm:=X.calm
 pn:=[]
 xe:=fun _ _=>False
section
variable {X:Cx} {N':List Str} {scope:Scope} {cl:List (Str×Addr)} {C:Addr} {s:Shared} {H:Hp} {fp:List Addr} {pins:List (Addr×Obj)} {σ:St}
theorem M_ (I:Inv X pins σ H s) (hk:scope.kind=.function) (hC:s.heap.objs.size<=C) (hc:∀x c,cl.lookup x=some c->X.env.cells.lookup x=some c)
  (has:∀x,((relabel scope X.env).names.lookup x=some .cell\/(relabel scope X.env).names.lookup x=some .free)->∃c,cl.lookup x=some c) (hf:∀b∈fp,fW X pins H b/\b < s.heap.objs.size):(bW X N' scope cl C s H fp).Ok where
 mod:=I.ok.mod
 kind:=hk
 glob:=I.ok.glob
 blt:=I.ok.blt
 above:=hC
 inj:=fun x y c h1 h2=>I.ok.inj x y c (hc x c h1) (hc y c h2)
 has:=has
 cab:=fun x c h=>by cases h
 hd:=I.ok.hd
 frames:=I.ok.frames
 stk:=.inl rfl
 exf:=fun b hb=>⟨Nat.ne_of_lt (Nat.lt_of_lt_of_le (hf b hb).2 hC),fun x c h=>(hf b hb).1.2.2.2.2.1 x c (hc x c h)⟩
 bs:=I.bs
 bsz:=Nat.le_trans I.ok.bsz I.sz
 noex:=fun b o e hb=>by
  obtain ⟨_,h1,h2,h3,_⟩:=(hf b hb).1;rcases h3 with z | z
  ·exact I.ok.noex b o e z
  ·exact absurd (Nat.lt_of_lt_of_le (Heap.lt_size e) (Nat.le_trans I.ok.bsz z)) (Nat.lt_irrefl _)
 exfs:=fun b hb z=>by
  obtain ⟨_,h1,h2,_⟩:=(hf b hb).1;rcases mem_cons.mp (I.stkSub b z) with w | w
  ·exact h1 w
  ·exact h2 w
 funs:=I.stack
 frf:=I.stkFree
end
noncomputable def cR (K:Frag) (J:It) (H:Hp) (ds:List D):Prop :=
 ∀H',Same H H'->(∀i d,ds[i]? = some d->J.go i H'/\∀x H'',J.yld i H' x H''->Same H' H''/\Rep K H'' d x)/\J.stop ds.length H'
noncomputable def uy (X:Cx) (pins:List (Addr×Obj)) (σ:St) (H:Hp) (tg:Expr) (r:Res (List D)) (itv:Value) (s2:Shared):Prop :=
 ∃(ds:List D) (it:Addr) (fp:List Addr) (tn:Nat->Heap->Prop) (J:It) (H':Hp),r=.ok ds/\itv=.ref it/\Inv X pins σ H' s2/\Turn X.prog X.w X.K tg J fp it tn/\tn 0 s2.heap/\(∀b∈fp,fW X pins H' b)/\Same H H'/\cR X.K J H' ds
noncomputable def PID (X:Cx) (tg iter:Expr) (f:DS->Res (List D)):Prop :=
 ∀(pins:List (Addr×Obj)) (s:Shared) (σ:St) (G H:Hp) (δ:DS),Inv X pins σ H s->RepSt X.K G H σ δ->f δ≠.stuck ->
  wpAny (model X.prog X.w) X.A (eval iter X.env) (fun v s1=>wpAny (model X.prog X.w) X.A (pyIter v) (uy X pins σ H tg (f δ)) (XPost X pins σ H s.heap (f δ)) s1) (XPost X pins σ H s.heap (f δ)) s
noncomputable def gn (x:Str):List D:=x.cps.toList.map fun c=>.str ⟨#[c]⟩
noncomputable def CN (x:Str):It :=
 ⟨fun i _=>i < x.cps.size,fun i H v H'=>H'=H/\∃c,x.cps[i]? = some c/\v=.str ⟨#[c]⟩,fun i _=>x.cps.size<=i⟩
theorem Nb {P:Program} {w:World} {K:Frag} {tg:Expr} (x:Str) (t:Tok) (it:Addr):Turn P w K tg (CN x) [it] it (fun i h=>h.IsStrIter it "str_ascii_iterator" x t i) where
 mem:=by simp
 obj:=fun i h st b hb=>by
  have e:b=it:=by simpa using hb
  subst e;obtain ⟨o,e,c,d⟩:=st;exact ⟨o,e,fun v z=>by rw [d] at z; cases z⟩
 keep:=fun i h h' st k=>by
  obtain ⟨o,e,c,d⟩:=st;exact ⟨o,k it (by simp) o e,c,d⟩
 item:=by
  intro X hP hw hK hc i pins s σ H E I hf st hg;subst hP hw hK;have hx:x.cps[i]? = some x.cps[i]:=Array.getElem?_eq_getElem hg;obtain ⟨f0,f1,f2,f3,f4,f5⟩:=hf it (by simp);refine wpAny_pyNext_ascii_item st hx fun h' st' sb=>?_;have I1:Inv X pins σ H { s with heap:=h',toks:=s.toks + 1 }:=I.turned (t':=s.toks + 1) (fun b o hb e=>(sb.2 b hb).trans e) f0 f1 f3 f4 f5
  obtain ⟨o,e,c,d⟩:=id st';exact ⟨_,rfl,Ae (s:={ s with heap:=h',toks:=s.toks + 1 }) e c d (by decide) ⟨.str ⟨#[x.cps[i]]⟩,H,I1,⟨_,rfl⟩,⟨rfl,_,hx,rfl⟩,st',fun b hb=>(hf b hb).1⟩⟩
 done:=by
  intro X hP hw hK hc i pins s σ H E I hf st hg;subst hP hw hK;obtain ⟨f0,f1,f2,f3,f4,f5⟩:=hf it (by simp);exact wpAny_pyNext_ascii_end (I.ok.hd hc) st (Array.getElem?_eq_none hg) fun h' eb=>⟨rfl,I.turned (t':=s.toks) (fun b o hb e=>eb b o hb e) f0 f1 f3 f4 f5⟩
 self:=fun _ _ _ _ _ st h=>wpAny_pyIter_striter_ascii st h
theorem Ng {K:Frag} {H:Hp} {x:Str}:cR K (CN x) H (gn x):=by
 intro H' e;refine ⟨fun i d hd=>?_,by unfold gn; simp [CN]⟩;unfold gn at hd;rw [List.getElem?_map] at hd
 cases z:x.cps.toList[i]? with
 | none=>rw [z] at hd; cases hd
 | some c =>
  rw [z] at hd
  cases hd
  have hl:i < x.cps.size:=by
   have:=List.getElem?_eq_some_iff.mp z;obtain ⟨q,_⟩:=this;simpa using q
  have hc:x.cps[i]? = some c:=by simpa using z
  refine ⟨hl,fun v H'' y=>?_⟩;obtain ⟨rfl,c',h1,rfl⟩:=y;rw [hc] at h1
  cases h1
  exact ⟨Same.refl _,by rw [Rep]⟩
noncomputable def a_:D->Res (List D)
 | .tup ds=>.ok ds
 | .lst ds=>.ok ds
 | .str x=>if x.cps.all (· < 128)=true then .ok (gn x) else .stuck
 | _=>.stuck
theorem fi' {K:Frag} {H:Hp} {a:Addr} {xs:List V} {ds:List D} {X:Cx} {pins:List (Addr×Obj)} {σ:St} {s:Shared} (hq:SqL K H a xs) (r:Reps K H ds xs):cR K (FW K a) H ds:=by
 intro H' e;have hq':=e.seq hq;have r':=r.mono e;refine ⟨fun i d hd=>?_,xs,hq',by rw [r.length]; exact Nat.le_refl _⟩;obtain ⟨v,e1,e2⟩:=r'.get hd;refine ⟨⟨xs,v,hq',e1⟩,fun x H'' y=>?_⟩;obtain ⟨rfl,y⟩:=y;have:=y xs hq';rw [e1] at this
 cases this
 exact ⟨Same.refl _,e2⟩
theorem Nh {K:Frag} {H:Hp} {a:Addr} {xs:List V} {ds:List D} (hq:SqT K H a xs) (r:Reps K H ds xs):cR K (FZ K a) H ds:=by
 intro H' e;have hq':=Ai e hq;have r':=r.mono e;refine ⟨fun i d hd=>?_,xs,hq',by rw [r.length]; exact Nat.le_refl _⟩;obtain ⟨v,e1,e2⟩:=r'.get hd;refine ⟨⟨xs,v,hq',e1⟩,fun x H'' y=>?_⟩;obtain ⟨rfl,y⟩:=y;have:=y xs hq';rw [e1] at this
 cases this
 exact ⟨Same.refl _,e2⟩
theorem uz {X:Cx} {tg iter:Expr} {f:DS->Res D} (h:PD X iter f):PID X tg iter (fun δ=>(f δ).bind a_):=by
 intro pins s σ G H δ I R hs
 try dsimp only at hs ⊢
 refine h.use I R (dY hs) (fun d u s1 v H1 q I1 r1 e1 b1 p1=>?_) fun e s1 q=>q.same fun x z=>fL z;have h2:=fY hs q
 cases d with
 | lst ds =>
  obtain ⟨a,xs,rfl,hq,r⟩:=d_ p1
  cases r1
  obtain ⟨its,rv,p,hz⟩:=I1.list hq;refine wpAny_pyIter_list p.isList ?_;refine ⟨ds,s1.heap.objs.size,[s1.heap.objs.size],_,_,H1,by rw [q]; rfl,rfl,I1.kept (t':=s1.toks) fun b o e=>Heap.get?_push_of_some _ e,hy' a _,⟨_,Heap.get?_push_size _ rfl,rfl,rfl⟩,fun b hb=>?_,e1,fi' (X:=X) (pins:=pins) (σ:=σ) (s:=s1) hq r⟩;have e:b=s1.heap.objs.size:=by simpa using hb
  subst e;exact I1.fpOk (Nat.le_refl _) (I1.hok.fresh (Nat.le_refl _))
 | tup ds =>
  obtain ⟨a,xs,rfl,hq,r⟩:=d7 p1
  cases r1
  obtain ⟨its,rv,p,hz⟩:=I1.tuple hq;refine wpAny_pyIter_tuple p ?_;refine ⟨ds,s1.heap.objs.size,[s1.heap.objs.size],_,_,H1,by rw [q]; rfl,rfl,I1.kept (t':=s1.toks) fun b o e=>Heap.get?_push_of_some _ e,K4 a _,⟨_,Heap.get?_push_size _ rfl,rfl,rfl⟩,fun b hb=>?_,e1,Nh hq r⟩;have e:b=s1.heap.objs.size:=by simpa using hb
  subst e;exact I1.fpOk (Nat.le_refl _) (I1.hok.fresh (Nat.le_refl _))
 | str x =>
  rw [kZ p1] at r1;obtain ⟨t,rfl⟩:=r1;have ha:x.cps.all (· < 128)=true:=by
   cases z:x.cps.all (· < 128) with
   | true=>rfl
   | false =>
    have h3:(if (x.cps.all fun c=>decide (c < 128))=true then Res.ok (gn x) else Res.stuck)≠.stuck:=h2
    rw [z] at h3; exact (h3 rfl).elim
  refine wpAny_pyIter_ascii ha ?_;refine ⟨gn x,s1.heap.objs.size,[s1.heap.objs.size],_,_,H1,by rw [q]; unfold a_; rw [Res.bind_ok]; simp only [ha,if_true],rfl,I1.kept (t':=s1.toks) fun b o e=>Heap.get?_push_of_some _ e,Nb x t _,⟨_,Heap.get?_push_size _ rfl,rfl,rfl⟩,fun b hb=>?_,e1,Ng⟩;have e:b=s1.heap.objs.size:=by simpa using hb
  subst e;exact I1.fpOk (Nat.le_refl _) (I1.hok.fresh (Nat.le_refl _))
 | _=>exact (h2 rfl).elim
noncomputable def uV:Option SV->Option SV
 | some sv=>some (.arg sv.view)
 | none=>none
noncomputable def cL (m:Nat) (fr:List Nat) (δ:DS):DS:=List.replicate m none ++ fr.map fun i=>(δ[i]?).elim none uV
noncomputable def mapR (g:D->Res D):List D->Res (List D)
 | []=>.ok []
 | d :: ds=>(g d).bind fun x=>(mapR g ds).bind fun xs=>.ok (x :: xs)
noncomputable def fB (t:du) (fe:DS->Res D) (δ':DS) (d:D):Res D:=match t d δ' with
 | some δ1=>(match fe δ1 with | .ok x=>.ok x | _=>.stuck)
 | none=>.stuck
noncomputable def aX (m:Nat) (fr:List Nat) (t:du) (fe:DS->Res D) (fi:DS->Res (List D)):DS->Res D:=fun δ=>(fi δ).bind fun ds=>fj (mapR (fB t fe (cL m fr δ)) ds)
noncomputable def dF (m:Nat) (t:du):Prop:=∀d δ δ1,t d δ=some δ1->δ1.length=δ.length/\∀i,m<=i->δ1[i]? = δ[i]?
theorem RepSt.weak {K:Frag} {G H:Hp} {σ:St} {δ δ1:DS} {m:Nat} (R:RepSt K G H σ δ1) (hl:δ1.length=δ.length) (hm:∀i,m<=i->δ1[i]? = δ[i]?) (hn:∀i,i < m->∀sv,δ[i]?≠some (some sv)):RepSt K G H σ δ where
 same:=R.same
 len:=R.len.trans hl
 at_:=fun i sv e=>by
  by_cases h:i < m
  ·exact (hn i h sv e).elim
  ·exact R.at_ i sv (by rw [hm i (by omega)]; exact e)
 sep:=fun i j ds es v hij e1 e2 e3=>by
  by_cases h1:i < m
  ·exact (hn i h1 _ e1).elim
  ·by_cases h2:j < m
   ·exact (hn j h2 _ e2).elim
   ·exact R.sep i j ds es v hij (by rw [hm i (by omega)]; exact e1) (by rw [hm j (by omega)]; exact e2) e3
theorem CP {m:Nat} {fr:List Nat} {δ:DS} (i:Nat) (h:i < m) (sv:SV):(cL m fr δ)[i]?≠some (some sv):=by
 unfold cL;rw [List.getElem?_append_left (by simpa using h),List.getElem?_replicate,if_pos h];intro z; cases z
noncomputable def iZ (m:Nat) (fr:List Nat) (σ:St):St:=List.replicate m none ++ fr.map fun i=>(σ[i]?).elim none id
theorem Ni {K:Frag} {G H:Hp} {σ:St} {δ:DS} (m:Nat) (fr:List Nat) (R:RepSt K G H σ δ):RepSt K H H (iZ m fr σ) (cL m fr δ) where
 same:=Same.refl H
 len:=by simp [iZ,cL]
 at_:=fun i sv e=>by
  by_cases h:i < m
  ·exact (CP i h sv e).elim
  ·unfold cL at e;unfold iZ;rw [List.getElem?_append_right (by simpa using h),List.getElem?_map] at e;rw [List.getElem?_append_right (by simpa using h),List.getElem?_map];simp only [length_replicate] at e ⊢
   cases q:fr[i - m]? with
   | none=>rw [q] at e; cases e
   | some k =>
    rw [q] at e;simp only [Option.map_some,Option.some.injEq] at e
    cases q2:δ[k]? with
    | none=>rw [q2] at e; cases e
    | some o =>
     rw [q2] at e
     cases o with
     | none=>cases e
     | some sv' =>
      simp only [Option.elim_some,uV,Option.some.injEq] at e;subst e;obtain ⟨v,e1,e2⟩:=R.view q2;exact ⟨v,by simp [e1],e2⟩
 sep:=fun i j ds es v hij e1 e2 e3=>by
  exfalso
  by_cases h:i < m
  ·exact (CP i h _ e1).elim
  ·unfold cL at e1;rw [List.getElem?_append_right (by simpa using h),List.getElem?_map] at e1;simp only [length_replicate] at e1
   cases q:fr[i - m]? with
   | none=>rw [q] at e1; cases e1
   | some k =>
    rw [q] at e1;simp only [Option.map_some,Option.some.injEq] at e1
    cases q2:δ[k]? with
    | none=>rw [q2] at e1; cases e1
    | some o =>
     rw [q2] at e1
     cases o with
     | none=>cases e1
     | some sv'=>simp [uV] at e1
theorem CQ {g:D->Res D}:∀{ds rs:List D},mapR g ds=.ok rs->rs.length=ds.length
 | [],rs,h=>by simp only [mapR,Res.ok.injEq] at h; subst h; rfl
 | d :: ds,rs,h=>by
  simp only [mapR] at h
  cases q:g d with
  | stuck=>rw [q] at h; cases h
  | err x=>rw [q] at h; cases h
  | ok x =>
   rw [q,Res.bind_ok] at h
   cases q2:mapR g ds with
   | stuck=>rw [q2] at h; cases h
   | err x=>rw [q2] at h; cases h
   | ok xs =>
    rw [q2,Res.bind_ok] at h
    cases h
    simp [CQ q2]
theorem G_ {g:D->Res D}:∀{ds rs:List D} {i:Nat} {d:D},mapR g ds=.ok rs->ds[i]? = some d->∃r,g d=.ok r/\rs[i]? = some r
 | [],rs,i,d,h,e=>by simp at e
 | d' :: ds,rs,i,d,h,e=>by
  simp only [mapR] at h
  cases q:g d' with
  | stuck=>rw [q] at h; cases h
  | err x=>rw [q] at h; cases h
  | ok x =>
   rw [q,Res.bind_ok] at h
   cases q2:mapR g ds with
   | stuck=>rw [q2] at h; cases h
   | err x=>rw [q2] at h; cases h
   | ok xs =>
    rw [q2,Res.bind_ok] at h
    cases h
    cases i with
    | zero=>simp at e; subst e; exact ⟨x,q,by simp⟩
    | succ i =>
     simp at e;obtain ⟨r,e1,e2⟩:=G_ q2 e;exact ⟨r,e1,by simpa using e2⟩
theorem CT {g:D->Res D} (hg:∀d,aM (g d)):∀ds,aM (mapR g ds)
 | []=>dD
 | d :: ds=>by
  intro x h;simp only [mapR] at h
  cases q:g d with
  | stuck=>rw [q] at h; cases h
  | err y=>exact hg d y q
  | ok y =>
   rw [q,Res.bind_ok] at h
   cases q2:mapR g ds with
   | stuck=>rw [q2] at h; cases h
   | err z=>exact CT hg ds z q2
   | ok xs=>rw [q2,Res.bind_ok] at h; cases h
theorem Nj {t:du} {fe:DS->Res D} {δ':DS} (d:D):aM (fB t fe δ' d):=by
 intro x h;unfold fB at h
 split at h
 ·split at h <;> cases h
 ·cases h
noncomputable def uA (cs:List Expr) (env:Env):Sem Bool:=match cs with
 | c :: _=>isTrue c env (eval c env)
 | []=>pure true
theorem Nk (elt target iter:Expr) (cs:List Expr) (scope:Scope) (pos:Pos) (it acc:Value) (env:Env) (hcs:cs.length<=1) :
  compTurn (.ListComp elt [⟨target,iter,cs,0⟩] scope pos) 0 it acc env=(standAt iter.pos >>= fun _=>pyNext it >>= fun r=>match r with
   | none=>pure (.done .next)
   | some v=>letOwnedTupleGo target it v >>= fun _=>assign target env v >>= fun _ =>
    uA cs env >>= fun ok=>(if ok=true then (eval elt env >>= fun x=>call (.builtin "list.append") [acc,x] >>= fun _=>pure ()) else pure ()) >>= fun _ =>
     again (.compLoop (.ListComp elt [⟨target,iter,cs,0⟩] scope pos) 0 it acc env)):=by
 match cs,hcs with
 | [],_=>rfl
 | [c],_ =>
  rw [compTurn_list];simp only [forIn_cons,forIn_nil,if_true,bind_assoc,pure_bind]
  congr 1
  funext _
  congr 1
  funext r
  cases r with
  | none=>rfl
  | some v =>
   dsimp only
   congr 1
   funext _
   congr 1
   funext _
   congr 1
   funext ok
   cases ok with
   | false=>rfl
   | true=>simp only [if_true,bind_assoc,pure_bind]
noncomputable def cW (t:du) (fc:DS->Res Bool) (fe:DS->Res D) (δ':DS) (d:D):Res D:=match t d δ' with
 | some δ1=>(match fc δ1 with
  | .ok true=>(match fe δ1 with | .ok x=>.ok (.tup [x]) | _=>.stuck)
  | .ok false=>.ok (.tup [])
  | _=>.stuck)
 | none=>.stuck
noncomputable def unI:D->List D
 | .tup xs=>xs
 | _=>[]
noncomputable def fJ (t:du) (fc:DS->Res Bool) (fe:DS->Res D) (δ':DS) (ds:List D):Res D:=if ds.length<=sizeLine then (mapR (cW t fc fe δ') ds).bind (fun rs=>Res.ok (D.lst (rs.flatMap unI))) else .stuck
noncomputable def cX (m:Nat) (fr:List Nat) (t:du) (fc:DS->Res Bool) (fe:DS->Res D) (fi:DS->Res (List D)):DS->Res D:=fun δ=>(fi δ).bind (fJ t fc fe (cL m fr δ))
theorem Ha {t:du} {fc:DS->Res Bool} {fe:DS->Res D} {δ':DS} {d r:D} (h:cW t fc fe δ' d=.ok r):∃δ1,t d δ'=some δ1/\((∃x,fc δ1=.ok true/\fe δ1=.ok x/\r=.tup [x])\/(fc δ1=.ok false/\r=.tup [])):=by
 unfold cW at h
 split at h
 ·rename_i δ1 e
  split at h
  ·rename_i q
   split at h
   ·rename_i x q2
    cases h
    exact ⟨δ1,e,.inl ⟨x,q,q2,rfl⟩⟩
   ·cases h
  ·rename_i q
   cases h
   exact ⟨δ1,e,.inr ⟨q,rfl⟩⟩
  ·cases h
 ·cases h
theorem Np {t:du} {fc:DS->Res Bool} {fe:DS->Res D} {δ':DS} (d:D):aM (cW t fc fe δ' d):=by
 intro x h;unfold cW at h
 split at h
 ·split at h
  ·split at h <;> cases h
  ·cases h
  ·cases h
 ·cases h
theorem Hb {t:du} {fc:DS->Res Bool} {fe:DS->Res D} {δ':DS}:∀{ds rs:List D},mapR (cW t fc fe δ') ds=.ok rs->(rs.flatMap unI).length<=ds.length
 | [],rs,h=>by simp only [mapR,Res.ok.injEq] at h; subst h; exact Nat.le_refl _
 | d :: ds,rs,h=>by
  simp only [mapR] at h
  cases q:cW t fc fe δ' d with
  | stuck=>rw [q] at h; cases h
  | err x=>rw [q] at h; cases h
  | ok x =>
   rw [q,Res.bind_ok] at h
   cases q2:mapR (cW t fc fe δ') ds with
   | stuck=>rw [q2] at h; cases h
   | err x=>rw [q2] at h; cases h
   | ok xs =>
    rw [q2,Res.bind_ok] at h
    cases h
    have ih:=Hb q2;obtain ⟨δ1,_,w⟩:=Ha q;have hx:(unI x).length<=1:=by rcases w with ⟨y,_,_,rfl⟩ | ⟨_,rfl⟩ <;> simp [unI]
    rw [flatMap_cons,length_append,length_cons];omega
noncomputable def Hc (X:Cx) (cs:List Expr) (f:DS->Res Bool):Prop :=
 ∀(pins:List (Addr×Obj)) (s:Shared) (σ:St) (G H:Hp) (δ:DS),Inv X pins σ H s->RepSt X.K G H σ δ->f δ≠.stuck ->
  wpAny (model X.prog X.w) X.A (uA cs X.env) (l_ X pins σ H (f δ)) (XPost X pins σ H s.heap (f δ)) s
section
variable {X:Cx} {m:Nat} {fr:List Nat} {N':List Str} {scope:Scope} {cl:List (Str×Addr)} {tg iter elt:Expr} {cs:List Expr} {pos:Pos} {t:du} {fc:DS->Res Bool} {fe:DS->Res D} {fi:DS->Res (List D)}
theorem Nq {C:Addr} {s3:Shared} {H2:Hp} {fp:List Addr} {it:Addr} {tn:Nat->Heap->Prop} {J:It} {ds rs:List D} {δ':DS} {acc:Addr} {RR:Result->Shared->Prop} (hcalm:X.calm=true)
  (T:Turn X.prog X.w X.K tg J fp it tn) (Y:cR X.K J H2 ds) (hR:mapR (cW t fc fe δ') ds=.ok rs) (hz:ds.length<=sizeLine) (hkt:dF m t) (hlow:∀i,i < m->∀sv,δ'[i]?≠some (some sv))
  (ht:PGD (bW X N' scope cl C s3 H2 (acc :: fp)) tg t) (hcs:cs.length<=1) (hc:Hc (bW X N' scope cl C s3 H2 (acc :: fp)) cs fc) (he:PD (bW X N' scope cl C s3 H2 (acc :: fp)) elt fe)
  (hacc:acc∉fp) (hfp:∀b∈acc :: fp,b≠C/\b∉frs X.stack/\∀x c,cl.lookup x=some c->c≠b)
  (fin:∀s' σ' H' ys its,Inv (bW X N' scope cl C s3 H2 (acc :: fp)) [] σ' H' s'->Same H2 H'->H' acc=none->(∀b∈fp,H' b=none)->s'.heap.PlainList acc its->Vals ys its.toList->Reps X.K H' (rs.flatMap unI) ys->RR (.ok .next) s')
  {s4:Shared} {σ0:St} {its0:Array Value} (I4:Inv (bW X N' scope cl C s3 H2 (acc :: fp)) [] σ0 H2 s4) (R4:RepSt X.K H2 H2 σ0 δ') (st4:tn 0 s4.heap) (f4:∀b∈acc :: fp,H2 b=none) (p4:s4.heap.PlainList acc #[]) :
  codeAny (model X.prog X.w) X.A (.compLoop (.ListComp elt [⟨tg,iter,cs,0⟩] scope pos) 0 (.ref it) (.ref acc) (compEnvC scope cl C X.env)) RR s4:=by
 let X':=bW X N' scope cl C s3 H2 (acc :: fp)
 have fpok:∀{H':Hp} {pn:List (Addr×Obj)},(∀b∈fp,H' b=none)->(∀b∈fp,∀p∈pn,p.1≠b)->∀b∈fp,fW X' pn H' b:=fun hn hp b hb =>
  ⟨hn b hb,(hfp b (mem_cons_of_mem _ hb)).1,(hfp b (mem_cons_of_mem _ hb)).2.1,.inl (mem_cons_of_mem _ hb),(hfp b (mem_cons_of_mem _ hb)).2.2,fun p hpp=>hp b hb p (by simpa [X',bW] using hpp)⟩
 refine codeAny_loop rfl (fun n s=>∃i σ' H' ys its,n=ds.length - i/\i<=ds.length/\Inv X' [] σ' H' s/\Same H2 H'/\RepSt X.K H2 H' σ' δ'/\tn i s.heap/\H' acc=none/\(∀b∈fp,H' b=none)/\s.heap.PlainList acc its/\Vals ys its.toList/\Reps X.K H' ((rs.take i).flatMap unI) ys/\ys.length<=i) (fun n s hI=>?_) ds.length
  ⟨0,σ0,H2,[],#[],by simp,Nat.zero_le _,I4,Same.refl _,R4,st4,f4 acc (by simp),fun b hb=>f4 b (mem_cons_of_mem _ hb),p4,.nil,by simpa using Reps.nil,Nat.le_refl _⟩
 obtain ⟨i,σ1,H1,ys,its,rfl,hi,I1,e1,R1,st1,ha1,fr1,p1,v1,r1,hyl⟩:=hI;show wpAny _ _ ((compTurn (.ListComp elt [⟨tg,iter,cs,0⟩] scope pos) 0 (.ref it) (.ref acc) (compEnvC scope cl C X.env)).onRaise (fun x=>do noteFrame x (compEnvC scope cl C X.env); theTreesLotGoes x)) _ _ s
 refine wpAny_noted ?_;rw [Nk _ _ _ _ _ _ _ _ _ hcs];refine wpAny_bind (wpAny_standAt (wpAny_bind ?_));have pk:∀{b:Addr} {o:Obj},True:=trivial
 by_cases hlt:i < ds.length
 ·obtain ⟨d,hd⟩:∃d,ds[i]? = some d:=⟨ds[i],by simp [hlt]⟩;obtain ⟨go,yl⟩:=(Y H1 e1).1 i d hd;obtain ⟨r,hg,hr⟩:=G_ hR hd;obtain ⟨δ1,ht1,hf1⟩:=Ha hg;obtain ⟨na,oa⟩:=p1;have pin1:Inv X' [(acc,({ cls:=.type "list",data:=.seq its na }:Obj))] σ1 H1 s:=I1.pins_of fun p hp=>by
   have:p=(acc,({ cls:=.type "list",data:=.seq its na }:Obj)):=by simpa using hp
   subst this;exact ⟨oa,ha1,(hfp acc (by simp)).1,(hfp acc (by simp)).2.1,fun v z=>(by cases z)⟩
  refine wpAny_mono (T.item X' rfl rfl rfl hcalm i _ s σ1 H1 _ pin1 (fpok fr1 fun b hb p hp z=>by
   have:p=(acc,({ cls:=.type "list",data:=.seq its na }:Obj)):=by simpa using hp
   subst this; exact hacc (by rw [show acc=b from z]; exact hb)) st1 go) (fun rv s5 ⟨u,hrv,h5⟩=>?_) fun _ _ z=>z
  subst hrv;refine wpAny_bind (wpAny_mono h5 (fun _ s6 ⟨x,H6,I6,rx,y6,st6,fr6⟩=>?_) fun _ _ z=>z);obtain ⟨e6,px⟩:=yl x H6 y6;have I6':=I6.pinned (fpok fr6 fun b hb p hp z=>by
   have:p=(acc,({ cls:=.type "list",data:=.seq its na }:Obj)):=by simpa using hp
   subst this; exact hacc (by rw [show acc=b from z]; exact hb)) (T.obj _ _ st6)
  have R6:=R1.mono e6;refine wpAny_bind (wpAny_mono (ht _ _ s6 σ1 H2 H6 δ' δ1 d x u I6' rx R6 px ht1) (fun _ s7 ⟨σ7,I7,R7⟩=>?_) fun _ _ z=>z);obtain ⟨hl1,hm1⟩:=hkt d δ' δ1 ht1;have R7':RepSt X.K H2 H6 σ7 δ':=R7.weak hl1 hm1 hlow;have e9:(rs.take (i + 1)).flatMap unI=(rs.take i).flatMap unI ++ unI r:=by rw [take_succ,hr]; simp
  have hfc:fc δ1≠.stuck:=by rcases hf1 with ⟨x,q,_⟩ | ⟨q,_⟩ <;> (rw [q]; intro z; cases z)
  have hfe:∀y,fc δ1≠.err y:=by rcases hf1 with ⟨x,q,_⟩ | ⟨q,_⟩ <;> (intro y; rw [q]; intro z; cases z)
  refine wpAny_bind (Cr (f:=fc) (δ:=δ1) (fun pins I=>hc pins _ _ _ _ _ I R7 hfc) I7 (fun k sk Hk qk Ik ek bk=>?_) fun e s8 q=>by obtain ⟨y,_,_,_,z,_⟩:=q; exact (hfe y z).elim);have oak:=(Ik.pin (acc,({ cls:=.type "list",data:=.seq its na }:Obj)) (by simp)).1;have hak:=(Ik.pin (acc,({ cls:=.type "list",data:=.seq its na }:Obj)) (by simp)).2.1;have fpk:∀b∈fp,∀o,s6.heap.get? b=some o->sk.heap.get? b=some o/\Hk b=none:=fun b hb o e=>by
   have q:=Ik.pin (b,o) (mem_append_right _ (mem_append_right _ (Af hb e)));exact ⟨q.1,q.2.1⟩
  cases k with
  | false =>
   have hu:unI r=[]:=by
    rcases hf1 with ⟨x,q,_⟩ | ⟨q,rfl⟩
    ·rw [q] at qk; cases qk
    ·rfl
   have Ik':Inv X' [] σ7 Hk sk:=Ik.pins_of fun p hp=>absurd hp (by simp);refine wpAny_bind (wpAny_pure (wpAny_pure ⟨rfl,ds.length - (i + 1),by omega,i + 1,σ7,Hk,ys,its,rfl,hlt,Ik',e1.trans (e6.trans ek),R7'.mono ek,?_,hak,fun b hb=>?_,⟨na,oak⟩,v1,?_,by omega⟩))
   ·refine T.keep _ _ _ st6 fun b hb o e=>(fpk b hb o e).1
   ·obtain ⟨o,e,_⟩:=T.obj _ _ st6 b hb;exact (fpk b hb o e).2
   ·rw [e9,hu,append_nil]; exact r1.mono (e6.trans ek)
  | true =>
   obtain ⟨xk,hfx,hrx⟩:∃x,fe δ1=.ok x/\r=.tup [x]:=by
    rcases hf1 with ⟨x,_,q2,q3⟩ | ⟨q,_⟩
    ·exact ⟨x,q2,q3⟩
    ·rw [q] at qk; cases qk
   subst hrx;refine wpAny_bind (wpAny_bind (he.use Ik (R7.mono ek) (by rw [hfx]; intro z; cases z) (fun d8 u8 s8 v8 H8 q8 I8 r8 e8 b8 p8=>?_) fun e s8 q=>by rw [hfx] at q; exact q.none.elim));rw [hfx] at q8; cases q8;have oa8:=(I8.pin (acc,({ cls:=.type "list",data:=.seq its na }:Obj)) (by simp)).1;have ha8:=(I8.pin (acc,({ cls:=.type "list",data:=.seq its na }:Obj)) (by simp)).2.1;have hsz:its.size<=i:=by have:=v1.length; simp only [Array.length_toList] at this; omega
   refine wpAny_bind (wpAny_list_append_plain (show s8.heap.PlainList acc its from ⟨na,oa8⟩) (fun h9 p9 sb9=>?_) (by omega))
   have I8':Inv X' [] σ7 H8 s8:=I8.pins_of fun p hp=>absurd hp (by simp);have fp8:∀b∈fp,∀o,s6.heap.get? b=some o->s8.heap.get? b=some o/\H8 b=none:=fun b hb o e=>by
    have q:=I8.pin (b,o) (mem_append_right _ (mem_append_right _ (Af hb e)));exact ⟨q.1,q.2.1⟩
   have nacc:∀b,H8 b≠none->b≠acc:=fun b hb z=>hb (by rw [z]; exact ha8);have I9:Inv X' [] σ7 H8 { s8 with heap:=h9 }:=I8'.call' (ch:=[acc]) rfl
    ⟨fun b o e n hb hx=>(sb9.2 b (by simpa using hx)).trans e,fun b o e n hb hx=>⟨o.slots,(sb9.2 b (by simpa using hx)).trans e⟩,fun b o e n _=>n,fun b o e hx=>⟨o,(sb9.2 b (by simpa using hx)).trans e⟩,fun b xs e=>e,fun b o u e=>e,fun b ps e=>⟨#[],by simpa using e⟩⟩
    (fun b u q=>(I8'.hok b u q).stay (fun c v hc e=>(sb9.2 c (by
     rcases hc with rfl | hc
     ·exact nacc c (by rw [q]; intro z; cases z)
     ·exact nacc c (by rw [hc]; intro z; cases z))).trans e) (fun _ z=>z) fun _ _ z=>z) I8'.bare
    fun b hb=>by
     have e:b=acc:=by simpa using hb
     subst e;exact ⟨.inl (by show b∈b :: fp; simp),(hfp b (by simp)).1,fun x c e=>(hfp b (by simp)).2.2 x c e,fun p hp=>absurd hp (by show p∉([]:List (Addr×Obj)) ++ []; simp)⟩
   refine wpAny_pure (wpAny_pure ⟨rfl,ds.length - (i + 1),by omega,i + 1,σ7,H8,ys ++ [v8],its.push u8,rfl,hlt,I9,e1.trans (e6.trans (ek.trans e8)),R7'.mono (ek.trans e8),?_,ha8,fun b hb=>?_,p9,?_,?_,by rw [length_append]; show _ + 1<=_; omega⟩)
   ·refine T.keep _ _ _ st6 fun b hb o e=>(sb9.2 b (fun z=>hacc (by rw [<- z]; exact hb))).trans (fp8 b hb o e).1
   ·obtain ⟨o,e,_⟩:=T.obj _ _ st6 b hb;exact (fp8 b hb o e).2
   ·rw [Array.toList_push]; exact v1.append (.cons r8 .nil)
   ·rw [e9];exact (r1.mono (e6.trans (ek.trans e8))).append (Reps.cons p8 Reps.nil)
 ·have e:i=ds.length:=by omega
  subst e;obtain ⟨na,oa⟩:=p1;have pin1:Inv X' [(acc,({ cls:=.type "list",data:=.seq its na }:Obj))] σ1 H1 s:=I1.pins_of fun p hp=>by
   have:p=(acc,({ cls:=.type "list",data:=.seq its na }:Obj)):=by simpa using hp
   subst this;exact ⟨oa,ha1,(hfp acc (by simp)).1,(hfp acc (by simp)).2.1,fun v z=>(by cases z)⟩
  refine wpAny_mono (T.done X' rfl rfl rfl hcalm ds.length _ s σ1 H1 _ pin1 (fpok fr1 fun b hb p hp z=>by
   have:p=(acc,({ cls:=.type "list",data:=.seq its na }:Obj)):=by simpa using hp
   subst this; exact hacc (by rw [show acc=b from z]; exact hb)) st1 (Y H1 e1).2) (fun rv s5 ⟨hrv,I5⟩=>?_) fun _ _ z=>z
  subst hrv;refine wpAny_pure ?_;have h:=CQ hR;rw [<- h,take_length] at r1;have oa5:=(I5.pin (acc,({ cls:=.type "list",data:=.seq its na }:Obj)) (by simp)).1;exact fin s5 σ1 H1 ys its (I5.pins_of fun p hp=>absurd hp (by simp)) e1 ha1 fr1 ⟨na,oa5⟩ v1 r1
end
theorem _root_.L2.Inv.but {X:Cx} {pins:List (Addr×Obj)} {σ:St} {H:Hp} {s:Shared} {C:Addr} {h':Heap} {t':Nat} (J:Inv X pins σ H s) (hC:H C=none) (hC0:X.s₀.heap.objs.size<=C) (hCl:C≠X.env.locals) (hCc:∀x c,X.env.cells.lookup x=some c->c≠C)
  (hCp:∀p∈X.pn ++ pins,p.1≠C) (hs:Heap.SameBut C s.heap h'):Inv X pins σ H { s with heap:=h',toks:=t' }:=by
 have nC:∀b,H b≠none->b≠C:=fun b hb z=>hb (by rw [z]; exact hC);refine J.call' (ch:=[C]) (s':={ s with heap:=h',toks:=t' }) rfl
   ⟨fun b o e n hb hx=>(hs.2 b (by simpa using hx)).trans e,fun b o e n hb hx=>⟨o.slots,(hs.2 b (by simpa using hx)).trans e⟩,fun b o e n _=>n,fun b o e hx=>⟨o,(hs.2 b (by simpa using hx)).trans e⟩,fun b xs e=>e,fun b o u e=>e,fun b ps e=>⟨#[],by simpa using e⟩⟩
   (fun b u q=>(J.hok b u q).stay (fun c v hc e=>(hs.2 c (by
    rcases hc with rfl | hc
    ·exact nC c (by rw [q]; intro z; cases z)
    ·exact nC c (by rw [hc]; intro z; cases z))).trans e) (fun _ z=>z) fun _ _ z=>z) J.bare
   fun b hb=>by
    have e:b=C:=by simpa using hb
    subst e;exact ⟨.inr hC0,hCl,hCc,hCp⟩
section
variable {X:Cx} {m:Nat} {fr:List Nat} {N':List Str} {scope:Scope} {cl:List (Str×Addr)} {tg iter elt:Expr} {cs:List Expr} {fc:DS->Res Bool} {pos:Pos} {t:du} {fe:DS->Res D} {fi:DS->Res (List D)}
structure Around' (X:Cx) (m:Nat) (fr:List Nat) (N':List Str) (scope:Scope) (cl:List (Str×Addr)):Prop where
 clos:closureFor scope X.env=pure cl
 nocell:∀y∈scope.names,y.2≠.cell
 kind:scope.kind=.function
 names:∀x∈scope.names,x.2=.local->scope.names.lookup x.1=some .local
 sub:∀x c,cl.lookup x=some c->X.env.cells.lookup x=some c
 has:∀x,((relabel scope X.env).names.lookup x=some .cell\/(relabel scope X.env).names.lookup x=some .free)->∃c,cl.lookup x=some c
 len:N'.length=m + fr.length
 free:∀j i,fr[j]? = some i->∃x c,N'[m + j]? = some x/\X.N[i]? = some x/\sr X.env.scope x/\(X.env.kindOf x=some .cell\/X.env.kindOf x=some .free)/\cl.lookup x=some c/\((compEnvC scope cl 0 X.env).kindOf x=some .cell\/(compEnvC scope cl 0 X.env).kindOf x=some .free)
theorem Hd (W:Around' X m fr N' scope cl) (hcalm:X.calm=true) (hkt:dF m t) (hi:PID X tg iter fi) (ht:∀C s H fp,PGD (bW X N' scope cl C s H fp) tg t) (hcs:cs.length<=1) (hc:∀C s H fp,Hc (bW X N' scope cl C s H fp) cs fc) (he:∀C s H fp,PD (bW X N' scope cl C s H fp) elt fe)
  {pins:List (Addr×Obj)} {s:Shared} {σ:St} {G H:Hp} {δ:DS} (I:Inv X pins σ H s) (R:RepSt X.K G H σ δ) (hs:cX m fr t fc fe fi δ≠.stuck) {E:Value->Shared->Prop} (hE:∀e s1,XPost X pins σ H s.heap (cX m fr t fc fe fi δ) e s1->E e s1)
  {RR:Value->Addr->Result->Shared->Prop}
  (fin:∀a C s' H' ds xs mC,cX m fr t fc fe fi δ=.ok (.lst ds)->Inv X pins σ H' s'->Same H H'->H a=none->H' a=some (.lst xs)->Reps X.K H' ds xs->s'.heap.Ns C mC->H' C=none->C≠a->X.s₀.heap.objs.size<=C->C∉X.fs->C≠X.env.locals->(∀x c,X.env.cells.lookup x=some c->c≠C)->(∀p∈X.pn ++ pins,p.1≠C)->RR (.ref a) C (.ok .next) s') :
  wpAny (model X.prog X.w) X.A (eval iter X.env) (fun x s₁=>wpAny (model X.prog X.w) X.A (pyIter x) (fun itv s₂=>wpAny (model X.prog X.w) X.A (newList []) (fun acc s₃ =>
   wpAny (model X.prog X.w) X.A (newFunctionEnv scope X.env.globals cl [] X.env.qual none .none (some X.env)) (fun cenv s₄ =>
    codeAny (model X.prog X.w) X.A (.compStart (.ListComp elt [⟨tg,iter,cs,0⟩] scope pos) 0 itv acc { cenv with scope:=relabel scope X.env }) (RR acc cenv.locals) s₄) E s₃) E s₂) E s₁) E s:=by
 have hs':(fi δ).bind (fJ t fc fe (cL m fr δ))≠.stuck:=hs;refine wpAny_mono (hi pins s σ G H δ I R (dY hs')) (fun v s1 h1=>wpAny_mono h1 (fun itv s2 h2=>?_) fun e s2 q=>hE e s2 (q.same fun x z=>fL z)) fun e s2 q=>hE e s2 (q.same fun x z=>fL z);obtain ⟨ds,it,fp,tn,J,H2,q,rfl,I2,T,st2,f2,e2,Y⟩:=h2;have h3:fJ t fc fe (cL m fr δ) ds≠.stuck:=fY hs' q;have hz':ds.length<=sizeLine:=by
  by_cases z:ds.length<=sizeLine
  ·exact z
  ·exact (h3 (by unfold fJ; rw [if_neg z])).elim
 have h4:(mapR (cW t fc fe (cL m fr δ)) ds).bind (fun rs=>Res.ok (D.lst (rs.flatMap unI)))≠.stuck:=by unfold fJ at h3; rw [if_pos hz'] at h3; exact h3
 have hm:mapR (cW t fc fe (cL m fr δ)) ds≠.stuck:=dY h4
 cases hR:mapR (cW t fc fe (cL m fr δ)) ds with
 | stuck=>exact (hm hR).elim
 | err x=>exact (CT (fun d=>Np d) ds x hR).elim
 | ok rs =>
 have hz:(rs.flatMap unI).length<=sizeLine:=Nat.le_trans (Hb hR) hz';have ev:cX m fr t fc fe fi δ=.ok (.lst (rs.flatMap unI)):=by unfold cX; rw [q,Res.bind_ok]; unfold fJ; rw [if_pos hz',hR]; rfl
 have R2:=R.mono e2;refine wpAny_newObj_type (wpAny_newFunctionEnv W.nocell (by intro y hy; simp at hy) (fun h₁ hns₁ hsb₁=>?_) W.kind);dsimp only at hns₁ hsb₁ ⊢;generalize hA:s2.heap.objs.size=acc at *;generalize hH3:s2.heap.push { cls:=.type "list",dict:=none,data:=.seq ([]:List Value).toArray }=h3' at hns₁ hsb₁ ⊢;have hC:h3'.objs.size=acc + 1:=by rw [<- hH3,Heap.size_push,hA]
 generalize hCC:h3'.objs.size=C at *;have k3:∀b o,s2.heap.get? b=some o->h3'.get? b=some o:=fun b o e=>by rw [<- hH3]; exact Heap.get?_push_of_some _ e
 have a3:h3'.get? acc=some { cls:=.type "list",dict:=none,data:=.seq ([]:List Value).toArray }:=by rw [<- hH3,<- hA]; exact Heap.get?_push_size _ rfl
 have k4:∀b o,h3'.get? b=some o->h₁.get? b=some o:=fun b o e=>hsb₁.extBut b o (fun z=>by have:=Heap.lt_size e; rw [hCC,z] at this; exact Nat.lt_irrefl _ this) (Heap.get?_push_of_some _ e);have hacc2:H2 acc=none:=I2.hok.fresh (by rw [hA]; exact Nat.le_refl _);have I3:Inv X pins σ H2 { s2 with heap:=h3',toks:=s2.toks }:=I2.kept k3
 have fp2:∀b∈fp,b < acc:=fun b hb=>by
  obtain ⟨o,e,_⟩:=T.obj _ _ st2 b hb;have:=Heap.lt_size e;rw [hA] at this; exact this
 have f3:∀b∈acc :: fp,fW X pins H2 b/\b < ({ s2 with heap:=h3',toks:=s2.toks }:Shared).heap.objs.size:=fun b hb=>by
  rcases mem_cons.mp hb with z | z
  ·subst z;exact ⟨I2.fpOk (by rw [hA]; exact Nat.le_refl _) hacc2,by show _ < h3'.objs.size; rw [hCC,hC]; exact Nat.lt_succ_self _⟩
  ·exact ⟨f2 b z,by show _ < h3'.objs.size; rw [hCC,hC]; exact Nat.lt_succ_of_lt (fp2 b z)⟩
 have hacc:acc∉fp:=fun z=>Nat.lt_irrefl _ (fp2 acc z);have okX:(bW X N' scope cl C { s2 with heap:=h3',toks:=s2.toks } H2 (acc :: fp)).Ok:=M_ I3 W.kind (by show h3'.objs.size<=C; rw [hCC]; exact Nat.le_refl _) W.sub W.has f3
 have hC2:H2 C=none:=I2.hok.fresh (by rw [hA,hC]; exact Nat.le_succ _);have hcells:∀x c,cl.lookup x=some c->∃v,h₁.IsCell c v:=fun x c e=>by
  obtain ⟨v,o,g,d⟩:=I2.cell x c (W.sub x c e);exact ⟨v,o,k4 _ _ (k3 _ _ g),d⟩
 have hos:s2.os=({ s2 with heap:=h3',toks:=s2.toks }:Shared).os:=rfl
 have I4:∀tk,Inv (bW X N' scope cl C { s2 with heap:=h3',toks:=s2.toks } H2 (acc :: fp)) [] (iZ m fr σ) H2 { s2 with heap:=h₁,toks:=tk }:=fun tk=>by
  refine ⟨okX,rfl,I2.bare,Un.kept k4,⟨_,hns₁,fun i x v e1 e2 e3=>?_⟩,hcells,hC2,fun x c e=>I2.freeC x c (W.sub x c e),fun p hp=>absurd hp (by show p∉([]:List (Addr×Obj)) ++ []; simp),I3.hok.kept k4,by show _=N'.length; rw [W.len]; simp [iZ]⟩;unfold iZ at e2
  by_cases hm':i < m
  ·rw [List.getElem?_append_left (by simpa using hm'),List.getElem?_replicate,if_pos hm'] at e2
   cases e2
  ·rw [List.getElem?_append_right (by simpa using hm'),List.getElem?_map] at e2;simp only [length_replicate] at e2
   cases qf:fr[i - m]? with
   | none=>rw [qf] at e2; cases e2
   | some k =>
    rw [qf] at e2;simp only [Option.map_some,Option.some.injEq] at e2;have e2':σ[k]? = some (some v):=by
     cases qk:σ[k]? with
     | none=>rw [qk] at e2; cases e2
     | some w=>rw [qk] at e2; simp only [Option.elim_some,id] at e2; rw [e2]
    obtain ⟨x',c,w1,w2,w3,w4,w5,w6⟩:=W.free (i - m) k qf;have hx:x'=x:=by
     have:m + (i - m)=i:=by omega
     rw [this] at w1;have e1':N'[i]? = some x:=e1;rw [e1'] at w1; cases w1; rfl
    subst hx;obtain ⟨m0,hn0,hl0⟩:=I2.loc;obtain ⟨u,r,l⟩:=hl0 k x' v w2 e2' w3;refine ⟨u,r,?_⟩;rcases l with ⟨l1,_⟩ | ⟨l1,c',l2,o,g,d⟩
    ·rcases w4 with z | z <;> (rw [z] at l1; cases l1)
    ·have hcc:c'=c:=by
      have:=W.sub x' c w5;rw [l2] at this; cases this; rfl
     subst hcc;exact .inr ⟨w6,c',w5,o,k4 _ _ (k3 _ _ g),d⟩
 have R4:=Ni m fr R2;have st4:tn 0 h₁:=T.keep 0 _ _ st2 fun b hb o e=>k4 _ _ (k3 _ _ e);have hfp:∀b∈acc :: fp,b≠C/\b∉frs X.stack/\∀x c,cl.lookup x=some c->c≠b:=fun b hb=>by
  obtain ⟨⟨g1,g2,g3,g4,g5,g6⟩,g7⟩:=f3 b hb;refine ⟨Nat.ne_of_lt (by rw [<- hCC]; exact g7),fun z=>?_,fun x c e=>g5 x c (W.sub x c e)⟩;rcases mem_cons.mp (I2.stkSub b z) with w | w
  ·exact g2 w
  ·exact g3 w
 have hCs:s2.heap.objs.size<=C:=by rw [hA,hC]; exact Nat.le_succ _
 have loop:∀tk,codeAny (model X.prog X.w) X.A (.compLoop (.ListComp elt [⟨tg,iter,cs,0⟩] scope pos) 0 (.ref it) (.ref acc) (compEnvC scope cl C X.env)) (RR (.ref acc) C) { s2 with heap:=h₁,toks:=tk }:=fun tk=>by
  refine Nq (m:=m) (its0:=#[]) hcalm T Y hR hz' hkt (fun i h sv=>CP i h sv) (ht C _ H2 (acc :: fp)) hcs (hc C _ H2 (acc :: fp)) (he C _ H2 (acc :: fp)) hacc hfp ?_ (I4 tk) R4 st4 (fun b hb=>(f3 b hb).1.1) ⟨0,k4 _ _ a3⟩;intro s' σ' H' ys its J e' ha' hf' p' v' r';have K1:Inv X pins σ H' s':=I3.call' (ch:=acc :: fp) J.os J.base J.hok J.bare fun b hb=>by
   obtain ⟨⟨g1,g2,g3,g4,g5,g6⟩,g7⟩:=f3 b hb;exact ⟨g4,g2,g5,g6⟩
  obtain ⟨⟨g1,g2,g3,g4,g5,g6⟩,g7⟩:=f3 acc (by simp);obtain ⟨n',o'⟩:=p';have K2:=K1.track (o:=.lst ys) ha' (fun ob e _=>absurd (Nat.lt_of_lt_of_le (Heap.lt_size e) (by rw [<- hA]; exact I2.sz)) (Nat.lt_irrefl _)) g2 g5 g6
   ⟨by rw [r'.length]; exact hz,its.toList,n',v',by simpa using o'⟩
  obtain ⟨mC,hmC,_⟩:=J.loc;have sm:=gf ha' (.lst ys);have hCa:C≠acc:=by omega
  refine fin acc C s' (upd H' acc (.lst ys)) (rs.flatMap unI) ys mC ev K2 (e2.trans (e'.trans sm)) (e2.free hacc2) dR (r'.mono sm) hmC (by rw [bT hCa]; exact J.free) hCa (Nat.le_trans I2.sz hCs) (I2.nofs hCs) (Nat.ne_of_gt (Nat.lt_of_lt_of_le I2.lt hCs)) (fun x c e z=>?_) fun p hp z=>?_
  ·obtain ⟨v,q⟩:=I2.cell x c e;exact absurd (Nat.lt_of_lt_of_le q.lt (by rw [z]; exact hCs)) (Nat.lt_irrefl _)
  ·exact absurd (Nat.lt_of_lt_of_le (Heap.lt_size (I2.pin p hp).1) (by rw [z]; exact hCs)) (Nat.lt_irrefl _)
 exact codeAny_compStart_list (loop _) (T.self X.A 0 _ _ _ st4 (loop _))
theorem compI_true {δ:DS}:cX m fr t (fun _=>.ok true) fe fi δ=aX m fr t fe fi δ:=by
 have el:∀(δ':DS) (d:D),cW t (fun _=>.ok true) fe δ' d=(fB t fe δ' d).bind fun x=>.ok (.tup [x]):=fun δ' d=>by
  unfold cW fB
  cases t d δ' with
  | none=>rfl
  | some δ1=>cases h:fe δ1 <;> simp only [h] <;> rfl
 have mr:∀(δ':DS) (ds:List D),mapR (cW t (fun _=>.ok true) fe δ') ds=(mapR (fB t fe δ') ds).bind fun rs=>.ok (rs.map fun x=>.tup [x]):=fun δ' ds=>by
  induction ds with
  | nil=>rfl
  | cons d ds ih =>
   simp only [mapR,el,ih]
   cases fB t fe δ' d with
   | stuck=>rfl
   | err x=>rfl
   | ok x=>cases mapR (fB t fe δ') ds <;> rfl
 have un:∀rs:List D,(rs.map fun x=>D.tup [x]).flatMap unI=rs:=fun rs=>by
  induction rs with
  | nil=>rfl
  | cons r rs ih=>rw [map_cons,flatMap_cons,ih]; rfl
 unfold cX aX
 cases fi δ with
 | stuck=>rfl
 | err x=>rfl
 | ok ds =>
  show fJ t (fun _=>.ok true) fe (cL m fr δ) ds=fj (mapR (fB t fe (cL m fr δ)) ds);unfold fJ fj;rw [mr]
  cases hR:mapR (fB t fe (cL m fr δ)) ds with
  | stuck=>split <;> rfl
  | err x=>exact (CT (fun d=>Nj d) ds x hR).elim
  | ok rs =>
   have h:=CQ hR;show (if ds.length<=sizeLine then Res.ok (D.lst ((rs.map fun x=>D.tup [x]).flatMap unI)) else .stuck)=if rs.length<=sizeLine then Res.ok (D.lst rs) else .stuck
   rw [un,h]
theorem CV (W:Around' X m fr N' scope cl) (hcalm:X.calm=true) (hkt:dF m t) (hi:PID X tg iter fi) (ht:∀C s H fp,PGD (bW X N' scope cl C s H fp) tg t) (he:∀C s H fp,PD (bW X N' scope cl C s H fp) elt fe)
  {pins:List (Addr×Obj)} {s:Shared} {σ:St} {G H:Hp} {δ:DS} (I:Inv X pins σ H s) (R:RepSt X.K G H σ δ) (hs:aX m fr t fe fi δ≠.stuck) {E:Value->Shared->Prop} (hE:∀e s1,XPost X pins σ H s.heap (aX m fr t fe fi δ) e s1->E e s1)
  {RR:Value->Addr->Result->Shared->Prop}
  (fin:∀a C s' H' ds xs mC,aX m fr t fe fi δ=.ok (.lst ds)->Inv X pins σ H' s'->Same H H'->H a=none->H' a=some (.lst xs)->Reps X.K H' ds xs->s'.heap.Ns C mC->H' C=none->C≠a->X.s₀.heap.objs.size<=C->C∉X.fs->C≠X.env.locals->(∀x c,X.env.cells.lookup x=some c->c≠C)->(∀p∈X.pn ++ pins,p.1≠C)->RR (.ref a) C (.ok .next) s') :
  wpAny (model X.prog X.w) X.A (eval iter X.env) (fun x s₁=>wpAny (model X.prog X.w) X.A (pyIter x) (fun itv s₂=>wpAny (model X.prog X.w) X.A (newList []) (fun acc s₃ =>
   wpAny (model X.prog X.w) X.A (newFunctionEnv scope X.env.globals cl [] X.env.qual none .none (some X.env)) (fun cenv s₄ =>
    codeAny (model X.prog X.w) X.A (.compStart (.ListComp elt [⟨tg,iter,[],0⟩] scope pos) 0 itv acc { cenv with scope:=relabel scope X.env }) (RR acc cenv.locals) s₄) E s₃) E s₂) E s₁) E s:=by
 have e:aX m fr t fe fi δ=cX m fr t (fun _=>.ok true) fe fi δ:=compI_true.symm;rw [e] at hs hE;exact Hd (cs:=[]) W hcalm hkt hi ht (Nat.zero_le 1) (fun C s H fp pins s' σ G H' δ I R _=>wpAny_pure ⟨H',rfl,I,Same.refl _⟩) he I R hs hE fun a C s' H' ds xs mC ev=>fin a C s' H' ds xs mC (e.trans ev)
theorem wQ (W:Around' X m fr N' scope cl) (hcalm:X.calm=true) (hkt:dF m t) (hi:PID X tg iter fi) (ht:∀C s H fp,PGD (bW X N' scope cl C s H fp) tg t) (he:∀C s H fp,PD (bW X N' scope cl C s H fp) elt fe)
  (hf:∀x,foldedSetIterable iter X.env x=pure x:=by intro _; rfl):PD X (.ListComp elt [⟨tg,iter,[],0⟩] scope pos) (aX m fr t fe fi):=by
 intro pins s σ G H δ I R hs;rw [eval_ListComp];refine wpAny_comprehension_free (use:=none) rfl hf W.clos W.kind W.names (CV W hcalm hkt hi ht he I R hs (fun _ _ q=>q) (RR:=fun acc C=>compPost _ _ _ none _ acc C) ?_);intro a C s' H' ds xs mC ev J e' ha hx hr hns hC hCa hC0 hCf hCl hCc hCp;refine ⟨mC,hns,fun h' hs'=>?_⟩;exact ⟨.lst ds,.ref a,H',ev,J.but (t':=s'.toks) hC hC0 hCl hCc hCp hs',rfl,e',rG (SqL.of hx) hr⟩
theorem CW (i:Nat) {y:Str} {py spos:Pos} (W:Around' X m fr N' scope cl) (hcalm:X.calm=true) (hkt:dF m t) (hi:PID X tg iter fi) (ht:∀C s H fp,PGD (bW X N' scope cl C s H fp) tg t) (he:∀C s H fp,PD (bW X N' scope cl C s H fp) elt fe)
  (hN:X.N.Nodup) (hsw:swapsWith (.ListComp elt [⟨tg,iter,[],0⟩] scope pos) (some (.Name y py)) spos.line X.env=pure true:=by rfl) (hy:X.N[i]? = some y:=by rfl) (hx:Loc X.env.scope y:=by first | exact Or.inl rfl | exact Or.inr rfl)
  (hfn:X.fn y=true\/X.env.scope.names.lookup y=some .local:=by first | exact .inl rfl | exact .inr rfl | assumption) (hf:∀x,foldedSetIterable iter X.env x=pure x:=by intro _; rfl) :
  PSD X (.Assign [.Name y py] (.ListComp elt [⟨tg,iter,[],0⟩] scope pos) spos) (aB i (aX m fr t fe fi)):=by
 intro pins s σ G H δ I R hs;have hs':aX m fr t fe fi δ≠.stuck:=sJ hs;rw [exec_Assign_Name_used _ _ _ _ hsw];refine wpAny_bind (wpAny_standAt (wpAny_bind ?_));show wpAny _ X.A (do let _ <- comprehension (.ListComp elt [⟨tg,iter,[],0⟩] scope pos) scope X.env _ (newList []) false (eval iter X.env) (some (assign (.Name y py) X.env))) _ _ s
 refine wpAny_bind (wpAny_mono (wpAny_comprehension_free (use:=some (assign (.Name y py) X.env)) (Q:=fun _ s'=>SPost X pins G H (aB i (aX m fr t fe fi) δ) .next s') rfl hf W.clos W.kind W.names
  (CV W hcalm hkt hi ht he I R hs' (fun e s1 q=>q.sx R fun x z=>by unfold aB; rw [z]; rfl) (RR:=fun acc C=>compPost _ _ _ (some (assign (.Name y py) X.env)) _ acc C) ?_)) (fun _ s' hq=>wpAny_pure (wpAny_pure hq)) fun _ _ e=>e)
 intro a C s' H' ds xs mC ev J e' ha hx' hr hns hC hCa hC0 hCf hCl hCc hCp;show wpAny _ X.A (assign (.Name y py) X.env (.ref a)) _ _ _;refine wpAny_assign_Name (BV J hN hy hx (v:=.ref a) (u:=.ref a) rfl (fun s2 I2 ⟨b,sb,hb⟩=>?_) hfn);have hbC:C≠b:=by
  rcases hb with z | z
  ·rw [z]; exact hCl
  ·exact fun w=>hCc _ _ z w.symm
 refine ⟨mC,hns.sameBut sb hbC,fun h' hs'=>?_⟩;refine ⟨_,_,H',by unfold aB; rw [ev]; rfl,I2.but (t':=s2.toks) hC hC0 hCl hCc hCp hs',e'.tk,(R.mono e').set i (rG (SqL.of hx') hr)⟩
end
mutual
noncomputable def gM:D->PyData
 | .non=>.none
 | .bl b=>.bool b
 | .int i=>.int i
 | .str x=>.str x
 | .tup ds=>.tuple (gq ds)
 | .lst ds=>.list (gq ds)
 | _=>.none
noncomputable def gq:List D->List PyData
 | []=>[]
 | d :: ds=>gM d :: gq ds
end
noncomputable def gh:Nat->D->Bool
 | _,.non=>true
 | _,.bl _=>true
 | _,.int _=>true
 | _,.str x=>PyData.strOk x
 | n + 1,.tup ds=>ds.all (gh n)
 | n + 1,.lst ds=>ds.all (gh n)
 | _,_=>false
theorem Nr:∀(n:Nat) (d:D),gh n d=true->(gM d).canLay0=true/\(gM d).depth<=n:=by
 intro n;have all:∀n,(∀d,gh n d=true->(gM d).canLay0=true/\(gM d).depth<=n)->∀ds:List D,(∀d∈ds,gh n d=true)->PyData.canLayAll0 (gq ds)=true/\PyData.depthAll (gq ds)<=n:=by
  intro n ih ds
  induction ds with
  | nil=>intro _; simp [gq,PyData.canLayAll0,PyData.depthAll]
  | cons d ds hi =>
   intro h;have q1:=ih d (h d (.head _));have q2:=hi fun x hx=>h x (.tail _ hx);simp only [gq,PyData.canLayAll0,PyData.depthAll,Bool.and_eq_true];exact ⟨⟨q1.1,q2.1⟩,by omega⟩
 induction n with
 | zero =>
  intro d h
  cases d <;> simp_all [gh,gM,PyData.canLay0,PyData.depth]
 | succ n ih =>
  intro d h
  cases d with
  | tup ds =>
   have:=all n ih ds (by simpa [gh] using h);simp only [gM,PyData.canLay0,PyData.depth];exact ⟨this.1,by omega⟩
  | lst ds =>
   have:=all n ih ds (by simpa [gh] using h);simp only [gM,PyData.canLay0,PyData.depth];exact ⟨this.1,by omega⟩
  | _=>simp_all [gh,gM,PyData.canLay0,PyData.depth]
section
variable {X:Cx} {pins:List (Addr×Obj)} {σ:St} {H:Hp} {s:Shared}
mutual
theorem wR (I:Inv X pins σ H s):∀(n:Nat) {d:D} {v:V} {u:Value},gh n d=true->Rep X.K H d v->RelV v u->∃as,Reads s.heap u (gM d) as
 | n,.non,v,u,_,p,r=>by rw [Rep] at p; subst p; cases r; rw [gM]; exact ⟨_,Reads.none⟩
 | n,.bl b,v,u,_,p,r=>by rw [Rep] at p; subst p; cases r; rw [gM]; exact ⟨_,Reads.bool b⟩
 | n,.int i,v,u,_,p,r=>by rw [Rep] at p; subst p; obtain ⟨t,rfl⟩:=r; rw [gM]; exact ⟨_,Reads.int i t⟩
 | n,.str x,v,u,_,p,r=>by rw [Rep] at p; subst p; obtain ⟨t,rfl⟩:=r; rw [gM]; exact ⟨_,Reads.str x t⟩
 | n + 1,.tup ds,v,u,h,p,r=>by
  obtain ⟨a,xs,rfl,hq,rs⟩:=d7 p
  cases r
  obtain ⟨its,rv,⟨o,g,c,k,d⟩,hz⟩:=I.tuple hq;obtain ⟨as,q⟩:=CZ I n (by simpa [gh] using h) rs rv;rw [gM];exact ⟨as,reads_tuple_at g c d (by simpa using q)⟩
 | n + 1,.lst ds,v,u,h,p,r=>by
  obtain ⟨a,xs,rfl,hq,rs⟩:=d_ p
  cases r
  obtain ⟨its,rv,⟨o,k,g,c,_,d⟩,hz⟩:=I.list hq;obtain ⟨as,q⟩:=CZ I n (by simpa [gh] using h) rs rv;rw [gM];exact ⟨_,reads_list_at g c d (by simpa using q)⟩
 | 0,.tup ds,v,u,h,p,r=>by simp [gh] at h
 | 0,.lst ds,v,u,h,p,r=>by simp [gh] at h
 | n,.exc c,v,u,h,p,r=>by cases n <;> simp [gh] at h
 | n,.excf c f d,v,u,h,p,r=>by cases n <;> simp [gh] at h
 | n,.dct,v,u,h,p,r=>by cases n <;> simp [gh] at h
theorem CZ (I:Inv X pins σ H s):∀(n:Nat) {ds:List D} {vs:List V} {us:List Value},(∀d∈ds,gh n d=true)->Reps X.K H ds vs->Vals vs us->∃as,ReadsAll s.heap us (gq ds) as
 | n,[],vs,us,_,p,r=>by
  cases p.nil_of
  cases r
  rw [gq];exact ⟨_,ReadsAll.nil⟩
 | n,d :: ds,vs,us,h,p,r=>by
  obtain ⟨v,ws,rfl,p1,p2⟩:=p.cons_of
  cases r with
  | cons r1 r2 =>
   obtain ⟨as,q⟩:=wR I n (h d (.head _)) p1 r1;obtain ⟨bs,q2⟩:=CZ I n (fun x hx=>h x (.tail _ hx)) p2 r2;rw [gq];exact ⟨_,ReadsAll.cons q q2⟩
end
end
noncomputable def gO (a b:D):Res D:=if gh 8 a=true/\gh 8 b=true then .ok (.bl (PyData.eqv (gM a) (gM b))) else .stuck
noncomputable def jC (a b:D):Res D:=if gh 8 a=true/\gh 8 b=true then .ok (.bl (!PyData.eqv (gM a) (gM b))) else .stuck
theorem jD (x y:D):aM (gO x y):=kJ dD cZ
theorem vP (x y:D):aM (jC x y):=kJ dD cZ
theorem Ao {d:D} (h:gh 8 d=true):SeqAt.shaped (gM d)=true:=by
 have:=Nr 8 d h;unfold SeqAt.shaped;rw [this.1,Bool.true_and];exact decide_eq_true (Nat.le_trans this.2 (by decide))
theorem jE {X:Cx} (hu:X.A.units + 64 < cLine):OpD X (compareOp .Eq) gO:=by
 intro E pins s σ H x y v u a b d I r1 r2 p1 p2 e;unfold gO at e
 split at e
 ·rename_i c
  cases e
  obtain ⟨as,ra⟩:=wR I 8 c.1 p1 r1;obtain ⟨bs,rb⟩:=wR I 8 c.2 p2 r2;exact SeqAt.compareEq_shaped ra rb (Ao c.1) (Ao c.2) hu ⟨_,.bl _,H,rfl,I,rfl,Same.refl H,uT⟩
 ·cases e
theorem vQ {X:Cx} (hu:X.A.units + 64 < cLine):OpD X (compareOp .NotEq) jC:=by
 intro E pins s σ H x y v u a b d I r1 r2 p1 p2 e;unfold jC at e
 split at e
 ·rename_i c
  cases e
  obtain ⟨as,ra⟩:=wR I 8 c.1 p1 r1;obtain ⟨bs,rb⟩:=wR I 8 c.2 p2 r2;exact SeqAt.compareNe_shaped ra rb (Ao c.1) (Ao c.2) hu ⟨_,.bl _,H,rfl,I,rfl,Same.refl H,uT⟩
 ·cases e
noncomputable def uW:D->String
 | .non=>"NoneType"
 | .bl _=>"bool"
 | .int _=>"int"
 | .str _=>"str"
 | .tup _=>"tuple"
 | .lst _=>"list"
 | .dct=>"dict"
 | _=>""
theorem Nt {K:Frag} {prog:Program} {w:World} {A:Around} {s:Shared} {x D:Addr} {ox:Obj} {tk:Tok} {R:Result->Shared->Prop}
  (hdct:hasDictIn K D=true) (ha:findIn K (.ref D) "__class__" = some (some (.builtin "object.__class__")))
  (hn:specialIn K (.builtin "object.__class__") "__get__" = some (some (.builtin "getset_descriptor.__get__"))) (htk:takesIn K (.builtin "object.__class__")=some true) (hm:mroIn K D (.type "object")=some true) (hB:mroIn K D (.type "BaseException")=some true)
  {od:Option Obj} (X:K.In s.heap) (I:InstAt s.heap x ox D od) (h:R (.ok (.ret (.ref D))) s) :
  codeAny (model prog w) A (.call (.builtin "BaseException.__getattribute__") ⟨[.ref x,.str "__class__" tk],[]⟩) R s:=by
 have hf:findObj K D od "__class__" = some (.bind (.builtin "getset_descriptor.__get__") (.builtin "object.__class__")):=by
  obtain ⟨cd,hc,_⟩:=any_some hdct;unfold findObj;rw [hc,Option.bind_some,ha,Option.bind_some];simp [hn,htk]
 have hk:builtinKind "BaseException.__getattribute__" = some .slot:=by decide +kernel
 have hsplit:splitId "BaseException.__getattribute__" = some ("BaseException", "__getattribute__"):=by decide +kernel
 have L0:=I.type (M:=model prog w);have L1:=looks_find (M:=model prog w) X I hf;have L2:=looks_mroIn (M:=model prog w) X hB;have har:=F.args_bexc_ga (.ref x) (.str "__class__" tk);refine codeAny_call_builtin (by decide +kernel) F.entry_bexc_ga ?_;simp only [checkBuiltinCall,hk,hsplit];refine wpAny_bind ?_;unfold isInstance;refine wpAny_bind (L0.at (L2.at ?_));simp only [Bool.not_true,Bool.false_eq_true,if_false]
 repeat (first | with_reducible refine wpAny_pure ?_ | with_reducible refine wpAny_bind ?_ | wp_step)
 obtain ⟨hh,g,dr,t,os⟩:=s;refine wpAny_loadPart I.at_ (wpAny_pure ?_);rw [I.cls];refine wpAny_bind (L1.at ?_);show wpAny _ _ (Builtin.ObjectAttr.bindTo _ _ _ _) _ _ _;unfold Builtin.ObjectAttr.bindTo;refine wpAny_bind (wpAny_holding (wpAny_call (class_get (s:=⟨hh,g,dr,t,os⟩) (ox:=ox) (od:=od) X I hm ?_)));exact wpAny_pure h
theorem Hf {K:Frag} {prog:Program} {w:World} {A:Around} {E:Value->Shared->Prop} {s:Shared} {x D:Addr} {ox:Obj} {Q:Option Value->Shared->Prop}
  (hga:findIn K (.ref D) "__getattribute__" = some (some (.builtin "BaseException.__getattribute__"))) (hgk:findIn K (.ref D) "__getattr__" = some none)
  (hdct:hasDictIn K D=true) (ha:findIn K (.ref D) "__class__" = some (some (.builtin "object.__class__")))
  (hn:specialIn K (.builtin "object.__class__") "__get__" = some (some (.builtin "getset_descriptor.__get__"))) (htk:takesIn K (.builtin "object.__class__")=some true) (hm:mroIn K D (.type "object")=some true) (hB:mroIn K D (.type "BaseException")=some true)
  {od:Option Obj} (X:K.In s.heap) (I:InstAt s.heap x ox D od) (h:Q (some (.ref D)) { s with toks:=s.toks + 1 }):wpAny (model prog w) A (getAttr? (.ref x) "__class__") Q E s:=by
 obtain ⟨hh,g,d,t,os⟩:=s;have L0:=I.type (M:=model prog w);have L1:=looks_findIn (M:=model prog w) X hga;have Lk:=looks_findIn (M:=model prog w) X hgk;unfold getAttr? getAttrBy? getAttrBy;refine wpAny_bind (wpAny_mkText (wpAny_bind (wpAny_attempt (wpAny_holding (wpAny_bind (L0.at (wpAny_bind (L1.at ?_))))))));show wpAny _ _ (getAttrByItsOwn _ _ _ _ _ _) _ _ _;unfold getAttrByItsOwn hookBefore;refine wpAny_bind (Lk.at ?_);refine wpAny_bind (wpAny_attempt (wpAny_holding ?_));show wpAny _ _ (boundAndCalled _ _ _) _ _ _;unfold boundAndCalled;rw [PySem.F.attrBase_ValueError.ga.bind];refine wpAny_bind (wpAny_pure (wpAny_call (Nt (s:=⟨hh,g,d,t + 1,os⟩) hdct ha hn htk hm hB X I ?_)));exact handed_on rfl (wpAny_pure h)
structure ExcCls (K:Frag) (C:Addr):Prop where
 hga:findIn K (.ref C) "__getattribute__" = some (some (.builtin "BaseException.__getattribute__"))
 hgk:findIn K (.ref C) "__getattr__" = some none
 hdct:hasDictIn K C=true
 ha:findIn K (.ref C) "__class__" = some (some (.builtin "object.__class__"))
 hn:specialIn K (.builtin "object.__class__") "__get__" = some (some (.builtin "getset_descriptor.__get__"))
 htk:takesIn K (.builtin "object.__class__")=some true
 hm:mroIn K C (.type "object")=some true
 hB:mroIn K C (.type "BaseException")=some true
theorem Hg {K:Frag} {a C:Addr} {dd:Option Addr} (W:ExcCls K C):KitX K (.ref a) (.ref C) (fun h=>excAt a C dd h/\match dd with | none=>True | some dx=>∃o,h.get? dx=some o) where
 ty:=fun M h _ ⟨⟨o,vs,g,c,_⟩,_⟩=>by rw [<- c]; exact (Looks.ld g).andThen .now
 it:=fun _ _ X _=>by
  obtain ⟨cdD,hcD,_⟩:=any_some W.hdct;unfold clsIn at hcD
  split at hcD
  ·rename_i c' d' cd' sl' ho;intro A' Q' E' s' k q;unfold isType loadHead;exact wpAny_bind (wpAny_loadPart (k _ _ (X _ _ ho)) (wpAny_pure q))
  ·cases hcD
 ne:=fun h tp dd its n sl X htp=>by
  obtain ⟨cdD,hcD,_⟩:=any_some W.hdct;refine Bool.eq_false_iff.mpr fun q=>?_;have e:C=tp:=Value.ref.inj (beq_iff_eq.mp q);subst e;unfold clsIn at hcD
  split at hcD
  ·rename_i c' d' cd' sl' ho;have z:=(X _ _ ho).symm.trans htp
   cases z
  ·cases hcD
 ca:=fun X ⟨⟨o,vs,g,c,d,hd⟩,w⟩ k=>by
  cases dd with
  | none=>exact Hf (od:=none) W.hga W.hgk W.hdct W.ha W.hn W.htk W.hm W.hB X ⟨g,c,by unfold notCls; rw [hd],by rw [d]; trivial⟩ k
  | some dx =>
   obtain ⟨od,ho⟩:=w;exact Hf (od:=some od) W.hga W.hgk W.hdct W.ha W.hn W.htk W.hm W.hB X ⟨g,c,by unfold notCls; rw [hd],by rw [d]; exact ho⟩ k
noncomputable def lB (K:Frag) (cv:Value) (b:Bool):D->Prop
 | .exc n=>∀C,nsIn K mainGlobals n=some (some (.ref C))->ExcCls K C/\kitOne K (.ref C) cv=some b
 | .excf n _ _=>∀C,nsIn K mainGlobals n=some (some (.ref C))->ExcCls K C/\kitOne K (.ref C) cv=some b
 | d=>kitOne K (.type (uW d)) cv=some b
theorem Nu {X:Cx} {pins:List (Addr×Obj)} {σ:St} {H:Hp} {s:Shared} {A:Around} {E:Value->Shared->Prop} {Q:Value->Shared->Prop} {cv u:Value} {v:V} {d:D} {b:Bool} (I:Inv X pins σ H s) (p:Rep X.K H d v) (r:RelV v u) (ok:lB X.K cv b d)
  (h:∀tk,Q (.bool b) { s with toks:=tk }):wpAny (model X.prog X.w) A (call (.builtin "isinstance") [u,cv]) Q E s:=by
 cases d with
 | non=>rw [Rep] at p; subst p; exact cn' I r .non ok h
 | bl k=>rw [Rep] at p; subst p; exact cn' I r (.bl k) ok h
 | int k=>rw [Rep] at p; subst p; exact cn' I r (.int k) ok h
 | str k=>rw [Rep] at p; subst p; exact cn' I r (.str k) ok h
 | tup ds =>
  obtain ⟨a,xs,rfl,hq,_⟩:=d7 p
  cases r
  obtain ⟨its,_,⟨o,g,c,_⟩,_⟩:=I.tuple hq;exact kia_one kitx_tuple I.kIn ⟨o,g,c⟩ ok (fun z=>nomatch z) h
 | lst ds =>
  obtain ⟨a,xs,rfl,hq,_⟩:=d_ p
  cases r
  obtain ⟨its,_,⟨o,_,g,c,_⟩,_⟩:=I.list hq;exact kia_one kitx_list I.kIn ⟨o,g,c⟩ ok (fun z=>nomatch z) h
 | exc n =>
  rw [Rep] at p;obtain ⟨a,C,rfl,hC,hH⟩:=p
  cases r
  obtain ⟨W,ok⟩:=ok C hC;exact kia_one (Hg (dd:=none) W) I.kIn ⟨(I.hok a _ hH).1,trivial⟩ ok (fun z=>nomatch z) h
 | excf n f d =>
  rw [Rep] at p;obtain ⟨a,C,dx,w,rfl,hC,hH,hx,_⟩:=p
  cases r
  obtain ⟨W,ok⟩:=ok C hC;obtain ⟨mA,⟨o,_,_,g,_⟩,_⟩:=I.hok dx _ hx;exact kia_one (Hg (dd:=some dx) W) I.kIn ⟨(I.hok a _ hH).1,o,g⟩ ok (fun z=>nomatch z) h
 | dct =>
  rw [Rep] at p;obtain ⟨a,rfl,hH⟩:=p
  cases r
  exact kia_one kitx_dict I.kIn (I.hok a _ hH).1 ok (fun z=>nomatch z) h
theorem Nv:bootBuiltins "isinstance" = some (.builtin "isinstance"):=by decide +kernel
noncomputable def nR (isF:D->Option Bool) (d:D):Res D:=match isF d with | some b=>.ok (.bl b) | none=>.stuck
section
variable {X:Cx} {e:Expr} {f:DS->Res D} {c:Str} {p cp pos:Pos} {cv:Value} {isF:D->Option Bool}
theorem wU (hI:∀d b,isF d=some b->lB X.K cv b d) (ha:PD X e f) (hc:∀(pins:List (Addr×Obj)) (σ:St) (H:Hp) (s:Shared) (E:Value->Shared->Prop) (Q:Value->Shared->Prop),Inv X pins σ H s->Q cv s->wpAny (model X.prog X.w) X.A (eval (.Name c cp) X.env) Q E s)
  (hg:Gl X "isinstance") (hm:X.mg "isinstance" = none) (he:starEach [e,.Name c cp] X.env=(false,eval e X.env) :: starEach [.Name c cp] X.env:=by rfl) (he2:starEach [.Name c cp] X.env=[(false,eval (.Name c cp) X.env)]:=by rfl) :
  PD X (.Call (.Name "isinstance" p) [e,.Name c cp] [] pos) (fun δ=>(f δ).bind (nR isF)):=by
 intro pins s σ G H δ I R hs
 try dsimp only at hs ⊢
 refine wpAny_Call_Name_kw (ue I hg hm (u:=.builtin "isinstance") Nv ?_ (by decide) (by decide));refine PyProof.Rows.callWith_builtin1 ?_ he (by rw [he2]; rfl);rw [he];show wpAny _ _ (spliced ((false,eval e X.env) :: backTo pos (starEach [.Name c cp] X.env))) _ _ s;refine Calls.spliced_cons (ha.use I R (dY hs) (fun d u s1 v H1 q I1 r1 e1 b1 p1=>?_) fun e s1 q=>q.same fun x z=>fL z);rw [he2];show wpAny _ _ (spliced ((false,eval (.Name c cp) X.env) :: backTo pos [])) _ _ s1;refine Calls.spliced_cons (hc pins σ H1 s1 _ _ I1 (Calls.spliced_nil ?_));have h2:=fY hs q
 cases z:isF d with
 | none=>exact (h2 (by unfold nR; rw [z])).elim
 | some b=>exact Nu I1 p1 r1 (hI d b z) fun tk=>⟨.bl b,.bl b,H1,by rw [q,Res.bind_ok]; unfold nR; rw [z],I1.tok tk,rfl,e1,uT⟩
theorem C_ {T:String} (hg:Gl X c) (hm:X.mg c=none) (hv:bootBuiltins c=some (.type T)) (hn:c≠"__name__":=by decide) (hd:(c == ("__debug__" : Str))=false:=by decide) (pins:List (Addr×Obj)) (σ:St) (H:Hp) (s:Shared) (E:Value->Shared->Prop) (Q:Value->Shared->Prop) (I:Inv X pins σ H s) (h:Q (.type T) s) :
  wpAny (model X.prog X.w) X.A (eval (.Name c cp) X.env) Q E s:=ue I hg hm hv h hn hd
theorem Hh {C:Addr} (hg:Gl X c) (hm:X.mg c=some (.ref C)) (hd:(c == ("__debug__" : Str))=false:=by decide) (pins:List (Addr×Obj)) (σ:St) (H:Hp) (s:Shared) (E:Value->Shared->Prop) (Q:Value->Shared->Prop) (I:Inv X pins σ H s) (h:Q (.ref C) s) :
  wpAny (model X.prog X.w) X.A (eval (.Name c cp) X.env) Q E s:=vG I hg hm h hd
end
end DL
namespace DL
open PySem PySem.Spec PyProof.Rows L2
noncomputable def bools:List D->Option (List Bool)
 | []=>some []
 | .bl b :: ds=>(bools ds).map (b :: ·)
 | _=>none
theorem Hi:∀{ds:List D} {bs:List Bool} {i:Nat} {d:D},bools ds=some bs->ds[i]? = some d->∃b,d=.bl b/\bs[i]? = some b
 | [],_,_,_,_,e=>by simp at e
 | .bl b :: ds,bs,i,d,h,e=>by
  simp only [bools] at h
  cases q:bools ds with
  | none=>rw [q] at h; cases h
  | some cs =>
   rw [q] at h;simp only [Option.map_some,Option.some.injEq] at h;subst h
   cases i with
   | zero=>simp at e; subst e; exact ⟨b,rfl,by simp⟩
   | succ i =>
    simp at e;obtain ⟨b',e1,e2⟩:=Hi q e;exact ⟨b',e1,by simpa using e2⟩
 | .non :: ds,bs,i,d,h,e=>by simp [bools] at h
 | .int _ :: ds,bs,i,d,h,e=>by simp [bools] at h
 | .str _ :: ds,bs,i,d,h,e=>by simp [bools] at h
 | .tup _ :: ds,bs,i,d,h,e=>by simp [bools] at h
 | .lst _ :: ds,bs,i,d,h,e=>by simp [bools] at h
 | .exc _ :: ds,bs,i,d,h,e=>by simp [bools] at h
 | .excf _ _ _ :: ds,bs,i,d,h,e=>by simp [bools] at h
 | .dct :: ds,bs,i,d,h,e=>by simp [bools] at h
theorem Hj:∀{ds:List D} {bs:List Bool},bools ds=some bs->bs.length=ds.length
 | [],bs,h=>by simp [bools] at h; subst h; rfl
 | .bl b :: ds,bs,h=>by
  simp only [bools] at h
  cases q:bools ds with
  | none=>rw [q] at h; cases h
  | some cs =>
   rw [q] at h;simp only [Option.map_some,Option.some.injEq] at h;subst h;simp [Hj q]
 | .non :: ds,bs,h=>by simp [bools] at h
 | .int _ :: ds,bs,h=>by simp [bools] at h
 | .str _ :: ds,bs,h=>by simp [bools] at h
 | .tup _ :: ds,bs,h=>by simp [bools] at h
 | .lst _ :: ds,bs,h=>by simp [bools] at h
 | .exc _ :: ds,bs,h=>by simp [bools] at h
 | .excf _ _ _ :: ds,bs,h=>by simp [bools] at h
 | .dct :: ds,bs,h=>by simp [bools] at h
theorem range_all (bs:List Bool):(List.range bs.length).all (fun i=>bs.getD i true)=bs.all id:=by
 rw [Bool.eq_iff_iff];simp only [all_eq_true,mem_range,id]
 constructor
 ·intro h b hb;obtain ⟨i,hi,rfl⟩:=mem_iff_getElem.mp hb;have:=h i hi;simpa [List.getD,hi] using this
 ·intro h i hi;have:=h bs[i] (getElem_mem hi);simpa [List.getD,hi] using this
noncomputable def mU:List D->Res D
 | [.lst ds]=>match bools ds with | some bs=>.ok (.bl (bs.all id)) | none=>.stuck
 | _=>.stuck
theorem Nx (ds:List D):aM (mU ds):=by
 unfold mU
 split
 ·split
  ·exact dD
  ·exact cZ
 ·exact cZ
theorem Ny {X:Cx} {pins:List (Addr×Obj)} {s:Shared} {σ:St} {H:Hp} {a:Addr} {xs:List V} {ds:List D} {bs:List Bool} {its:List Value} (rv:Vals xs its) (r:Reps X.K H ds xs) (hb:bools ds=some bs) {A:Around} :
  TruthOf X.prog X.w A (fun i v=>its.toArray[i]? = some v) (fun i=>bs.getD i true):=by
 intro i v s Q E hP hQ;have hP':its[i]? = some v:=by simpa using hP
 have hl:i < xs.length:=by rw [rv.length]; exact (List.getElem?_eq_some_iff.mp hP').1
 obtain ⟨d,e1,e2⟩:=r.get' (i:=i) (v:=xs[i]) (by simp [hl]);obtain ⟨b,rfl,e3⟩:=Hi hb e1;obtain ⟨u,e4,e5⟩:=rv.get (i:=i) (x:=xs[i]) (by simp [hl]);rw [hP'] at e4; cases e4;rw [Cy e2] at e5
 cases e5
 refine wpAny_truthy_bool ?_;simpa [List.getD,e3] using hQ
theorem Nz {X:Cx} (hcalm:X.calm=true):CallD X (.builtin "all") mU:=by
 intro E pins s σ H xs us ds d I r p e;unfold mU at e
 split at e
 ·rename_i es
  split at e
  ·rename_i bs hb
   cases e
   obtain ⟨v,vs,rfl,p1,t⟩:=p.cons_of
   cases t.nil_of
   obtain ⟨u,rfl,rx⟩:=vals1 r;obtain ⟨a,ys,rfl,hq,rs⟩:=d_ p1
   cases rx
   obtain ⟨its,rv,pl,hz⟩:=I.list hq;refine call_all_walk (wpAny_pyIter_list pl.isList ?_);have hax:a≠s.heap.objs.size:=by
    obtain ⟨o,_,g,_⟩:=pl;exact Nat.ne_of_lt (Heap.lt_size g)
   have hn:its.toArray.size=bs.length:=by rw [size_toArray,<- rv.length,rs.length,Hj hb]
   refine ⟨_,_,_,_,_,_,fun i=>bs.getD i true,rfl,Walks.list (A:=X.A.in1) (show X.A.in1.handled=none from I.ok.hd hcalm) s.heap.objs.size a hax its.toArray,⟨⟨_,Heap.get?_push_size _ rfl,rfl,rfl⟩,(let ⟨o,g,r⟩:=pl.isList; ⟨o,Heap.get?_push_of_some _ g,r⟩)⟩,Ny (X:=X) (pins:=pins) (s:=s) (σ:=σ) (H:=H) (a:=a) rv rs hb,fun h' tk hk=>?_⟩
   rw [hn,range_all];have k:∀b o,s.heap.get? b=some o->h'.get? b=some o:=fun b o e=>hk b o (by
    intro z;have:b=s.heap.objs.size:=by simpa using z
    exact absurd (Heap.lt_size e) (by rw [this]; exact Nat.lt_irrefl _)) (Heap.get?_push_of_some _ e)
   exact ⟨_,.bl _,H,rfl,I.kept (t':=tk) k,rfl,Same.refl H,uT⟩
  ·cases e
 ·cases e
noncomputable def Hl (X:Cx) (id:String) (g:D->List D->Res D):Prop :=
 ∀(E:Value->Shared->Prop) (pins:List (Addr×Obj)) (s:Shared) (σ:St) (H:Hp) (x:V) (xs:List V) (v:Value) (us:List Value) (a:D) (ds:List D) (d:D),Inv X pins σ H s->RelV x v->Vals xs us->Rep X.K H a x->Reps X.K H ds xs->g a ds=.ok d ->
  wpAny (model X.prog X.w) X.A (call (.builtin id) (v :: us)) (EPost X pins σ H (.ok d)) E s
noncomputable def Hn (T:String):D->Prop
 | .str _=>T = "str"
 | .int _=>T = "int"
 | .lst _=>T = "list"
 | _=>False
section
variable {X:Cx} {o e:Expr} {es:List Expr} {fo:DS->Res D} {fs:DS->Res (List D)} {name:Str} {apos cpos:Pos} {T id:String} {g:D->List D->Res D}
theorem nm' {H:Hp} {d:D} {v:V} (ty:Hn T d) (p:Rep X.K H d v):Gq X.K T v H:=by
 cases d with
 | str z=>rw [Rep] at p; subst p; exact ty
 | int z=>rw [Rep] at p; subst p; exact ty
 | lst ds=>obtain ⟨a,xs,rfl,hq,_⟩:=d_ p; exact .inl ⟨ty,xs,hq⟩
 | _=>exact ty.elim
theorem NB (pa:PlainAttrs T) (slot:Slot T name id) (hty:typeOf (.builtin id)=pure (.type "method_descriptor")) (hm:Hl X id g) (hne:∀d ds,aM (g d ds)) (hT:∀d ds r,g d ds=.ok r->Hn T d) (ho:PD X o fo)
  (hbase:attributeBase o name X.env (eval o X.env)=eval o X.env:=by rfl) (hline:(apos.endLine == cpos.line)=true:=by rfl):PD X (.Call (.Attribute o name apos) [] [] cpos) (fun δ=>(fo δ).bind fun d=>g d []):=by
 intro pins s σ G H δ I R hs
 try dsimp only at hs ⊢
 refine wpAny_Call_method0_late hbase hline (ho.use I R (dY hs) (fun d u s1 v H1 q I1 r1 e1 b1 p1=>?_) fun e s1 q=>q.same fun x z=>fL z);have h2:=fY hs q
 cases qg:g d [] with
 | stuck=>exact (h2 qg).elim
 | err z=>exact (hne d [] z qg).elim
 | ok r =>
  obtain ⟨h1,h3⟩:=Ah I1 r1 (nm' (hT d [] r qg) p1);exact ⟨T,id,pa,slot,hty,h1,h3,Calls.callWith_builtin rfl (PySem.evalArgs_none (eX (hm _ pins s1 σ H1 v [] u [] d [] r I1 r1 .nil p1 Reps.nil qg) fun w s2 p=>p.from e1 (by rw [q,Res.bind_ok,qg])))⟩
end
noncomputable def gY:D->List D->Res D
 | .int i,[]=>.ok (.int (aD i))
 | _,_=>.stuck
theorem NK {X:Cx}:Hl X "int.bit_length" gY:=by
 intro E pins s σ H x xs v us a ds d I r1 r2 p1 p2 e;unfold gY at e
 split at e
 ·rename_i i
  cases e
  cases p2.nil_of
  cases r2
  rw [cC p1] at r1;obtain ⟨t,rfl⟩:=r1;exact PyProof.Rows.call_int_bit_length ⟨_,.int _,H,rfl,I.tok _,⟨_,rfl⟩,Same.refl H,gQ⟩
 ·cases e
theorem NP {X:Cx} {o:Expr} {fo:DS->Res D} {apos cpos:Pos} (ho:PD X o fo) (hbase:attributeBase o "bit_length" X.env (eval o X.env)=eval o X.env:=by rfl) (hline:(apos.endLine == cpos.line)=true:=by rfl) :
  PD X (.Call (.Attribute o "bit_length" apos) [] [] cpos) (fun δ=>(fo δ).bind fun d=>gY d []) :=
 NB PySem.F.plainAttrs_int PySem.F.slot_int_bit_length PySem.F.type_int_bit_length NK (fun d ds x=>by unfold gY; split <;> (intro z; cases z)) (fun d ds r h=>by
  unfold gY at h
  split at h
  ·rfl
  ·cases h) ho hbase hline
noncomputable def ao {α:Type} (f:DS->Res α) (g:α->Res D):DS->Res D:=fun δ=>(f δ).bind g
noncomputable def bindL (f:DS->Res D) (g:D->Res (List D)):DS->Res (List D):=fun δ=>(f δ).bind g
noncomputable def aL (f:DS->Res D) (g:D->Res Bool):DS->Res Bool:=fun δ=>(f δ).bind g
noncomputable def sO (t:DS->Res Bool):DS->Res Bool:=fun δ=>(t δ).bind fun c=>.ok (!c)
noncomputable def bR (f:DS->Res (List D)):DS->Res D:=fun δ=>jN (f δ)
noncomputable def gZ (f:DS->Res (List D)):DS->Res D:=fun δ=>fj (f δ)
noncomputable def mV:D->Res D
 | .int i=>.ok (.int (-i))
 | _=>.stuck
noncomputable def gP (f:DS->Res D):DS->Res D:=fun δ=>(f δ).bind mV
noncomputable def aJ (f:DS->Res D):DS->Out:=fun δ=>gK (f δ) δ Out.ret
noncomputable def mq (f:DS->Res D):DS->Out:=fun δ=>gK (f δ) δ fun _=>.nxt δ
noncomputable def cP (t:DS->Res Bool) (a b:DS->Out):DS->Out:=fun δ=>uU (t δ) δ fun k=>if k=true then a δ else b δ
noncomputable def g8 (fuel:DS->Nat) (c:DS->Res Bool) (b:DS->Out):DS->Out:=fun δ=>bf c b (fuel δ) δ
noncomputable def bC (i:Nat):du:=fun d δ=>some (δ.set i (some (.val d)))
noncomputable def forR (r:List D->Res (List D)) (t:du) (a:DS->Res (List D)) (b:DS->Out):DS->Out:=fun δ=>ux ((a δ).bind r) fun ds=>cI t b ds δ
theorem jF {X:Cx} {a:Expr} {fa:DS->Res D} {pos:Pos} (ha:PD X a fa):PD X (.UnaryOp .USub a pos) (gP fa) :=
 My (g:=mV) (fun E pins s σ H x v d r I r1 p1 e=>by
  cases d with
  | int i =>
   simp only [mV,Res.ok.injEq] at e;subst e;exact wpAny_mono (K_ (X:=X.wish fun _ _=>False) pins s σ H x v (fun z H'=>z=.int (-i)/\H'=H) (I.wish _) r1 ⟨i,cC p1,rfl,rfl⟩) (fun u s1 ⟨z,H1,I1,r2,e1,e2⟩=>by
    subst e1 e2;exact ⟨_,_,_,rfl,I1.unwish,r2,Same.refl _,gQ⟩) fun _ _ z=>z.elim
  | _=>simp [mV] at e) (fun x=>by cases x <;> first | exact cZ | exact dD) ha
theorem uC {m i:Nat} (h:i < m):dF m (bC i):=by
 intro d δ δ1 e;simp only [bC,Option.some.injEq] at e;subst e;exact ⟨by simp,fun j hj=>by rw [List.getElem?_set_ne (by omega)]⟩
theorem Dc {f:DS->Res D} {δ:DS} {ds:List D} (h:ak f (fun _=>.ok []) δ=.ok ds):ds.length<=sizeLine:=by
 unfold ak at h
 cases q:f δ with
 | stuck=>rw [q] at h; cases h
 | err x=>rw [q] at h; cases h
 | ok d=>rw [q] at h; cases h; show 1<=sizeLine; decide
theorem NQ {scope:Scope} {env:Env} (hf:∀y∈scope.names,y.2≠.free):relabel scope env=scope:=by
 unfold relabel;have:(scope.names.map fun x=>match x with | (n,k)=>if (k == .free && env.scope.kind == .function && env.kindOf n == some .cell)=true then (n,NameKind.cell) else (n,k))=scope.names:=by
  refine map_eq_self fun x hx=>?_;obtain ⟨n,k⟩:=x;have:(k == NameKind.free)=false:=by simpa using hf _ hx
  simp [this]
 show { scope with names:=_ }=scope
 rw [this]
theorem Dd {X:Cx} {m:Nat} {N':List Str} {scope:Scope} (hf:∀y∈scope.names,y.2≠.free:=by decide +kernel) (hc:∀y∈scope.names,y.2≠.cell:=by decide +kernel) (hk:scope.kind=.function:=by rfl)
  (hn:∀x∈scope.names,x.2=.local->scope.names.lookup x.1=some .local:=by decide +kernel) (hl:N'.length=m:=by rfl):Around' X m [] N' scope [] where
 clos:=closureFor_none hf
 nocell:=hc
 kind:=hk
 names:=hn
 sub:=fun x c h=>by simp at h
 has:=fun x h=>by
  exfalso;rw [NQ hf] at h;rcases h with h | h
  ·exact hc _ (PySem.mem_of_lookup h) rfl
  ·exact hf _ (PySem.mem_of_lookup h) rfl
 len:=by simpa using hl
 free:=fun j i h=>by simp at h
theorem De {K:Frag} {H:Hp} {i:Str}:Rep K H (.str i) (.str i):=by rw [Rep]
theorem wV {K:Frag} {H:Hp} {i:Bool}:Rep K H (.bl i) (.bl i):=by rw [Rep]
noncomputable def cH:D->D->Res D
 | .exc _,.non=>.ok (.bl false)
 | .non,.non=>.ok (.bl true)
 | .int _,.non=>.ok (.bl false)
 | .bl _,.non=>.ok (.bl false)
 | .str _,.non=>.ok (.bl false)
 | .tup _,.non=>.ok (.bl false)
 | .lst _,.non=>.ok (.bl false)
 | _,_=>.stuck
noncomputable def cM (x y:D):Res D:=(cH x y).bind fun d=>match d with | .bl b=>.ok (.bl (!b)) | _=>.stuck
theorem cs' (x y:D):aM (cH x y):=by cases x <;> cases y <;> first | exact cZ | exact dD
theorem dv' (x y:D):aM (cM x y):=by cases x <;> cases y <;> first | exact cZ | exact dD
noncomputable def lC:List D->Res D
 | [.int i]=>.ok (.int i)
 | [.bl k]=>.ok (.int (if k then 1 else 0))
 | [.str x]=>if x.length<=640 then (match PySem.intText? x with | some n=>.ok (.int n) | none=>.stuck) else .stuck
 | _=>.stuck
theorem ne_int (ds:List D):aM (lC ds):=by
 unfold lC
 split <;> first | exact dD | exact cZ | skip
 refine kJ ?_ cZ
 split <;> first | exact dD | exact cZ
section
variable {X:Cx}
theorem Ho {K:Frag} {H:Hp} {a b d:D} {x y:V} (p1:Rep K H a x) (p2:Rep K H b y) (e:cH a b=.ok d):y=.non/\d=.bl (decide (x=.non)):=by
 cases b <;> (try (cases a <;> cases e))
 all_goals (rw [Rep] at p2; subst p2)
 all_goals (refine ⟨rfl,?_⟩)
 ·rw [Rep] at p1; subst p1; rfl
 ·rw [Rep] at p1; subst p1; rfl
 ·rw [Rep] at p1; subst p1; rfl
 ·rw [Rep] at p1; subst p1; rfl
 ·obtain ⟨_,_,rfl,_⟩:=d7 p1; rfl
 ·obtain ⟨_,_,rfl,_⟩:=d_ p1; rfl
 ·rw [Rep] at p1; obtain ⟨_,_,rfl,_⟩:=p1; rfl
theorem ic':OpD X (compareOp .Is) cH:=.of (fun _=>Ld) fun H x y a b d Q p1 p2 e q=>by
 obtain ⟨h1,rfl⟩:=Ho p1 p2 e;exact ⟨h1,q _ H (Same.refl H) wV⟩
theorem id':OpD X (compareOp .IsNot) cM:=.of (fun _=>Le) fun H x y a b d Q p1 p2 e q=>by
 unfold cM at e
 cases z:cH a b with
 | ok r =>
  rw [z,Res.bind_ok] at e;obtain ⟨h1,rfl⟩:=Ho p1 p2 z
  cases e
  exact ⟨h1,q _ H (Same.refl H) wV⟩
 | err _=>exact (cs' a b _ z).elim
 | stuck=>rw [z] at e; cases e
theorem kz':CallD X (.type "int") lC:=by
 intro E pins s σ H xs us ds d I r p e;unfold lC at e
 split at e
 ·rename_i i
  cases e
  obtain ⟨v,vs,rfl,p1,t⟩:=p.cons_of
  cases t.nil_of
  rw [cC p1] at r;obtain ⟨u,rfl,t,rfl⟩:=vals1 r;exact call_int_int ⟨_,.int i,H,rfl,I,⟨_,rfl⟩,Same.refl H,gQ⟩
 ·rename_i k
  cases e
  obtain ⟨v,vs,rfl,p1,t⟩:=p.cons_of
  cases t.nil_of
  rw [Rep] at p1;subst p1;obtain ⟨u,rfl,r1⟩:=vals1 r
  cases r1
  exact call_int_bool ⟨_,.int (if k then 1 else 0),H,rfl,I.tok _,⟨_,rfl⟩,Same.refl H,gQ⟩
 ·rename_i x
  split at e
  ·rename_i hl
   split at e
   ·rename_i n hn
    cases e
    obtain ⟨v,vs,rfl,p1,t⟩:=p.cons_of
    cases t.nil_of
    rw [kZ p1] at r;obtain ⟨u,rfl,t,rfl⟩:=vals1 r;exact KIN.call_text hn hl ⟨_,.int n,H,rfl,I.tok _,⟨_,rfl⟩,Same.refl H,gQ⟩
   ·cases e
  ·cases e
 ·cases e
end
noncomputable def wW:SV->SV
 | .val d=>.val d
 | .arg d=>.val d
 | .own ds=>.val (.lst ds)
noncomputable def thaw2:SV->SV
 | .val d=>.val d
 | .arg d=>.val d
 | .own ds=>.own ds
noncomputable def thaw (δ:DS):DS:=δ.map (Option.map wW)
noncomputable def fZ:Out->Out
 | .nxt δ=>.nxt (δ.map (Option.map thaw2))
 | .brk δ=>.brk (δ.map (Option.map thaw2))
 | .cnt δ=>.cnt (δ.map (Option.map thaw2))
 | .ret d=>.ret d
 | .err x δ=>.err x δ
 | .stuck=>.stuck
theorem RepSt.thaw {K:Frag} {G H:Hp} {σ:St} {δ:DS} (R:RepSt K G H σ δ):RepSt K H H σ (thaw δ) where
 same:=Same.refl H
 len:=by unfold DL.thaw; rw [length_map]; exact R.len
 at_:=fun i sv h=>by
  unfold DL.thaw at h;rw [List.getElem?_map] at h
  cases z:δ[i]? with
  | none=>rw [z] at h; cases h
  | some o =>
   cases o with
   | none=>rw [z] at h; cases h
   | some sv0 =>
    rw [z] at h
    cases h
    obtain ⟨v,e1,e2⟩:=R.view z;refine ⟨v,e1,?_⟩
    cases sv0 <;> exact e2
 sep:=fun i j ds es v _ h=>by
  unfold DL.thaw at h;rw [List.getElem?_map] at h
  cases z:δ[i]? with
  | none=>rw [z] at h; cases h
  | some o =>
   cases o with
   | none=>rw [z] at h; cases h
   | some sv0=>rw [z] at h; cases sv0 <;> cases h
theorem RepSt.thaw2 {K:Frag} {G G' H:Hp} {σ:St} {δ:DS} (R:RepSt K G' H σ δ) (e:Same G G'):RepSt K G H σ (δ.map (Option.map thaw2)) where
 same:=e.trans R.same
 len:=by rw [length_map]; exact R.len
 at_:=fun i sv h=>by
  rw [List.getElem?_map] at h
  cases z:δ[i]? with
  | none=>rw [z] at h; cases h
  | some o =>
   cases o with
   | none=>rw [z] at h; cases h
   | some sv0 =>
    rw [z] at h
    cases h
    cases sv0 with
    | val d=>exact R.at_ i _ z
    | arg d =>
     obtain ⟨v,e1,e2⟩:=R.at_ i _ z;exact ⟨v,e1,Rep.mono R.same e2⟩
    | own ds =>
     obtain ⟨v,e1,a,xs,q1,q2,q3,q4⟩:=R.at_ i _ z;exact ⟨v,e1,a,xs,q1,q2,q3,e.free q4⟩
 sep:=fun i j ds es v hij h1 h2 h3=>by
  have get:∀(k:Nat) (fs:List D),(δ.map (Option.map DL.thaw2))[k]? = some (some (.own fs))->δ[k]? = some (some (.own fs)):=fun k fs h=>by
   rw [List.getElem?_map] at h
   cases z:δ[k]? with
   | none=>rw [z] at h; cases h
   | some o =>
    cases o with
    | none=>rw [z] at h; cases h
    | some sv0 =>
     rw [z] at h
     cases sv0 <;> cases h
     rfl
  exact R.sep i j ds es v hij (get i ds h1) (get j es h2) h3
theorem NOut.thaw {X:Cx} {G H:Hp} {o:Out} {E:Ends} (e:Same G H) (h:NOut X G H (fZ o) E):NOut X H H o E:=by
 cases o with
 | stuck=>exact h
 | nxt δ=>exact fun σ' H' t r=>h σ' H' t (r.thaw2 e)
 | brk δ=>exact fun σ' H' t r=>h σ' H' t (r.thaw2 e)
 | cnt δ=>exact fun σ' H' t r=>h σ' H' t (r.thaw2 e)
 | ret d=>exact fun v H' t g r=>h v H' t (e.trans g) r
 | err x δ=>exact h
theorem PID.pi {X:Cx} {tg iter:Expr} {f:DS->Res (List D)} (h:PID X tg iter f):PI X.nox tg iter (fun σ H R=>∃G δ ds,RepSt X.K G H σ δ/\f δ=.ok ds/\∀J H',Same H H'->cR X.K J H' ds->R J H'):=by
 intro pins s σ H R I ⟨G,δ,ds,RR,q,n⟩;refine wpAny_mono (h pins s σ G H δ I.unwish RR (by rw [q]; intro z; cases z)) (fun v s1 p=>?_) fun e s1 p=>?_
 ·refine wpAny_mono p (fun itv s2 ⟨ds',it,fp,tn,J,H',q1,q2,I2,T,t0,hf,e2,y⟩=>?_) fun e s2 p=>?_
  ·rw [q] at q1; cases q1;exact ⟨it,fp,tn,J,H',q2,I2.wish _,T,t0,hf,n J H' e2 y⟩
  ·rw [q] at p; exact p.none
 ·rw [q] at p; exact p.none
noncomputable def lD (t:du) (fi:DS->Res (List D)) (b:DS->Out):DS->Out:=fun δ=>ux (fi δ) fun ds=>fZ (cI t b ds (thaw δ))
section
variable {X:Cx} {tg iter:Expr} {body:List Stmt} {t:du} {fb:DS->Out} {pos:Pos}
theorem NT {J:It} {ds:List D} {H0:Hp} {E:Ends} (y:cR X.K J H0 ds) {δ:DS} {σ:St} (R:RepSt X.K H0 H0 σ δ) (h:NOut X H0 H0 (cI t fb ds δ) E) :
  ∃W:Nat->Nat->St->Hp->Prop,(∃m,W 0 m σ H0)/\∀i m σ H,W i m σ H ->
   (J.stop i H/\E.nx σ H)\/(J.go i H/\∃N:St->Hp->Prop,(∀σ' H',N σ' H'->∃m',m' < m/\W (i + 1) m' σ' H')/\∀x H',J.yld i H x H'->gD X t x σ H' fun σ2 H2=>sD X fb { E with nx:=N,ct:=N,bk:=E.nx } σ2 H2):=by
 refine ⟨fun i m σ H=>i + m=ds.length/\∃δ',RepSt X.K H0 H σ δ'/\NOut X H0 H (cI t fb (ds.drop i) δ') E,⟨ds.length,by omega,δ,R,by simpa using h⟩,?_⟩
 rintro i m σ1 H1 ⟨hm,δ1,R1,h1⟩
 obtain ⟨y1,y2⟩:=y H1 R1.same
 by_cases hi:i < ds.length
 ·right
  have hd:ds[i]? = some ds[i]:=List.getElem?_eq_getElem hi;obtain ⟨go,yl⟩:=y1 i ds[i] hd;refine ⟨go,fun σ' H'=>(i + 1) + (m - 1)=ds.length/\∃δ',RepSt X.K H0 H' σ' δ'/\NOut X H0 H' (cI t fb (ds.drop (i + 1)) δ') E,fun σ' H' n=>⟨m - 1,by omega,n⟩,fun x H' yx=>?_⟩;obtain ⟨e,p⟩:=yl x H' yx;rw [drop_eq_getElem_cons hi] at h1;exact G3 (R1.mono e) p (h1.tk e.tk) fun δ' σ' H'' _ r z=>⟨by omega,δ',r,z⟩
 ·left
  have e:i=ds.length:=by omega
  subst e;rw [drop_eq_nil_of_le (Nat.le_refl _)] at h1;exact ⟨y2,h1 σ1 H1 (TK.refl H1) R1⟩
theorem NZ {o:Out} (h:∀x δ',o≠.err x δ') (x:Exn) (δ':DS):fZ o≠.err x δ':=by
 cases o with
 | err y δ=>exact (h y δ rfl).elim
 | _=>intro z; cases z
theorem Aq {fi:DS->Res (List D)} (hc:X.calm=true) (hi:PID X tg iter fi) (hg:PGD X tg t) (hb:PSDs X body fb) (hf:∀x,foldedSetIterable iter X.env x=pure x:=by intro _; rfl) :
  PSD X (.For tg iter body [] pos) (lD t fi fb):=by
 refine hW' (fun δ=>GZ fun ds=>NZ (CG t fb ds (thaw δ))) fun pins s σ H E I h=>?_;obtain ⟨G,δ,R,h⟩:=h;refine hB' (X:=X.nox) PassesOwn.never hc hi.pi hg.pg hb.ps hf pins s σ H E I ?_;unfold lD at h
 cases q:fi δ with
 | stuck=>simp only [q] at h; exact h.elim
 | err x=>simp only [q] at h; exact h.elim
 | ok ds =>
  simp only [q] at h;refine ⟨G,δ,ds,R,q,fun J H1 e1 y=>?_⟩;have R1:=(R.mono e1);exact NT y R1.thaw (NOut.thaw R1.same (h.tk e1.tk))
end
section
open HT
variable {prog:Program} {w:World} {A:Around} {E:Value->Shared->Prop} {s:Shared}
theorem N5 {t sl:Addr} {items:Array Value} {vl vu:Value} {lo hi:Option Int} {Q:Value->Shared->Prop} (ht:IsTup s.heap t items) (hs:s.heap.IsSliceOf sl vl vu .none) (pl:IsPart vl lo) (pu:IsPart vu hi)
  (hw:sIx items.size 0 lo=0/\sIx items.size items.size hi=items.size) (h:Q (.ref t) s):wpAny (model prog w) A (getItem (.ref t) (.ref sl)) Q E s:=by
 obtain ⟨os,hos,hcs,hds⟩:=id hs;unfold getItem;refine wpAny_holding (wpAny_bind (wpAny_sequenceKey ht.typeIs (by decide) ?_));refine wpAny_bind (wpAny_callSpecial?_slot (name:=Str.ofString "__getitem__") ht.typeIs PyProof.Rows.slot_tuple_getitem (wpAny_call_entry PyProof.Rows.slot_tuple_getitem ht.typeIs entry_tuple_getitem ?_ (args_tuple_getitem _ _)));show wpAny _ _ (Builtin.Tuple.tupleItemsOf (.ref t) >>= _) _ _ s;refine wpAny_bind (tupleItemsOf_ ht (wpAny_bind (wpAny_typeOf ⟨os,hos,hcs⟩ ?_)));rw [if_pos (by decide)];refine wpAny_bind (Gk hs pl pu ?_);obtain ⟨w1,w2⟩:=hw;have hc:(((sIx items.size 0 lo:Nat):Int) == 0 && (1:Int) == 1 && (sIx items.size items.size hi - sIx items.size 0 lo) == items.size)=true:=by
  rw [w1,w2]; simp
 show wpAny _ _ (if (((sIx items.size 0 lo:Nat):Int) == 0 && (1:Int) == 1 && (sIx items.size items.size hi - sIx items.size 0 lo) == items.size)=true then _ else _) _ _ s
 rw [if_pos hc];refine wpAny_bind (m:=Builtin.Tuple.tupleIsExact _) (wpAny_bind (wpAny_typeOf ht.typeIs (wpAny_pure ?_)));rw [if_pos (by decide)];exact wpAny_bind (wpAny_rule (wpAny_pure ⟨_,rfl,wpAny_pure h⟩))
end
noncomputable def wX (K:Frag):V->Option Int->Option Int->Hp->VK->Prop:=fun x lo hi H Q=>∃a xs,x=.ref a/\SqT K H a xs/\(HT.sIx xs.length 0 lo=0/\HT.sIx xs.length xs.length hi=xs.length)/\Q (.ref a) H
theorem N6 {X:Cx}:SlR X (wX X.K):=by
 intro pins s σ H x v vl vu lo hi sl Q I rx hs pl pu h;obtain ⟨a,xs,rfl,hx,hw,q⟩:=h
 cases rx
 obtain ⟨its,r,ht,hz⟩:=I.tuple hx;have hlen:its.toArray.size=xs.length:=by rw [size_toArray]; exact r.length.symm
 exact ⟨"tuple",_,PyProof.Rows.slot_tuple_getitem.lookup,ht.typeIs,N5 ht hs pl pu (by rw [hlen]; exact hw) ⟨.ref a,H,I,rfl,q⟩⟩
noncomputable def wY (X:Cx) (pins:List (Addr×Obj)) (σ:St) (H:Hp) (r:Res (Option Int)) (u:Value) (s1:Shared):Prop:=∃o H1,r=.ok o/\Inv X pins σ H1 s1/\IsPart u o/\Same H H1
noncomputable def POD (X:Cx) (e:Option Expr) (f:DS->Res (Option Int)):Prop :=
 ∀(pins:List (Addr×Obj)) (s:Shared) (σ:St) (G H:Hp) (δ:DS),Inv X pins σ H s->RepSt X.K G H σ δ->f δ≠.stuck ->
  wpAny (model X.prog X.w) X.A (evalPart e X.env) (wY X pins σ H (f δ)) (XPost X pins σ H s.heap (f δ)) s
noncomputable def nU:D->Res (Option Int)
 | .int i=>.ok (some i)
 | _=>.stuck
noncomputable def bK:DS->Res (Option Int):=fun _=>.ok none
noncomputable def bM (f:DS->Res D):DS->Res (Option Int):=fun δ=>(f δ).bind nU
noncomputable def fC (ds:List D) (lo hi:Option Int):List D:=(ds.drop (HT.sIx ds.length 0 lo)).take (HT.sIx ds.length ds.length hi - HT.sIx ds.length 0 lo)
noncomputable def cutD (d:D) (lo hi:Option Int):Res D:=match d with
 | .str z=>if z.length<=sizeLine then .ok (.str (Txt.slice z lo hi)) else .stuck
 | .lst ds=>.ok (.lst (fC ds lo hi))
 | .tup ds=>.ok (.tup (fC ds lo hi))
 | _=>.stuck
noncomputable def bj (fe:DS->Res D) (fl fu:DS->Res (Option Int)):DS->Res D:=fun δ=>(fe δ).bind fun d=>(fl δ).bind fun l=>(fu δ).bind fun u=>cutD d l u
theorem nn' (d:D) (lo hi:Option Int):aM (cutD d lo hi):=by
 unfold cutD; split <;> first | exact dD | exact cZ | exact kJ dD cZ
theorem Reps.take' {K:Frag} {H:Hp}:∀(n:Nat) {ds:List D} {vs:List V},Reps K H ds vs->Reps K H (ds.take n) (vs.take n)
 | 0,_,_,_=>by simp only [take_zero]; exact Reps.nil
 | n + 1,[],_,h=>by cases h.nil_of; exact Reps.nil
 | n + 1,d :: ds,_,h=>by
  obtain ⟨v,vs,rfl,r,q⟩:=h.cons_of;exact Reps.cons r (Reps.take' n q)
theorem Reps.cut {K:Frag} {H:Hp} {ds:List D} {vs:List V} (h:Reps K H ds vs) (lo hi:Option Int):Reps K H (fC ds lo hi) (jM vs lo hi):=by
 unfold fC jM;rw [h.length];exact Reps.take' _ (Reps.drop _ h)
section
variable {X:Cx} {e:Expr} {fe:DS->Res D} {lo hi:Option Expr} {fl fu:DS->Res (Option Int)} {pos p2:Pos}
theorem jP:POD X none bK:=by
 intro pins s σ G H δ I R _;rw [evalPart_none];exact wpAny_pure ⟨none,H,rfl,I,.none,Same.refl H⟩
theorem i_ (h:PD X e fe):POD X (some e) (bM fe):=by
 intro pins s σ G H δ I R hs;unfold bM at hs ⊢;rw [evalPart_some];refine h.use I R (dY hs) (fun d u s1 v H1 q I1 r1 e1 b1 p1=>?_) fun e s1 q=>q.same fun x z=>fL z;have h2:=fY hs q
 cases d with
 | int i =>
  rw [cC p1] at r1;obtain ⟨t,rfl⟩:=r1;exact ⟨some i,H1,by rw [q]; rfl,I1,.int i t,e1⟩
 | _=>exact (h2 rfl).elim
theorem POD.use {pins:List (Addr×Obj)} {s:Shared} {σ:St} {G H:Hp} {δ:DS} (h:POD X lo fl) (I:Inv X pins σ H s) (R:RepSt X.K G H σ δ) (hs:fl δ≠.stuck) {P E:Value->Shared->Prop}
  (k:∀o u s1 H1,fl δ=.ok o->Inv X pins σ H1 s1->IsPart u o->Same H H1->Back H s.heap s1.heap->P u s1)
  (kx:∀e s1,XPost X pins σ H s.heap (fl δ) e s1->E e s1):wpAny (model X.prog X.w) X.A (evalPart lo X.env) P E s:=by
 refine wpAny_mono (h (pins ++ gj X H s.heap) s σ G H δ I.all R hs) (fun u s1 ⟨o,H1,q1,q2,q3,q4⟩=>k o u s1 H1 q1 q2.unpinned q3 q4 (I.backTo q2)) fun e s1 ⟨x,a,C,H1,q1,q2,q3,q4,q5,q6⟩=>kx e s1 ⟨x,a,C,H1,q1,q2,q3.unpinned,q4,q5,q6⟩
noncomputable def wZ:V->Option Int->Option Int->Hp->VK->Prop:=fun x lo hi H Q=>∃z,x=.str z/\z.length<=sizeLine/\Q (.str (Txt.slice z lo hi)) H
theorem sl_str:SlR X wZ:=by
 intro pins s σ H x v vl vu lo hi sl Q I rx hs pl pu h;obtain ⟨z,rfl,hz,q⟩:=h;obtain ⟨t,rfl⟩:=rx;refine ⟨"str",_,PySem.F.slot_str_getitem.lookup,typeIs_str _ _ _,?_⟩;have hl:∃l:Option (Int×Tok),vl=partValue l/\l.map (·.1)=lo:=by
  cases pl with
  | none=>exact ⟨none,rfl,rfl⟩
  | int i t=>exact ⟨some (i,t),rfl,rfl⟩
 have hu:∃u:Option (Int×Tok),vu=partValue u/\u.map (·.1)=hi:=by
  cases pu with
  | none=>exact ⟨none,rfl,rfl⟩
  | int i t=>exact ⟨some (i,t),rfl,rfl⟩
 obtain ⟨l,rfl,rfl⟩:=hl;obtain ⟨u,rfl,rfl⟩:=hu;refine wpAny_getItem_str_slice (l:=l) (u:=u) (st:=none) hs rfl ?_;exact post_val_or_str ⟨Nat.le_trans (Txt.slice_le z _ _) hz,fun t' k=>⟨.str _,H,I.tok _,⟨_,rfl⟩,q⟩⟩
theorem N7 {H:Hp} {d r:D} {v:V} {lo hi:Option Int} (p:Rep X.K H d v) (e:cutD d lo hi=.ok r):(fun x lo hi H Q=>wZ x lo hi H Q\/wM X.K x lo hi H Q\/wH X.K x lo hi H Q\/wX X.K x lo hi H Q) v lo hi H (fun z H'=>Same H H'/\Rep X.K H' r z):=by
 unfold cutD at e
 split at e
 ·rename_i z
  split at e
  ·rename_i hz
   cases e
   exact .inl ⟨z,kZ p,hz,Same.refl H,De⟩
  ·cases e
 ·rename_i ds
  cases e
  obtain ⟨a,xs,rfl,hq,rr⟩:=d_ p;exact .inr (.inl ⟨a,xs,rfl,hq,fun p hp=>⟨gf hp _,rG (SqL.of dR) ((rr.cut _ _).mono (gf hp _))⟩⟩)
 ·rename_i ds
  cases e
  obtain ⟨a,xs,rfl,hq,rr⟩:=d7 p
  by_cases hw:HT.sIx ds.length 0 lo=0/\HT.sIx ds.length ds.length hi=ds.length
  ·have ec:fC ds lo hi=ds:=by unfold fC; rw [hw.1,hw.2]; simp
   exact .inr (.inr (.inr ⟨a,xs,rfl,hq,by rw [rr.length]; exact hw,Same.refl H,by rw [ec]; exact mj hq rr⟩))
  ·exact .inr (.inr (.inl ⟨a,xs,rfl,hq,by rw [rr.length]; exact hw,fun p hp=>⟨gf hp _,mj (SqT.of dR) ((rr.cut _ _).mono (gf hp _))⟩⟩))
 ·cases e
theorem jQ (he:PD X e fe) (hl:POD X lo fl) (hu:POD X hi fu):PD X (.Subscript e (.Slice lo hi none p2) pos) (bj fe fl fu):=by
 intro pins s σ G H δ I R hs;unfold bj at hs ⊢;refine Subscript_ (he.use I R (dY hs) (fun d v s1 x H1 q I1 r1 e1 b1 p1=>?_) fun e s1 q=>q.same fun x z=>fL z);have h2:=fY hs q;rw [q,Res.bind_ok];refine wpAny_Slice (hl.use I1 (R.mono e1) (dY h2) (fun l vl s2 H2 q2 I2 pl e2 b2=>?_) fun e s2 p=>p.back e1 b1 fun x z=>fL z);have h3:=fY h2 q2;rw [q2,Res.bind_ok];refine hu.use I2 ((R.mono e1).mono e2) (dY h3) (fun u vu s3 H3 q3 I3 pu e3 b3=>?_) fun e s3 p=>(p.back e2 b2 (r':=(fu δ).bind fun u=>cutD d l u) fun x z=>fL z).back e1 b1 fun x z=>z;have h4:=fY h3 q3;rw [q3,Res.bind_ok,evalPart_none];refine wpAny_pure ?_;have I4:Inv X pins σ H3 { s3 with heap:=s3.heap.push { cls:=.type "slice",data:=.fields #[vl,vu,.none] } }:=I3.kept (t':=s3.toks) fun b ob q=>Heap.get?_push_of_some _ q
 cases qg:cutD d l u with
 | stuck=>exact (h4 qg).elim
 | err z=>exact (nn' d l u z qg).elim
 | ok r =>
  obtain ⟨T,id,hT,ht,hg⟩:=(sl_str.or (sl_list.or (sl_tup.or N6)):SlR X.nox _) pins { s3 with heap:=s3.heap.push { cls:=.type "slice",data:=.fields #[vl,vu,.none] } } σ H3 x v vl vu l u s3.heap.objs.size _ (I4.wish _) r1 (Heap.IsSliceOf.new ..) pl pu (N7 (X:=X) ((p1.mono e2).mono e3) qg)
  show wpAny (model X.prog X.w) X.A (subscriptTail e (.Slice lo hi none p2) v (.ref s3.heap.objs.size)) _ _ { s3 with heap:=s3.heap.push { cls:=.type "slice",data:=.fields #[vl,vu,.none] } }
  refine wpAny_mono (tail_any (ops:=[.ref s3.heap.objs.size,v]) ht hT hg (by with_unfolding_all rfl)) (fun w s4 q4=>?_) fun _ _ z=>z.elim;obtain ⟨z,H4,I5,r5,e5,p5⟩:=q4;exact ⟨r,z,H4,rfl,I5.unwish,r5,((e1.trans e2).trans e3).trans e5,p5⟩
end
mutual
noncomputable def bD:D->Bool
 | .tup ds=>aG ds
 | .lst _=>false
 | .excf _ _ _=>false
 | _=>true
noncomputable def aG:List D->Bool
 | []=>true
 | d :: ds=>bD d && aG ds
end
mutual
theorem Rep.lset {K:Frag} {H:Hp} {a:Addr} {xs ys:List V} (hH:H a=some (.lst xs)):∀{d:D} {v:V},bD d=true->Rep K H d v->Rep K (upd H a (.lst ys)) d v
 | .non,v,_,h=>by rw [Rep] at h ⊢; exact h
 | .bl _,v,_,h=>by rw [Rep] at h ⊢; exact h
 | .int _,v,_,h=>by rw [Rep] at h ⊢; exact h
 | .str _,v,_,h=>by rw [Rep] at h ⊢; exact h
 | .lst _,v,hf,_=>by rw [bD] at hf; cases hf
 | .tup ds,v,hf,h=>by
  obtain ⟨b,zs,rfl,hq,r⟩:=d7 h;rw [bD] at hf;refine mj ?_ (Reps.lset hH hf r);rcases hq with (hq | ⟨o,hq⟩) | hq
  ·exact .inl (.inl (by rw [bT (fun z=>by subst z; rw [hH] at hq; cases hq)]; exact hq))
  ·exact .inl (.inr ⟨o,by rw [bT (fun z=>by subst z; rw [hH] at hq; cases hq)]; exact hq⟩)
  ·exact .inr hq
 | .exc n,v,_,h=>by
  rw [Rep] at h ⊢;obtain ⟨b,C,rfl,hC,hb⟩:=h;exact ⟨b,C,rfl,hC,by rw [bT (fun z=>by subst z; rw [hH] at hb; cases hb)]; exact hb⟩
 | .excf n f d,v,hf,h=>by rw [bD] at hf; cases hf
 | .dct,v,_,h=>by
  rw [Rep] at h ⊢;obtain ⟨b,rfl,hb⟩:=h;exact ⟨b,rfl,by rw [bT (fun z=>by subst z; rw [hH] at hb; cases hb)]; exact hb⟩
theorem Reps.lset {K:Frag} {H:Hp} {a:Addr} {xs ys:List V} (hH:H a=some (.lst xs)):∀{ds:List D} {vs:List V},aG ds=true->Reps K H ds vs->Reps K (upd H a (.lst ys)) ds vs
 | [],_,_,h=>by cases h.nil_of; exact Reps.nil
 | d :: ds,_,hf,h=>by
  rw [aG,Bool.and_eq_true] at hf;obtain ⟨v,vs,rfl,r,q⟩:=h.cons_of;exact Reps.cons (Rep.lset hH hf.1 r) (Reps.lset hH hf.2 q)
end
noncomputable def bG:SV->Option SV
 | .val d=>if bD d=true then some (.val d) else none
 | .arg d=>some (.arg d)
 | .own ds=>if aG ds=true then some (.own ds) else none
noncomputable def fU (i:Nat) (ds:List D) (d:D) (δ:DS):DS:=(δ.map fun o=>o.bind bG).set i (some (.own (ds ++ [d])))
theorem uD {δ:DS} {j:Nat} {sv:SV} (h:(δ.map fun o=>o.bind bG)[j]? = some (some sv)):∃sv0,δ[j]? = some (some sv0)/\bG sv0=some sv:=by
 rw [List.getElem?_map] at h
 cases z:δ[j]? with
 | none=>rw [z] at h; cases h
 | some o =>
  cases o with
  | none=>rw [z] at h; cases h
  | some sv0=>rw [z] at h; exact ⟨sv0,rfl,by simpa using h⟩
theorem Ar {sv:SV} {ds:List D} (h:bG sv=some (.own ds)):sv=.own ds/\aG ds=true:=by
 cases sv with
 | val d=>simp only [bG] at h; split at h <;> cases h
 | arg d=>cases h
 | own es =>
  simp only [bG] at h
  split at h
  ·rename_i c; cases h; exact ⟨rfl,c⟩
  ·cases h
theorem RepSt.app {K:Frag} {G H:Hp} {σ:St} {δ:DS} {i:Nat} {ds:List D} {d:D} {a:Addr} {xs:List V} {v:V} (R:RepSt K G H σ δ) (hδ:δ[i]? = some (some (.own ds))) (hσ:σ[i]? = some (some (.ref a))) (hH:H a=some (.lst xs)) (r:Reps K H ds xs) (hG:G a=none) (hf:aG ds=true) (hd:bD d=true) (p:Rep K H d v) :
  RepSt K G (upd H a (.lst (xs ++ [v]))) σ (fU i ds d δ) where
 same:=fun b o e=>by
  have hb:b≠a:=fun z=>by subst z; rw [hG] at e; cases e
  rw [bT hb]; exact R.same b o e
 len:=by unfold fU; rw [length_set,length_map]; exact R.len
 at_:=fun j sv h=>by
  unfold fU at h;have hl:i < δ.length:=(List.getElem?_eq_some_iff.mp hδ).1
  by_cases hj:i=j
  ·subst hj;rw [List.getElem?_set_self (by rw [length_map]; exact hl)] at h
   cases h
   exact ⟨.ref a,hσ,a,xs ++ [v],rfl,dR,(Reps.lset hH hf r).append (Reps.cons (Rep.lset hH hd p) Reps.nil),hG⟩
  ·rw [List.getElem?_set_ne hj] at h;obtain ⟨sv0,q1,q2⟩:=uD h;obtain ⟨u,e1,e2⟩:=R.at_ j sv0 q1;refine ⟨u,e1,?_⟩
   cases sv0 with
   | val d' =>
    simp only [bG] at q2
    split at q2
    ·rename_i c; cases q2; exact Rep.lset hH c e2
    ·cases q2
   | arg d'=>cases q2; exact e2
   | own es =>
    simp only [bG] at q2
    split at q2
    ·rename_i c
     cases q2
     obtain ⟨b,ys,rfl,w2,w3,w4⟩:=e2;have hb:b≠a:=fun z=>by subst z; exact R.sep i j ds es (.ref b) hj hδ q1 hσ e1
     exact ⟨b,ys,rfl,by rw [bT hb]; exact w2,Reps.lset hH c w3,w4⟩
    ·cases q2
 sep:=fun j k es fs u hjk h1 h2 h3=>by
  have get:∀(m:Nat) (gs:List D),(fU i ds d δ)[m]? = some (some (.own gs))->∃gs',δ[m]? = some (some (.own gs')):=fun m gs h=>by
   unfold fU at h
   by_cases hm:i=m
   ·subst hm; exact ⟨ds,hδ⟩
   ·rw [List.getElem?_set_ne hm] at h;obtain ⟨sv0,q1,q2⟩:=uD h;obtain ⟨rfl,_⟩:=Ar q2;exact ⟨gs,q1⟩
  obtain ⟨es',g1⟩:=get j es h1;obtain ⟨fs',g2⟩:=get k fs h2;exact R.sep j k es' fs' u hjk g1 g2 h3
noncomputable def g_ (i:Nat) (fs:DS->Res (List D)):DS->Out:=fun δ=>match fs δ with
 | .ok ds=>if ds.length<=sizeLine then .nxt (δ.set i (some (.own ds))) else .stuck
 | .err x=>.err x δ
 | .stuck=>.stuck
noncomputable def iI (i:Nat) (fe:DS->Res D):DS->Out:=fun δ=>match δ[i]? with
 | some (some (.own ds))=>gK (fe δ) δ fun d=>if aG ds=true/\bD d=true/\ds.length < sizeLine then .nxt (fU i ds d δ) else .stuck
 | _=>.stuck
section
variable {X:Cx} {e:Expr} {es:List Expr} {fe:DS->Res D} {fs:DS->Res (List D)} {x:Str} {pos pos' lp np apos cpos:Pos}
theorem Df (i:Nat) (ha:PAD X es fs) (hN:X.N.Nodup) (hi:X.N[i]? = some x:=by rfl) (hx:Loc X.env.scope x:=by first | exact Or.inl rfl | exact Or.inr rfl) (hw:swapsWith (.List es lp) (some (.Name x pos')) pos.line X.env=pure false:=by rfl)
  (hf:X.fn x=true\/X.env.scope.names.lookup x=some .local:=by first | exact .inl rfl | exact .inr rfl | assumption):PSD X (.Assign [.Name x pos'] (.List es lp) pos) (g_ i fs):=by
 intro pins s σ G H δ I R hs;have hs':fs δ≠.stuck:=fun z=>hs (by unfold g_; rw [z]);refine wpAny_Assign_Name (wpAny_List_spliced (ha.use I R hs' (fun ds us s1 vs H1 q I1 r1 e1 b1 p1=>?_) fun e s1 q=>q.sx R fun x z=>by unfold g_; rw [z])) hw;have ev:g_ i fs δ=if ds.length<=sizeLine then .nxt (δ.set i (some (.own ds))) else .stuck:=by unfold g_; rw [q]
 have hz:ds.length<=sizeLine:=by
  by_cases c:ds.length<=sizeLine
  ·exact c
  ·rw [ev,if_neg c] at hs; exact (hs rfl).elim
 rw [if_pos hz] at ev;refine ⟨by rw [<- r1.length,p1.length]; exact hz,?_⟩;have hf':H1 s1.heap.objs.size=none:=I1.hok.fresh (Nat.le_refl _);have I2:Inv X pins σ (upd H1 s1.heap.objs.size (.lst vs)) { s1 with heap:=s1.heap.push { cls:=.type "list",data:=.seq us.toArray } }:=I1.laid (t':=s1.toks) (fun b u e=>Heap.get?_push_of_some _ e) (Nat.le_refl _) ⟨by rw [p1.length]; exact hz,us,0,r1,Heap.get?_push_size _ rfl⟩
 exact cN' I2 hN hi hx (v:=.ref s1.heap.objs.size) rfl (fun s2 I3=>⟨_,_,_,ev,I3,(e1.trans (gf hf' _)).tk,(R.mono e1).setOwn (gf hf' _) i hf' dR (p1.mono (gf hf' _))⟩) hf
theorem N8 (i:Nat) (he:PD X e fe) (hN:X.N[i]? = some x:=by rfl) (hv:sr X.env.scope x:=by first | exact Or.inl rfl | exact Or.inr (Or.inl rfl) | exact Or.inr (Or.inr rfl)) (hd:(x == ("__debug__" : Str))=false:=by decide)
  (hcd:(x == ("__classdict__" : Str))=false:=by decide) (hbase:attributeBase (.Name x np) "append" X.env (eval (.Name x np) X.env)=eval (.Name x np) X.env:=by rfl)
  (hfew:((backTo cpos (starEach [e] X.env)).all (fun x=>!x.1) && (backToKw cpos (keywordEach [] X.env)).all (fun x=>x.1.isSome)
   && decide (([e]:List Expr).length + ([]:List Keyword).length + (if ([]:List Keyword).isEmpty then 0 else 1) < 30))=true:=by rfl)
  (hline:(apos.endLine == cpos.line)=true:=by rfl) (hse:starEach [e] X.env=[(false,eval e X.env)]:=by rfl)
  (hw:swapsWith (.Call (.Attribute (.Name x np) "append" apos) [e] [] cpos) none pos.line X.env=pure false:=by rfl) :
  PSD X (.Expr (.Call (.Attribute (.Name x np) "append" apos) [e] [] cpos) pos) (iI i fe):=by
 intro pins s σ G H δ I R hs;unfold iI at hs ⊢
 split at hs
 ·rename_i ds hδ;obtain ⟨v,hσ,a,xs,rfl,hH,r,hG⟩:=R.at_ i _ hδ;refine wpAny_Expr_any ?_ I.quiet hw;refine wpAny_Call_method_late hbase hfew hline rfl (wpAny_mono (vD (X:=X.wish fun _ _=>False) hN hv hd hcd (pins ++ gj X H s.heap) s σ H (fun v' H'=>v'=.ref a/\H'=H) (I.all.wish _) ⟨.ref a,hσ,rfl,rfl⟩) (fun u s1 q=>?_) fun _ _ z=>z.elim);obtain ⟨v',H',I1,r1,rfl,rfl⟩:=q;have b0:=I.backTo I1.unwish;have I1':=I1.unwish.unpinned;obtain ⟨h1,h4⟩:=Ah (T:="list") I1' r1 (.inl ⟨rfl,xs,SqL.of hH⟩)
  cases r1
  refine ⟨"list", "list.append",PySem.F.plainAttrs_list,PySem.F.slot_list_append,PySem.F.type_list_append,h1,h4,?_⟩;have hs':fe δ≠.stuck:=sJ hs;rw [hse];refine Calls.callWith_builtin (by rfl) (Calls.evalArgs_plain ?_);show wpAny _ _ (spliced ((false,eval e X.env) :: backTo cpos [])) _ _ _;refine Calls.spliced_cons (he.use I1' R hs' (fun d u s2 w H2 q I2 r2 e2 b2 p2=>?_) fun e s1 q=>(q.back (Same.refl _) b0 (r':=fe δ) fun x z=>z).sx R fun x z=>by rw [z]; rfl);refine wpAny_pure ?_;have ev:(gK (fe δ) δ fun d=>if aG ds=true/\bD d=true/\ds.length < sizeLine then Out.nxt (fU i ds d δ) else Out.stuck)=if aG ds=true/\bD d=true/\ds.length < sizeLine then Out.nxt (fU i ds d δ) else Out.stuck:=by rw [q]; rfl
  have hc:aG ds=true/\bD d=true/\ds.length < sizeLine:=by
   by_cases c:aG ds=true/\bD d=true/\ds.length < sizeLine
   ·exact c
   ·rw [ev,if_neg c] at hs; exact (hs rfl).elim
  rw [ev,if_pos hc];have hH2:=e2 a _ hH;refine wpAny_mono (Gu (X:=X.wish fun _ _=>False) pins s2 σ H2 (.ref a) [w] (.ref a) [u] (fun _ H3=>H3=upd H2 a (.lst (xs ++ [w]))) (I2.wish _) rfl (.cons r2 .nil) ⟨a,xs,w,rfl,rfl,hH2,by rw [r.length]; exact hc.2.2,rfl⟩) (fun v s3 q3=>?_) fun _ _ z=>z.elim;obtain ⟨z,H3,I3,r3,rfl⟩:=q3;refine ⟨_,σ,_,rfl,I3.unwish,⟨fun b ys h=>?_,fun b o u h=>?_,fun b h=>?_⟩,(R.mono e2).app hδ hσ hH2 (r.mono e2) hG hc.1 hc.2.1 p2⟩
  ·have hb:b≠a:=fun z=>by subst z; rw [hH] at h; cases h
   rw [bT hb]; exact e2 b _ h
  ·have hb:b≠a:=fun z=>by subst z; rw [hH] at h; cases h
   rw [bT hb]; exact e2 b _ h
  ·by_cases hb:b=a
   ·subst hb; rw [dR] at h; cases h
   ·rw [bT hb] at h; exact e2.free h
 ·exact (hs rfl).elim
end
end DL
namespace DL
open PySem PySem.Spec PyProof.Rows L2
section
variable {prog:Program} {w:World} {A:Around} {E:Value->Shared->Prop} {s:Shared} {I:Addr} {fp wr:List Addr} {G:Array GenState->Array GenState->Prop} {n:Nat} {P:Nat->Value->Prop} {St:Nat->Shared->Prop}
end
section
variable {prog:Program} {w:World} {A:Around} {E:Value->Shared->Prop} {s:Shared} {x:Str} {t:Tok} {Q:Value->Shared->Prop}
end
section
variable {X:Cx} {e:Expr} {fe:DS->Res D} {sep:Str} {p0 apos np rp cpos:Pos}
end
noncomputable def dI (cells:List (Str×Addr)):List (Str×NameKind)->List (Str×Addr)->List (Str×Addr)
 | [],acc=>acc
 | y :: r,acc=>if (y.2 == NameKind.free)=true then dI cells r ((y.1,(cells.lookup y.1).getD 0) :: acc) else dI cells r acc
theorem N_ {scope:Scope} {env:Env} (h:∀y∈scope.names,y.2=.free->∃c,env.cells.lookup y.1=some c):closureFor scope env=pure (dI env.cells scope.names []):=by
 unfold closureFor;generalize scope.names=ns at h;show (forIn ns ([]:List (Str×Addr)) _ >>= fun r=>pure r)=_;have key:∀(ns:List (Str×NameKind)) (acc:List (Str×Addr)),(∀y∈ns,y.2=.free->∃c,env.cells.lookup y.1=some c) ->
   (forIn ns acc (fun (x:Str×NameKind) (cs:List (Str×Addr))=>(match x with
    | (name,kind)=>if (kind == NameKind.free)=true then do
      let c <- cellOf env name
      pure (ForInStep.yield ((name,c) :: cs))
     else pure (ForInStep.yield cs):Sem _)))=pure (dI env.cells ns acc):=by
  intro ns
  induction ns with
  | nil=>intro acc _; rfl
  | cons y r ih =>
   intro acc hy;obtain ⟨n,k⟩:=y;rw [forIn_cons]
   by_cases c:(k == NameKind.free)=true
   ·obtain ⟨a,ha⟩:=hy (n,k) (by simp) (by simpa using c);have ha':env.cells.lookup n=some a:=ha;simp only [c,if_true,dI,ha',Option.getD_some];have:cellOf env n=pure a:=by unfold cellOf; rw [ha']
    rw [this];exact ih _ fun z hz=>hy z (mem_cons_of_mem _ hz)
   ·simp only [c,if_false,dI];exact ih _ fun z hz=>hy z (mem_cons_of_mem _ hz)
 exact congrArg (fun z=>z >>= fun r=>pure r) (key ns [] h)
theorem Dg {cells:List (Str×Addr)}:∀(ns:List (Str×NameKind)) (acc:List (Str×Addr)),(∀y∈ns,y.2=.free->∃c,cells.lookup y.1=some c)->(∀x c,acc.lookup x=some c->cells.lookup x=some c) ->
  ∀x c,(dI cells ns acc).lookup x=some c->cells.lookup x=some c
 | [],acc,_,ha,x,c,h=>ha x c h
 | y :: r,acc,hn,ha,x,c,h=>by
  unfold dI at h
  split at h
  ·rename_i q;refine Dg r _ (fun z hz=>hn z (mem_cons_of_mem _ hz)) (fun x' c' h'=>?_) x c h;obtain ⟨a,e⟩:=hn y (by simp) (by simpa using q);rw [lookup_cons] at h'
   split at h'
   ·rename_i q2;have:x'=y.1:=by simpa using q2
    subst this;rw [e] at h' ⊢;simpa using h'
   ·exact ha x' c' h'
  ·exact Dg r _ (fun z hz=>hn z (mem_cons_of_mem _ hz)) ha x c h
theorem ct' {cells:List (Str×Addr)} {x:Str}:∀(ns:List (Str×NameKind)) (acc:List (Str×Addr)),((x,NameKind.free)∈ns\/∃c,acc.lookup x=some c)->∃c,(dI cells ns acc).lookup x=some c
 | [],acc,h=>by
  rcases h with h | h
  ·cases h
  ·exact h
 | y :: r,acc,h=>by
  unfold dI
  split
  ·rename_i q;refine ct' r _ ?_;rcases h with h | ⟨c,h⟩
   ·rcases mem_cons.mp h with z | z
    ·subst z;exact .inr ⟨(cells.lookup x).getD 0,by rw [lookup_cons]; simp⟩
    ·exact .inl z
   ·refine .inr ?_;rw [lookup_cons]
    split
    ·exact ⟨_,rfl⟩
    ·exact ⟨c,h⟩
  ·rename_i q;refine ct' r _ ?_;rcases h with h | h
   ·rcases mem_cons.mp h with z | z
    ·subst z; exact (q rfl).elim
    ·exact .inl z
   ·exact .inr h
theorem lookup_map2 {f:Str×NameKind->Str×NameKind} (hf:∀y,(f y).1=y.1) (x:Str):∀(ns:List (Str×NameKind)),(ns.map f).lookup x=(ns.lookup x).map fun k=>(f (x,k)).2
 | []=>rfl
 | y :: r=>by
  obtain ⟨n,k⟩:=y;rw [map_cons,show f (n,k)=(n,(f (n,k)).2) from Prod.ext (hf _) rfl,lookup_cons,lookup_cons,lookup_map2 hf x r]
  by_cases c:x=n
  ·subst c; simp
  ·have:(x == n)=false:=by simpa using c
   simp [this]
theorem Hq {scope:Scope} {env:Env} (x:Str):(relabel scope env).names.lookup x=(scope.names.lookup x).map fun k=>if (k == .free && env.scope.kind == .function && env.kindOf x == some .cell)=true then NameKind.cell else k:=by
 show List.lookup x (List.map _ scope.names)=_;rw [lookup_map2 (fun y=>by obtain ⟨n,k⟩:=y; dsimp only; split <;> rfl)]
 cases scope.names.lookup x with
 | none=>rfl
 | some k =>
  simp only [Option.map_some]
  split <;> rfl
theorem Oa {X:Cx} {m:Nat} {fr:List Nat} {N':List Str} {scope:Scope} {n:Nat} (sc:Scope) (N:List Str) (hsc:X.env.scope=sc) (hcl:X.env.cells=cellsFrom n sc.names []) (hN:X.N=N)
  (hf:∀y∈scope.names,y.2=.free->sc.names.lookup y.1=some .cell) (hc:∀y∈scope.names,y.2≠.cell) (hk:scope.kind=.function) (hks:sc.kind=.function)
  (hn:∀x∈scope.names,x.2=.local->scope.names.lookup x.1=some .local) (hl:N'.length=m + fr.length)
  (hfr:∀j,j < fr.length->∃x,N'[m + j]? = some x/\N[fr.getD j 0]? = some x/\scope.names.lookup x=some .free/\sc.names.lookup x=some .cell):Around' X m fr N' scope (dI X.env.cells scope.names []):=by
 have hs:∀y∈scope.names,y.2=.free->∃c,X.env.cells.lookup y.1=some c:=fun y hy e=>by
  rw [hcl]; exact Ci (hf y hy e)
 have hfree:∀x k,scope.names.lookup x=some k->k≠.cell:=fun x k h=>hc _ (PySem.mem_of_lookup h);refine { clos:=N_ hs,nocell:=hc,kind:=hk,names:=hn,sub:=Dg _ _ hs (fun x c h=>by simp at h),has:=fun x h=>?_,len:=hl,free:=fun j i h=>?_ }
 ·rw [Hq] at h
  cases q:scope.names.lookup x with
  | none=>rw [q] at h; rcases h with h | h <;> cases h
  | some k =>
   rw [q] at h;have:k=.free:=by
    have h2:=hfree x k q
    cases k <;> first | rfl | exact (h2 rfl).elim | (rcases h with h | h <;> simp at h)
   subst this;exact ct' _ _ (.inl (PySem.mem_of_lookup q))
 ·have hj:j < fr.length:=by
   rcases Nat.lt_or_ge j fr.length with z | z
   ·exact z
   ·rw [List.getElem?_eq_none z] at h; cases h
  obtain ⟨x,e1,e2,e3,e4⟩:=hfr j hj;have hi:fr.getD j 0=i:=by rw [getD_eq_getElem?_getD,h]; rfl
  rw [hi] at e2;obtain ⟨c,e5⟩:=ct' (cells:=X.env.cells) scope.names [] (.inl (PySem.mem_of_lookup e3));refine ⟨x,c,e1,by rw [hN]; exact e2,by rw [hsc]; exact .inr (.inl e4),.inl (by unfold Env.kindOf; rw [hsc]; exact e4),e5,.inl ?_⟩;show (relabel scope X.env).names.lookup x=_;rw [Hq,e3];have:X.env.kindOf x=some .cell:=by unfold Env.kindOf; rw [hsc]; exact e4
  simp [this,hsc,hks]
noncomputable def xf (sc scope:Scope) (N N':List Str) (m:Nat) (fr:List Nat):Bool :=
 scope.names.all (fun y=>decide (y.2≠.cell) && (!(decide (y.2=.free)) || decide (sc.names.lookup y.1=some .cell)) && (!(decide (y.2=.local)) || decide (scope.names.lookup y.1=some .local))) &&
 decide (N'.length=m + fr.length) && (List.range fr.length).all fun j=>match N'[m + j]? with
  | some x=>decide (N[fr.getD j 0]? = some x) && decide (scope.names.lookup x=some .free) && decide (sc.names.lookup x=some .cell)
  | none=>false
theorem rK {X:Cx} {m:Nat} {fr:List Nat} {N':List Str} {scope:Scope} {n:Nat} (sc:Scope) (N:List Str) (hsc:X.env.scope=sc) (hcl:X.env.cells=cellsFrom n sc.names []) (hN:X.N=N) (hk:scope.kind=.function) (hks:sc.kind=.function)
  (h:xf sc scope N N' m fr=true):Around' X m fr N' scope (dI X.env.cells scope.names []):=by
 unfold xf at h;simp only [Bool.and_eq_true,all_eq_true,decide_eq_true_eq] at h;obtain ⟨⟨h1,h2⟩,h3⟩:=h;refine Oa sc N hsc hcl hN (fun y hy e=>?_) (fun y hy=>(h1 y hy).1.1) hk hks (fun y hy e=>?_) h2 fun j hj=>?_
 ·have:=(h1 y hy).1.2;simpa [e] using this
 ·have:=(h1 y hy).2;simpa [e] using this
 ·have:=h3 j (by simpa using hj)
  split at this
  ·rename_i x q;simp only [Bool.and_eq_true,decide_eq_true_eq] at this;exact ⟨x,q,this.1.1,this.1.2,this.2⟩
  ·cases this
theorem Ob {K:Frag} {H:Hp} {lo:Int} {n:Nat}:cR K (kW lo n) H (bQ lo n):=by
 intro H' e;refine ⟨fun i d hd=>?_,by rw [An]; exact Nat.le_refl _⟩;have hi:i < n:=by
  rcases Nat.lt_or_ge i (bQ lo n).length with z | z
  ·rwa [An] at z
  ·rw [List.getElem?_eq_none z] at hd; cases hd
 refine ⟨hi,fun x H'' y=>?_⟩;obtain ⟨rfl,rfl⟩:=y;have e1:(bQ lo n)[i]? = some (.int (lo + i)):=by
  have:=CJ lo n i hi;have h2:((bQ lo n).drop i)[0]? = some (.int (lo + i)):=by rw [this]; rfl
  simpa using h2
 rw [e1] at hd
 cases hd
 exact ⟨Same.refl _,gQ⟩
theorem Oc {X:Cx} {tg:Expr} {pins:List (Addr×Obj)} {σ:St} {H H1:Hp} {lo:Int} {n:Nat} {r:Res (List D)} (e:Same H H1) (hr:r=.ok (bQ lo n)) {itv:Value} {s2:Shared} (p:PIE X pins σ tg (fun J H'=>J=kW lo n/\H'=H1) itv s2):uy X pins σ H tg r itv s2:=by
 obtain ⟨it,fp,tn,J,H',q1,q2,q3,q4,q5,rfl,rfl⟩:=p;exact ⟨_,it,fp,tn,_,_,hr,q1,q2,q3,q4,q5,e,Ob⟩
theorem Av {X:Cx} {tg a:Expr} {fa:DS->Res (List D)} {p pos:Pos} (hg:Gl X "range") (hm:X.mg "range" = none) (ha:PAD X [a] fa) (hs:starEach [a] X.env=[(false,eval a X.env)]:=by rfl) :
  PID X tg (.Call (.Name "range" p) [a] [] pos) (fun δ=>(fa δ).bind dh):=by
 intro pins s σ G H δ I R hn
 try dsimp only at hn ⊢
 refine Call_ (ue I hg hm boot_range (PyProof.Rows.callWith_type1 (ha.use I R (dY hn) (fun ds us s1 vs H1 q I1 r1 e1 b1 p1=>?_) fun e s1 q=>q.same fun x z=>fL z) hs rfl));have h2:=fY hn q;unfold dh at h2
 split at h2
 ·rename_i j;obtain ⟨v,ws,rfl,w1,w2⟩:=p1.cons_of
  cases w2.nil_of
  cases cC w1
  split at h2
  ·rename_i hj
   cases r1 with
   | cons r rr =>
    cases rr
    obtain ⟨t,rfl⟩:=r;refine call_range_1 ?_;refine wpAny_mono (F_ (R:=fun J H'=>J=kW 0 j.toNat/\H'=H1) I1 (by omega) (by omega) hj.1 hj.2 ⟨by simp,rfl⟩) (fun itv s2 z=>Oc e1 (by rw [q,Res.bind_ok]; unfold dh; simp only [hj,and_self,if_true]) z) fun _ _ z=>z
  ·exact (h2 rfl).elim
 ·exact (h2 rfl).elim
noncomputable def bu (f:DS->Res (List D)) (g:List D->Res (List D)):DS->Res (List D):=fun δ=>(f δ).bind g
noncomputable def cN:List D->Res D
 | [.lst ds]=>.ok (.tup ds)
 | [.tup ds]=>.ok (.tup ds)
 | _=>.stuck
theorem uE (ds:List D):aM (cN ds):=by
 unfold cN
 split <;> first | exact dD | exact cZ
theorem Od {X:Cx} (E:Value->Shared->Prop):CallR (X.wish E) (.type "tuple") (fun xs H Q=>∃p ys,xs=[.ref p]/\((SqL X.K H p ys/\∀l,H l=none->Q (.ref l) (upd H l (.tup ys)))\/(SqT X.K H p ys/\Q (.ref p) H))):=Mg
theorem uF {X:Cx}:CallD X (.type "tuple") cN:=.of Od fun H xs ds d Q r e q=>by
 unfold cN at e
 split at e
 ·rename_i es
  cases e
  obtain ⟨v,vs,rfl,p1,t⟩:=r.cons_of
  cases t.nil_of
  obtain ⟨a,ys,rfl,w1,w2⟩:=d_ p1;exact ⟨a,ys,rfl,.inl ⟨w1,fun l hl=>q _ _ (gf hl _) (mj (SqT.of dR) (w2.mono (gf hl _)))⟩⟩
 ·rename_i es
  cases e
  obtain ⟨v,vs,rfl,p1,t⟩:=r.cons_of
  cases t.nil_of
  obtain ⟨a,ys,rfl,w1,w2⟩:=d7 p1;exact ⟨a,ys,rfl,.inr ⟨w1,q _ _ (Same.refl H) (mj w1 w2)⟩⟩
 ·cases e
section
variable {prog:Program} {w:World} {A:Around} {E:Value->Shared->Prop} {s:Shared}
theorem Dh {it t:Addr} {i:Nat} {items:Array Value} {x:Value} {Q:Value->Shared->Prop} (hi:s.heap.IsTupleIter it t i) (ht:s.heap.IsTuple t items) (hx:items[i]? = some x)
  (h:∀h':Heap,h'.IsTupleIter it t (i + 1)->Heap.SameBut it s.heap h'->Q x { s with heap:=h' }):wpAny (model prog w) A (Builtin.SmallTypes.nextOf (.ref it)) Q E s:=by
 unfold Builtin.SmallTypes.nextOf;refine wpAny_bind (wpAny_callSpecial?_slot hi.typeIs slot_tupleiter_next ?_);refine wpAny_call (codeAny_call_builtin slot_tupleiter_next.plain entry_tupleiter_next (slot_tupleiter_next.check _ _ _ _ _ _ _ _ hi.typeIs (args_tupleiter_next _) ?_));obtain ⟨o,g,hc,hd⟩:=id hi;obtain ⟨ot,gt,htc,n,htd⟩:=id ht;refine wpAny_bind (m:=slotArgs _ _ _) (wpAny_pure ?_);refine wpAny_bind (m:=field _ _) (wpAny_field g hd rfl ?_);refine wpAny_bind (m:=field _ _) (wpAny_field g hd rfl ?_);refine wpAny_bind (m:=seqItems? _) (wpAny_seqItems gt htd ?_);simp only [Int.toNat_natCast,hx];refine wpAny_bind (wpAny_setField g hd (show 1 < 2 by decide) (wpAny_pure ?_));have d2:=Obj.data_mapFields hd (fun v=>v.setIfInBounds 1 (rawInt ((i:Int) + 1)));have g2:=Heap.get?_update_self (Obj.mapFields fun v=>v.setIfInBounds 1 (rawInt ((i:Int) + 1))) g (Obj.isFreed_of_fields d2);exact wpAny_pure (h _ ⟨_,g2,(by unfold Obj.mapFields; split <;> exact hc),d2⟩ (Heap.SameBut.update _ _ _))
theorem Oe {α:Type} {Q:α->Shared->Prop} (hh:A.handled=none) (h:∀(h':Heap) (e:Addr),(∀b o,s.heap.get? b=some o->h'.get? b=some o)->(∃o,h'.get? e=some o/\o.cls=.type "StopIteration")->E (.ref e) { s with heap:=h' }) :
  wpAny (model prog w) A (Builtin.SmallTypes.stopIteration:Sem α) Q E s:=by
 unfold Builtin.SmallTypes.stopIteration;refine wpAny_bind (m:=newExc _ _) ?_;rw [newExc.eq_1];refine wpAny_bind (wpAny_newTuple ?_ (by decide));rw [firstArgMember.eq_1];refine wpAny_bind (wpAny_bind (wpAny_pure (wpAny_pure ?_)));refine wpAny_newObj_type ?_;refine wpAny_raiseNew_none hh (h _ _ (fun b o e=>Heap.get?_push_of_some _ (Heap.get?_push_of_some _ e)) ⟨_,Heap.get?_push_size _ rfl,rfl⟩)
theorem Hr {it t:Addr} {i:Nat} {items:Array Value} {Q:Value->Shared->Prop} (hh:A.handled=none) (hi:s.heap.IsTupleIter it t i) (ht:s.heap.IsTuple t items) (hx:items[i]? = none)
  (h:∀(h':Heap) (e:Addr),Heap.ExtBut it s.heap h'->(∃o,h'.get? e=some o/\o.cls=.type "StopIteration")->E (.ref e) { s with heap:=h' }):wpAny (model prog w) A (Builtin.SmallTypes.nextOf (.ref it)) Q E s:=by
 unfold Builtin.SmallTypes.nextOf;refine wpAny_bind (wpAny_callSpecial?_slot hi.typeIs slot_tupleiter_next ?_);refine wpAny_call (codeAny_call_builtin slot_tupleiter_next.plain entry_tupleiter_next (slot_tupleiter_next.check _ _ _ _ _ _ _ _ hi.typeIs (args_tupleiter_next _) ?_));obtain ⟨o,g,hc,hd⟩:=id hi;obtain ⟨ot,gt,htc,n,htd⟩:=id ht;refine wpAny_bind (m:=slotArgs _ _ _) (wpAny_pure ?_);refine wpAny_bind (m:=field _ _) (wpAny_field g hd rfl ?_);refine wpAny_bind (m:=field _ _) (wpAny_field g hd rfl ?_);refine wpAny_bind (m:=seqItems? _) (wpAny_seqItems gt htd ?_);simp only [Int.toNat_natCast,hx];refine wpAny_bind (wpAny_rule (wpAny_bind (wpAny_setField g hd (show 0 < 2 by decide) ?_)));refine Oe hh fun h' e kp ex=>h h' e (fun b o' hb e'=>kp b o' ?_) ex;rw [Heap.get?_update_other _ _ (Ne.symm hb)]; exact e'
structure ZipT (h:Heap) (z TI TO i1 i2 t1 t2:Addr) (f0:Value) (i:Nat):Prop where
 zip:IsZip h z TI TO f0
 ti:IsPair h TI (.ref i1) (.ref i2)
 to:∃a b,IsPair h TO a b
 j1:h.IsTupleIter i1 t1 i
 j2:h.IsTupleIter i2 t2 i
theorem Og {z TI TO i1 i2 t1 t2:Addr} {i:Nat} {xs ys:Array Value} {x y:Value} {Q:Option Value->Shared->Prop} (ap:List.Nodup [z,TI,TO,i1,i2]) (n1:t1∉[z,TI,TO,i1,i2]) (n2:t2∉[z,TI,TO,i1,i2])
  (Z:ZipT s.heap z TI TO i1 i2 t1 t2 .none i) (h1:s.heap.IsTuple t1 xs) (h2:s.heap.IsTuple t2 ys) (hx:xs[i]? = some x) (hy:ys[i]? = some y)
  (hQ:∀h':Heap,ZipT h' z TI TO i1 i2 t1 t2 (rawInt (s.heap.objs.size:Nat)) (i + 1)->IsPair h' s.heap.objs.size x y->(∀b o,b∉[z,TI,TO,i1,i2]->s.heap.get? b=some o->h'.get? b=some o)->Q (some (.ref s.heap.objs.size)) { s with heap:=h' }) :
  wpAny (model prog w) A (pyNext (.ref z)) Q E s:=by
 obtain ⟨gz,gti,⟨a,b,gto⟩,j1,j2⟩:=Z;have tz:s.TypeIs (.ref z) "zip":=⟨_,gz,rfl⟩;unfold pyNext;refine wpAny_bind (wpAny_attempt ?_);refine wpAny_callSpecial?_slot tz F.slot_zip_next ?_;refine wpAny_call (codeAny_call_builtin F.slot_zip_next.plain F.entry_zip_next (F.slot_zip_next.check _ _ _ _ _ _ _ _ tz (F.args_zip_next_1 _) ?_));unfold Builtin.«zip.__next__»;refine wpAny_bind (m:=slotArgs _ _ _) (wpAny_pure ?_);refine wpAny_bind (m:=field _ _) (wpAny_field gz rfl rfl ?_);refine wpAny_bind (m:=field _ _) (wpAny_field gz rfl rfl ?_);refine wpAny_bind (m:=seqItems? _) (wpAny_seqItems gti rfl ?_);dsimp only;refine wpAny_bind (m:=Builtin.SmallTypes.ownedTupleIsFree _) ?_;unfold Builtin.SmallTypes.ownedTupleIsFree;refine wpAny_bind (m:=field _ _) (wpAny_field gz rfl rfl ?_);refine wpAny_pure ?_;rw [if_pos rfl];refine wpAny_bind (wpAny_rule (wpAny_bind (m:=field _ _) (wpAny_field gz rfl rfl ?_)))
 try dsimp only
 refine wpAny_bind (wpAny_setField gz rfl (show 0 < 5 by decide) ?_);have hst:(#[Value.none,Value.bool false,Value.bool false,Value.ref TI,Value.ref TO][2] == Value.bool true)=false:=rfl;have dz0:=Obj.data_mapFields (o:={ cls:=Value.type "zip",data:=Data.fields #[Value.none,Value.bool false,Value.bool false,Value.ref TI,Value.ref TO] }) rfl (fun v=>v.setIfInBounds 0 Value.ellipsis);have gz0:=Heap.get?_update_self (Obj.mapFields fun v=>v.setIfInBounds 0 Value.ellipsis) gz (Obj.isFreed_of_fields dz0);have sb0:=Heap.SameBut.update s.heap z (Obj.mapFields fun v=>v.setIfInBounds 0 Value.ellipsis);generalize s.heap.update z (Obj.mapFields fun v=>v.setIfInBounds 0 Value.ellipsis)=h0 at gz0 sb0 ⊢;simp only [nodup_cons,mem_cons,not_mem_nil,or_false,not_or,nodup_nil,and_true,not_false_eq_true] at ap n1 n2;obtain ⟨⟨az1,az2,az3,az4⟩,⟨ai1,ai2,ai3⟩,⟨ao1,ao2⟩,a12⟩:=ap;obtain ⟨m1,m2,m3,m4,m5⟩:=n1;obtain ⟨q1,q2,q3,q4,q5⟩:=n2;have k0:∀b,b≠z->h0.get? b=s.heap.get? b:=sb0.2;have mvT:∀{h h':Heap} {c t:Addr} {xs:Array Value},(∀b,b≠c->h'.get? b=h.get? b)->t≠c->h.IsTuple t xs->h'.IsTuple t xs:=fun k n ⟨o,g,r⟩=>⟨o,(k _ n).trans g,r⟩;have mvI:∀{h h':Heap} {c t j:Addr} {n:Nat},(∀b,b≠c->h'.get? b=h.get? b)->j≠c->h.IsTupleIter j t n->h'.IsTupleIter j t n:=fun k n ⟨o,g,r⟩=>⟨o,(k _ n).trans g,r⟩;simp only [show [Value.ref i1,Value.ref i2].zipIdx=[(Value.ref i1,0),(Value.ref i2,1)] from rfl,forIn_cons,hst]
 refine wpAny_bind (wpAny_bind ?_);refine wpAny_bind (wpAny_onRaise ?_);refine wpAny_bind (m:=Builtin.SmallTypes.nextOf (.ref i1)) (Dh (mvI k0 (Ne.symm az3) j1) (mvT k0 m1 h1) hx fun h1' ji1 sb1=>?_);have k1:∀b,b≠i1->h1'.get? b=h0.get? b:=sb1.2;refine wpAny_pure ?_;have gto1:h1'.get? TO=some { cls:=Value.type "tuple",data:=Data.seq #[a,b] }:=(k1 _ ao1).trans ((k0 _ (Ne.symm az2)).trans gto);refine wpAny_bind (wpAny_seqItems gto1 rfl ?_);refine wpAny_bind (wpAny_updateSeq gto1 rfl ?_ (show 2<=sizeLine by decide) (show 2<=sizeLine + 1 by decide));have gto2:(h1'.update TO (Obj.mapSeq fun v=>v.setIfInBounds 0 x)).get? TO=some { cls:=Value.type "tuple",data:=Data.seq #[x,b] }:=(Heap.get?_update_self _ gto1 rfl).trans rfl;have k2:∀b,b≠TO->(h1'.update TO (Obj.mapSeq fun v=>v.setIfInBounds 0 x)).get? b=h1'.get? b:=(Heap.SameBut.update _ _ _).2;have z2:(h1'.update TO (Obj.mapSeq fun v=>v.setIfInBounds 0 x)).objs.size=h1'.objs.size:=(Heap.SameBut.update _ _ _).1;dsimp only;generalize h1'.update TO (Obj.mapSeq fun v=>v.setIfInBounds 0 x)=h2' at gto2 k2 z2 ⊢;refine wpAny_bind (wpAny_letGo (wpAny_pure ?_));refine wpAny_bind (wpAny_bind (wpAny_onRaise ?_));refine wpAny_bind (m:=Builtin.SmallTypes.nextOf (.ref i2)) (Dh (mvI k2 (Ne.symm ao2) (mvI k1 (Ne.symm a12) (mvI k0 (Ne.symm az4) j2))) (mvT k2 q3 (mvT k1 q4 (mvT k0 q1 h2))) hy fun h3' ji2 sb3=>?_);have k3:∀b,b≠i2->h3'.get? b=h2'.get? b:=sb3.2;refine wpAny_pure ?_;have gto3:h3'.get? TO=some { cls:=Value.type "tuple",data:=Data.seq #[x,b] }:=(k3 _ ao2).trans gto2;refine wpAny_bind (wpAny_seqItems gto3 rfl ?_);refine wpAny_bind (wpAny_updateSeq gto3 rfl ?_ (show 2<=sizeLine by decide) (show 2<=sizeLine + 1 by decide));have gto4:(h3'.update TO (Obj.mapSeq fun v=>v.setIfInBounds 1 y)).get? TO=some { cls:=Value.type "tuple",data:=Data.seq #[x,y] }:=(Heap.get?_update_self _ gto3 rfl).trans rfl;have k4:∀b,b≠TO->(h3'.update TO (Obj.mapSeq fun v=>v.setIfInBounds 1 y)).get? b=h3'.get? b:=(Heap.SameBut.update _ _ _).2;have z4:(h3'.update TO (Obj.mapSeq fun v=>v.setIfInBounds 1 y)).objs.size=h3'.objs.size:=(Heap.SameBut.update _ _ _).1;dsimp only;generalize h3'.update TO (Obj.mapSeq fun v=>v.setIfInBounds 1 y)=h4' at gto4 k4 z4 ⊢;refine wpAny_bind (wpAny_letGo (wpAny_pure ?_));refine wpAny_pure ?_;refine wpAny_bind (wpAny_seqItems gto4 rfl ?_);have hT:h4'.objs.size=s.heap.objs.size:=by rw [z4,sb3.1,z2,sb1.1,sb0.1]
 refine wpAny_bind (wpAny_newTuple ?_ (show 2<=sizeLine by decide));dsimp only;rw [hT];have zi:z≠s.heap.objs.size:=fun e=>by have:=Heap.lt_size gz; rw [e] at this; exact Nat.lt_irrefl _ this
 have gT:(h4'.push { cls:=Value.type "tuple",data:=Data.seq #[x,y] }).get? s.heap.objs.size=some { cls:=Value.type "tuple",data:=Data.seq #[x,y] }:=by rw [<- hT]; exact Heap.get?_push_size _ rfl
 have k5:∀b o,h4'.get? b=some o->(h4'.push { cls:=Value.type "tuple",data:=Data.seq #[x,y] }).get? b=some o:=fun b o e=>Heap.get?_push_of_some _ e;show wpAny _ _ (do Builtin.SmallTypes.ownedTupleHandOut (Value.ref z) (Value.ref s.heap.objs.size); ret _) _ _ { s with heap:=h4'.push { cls:=Value.type "tuple",data:=Data.seq #[x,y] } }
 generalize h4'.push { cls:=Value.type "tuple",data:=Data.seq #[x,y] }=h5' at gT k5 ⊢;have gz4:h4'.get? z=some { cls:=Value.type "zip",data:=Data.fields #[Value.ellipsis,Value.bool false,Value.bool false,Value.ref TI,Value.ref TO] } :=
  (k4 _ az2).trans ((k3 _ az4).trans ((k2 _ az2).trans ((k1 _ az3).trans (gz0.trans rfl))))
 have gz5:=k5 _ _ gz4;have gti4:h4'.get? TI=some { cls:=Value.type "tuple",data:=Data.seq #[.ref i1,.ref i2] }:=(k4 _ ai1).trans ((k3 _ ai3).trans ((k2 _ ai1).trans ((k1 _ ai2).trans ((k0 _ (Ne.symm az1)).trans gti))));obtain ⟨oj1,gj1,rj1⟩:=ji1;obtain ⟨oj2,gj2,rj2⟩:=ji2;have gj1':h4'.get? i1=some oj1:=(k4 _ (Ne.symm ao1)).trans ((k3 _ a12).trans ((k2 _ (Ne.symm ao1)).trans gj1));have gj2':h4'.get? i2=some oj2:=(k4 _ (Ne.symm ao2)).trans gj2;refine wpAny_bind (m:=Builtin.SmallTypes.ownedTupleHandOut _ _) ?_;unfold Builtin.SmallTypes.ownedTupleHandOut;refine wpAny_bind (wpAny_setField gz5 rfl (show 0 < 5 by decide) ?_);have gz6:(h5'.update z (Obj.mapFields fun v=>v.setIfInBounds 0 (rawInt (s.heap.objs.size:Nat)))).get? z=some { cls:=Value.type "zip",data:=Data.fields #[rawInt (s.heap.objs.size:Nat),Value.bool false,Value.bool false,Value.ref TI,Value.ref TO] }:=(Heap.get?_update_self _ gz5 rfl).trans rfl;have k6:∀b,b≠z->(h5'.update z (Obj.mapFields fun v=>v.setIfInBounds 0 (rawInt (s.heap.objs.size:Nat)))).get? b=h5'.get? b:=(Heap.SameBut.update _ _ _).2;dsimp only;generalize h5'.update z (Obj.mapFields fun v=>v.setIfInBounds 0 (rawInt (s.heap.objs.size:Nat)))=h6' at gz6 k6 ⊢;refine wpAny_setField gz6 rfl (show 1 < 5 by decide) ?_;have gz7:(h6'.update z (Obj.mapFields fun v=>v.setIfInBounds 1 (Value.bool false))).get? z=some { cls:=Value.type "zip",data:=Data.fields #[rawInt (s.heap.objs.size:Nat),Value.bool false,Value.bool false,Value.ref TI,Value.ref TO] }:=(Heap.get?_update_self _ gz6 rfl).trans rfl;have k7:∀b,b≠z->(h6'.update z (Obj.mapFields fun v=>v.setIfInBounds 1 (Value.bool false))).get? b=h6'.get? b:=(Heap.SameBut.update _ _ _).2;dsimp only;generalize h6'.update z (Obj.mapFields fun v=>v.setIfInBounds 1 (Value.bool false))=h7' at gz7 k7 ⊢;refine wpAny_pure (wpAny_pure ?_);have kk:∀b o,b≠z->h4'.get? b=some o->h7'.get? b=some o:=fun b o n e=>(k7 _ n).trans ((k6 _ n).trans (k5 _ _ e));refine hQ h7' ⟨gz7,kk _ _ (Ne.symm az1) gti4,⟨_,_,kk _ _ (Ne.symm az2) gto4⟩,⟨_,kk _ _ (Ne.symm az3) gj1',rj1⟩,⟨_,kk _ _ (Ne.symm az4) gj2',rj2⟩⟩ ((k7 _ (Ne.symm zi)).trans ((k6 _ (Ne.symm zi)).trans gT)) fun b o n e=>?_;simp only [mem_cons,not_mem_nil,or_false,not_or] at n;obtain ⟨p1,p2,p3,p4,p5⟩:=n;exact kk b o p1 ((k4 _ p3).trans ((k3 _ p5).trans ((k2 _ p3).trans ((k1 _ p4).trans ((k0 _ p1).trans e)))))
end
theorem Oh:isSubtype (.type "StopIteration") (.type "StopIteration")=pure true:=by rw [isSubtype_type]; kernel_rfl
section
variable {prog:Program} {w:World} {A:Around} {E:Value->Shared->Prop} {s:Shared}
theorem Hs {z:Addr} {vs:Array Value} {h':Heap} {e:Addr} {Q:Option Value->Shared->Prop} (hz:h'.get? z=some { cls:=Value.type "zip",data:=Data.fields vs }) (hv:0 < vs.size) (he:∃o,h'.get? e=some o/\o.cls=.type "StopIteration")
  (hQ:Q none { s with heap:=h'.update z (Obj.mapFields fun v=>v.setIfInBounds 0 Value.none) }) :
  wpAny (model prog w) A.in1 (setField (Value.ref z) 0 Value.none) (fun _ s''=>wpAny (model prog w) A (do
   let b <- isInstance (.ref e) (Value.type "StopIteration")
   if b=true then pure none else throw (.ref e)) Q E s'') (fun e s''=>wpAny (model prog w) A (do
   let b <- isInstance e (Value.type "StopIteration")
   if b=true then pure none else throw e) Q E s'') { s with heap:=h' }:=by
 refine wpAny_setField hz rfl hv ?_;obtain ⟨o,g,c⟩:=he;have n:e≠z:=fun q=>by
  rw [q,hz] at g;have g':=Option.some.inj g;rw [<- g'] at c;injection c with c'
  exact absurd c' (by decide)
 refine wpAny_bind (wpAny_isInstance (b:=true) (T:="StopIteration") ⟨o,(by show (h'.update z _).get? e=_; rw [Heap.get?_update_other _ _ (Ne.symm n)]; exact g),c⟩ Oh (wpAny_pure hQ))
theorem lF' {z TI TO i1 i2 t1 t2:Addr} {i:Nat} {xs ys:Array Value} {Q:Option Value->Shared->Prop} (hh:A.handled=none) (ap:List.Nodup [z,TI,TO,i1,i2]) (n1:t1∉[z,TI,TO,i1,i2]) (n2:t2∉[z,TI,TO,i1,i2])
  (Z:ZipT s.heap z TI TO i1 i2 t1 t2 .none i) (h1:s.heap.IsTuple t1 xs) (h2:s.heap.IsTuple t2 ys) (hx:xs[i]? = none\/ys[i]? = none)
  (hQ:∀h':Heap,(∀b o,b∉[z,TI,TO,i1,i2]->s.heap.get? b=some o->h'.get? b=some o)->Q none { s with heap:=h' }) :
  wpAny (model prog w) A (pyNext (.ref z)) Q E s:=by
 obtain ⟨gz,gti,⟨a,b,gto⟩,j1,j2⟩:=Z;have tz:s.TypeIs (.ref z) "zip":=⟨_,gz,rfl⟩;unfold pyNext;refine wpAny_bind (wpAny_attempt ?_);refine wpAny_callSpecial?_slot tz F.slot_zip_next ?_;refine wpAny_call (codeAny_call_builtin F.slot_zip_next.plain F.entry_zip_next (F.slot_zip_next.check _ _ _ _ _ _ _ _ tz (F.args_zip_next_1 _) ?_));unfold Builtin.«zip.__next__»;refine wpAny_bind (m:=slotArgs _ _ _) (wpAny_pure ?_);refine wpAny_bind (m:=field _ _) (wpAny_field gz rfl rfl ?_);refine wpAny_bind (m:=field _ _) (wpAny_field gz rfl rfl ?_);refine wpAny_bind (m:=seqItems? _) (wpAny_seqItems gti rfl ?_);dsimp only;refine wpAny_bind (m:=Builtin.SmallTypes.ownedTupleIsFree _) ?_;unfold Builtin.SmallTypes.ownedTupleIsFree;refine wpAny_bind (m:=field _ _) (wpAny_field gz rfl rfl ?_);refine wpAny_pure ?_;rw [if_pos rfl];refine wpAny_bind (wpAny_rule (wpAny_bind (m:=field _ _) (wpAny_field gz rfl rfl ?_)))
 try dsimp only
 refine wpAny_bind (wpAny_setField gz rfl (show 0 < 5 by decide) ?_);have hst:(#[Value.none,Value.bool false,Value.bool false,Value.ref TI,Value.ref TO][2] == Value.bool true)=false:=rfl;have dz0:=Obj.data_mapFields (o:={ cls:=Value.type "zip",data:=Data.fields #[Value.none,Value.bool false,Value.bool false,Value.ref TI,Value.ref TO] }) rfl (fun v=>v.setIfInBounds 0 Value.ellipsis);have gz0:=Heap.get?_update_self (Obj.mapFields fun v=>v.setIfInBounds 0 Value.ellipsis) gz (Obj.isFreed_of_fields dz0);have sb0:=Heap.SameBut.update s.heap z (Obj.mapFields fun v=>v.setIfInBounds 0 Value.ellipsis);generalize s.heap.update z (Obj.mapFields fun v=>v.setIfInBounds 0 Value.ellipsis)=h0 at gz0 sb0 ⊢;simp only [nodup_cons,mem_cons,not_mem_nil,or_false,not_or,nodup_nil,and_true,not_false_eq_true] at ap n1 n2;obtain ⟨⟨az1,az2,az3,az4⟩,⟨ai1,ai2,ai3⟩,⟨ao1,ao2⟩,a12⟩:=ap;obtain ⟨m1,m2,m3,m4,m5⟩:=n1;obtain ⟨q1,q2,q3,q4,q5⟩:=n2;have k0:∀b,b≠z->h0.get? b=s.heap.get? b:=sb0.2;have mvT:∀{h h':Heap} {c t:Addr} {xs:Array Value},(∀b,b≠c->h'.get? b=h.get? b)->t≠c->h.IsTuple t xs->h'.IsTuple t xs:=fun k n ⟨o,g,r⟩=>⟨o,(k _ n).trans g,r⟩;have mvI:∀{h h':Heap} {c t j:Addr} {n:Nat},(∀b,b≠c->h'.get? b=h.get? b)->j≠c->h.IsTupleIter j t n->h'.IsTupleIter j t n:=fun k n ⟨o,g,r⟩=>⟨o,(k _ n).trans g,r⟩;simp only [show [Value.ref i1,Value.ref i2].zipIdx=[(Value.ref i1,0),(Value.ref i2,1)] from rfl,forIn_cons,hst]
 have gz0':h0.get? z=some { cls:=Value.type "zip",data:=Data.fields #[Value.ellipsis,Value.bool false,Value.bool false,Value.ref TI,Value.ref TO] }:=gz0.trans rfl;refine wpAny_bind (wpAny_bind ?_);refine wpAny_bind (wpAny_onRaise ?_)
 cases hx1:xs[i]? with
 | none =>
  refine wpAny_bind (m:=Builtin.SmallTypes.nextOf (.ref i1)) (Hr hh (mvI k0 (Ne.symm az3) j1) (mvT k0 m1 h1) hx1 fun h1' e xb he=>?_);have gz1:h1'.get? z=_:=xb z _ az3 gz0';refine Hs gz1 (show 0 < 5 by decide) he (hQ _ fun b o n ee=>?_);simp only [mem_cons,not_mem_nil,or_false,not_or] at n;obtain ⟨p1,p2,p3,p4,p5⟩:=n;rw [Heap.get?_update_other _ _ (Ne.symm p1)];exact xb b o p4 ((k0 _ p1).trans ee)
 | some x =>
 have hy:ys[i]? = none:=by
  rcases hx with q | q
  ·rw [hx1] at q; cases q
  ·exact q
 refine wpAny_bind (m:=Builtin.SmallTypes.nextOf (.ref i1)) (Dh (mvI k0 (Ne.symm az3) j1) (mvT k0 m1 h1) hx1 fun h1' ji1 sb1=>?_);have k1:∀b,b≠i1->h1'.get? b=h0.get? b:=sb1.2;refine wpAny_pure ?_;have gto1:h1'.get? TO=some { cls:=Value.type "tuple",data:=Data.seq #[a,b] }:=(k1 _ ao1).trans ((k0 _ (Ne.symm az2)).trans gto);refine wpAny_bind (wpAny_seqItems gto1 rfl ?_);refine wpAny_bind (wpAny_updateSeq gto1 rfl ?_ (show 2<=sizeLine by decide) (show 2<=sizeLine + 1 by decide));have gto2:(h1'.update TO (Obj.mapSeq fun v=>v.setIfInBounds 0 x)).get? TO=some { cls:=Value.type "tuple",data:=Data.seq #[x,b] }:=(Heap.get?_update_self _ gto1 rfl).trans rfl;have k2:∀b,b≠TO->(h1'.update TO (Obj.mapSeq fun v=>v.setIfInBounds 0 x)).get? b=h1'.get? b:=(Heap.SameBut.update _ _ _).2;have z2:(h1'.update TO (Obj.mapSeq fun v=>v.setIfInBounds 0 x)).objs.size=h1'.objs.size:=(Heap.SameBut.update _ _ _).1;dsimp only;generalize h1'.update TO (Obj.mapSeq fun v=>v.setIfInBounds 0 x)=h2' at gto2 k2 z2 ⊢;refine wpAny_bind (wpAny_letGo (wpAny_pure ?_));refine wpAny_bind (wpAny_bind (wpAny_onRaise ?_));refine wpAny_bind (m:=Builtin.SmallTypes.nextOf (.ref i2)) (Hr hh (mvI k2 (Ne.symm ao2) (mvI k1 (Ne.symm a12) (mvI k0 (Ne.symm az4) j2))) (mvT k2 q3 (mvT k1 q4 (mvT k0 q1 h2))) hy fun h3' e xb he=>?_);have gz3:h3'.get? z=_:=xb z _ az4 ((k2 _ az2).trans ((k1 _ az3).trans gz0'));refine Hs gz3 (show 0 < 5 by decide) he (hQ _ fun b o n ee=>?_);simp only [mem_cons,not_mem_nil,or_false,not_or] at n;obtain ⟨p1,p2,p3,p4,p5⟩:=n;rw [Heap.get?_update_other _ _ (Ne.symm p1)];exact xb b o p5 ((k2 _ p3).trans ((k1 _ p4).trans ((k0 _ p1).trans ee)))
end
theorem Oi (t1 t2:Addr) (xs ys:Array Value):Meets (Builtin.«zip.__new__» ⟨[.type "zip",.ref t1,.ref t2],[]⟩) (fun _ R s=>s.heap.IsTuple t1 xs/\s.heap.IsTuple t2 ys /\
  ∀h':Heap,ZipT h' (s.heap.objs.size + 4) (s.heap.objs.size + 2) (s.heap.objs.size + 3) s.heap.objs.size (s.heap.objs.size + 1) t1 t2 .none 0->(∀b o,s.heap.get? b=some o->h'.get? b=some o)->h'.objs.size=s.heap.objs.size + 5->R (.ok (.ret (.ref (s.heap.objs.size + 4)))) { s with heap:=h' }):=by
 intro prog w A R s ⟨h1,h2,hR⟩;unfold Builtin.«zip.__new__»;refine wpAny_bind (m:=Builtin.SmallTypes.newClass _ _) ?_;unfold Builtin.SmallTypes.newClass;refine wpAny_bind (m:=isType _) (wpAny_pure ?_);show wpAny _ _ (do let b <- isSubtype (Value.type "zip") (Value.type "zip"); _) _ _ _
 rw [sub_zip];refine wpAny_pure ?_;show wpAny _ _ (do let its <- Builtin.SmallTypes.iterAll [.ref t1,.ref t2]; _) _ _ _
 refine wpAny_bind ?_;unfold Builtin.SmallTypes.iterAll;simp only [forIn_cons];refine wpAny_bind (wpAny_bind (wpAny_bind (wpAny_holding (wpAny_pyIter_tuple h1 (wpAny_pure ?_)))));have h2':(s.heap.push { cls:=Value.type "tuple_iterator",data:=Data.fields #[Value.ref t1,Value.int 0 0] }).IsTuple t2 ys:=by
  obtain ⟨o,g,r⟩:=h2;exact ⟨o,Heap.get?_push_of_some _ g,r⟩
 refine wpAny_bind (wpAny_bind (wpAny_holding (wpAny_pyIter_tuple h2' (wpAny_pure ?_))));refine wpAny_pure (wpAny_pure ?_);refine wpAny_bind (wpAny_newTuple ?_ (show 2<=sizeLine by decide));refine wpAny_bind (wpAny_newTuple ?_ (show 2<=sizeLine by decide));refine wpAny_bind (m:=Builtin.SmallTypes.newRecord _ _) ?_;unfold Builtin.SmallTypes.newRecord;refine wpAny_newObj_type (wpAny_pure ?_) (show 5<=sizeLine + 2 by decide);dsimp only
 let S:=s.heap.objs.size
 let A1:=s.heap.push { cls:=Value.type "tuple_iterator",data:=Data.fields #[Value.ref t1,Value.int 0 0] }
 let A2:=A1.push { cls:=Value.type "tuple_iterator",data:=Data.fields #[Value.ref t2,Value.int 0 0] }
 let A3:=A2.push { cls:=Value.type "tuple",data:=Data.seq #[Value.ref S,Value.ref A1.objs.size] }
 let A4:=A3.push { cls:=Value.type "tuple",data:=Data.seq #[Value.none,Value.none] }
 let A5:=A4.push { cls:=Value.type "zip",data:=Data.fields #[Value.none,Value.bool false,Value.bool false,Value.ref A2.objs.size,Value.ref A3.objs.size] }
 have e1:A1.objs.size=S + 1:=Heap.size_push _ _;have e2:A2.objs.size=S + 2:=(Heap.size_push _ _).trans (by rw [e1]);have e3:A3.objs.size=S + 3:=(Heap.size_push _ _).trans (by rw [e2]);have e4:A4.objs.size=S + 4:=(Heap.size_push _ _).trans (by rw [e3]);have e5:A5.objs.size=S + 5:=(Heap.size_push _ _).trans (by rw [e4]);have p1:A1.get? S=some { cls:=Value.type "tuple_iterator",data:=Data.fields #[Value.ref t1,Value.int 0 0] }:=Heap.get?_push_size _ rfl;have p2:A2.get? (S + 1)=some { cls:=Value.type "tuple_iterator",data:=Data.fields #[Value.ref t2,Value.int 0 0] }:=by rw [<- e1]; exact Heap.get?_push_size _ rfl
 have p3:A3.get? (S + 2)=some { cls:=Value.type "tuple",data:=Data.seq #[Value.ref S,Value.ref A1.objs.size] }:=by rw [<- e2]; exact Heap.get?_push_size _ rfl
 have p4:A4.get? (S + 3)=some { cls:=Value.type "tuple",data:=Data.seq #[Value.none,Value.none] }:=by rw [<- e3]; exact Heap.get?_push_size _ rfl
 have p5:A5.get? (S + 4)=some { cls:=Value.type "zip",data:=Data.fields #[Value.none,Value.bool false,Value.bool false,Value.ref A2.objs.size,Value.ref A3.objs.size] }:=by rw [<- e4]; exact Heap.get?_push_size _ rfl
 have u2:∀b o,A1.get? b=some o->A2.get? b=some o:=fun b o e=>Heap.get?_push_of_some _ e;have u3:∀b o,A2.get? b=some o->A3.get? b=some o:=fun b o e=>Heap.get?_push_of_some _ e;have u4:∀b o,A3.get? b=some o->A4.get? b=some o:=fun b o e=>Heap.get?_push_of_some _ e;have u5:∀b o,A4.get? b=some o->A5.get? b=some o:=fun b o e=>Heap.get?_push_of_some _ e;have fin:=hR A5 ⟨by rw [e2,e3] at p5; exact p5,by rw [e1] at p3; exact u5 _ _ (u4 _ _ p3),⟨_,_,u5 _ _ p4⟩,⟨_,u5 _ _ (u4 _ _ (u3 _ _ (u2 _ _ p1))),rfl,rfl⟩,⟨_,u5 _ _ (u4 _ _ (u3 _ _ p2)),rfl,rfl⟩⟩
  (fun b o e=>u5 _ _ (u4 _ _ (u3 _ _ (u2 _ _ (Heap.get?_push_of_some _ e))))) e5
 have e4':s.heap.objs.size + 4=A4.objs.size:=e4.symm;rw [e4'] at fin;exact fin
theorem Oj {prog:Program} {w:World} {A:Around} {E:Value->Shared->Prop} {s:Shared} {t1 t2:Addr} {xs ys:Array Value} {Q:Value->Shared->Prop} (h1:s.heap.IsTuple t1 xs) (h2:s.heap.IsTuple t2 ys)
  (hQ:∀h':Heap,ZipT h' (s.heap.objs.size + 4) (s.heap.objs.size + 2) (s.heap.objs.size + 3) s.heap.objs.size (s.heap.objs.size + 1) t1 t2 .none 0->(∀b o,s.heap.get? b=some o->h'.get? b=some o)->h'.objs.size=s.heap.objs.size + 5->Q (.ref (s.heap.objs.size + 4)) { s with heap:=h' }) :
  wpAny (model prog w) A (call (.type "zip") [.ref t1,.ref t2]) Q E s :=
 callType_new F.called_zip (by decide) (F.typeCall_zip_2 _ _) (F.newCall_zip_2 _ _) (fun obj=>F.args_object_init_3 _ _ _) F.entry_zip_new (Oi t1 t2 xs ys) ⟨h1,h2,fun h' Z k e=>⟨⟨_,Z.zip,rfl⟩,hQ h' Z k e⟩⟩
theorem _root_.L2.Inv.butL {X:Cx} {pins:List (Addr×Obj)} {σ:St} {H:Hp} {s:Shared} {fp:List Addr} {h':Heap} {t':Nat} (J:Inv X pins σ H s) (hf:∀b∈fp,fW X pins H b) (hk:∀b o,b∉fp->s.heap.get? b=some o->h'.get? b=some o) :
  Inv X pins σ H { s with heap:=h',toks:=t' }:=by
 have nC:∀b,H b≠none->b∉fp:=fun b hb z=>hb (hf b z).1;refine J.call' (ch:=fp) (s':={ s with heap:=h',toks:=t' }) rfl
   ⟨fun b o e n hb hx=>hk b o hx e,fun b o e n hb hx=>⟨o.slots,hk b o hx e⟩,fun b o e n _=>n,fun b o e hx=>⟨o,hk b o hx e⟩,fun b xs e=>e,fun b o u e=>e,fun b ps e=>⟨#[],by simpa using e⟩⟩
   (fun b u q=>(J.hok b u q).stay (fun c v hc e=>hk c v (by
    rcases hc with rfl | hc
    ·exact nC c (by rw [q]; intro z; cases z)
    ·exact nC c (by rw [hc]; intro z; cases z)) e) (fun _ z=>z) fun _ _ z=>z) J.bare
   fun b hb=>by
    obtain ⟨f0,f1,f2,f3,f4,f5⟩:=hf b hb;exact ⟨f3,f1,f4,f5⟩
noncomputable def Ht (K:Frag) (t1 t2:Addr):It :=
  ⟨fun i H=>∃xs ys v u,SqT K H t1 xs/\SqT K H t2 ys/\xs[i]? = some v/\ys[i]? = some u,
   fun i H x H'=>∃T,H T=none/\x=.ref T/\∃v u,(∀xs,SqT K H t1 xs->xs[i]? = some v)/\(∀ys,SqT K H t2 ys->ys[i]? = some u)/\H'=upd H T (.tup [v,u]),
   fun i H=>∃xs ys,SqT K H t1 xs/\SqT K H t2 ys/\(xs.length<=i\/ys.length<=i)⟩
theorem Ol {P:Program} {w:World} {K:Frag} {elts:List Expr} {x1:Nat} {pos:Pos} {z TI TO i1 i2 t1 t2:Addr} (ap:List.Nodup [z,TI,TO,i1,i2]) (n1:t1∉[z,TI,TO,i1,i2]) (n2:t2∉[z,TI,TO,i1,i2]) :
  Turn P w K (.Tuple elts x1 pos) (Ht K t1 t2) [z,TI,TO,i1,i2] z (fun i h=>ZipT h z TI TO i1 i2 t1 t2 .none i) where
 mem:=by simp
 obj:=fun i h st b hb=>by
  obtain ⟨gz,gti,⟨a,c,gto⟩,⟨o1,g1,_,d1⟩,⟨o2,g2,_,d2⟩⟩:=st;simp only [mem_cons,not_mem_nil,or_false] at hb;rcases hb with rfl | rfl | rfl | rfl | rfl
  ·exact ⟨_,gz,fun v q=>by cases q⟩
  ·exact ⟨_,gti,fun v q=>by cases q⟩
  ·exact ⟨_,gto,fun v q=>by cases q⟩
  ·exact ⟨_,g1,fun v q=>by rw [d1] at q; cases q⟩
  ·exact ⟨_,g2,fun v q=>by rw [d2] at q; cases q⟩
 keep:=fun i h h' st k=>by
  obtain ⟨gz,gti,⟨a,c,gto⟩,⟨o1,g1,r1⟩,⟨o2,g2,r2⟩⟩:=st;exact ⟨k z (by simp) _ gz,k TI (by simp) _ gti,⟨a,c,k TO (by simp) _ gto⟩,⟨o1,k i1 (by simp) _ g1,r1⟩,⟨o2,k i2 (by simp) _ g2,r2⟩⟩
 item:=by
  intro X hP hw hK hc i pins s σ H E I hf st hg;subst hP hw hK;obtain ⟨xs,ys,v,u,hq1,hq2,hx,hy⟩:=hg;obtain ⟨its1,rv1,p1,hz1⟩:=I.tuple hq1;obtain ⟨its2,rv2,p2,hz2⟩:=I.tuple hq2;obtain ⟨u1,hu1,ru1⟩:=rv1.get hx;obtain ⟨u2,hu2,ru2⟩:=rv2.get hy;refine Og ap n1 n2 st (show s.heap.IsTuple t1 its1.toArray from p1) (show s.heap.IsTuple t2 its2.toArray from p2) (x:=u1) (y:=u2) (by simpa using hu1) (by simpa using hu2) fun h' Z gT kk=>?_
  refine ⟨_,rfl,wpAny_letOwnedTupleGo_zip (T:=s.heap.objs.size) Z.zip fun h'' gz'' sb=>?_⟩;have fT:fW X pins H s.heap.objs.size:=I.fpOk (Nat.le_refl _) (I.hok.fresh (Nat.le_refl _));have zs:s.heap.objs.size≠z:=fun e=>by
   have:=Heap.lt_size st.zip; rw [<- e] at this; exact Nat.lt_irrefl _ this
  have kk2:∀b o,b∉[z,TI,TO,i1,i2]->s.heap.get? b=some o->h''.get? b=some o:=fun b o n e=>(sb.2 b (fun q=>n (by rw [q]; simp))).trans (kk b o n e);have I1:Inv X pins σ H { s with heap:=h'' }:=I.butL (t':=s.toks) hf kk2
  have gT2:h''.get? s.heap.objs.size=some { cls:=Value.type "tuple",data:=Data.seq #[u1,u2] }:=(sb.2 _ zs).trans gT;obtain ⟨f0,f1,f2,f3,f4,f5⟩:=fT;have I2:Inv X pins σ (upd H s.heap.objs.size (.tup [v,u])) { s with heap:=h'' }:=I1.track f0 (fun ob e _=>absurd (Nat.lt_of_lt_of_le (Heap.lt_size e) I.sz) (Nat.lt_irrefl _)) f1 f4 f5
   ⟨show 2<=sizeLine by decide,[u1,u2],.cons ru1 (.cons ru2 .nil),⟨_,gT2,rfl,_,rfl⟩⟩
  have nz:∀b,b≠z->h''.get? b=h'.get? b:=sb.2;refine ⟨.ref s.heap.objs.size,_,I2,rfl,⟨_,f0,rfl,v,u,fun xs' h=>?_,fun ys' h=>?_,rfl⟩,?_,fun b hb=>?_⟩
  ·rw [I.tuple_inj h hq1]; exact hx
  ·rw [I.tuple_inj h hq2]; exact hy
  ·have ap':=ap;simp only [nodup_cons,mem_cons,not_mem_nil,or_false,not_or,nodup_nil,and_true,not_false_eq_true] at ap';obtain ⟨⟨az1,az2,az3,az4⟩,_⟩:=ap';obtain ⟨_,gti,⟨a,c,gto⟩,⟨o1,g1,r1⟩,⟨o2,g2,r2⟩⟩:=Z;exact ⟨gz'',(nz _ (Ne.symm az1)).trans gti,⟨a,c,(nz _ (Ne.symm az2)).trans gto⟩,⟨o1,(nz _ (Ne.symm az3)).trans g1,r1⟩,⟨o2,(nz _ (Ne.symm az4)).trans g2,r2⟩⟩
  ·have hb2:b≠s.heap.objs.size:=fun e=>by
    obtain ⟨o,g,_⟩:=(show ∃o,s.heap.get? b=some o/\True from by
     obtain ⟨gz,gti,⟨a,c,gto⟩,⟨o1,g1,_⟩,⟨o2,g2,_⟩⟩:=st;simp only [mem_cons,not_mem_nil,or_false] at hb;rcases hb with rfl | rfl | rfl | rfl | rfl
     ·exact ⟨_,gz,trivial⟩
     ·exact ⟨_,gti,trivial⟩
     ·exact ⟨_,gto,trivial⟩
     ·exact ⟨_,g1,trivial⟩
     ·exact ⟨_,g2,trivial⟩)
    have:=Heap.lt_size g;rw [e] at this; exact Nat.lt_irrefl _ this
   rw [bT hb2]; exact (hf b hb).1
 done:=by
  intro X hP hw hK hc i pins s σ H E I hf st hg;subst hP hw hK;obtain ⟨xs,ys,hq1,hq2,hx⟩:=hg;obtain ⟨its1,rv1,p1,hz1⟩:=I.tuple hq1;obtain ⟨its2,rv2,p2,hz2⟩:=I.tuple hq2;have l1:=rv1.length;have l2:=rv2.length;refine lF' (I.ok.hd hc) ap n1 n2 st (show s.heap.IsTuple t1 its1.toArray from p1) (show s.heap.IsTuple t2 its2.toArray from p2) ?_ fun h' kk=>⟨rfl,I.butL (t':=s.toks) hf kk⟩
  rcases hx with q | q
  ·exact .inl (by simp; omega)
  ·exact .inr (by simp; omega)
 self:=fun _ _ _ _ _ st h=>wpAny_pyIter_zip st.zip h
noncomputable def lE (xs ys:List D):List D:=List.zipWith (fun x y=>D.tup [x,y]) xs ys
noncomputable def lF:List D->Res (List D)
 | [.tup xs,.tup ys]=>.ok (lE xs ys)
 | _=>.stuck
theorem Om {K:Frag} {H:Hp} {t1 t2:Addr} {xs ys:List V} {ds es:List D} (h1:SqT K H t1 xs) (h2:SqT K H t2 ys) (r1:Reps K H ds xs) (r2:Reps K H es ys):cR K (Ht K t1 t2) H (lE ds es):=by
 intro H' e;have q1:=Ai e h1;have q2:=Ai e h2;have p1:=r1.mono e;have p2:=r2.mono e;refine ⟨fun i d hd=>?_,xs,ys,q1,q2,?_⟩
 ·unfold lE at hd;rw [List.getElem?_zipWith] at hd
  cases z1:ds[i]? with
  | none=>rw [z1] at hd; simp at hd
  | some x =>
   cases z2:es[i]? with
   | none=>rw [z1,z2] at hd; simp at hd
   | some y =>
    rw [z1,z2] at hd;simp only [Option.some.injEq] at hd;subst hd;obtain ⟨v,e1,s1⟩:=p1.get z1;obtain ⟨u,e2,s2⟩:=p2.get z2;refine ⟨⟨xs,ys,v,u,q1,q2,e1,e2⟩,fun a H'' yl=>?_⟩;obtain ⟨T,hT,rfl,v',u',k1,k2,rfl⟩:=yl;have w1:=k1 xs q1;have w2:=k2 ys q2;rw [e1] at w1; rw [e2] at w2
    cases w1; cases w2
    have sm:=gf hT (.tup [v,u]);exact ⟨sm,mj (SqT.of dR) (.cons (s1.mono sm) (.cons (s2.mono sm) .nil))⟩
 ·unfold lE;rw [length_zipWith,r1.length,r2.length];omega
theorem Oo (S:Nat):List.Nodup [S + 4,S + 2,S + 3,S,S + 1]:=by
 simp only [nodup_cons,mem_cons,not_mem_nil,or_false,not_or,nodup_nil,and_true,not_false_eq_true];omega
theorem Hu {S t:Nat} (h:t < S):t∉[S + 4,S + 2,S + 3,S,S + 1]:=by
 simp only [mem_cons,not_mem_nil,or_false,not_or];omega
theorem Hv {S b:Nat} (h:b∈[S + 4,S + 2,S + 3,S,S + 1]):S<=b:=by
 simp only [mem_cons,not_mem_nil,or_false] at h;omega
theorem Hw {X:Cx} {a b:Expr} {fa:DS->Res (List D)} {p pos tp:Pos} {elts:List Expr} {x1:Nat} (hg:Gl X "zip") (hm:X.mg "zip" = none) (ha:PAD X [a,b] fa) (hs:starEach [a,b] X.env=[(false,eval a X.env),(false,eval b X.env)]:=by rfl) (hs2:starEach [b] X.env=[(false,eval b X.env)]:=by rfl) :
  PID X (.Tuple elts x1 tp) (.Call (.Name "zip" p) [a,b] [] pos) (fun δ=>(fa δ).bind lF):=by
 intro pins s σ G H δ I R hn
 try dsimp only at hn ⊢
 refine Call_ (ue I hg hm boot_zip (PyProof.Rows.callWith_type1 (ha.use I R (dY hn) (fun ds us s1 vs H1 q I1 r1 e1 b1 p1=>?_) fun e s1 q=>q.same fun x z=>fL z) (by rw [hs,hs2]) (by rw [hs2]; rfl)));have h2:=fY hn q;unfold lF at h2
 split at h2
 ·rename_i ds1 ds2;obtain ⟨v,ws,rfl,w1,w2⟩:=p1.cons_of;obtain ⟨v',ws,rfl,w3,w4⟩:=w2.cons_of
  cases w4.nil_of
  obtain ⟨t1,xs,rfl,s1',t1'⟩:=d7 w1;obtain ⟨t2,ys,rfl,s2',t2'⟩:=d7 w3
  cases r1 with
  | cons ra rr =>
   cases rr with
   | cons rb rr =>
    cases rr
    cases ra
    cases rb
    obtain ⟨its1,rv1,pp1,hz1⟩:=I1.tuple s1';obtain ⟨its2,rv2,pp2,hz2⟩:=I1.tuple s2';refine Oj (show s1.heap.IsTuple t1 its1.toArray from pp1) (show s1.heap.IsTuple t2 its2.toArray from pp2) fun h' Z kk sz=>?_
    have I2:Inv X pins σ H1 { s1 with heap:=h' }:=I1.kept (t':=s1.toks) kk
    obtain ⟨o1,g1,_⟩:=id pp1;obtain ⟨o2,g2,_⟩:=id pp2;have l1:=Heap.lt_size g1;have l2:=Heap.lt_size g2;refine wpAny_pyIter_zip Z.zip ?_;refine ⟨_,s1.heap.objs.size + 4,[s1.heap.objs.size + 4,s1.heap.objs.size + 2,s1.heap.objs.size + 3,s1.heap.objs.size,s1.heap.objs.size + 1],_,_,H1,by rw [q]; rfl,rfl,I2,Ol ?_ ?_ ?_,Z,fun b hb=>?_,e1,Om s1' s2' t1' t2'⟩
    ·exact Oo _
    ·exact Hu l1
    ·exact Hu l2
    ·exact I1.fpOk (Hv hb) (I1.hok.fresh (Hv hb))
 ·exact (h2 rfl).elim
theorem xg {m i j:Nat} (h:i < m) (h':j < m):dF m (aZ [i,j]):=by
 intro d δ δ1 e
 cases d with
 | tup ds =>
  match ds,e with
  | [x,y],e =>
   simp only [aZ,cV,Option.some.injEq] at e;subst e;exact ⟨by simp,fun k hk=>by rw [List.getElem?_set_ne (by omega),List.getElem?_set_ne (by omega)]⟩
  | [],e=>simp [aZ,cV] at e
  | [x],e=>simp [aZ,cV] at e
  | _ :: _ :: _ :: _,e=>simp [aZ,cV] at e
 | _=>simp [aZ] at e
section
variable {X:Cx} {e:Expr} {fe:DS->Res D} {pos:Pos} {op:Operator} {g:D->D->Res D}
end
theorem Oq:fillsNumberSlot (.type "tuple") "mul" = pure false:=by first | exact noFill_tuple_mul | (unfold fillsNumberSlot; kernel_rfl)
theorem Ot:seqRepeat? (.type "tuple")=pure (some (.builtin "tuple.__mul__")):=by first | exact repeat_tuple | (unfold seqRepeat?; kernel_rfl)
section
variable {prog:Program} {w:World} {A:Around} {E:Value->Shared->Prop} {s:Shared}
theorem Ou {t:Addr} {items:Array Value} {k:Int} {tok:Tok} {Q:Value->Shared->Prop} (ht:IsTup s.heap t items) (h:Q .notImplemented s):wpAny (model prog w) A (call (.builtin "int.__rmul__") [.int k tok,.ref t]) Q E s:=by
 obtain ⟨o,g,hc,n,hd⟩:=id ht;refine wpAny_call (codeAny_call_builtin F.slot_int_rmul.plain F.entry_int_rmul (F.slot_int_rmul.check _ _ _ _ _ _ _ _ (typeIs_int s k tok) (F.args_int_rmul_2 _ _) ?_));refine wpAny_bind (m:=slotArgs _ _ _) (wpAny_pure ?_);refine wpAny_bind (m:=Builtin.Int.intOfSelf _) (wpAny_bind (m:=asInt? _) (wpAny_pure (wpAny_pure ?_)));refine wpAny_bind (m:=asInt? _) (wpAny_bind (m:=load _) (wpAny_load g ?_));simp only [hd];refine wpAny_pure ?_;exact wpAny_bind (wpAny_rule (wpAny_pure h))
theorem Ov {t:Addr} {items:Array Value} {k:Nat} {tok:Tok} {Q:Value->Shared->Prop} (ht:IsTup s.heap t items) (hne:items.isEmpty=false) (hk:items.size * k<=1000) (h1:k=1->Q (.ref t) s)
  (h2:k≠1->Q (.ref s.heap.objs.size) { s with heap:=s.heap.push { cls:=.type "tuple",data:=.seq (List.replicate k items.toList).flatten.toArray } }):wpAny (model prog w) A (call (.builtin "tuple.__mul__") [.ref t,.int k tok]) Q E s:=by
 refine wpAny_call (codeAny_call_builtin F.slot_tuple_mul.plain F.entry_tuple_mul (F.slot_tuple_mul.check _ _ _ _ _ _ _ _ ht.typeIs (F.args_tuple_mul_2 _ _) ?_));refine wpAny_bind (m:=asIndex _) (wpAny_bind (m:=asInt? _) (wpAny_pure (wpAny_pure ?_)));have p1:1<=items.size:=by
  rcases Nat.eq_zero_or_pos items.size with z | z
  ·rw [Array.isEmpty_eq_false_iff,<- Array.size_pos_iff] at hne; omega
  ·exact z
 have kk:k<=1000:=Nat.le_trans (Nat.le_mul_of_pos_left k p1) hk;have hfit:(decide ((k:Int) < -2 ^ 63) || decide ((k:Int)>=2 ^ 63))=false:=by
  rw [Bool.or_eq_false_iff];exact ⟨decide_eq_false (by omega),decide_eq_false (by omega)⟩
 dsimp only;rw [hfit,if_neg Bool.false_ne_true];refine wpAny_bind (tupleItemsOf_ ht ?_)
 by_cases c:k=1
 ·have hc:(items.isEmpty || ((k:Nat):Int) == 1)=true:=by rw [c]; simp
  rw [if_pos hc];refine wpAny_bind (m:=Builtin.Tuple.tupleIsExact _) (wpAny_bind (wpAny_typeOf ht.typeIs (wpAny_pure ?_)));rw [if_pos (by decide)];exact wpAny_bind (wpAny_rule (wpAny_pure (h1 c)))
 ·have hc:¬((items.isEmpty || ((k:Nat):Int) == 1)=true):=by
   rw [hne]; simp; omega
  rw [if_neg hc];have q:=h2 c
  by_cases z:k=0
  ·have hz:(decide (((k:Nat):Int)<=0) || items.isEmpty)=true:=by rw [z]; simp
   rw [if_pos hz];rw [z] at q;exact wpAny_bind (m:=Builtin.Tuple.tupleExact _) (wpAny_newObj_type (wpAny_pure q) (show 0<=sizeLine from Nat.zero_le _))
  ·have hz:¬((decide (((k:Nat):Int)<=0) || items.isEmpty)=true):=by
    rw [hne]; simp; omega
   rw [if_neg hz];have e0:((items.size:Int) * (k:Int))=((items.size * k:Nat):Int):=by simp
   have hs:(1000:Nat)<=sizeLine:=by decide
   have hm:¬((items.size:Int) * (k:Int) > (2 ^ 63 - 1) / 8):=by
    rw [e0];have:((2:Int) ^ 63 - 1) / 8=1152921504606846975:=by decide
    omega
   rw [if_neg hm];have ht2:¬(Builtin.Tuple.tupleTooMany ((items.size:Int) * (k:Int))=true):=by
    unfold Builtin.Tuple.tupleTooMany;rw [e0]; simp only [decide_eq_true_eq]; omega
   rw [if_neg ht2];have hf:List.foldl (fun x1 x2=>x1 ++ x2) #[] (List.replicate ((k:Nat):Int).toNat items)=(List.replicate k items.toList).flatten.toArray:=by
    have:=foldl_rep items.toList k [];rw [nil_append] at this;rw [Int.toNat_natCast];simpa using this
   rw [hf];exact wpAny_bind (m:=Builtin.Tuple.tupleExact _) (wpAny_newObj_type (wpAny_pure q) (by show _<=sizeLine; rw [size_toArray,len_rep,Array.length_toList,Nat.mul_comm]; omega))
end
noncomputable def uG (K:Frag):R2:=fun x y H Q=>∃a k xs,x=.ref a/\y=.int ((k:Nat):Int)/\SqT K H a xs/\xs≠[]/\xs.length * k<=1000/\(k=1->Q (.ref a) H)/\(k≠1->∀p,H p=none->Q (.ref p) (upd H p (.tup (List.replicate k xs).flatten)))
theorem Ow {X:Cx}:OpR X (binaryOp .Mult) (uG X.K):=by
 intro pins s σ H x y v u Q I rx ry h;obtain ⟨a,k,xs,rfl,rfl,hq,hne,hz,q1,q2⟩:=h
 cases rx
 obtain ⟨t,rfl⟩:=ry;obtain ⟨its,r,ht,hzz⟩:=I.tuple hq;have hl:=r.length;refine wpAny_binaryOp_repeat_ref (T:="tuple") (U:="int") (by decide) ht.typeIs (fun s'=>typeIs_int s' k t) Oq F.fills_int_mul F.slot_int_rmul Ot F.slot_int_index.lookup
  (Ou ht ⟨rfl,ht.typeIs,?_⟩)
 refine Ov ht ?_ (by rw [size_toArray,<- hl]; exact hz) (fun e=>⟨.ref a,H,I,rfl,q1 e⟩) fun e=>?_
 ·cases its with
  | nil=>exact (hne (eq_nil_of_length_eq_zero hl)).elim
  | cons b l=>simp
 ·have hb:(List.replicate k xs).flatten.length<=sizeLine:=by
   rw [len_rep,Nat.mul_comm]; exact Nat.le_trans hz (by decide)
  exact ⟨.ref s.heap.objs.size,_,I.laid (t':=s.toks) (o:=.tup (List.replicate k xs).flatten) (fun b ob q=>Heap.get?_push_of_some _ q) (Nat.le_refl _) ⟨hb,_,r.rep k,IsTup.new _ _⟩,rfl,q2 e _ (I.hok.fresh (Nat.le_refl _))⟩
theorem Reps.rep {K:Frag} {H:Hp} {ds:List D} {vs:List V} (h:Reps K H ds vs):∀k:Nat,Reps K H (List.replicate k ds).flatten (List.replicate k vs).flatten
 | 0=>Reps.nil
 | k + 1=>by
  rw [replicate_succ,replicate_succ,flatten_cons,flatten_cons];exact h.append (Reps.rep h k)
noncomputable def nW (ds:List D) (k:Int):Res D:=if ds.isEmpty=false/\0<=k/\ds.length * k.toNat<=1000 then .ok (.tup (List.replicate k.toNat ds).flatten) else .stuck
noncomputable def b_:D->D->Res D
 | .tup ds,.int k=>nW ds k
 | a,b=>di a b
theorem h_ (x y:D):aM (b_ x y):=by
 unfold b_
 split
 ·unfold nW; exact kJ dD cZ
 ·exact Mz _ _
theorem Ox {X:Cx} (E:Value->Shared->Prop):OpR (X.wish E) (binaryOp .Mult) (uG X.K):=Ow
theorem ie {X:Cx}:OpD X (binaryOp .Mult) b_:=by
 intro E pins s σ H x y v u a b d I r1 r2 p1 p2 e;unfold b_ at e
 split at e
 ·rename_i ds k;unfold nW at e
  split at e
  ·rename_i c
   cases e
   obtain ⟨p,us,rfl,s1,t1⟩:=d7 p1;have hy:=cC p2;subst hy;have hk:((k.toNat:Nat):Int)=k:=by omega
   refine eX (Ox E pins s σ H (.ref p) (.int k) v u (fun z H'=>Same H H'/\Rep X.K H' (.tup (List.replicate k.toNat ds).flatten) z) (I.wish _) r1 r2 ⟨p,k.toNat,us,rfl,by rw [hk],s1,?_,by rw [t1.length]; exact c.2.2,fun e1=>⟨Same.refl H,?_⟩,fun _ z hz=>⟨gf hz _,mj (SqT.of dR) ((t1.rep _).mono (gf hz _))⟩⟩) fun w s2 ⟨z,H1,I1,r3,e1,p3⟩=>⟨_,z,H1,rfl,I1.unwish,r3,e1,p3⟩
   ·intro z; rw [z] at t1; have:=t1.isEmpty; rw [c.1] at this; cases this
   ·rw [e1,replicate_one,flatten_cons,flatten_nil,append_nil]; exact mj s1 t1
  ·cases e
 ·exact MJ E pins s σ H x y v u a b d I r1 r2 p1 p2 e
noncomputable def intsOf:List D->Option (List Int)
 | []=>some []
 | .int i :: ds=>(intsOf ds).map (i :: ·)
 | _=>none
theorem Hx:∀(ns:List Int),intsOf (ns.map .int)=some ns
 | []=>rfl
 | n :: ns=>by rw [map_cons,intsOf,Hx ns]; rfl
theorem Aw:∀{ds:List D} {ns:List Int},intsOf ds=some ns->ds=ns.map .int
 | [],ns,h=>by cases h; rfl
 | d :: ds,ns,h=>by
  cases d <;> first | (simp [intsOf] at h; done) | skip
  rename_i i;simp only [intsOf] at h
  cases q:intsOf ds with
  | none=>rw [q] at h; cases h
  | some ms=>rw [q] at h; cases h; rw [Aw q]; rfl
theorem fR' {K:Frag} {H:Hp} {ns:List Int} {xs:List V} {its:List Value} (r:Reps K H (ns.map .int) xs) (rv:Vals xs its) {i:Nat} {v:Value} (h:its[i]? = some v):∃t,v=.int (ns.getD i 0) t:=by
 have hl:i < xs.length:=by rw [rv.length]; exact (List.getElem?_eq_some_iff.mp h).1
 obtain ⟨d,e1,e2⟩:=r.get' (i:=i) (v:=xs[i]) (by simp [hl]);obtain ⟨u,e4,e5⟩:=rv.get (i:=i) (x:=xs[i]) (by simp [hl]);rw [h] at e4; cases e4;rw [List.getElem?_map] at e1
 cases q:ns[i]? with
 | none=>rw [q] at e1; cases e1
 | some n =>
  rw [q] at e1
  cases e1
  rw [cC e2] at e5;obtain ⟨t,rfl⟩:=e5;exact ⟨t,by rw [getD_eq_getElem?_getD,q]; rfl⟩
noncomputable def nY:List D->Res D
 | [.int i,.int j]=>.ok (.int (if j < i then j else i))
 | _=>.stuck
theorem Oz (ds:List D):aM (nY ds):=by
 unfold nY; split
 ·exact dD
 ·exact cZ
section
variable {X:Cx}
theorem OD (hc:X.calm=true):CallD X (.builtin "min") nY:=.of (fun E=>hC' (X:=X.wish E) hc) fun H xs ds d Q r e q=>by
 unfold nY at e
 split at e
 ·cases e
  obtain ⟨v,vs,rfl,p1,t⟩:=r.cons_of;obtain ⟨v2,vs2,rfl,p2,t2⟩:=t.cons_of
  cases t2.nil_of
  exact ⟨_,_,by rw [cC p1,cC p2],q _ H (Same.refl H) gQ⟩
 ·cases e
end
structure FunV (K:Frag) (x qual:Str) (st:Stmt) (f:Addr) (fd:FuncData):Prop where
 ex:∃(oc:Value) (od:Option Addr) (dV kV doc pm:Value) (an:Option Addr) (cdv ct:Value) (osl:Array (Option Value)),
  fd=fnOf x qual (bO st) (aV st) (aq st) dV kV doc pm an cdv ct/\K.lookup f=some ⟨oc,od,.func fd,osl⟩/\codeIn K cdv qual=true
 kp:keepIn K (.ref f)=true
section
variable {P:Program} {w:World} {K:Frag} {mg:Str->Option Value} {base:Heap}
theorem FunV.binds {x qual:Str} {st:Stmt} {f:Addr} {fd:FuncData} {ps:List Str} (F:FunV K x qual st f fd)
  (h:∀(dV kV doc pm:Value) (an:Option Addr) (cdv ct:Value) (us:List Value),us.length=ps.length->bindArgs (fnOf x qual (bO st) (aV st) (aq st) dV kV doc pm an cdv ct) ⟨us,[]⟩=pure (ps.zip us)):Binds K fd ps []:=by
 obtain ⟨oc,od,dV,kV,doc,pm,an,cdv,ct,osl,rfl,lk,hcd⟩:=F.ex;exact .all (h dV kV doc pm an cdv ct)
end
noncomputable def Hy (K:Frag) (l:Addr):It :=
  ⟨fun i H=>∃xs v,SqL K H l xs/\xs[i]? = some v,
   fun i H x H'=>∃T,H T=none/\x=.ref T/\∃v,(∀xs,SqL K H l xs->xs[i]? = some v)/\H'=upd H T (.tup [.int (i:Int),v]),
   fun i H=>∃xs,SqL K H l xs/\xs.length<=i⟩
theorem ih' {P:Program} {w:World} {K:Frag} {elts:List Expr} {x1:Nat} {pos:Pos} {e it l:Addr} (hei:e≠it) :
  Turn P w K (.Tuple elts x1 pos) (Hy K l) [e,it] e (fun i h=>(∃old,IsEnum h e it ((i:Nat):Int) old)/\h.IsListIter it l i) where
 mem:=by simp
 obj:=fun i h st b hb=>by
  obtain ⟨⟨old,g1⟩,⟨o,g2,_,d2⟩⟩:=st;simp only [mem_cons,not_mem_nil,or_false] at hb;rcases hb with rfl | rfl
  ·exact ⟨_,g1,fun v q=>by cases q⟩
  ·exact ⟨_,g2,fun v q=>by rw [d2] at q; cases q⟩
 keep:=fun i h h' st k=>by
  obtain ⟨⟨old,g1⟩,⟨o,g2,r2⟩⟩:=st;exact ⟨⟨old,k e (by simp) _ g1⟩,⟨o,k it (by simp) _ g2,r2⟩⟩
 item:=by
  intro X hP hw hK hc i pins s σ H E I hf st hg;subst hP hw hK;obtain ⟨xs,v,hq,hx⟩:=hg;obtain ⟨its,rv,p,hz⟩:=I.list hq;obtain ⟨u,hu,ru⟩:=rv.get hx;obtain ⟨⟨old,g1⟩,g2⟩:=st;refine wpAny_pyNext_enum_item g1 g2 p.isList (x:=u) (by simpa using hu) hei fun h' eo it' gT sz kk=>?_;refine ⟨_,rfl,wpAny_letOwnedTupleGo_enum eo fun h'' ge'' sb=>?_⟩;have fT:fW X pins H s.heap.objs.size:=I.fpOk (Nat.le_refl _) (I.hok.fresh (Nat.le_refl _));have el:e < s.heap.objs.size:=Heap.lt_size g1;obtain ⟨oi,gi,ri⟩:=id g2;have il:it < s.heap.objs.size:=Heap.lt_size gi;have ze:s.heap.objs.size≠e:=Nat.ne_of_gt el;have kk2:∀b o,b∉[e,it]->s.heap.get? b=some o->h''.get? b=some o:=fun b o n q=>by
   simp only [mem_cons,not_mem_nil,or_false,not_or] at n;exact (sb.2 b n.1).trans (kk b o n.1 n.2 q)
  have I1:Inv X pins σ H { s with heap:=h'',toks:=s.toks + 1 }:=I.butL (t':=s.toks + 1) hf kk2
  have gT2:h''.get? s.heap.objs.size=some { cls:=Value.type "tuple",data:=Data.seq #[.int i s.toks,u] }:=(sb.2 _ ze).trans gT;obtain ⟨f0,f1,f2,f3,f4,f5⟩:=fT;have I2:Inv X pins σ (upd H s.heap.objs.size (.tup [.int (i:Int),v])) { s with heap:=h'',toks:=s.toks + 1 }:=I1.track f0 (fun ob q _=>absurd (Nat.lt_of_lt_of_le (Heap.lt_size q) I.sz) (Nat.lt_irrefl _)) f1 f4 f5
   ⟨show 2<=sizeLine by decide,[.int i s.toks,u],.cons ⟨_,rfl⟩ (.cons ru .nil),⟨_,gT2,rfl,_,rfl⟩⟩
  refine ⟨.ref s.heap.objs.size,_,I2,rfl,⟨_,f0,rfl,v,fun xs' h=>by rw [I.list_inj h hq]; exact hx,rfl⟩,⟨⟨u,?_⟩,?_⟩,fun b hb=>?_⟩
  ·have:(((i + 1:Nat)):Int)=(i:Int) + 1:=by omega
   rw [this]; exact ge''
  ·obtain ⟨o',g',r'⟩:=it';exact ⟨o',(sb.2 _ (Ne.symm hei)).trans g',r'⟩
  ·have hb2:b≠s.heap.objs.size:=fun q=>by
    simp only [mem_cons,not_mem_nil,or_false] at hb;rcases hb with rfl | rfl
    ·rw [q] at el; exact Nat.lt_irrefl _ el
    ·rw [q] at il; exact Nat.lt_irrefl _ il
   rw [bT hb2]; exact (hf b hb).1
 done:=by
  intro X hP hw hK hc i pins s σ H E I hf st hg;subst hP hw hK;obtain ⟨xs,hq,hx⟩:=hg;obtain ⟨its,rv,p,hz⟩:=I.list hq;have l1:=rv.length;obtain ⟨⟨old,g1⟩,g2⟩:=st;refine wpAny_pyNext_enum_end (I.ok.hd hc) g1 g2 p.isList (by simp; omega) fun h' kk=>⟨rfl,I.butL (t':=s.toks) hf fun b o n q=>kk b o (fun z=>n (by simp [z])) q⟩
 self:=fun _ _ _ _ _ st h=>by
  obtain ⟨⟨old,g1⟩,_⟩:=st;exact wpAny_pyIter_enum g1 h
noncomputable def fK (xs:List D):List D:=xs.zipIdx.map fun p=>D.tup [.int ((p.2:Nat):Int),p.1]
theorem OJ (xs:List D) (i:Nat):(fK xs)[i]? = xs[i]?.map fun x=>D.tup [.int ((i:Nat):Int),x]:=by
 unfold fK;rw [List.getElem?_map,List.getElem?_zipIdx]
 cases xs[i]? <;> simp
noncomputable def f9:List D->Res (List D)
 | [.lst xs]=>.ok (fK xs)
 | _=>.stuck
theorem fp' {K:Frag} {H:Hp} {l:Addr} {xs:List V} {ds:List D} (h1:SqL K H l xs) (r1:Reps K H ds xs):cR K (Hy K l) H (fK ds):=by
 intro H' e;have q1:=e.seq h1;have p1:=r1.mono e;refine ⟨fun i d hd=>?_,xs,q1,?_⟩
 ·rw [OJ] at hd
  cases z1:ds[i]? with
  | none=>rw [z1] at hd; simp at hd
  | some x =>
   rw [z1] at hd;simp only [Option.map_some,Option.some.injEq] at hd;subst hd;obtain ⟨v,e1,s1⟩:=p1.get z1;refine ⟨⟨xs,v,q1,e1⟩,fun a H'' yl=>?_⟩;obtain ⟨T,hT,rfl,v',k1,rfl⟩:=yl;have w1:=k1 xs q1;rw [e1] at w1
   cases w1
   have sm:=gf hT (.tup [.int (i:Int),v]);exact ⟨sm,mj (SqT.of dR) (.cons gQ (.cons (s1.mono sm) .nil))⟩
 ·unfold fK;rw [length_map,length_zipIdx,r1.length];exact Nat.le_refl _
theorem Di {X:Cx} {a:Expr} {fa:DS->Res (List D)} {p pos tp:Pos} {elts:List Expr} {x1:Nat} (hg:Gl X "enumerate") (hm:X.mg "enumerate" = none) (ha:PAD X [a] fa) (hs:starEach [a] X.env=[(false,eval a X.env)]:=by rfl) :
  PID X (.Tuple elts x1 tp) (.Call (.Name "enumerate" p) [a] [] pos) (fun δ=>(fa δ).bind f9):=by
 intro pins s σ G H δ I R hn
 try dsimp only at hn ⊢
 refine Call_ (ue I hg hm boot_enumerate (PyProof.Rows.callWith_type1 (ha.use I R (dY hn) (fun ds us s1 vs H1 q I1 r1 e1 b1 p1=>?_) fun e s1 q=>q.same fun x z=>fL z) (by rw [hs]; rfl) rfl));have h2:=fY hn q;unfold f9 at h2
 split at h2
 ·rename_i ds1;obtain ⟨v,ws,rfl,w1,w2⟩:=p1.cons_of
  cases w2.nil_of
  obtain ⟨t1,xs,rfl,s1',t1'⟩:=d_ w1
  cases r1 with
  | cons ra rr =>
   cases rr
   cases ra
   obtain ⟨its1,rv1,pp1,hz1⟩:=I1.list s1';refine call_enumerate_list pp1.isList fun h' Z Zi sz kk=>?_;have I2:Inv X pins σ H1 { s1 with heap:=h' }:=I1.kept (t':=s1.toks) kk
   refine wpAny_pyIter_enum Z ?_;refine ⟨_,s1.heap.objs.size + 1,[s1.heap.objs.size + 1,s1.heap.objs.size],_,_,H1,by rw [q]; rfl,rfl,I2,ih' (Nat.succ_ne_self _),⟨⟨.none,Z⟩,Zi⟩,fun b hb=>?_,e1,fp' s1' t1'⟩;have ge:s1.heap.objs.size<=b:=by
    simp only [mem_cons,not_mem_nil,or_false] at hb;rcases hb with rfl | rfl
    ·exact Nat.le_succ _
    ·exact Nat.le_refl _
   exact I1.fpOk ge (I1.hok.fresh ge)
 ·exact (h2 rfl).elim
noncomputable def iJ (i:Nat) (f:DS->Res D):DS->Out:=fun δ=>match f δ with
 | .ok (.lst ds)=>.nxt (δ.set i (some (.own ds)))
 | .ok _=>.stuck
 | .err x=>.err x δ
 | .stuck=>.stuck
section
variable {X:Cx} {m:Nat} {fr:List Nat} {N':List Str} {scope:Scope} {cl:List (Str×Addr)} {tg iter elt:Expr} {pos:Pos} {t:du} {fe:DS->Res D} {fi:DS->Res (List D)}
theorem Dj (i:Nat) {y:Str} {py spos:Pos} (W:Around' X m fr N' scope cl) (hcalm:X.calm=true) (hkt:dF m t) (hi:PID X tg iter fi) (ht:∀C s H fp,PGD (bW X N' scope cl C s H fp) tg t) (he:∀C s H fp,PD (bW X N' scope cl C s H fp) elt fe)
  (hN:X.N.Nodup) (hsw:swapsWith (.ListComp elt [⟨tg,iter,[],0⟩] scope pos) (some (.Name y py)) spos.line X.env=pure true:=by rfl) (hy:X.N[i]? = some y:=by rfl) (hx:Loc X.env.scope y:=by first | exact Or.inl rfl | exact Or.inr rfl)
  (hfn:X.fn y=true\/X.env.scope.names.lookup y=some .local:=by first | exact .inl rfl | exact .inr rfl | assumption) (hf:∀x,foldedSetIterable iter X.env x=pure x:=by intro _; rfl) :
  PSD X (.Assign [.Name y py] (.ListComp elt [⟨tg,iter,[],0⟩] scope pos) spos) (iJ i (aX m fr t fe fi)):=by
 intro pins s σ G H δ I R hs;have hs':aX m fr t fe fi δ≠.stuck:=fun z=>hs (by unfold iJ; rw [z]);rw [exec_Assign_Name_used _ _ _ _ hsw];refine wpAny_bind (wpAny_standAt (wpAny_bind ?_));show wpAny _ X.A (do let _ <- comprehension (.ListComp elt [⟨tg,iter,[],0⟩] scope pos) scope X.env _ (newList []) false (eval iter X.env) (some (assign (.Name y py) X.env))) _ _ s
 refine wpAny_bind (wpAny_mono (wpAny_comprehension_free (use:=some (assign (.Name y py) X.env)) (Q:=fun _ s'=>SPost X pins G H (iJ i (aX m fr t fe fi) δ) .next s') rfl hf W.clos W.kind W.names
  (CV W hcalm hkt hi ht he I R hs' (fun e s1 q=>q.sx R fun x z=>by unfold iJ; rw [z]) (RR:=fun acc C=>compPost _ _ _ (some (assign (.Name y py) X.env)) _ acc C) ?_)) (fun _ s' hq=>wpAny_pure (wpAny_pure hq)) fun _ _ e=>e)
 intro a C s' H' ds xs mC ev J e' ha hx' hr hns hC hCa hC0 hCf hCl hCc hCp;show wpAny _ X.A (assign (.Name y py) X.env (.ref a)) _ _ _;refine wpAny_assign_Name (BV J hN hy hx (v:=.ref a) (u:=.ref a) rfl (fun s2 I2 ⟨b,sb,hb⟩=>?_) hfn);have hbC:C≠b:=by
  rcases hb with z | z
  ·rw [z]; exact hCl
  ·exact fun w=>hCc _ _ z w.symm
 refine ⟨mC,hns.sameBut sb hbC,fun h' hs'=>?_⟩;refine ⟨_,_,H',by unfold iJ; rw [ev],I2.but (t':=s2.toks) hC hC0 hCl hCc hCp hs',e'.tk,R.setOwn e' i ha hx' hr⟩
end
noncomputable def gr (i:Nat) (ds:List D) (j:Nat) (d:D) (δ:DS):DS:=(δ.map fun o=>o.bind bG).set i (some (.own (ds.set j d)))
theorem Reps.setAt {K:Frag} {H:Hp}:∀{ds:List D} {vs:List V} (j:Nat) {d:D} {v:V},Reps K H ds vs->Rep K H d v->Reps K H (ds.set j d) (vs.set j v)
 | [],_,_,_,_,h,_=>by cases h.nil_of; exact Reps.nil
 | a :: ds,_,0,_,_,h,p=>by
  obtain ⟨v,vs,rfl,_,q⟩:=h.cons_of;exact Reps.cons p q
 | a :: ds,_,j + 1,_,_,h,p=>by
  obtain ⟨v,vs,rfl,r,q⟩:=h.cons_of;exact Reps.cons r (Reps.setAt j q p)
theorem RepSt.put {K:Frag} {G H:Hp} {σ:St} {δ:DS} {i:Nat} {ds:List D} {j:Nat} {d:D} {a:Addr} {xs:List V} {v:V} (R:RepSt K G H σ δ) (hδ:δ[i]? = some (some (.own ds))) (hσ:σ[i]? = some (some (.ref a))) (hH:H a=some (.lst xs)) (r:Reps K H ds xs) (hG:G a=none) (hf:aG ds=true) (hd:bD d=true) (p:Rep K H d v) :
  RepSt K G (upd H a (.lst (xs.set j v))) σ (gr i ds j d δ) where
 same:=fun b o e=>by
  have hb:b≠a:=fun z=>by subst z; rw [hG] at e; cases e
  rw [bT hb]; exact R.same b o e
 len:=by unfold gr; rw [length_set,length_map]; exact R.len
 at_:=fun k sv h=>by
  unfold gr at h;have hl:i < δ.length:=(List.getElem?_eq_some_iff.mp hδ).1
  by_cases hj:i=k
  ·subst hj;rw [List.getElem?_set_self (by rw [length_map]; exact hl)] at h
   cases h
   exact ⟨.ref a,hσ,a,xs.set j v,rfl,dR,(Reps.lset hH hf r).setAt j (Rep.lset hH hd p),hG⟩
  ·rw [List.getElem?_set_ne hj] at h;obtain ⟨sv0,q1,q2⟩:=uD h;obtain ⟨u,e1,e2⟩:=R.at_ k sv0 q1;refine ⟨u,e1,?_⟩
   cases sv0 with
   | val d' =>
    simp only [bG] at q2
    split at q2
    ·rename_i c; cases q2; exact Rep.lset hH c e2
    ·cases q2
   | arg d'=>cases q2; exact e2
   | own es =>
    simp only [bG] at q2
    split at q2
    ·rename_i c
     cases q2
     obtain ⟨b,ys,rfl,w2,w3,w4⟩:=e2;have hb:b≠a:=fun z=>by subst z; exact R.sep i k ds es (.ref b) hj hδ q1 hσ e1
     exact ⟨b,ys,rfl,by rw [bT hb]; exact w2,Reps.lset hH c w3,w4⟩
    ·cases q2
 sep:=fun k l es fs u hjk h1 h2 h3=>by
  have get:∀(m:Nat) (gs:List D),(gr i ds j d δ)[m]? = some (some (.own gs))->∃gs',δ[m]? = some (some (.own gs')):=fun m gs h=>by
   unfold gr at h
   by_cases hm:i=m
   ·subst hm; exact ⟨ds,hδ⟩
   ·rw [List.getElem?_set_ne hm] at h;obtain ⟨sv0,q1,q2⟩:=uD h;obtain ⟨rfl,_⟩:=Ar q2;exact ⟨gs,q1⟩
  obtain ⟨es',g1⟩:=get k es h1;obtain ⟨fs',g2⟩:=get l fs h2;exact R.sep k l es' fs' u hjk g1 g2 h3
noncomputable def putD (i:Nat) (fi fe:DS->Res D):DS->Out:=fun δ=>match δ[i]? with
 | some (some (.own ds))=>gK (fe δ) δ fun d=>gK (fi δ) δ fun k=>match k with
  | .int z=>(match jz ds.length z with
   | some j=>if aG ds=true/\bD d=true then .nxt (gr i ds j d δ) else .stuck
   | none=>.stuck)
  | _=>.stuck
 | _=>.stuck
section
variable {X:Cx} {e ix:Expr} {fe fi:DS->Res D} {x:Str} {pos np sp:Pos}
theorem O1 (i:Nat) (he:PD X e fe) (hi:PD X ix fi) (hne:∀δ,aM (fi δ)) (hN:X.N[i]? = some x:=by rfl) (hv:sr X.env.scope x:=by first | exact Or.inl rfl | exact Or.inr (Or.inl rfl) | exact Or.inr (Or.inr rfl)) (hd:(x == ("__debug__" : Str))=false:=by decide)
  (hcd:(x == ("__classdict__" : Str))=false:=by decide)
  (ha:∀v,assign (.Subscript (.Name x np) ix sp) X.env v=(do
   let ov <- holding [v] (eval (.Name x np) X.env)
   let iv <- holding [v,ov] (eval ix X.env)
   standAt sp
   holding [v,ov,iv] (setItem ov iv v)
   release [v,ov,iv] []):=by intro _; rfl)
  (hw1:swapsWithSole [(.Subscript (.Name x np) ix sp)] e pos.line X.env=pure false:=by rfl) (hw:swappedStores [(.Subscript (.Name x np) ix sp)] e X.env=pure none:=by rfl) (h1:(assignEach [(.Subscript (.Name x np) ix sp)] X.env).map (·.2)=[assign (.Subscript (.Name x np) ix sp) X.env]:=by rfl) :
  PSD X (.Assign [.Subscript (.Name x np) ix sp] e pos) (putD i fi fe):=by
 intro pins s σ G H δ I R hs;unfold putD at hs ⊢
 split at hs
 ·rename_i ds hδ;obtain ⟨v0,hσ,a,xs,rfl,hH,r,hG⟩:=R.at_ i _ hδ;refine wpAny_Assign_stores (he.use I R (sJ hs) (fun d u s1 w H1 q I1 r1 e1 b1 p1=>?_) fun e s1 q=>q.sx R fun x z=>by rw [z]; rfl) hw1 hw;rw [h1];rw [q] at hs ⊢;have hs2:gK (fi δ) δ (fun k=>match k with
   | .int z=>(match jz ds.length z with
    | some j=>if aG ds=true/\bD d=true then Out.nxt (gr i ds j d δ) else .stuck
    | none=>.stuck)
   | _=>.stuck)≠.stuck:=hs
  show wpAny _ _ (assign (.Subscript (.Name x np) ix sp) X.env u) _ _ _;rw [ha];have hH1:=e1 a _ hH;refine wpAny_bind (wpAny_holding (wpAny_mono (vD (X:=X.wish fun _ _=>False) hN hv hd hcd pins s1 σ H1 (fun v' H'=>v'=.ref a/\H'=H1) (I1.wish _) ⟨.ref a,hσ,rfl,rfl⟩) (fun ov s2 q2=>?_) fun _ _ z=>z.elim));obtain ⟨v',H',I2,r2,rfl,rfl⟩:=q2;have I2':=I2.unwish;have R1:=R.mono e1;refine wpAny_bind (wpAny_holding (hi.use I2' R1 (sJ hs2) (fun k u3 s3 w3 H3 q3 I3 r3 e3 b3 p3=>?_) fun e s1 q=>?_))
  ·rw [q3] at hs2 ⊢
   cases k with
   | int z =>
    have hs3:(match jz ds.length z with
     | some j=>if aG ds=true/\bD d=true then Out.nxt (gr i ds j d δ) else .stuck
     | none=>.stuck)≠.stuck:=hs2
    cases hj:jz ds.length z with
    | none=>rw [hj] at hs3; exact (hs3 rfl).elim
    | some j =>
     rw [hj] at hs3;have hc:aG ds=true/\bD d=true:=by
      by_cases c:aG ds=true/\bD d=true
      ·exact c
      ·dsimp only at hs3; rw [if_neg c] at hs3; exact (hs3 rfl).elim
     have hH3:=e3 a _ hH1;rw [cC p3] at r3;refine wpAny_bind (wpAny_standAt (wpAny_bind (wpAny_holding (wpAny_mono (set_list (X:=X.wish fun _ _=>False) pins s3 σ H3 (.ref a) (.int z) w ov u3 u (fun H4=>H4=upd H3 a (.lst (xs.set j w))) (I3.wish _) r2 r3 r1 ⟨a,xs,z,j,rfl,rfl,hH3,by rw [r.length]; exact hj,rfl⟩) (fun _ s4 q4=>?_) fun _ _ z=>z.elim))));obtain ⟨H4,I4,rfl⟩:=q4;refine wpAny_release ?_;have e13:=e1.trans e3;have ev:(gK (Res.ok d) δ fun d=>gK (Res.ok (D.int z)) δ fun k=>match k with
      | .int z=>(match jz ds.length z with
       | some j=>if aG ds=true/\bD d=true then Out.nxt (gr i ds j d δ) else .stuck
       | none=>.stuck)
      | _=>.stuck)=Out.nxt (gr i ds j d δ):=by
      show (match jz ds.length z with
       | some j=>if aG ds=true/\bD d=true then Out.nxt (gr i ds j d δ) else .stuck
       | none=>.stuck)=_
      rw [hj]; dsimp only; rw [if_pos hc]
     rw [ev];refine ⟨_,σ,_,rfl,I4.unwish,⟨fun b ys h=>?_,fun b o u h=>?_,fun b h=>?_⟩,(R.mono e13).put hδ hσ hH3 (r.mono e13) hG hc.1 hc.2 (p1.mono e3)⟩
     ·have hb:b≠a:=fun z=>by subst z; rw [hH] at h; cases h
      rw [bT hb]; exact e13 b _ h
     ·have hb:b≠a:=fun z=>by subst z; rw [hH] at h; cases h
      rw [bT hb]; exact e13 b _ h
     ·by_cases hb:b=a
      ·subst hb; rw [dR] at h; cases h
      ·rw [bT hb] at h; exact e13.free h
   | _=>exact (hs2 rfl).elim
  ·obtain ⟨y,_,_,_,q1,_⟩:=q;exact (hne δ y q1).elim
 ·exact (hs rfl).elim
end
noncomputable def jR (f:DS->Res D):DS->Res D:=fun δ=>match f δ with
 | .err _=>.stuck
 | r=>r
theorem Dk (f:DS->Res D):∀δ,aM (jR f δ):=fun δ x h=>by
 unfold jR at h
 split at h
 ·cases h
 ·rename_i hn; exact hn x h
theorem ns' {f:DS->Res D} {δ:DS} {d:D} (h:f δ=.ok d):jR f δ=.ok d:=by unfold jR; rw [h]
theorem Hz {X:Cx} {e:Expr} {f:DS->Res D} (h:PD X e f):PD X e (jR f):=by
 intro pins s σ G H δ I R hs;have h1:jR f δ=f δ:=by
  unfold jR at hs ⊢
  split
  ·rename_i x hx; rw [hx] at hs; exact (hs rfl).elim
  ·rfl
 rw [h1] at hs ⊢;exact h pins s σ G H δ I R hs
noncomputable def gw:D->D->Res D
 | .int i,.tup ds=>(match intsOf ds with | some ns=>.ok (.bl (!ns.contains i)) | none=>.stuck)
 | .int i,.lst ds=>(match intsOf ds with | some ns=>.ok (.bl (!ns.contains i)) | none=>.stuck)
 | _,_=>.stuck
theorem O2 (x y:D):aM (gw x y):=by
 unfold gw
 split
 ·split
  ·exact dD
  ·exact cZ
 ·split
  ·exact dD
  ·exact cZ
 ·exact cZ
theorem cE' {K:Frag} {H:Hp}:∀{ns:List Int} {xs:List V},Reps K H (ns.map .int) xs->xs=ns.map V.int
 | [],_,h=>h.nil_of
 | n :: ns,_,h=>by
  obtain ⟨v,vs,rfl,p,t⟩:=h.cons_of;rw [cC p,cE' t]; rfl
theorem HB (i:Int) (ns:List Int):inV (.int i) (ns.map V.int)=ns.contains i:=by
 unfold inV
 induction ns with
 | nil=>rfl
 | cons n ns ih =>
  rw [map_cons,any_cons,ih,contains_cons]
  congr 1
  show (n == i)=(i == n);exact Bool.eq_iff_iff.mpr ⟨fun h=>beq_iff_eq.mpr (beq_iff_eq.mp h).symm,fun h=>beq_iff_eq.mpr (beq_iff_eq.mp h).symm⟩
theorem HD (ns:List Int):(ns.map V.int).all fX=true:=by
 induction ns with
 | nil=>rfl
 | cons n ns ih=>rw [map_cons,all_cons,ih]; rfl
section
variable {X:Cx}
theorem O3:OpD X (compareOp .NotIn) gw:=OpD.of (r:=Gp X.K true) (fun E=>ek' (X:=X.wish E)) fun H x y a b d Q p1 p2 e q=>by
 unfold gw at e
 split at e
 ·rename_i i ds
  split at e
  ·rename_i ns hn
   cases e
   have:=Aw hn;subst this;obtain ⟨t,xs,rfl,hq,r⟩:=d7 p2;have:=cE' r;subst this;rw [cC p1];refine ⟨t,_,rfl,.inr hq,rfl,HD ns,?_⟩;rw [if_pos rfl,HB];exact q _ H (Same.refl H) uT
  ·cases e
 ·rename_i i ds
  split at e
  ·rename_i ns hn
   cases e
   have:=Aw hn;subst this;obtain ⟨t,xs,rfl,hq,r⟩:=d_ p2;have:=cE' r;subst this;rw [cC p1];refine ⟨t,_,rfl,.inl hq,rfl,HD ns,?_⟩;rw [if_pos rfl,HB];exact q _ H (Same.refl H) uT
  ·cases e
 ·cases e
end
noncomputable def dw (ds:List D):D->Res D
 | .int k=>if 0<=k/\k<=1000/\ds.length<=1000/\ds.length * k.toNat<=1000 then .ok (.lst (List.replicate k.toNat ds).flatten) else .stuck
 | _=>.stuck
noncomputable def eF (fs:DS->Res (List D)) (fb:DS->Res D):DS->Res D:=fun δ=>(fs δ).bind fun ds=>(jR fb δ).bind (dw ds)
theorem O4 {ds:List D} {b r:D} (h:dw ds b=.ok r):∃k:Int,b=.int k/\0<=k/\k<=1000/\ds.length<=1000/\ds.length * k.toNat<=1000/\r=.lst (List.replicate k.toNat ds).flatten:=by
 cases b <;> first | (simp [dw] at h; done) | skip
 rename_i k;simp only [dw] at h
 split at h
 ·rename_i c; cases h; exact ⟨k,rfl,c.1,c.2.1,c.2.2.1,c.2.2.2,rfl⟩
 ·cases h
theorem O5 (ds:List D) (b:D):aM (dw ds b):=by
 cases b <;> first | exact cZ | exact kJ dD cZ
theorem HF {X:Cx} {es:List Expr} {b:Expr} {fs:DS->Res (List D)} {fb:DS->Res D} {lp pos:Pos} (ha:PAD X es fs) (hb:PD X b fb):PD X (.BinOp (.List es lp) .Mult b pos) (eF fs fb):=by
 intro pins s σ G H δ I R hs;unfold eF at hs ⊢;refine wpAny_BinOp (wpAny_List_spliced (ha.use I R (dY hs) (fun ds us s1 vs H1 q I1 r1 e1 b1 p1=>?_) fun e s1 q=>q.same fun x z=>fL z));have h2:=fY hs q;have hn:jR fb δ≠.stuck:=dY h2
 cases qb:jR fb δ with
 | stuck=>exact (hn qb).elim
 | err x=>exact (Dk fb δ x qb).elim
 | ok k0 =>
  have h3:dw ds k0≠.stuck:=fY h2 qb
  cases qr:dw ds k0 with
  | stuck=>exact (h3 qr).elim
  | err x=>exact (O5 _ _ x qr).elim
  | ok r =>
   obtain ⟨k,rfl,c1,c2,c3,c4,rfl⟩:=O4 qr;have big:(1000:Nat)<=sizeLine:=by decide
   have hz:ds.length<=sizeLine:=Nat.le_trans c3 big;refine ⟨by rw [<- r1.length,p1.length]; exact hz,?_⟩;have hf':H1 s1.heap.objs.size=none:=I1.hok.fresh (Nat.le_refl _);have sm:=gf hf' (.lst vs);have I2:Inv X pins σ (upd H1 s1.heap.objs.size (.lst vs)) { s1 with heap:=s1.heap.push { cls:=.type "list",data:=.seq us.toArray } }:=I1.laid (t':=s1.toks) (fun b u e=>Heap.get?_push_of_some _ e) (Nat.le_refl _) ⟨by rw [p1.length]; exact hz,us,0,r1,Heap.get?_push_size _ rfl⟩
   refine (Hz hb).use I2 ((R.mono e1).mono sm) hn (fun d3 u3 s3 v3 H3 q3 I3 r3 e3 b3 p3=>?_) fun e s1 ⟨x,_,_,_,q,_⟩=>(Dk fb δ x q).elim;rw [qb] at q3
   cases q3
   rw [cC p3] at r3;have hH3:=e3 _ _ (dR (H:=H1) (a:=s1.heap.objs.size) (o:=.lst vs));refine wpAny_mono (Mj (X:=X.wish fun _ _=>False) pins s3 σ H3 (.ref s1.heap.objs.size) (.int k) (.ref s1.heap.objs.size) u3 (fun z H4=>∃p,H3 p=none/\z=.ref p/\H4=upd H3 p (.lst (List.replicate k.toNat vs).flatten)) (I3.wish _) rfl r3
    ⟨_,k,vs,rfl,rfl,hH3,by omega,by omega,by rw [p1.length]; omega,fun p hp=>⟨p,hp,rfl,rfl⟩⟩) (fun w s4 q4=>?_) fun _ _ z=>z.elim
   obtain ⟨z,H4,I4,r4,p,hp,rfl,rfl⟩:=q4;have sm4:=gf hp (.lst (List.replicate k.toNat vs).flatten);have ev:(fs δ).bind (fun ds=>(Res.ok (D.int k)).bind (dw ds))=.ok (.lst (List.replicate k.toNat ds).flatten):=by rw [q,Res.bind_ok,Res.bind_ok]; exact qr
   rw [qb] at *;exact ⟨_,.ref p,_,ev,I4.unwish,r4,((e1.trans sm).trans e3).trans sm4,rG (SqL.of dR) ((((p1.mono sm).mono e3).mono sm4).rep k.toNat)⟩
section
variable {X:Cx} {a b:Expr} {fa fb:DS->Res D} {x:Str} {pos pos' bp:Pos}
end
section
variable {X:Cx} {e:Expr} {fe:DS->Res D} {lo hi:Option Expr} {st:Expr} {fl fu fs:DS->Res (Option Int)} {pos p2:Pos}
end
section
variable {X:Cx} {tg:Expr}
end
section
variable {X:Cx} {tg:Expr} {t:du} {body:List Stmt} {fb:DS->Out} {pos:Pos} {G H:Hp} {E:Ends}
end
noncomputable def Dl (X:Cx) (pins:List (Addr×Obj)) (σ:St) (H:Hp) (tg:Expr) (r:Res (List D)) (itv:Value) (s2:Shared):Prop :=
 ∃(ds:List D) (it:Addr) (fp:List Addr) (tn:Nat->Heap->Prop) (J:It) (H':Hp) (a:Addr) (ob:Obj) (u:HO),r=.ok ds/\itv=.ref it/\Inv X pins σ H' s2/\Turn X.prog X.w X.K tg J fp it tn/\tn 0 s2.heap/\(∀b∈fp,fW X pins H' b)/\Same H H'/\H' a=some (.frz ob u) /\
  ∀G:Hp,G a=some (.frz ob u)->cR X.K J G ds
noncomputable def PIN (X:Cx) (tg iter:Expr) (f:DS->Res (List D)):Prop :=
 ∀(pins:List (Addr×Obj)) (s:Shared) (σ:St) (G H:Hp) (δ:DS),Inv X pins σ H s->RepSt X.K G H σ δ->f δ≠.stuck ->
  wpAny (model X.prog X.w) X.A (eval iter X.env) (fun v s1=>wpAny (model X.prog X.w) X.A (pyIter v) (Dl X pins σ H tg (f δ)) (XPost X pins σ H s.heap (f δ)) s1) (XPost X pins σ H s.heap (f δ)) s
section
variable {X:Cx} {e:Expr} {fe:DS->Res D} {lo hi:Option Expr} {st:Expr} {fl fu fs:DS->Res (Option Int)} {pos p2:Pos}
end
theorem PIN.pi {X:Cx} {tg iter:Expr} {f:DS->Res (List D)} (h:PIN X tg iter f):PI X.nox tg iter (fun σ H R=>∃G δ ds,RepSt X.K G H σ δ/\f δ=.ok ds/\∀J H' a ob u,Same H H'->H' a=some (.frz ob u)->(∀G:Hp,G a=some (.frz ob u)->cR X.K J G ds)->R J H'):=by
 intro pins s σ H R I ⟨G,δ,ds,RR,q,n⟩;refine wpAny_mono (h pins s σ G H δ I.unwish RR (by rw [q]; intro z; cases z)) (fun v s1 p=>?_) fun e s1 p=>?_
 ·refine wpAny_mono p (fun itv s2 ⟨ds',it,fp,tn,J,H',a,ob,u,q1,q2,I2,T,t0,hf,e2,w2,y⟩=>?_) fun e s2 p=>?_
  ·rw [q] at q1; cases q1;exact ⟨it,fp,tn,J,H',q2,I2.wish _,T,t0,hf,n J H' a ob u e2 w2 y⟩
  ·rw [q] at p; exact p.none
 ·rw [q] at p; exact p.none
section
variable {X:Cx} {tg iter:Expr} {body:List Stmt} {t:du} {fb:DS->Out} {pos:Pos}
end
section
variable {X:Cx} {e:Expr} {es:List Expr} {fs:DS->Res (List D)} {F:List D->Res D} {k:Nat} {f:Addr} {fd:FuncData} {ps:List Str} {x:Str} {p pos:Pos}
end
noncomputable def O6 (ns:List Int):Int:=ns.getD (argBest (fun i j=>decide (ns.getD i 0 < ns.getD j 0)) (ns.length - 1)) 0
noncomputable def aP (P:Program) (w:World) (K:Frag) (mg:Str->Option Value) (base:Heap) (k:Nat) (x:Str) (F:List D->Res D):Prop :=
 ∃(f:Addr) (fd:FuncData) (ps:List Str),FnOk P w K mg base (gW P w) k f fd ps (rJ K F)/\mg x=some (.ref f)/\keepIn K (.ref f)=true/\Binds K fd ps []
noncomputable def Ent (K:Frag) (mg:Str->Option Value) (x:Str) (st:Stmt) (ps:List Str):Prop :=
 ∃(f:Addr) (fd:FuncData),mg x=some (.ref f)/\Fun K x x st f fd/\Binds K fd ps []
noncomputable def Lk (K:Frag) (x:Str) (st:Stmt):Prop :=
 ∃(f:Addr) (fd:FuncData),nsIn K mainGlobals x=some (some (.ref f))/\Fun K x x st f fd
section
variable {K:Frag} {x:Str} {st:Stmt}
theorem lk_mk {f:Addr} {oc:Value} {od an:Option Addr} {osl:Array (Option Value)} {kV doc pm cdv ct:Value} (n:nsIn K mainGlobals x=some (some (.ref f))) (l:K.lookup f=some ⟨oc,od,.func (fnOf x x (bO st) (aV st) (aq st) .none kV doc pm an cdv ct),osl⟩)
  (c:codeIn K cdv x=true) (k:keepIn K (.ref f)=true):Lk K x st:=⟨f,_,n,hJ' l c k⟩
variable {h:Heap} {mg:Str->Option Value}
theorem fD (X:K.In h) (G:h.Ns mainGlobals mg) (L:Lk K x st) {p:Str} (hb:∀(kV doc pm:Value) (an:Option Addr) (cdv ct a:Value),bindArgs (fnOf x x (bO st) (aV st) (aq st) .none kV doc pm an cdv ct) ⟨[a],[]⟩=pure [(p,a)]:=by intros; rfl):Ent K mg x st [p]:=by
 obtain ⟨f,fd,n,F⟩:=L;exact ⟨f,fd,mg_of X G n,F,F.binds fun _ _ _ _ _ _ us hl=>match us,hl with | [_],_=>hb _ _ _ _ _ _ _⟩
theorem cT (X:K.In h) (G:h.Ns mainGlobals mg) (L:Lk K x st) {p q:Str} (hb:∀(kV doc pm:Value) (an:Option Addr) (cdv ct a b:Value),bindArgs (fnOf x x (bO st) (aV st) (aq st) .none kV doc pm an cdv ct) ⟨[a,b],[]⟩=pure [(p,a),(q,b)]:=by intros; rfl):Ent K mg x st [p,q]:=by
 obtain ⟨f,fd,n,F⟩:=L;exact ⟨f,fd,mg_of X G n,F,F.binds fun _ _ _ _ _ _ us hl=>match us,hl with | [_,_],_=>hb _ _ _ _ _ _ _ _⟩
theorem lG (X:K.In h) (G:h.Ns mainGlobals mg) (L:Lk K x st) {p q r:Str} (hb:∀(kV doc pm:Value) (an:Option Addr) (cdv ct a b c:Value),bindArgs (fnOf x x (bO st) (aV st) (aq st) .none kV doc pm an cdv ct) ⟨[a,b,c],[]⟩=pure [(p,a),(q,b),(r,c)]:=by intros; rfl):Ent K mg x st [p,q,r]:=by
 obtain ⟨f,fd,n,F⟩:=L;exact ⟨f,fd,mg_of X G n,F,F.binds fun _ _ _ _ _ _ us hl=>match us,hl with | [_,_,_],_=>hb _ _ _ _ _ _ _ _ _⟩
theorem xj (X:K.In h) (G:h.Ns mainGlobals mg) (L:Lk K x st) {p q r t:Str} (hb:∀(kV doc pm:Value) (an:Option Addr) (cdv ct a b c d:Value),bindArgs (fnOf x x (bO st) (aV st) (aq st) .none kV doc pm an cdv ct) ⟨[a,b,c,d],[]⟩=pure [(p,a),(q,b),(r,c),(t,d)]:=by intros; rfl):Ent K mg x st [p,q,r,t]:=by
 obtain ⟨f,fd,n,F⟩:=L;exact ⟨f,fd,mg_of X G n,F,F.binds fun _ _ _ _ _ _ us hl=>match us,hl with | [_,_,_,_],_=>hb _ _ _ _ _ _ _ _ _ _⟩
variable (P:Program) (w:World) (base:Heap)
theorem nZ {P:Program} {w:World} {base:Heap} {ps:List Str} (F:Ent K mg x st ps) (k:Nat):aP P w K mg base k x fun _=>.stuck:=by
 obtain ⟨f,fd,m,F,B⟩:=F;exact ⟨f,fd,ps,⟨fun _ _ _ _ q=>by obtain ⟨_,_,z⟩:=q; exact z.elim,fun _ _ _ _ _ _ _ _ _ _ _ _ _ q=>by obtain ⟨_,_,z⟩:=q; exact z.elim⟩,m,F.kp,B⟩
theorem c7 {N ps:List Str} (k:Nat) (body:DS->Out) (F:Ent K mg x st ps) (S:FnScope N ps (aq st))
  (hb:∀(f:Addr) (cdv:Value) (A:Around) (outer:List Env) (s:Shared) (H:Hp) (E:XK),Room k (A.deeper (envOfC x (aq st) s.heap.objs.size f cdv))->PSDs (dW (gW P w) P w K mg base N x (aq st) f cdv A outer s H E) (aV st) body) :
  aP P w K mg base (k + 1) x (bF ps.length N.length body):=by
 obtain ⟨f,fd,m,F,B⟩:=F;exact ⟨f,fd,ps,G8 F S (hb f),m,F.kp,B⟩
end
theorem cl {X:Cx} {j k:Nat} {F:List D->Res D} {x:Str} {p pos:Pos} {e:Expr} {es:List Expr} {fs:DS->Res (List D)} (Fn:aP X.prog X.w X.K X.mg X.base j x F) (hr:Room k X.A) (ha:PAD X (e :: es) fs)
  (hj:j<=k:=by first | decide | omega) (hg:Gl X x:=by exact rfl) (hdb:(x == ("__debug__" : Str))=false:=by decide) (he:starEach (e :: es) X.env=(false,eval e X.env) :: starEach es X.env:=by rfl) (hpl:(backTo pos (starEach es X.env)).any (·.1)=false:=by rfl) :
  PD X (.Call (.Name x p) (e :: es) [] pos) (fun δ=>(fs δ).bind F):=by
 obtain ⟨f,fd,ps,a,b,c,d⟩:=Fn;exact M9 (a.mono hj) hr hg b c d ha hdb he hpl
section
variable {X:Cx}
end
mutual
noncomputable def jT (n:Nat):D->Bool
 | .tup ds=>ig n ds
 | .lst ds=>(ds.length != n) && ig n ds
 | .excf _ _ _=>false
 | _=>true
noncomputable def ig (n:Nat):List D->Bool
 | []=>true
 | d :: ds=>jT n d && ig n ds
end
mutual
theorem Rep.lsetN {K:Frag} {H:Hp} {a:Addr} {xs ys:List V} {n:Nat} (hH:H a=some (.lst xs)) (hn:xs.length=n):∀{d:D} {v:V},jT n d=true->Rep K H d v->Rep K (upd H a (.lst ys)) d v
 | .non,v,_,h=>by rw [Rep] at h ⊢; exact h
 | .bl _,v,_,h=>by rw [Rep] at h ⊢; exact h
 | .int _,v,_,h=>by rw [Rep] at h ⊢; exact h
 | .str _,v,_,h=>by rw [Rep] at h ⊢; exact h
 | .lst ds,v,hf,h=>by
  obtain ⟨b,zs,rfl,hq,r⟩:=d_ h;rw [jT,Bool.and_eq_true,bne_iff_ne] at hf;refine rG ?_ (Reps.lsetN hH hn hf.2 r);rcases hq with (hq | ⟨o,hq⟩) | hq
  ·refine .inl (.inl ?_);rw [bT (fun z=>by subst z; rw [hH] at hq; cases hq; exact hf.1 (r.length.symm.trans hn))]; exact hq
  ·exact .inl (.inr ⟨o,by rw [bT (fun z=>by subst z; rw [hH] at hq; cases hq)]; exact hq⟩)
  ·exact .inr hq
 | .tup ds,v,hf,h=>by
  obtain ⟨b,zs,rfl,hq,r⟩:=d7 h;rw [jT] at hf;refine mj ?_ (Reps.lsetN hH hn hf r);rcases hq with (hq | ⟨o,hq⟩) | hq
  ·exact .inl (.inl (by rw [bT (fun z=>by subst z; rw [hH] at hq; cases hq)]; exact hq))
  ·exact .inl (.inr ⟨o,by rw [bT (fun z=>by subst z; rw [hH] at hq; cases hq)]; exact hq⟩)
  ·exact .inr hq
 | .exc n,v,_,h=>by
  rw [Rep] at h ⊢;obtain ⟨b,C,rfl,hC,hb⟩:=h;exact ⟨b,C,rfl,hC,by rw [bT (fun z=>by subst z; rw [hH] at hb; cases hb)]; exact hb⟩
 | .excf n f d,v,hf,h=>by rw [jT] at hf; cases hf
 | .dct,v,_,h=>by
  rw [Rep] at h ⊢;obtain ⟨b,rfl,hb⟩:=h;exact ⟨b,rfl,by rw [bT (fun z=>by subst z; rw [hH] at hb; cases hb)]; exact hb⟩
theorem Reps.lsetN {K:Frag} {H:Hp} {a:Addr} {xs ys:List V} {n:Nat} (hH:H a=some (.lst xs)) (hn:xs.length=n):∀{ds:List D} {vs:List V},ig n ds=true->Reps K H ds vs->Reps K (upd H a (.lst ys)) ds vs
 | [],_,_,h=>by cases h.nil_of; exact Reps.nil
 | d :: ds,_,hf,h=>by
  rw [ig,Bool.and_eq_true] at hf;obtain ⟨v,vs,rfl,r,q⟩:=h.cons_of;exact Reps.cons (Rep.lsetN hH hn hf.1 r) (Reps.lsetN hH hn hf.2 q)
end
section
variable {X:Cx} {e:Expr} {es:List Expr} {fe:DS->Res D} {fs:DS->Res (List D)} {x:Str} {pos pos' lp np apos cpos:Pos}
end
end DL
namespace DL
open PySem PySem.Spec PyProof.Rows L2
section
variable {K:Frag} {prog:Program} {w:World} {A:Around} {s:Shared} {x D:Addr} {ox od:Obj} {name:Str} {v:Value}
theorem O7 {tk:Tok} {R:Result->Shared->Prop} (W:ExcCls K D) (ha:findIn K (.ref D) name=some none) (X:K.In s.heap) (I:InstAt s.heap x ox D (some od)) (hl:lookIn name od=some (some v)) (h:R (.ok (.ret v)) s) :
  codeAny (model prog w) A (.call (.builtin "BaseException.__getattribute__") ⟨[.ref x,.str name tk],[]⟩) R s:=by
 have hf:findObj K D (some od) name=some (.value v):=findObj_own W.hdct ha rfl hl;have hk:builtinKind "BaseException.__getattribute__" = some .slot:=by decide +kernel
 have hsplit:splitId "BaseException.__getattribute__" = some ("BaseException", "__getattribute__"):=by decide +kernel
 have L0:=I.type (M:=model prog w);have L1:=looks_find (M:=model prog w) X I hf;have L2:=looks_mroIn (M:=model prog w) X W.hB;have har:=F.args_bexc_ga (.ref x) (.str name tk);refine codeAny_call_builtin (by decide +kernel) F.entry_bexc_ga ?_;simp only [checkBuiltinCall,hk,hsplit];refine wpAny_bind ?_;unfold isInstance;refine wpAny_bind (L0.at (L2.at ?_));simp only [Bool.not_true,Bool.false_eq_true,if_false]
 repeat (first | with_reducible refine wpAny_pure ?_ | with_reducible refine wpAny_bind ?_ | wp_step)
 obtain ⟨hh,g,dr,t,os⟩:=s;refine wpAny_loadPart I.at_ (wpAny_pure ?_);rw [I.cls];refine wpAny_bind (L1.at ?_);exact wpAny_pure h
theorem O8 {expr:Bool} {E:Value->Shared->Prop} {Q:Value->Shared->Prop} (W:ExcCls K D) (ha:findIn K (.ref D) name=some none) (X:K.In s.heap) (I:InstAt s.heap x ox D (some od)) (hl:lookIn name od=some (some v)) (hv:handedIn v=true) (h:Q v { s with toks:=s.toks + 1 }) :
  wpAny (model prog w) A (getAttr (.ref x) name expr) Q E s:=by
 obtain ⟨hh,g,d,t,os⟩:=s;have L0:=I.type (M:=model prog w);have L1:=looks_findIn (M:=model prog w) X W.hga;have Lk:=looks_findIn (M:=model prog w) X W.hgk;unfold getAttr getAttrBy;refine wpAny_bind (wpAny_mkText (wpAny_holding (wpAny_bind (L0.at (wpAny_bind (L1.at ?_))))));show wpAny _ _ (getAttrByItsOwn _ _ _ _ _ _) _ _ _;unfold getAttrByItsOwn hookBefore;refine wpAny_bind (Lk.at ?_);refine wpAny_bind (wpAny_attempt (wpAny_holding ?_));have e:callGetattribute (.ref x) (.str name t) (.builtin "BaseException.__getattribute__") expr=boundAndCalled (.builtin "BaseException.__getattribute__") (.ref x) (.str name t):=by
  unfold callGetattribute;rw [if_neg (by cases expr <;> decide)]
 show wpAny _ _ (callGetattribute (.ref x) (.str name t) (.builtin "BaseException.__getattribute__") expr) _ _ _;rw [e];unfold boundAndCalled;rw [PySem.F.attrBase_ValueError.ga.bind];refine wpAny_bind (wpAny_pure (wpAny_call (O7 (s:=⟨hh,g,d,t + 1,os⟩) W ha X I hl ?_)));show wpAny _ _ (handedOut v) _ _ _;rw [handedOut_of hv]; exact wpAny_pure h
end
noncomputable def jU (isA:Str->Bool) (name:Str):D->Res D
 | .excf c f d=>if isA c=true/\f=name then .ok d else .stuck
 | _=>.stuck
theorem O9 {u:V} {v:Value} (r:RelV u v):handedIn v=true:=by
 cases u <;> first
  | (cases r; rfl)
  | (obtain ⟨t,rfl⟩:=r; rfl)
section
variable {X:Cx} {e:Expr} {f:DS->Res D} {name:Str} {pos:Pos} {isA:Str->Bool}
theorem HH (hA:∀c,isA c=true->∀C,nsIn X.K mainGlobals c=some (some (.ref C))->ExcCls X.K C/\findIn X.K (.ref C) name=some none) (he:PD X e f) (hb:attributeBase e name X.env (eval e X.env)=eval e X.env:=by rfl) :
  PD X (.Attribute e name pos) (fun δ=>(f δ).bind (jU isA name)):=by
 intro pins s σ G H δ I R hs
 try dsimp only at hs ⊢
 refine Ln hb (he.use I R (dY hs) (fun d u s1 v H1 q I1 r1 e1 b1 p1=>?_) fun e s1 q=>q.same fun x z=>fL z);have hd:=fY hs q
 cases d with
 | excf c f' d' =>
  unfold jU at hd;have hc:isA c=true/\f'=name:=by
   by_cases z:isA c=true/\f'=name
   ·exact z
   ·exact absurd (if_neg z) hd
  obtain ⟨hc1,rfl⟩:=hc;rw [Rep] at p1;obtain ⟨a,C,dx,w,rfl,hC,hH,hx,pw⟩:=p1
  cases r1
  obtain ⟨W,ha⟩:=hA c hc1 C hC;obtain ⟨mA,hn,hrel⟩:=I1.hok dx _ hx;obtain ⟨od,ho,hl⟩:=Gg hn;obtain ⟨o,vs,g,cc,dd,dt⟩:=(I1.hok a _ hH).1;have hr:=hrel f';have el:([(f',w)]:List (Str×V)).lookup f'=some w:=by simp
  rw [el] at hr
  cases hm:mA f' with
  | none=>rw [hm] at hr; exact hr.elim
  | some u' =>
   rw [hm] at hr;refine O8 (od:=od) W ha I1.kIn ⟨g,cc,by unfold notCls; rw [dt],by rw [dd]; exact ho⟩ (by rw [hl,hm]) (O9 hr) ?_;refine ⟨d',w,H1,?_,I1.tok _,hr,e1,pw⟩;rw [q,Res.bind_ok];exact if_pos ⟨hc1,rfl⟩
 | _=>exact absurd rfl hd
end
section
variable {X:Cx} {m:Nat} {fr:List Nat} {N':List Str} {scope:Scope} {cl:List (Str×Addr)} {tg iter elt c:Expr} {pos:Pos} {t:du} {fc:DS->Res Bool} {fe:DS->Res D} {fi:DS->Res (List D)}
theorem HJ (W:Around' X m fr N' scope cl) (hcalm:X.calm=true) (hkt:dF m t) (hi:PID X tg iter fi) (ht:∀C s H fp,PGD (bW X N' scope cl C s H fp) tg t) (hc:∀C s H fp,PTD (bW X N' scope cl C s H fp) c fc) (he:∀C s H fp,PD (bW X N' scope cl C s H fp) elt fe)
  (hf:∀x,foldedSetIterable iter X.env x=pure x:=by intro _; rfl):PD X (.ListComp elt [⟨tg,iter,[c],0⟩] scope pos) (cX m fr t fc fe fi):=by
 intro pins s σ G H δ I R hs;rw [eval_ListComp];refine wpAny_comprehension_free (use:=none) rfl hf W.clos W.kind W.names (Hd (cs:=[c]) W hcalm hkt hi ht (Nat.le_refl 1) hc he I R hs (fun _ _ q=>q) (RR:=fun acc C=>compPost _ _ _ none _ acc C) ?_);intro a C s' H' ds xs mC ev J e' ha hx hr hns hC hCa hC0 hCf hCl hCc hCp;refine ⟨mC,hns,fun h' hs'=>?_⟩;exact ⟨.lst ds,.ref a,H',ev,J.but (t':=s'.toks) hC hC0 hCl hCc hCp hs',rfl,e',rG (SqL.of hx) hr⟩
end
noncomputable def newExc (h:Heap) (C:Addr) (rest:List Value):Heap:=(h.push { cls:=.type "tuple",data:=.seq rest.toArray }).push { cls:=.ref C,data:=.fields #[.ref h.objs.size,.none,.none,.none,.bool false,.none] }
section
variable {prog:Program} {w:World} {A:Around} {R:Result->Shared->Prop} {h:Heap} {g:Array GenState} {d:Drawn} {t:Nat} {os:OsState}
variable {nm q:Str} {C N:Addr} {bs bm bmB:List Value} {hdct:Bool} {sn:List Str} {sub:List Value} {ab:Bool} {col:Option Bool} {dd:Option Addr} {k0 k1 k2 k3 k5:Option Value} {B newId initId:String}
theorem O_ (F:ExcBaseFacts B newId initId bmB) (T:OwnTail h bmB bm) {rest:List Value} {init:Value}
    (hC:h.get? C=some (excClassObj nm q C N bs bm hdct sn sub ab col dd k0 k1 k2 k3 k5 newId))
    (hi:Looks (model prog w) h (typeLookup (.ref C) "__init__") (some init)) (hb:∀self,Looks (model prog w) h (bindSpecial init self) (init,[self])) (hrest:rest.length<=sizeLine)
    (hq:codeAny (model prog w) (A.under (.builtin "type.__call__" ⟨.ref C :: rest,[]⟩)) (.call init ⟨.ref (h.objs.size + 1) :: rest,[]⟩) (InitBack (h.objs.size + 1) R) ⟨newExc h C rest,g,d,t,os⟩) :
    codeAny (model prog w) A (.call (.ref C) ⟨rest,[]⟩) R ⟨h,g,d,t,os⟩:=by
  have f1:=tc_lookup;have f2:=tc_bind (.ref C);have hT:(⟨h,g,d,t,os⟩:Shared).TypeIs (.ref C) "type":=⟨_,hC,rfl⟩;refine codeAny_of_tree ?_;show wpAny _ _ (callAny (.ref C) _) _ _ _
  repeat (any_goals (first | assumption | with_reducible refine wpAny_loadPart_at hC ?_ | wp_step))
  refine ⟨rfl,?_⟩;refine codeAny_call_builtin_at (Code.quiet_builtin _ (by decide +kernel)) entry_typeCall (wpAny_check_type_call_sub hC ?_)
  repeat (first | with_reducible refine wpAny_loadPart_at hC ?_ | with_reducible refine wpAny_madeBy_exc hC ?_ | wp_step)
  refine codeAny_call_builtin_code (Code.quiet_builtin _ F.quiet) (wpAny_check_new_subT F T hC ?_);refine codeAny_exc_new_subT F T hC ?_ hrest;show wpAny _ _ _ _ _ _;have hC₁:=Heap.get?_push_of_some { cls:=.ref C,data:=.fields #[.ref h.objs.size,.none,.none,.none,.bool false,.none] }
    (Heap.get?_push_of_some { cls:=.type "tuple",data:=.seq rest.toArray } hC)
  have hget:((h.push { cls:=.type "tuple",data:=.seq rest.toArray }).push
      { cls:=.ref C,data:=.fields #[.ref h.objs.size,.none,.none,.none,.bool false,.none] }).get? (h.objs.size + 1)=some
      { cls:=.ref C,data:=.fields #[.ref h.objs.size,.none,.none,.none,.bool false,.none] }:=by heap_get
  have hcC:(Value.ref C :: bm).contains (.ref C)=true:=by simp
  have k:∀b o,h.get? b=some o->(newExc h C rest).get? b=some o:=fun b o e=>Heap.get?_push_of_some _ (Heap.get?_push_of_some _ e);have i1:=hi.keeps k;have b1:=(hb (.ref (h.objs.size + 1))).keeps k;unfold newExc at i1 b1;unfold isInstance
  repeat (first | with_reducible refine wpAny_loadPart_at hget ?_ | wp_step)
  refine wpAny_isSubtype_exc hC₁ ?_;rw [hcC];rw [if_neg (by decide)];unfold callSpecial? specialOf
  repeat (first | with_reducible refine wpAny_loadPart_at hget ?_ | wp_step)
  refine i1.here ?_;refine wpAny_holding (wpAny_bind (b1.here ?_));refine wpAny_bind (wpAny_call (codeAny_mono hq fun r s' z=>?_));rcases r with e | (v | _ | _ | _) <;> first | exact z | exact z.elim | skip
  obtain ⟨rfl,z⟩:=z;exact wpAny_pure (wpAny_pure z)
end
abbrev iK (C:Addr) (dd:Option Addr) (t0:Addr):Obj:={ cls:=.ref C,dict:=dd,data:=.fields #[.ref t0,.none,.none,.none,.bool false,.none] }
noncomputable def eG (a C:Addr) (dd:Option Addr) (h:Heap):Prop:=∃t0,h.get? a=some (iK C dd t0)
theorem Pa {h:Heap} {bmB bm:List Value} (T:OwnTail h bmB bm) (self:Value) (what:Str):refuseLoop self what bm=refuseLoop self what bmB:=by
 induction T with
 | base=>rfl
 | own _ _ _ _ ih=>rw [refuseLoop_ref,ih]
section
open Builtin Builtin.ObjectAttr
variable {prog:Program} {w:World} {A:Around} {E:Value->Shared->Prop} {h:Heap} {g:Array GenState} {d:Drawn} {t:Nat} {os:OsState} {K:Frag}
variable {nm q:Str} {C N x:Addr} {bs bm bmB:List Value} {sn:List Str} {sub:List Value} {ab:Bool} {col:Option Bool} {dd:Option Addr} {k0 k1 k2 k3 k5:Option Value} {B newId initId:String} {name:Str} {v:Value} {t0:Addr}
theorem Pb {Q:Unit->Shared->Prop} (SF:StoreFacts B bmB "object.__setattr__" "object") (T:OwnTail h bmB bm) (hC:h.get? C=some (excClassObj nm q C N bs bm true sn sub ab col dd k0 k1 k2 k3 k5 newId)) (X:K.In h)
  (hs:findIn K (.ref C) "__setattr__" = some (some (.builtin "object.__setattr__"))) (ha:findIn K (.ref C) name=some none) (hx:h.get? x=some (iK C none t0))
  (hq:∀h' tk,h'.get? x=some (iK C (some h.objs.size) t0)->h'.Ns1 h.objs.size (fun y=>if y=name then some v else none)->(∀b o,b≠x->h.get? b=some o->h'.get? b=some o)->Q () ⟨h',g,d,tk,os⟩) :
  wpAny (model prog w) A (setAttr (.ref x) name v) Q E ⟨h,g,d,t,os⟩:=by
 have I:InstAt h x (iK C none t0) C none:=⟨hx,rfl,rfl,trivial⟩;refine set_plain (s:=⟨h,g,d,t,os⟩) X I hs ?_;have sub:Looks (model prog w) h (isInstance (.ref x) (.type "object")) true:=I.type.andThen (fun A Q E s k q=>by
  obtain ⟨h1,g1,d1,t1,o1⟩:=s;refine wpAny_isSubtype_exc (k _ _ hC) ?_;have hc:(Value.ref C :: bm).contains (.type "object")=true:=by rw [contains_cons,T.hasType SF.hasOwner,Bool.or_true]
  rw [hc]; exact q)
 refine codeAny_call_builtin SF.slot.plain SF.entry (@check_slot (model prog w) _ _ ⟨h,g,d,t + 1,os⟩ "object.__setattr__" "object" "__setattr__" (.ref x) [.str name t,v] [] _ SF.kind SF.split sub (SF.args (.ref x) (.str name t) v) ?_);have hpass:refuseLoop (.ref x) "__setattr__" (.ref C :: bm)=pure ():=by rw [refuseLoop_ref,Pa T,SF.passes]
 rw [osa_eq,refuse_eq];refine wpAny_bind (wpAny_bind (I.type.here (s:=⟨h,g,d,t + 1,os⟩) (wpAny_bind (wpAny_mroOf_exc hC ?_))));rw [hpass];refine wpAny_pure (wpAny_bind (I.type.here (s:=⟨h,g,d,t + 1,os⟩) (wpAny_bind ((looks_findIn X ha).here (s:=⟨h,g,d,t + 1,os⟩) (wpAny_bind ?_)))));refine wpAny_pure ?_;dsimp only;have hx₁:(h.push { cls:=.type "dict",data:=.dict #[] }).get? x=some (iK C none t0):=Heap.get?_push_of_some _ hx;have hxs:x≠h.objs.size:=Nat.ne_of_lt (Heap.lt_size hx);unfold storeInOwnDict;generalize hsd:storeInDict=sd
 repeat (first | with_reducible refine wpAny_loadPart_at hx ?_ | wp_step)
 subst hsd;have hgd:((h.push { cls:=.type "dict",data:=.dict #[] }).update x fun o=>{ cls:=o.cls,dict:=some h.objs.size,data:=o.data,slots:=o.slots }).get? h.objs.size
   = some { cls:=.type "dict",data:=.dict #[] } :=
  (Heap.get?_update_ne _ _ _ _ hxs.symm).trans (Heap.get?_push_at rfl rfl)
 have hnd:((h.push { cls:=.type "dict",data:=.dict #[] }).update x fun o=>{ cls:=o.cls,dict:=some h.objs.size,data:=o.data,slots:=o.slots }).Ns h.objs.size (fun _=>none) :=
  ⟨_,#[],_,hgd,rfl,fun e he=>absurd he (by simp),fun _=>rfl⟩
 show wpAny _ _ (storeInDict h.objs.size (.str name t) name v) _ _ _;unfold storeInDict newKeyGuard;refine wpAny_bind (wpAny_pure (wpAny_bind (wpAny_nsSet1 (Heap.Ns1.of_empty hnd) fun h' hn' hs=>?_)));obtain ⟨oD,esD,epD,hoD,hdD,hcD⟩:=hn'.count (Within.cons name v Within.nil);refine wpAny_bind (wpAny_lookBehind hoD (by rw [hdD]; exact pastItsLine_dict (Nat.le_trans hcD (by rw [length_cons,length_nil,sizeLine_eq]; omega))) ?_)
 wp_walk
 refine hq h' _ ?_ hn' fun b ob hbx hb=>?_
 ·exact (hs.2 x hxs).trans (Heap.get?_update_self _ hx₁ rfl)
 ·exact (hs.2 b (Nat.ne_of_lt (Heap.lt_size hb))).trans ((Heap.get?_update_ne _ _ _ _ hbx).trans (Heap.get?_push_of_some _ hb))
end
abbrev VM:List Value:=[.type "ValueError",.type "Exception",.type "BaseException",.type "object"]
section
variable {prog:Program} {w:World} {A:Around} {E:Value->Shared->Prop} {h:Heap} {g:Array GenState} {d:Drawn} {t:Nat} {os:OsState}
variable {nm q:Str} {C N x:Addr} {bs bm bmB:List Value} {hdct:Bool} {sn:List Str} {sub:List Value} {ab:Bool} {col:Option Bool} {dd:Option Addr} {k0 k1 k2 k3 k5:Option Value} {B newId initId:String} {t0:Addr}
theorem Pg {rest:List Value} {Q:Value->Shared->Prop} (F:ExcBaseFacts B newId initId bmB) (T:OwnTail h bmB bm) (hC:h.get? C=some (excClassObj nm q C N bs bm hdct sn sub ab col dd k0 k1 k2 k3 k5 newId)) (hx:h.get? x=some (iK C none t0))
  (hq:∀h' t1,h'.get? x=some (iK C none t1)->(∀b o,b≠x->h.get? b=some o->h'.get? b=some o)->Q .none ⟨h',g,d,t,os⟩) (hrest:rest.length<=sizeLine):wpAny (model prog w) A (call (.builtin initId) (.ref x :: rest)) Q E ⟨h,g,d,t,os⟩:=by
 refine wpAny_call (codeAny_call_builtin F.init.plain F.initEntry (wpAny_check_init_subT F T hC hx rfl ?_))
 wp_walk
 refine hq _ h.objs.size ?_ fun b o hb e=>?_
 ·rw [Heap.get?_update_self _ (Heap.get?_push_of_some _ hx) rfl];rfl
 ·rw [Heap.get?_update_other _ _ (Ne.symm hb)];exact Heap.get?_push_of_some _ e
end
noncomputable def xm (K:Frag) (C:Addr):Prop:=∃(nm q:Str) (N:Addr) (bs bm:List Value) (sn:List Str) (sub:List Value) (ab:Bool) (col:Option Bool) (dd:Option Addr) (k0 k1 k2 k3 k5:Option Value),
 K.lookup C=some (excClassObj nm q C N bs bm true sn sub ab col dd k0 k1 k2 k3 k5 "ValueError.__new__")/\∀h,K.In h->OwnTail h VM bm
theorem Ph {K:Frag} {C Y N:Addr} {nm q:Str} {bs:List Value} {sn:List Str} {sub:List Value} {ab:Bool} {col:Option Bool} {dd:Option Addr} {k0 k1 k2 k3 k5:Option Value}
  (l:K.lookup C=some (excClassObj nm q C N bs (.ref Y :: VM) true sn sub ab col dd k0 k1 k2 k3 k5 "ValueError.__new__")) (x:excIn K Y VM "ValueError.__new__" = true):xm K C:=by
 refine ⟨_,_,_,_,_,_,_,_,_,_,_,_,_,_,_,l,fun h X=>?_⟩;obtain ⟨tl,N,nm,qn,bs,hdct,sn,sub,ab,col,dd,k0,k1,k2,k3,k5,mN,hC,hN,hni,T⟩:=(hY' (mg:=fun _=>some (.ref Y)) (x:="") X rfl x).obj;exact .own hC hN hni .base
structure XI (K:Frag) (C Y f:Addr) (fld:Str):Prop where
 cls:xm K C
 set:findIn K (.ref C) "__setattr__" = some (some (.builtin "object.__setattr__"))
 no:findIn K (.ref C) fld=some none
 init:findIn K (.ref C) "__init__" = some (some (.ref f))
 fn:typeIn K (.ref f)=some (.type "function")
 y1:specialIn K (.ref Y) "__getattribute__" = some (some (.builtin "type.__getattribute__"))
 y2:readsIn K Y (.type "type")=true
 y3:findCls K (.ref Y) (.type "type") "__init__" = some (.val (.builtin "ValueError.__init__"))
theorem Pj {H:Hp} {a:Addr} {o:HO} (h:H a=some o):upd H a o=H:=by
 funext b
 unfold upd
 split
 ·rename_i e; rw [e,h]
 ·rfl
theorem Dm {P:Program} {w:World} {H:Hp} {h:Heap} {e C:Addr} {dd:Option Addr} (x:eG e C dd h):ObjOk P w H h e (.ext (eG e C dd)):=by
 obtain ⟨t0,x⟩:=x;exact ⟨⟨t0,x⟩,⟨_,x⟩,fun h1 h2 ⟨t1,y⟩ k=>⟨t1,k _ y⟩⟩
section
variable {X:Cx} {C Y f:Addr} {fld y:Str} {np apos pos pos':Pos} {a:Expr} {es:List Expr} {ta:TA}
theorem Pk {pl:Sem Bool} (Z:XI X.K C Y f fld) (hg:Gl X y) (hm:X.mg y=some (.ref Y)) (ha:PA X (a :: es) ta) (hz:(a :: es).length<=100) (hdb:(y == ("__debug__" : Str))=false:=by decide)
  (hst:starEach (a :: es) X.env=(false,eval a X.env) :: starEach es X.env:=by rfl) (hpl:(backTo pos (starEach es X.env)).any (·.1)=false:=by rfl)
  (ht:eval (.Call (.Attribute (.Name y np) "__init__" apos) (a :: es) [] pos) X.env=(do
   let ov <- eval (.Name y np) X.env
   standAt apos.atName
   let (f,first) <- holding [ov] (getMethod ov "__init__" pl)
   callWith pos f first (backTo pos (starEach (a :: es) X.env)) (backToKw pos (keywordEach [] X.env))):=by rfl) :
  PE X (.Call (.Attribute (.Name y np) "__init__" apos) (a :: es) [] pos) (fun σ H Q=>ta σ H fun vs H1=>∃e us,vs=.ref e :: us/\us.length<=100/\H1 e=some (.ext (eG e C none))/\Q .non H1):=by
 intro pins s σ H Q I h;refine methodCall_KW (pl:=pl) (vG I hg hm ?_ hdb) ht;refine method_cls I.kIn Z.y1 (cls_value I.kIn Z.y2 Z.y3 rfl ?_);refine callWith_method1 (first:=[]) (eX (ha pos pins _ σ H _ (I.tok _) h) fun us s1 ⟨vs,H1,I1,r,e,us',ev,hl,he,hq⟩=>?_) hst hpl
 subst ev
 cases r with
 | cons r0 r =>
  rename_i u0 us hap;obtain rfl:u0=Value.ref e:=r0;obtain ⟨nm,q,N,bs,bm,sn,sub,ab,col,dd,k0,k1,k2,k3,k5,lk,T⟩:=Z.cls;obtain ⟨⟨t0,hx⟩,_,_⟩:=I1.hok e _ he;obtain ⟨hh,g,d,t,os⟩:=s1;refine Pg PySem.F.excBase_ValueError (T _ I1.kIn) (I1.kIn _ _ lk) hx (fun h' t1 x' k=>?_) (by rw [<- r.length]; exact Nat.le_trans hl (by decide));have J:=I1.write (x:=e) (e:=e) (o:=.ext (eG e C none)) (t':=t) (by rw [he]; trivial) (.inl rfl) (fun b u hb q=>k b u hb q) ⟨_,x'⟩ (Dm ⟨t1,x'⟩);rw [Pj he] at J;exact ⟨.non,H1,J,rfl,hq⟩
theorem Pn {o value:Expr} {to tv:TE} (Z:XI X.K C Y f fld) (ho:PE X o to) (hv:PE X value tv) (hs:swapsWith value (some (.Attribute o fld pos')) pos.line X.env=pure false:=by rfl) :
  PS X (.Assign [.Attribute o fld pos'] value pos) (fun D σ H=>tv σ H fun y H1=>to σ H1 fun x H2=>∃e,x=.ref e/\H2 e=some (.ext (eG e C none))/\∀dx,H2 dx=none->D.nx σ (upd (upd H2 e (.ext (eG e C (some dx)))) dx (.xd [(fld,y)]))):=by
 intro pins s σ H D I h;refine plainObj_wpAny_Assign_Attribute (eX (hv pins s σ H _ I h) fun u s1 ⟨y,H1,I1,ry,q⟩=>eX (ho pins s1 σ H1 _ I1 q) fun ov s2 ⟨x,H2,I2,rx,e,ex,he,q2⟩=>?_) hs;subst ex;obtain rfl:ov=Value.ref e:=rx;obtain ⟨nm,q,N,bs,bm,sn,sub,ab,col,dd,k0,k1,k2,k3,k5,lk,T⟩:=Z.cls;obtain ⟨⟨t0,hx⟩,_,_⟩:=I2.hok e _ he;obtain ⟨hh,g,d,t,os⟩:=s2;refine Pb PySem.F.store_ValueError (T _ I2.kIn) (I2.kIn _ _ lk) I2.kIn Z.set Z.no hx fun h' tk x' n' k=>?_;have hn:=I2.hok.fresh (Nat.le_refl hh.objs.size);have J:=I2.write (x:=e) (e:=e) (o:=.ext (eG e C (some hh.objs.size))) (t':=tk) (by rw [he]; trivial) (.inl rfl) (fun b u hb q=>k b u hb q) ⟨_,x'⟩ (Dm ⟨t0,x'⟩);have ne:hh.objs.size≠e:=fun z=>by subst z; rw [he] at hn; cases hn
 obtain ⟨f1,f2,f3,f4,f5,f6⟩:=I2.fpOk (H':=H2) (Nat.le_refl hh.objs.size) hn;refine ⟨σ,_,J.track (a:=hh.objs.size) (o:=.xd [(fld,y)]) (by rw [bT ne]; exact hn) (fun ob z _=>?_) f2 f5 f6 ?_,q2 _ hn⟩
 ·exact absurd (Nat.lt_of_lt_of_le (Heap.lt_size z) I2.sz) (Nat.lt_irrefl _)
 ·refine ⟨_,n',fun g=>?_⟩
  by_cases z:g=fld
  ·subst z; simp only [lookup_cons,beq_self_eq_true,if_pos]; exact ry
  ·have:(g == fld)=false:=by simpa using z
   simp only [lookup_cons,this,lookup_nil,if_neg z]; trivial
end
noncomputable def Dn (C:Addr) (fld:Str) (okv:V->Prop):Sp:=fun vs H Q _=>∃e v,vs=[.ref e,v]/\okv v/\H e=some (.ext (eG e C none))/\∀dx,H dx=none->Q .non (upd (upd H e (.ext (eG e C (some dx)))) dx (.xd [(fld,v)]))
noncomputable def xr (C:Addr) (fld:Str) (tx:TE):TS:=wg (uf (fun σ H Q=>nP (nO 0) (nP tx wG) σ H fun vs H1=>∃e us,vs=.ref e :: us/\us.length<=100/\H1 e=some (.ext (eG e C none))/\Q .non H1))
 (fun D σ H=>nO 1 σ H fun y H1=>nO 0 σ H1 fun x H2=>∃e,x=.ref e/\H2 e=some (.ext (eG e C none))/\∀dx,H2 dx=none->D.nx σ (upd (upd H2 e (.ext (eG e C (some dx)))) dx (.xd [(fld,y)])))
theorem lN' {P:Program} {w:World} {K:Frag} {mg:Str->Option Value} {base:Heap} {qual fld:Str} {st:Stmt} {f C:Addr} {fd:FuncData} {k:Nat} {tx:TE} {okv:V->Prop} (F:Fun K "__init__" qual st f fd) (S:FnScope ["self",fld] ["self",fld] (aq st))
  (htx:∀e v H Q,okv v->(∀x,Q x H)->tx [some (.ref e),some v] H Q)
  (hb:∀(cdv:Value) (A:Around) (outer:List Env) (s:Shared) (H:Hp) (E:XK),PSs (dW (gW P w) P w K mg base ["self",fld] qual (aq st) f cdv A outer s H E) (aV st) (xr C fld tx)) :
  FnOk P w K mg base (gW P w) (k + 1) f fd ["self",fld] (Dn C fld okv):=by
 obtain ⟨oc,od,kV,doc,pm,an,cdv,ct,osl,rfl,lk,hcd⟩:=F.ex;refine Ag lk hcd S (fun vs H Q E ⟨e,v,h,_⟩=>by rw [h]; rfl) fun A outer s H vs Q E hr ⟨e,v,h,ov,he,hq⟩=>⟨_,hb cdv A outer s H E,?_⟩;subst h;refine ⟨.ref e,rfl,htx e v _ _ ov fun x=>⟨e,[x],rfl,by simp,he,?_⟩⟩;exact ⟨v,rfl,.ref e,rfl,e,rfl,he,hq⟩
section
variable {M:Model} {A:Around} {E:Value->Shared->Prop} {env:Env}
variable {nm q:Str} {C N:Addr} {bs bm:List Value} {hdct:Bool} {sn:List Str} {sub:List Value} {ab:Bool} {col:Option Bool} {dd:Option Addr} {k0 k1 k2 k3 k5:Option Value} {newId:String}
theorem Pq {s:Shared} {x:Sem Value} {Q:Flow->Shared->Prop} (hbase:bm.contains (.type "BaseException")=true) (hh:A.handled=none)
  (h:wpAny M A x (fun v s₁=>∃e d' t,v=.ref e/\s₁.heap.get? C=some (excClassObj nm q C N bs bm hdct sn sub ab col dd k0 k1 k2 k3 k5 newId) /\
   s₁.heap.get? e=some (iK C d' t)/\E (.ref e) s₁) E s) :
  wpAny M A (raiseStmt env (some x) none) Q E s:=by
 have hcB:(Value.ref C :: bm).contains (.type "BaseException")=true:=by rw [contains_cons,hbase,Bool.or_true]
 unfold raiseStmt;refine wpAny_bind (wpAny_mono h (fun v s₁ h₁=>?_) fun _ _ x=>x);obtain ⟨e,d',t,rfl,hC,he,hE⟩:=h₁;obtain ⟨hp,g,d,tk,os⟩:=s₁
 repeat (first | with_reducible refine wpAny_loadPart_at he ?_ | with_reducible refine wpAny_loadPart_at hC ?_ | (with_reducible refine wpAny_isSubtype_exc hC ?_; rw [hcB]) | wp_step)
 exact wpAny_raiseNew_none hh hE
end
theorem _root_.L2.Inv.untrack {X:Cx} {pins:List (Addr×Obj)} {σ:St} {H:Hp} {s:Shared} {a:Addr} {φ:Heap->Prop} (I:Inv X pins σ H s) (h:H a=some (.ext φ)):Inv X pins σ (fun b=>if b=a then none else H b) s:=by
 have ne:∀{b:Addr} {o:HO},H b=some o->(∀ψ,o≠.ext ψ)->(if b=a then none else H b)=some o:=fun {b o} e n=>by
  rw [if_neg fun z=>?_]
  ·exact e
  ·subst z; rw [h] at e; cases e; exact n _ rfl
 have non:∀{b:Addr},H b=none->(if b=a then none else H b)=none:=fun {b} e=>by split <;> first | rfl | exact e
 refine ⟨I.ok,I.os,I.bare,⟨I.base.keep,I.base.slot,fun b ob e n hx=>non (I.base.free b ob e n hx),I.base.there,fun b xs e=>ne (I.base.tups b xs e) (fun _ z=>nomatch z),fun b ob u e=>ne (I.base.frzs b ob u e) (fun _ z=>nomatch z),fun b ps e=>?_⟩,I.loc,I.cell,non I.free,fun x c e=>non (I.freeC x c e),fun p hp=>?_,fun b u q=>?_,I.len⟩
 ·obtain ⟨more,q⟩:=I.base.tbls b ps e;exact ⟨more,ne q (fun _ z=>nomatch z)⟩
 ·obtain ⟨e,n,r⟩:=I.pin p hp;exact ⟨e,non n,r⟩
 ·have q':H b=some u:=by
   by_cases z:b=a
   ·simp only [if_pos z] at q; cases q
   ·simp only [if_neg z] at q; exact q
  exact (I.hok b u q').stay (fun c v _ e=>e) (fun c z=>ne z (fun _ w=>nomatch w)) fun c xs z=>ne z (fun _ w=>nomatch w)
noncomputable def bU (x fld:Str) (fe:DS->Res D):DS->Out:=fun δ=>match fe δ with
 | .ok d=>.err ⟨x,some (fld,d)⟩ δ
 | .err y=>.err y δ
 | .stuck=>.stuck
section
variable {X:Cx} {e:Expr} {fe:DS->Res D} {np cpos pos:Pos} {x fld:Str} {C Y f:Addr} {fd:FuncData} {k:Nat} {okv:V->Prop}
theorem Pr (hc:X.calm=true) (Z:XI X.K C Y f fld) (Fn:FnOk X.prog X.w X.K X.mg X.base (gW X.prog X.w) k f fd ["self",fld] (Dn C fld okv)) (hb:Binds X.K fd ["self",fld] []) (hr:Room (k + 1) X.A)
  (hx:nsIn X.K mainGlobals x=some (some (.ref C))) (hg:Gl X x) (hm:X.mg x=some (.ref C)) (ha:PD X e fe) (hok:∀(δ:DS) (d:D) (H:Hp) (v:V),fe δ=.ok d->Rep X.K H d v->okv v)
  (hdb:(x == ("__debug__" : Str))=false:=by decide) (he:starEach [e] X.env=[(false,eval e X.env)]:=by rfl) :
  PSD X (.Raise (some (.Call (.Name x np) [e] [] cpos)) none pos) (bU x fld fe):=by
 intro pins s σ G H δ I R hs;have hs':fe δ≠.stuck:=fun z=>hs (by unfold bU; rw [z]);obtain ⟨nm,q,N,bs,bm,sn,sub,ab,col,dd,k0,k1,k2,k3,k5,lk,T⟩:=Z.cls;have T0:=T _ I.kIn;rw [arm_exec_Raise];have core:wpAny (model X.prog X.w) X.A (eval (.Call (.Name x np) [e] [] cpos) X.env) (fun v s₁=>∃e d' t,v=.ref e/\s₁.heap.get? C=some (excClassObj nm q C N bs bm true sn sub ab col dd k0 k1 k2 k3 k5 "ValueError.__new__") /\
   s₁.heap.get? e=some (iK C d' t)/\SX X pins G H s.heap (bU x fld fe δ) (.ref e) s₁) (SX X pins G H s.heap (bU x fld fe δ)) s:=by
  refine wpAny_Call_ofName (vG I hg hm ?_ hdb);unfold callWith;rw [he];refine wpAny_bind (wpAny_holding (Calls.evalArgs_plain (Calls.spliced_cons (ha.use I R hs' (fun d v s1 u H1 q1 I1 r1 e1 b1 p1=>Calls.spliced_nil (wpAny_bind (wpAny_standAt ?_))) fun e s1 q=>q.sx R fun x z=>by unfold bU; rw [z]))));have T1:=T _ I1.kIn;obtain ⟨hh,g,dr,tk,os⟩:=s1;have hC:=I1.kIn _ _ lk;refine wpAny_bind (wpAny_keeperOf_exc hC ?_);simp only [append_nil,nil_append];have hne:=I1.hok.fresh (Nat.le_succ hh.objs.size);have kk:∀b o,hh.get? b=some o->(newExc hh C [v]).get? b=some o:=fun b o e=>Heap.get?_push_of_some _ (Heap.get?_push_of_some _ e);have ge:(newExc hh C [v]).get? (hh.objs.size + 1)=some (iK C none hh.objs.size):=by unfold newExc; heap_get
  have I2:=I1.laid (a:=hh.objs.size + 1) (o:=.ext (eG (hh.objs.size + 1) C none)) (h':=newExc hh C [v]) (t':=tk) kk (Nat.le_succ _) (Dm ⟨_,ge⟩);have r2:Vals [V.ref (hh.objs.size + 1),u] [Value.ref (hh.objs.size + 1),v]:=.cons rfl (.cons r1 .nil);refine wpAny_bind (wpAny_call (O_ PySem.F.excBase_ValueError T1 hC (looks_findIn I1.kIn Z.init) (fun self=>bind_fn I1.kIn self Z.fn) (by simp [sizeLine_eq]) (codeAny_mono (Fn.run _ X.stack _ _ ⟨[Value.ref (hh.objs.size + 1),v],[]⟩ [Value.ref (hh.objs.size + 1),v] _ (fun w H'=>w=.non/\∃dx,upd H1 (hh.objs.size + 1) (.ext (eG (hh.objs.size + 1) C none)) dx=none/\H'=upd (upd (upd H1 (hh.objs.size + 1) (.ext (eG (hh.objs.size + 1) C none))) (hh.objs.size + 1) (.ext (eG (hh.objs.size + 1) C (some dx)))) dx (.xd [(fld,u)])) (fun _ _ _=>False) (hr.make C [v] [])
   (I2.env0.make C [v] []) (hb _ [Value.ref (hh.objs.size + 1),v] I2.kIn rfl) r2 ⟨_,_,rfl,hok δ d H1 u q1 p1,dR,fun dx hd=>⟨rfl,dx,hd,rfl⟩⟩) fun r s' hq'=>?_)))
  cases r with
  | error e =>
   obtain ⟨_,_,_,_,_,_,_,_,_,_,z⟩:=hq';exact z.elim
  | ok fl =>
   cases fl with
   | ret u' =>
    obtain ⟨vv,H',I3,rv,ev,dx,hd,eH⟩:=I2.after hq';subst ev;refine ⟨rv,?_⟩;have hdx:dx≠hh.objs.size + 1:=fun z=>by subst z; rw [dR] at hd; cases hd
    have hd1:H1 dx=none:=by rw [bT hdx] at hd; exact hd
    have hHe:H' (hh.objs.size + 1)=some (.ext (eG (hh.objs.size + 1) C (some dx))):=by rw [eH,bT (Ne.symm hdx),dR]
    obtain ⟨⟨t0,hx3⟩,_,_⟩:=I3.hok _ _ hHe;have I4:=I3.untrack hHe;have eq:(fun b=>if b=hh.objs.size + 1 then none else H' b)=upd H1 dx (.xd [(fld,u)]):=by
     funext b
     by_cases z:b=hh.objs.size + 1
     ·rw [if_pos z,z,bT (Ne.symm hdx),hne]
     ·rw [if_neg z,eH]
      by_cases y:b=dx
      ·rw [y,dR,dR]
      ·rw [bT y,bT z,bT z,bT y]
    rw [eq] at I4;have sm:=gf hd1 (.xd [(fld,u)]);refine wpAny_bind (wpAny_holding (wpAny_point (wpAny_pure ⟨hh.objs.size + 1,some dx,t0,rfl,I3.kIn _ _ lk,hx3,?_⟩)));refine ⟨⟨x,some (fld,d)⟩,δ,_,C,σ,_,by unfold bU; rw [q1],rfl,I4,(e1.trans sm).tk,R.mono (e1.trans sm),hx,some dx,⟨dx,u,rfl,dR,p1.mono sm⟩,?_⟩;refine ⟨b1 _ (e1.free hne) (fun o vs ho=>?_),by rw [bT (Ne.symm hdx)]; exact hne,_,_,_,hx3,⟨rfl,rfl⟩,rfl,rfl,.inl rfl⟩;exact absurd (Heap.lt_size ho) (by show ¬hh.objs.size + 1 < hh.objs.size; omega)
   | next=>exact False.elim hq'
   | brk=>exact False.elim hq'
   | cont=>exact False.elim hq'
 refine wpAny_bind (wpAny_standAt (Pq (T0.hasType PySem.F.excBase_ValueError.hasBase) (I.ok.hd hc) (wpAny_bind (wpAny_mono core (fun v s₃ h₃=>wpAny_bind (wpAny_standAt (wpAny_pure h₃))) fun _ _ x=>x))))
end
noncomputable def uX (s:Stmt) (j:Nat):Stmt:=match s with
 | .ClassDef _ _ _ body _ _ _ _ _ _ _=>body.getD j (.Pass ⟨0,0,0,0⟩)
 | _=>.Pass ⟨0,0,0,0⟩
noncomputable def Xk (K:Frag) (C Y:Addr) (qual:Str) (st:Stmt) (fld:Str):Prop:=∃(f:Addr) (fd:FuncData),Fun K "__init__" qual st f fd/\XI K C Y f fld
theorem xk_mk {K:Frag} {C Y N f:Addr} {nm q qual fld:Str} {st:Stmt} {bs:List Value} {sn:List Str} {sub:List Value} {ab:Bool} {col:Option Bool} {dd:Option Addr} {k0 k1 k2 k3 k5:Option Value} {oc:Value} {od an:Option Addr} {osl:Array (Option Value)} {kV doc pm cdv ct:Value}
  (i:findIn K (.ref C) "__init__" = some (some (.ref f))) (l:K.lookup f=some ⟨oc,od,.func (fnOf "__init__" qual (bO st) (aV st) (aq st) .none kV doc pm an cdv ct),osl⟩) (c:codeIn K cdv qual=true) (k:keepIn K (.ref f)=true)
  (lc:K.lookup C=some (excClassObj nm q C N bs (.ref Y :: VM) true sn sub ab col dd k0 k1 k2 k3 k5 "ValueError.__new__")) (x:excIn K Y VM "ValueError.__new__" = true)
  (set:findIn K (.ref C) "__setattr__" = some (some (.builtin "object.__setattr__"))) (no:findIn K (.ref C) fld=some none) (fn:typeIn K (.ref f)=some (.type "function"))
  (y1:specialIn K (.ref Y) "__getattribute__" = some (some (.builtin "type.__getattribute__"))) (y2:readsIn K Y (.type "type")=true) (y3:findCls K (.ref Y) (.type "type") "__init__" = some (.val (.builtin "ValueError.__init__"))) :
  Xk K C Y qual st fld:=⟨f,_,hJ' l c k,⟨Ph lc x,set,no,i,fn,y1,y2,y3⟩⟩
noncomputable def Ax (P:Program) (w:World) (K:Frag) (mg:Str->Option Value) (base:Heap) (C:Addr) (fld:Str) (okv:V->Prop):Prop :=
 ∃(Y f:Addr) (fd:FuncData),XI K C Y f fld/\FnOk P w K mg base (gW P w) 1 f fd ["self",fld] (Dn C fld okv)/\Binds K fd ["self",fld] []
theorem Pu {P:Program} {w:World} {K:Frag} {mg:Str->Option Value} {base:Heap} {C Y:Addr} {qual fld:Str} {st:Stmt} {okv:V->Prop} {tx:TE} (L:Xk K C Y qual st fld) (S:FnScope ["self",fld] ["self",fld] (aq st))
  (htx:∀e v H Q,okv v->(∀x,Q x H)->tx [some (.ref e),some v] H Q)
  (hb:∀(f:Addr) (cdv:Value) (A:Around) (outer:List Env) (s:Shared) (H:Hp) (E:XK),XI K C Y f fld->PSs (dW (gW P w) P w K mg base ["self",fld] qual (aq st) f cdv A outer s H E) (aV st) (xr C fld tx))
  (hbd:∀(kV doc pm:Value) (an:Option Addr) (cdv ct a b:Value),bindArgs (fnOf "__init__" qual (bO st) (aV st) (aq st) .none kV doc pm an cdv ct) ⟨[a,b],[]⟩=pure [(("self" : Str),a),(fld,b)]:=by intros; rfl):Ax P w K mg base C fld okv:=by
 obtain ⟨f,fd,F,Z⟩:=L;exact ⟨Y,f,fd,Z,lN' F S htx fun cdv A outer s H E=>hb f cdv A outer s H E Z,F.binds fun _ _ _ _ _ _ us hl=>match us,hl with | [_,_],_=>hbd _ _ _ _ _ _ _ _⟩
theorem rz {X:Cx} {e:Expr} {fe:DS->Res D} {np cpos pos:Pos} {x fld:Str} {C:Addr} {k:Nat} {okv:V->Prop} (O:Ax X.prog X.w X.K X.mg X.base C fld okv) (hr:Room k X.A) (hc:X.calm=true) (hx:nsIn X.K mainGlobals x=some (some (.ref C))) (hg:Gl X x) (hm:X.mg x=some (.ref C)) (ha:PD X e fe)
  (hok:∀(δ:DS) (d:D) (H:Hp) (v:V),fe δ=.ok d->Rep X.K H d v->okv v) (hk:2<=k:=by first | decide | omega)
  (hdb:(x == ("__debug__" : Str))=false:=by decide) (he:starEach [e] X.env=[(false,eval e X.env)]:=by rfl) :
  PSD X (.Raise (some (.Call (.Name x np) [e] [] cpos)) none pos) (bU x fld fe):=by
 obtain ⟨Y,f,fd,Z,F,B⟩:=O;exact Pr hc Z F B (hr.mono hk) hx hg hm ha hok hdb he
mutual
theorem Rep.frz {K:Frag} {H:Hp} {a:Addr} {xs:List V} {ob:Obj} (hH:H a=some (.lst xs)):∀{d:D} {v:V},Rep K H d v->Rep K (upd H a (.frz ob (.lst xs))) d v
 | .non,_,h=>by rw [Rep] at h ⊢; exact h
 | .bl _,_,h=>by rw [Rep] at h ⊢; exact h
 | .int _,_,h=>by rw [Rep] at h ⊢; exact h
 | .str _,_,h=>by rw [Rep] at h ⊢; exact h
 | .tup ds,_,h=>by
  rw [Rep] at h ⊢;obtain ⟨b,ys,e1,e2,e3⟩:=h;refine ⟨b,ys,e1,?_,Reps.frz hH e3⟩;rcases e2 with (h | ⟨o,h⟩) | h
  ·exact .inl (.inl (by rw [bT (fun z=>by subst z; rw [hH] at h; cases h)]; exact h))
  ·exact .inl (.inr ⟨o,by rw [bT (fun z=>by subst z; rw [hH] at h; cases h)]; exact h⟩)
  ·exact .inr h
 | .lst ds,_,h=>by
  rw [Rep] at h ⊢;obtain ⟨b,ys,e1,e2,e3⟩:=h;refine ⟨b,ys,e1,?_,Reps.frz hH e3⟩
  by_cases z:b=a
  ·subst z;rcases e2 with (h | ⟨o,h⟩) | h
   ·rw [hH] at h; cases h; exact .inl (.inr ⟨ob,dR⟩)
   ·rw [hH] at h; cases h
   ·exact .inr h
  ·rcases e2 with (h | ⟨o,h⟩) | h
   ·exact .inl (.inl (by rw [bT z]; exact h))
   ·exact .inl (.inr ⟨o,by rw [bT z]; exact h⟩)
   ·exact .inr h
 | .exc _,_,h=>by
  rw [Rep] at h ⊢;obtain ⟨b,C,e1,e2,e3⟩:=h;exact ⟨b,C,e1,e2,by rw [bT (fun z=>by subst z; rw [hH] at e3; cases e3)]; exact e3⟩
 | .excf _ _ d,_,h=>by
  rw [Rep] at h ⊢;obtain ⟨b,C,dx,u,e1,e2,e3,e4,e5⟩:=h;exact ⟨b,C,dx,u,e1,e2,by rw [bT (fun z=>by subst z; rw [hH] at e3; cases e3)]; exact e3,by rw [bT (fun z=>by subst z; rw [hH] at e4; cases e4)]; exact e4,Rep.frz hH e5⟩
 | .dct,_,h=>by
  rw [Rep] at h ⊢;obtain ⟨b,e1,e2⟩:=h;exact ⟨b,e1,by rw [bT (fun z=>by subst z; rw [hH] at e2; cases e2)]; exact e2⟩
theorem Reps.frz {K:Frag} {H:Hp} {a:Addr} {xs:List V} {ob:Obj} (hH:H a=some (.lst xs)):∀{ds:List D} {vs:List V},Reps K H ds vs->Reps K (upd H a (.frz ob (.lst xs))) ds vs
 | [],_,h=>by rw [Reps] at h ⊢; exact h
 | d :: ds,_,h=>by
  rw [Reps] at h ⊢;obtain ⟨v,vs,e1,e2,e3⟩:=h;exact ⟨v,vs,e1,Rep.frz hH e2,Reps.frz hH e3⟩
end
noncomputable def xu (X:Cx) (pins:List (Addr×Obj)) (σ:St) (H:Hp) (r:Res D) (u:Value) (s1:Shared):Prop :=
 ∃ds a xs H1,r=.ok (.lst ds)/\Inv X pins σ H1 s1/\u=.ref a/\Same H H1/\H a=none/\H1 a=some (.lst xs)/\Reps X.K H1 ds xs
noncomputable def PDL (X:Cx) (e:Expr) (f:DS->Res D):Prop :=
 ∀(pins:List (Addr×Obj)) (s:Shared) (σ:St) (G H:Hp) (δ:DS),Inv X pins σ H s->RepSt X.K G H σ δ->f δ≠.stuck ->
  wpAny (model X.prog X.w) X.A (eval e X.env) (xu X pins σ H (f δ)) (XPost X pins σ H s.heap (f δ)) s
theorem PDL.pd {X:Cx} {e:Expr} {f:DS->Res D} (h:PDL X e f):PD X e f:=fun pins s σ G H δ I R hs =>
 wpAny_mono (h pins s σ G H δ I R hs) (fun u s1 ⟨ds,a,xs,H1,q1,q2,q3,q4,q5,q6,q7⟩=>⟨_,.ref a,H1,q1,q2,by rw [q3]; rfl,q4,rG (SqL.of q6) q7⟩) fun _ _ z=>z
theorem Dq {α β:Type} {f g:α->Option β}:∀{l:List α},(∀k∈l,f k=g k)->l.filterMap f=l.filterMap g
 | [],_=>rfl
 | a :: l,h=>by
  have ih:=Dq (l:=l) fun k hk=>h k (mem_cons_of_mem _ hk);rw [filterMap_cons,filterMap_cons,h a (by simp),ih]
theorem HN {α:Type}:∀(ys:List α),(List.range ys.length).filterMap (fun k=>ys[k]?)=ys
 | []=>rfl
 | y :: ys=>by
  rw [length_cons,range_succ_eq_map,filterMap_cons,filterMap_map];show y :: _=_
  congr 1
  exact HN ys
theorem Px {α:Type} (xs:List α):((List.range xs.length).map fun k=>xs.length - 1 - k).filterMap (xs[·]?)=xs.reverse:=by
 have h:=HN xs.reverse;rw [length_reverse] at h;rw [filterMap_map];refine Eq.trans (Dq fun k hk=>?_) h;have hk:=mem_range.mp hk;show xs[xs.length - 1 - k]? = _;rw [List.getElem?_reverse hk]
theorem Py (its:List Value):slicePick its.toArray none none (some (-1))=its.reverse.toArray:=by
 unfold slicePick sliceBounds;simp only [Option.getD_some,size_toArray];have c:¬((-1:Int) > 0):=by decide
 simp only [if_neg c];unfold sliceRange;simp only [if_neg c];have e:((if ((its.length:Int) - 1 > -1) then ((its.length:Int) - 1 - -1 - -1 - 1) / - -1 else 0):Int).toNat=its.length:=by
  have:(- -1:Int)=1:=rfl;rw [this,Int.ediv_one]
  split <;> omega
 rw [e];have e2:((List.range its.length).map fun (k:Nat)=>((its.length:Int) - 1 + -1 * (k:Int)).toNat)=(List.range its.length).map fun k=>its.length - 1 - k:=by
  refine map_congr_left fun k hk=>?_;omega
 rw [e2]
 congr 1
 rw [<- Px its];refine Dq fun k _=>?_;simp
noncomputable def lH (d:D) (st:Option Int):Res D:=match d,st with
 | .lst ds,some k=>if k=-1 then .ok (.lst ds.reverse) else .stuck
 | _,_=>.stuck
noncomputable def sS (fe:DS->Res D) (fs:DS->Res (Option Int)):DS->Res D:=fun δ=>(fe δ).bind fun d=>(fs δ).bind fun st=>lH d st
theorem Reps.reverse {K:Frag} {H:Hp}:∀{ds:List D} {vs:List V},Reps K H ds vs->Reps K H ds.reverse vs.reverse
 | [],_,h=>by rw [h.nil_of]; exact Reps.nil
 | d :: ds,_,h=>by
  obtain ⟨v,vs,rfl,r,t⟩:=h.cons_of;rw [reverse_cons,reverse_cons];exact (Reps.reverse t).append (Reps.cons r Reps.nil)
theorem Vals.reverse':∀{vs:List V} {us:List Value},Vals vs us->Vals vs.reverse us.reverse
 | _,_,.nil=>.nil
 | _,_,.cons r t=>by
  rw [reverse_cons,reverse_cons];exact (Vals.reverse' t).append (.cons r .nil)
section
variable {X:Cx} {e:Expr} {fe:DS->Res D} {st:Expr} {fs:DS->Res (Option Int)} {pos p2:Pos}
theorem Pz (he:PD X e fe) (ht:POD X (some st) fs):PDL X (.Subscript e (.Slice none none (some st) p2) pos) (sS fe fs):=by
 intro pins s σ G H δ I R hs;unfold sS at hs ⊢;refine Subscript_ (he.use I R (dY hs) (fun d v s1 x H1 q I1 r1 e1 b1 p1=>?_) fun e s1 q=>q.same fun x z=>fL z);have h2:=fY hs q;rw [q,Res.bind_ok];refine wpAny_Slice ((jP (X:=X)).use I1 (R.mono e1) (fun z=>by cases z) (fun l vl s2 H2 q2 I2 pl e2 b2=>?_) fun e s2 p=>(p.none).elim)
 cases q2
 refine (jP (X:=X)).use I2 ((R.mono e1).mono e2) (fun z=>by cases z) (fun u vu s3 H3 q3 I3 pu e3 b3=>?_) fun e s3 p=>(p.none).elim
 cases q3
 refine ht.use I3 (((R.mono e1).mono e2).mono e3) (dY h2) (fun k vk s4 H4 q4 I4 pk e4 b4=>?_) fun e s4 p=>((p.back e3 b3 (r':=(fs δ).bind fun st=>lH d st) fun x z=>fL z).back e2 b2 (r':=(fs δ).bind fun st=>lH d st) fun x z=>z).back e1 b1 fun x z=>z;have h5:=fY h2 q4;rw [q4,Res.bind_ok];have I5:Inv X pins σ H4 { s4 with heap:=s4.heap.push { cls:=.type "slice",data:=.fields #[vl,vu,vk] } }:=I4.kept (t':=s4.toks) fun b ob q=>Heap.get?_push_of_some _ q
 unfold lH at h5 ⊢
 split at h5
 ·rename_i ds kk;have hk:kk=-1:=by
   by_cases z:kk=-1
   ·exact z
   ·rw [if_neg z] at h5; exact (h5 rfl).elim
  subst hk;obtain ⟨a,xs,rfl,hq,rr⟩:=d_ (((p1.mono e2).mono e3).mono e4)
  cases r1
  obtain ⟨its,r,hti,hz⟩:=I5.list hq;have hlen:=r.length;show wpAny (model X.prog X.w) X.A (subscriptTail e (.Slice none none (some st) p2) (.ref a) (.ref s4.heap.objs.size)) _ _ { s4 with heap:=s4.heap.push { cls:=.type "slice",data:=.fields #[vl,vu,vk] } }
  refine tail_any (ops:=[.ref a,.ref s4.heap.objs.size]) hti.isList.typeIs slot_list_getitem.lookup ?_ (by with_unfolding_all rfl);refine wpAny_getItem_list_slice hti.isList (Heap.IsSliceOf.new ..) pl pu pk (by simp) ?_ (by rw [size_toArray] <;> omega)
  rw [Py its];have hf:=I5.hok.fresh (Nat.le_refl _);have e14:=((e1.trans e2).trans e3).trans e4;refine ⟨ds.reverse,_,xs.reverse,_,rfl,I5.laid (t':=s4.toks) (o:=.lst xs.reverse) (fun b ob q=>Heap.get?_push_of_some _ q) (Nat.le_refl _) ?_,rfl,e14.trans (gf hf _),e14.free hf,dR,(rr.reverse).mono (gf hf _)⟩;exact ⟨by rw [length_reverse]; exact hz,_,0,Vals.reverse' r,Heap.get?_push_size _ rfl⟩
 ·exact (h5 rfl).elim
end
end DL
namespace DL
open PySem PySem.Spec PyProof.Rows L2
section
variable {X:Cx} {tg iter:Expr} {body:List Stmt} {t:du} {fb:DS->Out} {pos:Pos}
variable {x:Str} {np p cp tp:Pos} {elts:List Expr} {x1:Nat}
end
section
variable {X:Cx} {body:List Stmt} {t:du} {fb:DS->Out} {pos:Pos} {x:Str} {np p cp tp:Pos} {elts:List Expr} {x1:Nat}
end
section
variable {X:Cx} {x y:Str} {pos pos' np apos cpos:Pos}
noncomputable def popS (i:Nat) (ds:List D) (δ:DS):DS:=(δ.map fun o=>o.bind bG).set i (some (.own ds.dropLast))
theorem Reps.dropLast {K:Frag} {H:Hp} {ds:List D} {vs:List V} (h:Reps K H ds vs):Reps K H ds.dropLast vs.dropLast:=by
 rw [dropLast_eq_take,dropLast_eq_take,h.length];exact h.take _
theorem RepSt.pop {K:Frag} {G H:Hp} {σ:St} {δ:DS} {i:Nat} {ds:List D} {a:Addr} {xs:List V} (R:RepSt K G H σ δ) (hδ:δ[i]? = some (some (.own ds))) (hσ:σ[i]? = some (some (.ref a))) (hH:H a=some (.lst xs)) (r:Reps K H ds xs) (hG:G a=none) (hf:aG ds=true) :
  RepSt K G (upd H a (.lst xs.dropLast)) σ (popS i ds δ) where
 same:=fun b o e=>by
  have hb:b≠a:=fun z=>by subst z; rw [hG] at e; cases e
  rw [bT hb]; exact R.same b o e
 len:=by unfold popS; rw [length_set,length_map]; exact R.len
 at_:=fun k sv h=>by
  unfold popS at h;have hl:i < δ.length:=(List.getElem?_eq_some_iff.mp hδ).1
  by_cases hj:i=k
  ·subst hj;rw [List.getElem?_set_self (by rw [length_map]; exact hl)] at h
   cases h
   exact ⟨.ref a,hσ,a,xs.dropLast,rfl,dR,(Reps.lset hH hf r).dropLast,hG⟩
  ·rw [List.getElem?_set_ne hj] at h;obtain ⟨sv0,q1,q2⟩:=uD h;obtain ⟨u,e1,e2⟩:=R.at_ k sv0 q1;refine ⟨u,e1,?_⟩
   cases sv0 with
   | val d' =>
    simp only [bG] at q2
    split at q2
    ·rename_i c; cases q2; exact Rep.lset hH c e2
    ·cases q2
   | arg d'=>cases q2; exact e2
   | own es =>
    simp only [bG] at q2
    split at q2
    ·rename_i c
     cases q2
     obtain ⟨b,ys,rfl,w2,w3,w4⟩:=e2;have hb:b≠a:=fun z=>by subst z; exact R.sep i k ds es (.ref b) hj hδ q1 hσ e1
     exact ⟨b,ys,rfl,by rw [bT hb]; exact w2,Reps.lset hH c w3,w4⟩
    ·cases q2
 sep:=fun k l es fs u hjk h1 h2 h3=>by
  have get:∀(m:Nat) (gs:List D),(popS i ds δ)[m]? = some (some (.own gs))->∃gs',δ[m]? = some (some (.own gs')):=fun m gs h=>by
   unfold popS at h
   by_cases hm:i=m
   ·subst hm; exact ⟨ds,hδ⟩
   ·rw [List.getElem?_set_ne hm] at h;obtain ⟨sv0,q1,q2⟩:=uD h;obtain ⟨rfl,_⟩:=Ar q2;exact ⟨gs,q1⟩
  obtain ⟨es',g1⟩:=get k es h1;obtain ⟨fs',g2⟩:=get l fs h2;exact R.sep k l es' fs' u hjk g1 g2 h3
end
end DL
namespace DL
open PySem PySem.Spec PyProof.Rows L2
open AutoSeq1 (wpAny_loadPart')
end DL
namespace DL
open PySem PySem.Spec PyProof.Rows L2
theorem Reps.erase {K:Frag} {H:Hp} {ds:List D} {vs:List V} (h:Reps K H ds vs):∀k:Nat,Reps K H (ds.eraseIdx k) (vs.eraseIdx k):=by
 induction ds generalizing vs with
 | nil=>intro k; cases h.nil_of; simpa using Reps.nil
 | cons d ds ih =>
  intro k;obtain ⟨v,ws,rfl,a,r⟩:=h.cons_of
  cases k with
  | zero=>simpa using r
  | succ k=>simpa using Reps.cons a (ih r k)
noncomputable def dJ (j:Nat) (es:List D) (k:Nat) (δ:DS):DS:=(δ.map fun o=>o.bind bG).set j (some (.own (es.eraseIdx k)))
noncomputable def jn (es:List D) (d:D):Option (Nat×Int):=match d with
 | .int z=>if 0<=z/\z < 2 ^ 63 then (match es[z.toNat]? with | some (.int t)=>some (z.toNat,t) | _=>none) else none
 | _=>none
noncomputable def ik (i j:Nat) (fe:DS->Res D):DS->Out:=fun δ=>match δ[i]?,δ[j]? with
 | some (some (.own ds)),some (some (.own es))=>if i≠j/\aG es=true/\aG ds=true/\ds.length < sizeLine then gK (fe δ) δ fun d=>(match jn es d with
  | some kt=>.nxt (fU i ds (.int kt.2) (dJ j es kt.1 δ))
  | none=>.stuck) else .stuck
 | _,_=>.stuck
theorem PB {es:List D} {d:D} {k:Nat} {t:Int} (h:jn es d=some (k,t)):d=.int (k:Int)/\(k:Int) < 2 ^ 63/\es[k]? = some (.int t):=by
 unfold jn at h
 split at h
 ·rename_i z
  split at h
  ·rename_i c
   split at h
   ·rename_i t' e;simp only [Option.some.injEq,Prod.mk.injEq] at h;obtain ⟨rfl,rfl⟩:=h;have:((z.toNat:Nat):Int)=z:=by omega
    exact ⟨by rw [this],by omega,e⟩
   ·cases h
  ·cases h
 ·cases h
theorem RepSt.pop2 {K:Frag} {G H:Hp} {σ:St} {δ:DS} {i:Nat} {ds:List D} {a:Addr} {xs:List V} (k:Nat) (R:RepSt K G H σ δ) (hδ:δ[i]? = some (some (.own ds))) (hσ:σ[i]? = some (some (.ref a))) (hH:H a=some (.lst xs)) (r:Reps K H ds xs) (hG:G a=none) (hf:aG ds=true) :
  RepSt K G (upd H a (.lst (xs.eraseIdx k))) σ (dJ i ds k δ) where
 same:=fun b o e=>by
  have hb:b≠a:=fun z=>by subst z; rw [hG] at e; cases e
  rw [bT hb]; exact R.same b o e
 len:=by unfold dJ; rw [length_set,length_map]; exact R.len
 at_:=fun m sv h=>by
  unfold dJ at h;have hl:i < δ.length:=(List.getElem?_eq_some_iff.mp hδ).1
  by_cases hj:i=m
  ·subst hj;rw [List.getElem?_set_self (by rw [length_map]; exact hl)] at h
   cases h
   exact ⟨.ref a,hσ,a,xs.eraseIdx k,rfl,dR,(Reps.lset hH hf r).erase k,hG⟩
  ·rw [List.getElem?_set_ne hj] at h;obtain ⟨sv0,q1,q2⟩:=uD h;obtain ⟨u,e1,e2⟩:=R.at_ m sv0 q1;refine ⟨u,e1,?_⟩
   cases sv0 with
   | val d' =>
    simp only [bG] at q2
    split at q2
    ·rename_i c; cases q2; exact Rep.lset hH c e2
    ·cases q2
   | arg d'=>cases q2; exact e2
   | own es =>
    simp only [bG] at q2
    split at q2
    ·rename_i c
     cases q2
     obtain ⟨b,ys,rfl,w2,w3,w4⟩:=e2;have hb:b≠a:=fun z=>by subst z; exact R.sep i m ds es (.ref b) hj hδ q1 hσ e1
     exact ⟨b,ys,rfl,by rw [bT hb]; exact w2,Reps.lset hH c w3,w4⟩
    ·cases q2
 sep:=fun k' l es fs u hjk h1 h2 h3=>by
  have get:∀(m:Nat) (gs:List D),(dJ i ds k δ)[m]? = some (some (.own gs))->∃gs',δ[m]? = some (some (.own gs')):=fun m gs h=>by
   unfold dJ at h
   by_cases hm:i=m
   ·subst hm; exact ⟨ds,hδ⟩
   ·rw [List.getElem?_set_ne hm] at h;obtain ⟨sv0,q1,q2⟩:=uD h;obtain ⟨rfl,_⟩:=Ar q2;exact ⟨gs,q1⟩
  obtain ⟨es',g1⟩:=get k' es h1;obtain ⟨fs',g2⟩:=get l fs h2;exact R.sep k' l es' fs' u hjk g1 g2 h3
theorem rM {k n:Nat} (h:k < n):seqIndex? (k:Int) n=some k:=by
 unfold seqIndex?;have n0:¬((k:Int) < 0):=by omega
 simp [n0];omega
section
variable {X:Cx} {e:Expr} {fe:DS->Res D} {x y:Str} {pos np apos cpos np2 apos2 cpos2:Pos}
theorem PJ (i j:Nat) (he:PD X e fe) (hN:X.N[i]? = some x:=by rfl) (hv:sr X.env.scope x:=by first | exact Or.inl rfl | exact Or.inr (Or.inl rfl) | exact Or.inr (Or.inr rfl)) (hd:(x == ("__debug__" : Str))=false:=by decide)
  (hcd:(x == ("__classdict__" : Str))=false:=by decide) (hN2:X.N[j]? = some y:=by rfl) (hv2:sr X.env.scope y:=by first | exact Or.inl rfl | exact Or.inr (Or.inl rfl) | exact Or.inr (Or.inr rfl)) (hd2:(y == ("__debug__" : Str))=false:=by decide)
  (hcd2:(y == ("__classdict__" : Str))=false:=by decide) (hbase:attributeBase (.Name x np) "append" X.env (eval (.Name x np) X.env)=eval (.Name x np) X.env:=by rfl)
  (hbase2:attributeBase (.Name y np2) "pop" X.env (eval (.Name y np2) X.env)=eval (.Name y np2) X.env:=by rfl)
  (hfew:((backTo cpos (starEach [.Call (.Attribute (.Name y np2) "pop" apos2) [e] [] cpos2] X.env)).all (fun x=>!x.1) && (backToKw cpos (keywordEach [] X.env)).all (fun x=>x.1.isSome)
   && decide (([e]:List Expr).length + ([]:List Keyword).length + (if ([]:List Keyword).isEmpty then 0 else 1) < 30))=true:=by rfl)
  (hline:(apos.endLine == cpos.line)=true:=by rfl) (hse:starEach [.Call (.Attribute (.Name y np2) "pop" apos2) [e] [] cpos2] X.env=[(false,eval (.Call (.Attribute (.Name y np2) "pop" apos2) [e] [] cpos2) X.env)]:=by rfl)
  (hfew2:((backTo cpos2 (starEach [e] X.env)).all (fun x=>!x.1) && (backToKw cpos2 (keywordEach [] X.env)).all (fun x=>x.1.isSome)
   && decide (([e]:List Expr).length + ([]:List Keyword).length + (if ([]:List Keyword).isEmpty then 0 else 1) < 30))=true:=by rfl)
  (hline2:(apos2.endLine == cpos2.line)=true:=by rfl) (hse2:starEach [e] X.env=[(false,eval e X.env)]:=by rfl)
  (hw:swapsWith (.Call (.Attribute (.Name x np) "append" apos) [.Call (.Attribute (.Name y np2) "pop" apos2) [e] [] cpos2] [] cpos) none pos.line X.env=pure false:=by rfl) :
  PSD X (.Expr (.Call (.Attribute (.Name x np) "append" apos) [.Call (.Attribute (.Name y np2) "pop" apos2) [e] [] cpos2] [] cpos) pos) (ik i j fe):=by
 intro pins s σ G H δ I R hs;unfold ik at hs ⊢
 split at hs
 ·rename_i ds es hδ hδ2;have hc:i≠j/\aG es=true/\aG ds=true/\ds.length < sizeLine:=by
   by_cases c:i≠j/\aG es=true/\aG ds=true/\ds.length < sizeLine
   ·exact c
   ·rw [if_neg c] at hs; exact (hs rfl).elim
  rw [if_pos hc] at hs ⊢;obtain ⟨v,hσ,a,xs,rfl,hH,r,hG⟩:=R.at_ i _ hδ;obtain ⟨v2,hσ2,b,ys,rfl,hHb,rb,hGb⟩:=R.at_ j _ hδ2;have hab:a≠b:=fun z=>by subst z; exact R.sep i j ds es (.ref a) hc.1 hδ hδ2 hσ hσ2
  have hs':fe δ≠.stuck:=sJ hs;refine wpAny_Expr_any ?_ I.quiet hw;refine wpAny_Call_method_late hbase hfew hline rfl (wpAny_mono (vD (X:=X.wish fun _ _=>False) hN hv hd hcd (pins ++ gj X H s.heap) s σ H (fun v' H'=>v'=.ref a/\H'=H) (I.all.wish _) ⟨.ref a,hσ,rfl,rfl⟩) (fun u s1 q=>?_) fun _ _ z=>z.elim);obtain ⟨v',H',I1,r1,rfl,rfl⟩:=q;have b0:=I.backTo I1.unwish;have I1':=I1.unwish.unpinned;obtain ⟨h1,h4⟩:=Ah (T:="list") I1' r1 (.inl ⟨rfl,xs,SqL.of hH⟩)
  cases r1
  refine ⟨"list", "list.append",PySem.F.plainAttrs_list,PySem.F.slot_list_append,PySem.F.type_list_append,h1,h4,?_⟩;rw [hse];refine Calls.callWith_builtin (by rfl) (Calls.evalArgs_plain ?_);show wpAny _ _ (spliced ((false,eval (.Call (.Attribute (.Name y np2) "pop" apos2) [e] [] cpos2) X.env) :: backTo cpos [])) _ _ _;refine Calls.spliced_cons ?_;refine wpAny_Call_method_late hbase2 hfew2 hline2 rfl (wpAny_mono (vD (X:=X.wish fun _ _=>False) hN2 hv2 hd2 hcd2 (pins ++ gj X H' s1.heap) s1 σ H' (fun v' H2=>v'=.ref b/\H2=H') (I1'.all.wish _) ⟨.ref b,hσ2,rfl,rfl⟩) (fun u s2 q=>?_) fun _ _ z=>z.elim);obtain ⟨v',H2,I2,r2,rfl,rfl⟩:=q;have b1:=I1'.backTo I2.unwish;have I2':=I2.unwish.unpinned;obtain ⟨k1,k4⟩:=Ah (T:="list") I2' r2 (.inl ⟨rfl,ys,SqL.of hHb⟩)
  cases r2
  refine ⟨"list", "list.pop",PySem.F.plainAttrs_list,PySem.F.slot_list_pop,PySem.F.type_list_pop,k1,k4,?_⟩;rw [hse2];refine Calls.callWith_builtin (by rfl) (Calls.evalArgs_plain ?_);show wpAny _ _ (spliced ((false,eval e X.env) :: backTo cpos2 [])) _ _ _;refine Calls.spliced_cons (he.use I2' R hs' (fun d u s3 w H3 q I3 r3 e3 b3 p3=>?_) fun e s1 q=>((q.back (Same.refl _) b1 (r':=fe δ) fun x z=>z).back (Same.refl _) b0 (r':=fe δ) fun x z=>z).sx R fun x z=>by rw [z]; rfl);refine wpAny_pure ?_;have ev:(gK (fe δ) δ fun d=>(match jn es d with | some kt=>Out.nxt (fU i ds (.int kt.2) (dJ j es kt.1 δ)) | none=>.stuck))=(match jn es d with | some kt=>Out.nxt (fU i ds (.int kt.2) (dJ j es kt.1 δ)) | none=>.stuck):=by rw [q]; rfl
  rw [ev] at hs ⊢
  cases hk:jn es d with
  | none=>rw [hk] at hs; exact (hs rfl).elim
  | some kt =>
   obtain ⟨k,t⟩:=kt;dsimp only;obtain ⟨rfl,k63,ht⟩:=PB hk
   cases cC p3
   obtain ⟨yv,hy,py⟩:=rb.get ht
   cases cC py
   have hHb3:=e3 b _ hHb;have hH3:=e3 a _ hH;have kl:k < ys.length:=(List.getElem?_eq_some_iff.mp hy).1;refine wpAny_mono (Mi (X:=X.wish fun _ _=>False) pins s3 σ H3 (.ref b) [.int (k:Int)] (.ref b) [u] (fun y' H4=>y'=.int t/\H4=upd H3 b (.lst (ys.eraseIdx k))) (I3.wish _) rfl (.cons r3 .nil) ⟨b,ys,(k:Int),k,.int t,rfl,rfl,hHb3,by omega,k63,rM kl,hy,rfl,rfl⟩) (fun v s4 q4=>?_) fun _ _ z=>z.elim;obtain ⟨z4,H4,I4,r4,rfl,rfl⟩:=q4;refine wpAny_pure ?_;have hH4:upd H3 b (.lst (ys.eraseIdx k)) a=some (.lst xs):=by rw [bT hab]; exact hH3
   have rr:=r.mono e3;have rr4:Reps X.K (upd H3 b (.lst (ys.eraseIdx k))) ds xs:=Reps.lset hHb3 hc.2.2.1 rr;have R4:=RepSt.pop2 k (R.mono e3) hδ2 hσ2 hHb3 (rb.mono e3) hGb hc.2.1;have hδ4:(dJ j es k δ)[i]? = some (some (.own ds)):=by
    unfold dJ;rw [List.getElem?_set_ne (Ne.symm hc.1),List.getElem?_map,hδ];simp only [Option.map_some,Option.bind_some,bG,hc.2.2.1,↓reduceIte]
   refine wpAny_mono (Gu (X:=X.wish fun _ _=>False) pins s4 σ _ (.ref a) [.int t] (.ref a) [v] (fun _ H5=>H5=upd (upd H3 b (.lst (ys.eraseIdx k))) a (.lst (xs ++ [.int t]))) I4 rfl (.cons r4 .nil) ⟨a,xs,.int t,rfl,rfl,hH4,by rw [r.length]; exact hc.2.2.2,rfl⟩) (fun v5 s5 q5=>?_) fun _ _ z=>z.elim;obtain ⟨z5,H5,I5,r5,rfl⟩:=q5;refine ⟨_,σ,_,rfl,I5.unwish,⟨fun c ys' h=>?_,fun c o u h=>?_,fun c h=>?_⟩,R4.app hδ4 hσ hH4 rr4 hG hc.2.2.1 rfl gQ⟩
   ·have hb1:c≠a:=fun z=>by subst z; rw [hH] at h; cases h
    have hb2:c≠b:=fun z=>by subst z; rw [hHb] at h; cases h
    rw [bT hb1,bT hb2]; exact e3 c _ h
   ·have hb1:c≠a:=fun z=>by subst z; rw [hH] at h; cases h
    have hb2:c≠b:=fun z=>by subst z; rw [hHb] at h; cases h
    rw [bT hb1,bT hb2]; exact e3 c _ h
   ·by_cases hb1:c=a
    ·subst hb1; rw [dR] at h; cases h
    ·rw [bT hb1] at h
     by_cases hb2:c=b
     ·subst hb2; rw [dR] at h; cases h
     ·rw [bT hb2] at h; exact e3.free h
 ·exact (hs rfl).elim
end
noncomputable def vR:D->Res D
 | .int k=>if 0<=k/\k<=3 then .ok (.int k) else .stuck
 | _=>.stuck
noncomputable def lJ (f:DS->Res D):DS->Res D:=fun δ=>(f δ).bind vR
abbrev uY:V->Prop:=fun v=>∃k:Int,v=.int k/\0<=k/\k<=3
theorem HQ {d r:D} (h:vR d=.ok r):∃k:Int,d=.int k/\r=.int k/\0<=k/\k<=3:=by
 unfold vR at h
 split at h
 ·split at h
  ·rename_i c; cases h; exact ⟨_,rfl,rfl,c⟩
  ·cases h
 ·cases h
theorem PK {X:Cx} {e:Expr} {f:DS->Res D} (he:PD X e f):PD X e (lJ f):=by
 intro pins s σ G H δ I R hs;unfold lJ at hs ⊢;refine he.use I R (dY hs) (fun d u s1 v H1 q I1 r1 e1 b1 p1=>?_) fun e s1 q=>q.same fun x z=>fL z;have h2:=fY hs q
 cases hg:vR d with
 | ok r =>
  obtain ⟨k,rfl,rfl,_⟩:=HQ hg;exact ⟨_,v,H1,by rw [q,Res.bind_ok,hg],I1,r1,e1,p1⟩
 | err x =>
  unfold vR at hg
  split at hg
  ·split at hg <;> cases hg
  ·cases hg
 | stuck=>exact (h2 hg).elim
theorem PL {K:Frag} {f:DS->Res D} (δ:DS) (d:D) (H:Hp) (v:V) (h:lJ f δ=.ok d) (p:Rep K H d v):uY v:=by
 unfold lJ at h
 cases q:f δ with
 | ok x =>
  rw [q,Res.bind_ok] at h;obtain ⟨k,_,rfl,c⟩:=HQ h
  cases cC p
  exact ⟨k,rfl,c⟩
 | err x=>rw [q] at h; cases h
 | stuck=>rw [q] at h; cases h
theorem PN {X:Cx} {e:Expr} {te:TE} {c:Str} {j} {p1 p2 pos:Pos} (he:PE X e te) (hz:(Str.empty ++ c).length<=1000:=by decide +kernel):PE X (.JoinedStr [.Constant (.str c) j p1,.FormattedValue e (-1) none p2] pos) (fun σ H Q=>te σ H fun v H1=>uY v/\∀x,Q (.str x) H1):=by
 intro pins s σ H Q I h;refine wpAny_JoinedStr ?_;refine Calls.Constant_str ⟨c,_,rfl,Nat.le_trans hz (by decide),?_⟩;refine wpAny_FormattedValue_plain (wpAny_mono (he pins _ σ H _ (I.tok _) h) (fun v s1 q=>?_) fun _ _ z=>z);obtain ⟨v',H1,I1,r1,⟨k,rfl,k0,k3⟩,hq⟩:=q;obtain ⟨t,rfl⟩:=r1;have hk:k=0\/k=1\/k=2\/k=3:=by omega
 have ln:((Str.empty ++ c) ++ (toString k:Str)).length<=sizeLine:=by
  have l2:((toString k:Str)).length<=1000:=by rcases hk with q | q | q | q <;> subst q <;> decide +kernel
  rw [show ((Str.empty ++ c) ++ (toString k:Str)).length=(Str.empty ++ c).length + ((toString k:Str)).length from Array.size_append ..]
  exact Nat.le_trans (Nat.add_le_add hz l2) (by decide)
 refine wpAny_formatField_int (by rcases hk with q | q | q | q <;> subst q <;> decide +kernel) ⟨_,_,rfl,ln,ln,?_⟩
 exact ⟨.str _,H1,((I1.tok _).tok _),⟨_,rfl⟩,hq _⟩
noncomputable def mW:List D->Res D
 | [.lst ds]=>match intsOf ds with | some ns=>if 0 < ns.length then .ok (.int (O6 ns)) else .stuck | none=>.stuck
 | x=>nY x
theorem PQ (ds:List D):aM (mW ds):=by
 unfold mW
 split
 ·split
  ·exact kJ dD cZ
  ·exact cZ
 ·exact Oz _
theorem PX {X:Cx} (hcalm:X.calm=true):CallD X (.builtin "min") mW:=by
 intro E pins s σ H xs us ds d I r p e;unfold mW at e
 split at e
 ·rename_i es
  split at e
  ·rename_i ns hb
   split at e
   ·rename_i hpos
    cases e
    obtain ⟨v,vs,rfl,p1,t⟩:=p.cons_of
    cases t.nil_of
    obtain ⟨u,rfl,rx⟩:=vals1 r;obtain ⟨a,ys,rfl,hq,rs⟩:=d_ p1
    cases rx
    obtain ⟨its,rv,pl,hz⟩:=I.list hq;rw [Aw hb] at rs;refine call_min_walk (wpAny_pyIter_list pl.isList ?_);obtain ⟨o,g,oc⟩:=id pl.isList;have hax:a≠s.heap.objs.size:=Nat.ne_of_lt (Heap.lt_size g);have hn:its.toArray.size=ns.length:=by rw [size_toArray,<- rv.length,rs.length,length_map]
    refine ⟨_,_,_,_,_,_,_,rfl,Walks.list (A:=X.A.in1) (show X.A.in1.handled=none from I.ok.hd hcalm) s.heap.objs.size a hax its.toArray,⟨⟨_,Heap.get?_push_size _ rfl,rfl,rfl⟩,⟨o,Heap.get?_push_of_some _ g,oc⟩⟩,fun b hb=>?_,by rw [hn]; exact hpos,CmpOf.ints_lt (fun i=>ns.getD i 0) (fun i v hP=>fR' rs rv (i:=i) (v:=v) (by simpa using hP)),fun v h' tk hP hk=>?_⟩
    ·show b < (s.heap.push _).objs.size;rw [Heap.size_push];rcases mem_cons.mp hb with z | z
     ·rw [z]; exact Nat.lt_succ_self _
     ·rw [mem_singleton.mp z]; exact Nat.lt_succ_of_lt (Heap.lt_size g)
    ·rw [hn] at hP;obtain ⟨tk',rfl⟩:=fR' rs rv (v:=v) (by simpa using hP);have k:∀b o,s.heap.get? b=some o->h'.get? b=some o:=fun b o e=>hk b o (by
      intro z;have:b=s.heap.objs.size:=by simpa using z
      exact absurd (Heap.lt_size e) (by rw [this]; exact Nat.lt_irrefl _)) (Heap.get?_push_of_some _ e)
     exact ⟨_,.int _,H,rfl,I.kept (t':=tk) k,⟨_,rfl⟩,Same.refl H,gQ⟩
   ·cases e
  ·cases e
 ·exact OD hcalm E pins s σ H xs us ds d I r p e
noncomputable def Al (X:Cx) (G:Hp) (x:Exn):Prop:=∀(pins:List (Addr×Obj)) (σ:St) (H:Hp) (s2:Shared) (δ':DS) (e:Value) (s1:Shared),Same G H->Inv X pins σ H s2->SX X pins G H s2.heap (.err x δ') e s1->X.xe e s1
noncomputable def NOX (X:Cx) (G H:Hp) (o:Out) (E:Ends):Prop:=match o with
 | .err x _=>Al X G x
 | o=>NOut X G H o E
noncomputable def sX (X:Cx) (f:DS->Out):TS:=fun E σ H=>∃G δ,RepSt X.K G H σ δ/\NOX X G H (f δ) E
theorem NOX.tk {X:Cx} {G H H1:Hp} {o:Out} {E:Ends} (h:NOX X G H o E) (t:TK H H1):NOX X G H1 o E:=by
 cases o with
 | stuck=>exact h
 | nxt δ=>exact fun σ' H' t' r=>h σ' H' (t.trans t') r
 | ret d=>exact fun v H' t' r=>h v H' (t.trans t') r
 | brk δ=>exact fun σ' H' t' r=>h σ' H' (t.trans t') r
 | cnt δ=>exact fun σ' H' t' r=>h σ' H' (t.trans t') r
 | err x δ=>exact h
section
variable {X:Cx} {G H:Hp} {E:Ends} {st:Stmt} {rest:List Stmt} {f g:DS->Out}
theorem HR {o:Out} {fl:Flow} {pins:List (Addr×Obj)} {s1:Shared} (n:NOX X G H o E) (p:SPost X pins G H o fl s1):SP X pins E fl s1:=by
 cases fl with
 | next=>obtain ⟨δ',σ',H',rfl,q2,q3,q4⟩:=p; exact ⟨σ',H',q2,n σ' H' q3 q4⟩
 | brk=>obtain ⟨δ',σ',H',rfl,q2,q3,q4⟩:=p; exact ⟨σ',H',q2,n σ' H' q3 q4⟩
 | cont=>obtain ⟨δ',σ',H',rfl,q2,q3,q4⟩:=p; exact ⟨σ',H',q2,n σ' H' q3 q4⟩
 | ret u=>obtain ⟨d,v,σ',H',rfl,q2,q3,q4,q5,q6⟩:=p; exact ⟨v,σ',H',q2,q5,n v H' q3 q4 q6⟩
theorem kE' {o:Out} (n:NOX X G H o E):o≠.stuck:=fun z=>by rw [z] at n; exact n
theorem kF' {o:Out} {pins:List (Addr×Obj)} {σ:St} {s:Shared} {e:Value} {s1:Shared} (hG:Same G H) (I:Inv X pins σ H s) (n:NOX X G H o E) (p:SX X pins G H s.heap o e s1):X.xe e s1:=by
 obtain ⟨x,δ',a,C,σ',H',rfl,q⟩:=p;exact n pins σ H s δ' e s1 hG I ⟨x,δ',a,C,σ',H',rfl,q⟩
theorem PSDs.psx (h:PSDs X rest f):PSs X rest (sX X f):=by
 intro pins s σ H E I ⟨G,δ,R,n⟩;exact wpAny_mono (h pins s σ G H δ I R (kE' n)) (fun fl s1 p=>HR n p) fun e s1 p=>kF' R.same I n p
theorem PSD.psx (h:PSD X st f):PS X st (sX X f):=by
 intro pins s σ H E I ⟨G,δ,R,n⟩;exact wpAny_mono (h pins s σ G H δ I R (kE' n)) (fun fl s1 p=>HR n p) fun e s1 p=>kF' R.same I n p
theorem HS (h1:PS X st (sX X f)) (h2:PSs X rest (sX X g)):PSs X (st :: rest) (sX X (aA f g)):=by
 intro pins s σ H D I ⟨G,δ,R,n⟩;refine FT h1 h2 pins s σ H D I ⟨G,δ,R,?_⟩;have e:aA f g δ=(match f δ with | .nxt δ'=>g δ' | o=>o):=rfl
 rw [e] at n
 cases q:f δ with
 | nxt δ'=>rw [q] at n; exact fun σ' H' t r=>⟨G,δ',r,NOX.tk n t⟩
 | stuck=>rw [q] at n; exact n
 | ret d=>rw [q] at n; exact n
 | brk δ'=>rw [q] at n; exact n
 | cnt δ'=>rw [q] at n; exact n
 | err x δ'=>rw [q] at n; exact n
theorem nx' (h1:PS X st (sX X f)):PSs X [st] (sX X f):=hv' h1
end
noncomputable def fG (t:du) (b:DS->Out):List D->DS->Out
 | [],δ=>.nxt δ
 | d :: ds,δ=>match t d δ with
  | none=>.stuck
  | some δ1=>match b δ1 with
   | .nxt δ'=>fG t b ds δ'
   | .cnt δ'=>fG t b ds δ'
   | .brk δ'=>.nxt δ'
   | .ret d=>.ret d
   | .err x δ'=>.err x δ'
   | .stuck=>.stuck
noncomputable def jV (r:List D->Res (List D)) (t:du) (a:DS->Res (List D)) (b:DS->Out):DS->Out:=fun δ=>ux ((a δ).bind r) fun ds=>fG t b ds δ
section
variable {X:Cx} {tg iter:Expr} {body:List Stmt} {t:du} {fb:DS->Out} {pos:Pos} {G H:Hp} {E:Ends}
theorem PGD.pgx (h:PGD X tg t):PG X tg (gD X t):=by
 intro pins s σ H v u Q I r hq;obtain ⟨G,δ,d,δ',R,p,e,q⟩:=hq;exact eX (h _ pins s σ G H δ δ' d v u I r R p e) fun _ s1 ⟨σ',I',R'⟩=>⟨σ',H,I',q σ' R'⟩
theorem PAD.pax {es:List Expr} {fs:DS->Res (List D)} (h:PAD X es fs):PA X es (fun σ H Q=>∃G δ ds,RepSt X.K G H σ δ/\fs δ=.ok ds/\∀vs H',Same H H'->Reps X.K H' ds vs->Q vs H'):=by
 intro pos pins s σ H Q I ⟨G,δ,d,R,q,n⟩;refine wpAny_mono (h pos pins s σ G H δ I R (by rw [q]; intro z; cases z)) (fun b s1 ⟨d',v,H1,q1,I1,r1,e1,p1⟩=>?_) fun e s1 p=>?_
 ·rw [q] at q1; cases q1;exact ⟨v,H1,I1,r1,n v H1 e1 p1⟩
 ·rw [q] at p; exact p.none.elim
theorem P0 {ds:List D} {d:D} {δ:DS} {v:V} {σ:St} {N:St->Hp->Prop} (R:RepSt X.K G H σ δ) (p:Rep X.K H d v) (h:NOX X G H (fG t fb (d :: ds) δ) E)
  (hN:∀δ' σ' H',TK H H'->RepSt X.K G H' σ' δ'->NOX X G H' (fG t fb ds δ') E->N σ' H'):gD X t v σ H fun σ2 H2=>sX X fb { E with nx:=N,ct:=N,bk:=E.nx } σ2 H2:=by
 rw [fG] at h
 cases z:t d δ with
 | none=>rw [z] at h; exact h.elim
 | some δ1 =>
  rw [z] at h;refine ⟨G,δ,d,δ1,R,p,z,fun σ' R'=>⟨G,δ1,R',?_⟩⟩;simp only at h
  cases q:fb δ1 with
  | stuck=>rw [q] at h; exact h
  | err x δ'=>rw [q] at h; exact h
  | nxt δ'=>rw [q] at h; exact fun σ2 H2 t2 r2=>hN δ' σ2 H2 t2 r2 (NOX.tk h t2)
  | cnt δ'=>rw [q] at h; exact fun σ2 H2 t2 r2=>hN δ' σ2 H2 t2 r2 (NOX.tk h t2)
  | brk δ'=>rw [q] at h; exact fun σ2 H2 t2 r2=>h σ2 H2 t2 r2
  | ret d=>rw [q] at h; exact fun v H2 t2 g r2=>h v H2 t2 g r2
theorem P_ {lo:Int} {n:Nat} {δ:DS} {σ:St} (R:RepSt X.K G H σ δ) (h:NOX X G H (fG t fb (bQ lo n) δ) E) :
  ∃W:Nat->Nat->St->Hp->Prop,(∃m,W 0 m σ H)/\∀i m σ H,W i m σ H ->
   ((kW lo n).stop i H/\E.nx σ H)\/((kW lo n).go i H/\∃N:St->Hp->Prop,(∀σ' H',N σ' H'->∃m',m' < m/\W (i + 1) m' σ' H')/\∀x H',(kW lo n).yld i H x H'->gD X t x σ H' fun σ2 H2=>sX X fb { E with nx:=N,ct:=N,bk:=E.nx } σ2 H2):=by
 refine Gb (fun i σ' H'=>∃δ',RepSt X.K G H' σ' δ'/\NOX X G H' (fG t fb ((bQ lo n).drop i) δ') E) ⟨δ,R,by simpa using h⟩ ?_ ?_
 ·rintro i σ1 H1 hi ⟨δ1,R1,h1⟩
  rw [CJ lo n i hi] at h1;exact P0 R1 gQ h1 fun δ' σ' H' _ r z=>⟨δ',r,z⟩
 ·rintro σ1 H1 ⟨δ1,R1,h1⟩
  rw [drop_eq_nil_of_le (by rw [An]; exact Nat.le_refl _)] at h1;exact h1 σ1 H1 (TK.refl H1) R1
theorem Qa {a:Expr} {fa:DS->Res (List D)} {p ps:Pos} (hp:PassesOwn (model X.prog X.w) X.A X.env X.xe) (hc:X.calm=true) (hgl:Gl X "range") (hm:X.mg "range" = none) (ha:PAD X [a] fa) (hg:PGD X tg t) (hb:PSDs X body fb)
  (hs:starEach [a] X.env=[(false,eval a X.env)]:=by rfl) (hf:∀x,foldedSetIterable (.Call (.Name "range" p) [a] [] ps) X.env x=pure x:=by intro _; rfl) :
  PS X (.For tg (.Call (.Name "range" p) [a] [] ps) body [] pos) (sX X (jV dh t fa fb)):=by
 intro pins s σ H E I ⟨G,δ,R,h⟩;refine hB' hp hc (Ga hgl hm ha.pax hs) hg.pgx hb.psx hf pins s σ H E I ?_;unfold jV at h
 cases q:fa δ with
 | stuck=>simp only [q] at h; exact h.elim
 | err x=>simp only [q] at h; exact h.elim
 | ok ds =>
  simp only [q,Res.bind_ok] at h;refine ⟨G,δ,ds,R,q,fun vs H1 e1 p1=>?_⟩;unfold dh at h
  split at h
  ·rename_i j;obtain ⟨v,ws,rfl,w1,w2⟩:=p1.cons_of
   cases w2.nil_of
   cases cC w1
   split at h
   ·rename_i hj;exact ⟨j,rfl,hj.1,hj.2,P_ (R.mono e1) (NOX.tk h e1.tk)⟩
   ·exact h.elim
  ·exact h.elim
end
section
variable {P:Program} {w:World} {K:Frag} {mg:Str->Option Value} {base:Heap}
theorem Qc {x qual:Str} {st:Stmt} {f:Addr} {fd:FuncData} {N ps:List Str} {k:Nat} {body:DS->Out} (F:Fun K x qual st f fd) (S:FnScope N ps (aq st))
  (hb:∀(cdv:Value) (A:Around) (outer:List Env) (s:Shared) (H:Hp) (E:XK),Room k (A.deeper (envOfC qual (aq st) s.heap.objs.size f cdv))->PSs (dW (gW P w) P w K mg base N qual (aq st) f cdv A outer s H E) (aV st) (sX (dW (gW P w) P w K mg base N qual (aq st) f cdv A outer s H E) body)) :
  FnOk P w K mg base (gW P w) (k + 1) f fd ps (rJ K (bF ps.length N.length body)):=by
 obtain ⟨oc,od,kV,doc,pm,an,cdv,ct,osl,rfl,lk,hcd⟩:=F.ex;refine Ag lk hcd S (fun vs H Q E ⟨ds,r,h⟩=>?_) fun A outer s H vs Q E hr hsp=>?_
 ·rw [r.length];unfold bF at h
  by_cases c:ds.length=ps.length
  ·exact c
  ·rw [if_neg c] at h; exact h.elim
 ·obtain ⟨ds,r,h⟩:=hsp;have c:ds.length=ps.length:=by
   unfold bF at h
   by_cases c:ds.length=ps.length
   ·exact c
   ·rw [if_neg c] at h; exact h.elim
  have ev:bF ps.length N.length body ds=outD (body (dj ds.length N.length ds)):=by unfold bF; rw [if_pos c,c]
  rw [ev] at h;refine ⟨_,hb cdv A outer s H E hr,H,dj ds.length N.length ds,G7 N r,?_⟩
  cases q:body (dj ds.length N.length ds) with
  | stuck=>rw [q] at h; exact h
  | nxt δ'=>rw [q] at h; exact fun σ' H' t r=>h .non H' r.same GC
  | ret d=>rw [q] at h; exact fun v H' t g p=>h v H' g p
  | brk δ'=>rw [q] at h; exact h.elim
  | cnt δ'=>rw [q] at h; exact h.elim
  | err x δ' =>
   rw [q] at h;intro pins σ2 H2 s2 δ2 e s1 hG I p;obtain ⟨x',δ',a,C,σ',H',q1,rfl,q3,q4,q5,q6,dd,pay,q7⟩:=p
   cases q1
   refine ey' q3 ?_ (h C H' dd q6 q5.same pay);refine q7.back (h0:=s.heap) (H0:=H2) (H1:=H2) (TK.refl H2) q4 fun e n z o vs ho hd=>?_
   by_cases hf:e∈frs outer
   ·obtain ⟨_,o',ho',hd'⟩:=I.ok.funs.mem hf;have ho2:s.heap.get? e=some o':=ho';rw [ho] at ho2
    cases ho2
    exact hd' vs hd
   ·have n0:H e=none:=by
     cases qe:H e with
     | none=>rfl
     | some o'=>rw [hG e o' qe] at n; cases n
    exact z o vs (I.base.keep e o ho n0 hf (by intro z; exact absurd z (by show e∉([]:List Addr); simp))) hd
end
theorem fnX (P:Program) (w:World) {K:Frag} {mg:Str->Option Value} (base:Heap) {x:Str} {st:Stmt} {N ps:List Str} (k:Nat) (body:DS->Out) (F:Ent K mg x st ps) (S:FnScope N ps (aq st))
  (hb:∀(f:Addr) (cdv:Value) (A:Around) (outer:List Env) (s:Shared) (H:Hp) (E:XK),Room k (A.deeper (envOfC x (aq st) s.heap.objs.size f cdv))->PSs (dW (gW P w) P w K mg base N x (aq st) f cdv A outer s H E) (aV st) (sX (dW (gW P w) P w K mg base N x (aq st) f cdv A outer s H E) body)) :
  aP P w K mg base (k + 1) x (bF ps.length N.length body):=by
 obtain ⟨f,fd,m,F,B⟩:=F;exact ⟨f,fd,ps,Qc F S (hb f),m,F.kp,B⟩
end DL
namespace Mine
noncomputable def nH:Nat->Nat
 | 0=>0
 | n + 1=>if (nH n + 1) * (nH n + 1)<=n + 1 then nH n + 1 else nH n
theorem Qd (n:Nat):nH n * nH n<=n/\n < (nH n + 1) * (nH n + 1):=by
 induction n with
 | zero=>exact ⟨Nat.le_refl 0,by decide⟩
 | succ n ih =>
  obtain ⟨lo,hi⟩:=ih;rw [nH];generalize nH n=k at *
  by_cases h:(k + 1) * (k + 1)<=n + 1
  ·rw [if_pos h];refine ⟨h,?_⟩;have e:(k + 1 + 1) * (k + 1 + 1)=(k + 1) * (k + 1) + 2 * k + 3:=by
    rw [Nat.add_mul,Nat.mul_add (k + 1) (k + 1) 1]; omega
   omega
  ·rw [if_neg h];omega
noncomputable def bN (n:Int):Int:=(nH n.toNat:Nat)
theorem bs' (n:Int):0<=bN n:=Int.natCast_nonneg _
theorem xx {n:Int} (h:0<=n):bN n * bN n<=n/\n < (bN n + 1) * (bN n + 1):=by
 obtain ⟨a,b⟩:=Qd n.toNat;unfold bN;generalize nH n.toNat=k at *;have e:((k:Int) * k)=((k * k:Nat):Int):=by simp
 have e2:(((k:Int) + 1) * ((k:Int) + 1))=(((k + 1) * (k + 1):Nat):Int):=by simp
 rw [e,e2];omega
theorem HW {a b:Int} (hb:0<=b) (h:a * a < (b + 1) * (b + 1)):a<=b:=by
 by_cases c:a<=b
 ·exact c
 ·have p:b + 1<=a:=by omega
  have q:=Int.mul_le_mul p p (by omega) (by omega);omega
theorem xF (n:Int):Int.fdiv n 2=n / 2:=Int.fdiv_eq_ediv_of_nonneg n (by decide)
theorem Qe {n g:Int} (hn:0<=n) (hg:bN n<=g) (h:n < g * g) (g0:0<=g) :
  bN n<=Int.fdiv (g + Int.fdiv n g) 2/\0<=Int.fdiv (g + Int.fdiv n g) 2/\Int.fdiv (g + Int.fdiv n g) 2 < g/\0 < g:=by
 have gp:0 < g:=by
  rcases Int.lt_or_eq_of_le g0 with c | c
  ·exact c
  ·rw [<- c] at h; omega
 obtain ⟨a,_⟩:=xx hn;have r0:=bs' n;rw [xF,Int.fdiv_eq_ediv_of_nonneg n g0];generalize bN n=r at *;have q1:n / g < g:=Int.ediv_lt_of_lt_mul gp h;have q0:0<=n / g:=Int.ediv_nonneg hn g0;have sq:0<=(g - r) * (g - r):=Int.mul_nonneg (by omega) (by omega);have ex:(g - r) * (g - r)=g * g - 2 * (g * r) + r * r:=by
  rw [Int.sub_mul,Int.mul_sub,Int.mul_sub,Int.mul_comm r g]; omega
 have jc:(2 * r - g) * g=2 * (g * r) - g * g:=by
  rw [Int.sub_mul,Int.mul_assoc,Int.mul_comm r g]
 have q2:2 * r - g<=n / g:=(Int.le_ediv_iff_mul_le gp).mpr (by omega);omega
theorem Qf {n g:Int} (hn:0<=n) (hg:bN n<=g) (h:¬n < g * g) (g0:0<=g):g=bN n:=by
 obtain ⟨_,b⟩:=xx hn;have:=HW (bs' n) (Int.lt_of_le_of_lt (by omega:g * g<=n) b);omega
noncomputable def cm (a b:Int):Int:=(Int.gcd a b:Nat)
theorem Qg {a b:Int} (ha:0<=a) (hb:0<=b):cm b (Int.fmod a b)=cm a b:=by
 unfold cm;rw [Int.fmod_eq_emod_of_nonneg a hb]
 congr 1
 obtain ⟨x,rfl⟩:=Int.eq_ofNat_of_zero_le ha;obtain ⟨y,rfl⟩:=Int.eq_ofNat_of_zero_le hb;rw [<- Int.natCast_emod];simp only [Int.gcd,Int.natAbs_natCast];rw [Nat.gcd_comm y (x % y),<- Nat.gcd_rec,Nat.gcd_comm]
theorem Qh {a:Int} (ha:0<=a):cm a 0=a:=by
 unfold cm; rw [Int.gcd_zero_right]; omega
theorem Qi (a b:Int):cm (a.natAbs:Int) (b.natAbs:Int)=cm a b:=by
 unfold cm; simp [Int.gcd]
end Mine
namespace DL
open PySem PySem.Spec PyProof.Rows L2
theorem ap_seq (a b:DS->Out) (δ:DS):aA a b δ=(a δ).seq b:=Eq.trans rfl rfl
theorem bnd_ok {α β:Type} (a:α) (f:α->Res β):(Res.ok a).bind f=f a:=Eq.trans rfl rfl
theorem bnd_err {α β:Type} (x:Exn) (f:α->Res β):(Res.err x:Res α).bind f=.err x:=Eq.trans rfl rfl
theorem sq_nxt (δ:DS) (g:DS->Out):(Out.nxt δ).seq g=g δ:=Eq.trans rfl rfl
theorem sq_ret (d:D) (g:DS->Out):(Out.ret d).seq g=.ret d:=Eq.trans rfl rfl
theorem sq_err (x:Exn) (δ:DS) (g:DS->Out):(Out.err x δ).seq g=.err x δ:=Eq.trans rfl rfl
theorem ap_set (i:Nat) (f:DS->Res D) (δ:DS):aB i f δ=gK (f δ) δ fun d=>.nxt (δ.set i (some (.val d))):=Eq.trans rfl rfl
theorem on_ok (d:D) (δ:DS) (k:D->Out):gK (.ok d) δ k=k d:=Eq.trans rfl rfl
theorem on_err (x:Exn) (δ:DS) (k:D->Out):gK (.err x) δ k=.err x δ:=Eq.trans rfl rfl
theorem ont_ok (c:Bool) (δ:DS) (k:Bool->Out):uU (.ok c) δ k=k c:=Eq.trans rfl rfl
theorem onl_ok (ds:List D) (k:List D->Out):ux (.ok ds) k=k ds:=Eq.trans rfl rfl
theorem ap_if (t:DS->Res Bool) (a b:DS->Out) (δ:DS):cP t a b δ=uU (t δ) δ fun k=>if k=true then a δ else b δ:=Eq.trans rfl rfl
theorem ap_two (fa fb:DS->Res D) (g:D->D->Res D) (δ:DS):two fa fb g δ=(fa δ).bind fun x=>(fb δ).bind fun y=>g x y:=Eq.trans rfl rfl
theorem ap_bF {α:Type} (f:DS->Res α) (g:α->Res D) (δ:DS):ao f g δ=(f δ).bind g:=Eq.trans rfl rfl
theorem ap_bT (f:DS->Res D) (g:D->Res Bool) (δ:DS):aL f g δ=(f δ).bind g:=Eq.trans rfl rfl
theorem ap_bL (f:DS->Res D) (g:D->Res (List D)) (δ:DS):bindL f g δ=(f δ).bind g:=Eq.trans rfl rfl
theorem ap_cons (f:DS->Res D) (fs:DS->Res (List D)) (δ:DS):ak f fs δ=(f δ).bind fun d=>(fs δ).bind fun ds=>.ok (d :: ds):=Eq.trans rfl rfl
theorem ap_tup (f:DS->Res (List D)) (δ:DS):bR f δ=jN (f δ):=Eq.trans rfl rfl
theorem ap_lst (f:DS->Res (List D)) (δ:DS):gZ f δ=fj (f δ):=Eq.trans rfl rfl
theorem ap_ret (f:DS->Res D) (δ:DS):aJ f δ=gK (f δ) δ Out.ret:=Eq.trans rfl rfl
theorem ap_expr (f:DS->Res D) (δ:DS):mq f δ=gK (f δ) δ fun _=>.nxt δ:=Eq.trans rfl rfl
theorem ap_neg (f:DS->Res D) (δ:DS):gP f δ=(f δ).bind mV:=Eq.trans rfl rfl
theorem neg_ok (i:Int):mV (.int i)=.ok (.int (-i)):=Eq.trans rfl rfl
theorem ap_notT (f:DS->Res Bool) (δ:DS):sO f δ=(f δ).bind fun c=>.ok (!c):=Eq.trans rfl rfl
theorem ap_andT (f g:DS->Res Bool) (δ:DS):nQ f g δ=(f δ).bind fun c=>if c=true then g δ else .ok false:=Eq.trans rfl rfl
theorem ap_orT (f g:DS->Res Bool) (δ:DS):uQ f g δ=(f δ).bind fun c=>if c=true then .ok true else g δ:=Eq.trans rfl rfl
theorem ap_ifD (t:DS->Res Bool) (f g:DS->Res D) (δ:DS):vJ t f g δ=(t δ).bind fun c=>if c=true then f δ else g δ:=Eq.trans rfl rfl
theorem ap_for (t:du) (fi:DS->Res (List D)) (b:DS->Out) (δ:DS):lD t fi b δ=ux (fi δ) fun ds=>fZ (cI t b ds (thaw δ)):=Eq.trans rfl rfl
theorem ap_forR (r:List D->Res (List D)) (t:du) (a:DS->Res (List D)) (b:DS->Out) (δ:DS):forR r t a b δ=ux ((a δ).bind r) fun ds=>cI t b ds δ:=Eq.trans rfl rfl
theorem ap_slice (fe:DS->Res D) (fl fu:DS->Res (Option Int)) (δ:DS):bj fe fl fu δ=(fe δ).bind fun d=>(fl δ).bind fun l=>(fu δ).bind fun u=>cutD d l u:=Eq.trans rfl rfl
theorem ap_part (f:DS->Res D) (δ:DS):bM f δ=(f δ).bind nU:=Eq.trans rfl rfl
theorem ap_noPart (δ:DS):bK δ=.ok none:=Eq.trans rfl rfl
theorem part_int (i:Int):nU (.int i)=.ok (some i):=Eq.trans rfl rfl
theorem out_ret (d:D):outD (.ret d)=.ok d:=Eq.trans rfl rfl
theorem out_err (x:Exn) (δ:DS):outD (.err x δ)=.err x:=Eq.trans rfl rfl
theorem cmp_ok (p:Int->Int->Bool) (i j:Int):dZ p (.int i) (.int j)=.ok (.bl (p i j)):=Eq.trans rfl rfl
theorem add_ok (i j:Int):aN (.int i) (.int j)=.ok (.int (i + j)):=Eq.trans rfl rfl
theorem sub_ok (i j:Int):fM (.int i) (.int j)=.ok (.int (i - j)):=Eq.trans rfl rfl
theorem bool_ok (b:Bool):aK (.bl b)=.ok b:=Eq.trans rfl rfl
theorem truth_bl (b:Bool):cU (.bl b)=.ok b:=Eq.trans rfl rfl
theorem abs_ok (i:Int):jO [.int i]=.ok (.int (i.natAbs:Nat)):=by
 show Res.ok (D.int _)=_
 congr 2
 split <;> omega
theorem len_tup (ds:List D):cF [.tup ds]=.ok (.int ds.length):=Eq.trans rfl rfl
theorem len_lst (ds:List D):cF [.lst ds]=.ok (.int ds.length):=Eq.trans rfl rfl
theorem tuple_lst (ds:List D):cN [.lst ds]=.ok (.tup ds):=Eq.trans rfl rfl
theorem seq_tup (ds:List D):a_ (.tup ds)=.ok ds:=Eq.trans rfl rfl
theorem seq_lst (ds:List D):a_ (.lst ds)=.ok ds:=Eq.trans rfl rfl
theorem vw_val (d:D):SV.view (.val d)=d:=Eq.trans rfl rfl
theorem vw_arg (d:D):SV.view (.arg d)=d:=Eq.trans rfl rfl
theorem eqI (a b:Int):gO (.int a) (.int b)=.ok (.bl (decide (a=b))):=Eq.trans rfl rfl
theorem neI (a b:Int):jC (.int a) (.int b)=.ok (.bl (!decide (a=b))):=Eq.trans rfl rfl
theorem dG {a b:Int} (h:b≠0):bH (.int a) (.int b)=.ok (.int (Int.fmod a b)):=by unfold bH; exact if_pos h
theorem uZ {a b:Int} (h:a.natAbs < 2 ^ 1000) (h2:b.natAbs < 2 ^ 1000):di (.int a) (.int b)=.ok (.int (a * b)):=by
 unfold di;have e:1000<=2 ^ 20:=by decide
 exact if_pos (.inl ⟨Nat.le_trans (intBits_le h) e,Nat.le_trans (intBits_le h2) e⟩)
theorem u6 {a b:Int} (h:b.natAbs < 2 ^ 64):di (.int a) (.int b)=.ok (.int (a * b)):=by
 unfold di;exact if_pos (.inr (.inr (intBits_le h)))
theorem mulE_i (a b:Int):b_ (.int a) (.int b)=di (.int a) (.int b):=Eq.trans rfl rfl
theorem Qj (fuel:DS->Nat) (c:DS->Res Bool) (b:DS->Out) (δ:DS):g8 fuel c b δ=bf c b (fuel δ) δ:=Eq.trans rfl rfl
theorem Qk {y:Int} (h:y.natAbs < 2 ^ 8000):y.natAbs.log2 < 9000:=by
 by_cases c:y.natAbs=0
 ·rw [c]; decide
 ·have:=(Nat.log2_lt c).mpr h; omega
theorem n8 {a b:Int} (h:b≠0) (h2:b.natAbs < 2 ^ 8000):aO (.int a) (.int b)=.ok (.int (Int.fdiv a b)):=by
 unfold aO; exact if_pos ⟨h,PyProof.noPylong_of_log2 (Qk h2)⟩
theorem cN0:((0:Nat):Int)=0:=Eq.trans rfl rfl
theorem sl0 (sv:SV) (r:DS):aj 0 (some sv :: r)=.ok sv.view:=Eq.trans rfl rfl
theorem st0 (y x:Option SV) (r:DS):List.set (y :: r) 0 x=x :: r:=Eq.trans rfl rfl
theorem sl1 (a0:Option SV) (sv:SV) (r:DS):aj 1 (a0 :: some sv :: r)=.ok sv.view:=Eq.trans rfl rfl
theorem st1 (a0:Option SV) (y x:Option SV) (r:DS):List.set (a0 :: y :: r) 1 x=a0 :: x :: r:=Eq.trans rfl rfl
theorem sl2 (a0 a1:Option SV) (sv:SV) (r:DS):aj 2 (a0 :: a1 :: some sv :: r)=.ok sv.view:=Eq.trans rfl rfl
theorem st2 (a0 a1:Option SV) (y x:Option SV) (r:DS):List.set (a0 :: a1 :: y :: r) 2 x=a0 :: a1 :: x :: r:=Eq.trans rfl rfl
theorem sl3 (a0 a1 a2:Option SV) (sv:SV) (r:DS):aj 3 (a0 :: a1 :: a2 :: some sv :: r)=.ok sv.view:=Eq.trans rfl rfl
theorem st3 (a0 a1 a2:Option SV) (y x:Option SV) (r:DS):List.set (a0 :: a1 :: a2 :: y :: r) 3 x=a0 :: a1 :: a2 :: x :: r:=Eq.trans rfl rfl
theorem sl4 (a0 a1 a2 a3:Option SV) (sv:SV) (r:DS):aj 4 (a0 :: a1 :: a2 :: a3 :: some sv :: r)=.ok sv.view:=Eq.trans rfl rfl
theorem st4 (a0 a1 a2 a3:Option SV) (y x:Option SV) (r:DS):List.set (a0 :: a1 :: a2 :: a3 :: y :: r) 4 x=a0 :: a1 :: a2 :: a3 :: x :: r:=Eq.trans rfl rfl
theorem sl5 (a0 a1 a2 a3 a4:Option SV) (sv:SV) (r:DS):aj 5 (a0 :: a1 :: a2 :: a3 :: a4 :: some sv :: r)=.ok sv.view:=Eq.trans rfl rfl
theorem st5 (a0 a1 a2 a3 a4:Option SV) (y x:Option SV) (r:DS):List.set (a0 :: a1 :: a2 :: a3 :: a4 :: y :: r) 5 x=a0 :: a1 :: a2 :: a3 :: a4 :: x :: r:=Eq.trans rfl rfl
theorem sl6 (a0 a1 a2 a3 a4 a5:Option SV) (sv:SV) (r:DS):aj 6 (a0 :: a1 :: a2 :: a3 :: a4 :: a5 :: some sv :: r)=.ok sv.view:=Eq.trans rfl rfl
theorem st6 (a0 a1 a2 a3 a4 a5:Option SV) (y x:Option SV) (r:DS):List.set (a0 :: a1 :: a2 :: a3 :: a4 :: a5 :: y :: r) 6 x=a0 :: a1 :: a2 :: a3 :: a4 :: a5 :: x :: r:=Eq.trans rfl rfl
theorem sl7 (a0 a1 a2 a3 a4 a5 a6:Option SV) (sv:SV) (r:DS):aj 7 (a0 :: a1 :: a2 :: a3 :: a4 :: a5 :: a6 :: some sv :: r)=.ok sv.view:=Eq.trans rfl rfl
theorem st7 (a0 a1 a2 a3 a4 a5 a6:Option SV) (y x:Option SV) (r:DS):List.set (a0 :: a1 :: a2 :: a3 :: a4 :: a5 :: a6 :: y :: r) 7 x=a0 :: a1 :: a2 :: a3 :: a4 :: a5 :: a6 :: x :: r:=Eq.trans rfl rfl
theorem sl8 (a0 a1 a2 a3 a4 a5 a6 a7:Option SV) (sv:SV) (r:DS):aj 8 (a0 :: a1 :: a2 :: a3 :: a4 :: a5 :: a6 :: a7 :: some sv :: r)=.ok sv.view:=Eq.trans rfl rfl
theorem st8 (a0 a1 a2 a3 a4 a5 a6 a7:Option SV) (y x:Option SV) (r:DS):List.set (a0 :: a1 :: a2 :: a3 :: a4 :: a5 :: a6 :: a7 :: y :: r) 8 x=a0 :: a1 :: a2 :: a3 :: a4 :: a5 :: a6 :: a7 :: x :: r:=Eq.trans rfl rfl
theorem sl9 (a0 a1 a2 a3 a4 a5 a6 a7 a8:Option SV) (sv:SV) (r:DS):aj 9 (a0 :: a1 :: a2 :: a3 :: a4 :: a5 :: a6 :: a7 :: a8 :: some sv :: r)=.ok sv.view:=Eq.trans rfl rfl
theorem st9 (a0 a1 a2 a3 a4 a5 a6 a7 a8:Option SV) (y x:Option SV) (r:DS):List.set (a0 :: a1 :: a2 :: a3 :: a4 :: a5 :: a6 :: a7 :: a8 :: y :: r) 9 x=a0 :: a1 :: a2 :: a3 :: a4 :: a5 :: a6 :: a7 :: a8 :: x :: r:=Eq.trans rfl rfl
theorem sl10 (a0 a1 a2 a3 a4 a5 a6 a7 a8 a9:Option SV) (sv:SV) (r:DS):aj 10 (a0 :: a1 :: a2 :: a3 :: a4 :: a5 :: a6 :: a7 :: a8 :: a9 :: some sv :: r)=.ok sv.view:=Eq.trans rfl rfl
theorem st10 (a0 a1 a2 a3 a4 a5 a6 a7 a8 a9:Option SV) (y x:Option SV) (r:DS):List.set (a0 :: a1 :: a2 :: a3 :: a4 :: a5 :: a6 :: a7 :: a8 :: a9 :: y :: r) 10 x=a0 :: a1 :: a2 :: a3 :: a4 :: a5 :: a6 :: a7 :: a8 :: a9 :: x :: r:=Eq.trans rfl rfl
theorem sl11 (a0 a1 a2 a3 a4 a5 a6 a7 a8 a9 a10:Option SV) (sv:SV) (r:DS):aj 11 (a0 :: a1 :: a2 :: a3 :: a4 :: a5 :: a6 :: a7 :: a8 :: a9 :: a10 :: some sv :: r)=.ok sv.view:=Eq.trans rfl rfl
theorem st11 (a0 a1 a2 a3 a4 a5 a6 a7 a8 a9 a10:Option SV) (y x:Option SV) (r:DS):List.set (a0 :: a1 :: a2 :: a3 :: a4 :: a5 :: a6 :: a7 :: a8 :: a9 :: a10 :: y :: r) 11 x=a0 :: a1 :: a2 :: a3 :: a4 :: a5 :: a6 :: a7 :: a8 :: a9 :: a10 :: x :: r:=Eq.trans rfl rfl
theorem tup1 (x0:D):jN (.ok [x0])=.ok (.tup [x0]):=Eq.trans rfl rfl
theorem lst1 (x0:D):fj (.ok [x0])=.ok (.lst [x0]):=Eq.trans rfl rfl
theorem tup2 (x0 x1:D):jN (.ok [x0,x1])=.ok (.tup [x0,x1]):=Eq.trans rfl rfl
theorem lst2 (x0 x1:D):fj (.ok [x0,x1])=.ok (.lst [x0,x1]):=Eq.trans rfl rfl
theorem tup3 (x0 x1 x2:D):jN (.ok [x0,x1,x2])=.ok (.tup [x0,x1,x2]):=Eq.trans rfl rfl
theorem lst3 (x0 x1 x2:D):fj (.ok [x0,x1,x2])=.ok (.lst [x0,x1,x2]):=Eq.trans rfl rfl
theorem tup4 (x0 x1 x2 x3:D):jN (.ok [x0,x1,x2,x3])=.ok (.tup [x0,x1,x2,x3]):=Eq.trans rfl rfl
theorem lst4 (x0 x1 x2 x3:D):fj (.ok [x0,x1,x2,x3])=.ok (.lst [x0,x1,x2,x3]):=Eq.trans rfl rfl
theorem lst5 (x0 x1 x2 x3 x4:D):fj (.ok [x0,x1,x2,x3,x4])=.ok (.lst [x0,x1,x2,x3,x4]):=Eq.trans rfl rfl
theorem lst6 (x0 x1 x2 x3 x4 x5:D):fj (.ok [x0,x1,x2,x3,x4,x5])=.ok (.lst [x0,x1,x2,x3,x4,x5]):=Eq.trans rfl rfl
theorem ix_tup (ds:List D) (k:Nat) (d:D) (h:ds[k]? = some d):bJ (.tup ds) (.int (k:Int))=.ok d:=by
 have hk:k < ds.length:=by
  rcases Nat.lt_or_ge k ds.length with z | z
  ·exact z
  ·rw [List.getElem?_eq_none z] at h; cases h
 have e:iY ds (k:Int)=some d:=by
  unfold iY jz;rw [if_pos (Int.natCast_nonneg k),if_pos (by omega)];simpa using h
 show (match iY ds (k:Int) with | some d=>Res.ok d | none=>.stuck)=_
 rw [e]
theorem ix_tup0 (x0:D) (r:List D):bJ (.tup (x0 :: r)) (.int 0)=.ok x0:=ix_tup _ 0 _ rfl
theorem ix_tup1 (x0 x1:D) (r:List D):bJ (.tup (x0 :: x1 :: r)) (.int 1)=.ok x1:=ix_tup _ 1 _ rfl
theorem xG (ds:List D) (k:Nat) (d:D) (h:ds[k]? = some d):bJ (.lst ds) (.int (k:Int))=.ok d:=by
 have hk:k < ds.length:=by
  rcases Nat.lt_or_ge k ds.length with z | z
  ·exact z
  ·rw [List.getElem?_eq_none z] at h; cases h
 have e:iY ds (k:Int)=some d:=by
  unfold iY jz;rw [if_pos (Int.natCast_nonneg k),if_pos (by omega)];simpa using h
 show (match iY ds (k:Int) with | some d=>Res.ok d | none=>.stuck)=_
 rw [e]
theorem ix_lst0 (x0:D) (r:List D):bJ (.lst (x0 :: r)) (.int 0)=.ok x0:=xG _ 0 _ rfl
theorem ix_lst1 (x0 x1:D) (r:List D):bJ (.lst (x0 :: x1 :: r)) (.int 1)=.ok x1:=xG _ 1 _ rfl
theorem HX {fe:DS->Res D} {rest:DS} {g:Int->D}:∀(ts:List Int),(∀t∈ts,fe (some (.val (.int t)) :: rest)=.ok (g t))->mapR (fB (bC 0) fe (none :: rest)) (ts.map .int)=.ok (ts.map g)
 | [],_=>rfl
 | t :: ts,h=>by
  have e:fB (bC 0) fe (none :: rest) (.int t)=.ok (g t):=by
   show (match fe (some (.val (.int t)) :: rest) with | .ok x=>Res.ok x | _=>.stuck)=_
   rw [h t (by simp)]
  rw [map_cons,mapR,e,Res.bind_ok,HX ts (fun u hu=>h u (mem_cons_of_mem _ hu)),Res.bind_ok]; rfl
theorem vU {fe:DS->Res D} {fi:DS->Res (List D)} {fr:List Nat} {δ rest:DS} {ts:List Int} {g:Int->D} (hi:fi δ=.ok (ts.map .int)) (hr:cL 1 fr δ=none :: rest) (hl:ts.length<=sizeLine) (h:∀t∈ts,fe (some (.val (.int t)) :: rest)=.ok (g t)) :
  aX 1 fr (bC 0) fe fi δ=.ok (.lst (ts.map g)):=by
 unfold aX;rw [hi,Res.bind_ok,hr,HX ts h];unfold fj;rw [Res.bind_ok,if_pos (by simpa using hl)]
theorem HY (lo:Int):∀(n:Nat),bQ lo n=((List.range n).map fun k=>D.int (lo + (k:Nat)))
 | 0=>rfl
 | n + 1=>by
  rw [bQ,HY (lo + 1) n,range_succ_eq_map,map_cons,map_map]
  congr 1
  ·simp
  ·refine map_congr_left fun k _=>?_;simp only [Function.comp,D.int.injEq]; omega
theorem Dr {b:DS->Out} {i:Nat} {f:Int->Int->Int} (st:Int->Option SV->DS) (h:∀acc z t,b ((st acc z).set i (some (.val (.int t))))=.nxt (st (f acc t) (some (.val (.int t))))) :
  ∀(ts:List Int) (acc:Int) (z:Option SV),∃z',cI (bC i) b (ts.map .int) (st acc z)=.nxt (st (ts.foldl f acc) z')
 | [],acc,z=>⟨z,rfl⟩
 | t :: ts,acc,z=>by
  obtain ⟨z',e⟩:=Dr st h ts (f acc t) (some (.val (.int t)));refine ⟨z',?_⟩;rw [map_cons,cI];show (match b ((st acc z).set i (some (.val (.int t)))) with | .nxt δ'=>_ | .cnt δ'=>_ | .brk δ'=>_ | .ret d=>_ | _=>_)=_
  rw [h];exact e
end DL
namespace Mine
open PySem DL
noncomputable def gN (n:Nat) (ts:List Int):Nat:=ts.foldl (fun s t=>Nat.gcd s t.natAbs) n
theorem n_ (n:Nat) (t:Int) (ts:List Int):gN n (t :: ts)=gN (Nat.gcd n t.natAbs) ts:=rfl
theorem H9:∀(ts:List Int) (n:Nat),ts.foldl cm (n:Int)=(gN n ts:Nat)
 | [],_=>rfl
 | t :: ts,n=>by
  rw [foldl_cons,n_,<- H9 ts (Nat.gcd n t.natAbs)]
  congr 1
theorem Ql (ts:List Int) (b:Int) (h:ts≠[]):ts.foldl cm b=(gN b.natAbs ts:Nat):=by
 cases ts with
 | nil=>exact (h rfl).elim
 | cons t ts=>rw [foldl_cons,n_,<- H9 ts]; congr 1
theorem xH (K:Int):∀(ts:List Int) (n:Nat),gN (K.natAbs * n) (ts.map (K * ·))=K.natAbs * gN n ts
 | [],_=>rfl
 | t :: ts,n=>by
  rw [map_cons,n_,n_,Int.natAbs_mul,Nat.gcd_mul_left,xH K ts]
theorem Ds:∀(ts:List Int) (n:Nat),gN n ts ∣ n/\∀t∈ts,gN n ts ∣ t.natAbs
 | [],n=>⟨Nat.dvd_refl n,fun t h=>by cases h⟩
 | t :: ts,n=>by
  obtain ⟨a,b⟩:=Ds ts (Nat.gcd n t.natAbs);rw [n_];refine ⟨Nat.dvd_trans a (Nat.gcd_dvd_left _ _),fun u hu=>?_⟩;rcases mem_cons.mp hu with z | z
  ·subst z; exact Nat.dvd_trans a (Nat.gcd_dvd_right _ _)
  ·exact b u z
theorem Qm {n:Nat} (ts:List Int) (h:0 < n):0 < gN n ts:=Nat.pos_of_dvd_of_pos (Ds ts n).1 h
structure Nf (ts:List Int) (b:Int):Prop where
 pos:0 < b
 one:gN b.natAbs ts=1
theorem Qn (ts:List Int) {b:Int} (hb:b≠0):∃(K:Int) (ts':List Int) (b':Int),K≠0/\ts=ts'.map (K * ·)/\b=K * b'/\Nf ts' b'/\ts'.length=ts.length:=by
 have hp:0 < gN b.natAbs ts:=Qm ts (by omega);obtain ⟨d1,d2⟩:=Ds ts b.natAbs;generalize hg:gN b.natAbs ts=g at *;have hK:∃K:Int,K.natAbs=g/\0 < K * b:=by
  rcases Int.lt_or_gt_of_ne hb with c | c
  ·refine ⟨-(g:Int),by omega,?_⟩;exact Int.mul_pos_of_neg_of_neg (by omega) c
  ·exact ⟨(g:Int),by omega,Int.mul_pos (by omega) c⟩
 obtain ⟨K,k1,k2⟩:=hK;have k0:K≠0:=by omega
 have kd:∀t:Int,g ∣ t.natAbs->K * (t / K)=t:=fun t h=>Int.mul_ediv_cancel' (by rw [<- Int.natAbs_dvd_natAbs,k1]; exact h);have eb:K * (b / K)=b:=kd b d1;have et:(ts.map (· / K)).map (K * ·)=ts:=by
  rw [map_map];have:∀t∈ts,((K * ·) ∘ (· / K)) t=t:=fun t ht=>kd t (d2 t ht);rw [map_congr_left this]; simp
 refine ⟨K,ts.map (· / K),b / K,k0,et.symm,eb.symm,⟨?_,?_⟩,by simp⟩
 ·rcases Int.lt_or_le 0 (b / K) with c | c
  ·exact c
  ·exfalso;have:K * b=K * K * (b / K):=by rw [Int.mul_assoc,eb]
   have h2:0<=K * K:=by
    rcases Int.le_total 0 K with z | z
    ·exact Int.mul_nonneg z z
    ·exact Int.mul_nonneg_of_nonpos_of_nonpos z z
   have:=Int.mul_nonpos_of_nonneg_of_nonpos h2 c;omega
 ·have e:=xH K (ts.map (· / K)) (b / K).natAbs;rw [et,<- Int.natAbs_mul,eb,hg,k1] at e;have:g * gN (b / K).natAbs (ts.map (· / K))=g * 1:=by omega
  exact Nat.eq_of_mul_eq_mul_left hp this
theorem cF' (K t:Int) (h:K≠0):Int.fdiv (K * t) K=t:=Int.mul_fdiv_cancel_left t h
theorem H_ {ts:List Int} {b K:Int} (h:Nf ts b) (hK:K≠0) (hts:ts≠[]):(ts.map (K * ·)).foldl cm (K * b)=(K.natAbs:Nat):=by
 rw [Ql _ _ (by simpa using hts),Int.natAbs_mul,xH,h.one,Nat.mul_one]
theorem Qo (n:Nat):Nf (List.replicate n 0) 1:=by
 refine ⟨by decide,?_⟩;have:∀n,gN 1 (List.replicate n 0)=1:=by
  intro n
  induction n with
  | zero=>rfl
  | succ n ih=>rw [replicate_succ,n_]; exact ih
 exact this n
abbrev num (ts:List Int) (b:Int):D:=.tup [.tup (ts.map .int),.int b]
theorem Qp (ts:List Int):gq (ts.map .int)=ts.map PyData.int:=by
 induction ts with
 | nil=>rfl
 | cons t ts ih=>simp only [map_cons,gq,gM,ih]
theorem Qs (n:Nat) (ts:List Int):(ts.map D.int).all (gh n)=true:=by
 induction ts with
 | nil=>rfl
 | cons t ts ih =>
  simp only [map_cons,all_cons,ih,Bool.and_true]
  cases n <;> rfl
theorem Ia:∀(a b:List Int),PyData.eqvAll (a.map PyData.int) (b.map PyData.int)=decide (a=b)
 | [],[]=>rfl
 | [],y :: ys=>by simp [PyData.eqvAll]
 | x :: xs,[]=>by simp [PyData.eqvAll]
 | x :: xs,y :: ys=>by
  have e:PyData.eqv (.int x) (.int y)=decide (x=y):=rfl;simp only [map_cons,PyData.eqvAll,e,Ia xs ys,List.cons.injEq]
  by_cases h1:x=y <;> by_cases h2:xs=ys <;> simp [h1,h2]
theorem Ay (a:List Int) (p:Int):gh 8 (num a p)=true:=by
 show ([D.tup (a.map .int),D.int p]:List D).all (gh 7)=true;simp only [all_cons,all_nil,Bool.and_true];rw [show gh 7 (D.tup (a.map .int))=(a.map D.int).all (gh 6) from rfl,Qs]; rfl
theorem Ib (a b:List Int) (p q:Int):PyData.eqv (gM (num a p)) (gM (num b q))=(decide (a=b) && decide (p=q)):=by
 simp only [gM,gq,Qp,PyData.eqv,PyData.eqvAll,Ia,Bool.and_true];rfl
theorem iq' (a b:List Int) (p q:Int):gO (num a p) (num b q)=.ok (.bl (decide (a=b) && decide (p=q))):=by
 unfold gO;rw [if_pos ⟨Ay a p,Ay b q⟩,Ib]
theorem Qt (a b:List Int) (p q:Int):jC (num a p) (num b q)=.ok (.bl (!(decide (a=b) && decide (p=q)))):=by
 unfold jC;rw [if_pos ⟨Ay a p,Ay b q⟩,Ib]
theorem Qu (x:Int) {y:Int} (h:y≠0):(Int.fmod x y).natAbs < y.natAbs:=by
 rw [Int.fmod_eq_emod];have a:=Int.emod_nonneg x h;have b:=Int.emod_lt_of_pos x (show 0 < (y.natAbs:Int) by omega);have e:x % (y.natAbs:Int)=x % y:=by
  rcases Int.natAbs_eq y with q | q
  ·rw [<- q]
  ·conv=>rhs; rw [q]
   rw [Int.emod_neg]
 rw [e] at b
 split
 ·omega
 ·rename_i c;have c1:¬(0<=y):=fun z=>c (.inl z);have c2:x % y≠0:=fun z=>c (.inr (Int.dvd_of_emod_eq_zero z));omega
theorem Qv (x y:Int):Int.gcd y (Int.fmod x y)=Int.gcd x y:=by
 have e:x=y * Int.fdiv x y + Int.fmod x y:=(Int.mul_fdiv_add_fmod x y).symm;refine Nat.dvd_antisymm ?_ ?_
 ·refine Int.dvd_gcd ?_ (Int.gcd_dvd_left y _);rw (config:={occs:=.pos [2]}) [e];exact Int.dvd_add (Int.dvd_trans (Int.gcd_dvd_left y _) (Int.dvd_mul_right ..)) (Int.gcd_dvd_right y _)
 ·refine Int.dvd_gcd (Int.gcd_dvd_right x y) ?_;have e2:Int.fmod x y=x - y * Int.fdiv x y:=by omega
  rw [e2];exact Int.dvd_sub (Int.gcd_dvd_left x y) (Int.dvd_trans (Int.gcd_dvd_right x y) (Int.dvd_mul_right ..))
theorem dc' (n:Nat) (h:n<=1000):dh [.int n]=.ok (((List.range n).map fun (k:Nat)=>(k:Int)).map .int):=by
 unfold dh;have h1:-(2 ^ 62)<=(n:Int)/\(n:Int) < 2 ^ 62:=⟨by omega,by omega⟩;simp only [h1,and_self,if_true,Int.toNat_natCast,HY,map_map,Function.comp_def,Int.zero_add]
theorem jW {f:DS->Res (List D)} {δ:DS} {ds rs:List D} {g:List D->Res (List D)} (h:f δ=.ok ds) (h2:g ds=.ok rs):bu f g δ=.ok rs:=by
 unfold bu; rw [h,Res.bind_ok,h2]
end Mine
namespace Mine
open PySem DL L2
abbrev TI (l:List Int):D:=.tup (l.map .int)
abbrev RT (rs:List (List Int)):D:=.tup (rs.reverse.map TI)
noncomputable def bI (a b:List Int):List Int:=List.zipWith (fun x y=>x + y) a b
noncomputable def aQ (x:List Int):List Int:=x.take (x.length / 2)
noncomputable def aU (x:List Int):List Int:=x.drop (x.length / 2)
noncomputable def pt:List (List Int)->List Int->List Int->List Int
 | [],x,y=>[x.headD 0 * y.headD 0]
 | r :: rs,x,y=>bI (pt rs (aQ x) (aQ y)) (pt rs (pt rs (aU x) (aU y)) r) ++ bI (pt rs (aQ x) (aU y)) (pt rs (aU x) (aQ y))
noncomputable def lt:List (List Int)->List Int->List Int->List Int
 | [],x,y=>[x.headD 0 * y.headD 0]
 | r :: rs,x,y=>bI (lt rs (aQ x) (aQ y)) (lt rs r (lt rs (aU x) (aU y))) ++ bI (lt rs (aQ x) (aU y)) (lt rs (aU x) (aQ y))
noncomputable def Sc:List (List Int)->Prop
 | []=>True
 | r :: rs=>r.length=2 ^ rs.length/\Sc rs
theorem Ie:∀(a b:List Int),bI a b=bI b a
 | [],[]=>rfl
 | [],_ :: _=>rfl
 | _ :: _,[]=>rfl
 | x :: a,y :: b=>by
  have:=Ie a b;unfold bI at this ⊢;rw [zipWith_cons_cons,zipWith_cons_cons,this,Int.add_comm]
theorem mX {a b:List Int} {n:Nat} (h1:a.length=n) (h2:b.length=n):(bI a b).length=n:=by unfold bI; rw [length_zipWith]; omega
theorem iC {x:List Int} {k:Nat} (h:x.length=2 ^ (k + 1)):(aQ x).length=2 ^ k:=by
 unfold aQ; rw [length_take]; have:2 ^ (k + 1)=2 ^ k * 2:=Nat.pow_succ ..; omega
theorem jb {x:List Int} {k:Nat} (h:x.length=2 ^ (k + 1)):(aU x).length=2 ^ k:=by
 unfold aU; rw [length_drop]; have:2 ^ (k + 1)=2 ^ k * 2:=Nat.pow_succ ..; omega
theorem dM:∀(rs:List (List Int)) (x y:List Int),Sc rs->x.length=2 ^ rs.length->y.length=2 ^ rs.length->(pt rs x y).length=2 ^ rs.length
 | [],_,_,_,_,_=>rfl
 | r :: rs,x,y,S,hx,hy=>by
  obtain ⟨hr,S⟩:=S;have a:=iC hx;have b:=jb hx;have c:=iC hy;have d:=jb hy;rw [pt,length_append,mX (dM rs _ _ S a c) (dM rs _ _ S (dM rs _ _ S b d) hr),mX (dM rs _ _ S a d) (dM rs _ _ S b c)];show _=2 ^ (rs.length + 1);rw [Nat.pow_succ]; omega
theorem xJ:∀(rs:List (List Int)) (x y:List Int),pt rs x y=pt rs y x
 | [],x,y=>by rw [pt,pt,Int.mul_comm]
 | r :: rs,x,y=>by
  rw [pt,pt,xJ rs (aQ x) (aQ y),xJ rs (aU x) (aU y),xJ rs (aQ x) (aU y),xJ rs (aU x) (aQ y),Ie (pt rs (aU y) (aQ x))]
theorem nJ:∀(rs:List (List Int)) (x y:List Int),lt rs x y=pt rs x y
 | [],x,y=>rfl
 | r :: rs,x,y=>by
  rw [lt,pt,nJ rs (aQ x) (aQ y),nJ rs (aU x) (aU y),nJ rs r,nJ rs (aQ x) (aU y),nJ rs (aU x) (aQ y),xJ rs r]
noncomputable def Bd (n:Nat) (l:List Int):Prop:=∀t∈l,t.natAbs < 2 ^ n
theorem Bd.mono {n m:Nat} {l:List Int} (h:Bd n l) (e:n<=m):Bd m l:=fun t ht=>Nat.lt_of_lt_of_le (h t ht) (Nat.pow_le_pow_right (by decide) e)
theorem Bd.fr {n:Nat} {l:List Int} (h:Bd n l):Bd n (aQ l):=fun t ht=>h t (mem_of_mem_take ht)
theorem Bd.bh {n:Nat} {l:List Int} (h:Bd n l):Bd n (aU l):=fun t ht=>h t (mem_of_mem_drop ht)
theorem Bd.head {n:Nat} {l:List Int} (h:Bd n l):(l.headD 0).natAbs < 2 ^ n:=by
 cases l with
 | nil=>exact Nat.two_pow_pos n
 | cons a l=>exact h a (by simp)
theorem gR {a b:Int} {p q:Nat} (h1:a.natAbs < 2 ^ p) (h2:b.natAbs < 2 ^ q):(a * b).natAbs < 2 ^ (p + q):=by
 rw [Int.natAbs_mul,Nat.pow_add];exact Nat.mul_lt_mul'' h1 h2
theorem Bd.add {n:Nat}:∀{a b:List Int},Bd n a->Bd n b->Bd (n + 1) (bI a b)
 | [],_,_,_=>fun t ht=>by simp [bI] at ht
 | _ :: _,[],_,_=>fun t ht=>by simp [bI] at ht
 | x :: a,y :: b,h1,h2=>fun t ht=>by
  unfold bI at ht;rw [zipWith_cons_cons] at ht;rcases mem_cons.mp ht with z | z
  ·have e1:=h1 x (by simp);have e2:=h2 y (by simp);rw [z,Nat.pow_succ]; omega
  ·exact Bd.add (fun t ht=>h1 t (mem_cons_of_mem _ ht)) (fun t ht=>h2 t (mem_cons_of_mem _ ht)) t z
theorem Bd.app {n:Nat} {a b:List Int} (h1:Bd n a) (h2:Bd n b):Bd n (a ++ b):=fun t ht=>(mem_append.mp ht).elim (h1 t) (h2 t)
theorem xK (ds:List D) (k:Nat):cutD (.tup ds) none (some (k:Int))=.ok (.tup (ds.take k)):=by
 show Res.ok (D.tup (fC ds none (some (k:Int))))=_;unfold fC;rw [HT.sIx_nat,HT.sIx_none,drop_zero,Nat.sub_zero]
 congr 2
 rcases Nat.le_total k ds.length with h | h
 ·rw [Nat.min_eq_left h]
 ·rw [Nat.min_eq_right h,take_of_length_le h,take_length]
theorem Qw (ds:List D) (k:Nat):cutD (.tup ds) (some (k:Int)) none=.ok (.tup (ds.drop k)):=by
 show Res.ok (D.tup (fC ds (some (k:Int)) none))=_;unfold fC;rw [HT.sIx_nat,HT.sIx_none]
 congr 2
 rcases Nat.le_total k ds.length with h | h
 ·rw [Nat.min_eq_left h,take_of_length_le (by rw [length_drop]; exact Nat.le_refl _)]
 ·rw [Nat.min_eq_right h,drop_length,drop_eq_nil_of_le h]; simp
theorem rN (r:List Int) (rs:List (List Int)):cutD (RT (r :: rs)) none (some (-1))=.ok (RT rs):=by
 show Res.ok (D.tup (fC ((r :: rs).reverse.map TI) none (some (-1))))=_;unfold fC;have e:HT.sIx ((r :: rs).reverse.map TI).length ((r :: rs).reverse.map TI).length (some (-1))=rs.length:=by
  have hl:((r :: rs).reverse.map TI).length=rs.length + 1:=by simp
  rw [hl];unfold HT.sIx;dsimp only;rw [if_pos (by decide)]; omega
 rw [e,HT.sIx_none,drop_zero,Nat.sub_zero,reverse_cons,map_append]
 congr 2
 rw [take_append_of_le_length (by simp),take_of_length_le (by simp)]
theorem xM (r:List Int) (rs:List (List Int)):bJ (RT (r :: rs)) (.int (-1))=.ok (TI r):=by
 have e:iY ((r :: rs).reverse.map TI) (-1)=some (TI r):=by
  unfold iY jz;have hl:((r :: rs).reverse.map TI).length=rs.length + 1:=by simp
  rw [hl,if_neg (by decide),if_pos (by omega)];have e2:((-1:Int) + ((rs.length + 1:Nat):Int)).toNat=rs.length:=by omega
  rw [e2];simp
 show (match iY ((r :: rs).reverse.map TI) (-1) with | some d=>Res.ok d | none=>.stuck)=_
 rw [e]
theorem dx' (rs:List (List Int)):cF [RT rs]=.ok (.int rs.length):=by
 rw [len_tup]; simp
theorem Dt (n:Nat):aO (.int (n:Int)) (.int 2)=.ok (.int ((n / 2:Nat):Int)):=by
 rw [n8 (by decide) (Nat.lt_of_lt_of_le (show Int.natAbs 2 < 2 ^ 2 by decide) (Nat.pow_le_pow_right (by decide) (by decide)))]
 congr 2
 rw [Int.fdiv_eq_ediv_of_nonneg _ (by decide)]; omega
theorem Ig (l:List Int) (k:Nat):cutD (TI l) none (some (k:Int))=.ok (TI (l.take k)):=by rw [xK,<- map_take]
theorem Ih (l:List Int) (k:Nat):cutD (TI l) (some (k:Int)) none=.ok (TI (l.drop k)):=by rw [Qw,<- map_drop]
theorem Ii {fe:DS->Res D} {rest:DS} {g:Int->Int->D}:∀(xs ys:List Int),(∀x∈xs,∀y∈ys,fe (some (.val (.int x)) :: some (.val (.int y)) :: rest)=.ok (g x y)) ->
  mapR (fB (aZ [0,1]) fe (none :: none :: rest)) (lE (xs.map .int) (ys.map .int))=.ok (List.zipWith g xs ys)
 | [],_,_=>rfl
 | _ :: _,[],_=>rfl
 | x :: xs,y :: ys,h=>by
  have e:fB (aZ [0,1]) fe (none :: none :: rest) (.tup [.int x,.int y])=.ok (g x y):=by
   show (match fe (some (.val (.int x)) :: some (.val (.int y)) :: rest) with | .ok z=>Res.ok z | _=>.stuck)=_
   rw [h x (by simp) y (by simp)]
  have ih:=Ii xs ys fun u hu v hv=>h u (mem_cons_of_mem _ hu) v (mem_cons_of_mem _ hv);show mapR _ (D.tup [.int x,.int y] :: lE (xs.map .int) (ys.map .int))=_;rw [mapR,e,Res.bind_ok,ih,Res.bind_ok]; rfl
theorem Du {fe:DS->Res D} {fi:DS->Res (List D)} {fr:List Nat} {δ rest:DS} {xs ys:List Int} {g:Int->Int->D} (hi:fi δ=.ok (lE (xs.map .int) (ys.map .int))) (hr:cL 2 fr δ=none :: none :: rest) (hl:xs.length<=sizeLine)
  (h:∀x∈xs,∀y∈ys,fe (some (.val (.int x)) :: some (.val (.int y)) :: rest)=.ok (g x y)):aX 2 fr (aZ [0,1]) fe fi δ=.ok (.lst (List.zipWith g xs ys)):=by
 unfold aX;rw [hi,Res.bind_ok,hr,Ii xs ys h];unfold fj;rw [Res.bind_ok,if_pos (by rw [length_zipWith]; omega)]
theorem xN (xs ys:List Int):(List.zipWith (fun x y=>D.int (x + y)) xs ys)=(bI xs ys).map .int:=by
 unfold bI; rw [map_zipWith]
theorem Az {l:List Int} (h:l≠[]):bJ (TI l) (.int 0)=.ok (.int (l.headD 0)):=by
 cases l with
 | nil=>exact (h rfl).elim
 | cons a l=>exact ix_tup0 _ _
theorem rO {l:List Int} {k:Nat} (h:l.length=2 ^ k):l≠[]:=fun z=>by rw [z] at h; have:=Nat.two_pow_pos k; simp at h; omega
theorem A_ {a b:List Int} (h:a≠[]) (h2:a.length + b.length<=1000):aN (TI a) (TI b)=.ok (TI (a ++ b)):=by
 show (if (a.map D.int).length + (b.map D.int).length<=sizeLine then Res.ok (D.tup (a.map D.int ++ b.map D.int)) else Res.stuck)=_
 have e:1000<=sizeLine:=by decide
 rw [if_pos (by rw [length_map,length_map]; omega),<- map_append]
theorem Ij {a b:List Int} (h2:a.length + b.length<=1000):aN (TI a) (TI b)=.ok (TI (a ++ b)):=by
 show (if (a.map D.int).length + (b.map D.int).length<=sizeLine then Res.ok (D.tup (a.map D.int ++ b.map D.int)) else Res.stuck)=_
 have e:1000<=sizeLine:=by decide
 rw [if_pos (by rw [length_map,length_map]; omega),<- map_append]
noncomputable def jo (x y:List Int) (bx b_y:Int):List Int:=List.zipWith (fun a c=>a * b_y + c * bx) x y
theorem Il (x y:List Int) (bx b_y:Int):bI (x.map (b_y * ·)) (y.map (bx * ·))=jo x y bx b_y:=by
 unfold bI jo;rw [zipWith_map]
 congr 1
 funext a c
 rw [Int.mul_comm b_y,Int.mul_comm bx]
theorem Qx {x y:List Int} {n:Nat} (h1:x.length=n) (h2:y.length=n) (bx b_y:Int):(jo x y bx b_y).length=n:=by unfold jo; rw [length_zipWith]; omega
theorem Im {x:List Int} {n p:Nat} {k:Int} (h:Bd n x) (hk:k.natAbs < 2 ^ p):Bd (p + n) (x.map (k * ·)):=fun t ht=>by
 obtain ⟨u,hu,rfl⟩:=mem_map.mp ht;exact gR hk (h u hu)
theorem Dv:∀(ts:List Int),gN 1 ts=1
 | []=>rfl
 | t :: ts=>by rw [n_,Nat.gcd_one_left]; exact Dv ts
theorem Ba (ts:List Int):Nf ts 1:=⟨by decide,Dv ts⟩
theorem Dw:∀(ts:List Int) (n:Nat),gN n (ts.map fun t=>-t)=gN n ts
 | [],_=>rfl
 | t :: ts,n=>by rw [map_cons,n_,n_,Int.natAbs_neg,Dw ts]
theorem nD' {ts:List Int} {b:Int} (h:Nf ts b):Nf (ts.map fun t=>-t) b:=⟨h.pos,by rw [Dw]; exact h.one⟩
theorem dA' {x:List Int} {n:Nat} (h:Bd n x):Bd n (x.map fun t=>-t):=fun t ht=>by
 obtain ⟨u,hu,rfl⟩:=mem_map.mp ht;rw [Int.natAbs_neg]; exact h u hu
theorem Qy (x:List Int):x.map ((-1:Int) * ·)=x.map fun t=>-t:=map_congr_left fun t _=>by omega
theorem Io {t:du} {b:DS->Out} {P:DS->Prop}:∀(ds:List D),(∀d∈ds,∀δ,P δ->∃δ1 δ2,t d δ=some δ1/\b δ1=.nxt δ2/\P δ2)->∀δ,P δ->∃δ',cI t b ds δ=.nxt δ'/\P δ'
 | [],_,δ,h=>⟨δ,rfl,h⟩
 | d :: ds,hs,δ,h=>by
  obtain ⟨δ1,δ2,e1,e2,h2⟩:=hs d (by simp) δ h;obtain ⟨δ',e3,h3⟩:=Io ds (fun u hu=>hs u (mem_cons_of_mem _ hu)) δ2 h2;refine ⟨δ',?_,h3⟩;rw [cI,e1];dsimp only;rw [e2];exact e3
theorem Qz (k:Nat):(List.replicate k [D.int 0]).flatten=(List.replicate k (0:Int)).map .int:=by
 induction k with
 | zero=>rfl
 | succ k ih=>rw [replicate_succ,flatten_cons,ih,replicate_succ,map_cons]; rfl
theorem Ip (k:Nat) (h:k<=1000):b_ (.tup [.int 0]) (.int (k:Int))=.ok (TI (List.replicate k 0)):=by
 show nW [.int 0] (k:Int)=_;unfold nW;rw [if_pos ⟨rfl,Int.natCast_nonneg k,by rw [Int.toNat_natCast]; simpa using h⟩,Int.toNat_natCast,Qz]
theorem QB (m:Nat) (h:m<=1000):iD (.int 1) (.int (m:Int))=.ok (.int ((2 ^ m:Nat):Int)):=by
 simp only [iD];rw [if_pos ⟨by omega,by omega,by decide⟩,Int.toNat_natCast,Int.one_mul]; simp
theorem Ir:∀(bs:List Bool),bools (bs.map .bl)=some bs
 | []=>rfl
 | b :: bs=>by rw [map_cons,bools,Ir bs]; rfl
theorem nE' (bs:List Bool):mU [.lst (bs.map .bl)]=.ok (.bl (bs.all id)):=by
 show (match bools (bs.map .bl) with | some bs=>Res.ok (D.bl (bs.all id)) | none=>.stuck)=_
 rw [Ir]
noncomputable def zA (ns:List Int):Bool:=ns.all fun t=>decide (t=0)
noncomputable def sg (n:Int):Int:=if n=0 then 0 else if 0 < n then 1 else -1
noncomputable def due (a b m:Int):Int:=if sg a=sg b\/sg b=0 then sg a else if sg a=0\/a * a < b * b * m then sg b else sg a
theorem Iu {r m:Int} (hr:0<=r) (h1:r * r < m) (h2:m < (r + 1) * (r + 1)):∀(n:Nat) (a b:Int),0<=a->0<=b->b.toNat<=n->a * a=b * b * m->b=0
 | 0,a,b,_,hb,hn,_=>by omega
 | n + 1,a,b,ha,hb,hn,e=>by
  by_cases c:b=0
  ·exact c
  exfalso;have bp:0 < b:=by omega
  have bb:0 < b * b:=Int.mul_pos bp bp;have lo:r * b < a:=by
   rcases Int.lt_or_le (r * b) a with z | z
   ·exact z
   ·exfalso;have q:=Int.mul_le_mul z z ha (Int.mul_nonneg hr hb);have e1:r * b * (r * b)=b * b * (r * r):=by rw [Int.mul_assoc,Int.mul_left_comm b r b,<- Int.mul_assoc,Int.mul_comm]
    have:=Int.mul_lt_mul_of_pos_left h1 bb;omega
  have hi:a < (r + 1) * b:=by
   rcases Int.lt_or_le a ((r + 1) * b) with z | z
   ·exact z
   ·exfalso;have q:=Int.mul_le_mul z z (Int.mul_nonneg (by omega) hb) ha;have e1:(r + 1) * b * ((r + 1) * b)=b * b * ((r + 1) * (r + 1)):=by rw [Int.mul_assoc,Int.mul_left_comm b (r + 1) b,<- Int.mul_assoc,Int.mul_comm]
    have:=Int.mul_lt_mul_of_pos_left h2 bb;omega
  have hi':a < r * b + b:=by rw [Int.add_mul,Int.one_mul] at hi; exact hi
  have ma:r * a < m * b:=by
   rcases Int.lt_or_le (r * a) (m * b) with z | z
   ·exact z
   ·exfalso;have ap:0 < a:=by
     have:=Int.mul_nonneg hr hb; omega
    have q1:=Int.mul_le_mul_of_nonneg_right z hb;have q2:=Int.mul_lt_mul_of_pos_left lo ap;have e1:m * b * b=b * b * m:=by rw [Int.mul_assoc,Int.mul_comm]
    have e2:r * a * b=a * (r * b):=by rw [Int.mul_comm r a,Int.mul_assoc]
    omega
  have step:(m * b - r * a) * (m * b - r * a)=(a - r * b) * (a - r * b) * m:=by
   have x1:(m * b - r * a) * (m * b - r * a)=m * (b * b * m) - 2 * (m * (r * (a * b))) + r * (r * (a * a)):=by
    simp only [Int.sub_mul,Int.mul_sub];have t1:m * b * (m * b)=m * (b * b * m):=by
     rw [Int.mul_assoc,Int.mul_left_comm b m b,Int.mul_comm (b * b) m]
    have t2:m * b * (r * a)=m * (r * (a * b)):=by rw [Int.mul_assoc,Int.mul_left_comm b r a,Int.mul_comm b a]
    have t3:r * a * (m * b)=m * (r * (a * b)):=by rw [Int.mul_left_comm,Int.mul_assoc,<- Int.mul_assoc r a b,Int.mul_assoc r a b]
    have t4:r * a * (r * a)=r * (r * (a * a)):=by rw [Int.mul_assoc,Int.mul_left_comm a r a]
    rw [t1,t2,t3,t4]; omega
   have x2:(a - r * b) * (a - r * b) * m=m * (a * a) - 2 * (m * (r * (a * b))) + r * (r * (b * b * m)):=by
    have t0:(a - r * b) * (a - r * b)=a * a - 2 * (r * (a * b)) + r * (r * (b * b)):=by
     simp only [Int.sub_mul,Int.mul_sub];have u1:a * (r * b)=r * (a * b):=Int.mul_left_comm a r b;have u2:r * b * a=r * (a * b):=by rw [Int.mul_assoc,Int.mul_comm b a]
     have u3:r * b * (r * b)=r * (r * (b * b)):=by rw [Int.mul_assoc,Int.mul_left_comm b r b]
     rw [u1,u2,u3]; omega
    rw [t0,Int.add_mul,Int.sub_mul];have v1:a * a * m=m * (a * a):=Int.mul_comm _ _;have v2:2 * (r * (a * b)) * m=2 * (m * (r * (a * b))):=by rw [Int.mul_assoc,Int.mul_comm (r * (a * b)) m]
    have v3:r * (r * (b * b)) * m=r * (r * (b * b * m)):=by rw [Int.mul_assoc,Int.mul_assoc r (b * b) m]
    rw [v1,v2,v3]
   rw [x1,x2,<- e]
  have:=Iu hr h1 h2 n (m * b - r * a) (a - r * b) (by omega) (by omega) (by omega) step;omega
theorem Dy {r m:Int} (hr:0<=r) (h1:r * r < m) (h2:m < (r + 1) * (r + 1)) {a b:Int} (e:a * a=b * b * m):b=0:=by
 have ea:(a.natAbs:Int) * (a.natAbs:Int)=a * a:=by rw [<- Int.natCast_mul,Int.natAbs_mul_self]
 have eb:(b.natAbs:Int) * (b.natAbs:Int)=b * b:=by rw [<- Int.natCast_mul,Int.natAbs_mul_self]
 have:=Iu hr h1 h2 b.natAbs (a.natAbs:Int) (b.natAbs:Int) (by omega) (by omega) (by omega) (by rw [ea,eb]; exact e);omega
theorem Iv (n:Int):(n=0/\sg n=0)\/(0 < n/\sg n=1)\/(n < 0/\sg n=-1):=by
 unfold sg;rcases Int.lt_trichotomy n 0 with z | z | z
 ·exact .inr (.inr ⟨z,by rw [if_neg (by omega),if_neg (by omega)]⟩)
 ·exact .inl ⟨z,if_pos z⟩
 ·exact .inr (.inl ⟨z,by rw [if_neg (by omega),if_pos z]⟩)
end Mine
namespace Mine
open Lean.Grind
structure OF where
 C:Type
 fld:Field C
 le:LE C
 lt:LT C
 llt:Std.LawfulOrderLT C
 lin:Std.IsLinearOrder C
 ord:OrderedRing C
instance ofF (F:OF):Field F.C:=F.fld
instance ofLE (F:OF):LE F.C:=F.le
instance ofLT (F:OF):LT F.C:=F.lt
instance ofLLT (F:OF):Std.LawfulOrderLT F.C:=F.llt
instance ofLin (F:OF):Std.IsLinearOrder F.C:=F.lin
instance ofOrd (F:OF):OrderedRing F.C:=F.ord
instance ofNC (F:OF):NatCast F.C:=F.fld.toCommRing.toRing.toSemiring.natCast
instance ofIC (F:OF):IntCast F.C:=F.fld.toCommRing.toRing.intCast
section
variable {F:OF}
theorem cO {a b:F.C} (h1:0 < a) (h2:0 < b):0 < a * b:=by
 have:=OrderedRing.mul_lt_mul_of_pos_left h1 h2
 grind
theorem jG {a b:F.C} (h1:0<=a) (h2:0<=b):0<=a * b:=by
 by_cases h:a=0
 ·rw [h,Semiring.zero_mul]; exact Std.le_refl _
 ·by_cases h':b=0
  ·rw [h',Semiring.mul_zero]; exact Std.le_refl _
  ·have:=cO (a:=a) (b:=b) (by grind) (by grind)
   grind
theorem dz (a:F.C):0<=a * a:=by
 by_cases h:0<=a
 ·exact jG h h
 ·have:=jG (a:=-a) (b:=-a) (by grind) (by grind)
  grind
theorem Iw {a:F.C} (h:a≠0):0 < a * a:=by
 by_cases c:0 < a
 ·exact cO c c
 ·have:=cO (a:=-a) (b:=-a) (by grind) (by grind)
  grind
theorem sU {a b c d:F.C} (a0:0<=a) (h1:a < b) (c0:0<=c) (h2:c < d):a * c < b * d:=by
 have q1:=jG (a:=b - a) (b:=c) (by grind) c0;have q2:=cO (a:=b) (b:=d - c) (by grind) (by grind)
 grind
theorem uH {p q:F.C} (h:0 < p) (e:q * q < p * p):0 < p + q:=by
 by_cases c:0 < p + q
 ·exact c
 ·exfalso;have q1:=jG (a:=-q - p) (b:=-q + p) (by grind) (by grind)
  grind
theorem u9 {a b:F.C} (h:a * b=0):a=0\/b=0:=by
 by_cases c:a=0
 ·exact .inl c
 ·right; grind
end
open Classical in
noncomputable def sgn {F:OF} (x:F.C):Int:=if x=0 then 0 else if 0 < x then 1 else -1
section
variable {F:OF}
theorem my (x:F.C):(x=0/\sgn x=0)\/(0 < x/\sgn x=1)\/(x < 0/\sgn x=-1):=by
 unfold sgn
 by_cases h:x=0
 ·exact .inl ⟨h,by rw [if_pos h]⟩
 ·by_cases c:0 < x
  ·exact .inr (.inl ⟨c,by rw [if_neg h,if_pos c]⟩)
  ·exact .inr (.inr ⟨by grind,by rw [if_neg h,if_neg c]⟩)
theorem sgn_0 {x:F.C}:sgn x=0↔x=0:=by rcases my x with ⟨h,e⟩ | ⟨h,e⟩ | ⟨h,e⟩ <;> constructor <;> grind
theorem sgn_p {x:F.C}:sgn x=1↔0 < x:=by rcases my x with ⟨h,e⟩ | ⟨h,e⟩ | ⟨h,e⟩ <;> constructor <;> grind
theorem sgn_n {x:F.C}:sgn x=-1↔x < 0:=by rcases my x with ⟨h,e⟩ | ⟨h,e⟩ | ⟨h,e⟩ <;> constructor <;> grind
theorem sgn_mul (x y:F.C):sgn (x * y)=sgn x * sgn y:=by
 rcases my x with ⟨h,e⟩ | ⟨h,e⟩ | ⟨h,e⟩ <;> rcases my y with ⟨h',e'⟩ | ⟨h',e'⟩ | ⟨h',e'⟩ <;> rw [e,e']
 ·rw [h,sgn_0.mpr (by grind)]; rfl
 ·rw [h,sgn_0.mpr (by grind)]; rfl
 ·rw [h,sgn_0.mpr (by grind)]; rfl
 ·rw [h',sgn_0.mpr (by grind)]; rfl
 ·rw [sgn_p.mpr (cO h h')]; rfl
 ·have:=cO (a:=x) (b:=-y) h (by grind);rw [sgn_n.mpr (by grind)]; rfl
 ·rw [h',sgn_0.mpr (by grind)]; rfl
 ·have:=cO (a:=-x) (b:=y) (by grind) h';rw [sgn_n.mpr (by grind)]; rfl
 ·have:=cO (a:=-x) (b:=-y) (by grind) (by grind);rw [sgn_p.mpr (by grind)]; rfl
end
structure Ext {R:Type} (r:R) where
 a:R
 b:R
namespace Ext
section
variable {F:OF} {r:F.C}
theorem eqs {x y:Ext r} (h1:x.a=y.a) (h2:x.b=y.b):x=y:=by
 cases x; cases y; cases h1; cases h2; rfl
instance:Add (Ext r):=⟨fun x y=>⟨x.a + y.a,x.b + y.b⟩⟩
instance:Mul (Ext r):=⟨fun x y=>⟨x.a * y.a + x.b * y.b * r,x.a * y.b + x.b * y.a⟩⟩
instance:Neg (Ext r):=⟨fun x=>⟨-x.a,-x.b⟩⟩
instance:Sub (Ext r):=⟨fun x y=>⟨x.a - y.a,x.b - y.b⟩⟩
instance:NatCast (Ext r):=⟨fun n=>⟨(n:F.C),0⟩⟩
instance:IntCast (Ext r):=⟨fun n=>⟨(n:F.C),0⟩⟩
instance (n:Nat):OfNat (Ext r) n:=⟨⟨OfNat.ofNat n,0⟩⟩
instance:SMul Nat (Ext r):=⟨fun n x=>(n:Ext r) * x⟩
instance:SMul Int (Ext r):=⟨fun n x=>(n:Ext r) * x⟩
noncomputable def pw (x:Ext r):Nat->Ext r
 | 0=>1
 | n + 1=>pw x n * x
instance:HPow (Ext r) Nat (Ext r):=⟨pw⟩
theorem jH (x y:Ext r):(x + y).a=x.a + y.a:=rfl
theorem jJ (x y:Ext r):(x + y).b=x.b + y.b:=rfl
theorem lK (x y:Ext r):(x * y).a=x.a * y.a + x.b * y.b * r:=rfl
theorem lL (x y:Ext r):(x * y).b=x.a * y.b + x.b * y.a:=rfl
theorem fr' (x:Ext r):(-x).a=-x.a:=rfl
theorem u_ (x:Ext r):(-x).b=-x.b:=rfl
theorem Dz (x y:Ext r):(x - y).a=x.a - y.a:=rfl
theorem Iz (x y:Ext r):(x - y).b=x.b - y.b:=rfl
theorem IK (n:Nat):((n:Ext r)).a=(n:F.C):=rfl
theorem eS' (n:Int):((n:Ext r)).a=(n:F.C):=rfl
theorem vV (n:Int):((n:Ext r)).b=0:=rfl
theorem sV (n:Nat):(OfNat.ofNat n:Ext r).a=(OfNat.ofNat n:F.C):=rfl
theorem xO (n:Nat):(OfNat.ofNat n:Ext r).b=0:=rfl
theorem mY:(1:Ext r).a=1:=rfl
theorem dk':(1:Ext r).b=0:=rfl
theorem mZ:(0:Ext r).a=0:=rfl
theorem rP:(0:Ext r).b=0:=rfl
instance:Semiring (Ext r) where
 add_zero x:=eqs (by rw [jH,mZ] <;> grind) (by rw [jJ,rP] <;> grind)
 add_comm x y:=eqs (by rw [jH,jH] <;> grind) (by rw [jJ,jJ] <;> grind)
 add_assoc x y z:=eqs (by simp only [jH] <;> grind) (by simp only [jJ] <;> grind)
 mul_assoc x y z:=eqs (by simp only [lK,lL] <;> grind) (by simp only [lK,lL] <;> grind)
 mul_one x:=eqs (by simp only [lK,mY,dk'] <;> grind) (by simp only [lL,mY,dk'] <;> grind)
 one_mul x:=eqs (by simp only [lK,mY,dk'] <;> grind) (by simp only [lL,mY,dk'] <;> grind)
 left_distrib x y z:=eqs (by simp only [lK,jH,jJ] <;> grind) (by simp only [lL,jH,jJ] <;> grind)
 right_distrib x y z:=eqs (by simp only [lK,jH,jJ] <;> grind) (by simp only [lL,jH,jJ] <;> grind)
 zero_mul x:=eqs (by simp only [lK,mZ,rP] <;> grind) (by simp only [lL,mZ,rP] <;> grind)
 mul_zero x:=eqs (by simp only [lK,mZ,rP] <;> grind) (by simp only [lL,mZ,rP] <;> grind)
 pow_zero x:=rfl
 pow_succ x n:=rfl
 ofNat_succ n:=eqs (by rw [jH,sV,sV,mY]; exact Semiring.ofNat_succ (α:=F.C) n) (by rw [jJ,xO,xO,dk'] <;> grind)
 ofNat_eq_natCast n:=eqs (by rw [sV,IK]; exact Semiring.ofNat_eq_natCast (α:=F.C) n) rfl
 nsmul_eq_natCast_mul n x:=rfl
instance:Ring (Ext r) where
 neg_add_cancel x:=eqs (by rw [jH,fr',mZ] <;> grind) (by rw [jJ,u_,rP] <;> grind)
 sub_eq_add_neg x y:=eqs (by rw [jH,fr',Dz] <;> grind) (by rw [jJ,u_,Iz] <;> grind)
 neg_zsmul i x:=by
  show ((-i:Int):Ext r) * x=-((i:Ext r) * x);refine eqs ?_ ?_
  ·rw [fr',lK,lK,eS',eS',vV,vV,Ring.intCast_neg (α:=F.C)] <;> grind
  ·rw [u_,lL,lL,eS',eS',vV,vV,Ring.intCast_neg (α:=F.C)] <;> grind
 zsmul_natCast_eq_nsmul n x:=by
  show (((n:Int)):Ext r) * x=(n:Ext r) * x;have e:(((n:Int)):Ext r)=(n:Ext r):=eqs (by rw [eS',IK]; exact Ring.intCast_natCast (α:=F.C) n) rfl;rw [e]
 intCast_ofNat n:=eqs (by rw [eS',sV]; exact Ring.intCast_ofNat (α:=F.C) n) rfl
 intCast_neg i:=eqs (by rw [eS',fr',eS']; exact Ring.intCast_neg (α:=F.C) i) (by rw [vV,u_,vV] <;> grind)
instance:CommRing (Ext r) where
 mul_comm x y:=eqs (by rw [lK,lK] <;> grind) (by rw [lL,lL] <;> grind)
noncomputable def nrm (x:Ext r):F.C:=x.a * x.a - x.b * x.b * r
theorem nrm_mul (x y:Ext r):nrm (x * y)=nrm x * nrm y:=by unfold nrm; rw [lK,lL]; grind
theorem nrm_0 (hn:∀z:F.C,z * z≠r) {x:Ext r} (h:nrm x=0):x=0:=by
 unfold nrm at h
 by_cases hb:x.b=0
 ·have:x.a=0:=by rcases u9 (a:=x.a) (b:=x.a) (by grind) with z | z <;> exact z
  exact eqs this hb
 ·exfalso;exact hn (x.a / x.b) (by grind)
instance:Inv (Ext r):=⟨fun x=>⟨x.a / nrm x,-x.b / nrm x⟩⟩
instance:Div (Ext r):=⟨fun x y=>x * y⁻¹⟩
theorem Bb (x:Ext r):(x⁻¹).a=x.a / nrm x:=rfl
theorem Bc (x:Ext r):(x⁻¹).b=-x.b / nrm x:=rfl
noncomputable def DG (x:Ext r):Int->Ext r
 | .ofNat n=>pw x n
 | .negSucc n=>(pw x (n + 1))⁻¹
instance:HPow (Ext r) Int (Ext r):=⟨DG⟩
theorem DK:((0:Ext r))⁻¹=0:=eqs (by rw [Bb,mZ]; grind) (by rw [Bc,rP]; grind)
theorem DN (hn:∀z:F.C,z * z≠r) {x:Ext r} (h:x≠0):x * x⁻¹=1:=by
 have n0:nrm x≠0:=fun z=>h (nrm_0 hn z);refine eqs ?_ ?_
 ·rw [lK,Bb,Bc,mY]; unfold nrm at *; grind
 ·rw [lL,Bb,Bc,dk']; unfold nrm at *; grind
theorem QC (hn:∀z:F.C,z * z≠r) (x:Ext r):(x⁻¹)⁻¹=x:=by
 by_cases h:x=0
 ·rw [h,DK,DK]
 ·have e1:=DN hn h;have h2:x⁻¹≠0:=fun z=>by
   rw [z] at e1;have:(0:Ext r)=1:=by rw [<- e1,Semiring.mul_zero]
   have:=congrArg Ext.a this;rw [mZ,mY] at this;exact Field.zero_ne_one this
  have e2:=DN hn h2
  calc (x⁻¹)⁻¹=(x * x⁻¹) * (x⁻¹)⁻¹:=by rw [e1,Semiring.one_mul]
   _=x * (x⁻¹ * (x⁻¹)⁻¹):=Semiring.mul_assoc ..
   _=x:=by rw [e2,Semiring.mul_one]
theorem inv_1:((1:Ext r))⁻¹=1:=by
 refine eqs ?_ ?_
 ·rw [Bb,mY]; unfold nrm; rw [mY,dk']; grind
 ·rw [Bc,dk']; unfold nrm; rw [mY,dk']; grind
@[reducible] def fieldE (hn:∀z:F.C,z * z≠r):Field (Ext r) where
 div_eq_mul_inv _ _:=rfl
 zero_ne_one h:=by
  have:=congrArg Ext.a h;rw [mZ,mY] at this;exact Field.zero_ne_one this
 inv_zero:=DK
 mul_inv_cancel:=DN hn
 zpow_zero _:=rfl
 zpow_succ _ _:=rfl
 zpow_neg x n:=by
  show DG x (-n)=(DG x n)⁻¹
  match n with
  | .ofNat 0=>exact inv_1.symm
  | .ofNat (n + 1)=>rfl
  | .negSucc n=>exact (QC hn _).symm
noncomputable def Pos (x:Ext r):Prop:=(0 < nrm x/\0 < x.a)\/(nrm x < 0/\0 < x.b)
instance:LT (Ext r):=⟨fun x y=>Pos (y - x)⟩
instance:LE (Ext r):=⟨fun x y=>x=y\/Pos (y - x)⟩
theorem IV (x:Ext r):nrm (-x)=nrm x:=by unfold nrm; rw [fr',u_]; grind
theorem QD:nrm (0:Ext r)=0:=by unfold nrm; rw [mZ,rP]; grind
theorem QF:¬Pos (0:Ext r):=fun h=>by unfold Pos at h; rw [QD] at h; grind
theorem IW {x:Ext r} (h:Pos x):¬Pos (-x):=fun z=>by
 unfold Pos at h z; rw [IV,fr',u_] at z;rcases h with h | h <;> rcases z with z | z <;> grind
theorem tri (hn:∀z:F.C,z * z≠r) (hr:0 < r) (x:Ext r):x=0\/Pos x\/Pos (-x):=by
 by_cases h:x=0
 ·exact .inl h
 ·right
  have n0:nrm x≠0:=fun z=>h (nrm_0 hn z);unfold Pos;rw [IV,fr',u_]
  by_cases c:0 < nrm x
  ·have:x.a≠0:=fun z=>by
    have:=jG (dz x.b) (Std.le_of_lt hr);unfold nrm at c; rw [z] at c; grind
   by_cases d:0 < x.a
   ·exact .inl (.inl ⟨c,d⟩)
   ·exact .inr (.inl ⟨c,by grind⟩)
  ·have:x.b≠0:=fun z=>by
    have:=dz x.a;unfold nrm at c n0; rw [z] at c n0; grind
   by_cases d:0 < x.b
   ·exact .inl (.inr ⟨by grind,d⟩)
   ·exact .inr (.inr ⟨by grind,by grind⟩)
theorem I_ (hr:0 < r) {x y:Ext r} (h1:Pos x) (h2:Pos y):Pos (x * y):=by
 unfold Pos at *;rw [nrm_mul,lK,lL];have rr:=cO hr hr;have nbb:=jG (dz x.b) (Std.le_of_lt hr);have ndd:=jG (dz y.b) (Std.le_of_lt hr);rcases h1 with ⟨n1,p1⟩ | ⟨n1,p1⟩ <;> rcases h2 with ⟨n2,p2⟩ | ⟨n2,p2⟩
 ·refine .inl ⟨cO n1 n2,?_⟩;have q:=sU nbb (show x.b * x.b * r < x.a * x.a by unfold nrm at n1; grind) ndd (show y.b * y.b * r < y.a * y.a by unfold nrm at n2; grind);exact uH (cO p1 p2) (by grind)
 ·refine .inr ⟨?_,?_⟩
  ·have:=cO (a:=nrm x) (b:=-nrm y) n1 (by grind); grind
  ·have q:=sU nbb (show x.b * x.b * r < x.a * x.a by unfold nrm at n1; grind) (dz y.a) (show y.a * y.a < y.b * y.b * r by unfold nrm at n2; grind);refine uH (cO p1 p2) ?_
   by_cases c:x.b * y.a * (x.b * y.a) < x.a * y.b * (x.a * y.b)
   ·exact c
   ·have:=jG (a:=x.b * y.a * (x.b * y.a) - x.a * y.b * (x.a * y.b)) (b:=r) (by grind) (Std.le_of_lt hr)
    grind
 ·refine .inr ⟨?_,?_⟩
  ·have:=cO (a:=-nrm x) (b:=nrm y) (by grind) n2; grind
  ·have q:=sU (dz x.a) (show x.a * x.a < x.b * x.b * r by unfold nrm at n1; grind) ndd (show y.b * y.b * r < y.a * y.a by unfold nrm at n2; grind);have:0 < x.b * y.a + x.a * y.b:=by
    refine uH (cO p1 p2) ?_
    by_cases c:x.a * y.b * (x.a * y.b) < x.b * y.a * (x.b * y.a)
    ·exact c
    ·have:=jG (a:=x.a * y.b * (x.a * y.b) - x.b * y.a * (x.b * y.a)) (b:=r) (by grind) (Std.le_of_lt hr)
     grind
   grind
 ·refine .inl ⟨?_,?_⟩
  ·have:=cO (a:=-nrm x) (b:=-nrm y) (by grind) (by grind); grind
  ·have q:=sU (dz x.a) (show x.a * x.a < x.b * x.b * r by unfold nrm at n1; grind) (dz y.a) (show y.a * y.a < y.b * y.b * r by unfold nrm at n2; grind);have:0 < x.b * y.b * r + x.a * y.a:=uH (cO (cO p1 p2) hr) (by grind)
   grind
theorem QG (hn:∀z:F.C,z * z≠r) (hr:0 < r) {x y:Ext r} (h1:Pos x) (h2:Pos y):Pos (x + y):=by
 have rr:=cO hr hr;have nbb:=jG (dz x.b) (Std.le_of_lt hr);have ndd:=jG (dz y.b) (Std.le_of_lt hr);have mixed:∀x y:Ext r,(0 < nrm x/\0 < x.a)->(nrm y < 0/\0 < y.b)->Pos (x + y):=by
  intro x y ⟨n1,p1⟩ ⟨n2,p2⟩;have nbb:=jG (dz x.b) (Std.le_of_lt hr);have h0:x + y≠0:=fun z=>by
   have za:=congrArg Ext.a z;have zb:=congrArg Ext.b z;rw [jH,mZ] at za;rw [jJ,rP] at zb;have ea:y.a=-x.a:=by grind
   have eb:y.b=-x.b:=by grind
   unfold nrm at n1 n2;rw [ea,eb] at n2
   grind
  have n0:nrm (x + y)≠0:=fun z=>h0 (nrm_0 hn z);unfold Pos
  by_cases c:0 < nrm (x + y)
  ·refine .inl ⟨c,?_⟩;rw [jH]
   by_cases d:0 < x.a + y.a
   ·exact d
   ·exfalso;unfold nrm at n1 n2 c;rw [jH,jJ] at c;have nvv:=jG (dz (x.b + y.b)) (Std.le_of_lt hr);have u0:-(x.a + y.a)≠0:=fun z=>by
     have:x.a + y.a=0:=by grind
     rw [this] at c; grind
    have up:0 < -(x.a + y.a):=by grind
    have q:=sU nbb (show x.b * x.b * r < x.a * x.a by grind) nvv (show (x.b + y.b) * (x.b + y.b) * r < -(x.a + y.a) * -(x.a + y.a) by grind);have q2:=uH (p:=x.a * -(x.a + y.a)) (q:=x.b * (x.b + y.b) * r) (cO p1 up) (by grind)
    grind
  ·refine .inr ⟨by grind,?_⟩;rw [jJ]
   by_cases d:0 < x.b + y.b
   ·exact d
   ·exfalso;have c':nrm (x + y) < 0:=by grind
    unfold nrm at n1 n2 c';rw [jH,jJ] at c';have naa:=dz (x.a + y.a);have v0:-(x.b + y.b)≠0:=fun z=>by
     have:x.b + y.b=0:=by grind
     rw [this] at c'; grind
    have vp:0 < -(x.b + y.b):=by grind
    have q:=sU (dz y.a) (show y.a * y.a < y.b * y.b * r by grind) naa (show (x.a + y.a) * (x.a + y.a) < (x.b + y.b) * (x.b + y.b) * r by grind);have q2:=uH (p:=y.b * -(x.b + y.b) * r) (q:=y.a * (x.a + y.a)) (cO (cO p2 vp) hr) (by grind)
    grind
 rcases h1 with h1 | h1 <;> rcases h2 with h2 | h2
 ·obtain ⟨n1,p1⟩:=h1;obtain ⟨n2,p2⟩:=h2;refine .inl ⟨?_,by rw [jH]; grind⟩;unfold nrm at *;rw [jH,jJ];have q:=sU nbb (show x.b * x.b * r < x.a * x.a by grind) ndd (show y.b * y.b * r < y.a * y.a by grind);have q2:=uH (p:=x.a * y.a) (q:=-(x.b * y.b * r)) (cO p1 p2) (by grind)
  grind
 ·exact mixed x y h1 h2
 ·have:=mixed y x h2 h1
  rwa [Semiring.add_comm] at this
 ·obtain ⟨n1,p1⟩:=h1;obtain ⟨n2,p2⟩:=h2;refine .inr ⟨?_,by rw [jJ]; grind⟩;unfold nrm at *;rw [jH,jJ];have q:=sU (dz x.a) (show x.a * x.a < x.b * x.b * r by grind) (dz y.a) (show y.a * y.a < y.b * y.b * r by grind);have q2:=uH (p:=x.b * y.b * r) (q:=-(x.a * y.a)) (cO (cO p1 p2) hr) (by grind)
  grind
theorem lt_def {x y:Ext r}:x < y↔Pos (y - x):=Iff.rfl
theorem kG' {x y:Ext r}:x<=y↔x=y\/Pos (y - x):=Iff.rfl
theorem QH (x y z:Ext r):(y - x) + (z - y)=z - x:=by grind
theorem linE (hn:∀z:F.C,z * z≠r) (hr:0 < r):Std.IsLinearOrder (Ext r) where
 le_refl x:=.inl rfl
 le_trans x y z h1 h2:=by
  rcases h1 with rfl | h1
  ·exact h2
  ·rcases h2 with rfl | h2
   ·exact .inr h1
   ·exact .inr (by have:=QG hn hr h1 h2; rwa [QH] at this)
 le_antisymm x y h1 h2:=by
  rcases h1 with rfl | h1
  ·rfl
  ·rcases h2 with rfl | h2
   ·rfl
   ·exact (IW h1 (by rwa [show -(y - x)=x - y by grind])).elim
 le_total x y:=by
  rcases tri hn hr (y - x) with z | z | z
  ·exact .inl (.inl (by grind))
  ·exact .inl (.inr z)
  ·exact .inr (.inr (by rwa [show -(y - x)=x - y by grind] at z))
theorem lltE:Std.LawfulOrderLT (Ext r) where
 lt_iff x y:=by
  constructor
  ·intro h;refine ⟨.inr h,fun z=>?_⟩;rcases z with rfl | z
   ·rw [lt_def,show y - y=0 by grind] at h; exact QF h
   ·exact IW h (by rwa [show -(y - x)=x - y by grind])
  ·intro ⟨h1,h2⟩;rcases h1 with rfl | h1
   ·exact (h2 (.inl rfl)).elim
   ·exact h1
theorem ordE (hn:∀z:F.C,z * z≠r) (hr:0 < r):@OrderedRing (Ext r) _ _ _ ((linE hn hr).toIsPartialOrder.toIsPreorder) :=
  letI:=(linE hn hr)
  { add_le_left_iff:=fun {a b} c=>by
      rw [kG',kG',show b + c - (a + c)=b - a by grind]
      constructor
      · rintro (rfl | h)
        · exact .inl rfl
        · exact .inr h
      · rintro (h | h)
        · exact .inl (by grind)
        · exact .inr h
    zero_lt_one:=by
      rw [lt_def];refine .inl ⟨?_,?_⟩
      · unfold nrm; rw [Dz,Iz,mY,dk',mZ,rP];have:=OrderedRing.zero_lt_one (R:=F.C)
        grind
      · rw [Dz,mY,mZ]; have:=OrderedRing.zero_lt_one (R:=F.C); grind
    mul_lt_mul_of_pos_left:=fun {a b c} h1 h2=>by
      rw [lt_def] at *;have:=I_ hr h2 h1
      rwa [show (c - 0) * (b - a)=c * b - c * a by grind] at this
    mul_lt_mul_of_pos_right:=fun {a b c} h1 h2=>by
      rw [lt_def] at *;have:=I_ hr h2 h1
      rwa [show (c - 0) * (b - a)=b * c - a * c by grind] at this }
end
end Ext
noncomputable def aH (F:OF) (r:F.C) (hr:0 < r) (hn:∀z:F.C,z * z≠r):OF where
 C:=Ext r
 fld:=Ext.fieldE hn
 le:=inferInstance
 lt:=inferInstance
 llt:=Ext.lltE
 lin:=Ext.linE hn hr
 ord:=Ext.ordE hn hr
noncomputable def ratOF:OF where
 C:=Rat
 fld:=inferInstance
 le:=inferInstance
 lt:=inferInstance
 llt:=inferInstance
 lin:=inferInstance
 ord:=inferInstance
end Mine
namespace Mine
open PySem DL L2
open Lean.Grind
noncomputable def aR {F:OF} (of:List Int->F.C) (r:List Int) (hr:0 < of r) (hn:∀z:F.C,z * z≠of r):List Int->(aH F (of r) hr hn).C:=fun x=>(⟨of (aQ x),of (aU x)⟩:Ext (of r))
inductive Tow:(rs:List (List Int))->(F:OF)->(List Int->F.C)->Prop
 | nil:Tow [] ratOF (fun x=>(((x.headD 0:Int):Rat)))
 | cons {rs:List (List Int)} {F:OF} {of:List Int->F.C} (T:Tow rs F of) (r:List Int) (hl:r.length=2 ^ rs.length) (hr:0 < of r) (hn:∀z:F.C,z * z≠of r) :
   Tow (r :: rs) (aH F (of r) hr hn) (aR of r hr hn)
theorem Tow.sc {rs:List (List Int)} {F:OF} {of:List Int->F.C} (T:Tow rs F of):Sc rs:=by
 induction T with
 | nil=>trivial
 | cons T r hl hr hn ih=>exact ⟨hl,ih⟩
theorem QJ {x y:List Int} (h:x.length=y.length):aQ (bI x y)=bI (aQ x) (aQ y):=by
 have hl:(bI x y).length=x.length:=by unfold bI; rw [length_zipWith]; omega
 unfold aQ;rw [hl,<- h];unfold bI;rw [take_zipWith]
theorem QK {x y:List Int} (h:x.length=y.length):aU (bI x y)=bI (aU x) (aU y):=by
 have hl:(bI x y).length=x.length:=by unfold bI; rw [length_zipWith]; omega
 unfold aU;rw [hl,<- h];unfold bI;rw [drop_zipWith]
theorem rQ {a b:List Int} (h:a.length=b.length):aQ (a ++ b)=a:=by
 unfold aQ;rw [length_append,<- h,show (a.length + a.length) / 2=a.length by omega,take_left'];rfl
theorem rR {a b:List Int} (h:a.length=b.length):aU (a ++ b)=b:=by
 unfold aU;rw [length_append,<- h,show (a.length + a.length) / 2=a.length by omega,drop_left'];rfl
theorem QL (f:Int->Int) (x:List Int):aQ (x.map f)=(aQ x).map f:=by unfold aQ; rw [length_map,map_take]
theorem mg' (f:Int->Int) (x:List Int):aU (x.map f)=(aU x).map f:=by unfold aU; rw [length_map,map_drop]
theorem DP (x:List Int):aQ x ++ aU x=x:=take_append_drop _ x
section
variable {rs:List (List Int)} {F:OF} {of:List Int->F.C}
theorem uI (T:Tow rs F of):∀{x y:List Int},x.length=2 ^ rs.length->y.length=2 ^ rs.length->of (bI x y)=of x + of y:=by
 induction T with
 | nil =>
  intro x y hx hy
  match x,y,hx,hy with
  | [a],[b],_,_=>exact Rat.intCast_add a b
 | @cons rs F of T r hl hr hn ih =>
  intro x y hx hy;refine Ext.eqs (r:=of r) ?_ ?_
  ·show of (aQ (bI x y))=of (aQ x) + of (aQ y);rw [QJ (hx.trans hy.symm),ih (iC hx) (iC hy)]
  ·show of (aU (bI x y))=of (aU x) + of (aU y);rw [QK (hx.trans hy.symm),ih (jb hx) (jb hy)]
theorem vW (T:Tow rs F of):∀{x y:List Int},x.length=2 ^ rs.length->y.length=2 ^ rs.length->of (pt rs x y)=of x * of y:=by
 induction T with
 | nil =>
  intro x y hx hy
  match x,y,hx,hy with
  | [a],[b],_,_=>exact Rat.intCast_mul a b
 | @cons rs F of T r hl hr hn ih =>
  intro x y hx hy;have S:=T.sc;have a:=iC hx;have b:=jb hx;have c:=iC hy;have d:=jb hy;have l1:=dM rs _ _ S a c;have l2:=dM rs _ _ S (dM rs _ _ S b d) hl;have l3:=dM rs _ _ S a d;have l4:=dM rs _ _ S b c;have f1:=mX l1 l2;have f2:=mX l3 l4;refine Ext.eqs (r:=of r) ?_ ?_
  ·show of (aQ (pt (r :: rs) x y))=of (aQ x) * of (aQ y) + of (aU x) * of (aU y) * of r;rw [pt,rQ (f1.trans f2.symm),uI T l1 l2,ih a c,ih (dM rs _ _ S b d) hl,ih b d]
  ·show of (aU (pt (r :: rs) x y))=of (aQ x) * of (aU y) + of (aU x) * of (aQ y);rw [pt,rR (f1.trans f2.symm),uI T l3 l4,ih a d,ih b c]
theorem jK (T:Tow rs F of) (k:Int):∀{x:List Int},x.length=2 ^ rs.length->of (x.map (k * ·))=(k:F.C) * of x:=by
 induction T with
 | nil =>
  intro x hx
  match x,hx with
  | [a],_=>exact Rat.intCast_mul k a
 | @cons rs F of T r hl hr hn ih =>
  intro x hx;refine Ext.eqs (r:=of r) ?_ ?_
  ·show of (aQ (x.map (k * ·)))=(k:F.C) * of (aQ x) + (0:F.C) * of (aU x) * of r;rw [QL,ih (iC hx)]; grind
  ·show of (aU (x.map (k * ·)))=(k:F.C) * of (aU x) + (0:F.C) * of (aQ x);rw [mg',ih (jb hx)]; grind
theorem QM (T:Tow rs F of):∀{x y:List Int},x.length=2 ^ rs.length->y.length=2 ^ rs.length->of x=of y->x=y:=by
 induction T with
 | nil =>
  intro x y hx hy e
  match x,y,hx,hy with
  | [a],[b],_,_=>have:a=b:=Rat.intCast_inj.mp e; rw [this]
 | @cons rs F of T r hl hr hn ih =>
  intro x y hx hy e;have q1:of (aQ x)=of (aQ y):=congrArg (Ext.a (r:=of r)) e;have q2:of (aU x)=of (aU y):=congrArg (Ext.b (r:=of r)) e;have w1:=ih (iC hx) (iC hy) q1;have w2:=ih (jb hx) (jb hy) q2;rw [<- DP x,<- DP y,w1,w2]
theorem xP (T:Tow rs F of) {x:List Int} (hx:x.length=2 ^ rs.length):of (x.map fun t=>-t)=-of x:=by
 rw [<- Qy,jK T (-1) hx,Ring.intCast_neg];have:((1:Int):F.C)=1:=Ring.intCast_one;rw [this]; grind
theorem mz (T:Tow rs F of):∀(k:Int),of (k :: List.replicate (2 ^ rs.length - 1) 0)=(k:F.C):=by
 induction T with
 | nil=>intro k; rfl
 | @cons rs F of T r hl hr hn ih =>
  intro k;have p:=Nat.two_pow_pos rs.length;have e:k :: List.replicate (2 ^ (r :: rs).length - 1) 0=(k :: List.replicate (2 ^ rs.length - 1) 0) ++ (0 :: List.replicate (2 ^ rs.length - 1) 0):=by
   rw [cons_append]
   congr 1
   rw [<- replicate_succ,replicate_append_replicate]
   congr 1
   rw [length_cons,Nat.pow_succ]; omega
  rw [e];refine Ext.eqs (r:=of r) ?_ ?_
  ·show of (aQ _)=(k:F.C);rw [rQ (by simp),ih]
  ·show of (aU _)=(0:F.C);rw [rR (by simp),ih]; exact Ring.intCast_zero
theorem vX (T:Tow rs F of):of (List.replicate (2 ^ rs.length) 0)=0:=by
 have:=mz T 0;rw [Ring.intCast_zero] at this;rw [<- this]
 congr 1
 rw [<- replicate_succ]
 congr 1
 have p:=Nat.two_pow_pos rs.length;omega
theorem jX (T:Tow rs F of):∀{k:Int},0 < k->0 < (k:F.C):=by
 intro k hk;obtain ⟨n,rfl⟩:=Int.eq_ofNat_of_zero_le (Int.le_of_lt hk);rw [Ring.intCast_natCast];have:∀n:Nat,0 < ((n + 1:Nat):F.C):=by
  intro n
  induction n with
  | zero =>
   have h1:=OrderedRing.zero_lt_one (R:=F.C);have e:((0 + 1:Nat):F.C)=1:=Semiring.natCast_one;rw [e]; exact h1
  | succ n ih =>
   have h1:=OrderedRing.zero_lt_one (R:=F.C);rw [Semiring.natCast_succ]
   grind
 match n,hk with
 | n + 1,_=>exact this n
theorem as' (T:Tow rs F of) {k:Int} (h:k≠0):(k:F.C)≠0:=by
 rcases Int.lt_or_gt_of_ne h with c | c
 ·have:=jX T (k:=-k) (by omega);rw [Ring.intCast_neg] at this
  grind
 ·have:=jX T c
  grind
end
theorem Ext.pos0 {F:OF} {r:F.C} (x:Ext r):(0:Ext r) < x↔Ext.Pos x:=by
 rw [Ext.lt_def,show x - 0=x by grind]
theorem QR {F:OF} {r:F.C} {hr:0 < r} {hn:∀z:F.C,z * z≠r} (x:(aH F r hr hn).C):0 < x↔Ext.Pos (r:=r) x:=Ext.pos0 (r:=r) x
open Classical in
theorem DQ {F:OF} {r:F.C} {hr:0 < r} {hn:∀z:F.C,z * z≠r} (x:(aH F r hr hn).C) :
  sgn x=if sgn (Ext.a x)=sgn (Ext.b x)\/sgn (Ext.b x)=0 then sgn (Ext.a x) else if sgn (Ext.a x)=0 then sgn (Ext.b x) else sgn (Ext.a x) * sgn (Ext.nrm x):=by
 have x0:x=0↔(Ext.a x=0/\Ext.b x=0):=⟨fun h=>by rw [h]; exact ⟨rfl,rfl⟩,fun h=>Ext.eqs h.1 h.2⟩;have xp:0 < x↔(0 < Ext.nrm x/\0 < Ext.a x)\/(Ext.nrm x < 0/\0 < Ext.b x):=QR x;have n0:Ext.nrm x=0->x=0:=fun h=>Ext.nrm_0 hn h;have nd:Ext.nrm x=Ext.a x * Ext.a x - Ext.b x * Ext.b x * r:=rfl;have bb:=jG (dz (Ext.b x)) (Std.le_of_lt hr);have aa:=dz (Ext.a x);have hs:sgn x=if Ext.nrm x=0 then 0 else if 0 < Ext.nrm x then sgn (Ext.a x) else sgn (Ext.b x):=by
  rcases my (Ext.nrm x) with ⟨h,e⟩ | ⟨h,e⟩ | ⟨h,e⟩
  ·rw [if_pos h]; exact sgn_0.mpr (n0 h)
  ·have h':Ext.nrm x≠0:=by grind
   have a0:Ext.a x≠0:=fun z=>by rw [nd,z] at h; grind
   have hx:x≠0:=fun z=>a0 (x0.mp z).1;rw [if_neg h',if_pos h];rcases my (Ext.a x) with ⟨h2,e2⟩ | ⟨h2,e2⟩ | ⟨h2,e2⟩
   ·exact (a0 h2).elim
   ·rw [e2]; exact sgn_p.mpr (xp.mpr (.inl ⟨h,h2⟩))
   ·rw [e2]; refine sgn_n.mpr ?_;have:¬0 < x:=fun z=>by rcases xp.mp z with q | q <;> grind
    grind
  ·have h':Ext.nrm x≠0:=by grind
   have h'':¬0 < Ext.nrm x:=by grind
   have b0:Ext.b x≠0:=fun z=>by rw [nd,z] at h; grind
   have hx:x≠0:=fun z=>b0 (x0.mp z).2;rw [if_neg h',if_neg h''];rcases my (Ext.b x) with ⟨h2,e2⟩ | ⟨h2,e2⟩ | ⟨h2,e2⟩
   ·exact (b0 h2).elim
   ·rw [e2]; exact sgn_p.mpr (xp.mpr (.inr ⟨h,h2⟩))
   ·rw [e2]; refine sgn_n.mpr ?_;have:¬0 < x:=fun z=>by rcases xp.mp z with q | q <;> grind
    grind
 rw [hs];have cb:Ext.b x=0->Ext.nrm x=Ext.a x * Ext.a x:=fun z=>by rw [nd,z]; grind
 have ca:Ext.a x=0->Ext.nrm x=-(Ext.b x * Ext.b x * r):=fun z=>by rw [nd,z]; grind
 rcases my (Ext.a x) with ⟨ha,ea⟩ | ⟨ha,ea⟩ | ⟨ha,ea⟩ <;> rcases my (Ext.b x) with ⟨hb,eb⟩ | ⟨hb,eb⟩ | ⟨hb,eb⟩ <;> rcases my (Ext.nrm x) with ⟨h,e⟩ | ⟨h,e⟩ | ⟨h,e⟩ <;> rw [ea,eb,e] <;>
  first
  | (have:=n0 h; have:=x0.mp this; grind)
  | (rw [if_neg (show ¬Ext.nrm x=0 by grind)]; first | (rw [if_pos h]; rfl) | (rw [if_neg (show ¬0 < Ext.nrm x by grind)]; rfl))
  | (have c1:=cb hb; have:=Iw (a:=Ext.a x) (by grind); grind)
  | (have c1:=ca ha; have:=cO (Iw (a:=Ext.b x) (by grind)) hr; grind)
  | (have c1:=cb hb; grind)
  | (have c1:=ca ha; grind)
  | (rw [if_pos h]; rfl)
theorem QS {x y:List Int} {b c:Int} (hx:Nf x b) (hy:Nf y c) (e:x.map (c * ·)=y.map (b * ·)):x=y/\b=c:=by
 have e1:=xH c x b.natAbs;have e2:=xH b y c.natAbs;rw [hx.one,e,Nat.mul_comm] at e1;rw [hy.one] at e2;have p1:=hx.pos;have p2:=hy.pos;have:b=c:=by omega
 subst this;refine ⟨?_,rfl⟩;have inj:∀(x y:List Int),x.map (b * ·)=y.map (b * ·)->x=y:=by
  intro x
  induction x with
  | nil=>intro y h; cases y with | nil=>rfl | cons _ _=>simp at h
  | cons a x ih =>
   intro y h
   cases y with
   | nil=>simp at h
   | cons a' y =>
    simp only [map_cons,List.cons.injEq] at h;rw [Int.eq_of_mul_eq_mul_left (by omega) h.1,ih y h.2]
 exact inj x y e
noncomputable def Nm {F:OF} (of:List Int->F.C) (k n:Nat) (d:D) (v:F.C):Prop :=
 ∃x b,d=num x b/\Nf x b/\x.length=2 ^ k/\Bd n x/\b.natAbs < 2 ^ n/\v=of x / (b:F.C)
section
variable {rs:List (List Int)} {F:OF} {of:List Int->F.C}
theorem Nm.mono {k n m:Nat} {d:D} {v:F.C} (h:Nm of k n d v) (e:n<=m):Nm of k m d v:=by
 obtain ⟨x,b,h1,h2,h3,h4,h5,h6⟩:=h;exact ⟨x,b,h1,h2,h3,h4.mono e,Nat.lt_of_lt_of_le h5 (Nat.pow_le_pow_right (by decide) e),h6⟩
theorem QT {a b c d:F.C} (hb:b≠0) (hd:d≠0) (h:a / b=c / d):d * a=b * c:=by grind
theorem jL (T:Tow rs F of) {n m:Nat} {d e:D} {v:F.C} (h1:Nm of rs.length n d v) (h2:Nm of rs.length m e v):d=e:=by
 obtain ⟨x,b,rfl,nx,lx,_,_,ex⟩:=h1;obtain ⟨y,c,rfl,ny,ly,_,_,ey⟩:=h2;have pb:=nx.pos;have pc:=ny.pos;have b0:=as' T (show b≠0 by omega);have c0:=as' T (show c≠0 by omega);have e:=QT b0 c0 (ex.symm.trans ey);rw [<- jK T c lx,<- jK T b ly] at e;obtain ⟨rfl,rfl⟩:=QS nx ny (QM T (by simpa using lx) (by simpa using ly) e);rfl
open Classical in
theorem oT' (T:Tow rs F of) {n m:Nat} {d e:D} {v w:F.C} (h1:Nm of rs.length n d v) (h2:Nm of rs.length m e w):gO d e=.ok (.bl (decide (v=w))):=by
 by_cases c:v=w
 ·subst c;have:=jL T h1 h2;subst this;obtain ⟨x,b,rfl,_⟩:=h1;rw [iq']; simp
 ·obtain ⟨x,b,rfl,nx,lx,_,_,ex⟩:=h1;obtain ⟨y,b',rfl,ny,ly,_,_,ey⟩:=h2;rw [iq'];have:¬(x=y/\b=b'):=fun z=>c (by rw [ex,ey,z.1,z.2]);simp only [c,decide_false]
  congr 2
  simpa using this
open Classical in
theorem QV (T:Tow rs F of) {n m:Nat} {d e:D} {v w:F.C} (h1:Nm of rs.length n d v) (h2:Nm of rs.length m e w):jC d e=.ok (.bl (!decide (v=w))):=by
 have h:=oT' T h1 h2;obtain ⟨x,b,rfl,nx,lx,_,_,ex⟩:=h1;obtain ⟨y,b',rfl,ny,ly,_,_,ey⟩:=h2;rw [iq'] at h;rw [Qt];injection h with h
 injection h with h
 rw [h]
theorem ca' (T:Tow rs F of) {ts:List Int} {b:Int} {n:Nat} (hl:ts.length=2 ^ rs.length) (hb:b≠0) (h1:Bd n ts) (h2:b.natAbs < 2 ^ n) :
  ∃K x c,K≠0/\ts=x.map (K * ·)/\b=K * c/\Nf x c/\x.length=2 ^ rs.length/\K.natAbs < 2 ^ n/\Nm of rs.length n (num x c) (of ts / (b:F.C)):=by
 obtain ⟨K,x,c,k0,e1,e2,nf,el⟩:=Qn ts hb;have cp:=nf.pos;have xl:x.length=2 ^ rs.length:=el.trans hl;have kb:K.natAbs < 2 ^ n:=by
  rw [e2,Int.natAbs_mul] at h2;exact Nat.lt_of_le_of_lt (Nat.le_mul_of_pos_right _ (by omega)) h2
 refine ⟨K,x,c,k0,e1,e2,nf,xl,kb,x,c,rfl,nf,xl,fun t ht=>?_,?_,?_⟩
 ·have:=h1 (K * t) (by rw [e1]; exact mem_map.mpr ⟨t,ht,rfl⟩);rw [Int.natAbs_mul] at this;exact Nat.lt_of_le_of_lt (Nat.le_mul_of_pos_left _ (by omega)) this
 ·rw [e2,Int.natAbs_mul] at h2;exact Nat.lt_of_le_of_lt (Nat.le_mul_of_pos_left _ (by omega)) h2
 ·have kz:=as' T k0;have cz:=as' T (show c≠0 by omega);rw [e1,e2,jK T K xl,Ring.intCast_mul]
  grind
theorem QW (T:Tow rs F of) {n:Nat} (hn:0 < n):Nm of rs.length n (num (List.replicate (2 ^ rs.length) 0) 1) 0:=by
 have p:1 < 2 ^ n:=by
  have:=Nat.pow_le_pow_right (show 2 > 0 by decide) hn;have e:2 ^ (0 + 1)=2:=rfl;rw [e] at this; omega
 refine ⟨_,1,rfl,Qo _,by simp,fun t ht=>?_,p,?_⟩
 ·rw [eq_of_mem_replicate ht]; exact Nat.two_pow_pos n
 ·rw [vX T]; grind
theorem Be (T:Tow rs F of) {n:Nat} {k:Int} (hn:0 < n) (hk:k.natAbs < 2 ^ n):Nm of rs.length n (num (k :: List.replicate (2 ^ rs.length - 1) 0) 1) (k:F.C):=by
 have p:1 < 2 ^ n:=by
  have:=Nat.pow_le_pow_right (show 2 > 0 by decide) hn;have e:2 ^ (0 + 1)=2:=rfl;rw [e] at this; omega
 have q:=Nat.two_pow_pos rs.length;refine ⟨_,1,rfl,Ba _,by simp; omega,fun t ht=>?_,p,?_⟩
 ·rcases mem_cons.mp ht with z | z
  ·rw [z]; exact hk
  ·rw [eq_of_mem_replicate z]; exact Nat.two_pow_pos n
 ·rw [mz T];have:((1:Int):F.C)=1:=Ring.intCast_one;rw [this]; grind
theorem Nm.zero_iff (T:Tow rs F of) {n:Nat} {x:List Int} {b:Int} {v:F.C} (h:Nm of rs.length n (num x b) v):v=0↔zA x=true:=by
 have hz:=QW T (n:=1) (by decide)
 constructor
 ·intro e;subst e;have:=jL T h hz;obtain ⟨y,c,e,_,ly,_,_,_⟩:=h;simp only [num,D.tup.injEq,List.cons.injEq,D.int.injEq,and_true] at this;obtain ⟨q,_⟩:=this;unfold zA;have:∀t∈x,t=0:=fun t ht=>by
   have:D.int t∈(List.replicate (2 ^ rs.length) (0:Int)).map D.int:=by rw [<- q]; exact mem_map.mpr ⟨t,ht,rfl⟩
   obtain ⟨u,hu,e⟩:=mem_map.mp this;rw [eq_of_mem_replicate hu] at e;injection e with e; exact e.symm
  rw [all_eq_true];intro t ht; rw [this t ht]; rfl
 ·intro e;obtain ⟨y,c,e',ny,ly,_,_,ev⟩:=h;simp only [num,D.tup.injEq,List.cons.injEq,D.int.injEq,and_true] at e';have:x=y:=by
   have inj:∀(x y:List Int),x.map D.int=y.map D.int->x=y:=by
    intro x
    induction x with
    | nil=>intro y h; cases y with | nil=>rfl | cons _ _=>simp at h
    | cons a x ih =>
     intro y h
     cases y with
     | nil=>simp at h
     | cons a' y =>
      simp only [map_cons,List.cons.injEq,D.int.injEq] at h;rw [h.1,ih y h.2]
   exact inj _ _ e'.1
  subst this;have:x=List.replicate (2 ^ rs.length) 0:=by
   rw [<- ly];refine eq_replicate_iff.mpr ⟨rfl,fun t ht=>?_⟩;unfold zA at e;rw [all_eq_true] at e;have:=e t ht;simpa using this
  rw [ev,this,vX T]; grind
end
abbrev hd0:List Int->ratOF.C:=fun x=>(((x.headD 0:Int):Rat))
noncomputable def NS {F:OF} (d:F.C):Prop:=∀z:F.C,z * z≠d
theorem mk' {n r:Int} (hr:0<=r) (h1:r * r < n) (h2:n < (r + 1) * (r + 1)) (z:Rat):z * z≠(n:Rat):=by
 intro e;have hd:((z.den:Int):Rat)≠0:=fun q=>z.den_nz (by have:=Rat.intCast_eq_zero_iff.mp q; omega);have hz:z * ((z.den:Int):Rat)=(z.num:Rat):=by
  have:=Rat.num_divInt_den z;rw [Rat.divInt_eq_div] at this
  grind
 have e2:((z.num * z.num:Int):Rat)=(((z.den:Int) * (z.den:Int) * n:Int):Rat):=by
  rw [Rat.intCast_mul,Rat.intCast_mul,Rat.intCast_mul,<- hz,<- e]
  grind
 have:=Dy hr h1 h2 (Rat.intCast_inj.mp e2);have:=z.den_nz;omega
theorem gd' {n r:Int} (hr:0<=r) (h1:r * r < n) (h2:n < (r + 1) * (r + 1)):NS (F:=ratOF) ((n:Int):Rat):=mk' hr h1 h2
section
variable {F:OF} {r:F.C} {hr:0 < r} {hn:∀z:F.C,z * z≠r}
noncomputable def iR (hr:0 < r) (hn:∀z:F.C,z * z≠r) (a b:F.C):(aH F r hr hn).C:=(⟨a,b⟩:Ext r)
theorem xQ {d:F.C} (h1:NS d) (h2:NS (d * r)):NS (iR hr hn d 0):=by
 intro z e;have ea:Ext.a (r:=r) z * Ext.a z + Ext.b z * Ext.b z * r=d:=congrArg (Ext.a (r:=r)) e;have eb:Ext.a (r:=r) z * Ext.b z + Ext.b z * Ext.a z=0:=congrArg (Ext.b (r:=r)) e;generalize Ext.a (r:=r) z=a at *;generalize Ext.b (r:=r) z=b at *;have t:a * b=0:=by
  have:(2:F.C)≠0:=by
   have:=OrderedRing.zero_lt_one (R:=F.C)
   grind
  have q:(2:F.C) * (a * b)=0:=by grind
  rcases u9 q with q | q
  ·exact (this q).elim
  ·exact q
 rcases u9 t with q | q
 ·exact h2 (b * r) (by subst q; grind)
 ·exact h1 a (by subst q; grind)
theorem Ja {d:Ext r} (h:Ext.nrm d < 0):NS (F:=aH F r hr hn) d:=by
 intro z e;have:Ext.nrm (r:=r) z * Ext.nrm z=Ext.nrm d:=(Ext.nrm_mul (r:=r) z z).symm.trans (congrArg (Ext.nrm (r:=r)) e);have:=dz (Ext.nrm (r:=r) z)
 grind
theorem xR {a b:F.C} (ha:0<=a) (hb:0 < b):0 < iR hr hn a b:=by
 have es:=DQ (iR hr hn a b);have eb:sgn b=1:=sgn_p.mpr hb;have es':sgn (iR hr hn a b)=if sgn a=sgn b\/sgn b=0 then sgn a else if sgn a=0 then sgn b else sgn a * sgn (Ext.nrm (⟨a,b⟩:Ext r)):=es
 refine sgn_p.mp ?_;rw [es',eb];rcases my a with ⟨h,e⟩ | ⟨h,e⟩ | ⟨h,e⟩
 ·rw [e]; rfl
 ·rw [e]; rfl
 ·exfalso; grind
theorem vd {a:F.C} (ha:0 < a):0 < iR hr hn a 0:=by
 have es:=DQ (iR hr hn a 0);have ea:sgn a=1:=sgn_p.mpr ha;have e0:sgn (0:F.C)=0:=sgn_0.mpr rfl;have es':sgn (iR hr hn a 0)=if sgn a=sgn (0:F.C)\/sgn (0:F.C)=0 then sgn a else if sgn a=0 then sgn (0:F.C) else sgn a * sgn (Ext.nrm (⟨a,0⟩:Ext r)):=es
 refine sgn_p.mp ?_;rw [es',ea,e0]; rfl
end
noncomputable def cJ (rs:List (List Int)):Prop:=∃(F:OF) (of:List Int->F.C),Tow rs F of
theorem Jb {m r:Int} (hr:0<=r) (h1:r * r < m) (h2:m < (r + 1) * (r + 1)):∃(hp:0 < hd0 [m]) (hn:∀z:ratOF.C,z * z≠hd0 [m]),Tow [[m]] (aH ratOF (hd0 [m]) hp hn) (aR hd0 [m] hp hn):=by
 have hp:0 < hd0 [m]:=by
  have:0 < m:=Int.lt_of_le_of_lt (Int.mul_nonneg hr hr) h1;exact (Rat.intCast_pos.mpr this:(0:Rat) < ((m:Int):Rat))
 exact ⟨hp,gd' hr h1 h2,Tow.cons Tow.nil [m] rfl hp (gd' hr h1 h2)⟩
theorem vf {a b:Int} (h:a < b):((a:Int):Rat) < ((b:Int):Rat):=Rat.intCast_lt_intCast.mpr h
theorem QX {a b:Int} (h:a<=b):((a:Int):Rat)<=((b:Int):Rat):=Rat.intCast_le_intCast.mpr h
theorem DR (a b:Int):aQ [a,b]=[a]:=by simp [aQ]
theorem DW (a b:Int):aU [a,b]=[b]:=by simp [aU]
theorem xT (a b c d:Int):aQ [a,b,c,d]=[a,b]:=by simp [aQ]
theorem xU (a b c d:Int):aU [a,b,c,d]=[c,d]:=by simp [aU]
theorem DX {F:OF} {of:List Int->F.C} {r:List Int} {hr:0 < of r} {hn:∀z:F.C,z * z≠of r} {x y z:List Int} (h1:aQ x=y) (h2:aU x=z):aR of r hr hn x=iR hr hn (of y) (of z):=by subst h1 h2; rfl
theorem jc {m:Int} {hp:0 < hd0 [m]} {hn:∀z:ratOF.C,z * z≠hd0 [m]} (a b:Int):aR hd0 [m] hp hn [a,b]=iR hp hn ((a:Int):Rat) ((b:Int):Rat):=DX (DR a b) (DW a b)
theorem QZ {m r c b e k:Int} (hr:0 < r) (h1:r * r < m) (h2:m < (r + 1) * (r + 1)) (hb:0 < b) (hc0:0<=c) (hc:c<=b * r) (he:0<=e) (hk:e < k):cJ [[m]]/\cJ [[c,b],[m]]/\cJ [[e,0,k,0],[c,b],[m]]:=by
 obtain ⟨hp,hn,T1⟩:=Jb (Int.le_of_lt hr) h1 h2;have T1':cJ [[m]]:=⟨_,_,T1⟩;have m1:1 < m:=by
  have:=Int.mul_le_mul (show 1<=r by omega) (show 1<=r by omega) (by decide) (by omega);omega
 have p2:0 < aR (F:=ratOF) hd0 [m] hp hn [c,b]:=by rw [jc]; exact xR (F:=ratOF) (QX hc0) (vf hb)
 have n2:Ext.nrm (F:=ratOF) (r:=((m:Int):Rat)) ⟨((c:Int):Rat),((b:Int):Rat)⟩ < (0:Rat):=by
  have q:c * c - b * b * m < 0:=by
   have q1:=Int.mul_le_mul hc hc hc0 (Int.mul_nonneg (Int.le_of_lt hb) (Int.le_of_lt hr));have q2:=Int.mul_lt_mul_of_pos_left h1 (Int.mul_pos hb hb);have e1:b * r * (b * r)=b * b * (r * r):=by grind
   omega
  have:=vf q;rw [show ((c * c - b * b * m:Int):Rat)=((c:Int):Rat) * ((c:Int):Rat) - ((b:Int):Rat) * ((b:Int):Rat) * ((m:Int):Rat) by rw [Rat.intCast_sub,Rat.intCast_mul,Rat.intCast_mul,Rat.intCast_mul]] at this;exact this
 have s2:NS (aR (F:=ratOF) hd0 [m] hp hn [c,b]):=by rw [jc]; exact Ja (F:=ratOF) n2
 have T2:=Tow.cons T1 [c,b] rfl p2 s2;refine ⟨T1',⟨_,_,T2⟩,?_⟩;have e4:aQ [e,0,k,0]=[e,0]:=xT ..;have e5:aU [e,0,k,0]=[k,0]:=xU ..;have pk:0 < aR (F:=ratOF) hd0 [m] hp hn [k,0]:=by
  rw [jc]; exact vd (F:=ratOF) (vf (show 0 < k by omega))
 have pe:0<=aR (F:=ratOF) hd0 [m] hp hn [e,0]:=by
  by_cases z:e=0
  ·subst z;have:aR (F:=ratOF) hd0 [m] hp hn [0,0]=0:=by rw [jc]; exact Ext.eqs (F:=ratOF) rfl rfl
   rw [this]; exact Std.le_refl _
  ·rw [jc]; exact Std.le_of_lt (vd (F:=ratOF) (vf (show 0 < e by omega)))
 have p3:=xR (F:=aH ratOF _ hp hn) (r:=aR (F:=ratOF) hd0 [m] hp hn [c,b]) (hr:=p2) (hn:=s2) pe pk;have n3:Ext.nrm (F:=aH ratOF _ hp hn) (r:=aR (F:=ratOF) hd0 [m] hp hn [c,b]) ⟨aR (F:=ratOF) hd0 [m] hp hn [e,0],aR (F:=ratOF) hd0 [m] hp hn [k,0]⟩ < 0:=by
  have ne_:aR (F:=ratOF) hd0 [m] hp hn [e,0]=((e:Int):(aH ratOF _ hp hn).C):=mz T1 e;have nk_:aR (F:=ratOF) hd0 [m] hp hn [k,0]=((k:Int):(aH ratOF _ hp hn).C):=mz T1 k;have nm_:aR (F:=ratOF) hd0 [m] hp hn [m,0]=((m:Int):(aH ratOF _ hp hn).C):=mz T1 m;have nc_:aR (F:=ratOF) hd0 [m] hp hn [c,0]=((c:Int):(aH ratOF _ hp hn).C):=mz T1 c;have hs:∃s:(aH ratOF _ hp hn).C,0 < s/\s * s=((m:Int):(aH ratOF _ hp hn).C)/\aR (F:=ratOF) hd0 [m] hp hn [c,b]=((c:Int):(aH ratOF _ hp hn).C) + ((b:Int):(aH ratOF _ hp hn).C) * s:=by
   refine ⟨aR (F:=ratOF) hd0 [m] hp hn [0,1],by rw [jc]; exact xR (F:=ratOF) (Std.le_refl _) (vf (by decide)),?_,?_⟩
   ·rw [<- nm_,jc,jc];refine Ext.eqs (F:=ratOF) ?_ ?_
    ·show ((0:Int):Rat) * ((0:Int):Rat) + ((1:Int):Rat) * ((1:Int):Rat) * ((m:Int):Rat)=((m:Int):Rat);rw [show ((0:Int):Rat)=0 from rfl,show ((1:Int):Rat)=1 from rfl]; grind
    ·show ((0:Int):Rat) * ((1:Int):Rat) + ((1:Int):Rat) * ((0:Int):Rat)=((0:Int):Rat);rw [show ((0:Int):Rat)=0 from rfl,show ((1:Int):Rat)=1 from rfl]; grind
   ·rw [jc,jc];refine Ext.eqs (F:=ratOF) ?_ ?_
    ·show ((c:Int):Rat)=((c:Int):Rat) + (((b:Int):Rat) * ((0:Int):Rat) + (0:Rat) * ((1:Int):Rat) * ((m:Int):Rat));rw [show ((0:Int):Rat)=0 from rfl]; grind
    ·show ((b:Int):Rat)=(0:Rat) + (((b:Int):Rat) * ((1:Int):Rat) + (0:Rat) * ((0:Int):Rat));rw [show ((0:Int):Rat)=0 from rfl,show ((1:Int):Rat)=1 from rfl]; grind
  obtain ⟨s,sp,ss,hv⟩:=hs;unfold Ext.nrm;dsimp only;rw [ne_,nk_,hv];have cm1:(1:(aH ratOF _ hp hn).C) < ((m:Int):(aH ratOF _ hp hn).C):=by
   have:=jX T1 (k:=m - 1) (by omega);rw [Ring.intCast_sub,Ring.intCast_one] at this; grind
  have cc0:0<=((c:Int):(aH ratOF _ hp hn).C):=by
   by_cases z:c=0
   ·rw [z,Ring.intCast_zero]; exact Std.le_refl _
   ·exact Std.le_of_lt (jX T1 (by omega))
  have ce0:0<=((e:Int):(aH ratOF _ hp hn).C):=by
   by_cases z:e=0
   ·rw [z,Ring.intCast_zero]; exact Std.le_refl _
   ·exact Std.le_of_lt (jX T1 (by omega))
  have cek:((e:Int):(aH ratOF _ hp hn).C) < ((k:Int):(aH ratOF _ hp hn).C):=by
   have:=jX T1 (k:=k - e) (by omega);rw [Ring.intCast_sub] at this; grind
  have cb1:1<=((b:Int):(aH ratOF _ hp hn).C):=by
   by_cases z:b=1
   ·rw [z,Ring.intCast_one]; exact Std.le_refl _
   ·have:=jX T1 (k:=b - 1) (by omega);rw [Ring.intCast_sub,Ring.intCast_one] at this; grind
  generalize ((m:Int):(aH ratOF _ hp hn).C)=M at *;generalize ((c:Int):(aH ratOF _ hp hn).C)=A at *;generalize ((b:Int):(aH ratOF _ hp hn).C)=B at *;generalize ((e:Int):(aH ratOF _ hp hn).C)=E at *;generalize ((k:Int):(aH ratOF _ hp hn).C)=K at *;have s1:1 < s:=by
   by_cases q:1 < s
   ·exact q
   ·have:=jG (a:=1 - s) (b:=1 + s) (by grind) (by grind)
    grind
  have bs:1 < B * s:=by
   have:=jG (a:=B - 1) (b:=s) (by grind) (by grind)
   grind
  have ee:=sU ce0 cek ce0 cek;have kk:=dz K;have q:=jG (a:=K * K) (b:=A + B * s - 1) kk (by grind)
  grind
 have ee:aR (aR hd0 [m] hp hn) [c,b] p2 s2 [e,0,k,0]=iR p2 s2 (aR hd0 [m] hp hn [e,0]) (aR hd0 [m] hp hn [k,0]):=DX e4 e5;exact ⟨_,_,Tow.cons T2 [e,0,k,0] rfl (by rw [ee]; exact p3) (by rw [ee]; exact Ja (F:=aH ratOF _ hp hn) n3)⟩
theorem vY {p q s:Int} (hp:0 < p) (hq:0 < q) (hs:0 < s) (h:∀n∈[p,q,q * p,s,s * p,s * q,s * q * p],∃r:Int,0<=r/\r * r < n/\n < (r + 1) * (r + 1)):cJ [[p]]/\cJ [[q,0],[p]]/\cJ [[s,0,0,0],[q,0],[p]]:=by
 have ns:∀n∈[p,q,q * p,s,s * p,s * q,s * q * p],NS (F:=ratOF) ((n:Int):Rat):=fun n hn=>by
  obtain ⟨r,a,b,c⟩:=h n hn;exact gd' a b c
 obtain ⟨r,a,b,c⟩:=h p (by simp);obtain ⟨h1,h2,T1⟩:=Jb a b c;have p2:0 < aR (F:=ratOF) hd0 [p] h1 h2 [q,0]:=by rw [jc]; exact vd (F:=ratOF) (vf hq)
 have n2:NS (aR (F:=ratOF) hd0 [p] h1 h2 [q,0]):=by
  rw [jc];exact xQ (F:=ratOF) (ns q (by simp)) (by
  have:=ns (q * p) (by simp);rw [Rat.intCast_mul] at this; exact this)
 have T2:=Tow.cons T1 [q,0] rfl p2 n2;refine ⟨⟨_,_,T1⟩,⟨_,_,T2⟩,?_⟩;have zz:aR (F:=ratOF) hd0 [p] h1 h2 [0,0]=0:=by rw [jc]; exact Ext.eqs (F:=ratOF) rfl rfl
 have p3:=vd (F:=aH ratOF _ h1 h2) (r:=aR (F:=ratOF) hd0 [p] h1 h2 [q,0]) (hr:=p2) (hn:=n2) (a:=aR (F:=ratOF) hd0 [p] h1 h2 [s,0]) (by rw [jc]; exact vd (F:=ratOF) (vf hs));have a1:NS (aR (F:=ratOF) hd0 [p] h1 h2 [s,0]):=by
  rw [jc];exact xQ (F:=ratOF) (ns s (by simp)) (by
  have:=ns (s * p) (by simp);rw [Rat.intCast_mul] at this; exact this)
 have a2:NS (aR (F:=ratOF) hd0 [p] h1 h2 [s,0] * aR (F:=ratOF) hd0 [p] h1 h2 [q,0]):=by
  have e:aR (F:=ratOF) hd0 [p] h1 h2 [s,0] * aR (F:=ratOF) hd0 [p] h1 h2 [q,0]=aR (F:=ratOF) hd0 [p] h1 h2 [s * q,0]:=by
   rw [jc,jc,jc];refine Ext.eqs (F:=ratOF) ?_ ?_
   ·show ((s:Int):Rat) * ((q:Int):Rat) + ((0:Int):Rat) * ((0:Int):Rat) * ((p:Int):Rat)=(((s * q:Int)):Rat);rw [Rat.intCast_mul,show ((0:Int):Rat)=0 from rfl]; grind
   ·show ((s:Int):Rat) * ((0:Int):Rat) + ((0:Int):Rat) * ((q:Int):Rat)=((0:Int):Rat);rw [show ((0:Int):Rat)=0 from rfl]; grind
  rw [e,jc];exact xQ (F:=ratOF) (ns (s * q) (by simp)) (by
   have:=ns (s * q * p) (by simp);rw [Rat.intCast_mul] at this; exact this)
 have n3:=xQ (F:=aH ratOF _ h1 h2) (r:=aR (F:=ratOF) hd0 [p] h1 h2 [q,0]) (hr:=p2) (hn:=n2) a1 a2;have ee:aR (F:=aH ratOF _ h1 h2) (aR (F:=ratOF) hd0 [p] h1 h2) [q,0] p2 n2 [s,0,0,0]=iR p2 n2 (aR (F:=ratOF) hd0 [p] h1 h2 [s,0]) 0:=(DX (xT s 0 0 0) (xU s 0 0 0)).trans (by rw [zz]);exact ⟨_,_,Tow.cons T2 [s,0,0,0] rfl (by rw [ee]; exact p3) (by rw [ee]; exact n3)⟩
end Mine
namespace DL
open PySem PySem.Spec PyProof.Rows L2
end DL
local macro_rules
 | `(tactic| push_cast [$xs,*]) => `(tactic| simp only [DL.ap_seq, DL.sq_nxt, DL.sq_ret, DL.sq_err, DL.ap_set, DL.on_ok, DL.on_err, DL.ont_ok, DL.onl_ok, DL.ap_if, DL.ap_two, DL.ap_bF, DL.ap_bT, DL.ap_bL, DL.ap_cons, DL.ap_tup, DL.ap_lst, DL.ap_ret, DL.ap_expr, DL.ap_neg, DL.neg_ok, DL.ap_notT, DL.ap_andT, DL.ap_orT, DL.ap_ifD, DL.ap_for, DL.ap_forR, DL.ap_slice, DL.ap_part, DL.ap_noPart, DL.part_int, DL.out_ret, DL.out_err, DL.cmp_ok, DL.add_ok, DL.sub_ok, DL.bool_ok, DL.truth_bl, DL.abs_ok, DL.len_tup, DL.len_lst, DL.tuple_lst, DL.seq_tup, DL.seq_lst, DL.vw_val, DL.vw_arg, DL.eqI, DL.neI, DL.bnd_ok, DL.bnd_err, DL.mulE_i, DL.sl0, DL.st0, DL.sl1, DL.st1, DL.sl2, DL.st2, DL.sl3, DL.st3, DL.sl4, DL.st4, DL.sl5, DL.st5, DL.sl6, DL.st6, DL.sl7, DL.st7, DL.sl8, DL.st8, DL.sl9, DL.st9, DL.sl10, DL.st10, DL.sl11, DL.st11, DL.tup1, DL.lst1, DL.tup2, DL.lst2, DL.tup3, DL.lst3, DL.tup4, DL.lst4, DL.lst5, DL.lst6, DL.ix_tup0, DL.ix_lst0, DL.ix_tup1, DL.ix_lst1, ↓reduceIte, decide_true, decide_false, Bool.not_true, Bool.not_false, Bool.false_eq_true, Int.reduceEq, Int.reduceNe, Int.reduceLT, Int.reduceLE, Nat.reduceAdd, DL.cN0, length_cons, length_nil, $xs,*])
namespace Mine
open PySem DL L2
open Lean.Grind
section
variable {F:OF} {r:F.C} {hr:0 < r} {hn:∀z:F.C,z * z≠r}
end
section
variable {rs:List (List Int)} {F:OF} {of:List Int->F.C}
theorem Q0 (T:Tow rs F of) {r:List Int} {hr:0 < of r} {hn:∀z:F.C,z * z≠of r} {q t:Int} (er:of r=((q:Int):F.C)) (h1:NS ((t:Int):F.C)) (h2:NS ((t * q:Int):F.C)):NS (F:=aH F (of r) hr hn) ((t:Int):(aH F (of r) hr hn).C):=by
 rw [Ring.intCast_mul,<- er] at h2;have:=xQ (hr:=hr) (hn:=hn) h1 h2;exact this
end
structure Hm {A B:OF} (φ:A.C->B.C):Prop where
 add:∀a b,φ (a + b)=φ a + φ b
 mul:∀a b,φ (a * b)=φ a * φ b
 int:∀n:Int,φ (n:A.C)=(n:B.C)
noncomputable def ev {A B:OF} (φ:A.C->B.C) (X:B.C):List A.C->B.C
 | []=>0
 | a :: p=>φ a + X * ev φ X p
noncomputable def inn {A:OF} (a:A.C):Nat->List A.C->List A.C->List A.C
 | _,[],W=>W
 | i,b :: Q,W=>inn a (i + 1) Q (W.modify i (· + a * b))
noncomputable def out {A:OF} (Q:List A.C):Nat->List A.C->List A.C->List A.C
 | _,[],W=>W
 | i,a :: P,W=>out Q (i + 1) P (inn a i Q W)
section
variable {A B:OF} {φ:A.C->B.C} {X:B.C}
theorem Hm.zero (h:Hm φ):φ 0=0:=by
 have:=h.int 0;rw [Ring.intCast_zero,Ring.intCast_zero] at this; exact this
theorem Jc:Hm (fun a:A.C=>a):=⟨fun _ _=>rfl,fun _ _=>rfl,fun _=>rfl⟩
end
section
variable {F:OF}
end
section
variable {F:OF} {s:F.C->F.C}
theorem Hm.neg (h:Hm s) (a:F.C):s (-a)=-s a:=by
 have h1:=h.add a (-a);have h0:=h.zero;rw [show a + -a=0 by grind,h0] at h1
 grind
theorem Hm.sub (h:Hm s) (a b:F.C):s (a - b)=s a - s b:=by
 rw [show a - b=a + -b by grind,h.add,h.neg]; grind
theorem Hm.one (h:Hm s):s 1=1:=by have:=h.int 1; rwa [Ring.intCast_one] at this
theorem Hm.two (h:Hm s):s 2=2:=by
 rw [show (2:F.C)=1 + 1 by grind,h.add,h.one]
abbrev wA (v0 v1 e k r:F.C):F.C:=(v0 * v0 + v1 * v1 * r) * e + (v0 * v1 + v1 * v0) * k * r
abbrev wB (v0 v1 e k r:F.C):F.C:=(v0 * v0 + v1 * v1 * r) * k + (v0 * v1 + v1 * v0) * e
end
section
variable {F:OF} {u0 u1 v0 v1 e k r u0' u1' v0' v1' r':F.C}
end
end Mine
set_option maxHeartbeats 4000000
open DL in
local macro_rules
 | `(‹$n:num›) => `(fun _=>Res.ok (D.int $n))
 | `(‹""›) => `(fun _=>Res.ok [])
 | `(‹"0"›) => `(⟨rfl,rfl,rfl,by decide +kernel,rfl,by decide +kernel,by decide +kernel⟩)
 | `(‹"1"›) => `(by decide +kernel)
open PySem PySem.Spec PyProof.Rows L2 DL in
local macro_rules
 | `(‹"a"›) => `(nQ (aL (two (aj 0) (aj 2) jC) aK) (aL (two (two (two (aj 3) (two ‹27› (two (aj 0) ‹1› aN) b_) aO) ‹3› bH) ‹0› (dZ fun i j=>decide (j < i))) aK))
 | `(‹"b"›) => `(aB 6 (bR (ak (two (bR (ak (two (two (two (aj 5) ‹4› aO) ‹3› bH) ‹1› fM) ‹""›)) (ao (ak (eF (ak ‹0› ‹""›) (two (aj 4) ‹1› fM)) ‹""›) cN) aN) (ak ‹1› ‹""›))))
 | `(‹"c"›) => `(ak (aj 1) (ak (aj 2) (ak (bR (ak (two (aj 0) (aj 3) bJ) (ak ‹1› ‹""›))) ‹""›)))
 | `(‹"B"›) => `(ak (aj 4) ‹""›)
 | `(‹"d"›) => `(aA (aB 4 (two (two (two (aj 0) (aj 3) bJ) (two (aj 1) (aj 3) bJ) b_) (two (aj 1) (aj 3) bJ) b_)) (aB 2 (two (aj 2) (bR (ak (two (bR ‹"B"›) (ao (ak (eF (ak ‹0› ‹""›) (two (two (gZ (ak ‹1› (ak ‹2› (ak ‹4› ‹""›)))) (aj 3) bJ) ‹1› fM)) ‹""›) cN) aN) ‹""›)) aN)))
 | `(‹"e"›) => `(ak (aj 1) ‹""›)
 | `(‹"f"›) => `(ao (ak (aj 0) ‹""›) cF)
 | `(‹"g"›) => `(ak (aj 2) ‹""›)
 | `(‹"h"›) => `(aL (two (aj 4) (fun _=>.ok .non) cH) aK)
 | `(‹"i"›) => `(aB 6 (bR (ak (bR (ak (two (aj 7) (aj 8) bJ) ‹""›)) (ak (bR (ak (two (aj 7) (two (two (aj 8) ‹1› aN) ‹6› bH) bJ) (ak ‹0› ‹""›))) (ak (bR (ak (two (aj 7) (two (two (aj 8) ‹2› aN) ‹6› bH) bJ) (ak ‹0› (ak ‹0› (ak ‹0› ‹""›))))) ‹""›)))))
 | `(‹"j"›) => `(ak ‹2› (ak ‹3› (ak ‹5› (ak ‹7› (ak ‹11› (ak ‹13› ‹""›))))))
 | `(‹"k"›) => `(aL (two (two (aj 2) (aj 0) bJ) (aj 1) gw) aK)
 | `(‹"l"›) => `(two (aj 0) ‹0› bJ)
 | `(‹"m"›) => `(two (two (two (aj 0) ‹5› aO) (two (two ‹2› (two ‹10› ‹9› kY) b_) ‹1› aN) bH) (two ‹10› ‹9› kY) fM)
 | `(‹"n"›) => `(bj (aj 0) bK (bM (gP ‹1›)))
 | `(‹"o"›) => `(ak (aj 0) (ak (aj 4) (ak (ao ‹"g"› cF) ‹""›)))
 | `(‹"p"›) => `(ak (aj 6) ‹""›)
 | `(‹"q"›) => `(ak (two (aj 0) ‹1› bJ) ‹""›)
 | `(‹"r"›) => `(aL (two (two (aj 5) ‹4› bH) ‹0› gO) aK)
 | `(‹"s"›) => `(ak (aj 0) ‹"e"›)
 | `(‹"L"›) => `(two (aj 0) (aj 1) aO)
 | `(‹"t"›) => `(bR (ak (ao (ak (aX 1 [2] (bC 0) ‹"L"› (bindL (aj 0) a_)) ‹""›) cN) (ak (two (aj 1) (aj 2) aO) ‹""›)))
 | `(‹"u"›) => `(two (aj 1) (ao (ak (two (aj 0) (two (two (two (aj 3) ‹5› aO) (aj 2) bH) ‹1› aN) (dZ fun i j=>decide (i < j))) ‹""›) lC) b_)
 | `(‹"v"›) => `(two (aj 1) (ao (ak (two (two (two (two (aj 2) ‹5› aO) (two (aj 0) ‹1› aN) aO) ‹2› bH) ‹0› gO) ‹""›) lC) b_)
 | `(‹"w"›) => `(ak ‹"f"› ‹""›)
 | `(‹"x"›) => `(ak (two (aj 1) ‹5› aO) (ak (aj 0) (ak ‹19› ‹""›)))
 | `(‹"y"›) => `(aL (two (aj 7) (fun _=>.ok .non) cM) aK)
 | `(‹"z"›) => `(two (aj 1) ‹0› bJ)
 | `(‹"A"›) => `(ak ‹"l"› ‹""›)
 | `(‹"C"›) => `(bu (ak ‹3› ‹""›) dh)
 | `(‹"D"›) => `(aJ (ao (ak (aX 2 [] (aZ [0,1]) (two (aj 0) (aj 1) aN) (bu ‹"s"› lF)) ‹""›) cN))
 | `(‹"E"›) => `(aB 4 (two (gZ (ak ‹1› (ak ‹2› (ak ‹4› (ak ‹8› ‹""›))))) (ao ‹"e"› cF) bJ))
 | `(‹"F"›) => `(ak (aj 1) (ak (aj 2) ‹"p"›))
 | `(‹"G"›) => `(ak (aj 1) (ak (aj 1) ‹"p"›))
 | `(‹"H"›) => `(ak (aj 7) (ak (aj 7) ‹""›))
 | `(‹"I"›) => `(two (aj 0) (gP ‹1›) bJ)
 | `(‹"J"›) => `(aL (two ‹"f"› ‹0› gO) aK)
 | `(‹"K"›) => `(ak (aj 0) (ak ‹4› (ak (two (two (aj 4) (aj 2) b_) ‹1› aN) ‹""›)))
 | `(‹"M"›) => `(aJ (fun _=>.ok .non))
namespace Bk
open PySem PySem.Spec PyProof.Rows L2 DL
noncomputable def is_int:D->Option Bool
 | .non=>some false
 | .bl _=>some true
 | .int _=>some true
 | .str _=>some false
 | .tup _=>some false
 | .lst _=>some false
 | .dct=>some false
 | _=>none
noncomputable def is_bool:D->Option Bool
 | .non=>some false
 | .bl _=>some true
 | .int _=>some false
 | .str _=>some false
 | .tup _=>some false
 | .lst _=>some false
 | .dct=>some false
 | _=>none
noncomputable def oh (i:Nat) (δ:DS):Nat:=match δ[i]? with
 | some (some sv)=>(match sv.view with | .int i=>i.natAbs + 1 | _=>0)
 | _=>0
noncomputable def jd:DS->Nat:=oh 3
noncomputable def ou:DS->Out :=
 (aA (aB 2 (ao (ak (aj 0) ‹""›) jO)) (aA (aB 3 (ao ‹"e"› jO)) (aA (g8 jd (aL (two (aj 3) ‹0› jC) aK) (aA (aB 4 (two (aj 2) (aj 3) bH)) (aA (aB 2 (aj 3)) (aB 3 (aj 4))))) (aJ (aj 2)))))
noncomputable def oA:List D->Res D:=bF 2 5 ou
noncomputable def oE:DS->Out :=
 (aJ (bR (ak (two ‹"l"› (two (bR (ak ‹0› ‹""›)) (two (two ‹1› (aj 1) iD) (ao ‹"A"› cF) fM) b_) aN) ‹"q"›)))
noncomputable def gA:List D->Res D:=bF 2 2 oE
noncomputable def oF:DS->Out :=
 (aJ (ao (ak (aX 1 [] (bC 0) (two (aj 0) ‹0› gO) (bindL (aj 0) a_)) ‹""›) mU))
noncomputable def sW:List D->Res D:=bF 1 1 oF
noncomputable def oG:DS->Out :=
 (aJ (bj (aj 0) bK (bM (two ‹"f"› ‹2› aO))))
noncomputable def jq:List D->Res D:=bF 1 1 oG
noncomputable def oH:DS->Out :=
 (aJ (bj (aj 0) (bM (two ‹"f"› ‹2› aO)) bK))
noncomputable def jr:List D->Res D:=bF 1 1 oH
noncomputable def oJ:DS->Out :=
 (aJ (ao (ak (aX 1 [] (bC 0) (gP (aj 0)) (bindL (aj 0) a_)) ‹""›) cN))
noncomputable def m6:List D->Res D:=bF 1 1 oJ
noncomputable def oK:DS->Out :=
 (aA (cP (aL (two (aj 1) ‹"f"› (dZ fun i j=>decide (i < j))) aK) (aJ (two (aj 0) (aj 1) bJ)) Out.nxt) (aJ ‹0›))
noncomputable def iT:List D->Res D:=bF 2 2 oK
noncomputable def vh:DS->Out :=
 (aJ (sH (ao (aj 0) (nR Bk.is_int)) (uR (ao (aj 0) (nR Bk.is_bool)))))
noncomputable def sY:List D->Res D:=bF 1 1 vh
noncomputable def je:DS->Nat:=oh 1
noncomputable def oM:DS->Out :=
 (aA (g8 je (aL (two (aj 1) ‹0› jC) aK) (aA (aB 2 (two (aj 0) (aj 1) bH)) (aA (aB 0 (aj 1)) (aB 1 (aj 2))))) (aJ (ao (ak (aj 0) ‹""›) jO)))
noncomputable def oN:List D->Res D:=bF 2 3 oM
noncomputable def eO:DS->Out :=
 ‹"D"›
noncomputable def eQ:List D->Res D:=bF 2 2 eO
noncomputable def oO:DS->Out :=
 (aA (cP (aL (two (aj 1) ‹0› gO) aK) (fQ "NoOver" (ak (fun _=>.ok (.str "no number has the bottom nought")) ‹""›)) Out.nxt) (aA (aB 2 (aj 1)) (aA (lD (bC 3) (bindL (aj 0) a_) (aB 2 (ao (ak (aj 2) (ak (aj 3) ‹""›)) oA))) (aA (cP (aL (two (aj 1) ‹0› (dZ fun i j=>decide (i < j))) aK) (aB 2 (gP (aj 2))) Out.nxt) (aJ ‹"t"›)))))
noncomputable def fV:List D->Res D:=bF 2 4 oO
noncomputable def oR:DS->Out :=
 (aJ (bR (ak (ao ‹"A"› m6) ‹"q"›)))
noncomputable def oU:List D->Res D:=bF 1 1 oR
noncomputable def oV:DS->Out :=
 (aA (aB 2 (aX 2 [1,0] (aZ [0,1]) (two (two (aj 0) (two (aj 2) ‹1› bJ) b_) (two (aj 1) (two (aj 3) ‹1› bJ) b_) aN) (bu (ak ‹"l"› (ak ‹"z"› ‹""›)) lF))) (aJ (ao (ak (ao ‹"g"› cN) (ak (two (two (aj 0) ‹1› bJ) (two (aj 1) ‹1› bJ) b_) ‹""›)) fV)))
noncomputable def gC:List D->Res D:=bF 2 3 oV
noncomputable def oW:DS->Out :=
 (aJ (bR (ak (ao (ak (ao ‹"A"› jq) ‹"q"›) fV) (ak (ao (ak (ao ‹"A"› jr) ‹"q"›) fV) ‹""›))))
noncomputable def jY:List D->Res D:=bF 1 1 oW
noncomputable def oY:DS->Out :=
 (aJ (ao (ak (aj 0) (ak (ao ‹"e"› oU) ‹""›)) gC))
noncomputable def sZ:List D->Res D:=bF 2 2 oY
noncomputable def oZ:DS->Out :=
 ‹"D"›
noncomputable def m7:List D->Res D:=bF 2 2 oZ
noncomputable def o7:DS->Out :=
 (aA (aB 3 (gZ (ak ‹271828183› (ak ‹314159269› (ak ‹161803399› (ak ‹141421357› (ak ‹173205081› ‹""›))))))) (aA (aB 3 (two (aj 3) (gZ (ak ‹223606797› (ak ‹244948975› (ak ‹264575131› (ak ‹331662479› (ak ‹360555127› ‹""›)))))) aN)) (aJ (two (two (two (two (aj 0) ‹1› aN) (two (aj 3) (aj 1) bJ) b_) ‹1000000007› bH) (aj 2) bH))))
noncomputable def bA:List D->Res D:=bF 3 4 o7
noncomputable def cg:DS->Out :=
 (aA (aB 2 (two ‹1› (ao (ak (aj 0) (ak ‹0› (ak ‹6› ‹""›))) bA) aN)) (aA (aB 3 (two (two (two (aj 2) (aj 2) b_) ‹1› aN) (ao (ak (aj 0) (ak ‹1› (ak (two ‹2› (aj 2) b_) ‹""›))) bA) aN)) (aA (aB 4 (two ‹1› (ao (ak (aj 0) (ak ‹2› (ak ‹3› ‹""›))) bA) aN)) (aA (aB 5 (two ‹1› (ao (ak (aj 0) (ak ‹3› (ak ‹3› ‹""›))) bA) aN)) (aA (aB 6 (bR (ak (bR (ak (aj 3) ‹""›)) (ak (bR (ak (ao ‹"K"› bA) ‹"B"›)) (ak (bR (ak (ao (ak (aj 0) (ak ‹5› (ak (aj 5) ‹""›))) bA) (ak ‹0› (ak (aj 5) (ak ‹0› ‹""›))))) ‹""›))))) (aA (cP (aL (two (ao (ak (aj 0) (ak ‹6› (ak ‹3› ‹""›))) bA) ‹0› gO) aK) (aA (aB 7 (gZ ‹"j"›)) (aA (aB 8 (ao (ak (aj 0) (ak ‹7› (ak ‹6› ‹""›))) bA)) ‹"i"›)) Out.nxt) (aJ (bj (aj 6) bK (bM (aj 1))))))))))
noncomputable def eU:List D->Res D:=bF 2 9 cg
noncomputable def jZ (R:List D->Res D):DS->Out :=
 (aA (cP ‹"J"› (aJ (bR (ak (two ‹"z"› (two (aj 2) ‹0› bJ) b_) ‹""›))) Out.nxt) (aA (aB 3 ‹"n"›) (aA (aB 4 (ao ‹"e"› jq)) (aA (aB 5 (ao ‹"e"› jr)) (aA (aB 6 (ao ‹"g"› jq)) (aA (aB 7 (ao ‹"g"› jr)) (aA (aB 8 (ao (ak (aj 3) (ak (ao (ak (aj 3) (ak (aj 5) (ak (aj 7) ‹""›))) R) (ak ‹"I"› ‹""›))) R)) (aA (aB 9 (ao (ak (ao (ak (aj 3) (ak (aj 4) ‹"p"›)) R) (ak (aj 8) ‹""›)) m7)) (aA (aB 10 (ao (ak (ao (ak (aj 3) (ak (aj 4) (ak (aj 7) ‹""›))) R) (ak (ao (ak (aj 3) (ak (aj 5) ‹"p"›)) R) ‹""›)) m7)) (aJ (two (aj 9) (aj 10) aN)))))))))))
noncomputable def jf:Nat->List D->Res D
 | 0=>fun _=>.stuck
 | n + 1=>bF 3 11 (jZ (jf n))
noncomputable def iU:List D->Res D:=jf 4
noncomputable def bL (R:List D->Res D):DS->Out :=
 (aA (cP (aL (two (ao ‹"e"› cF) ‹1› gO) aK) (aJ (bR (ak (two ‹"z"› (two (aj 2) ‹0› bJ) b_) ‹""›))) Out.nxt) (aA (aB 3 (two (ao ‹"e"› cF) ‹2› aO)) (aA (aB 4 ‹"n"›) (aA (aB 5 (ao (ak (aj 4) (ak (bj (aj 1) (bM (aj 3)) bK) (ak (bj (aj 2) (bM (aj 3)) bK) ‹""›))) R)) (aA (aB 6 (ao (ak (ao (ak (aj 4) (ak (bj (aj 1) bK (bM (aj 3))) (ak (bj (aj 2) bK (bM (aj 3))) ‹""›))) R) (ak (ao (ak (aj 4) (ak ‹"I"› (ak (aj 5) ‹""›))) R) ‹""›)) eQ)) (aA (aB 7 (ao (ak (aj 4) (ak (bj (aj 1) bK (bM (aj 3))) (ak (bj (aj 2) (bM (aj 3)) bK) ‹""›))) R)) (aJ (two (aj 6) (ao (ak (aj 7) (ak (ao (ak (aj 4) (ak (bj (aj 1) (bM (aj 3)) bK) (ak (bj (aj 2) bK (bM (aj 3))) ‹""›))) R) ‹""›)) eQ) aN))))))))
noncomputable def bY:Nat->List D->Res D
 | 0=>fun _=>.stuck
 | n + 1=>bF 3 8 (bL (bY n))
noncomputable def o9:DS->Out :=
 (aJ (ao (ak (ao (ak (aj 0) (ak ‹"z"› (ak (two (aj 2) ‹0› bJ) ‹""›))) iU) (ak (two (two (aj 1) ‹1› bJ) (two (aj 2) ‹1› bJ) b_) ‹""›)) fV))
noncomputable def jt:List D->Res D:=bF 3 3 o9
noncomputable def o_:DS->Out :=
 (aJ (bR (ak (two (ao ‹"A"› jq) (ao (ak (ao ‹"A"› jr) ‹""›) m6) aN) ‹"q"›)))
noncomputable def tu:List D->Res D:=bF 1 1 o_
noncomputable def ph:DS->Out :=
 (aA (aB 2 ‹"n"›) (aA (aB 3 (ao ‹"e"› jq)) (aA (aB 4 (ao ‹"e"› jr)) (aA (aB 5 (ao (ak (aj 2) (ak (ao (ak (aj 2) (ak (aj 4) ‹"B"›)) iU) (ak ‹"I"› ‹""›))) iU)) (aJ (ao (ak (ao (ak (aj 2) (ak (aj 3) (ak (aj 3) ‹""›))) iU) (ak (ao (ak (aj 5) ‹""›) m6) ‹""›)) m7))))))
noncomputable def pq:List D->Res D:=bF 2 6 ph
noncomputable def pA:DS->Out :=
 (aJ (ao (ak (ao (ak (aj 0) (ak ‹"z"› ‹""›)) pq) (ak (two (two (aj 1) ‹1› bJ) (two (aj 1) ‹1› bJ) b_) ‹""›)) fV))
noncomputable def m8:List D->Res D:=bF 2 2 pA
noncomputable def pB:DS->Out :=
 (aJ (ao ‹"A"› sW))
noncomputable def ju:List D->Res D:=bF 1 1 pB
noncomputable def j4 (R:List D->Res D):DS->Out :=
 (aA (cP ‹"J"› (aJ (ao (ak (bR (ak (two (aj 1) ‹1› bJ) ‹""›)) (ak (two ‹"z"› ‹0› bJ) ‹""›)) fV)) Out.nxt) (aA (aB 2 (ao (ak ‹"n"› (ak (ao ‹"s"› m8) ‹""›)) R)) (aJ (ao (ak (aj 0) (ak (ao ‹"e"› tu) (ak (ao (ak (aj 2) ‹"w"›) gA) ‹""›))) jt))))
noncomputable def jg:Nat->List D->Res D
 | 0=>fun _=>.stuck
 | n + 1=>bF 2 3 (j4 (jg n))
noncomputable def tD:List D->Res D:=jg 4
noncomputable def pC:DS->Out :=
 (aA (cP (aL (ao ‹"g"› ju) cU) (fQ "NoOver" (ak (fun _=>.ok (.str "no number is told over nought")) ‹""›)) Out.nxt) (aJ (ao (ak (aj 0) (ak (aj 1) (ak (ao (ak (aj 0) ‹"g"›) tD) ‹""›))) jt)))
noncomputable def j5:List D->Res D:=bF 3 3 pC
noncomputable def pD:DS->Out :=
 (aA (cP (aL (two (aj 0) ‹0› gO) aK) (aJ ‹0›) Out.nxt) (aJ (vJ (aL (two (aj 0) ‹0› (dZ fun i j=>decide (j < i))) aK) ‹1› (gP ‹1›))))
noncomputable def tE:List D->Res D:=bF 1 1 pD
noncomputable def pF:DS->Out :=
 (aA (aB 1 (two (aj 0) ‹1› bJ)) (aA (lD (bC 2) (bindL ‹"l"› a_) (aB 1 (ao (ak (aj 1) ‹"g"›) oN))) (aJ (bR (ak (ao (ak (aX 1 [1] (bC 0) ‹"L"› (bindL ‹"l"› a_)) ‹""›) cN) (ak (two (two (aj 0) ‹1› bJ) (aj 1) aO) ‹""›))))))
noncomputable def m9:List D->Res D:=bF 1 3 pF
noncomputable def j6 (R:List D->Res D):DS->Out :=
 (aA (cP ‹"J"› (aJ (ao (ak ‹"z"› ‹""›) tE)) Out.nxt) (aA (aB 2 ‹"n"›) (aA (aB 3 (ao (ak (aj 2) (ak (ao ‹"e"› jq) ‹""›)) R)) (aA (aB 4 (ao (ak (aj 2) (ak (ao ‹"e"› jr) ‹""›)) R)) (aA (cP (uQ (aL (two (aj 3) (aj 4) gO) aK) (aL (two (aj 4) ‹0› gO) aK)) (aJ (aj 3)) Out.nxt) (aA (cP (aL (two (aj 3) ‹0› gO) aK) (aJ (aj 4)) Out.nxt) (aJ (two (aj 3) (ao (ak (aj 2) (ak (ao ‹"s"› pq) ‹""›)) R) b_))))))))
noncomputable def jh:Nat->List D->Res D
 | 0=>fun _=>.stuck
 | n + 1=>bF 2 5 (j6 (jh n))
noncomputable def tG:List D->Res D:=jh 4
noncomputable def pG:DS->Out :=
 (aJ (ao (ak (aj 0) (ak ‹"z"› ‹""›)) tG))
noncomputable def tH:List D->Res D:=bF 2 2 pG
noncomputable def m_:DS->Out :=
 (aJ (vJ (aL (two (ao ‹"s"› tH) ‹0› (dZ fun i j=>decide (i < j))) aK) (ao ‹"e"› oU) (aj 1)))
noncomputable def lN:List D->Res D:=bF 2 2 m_
noncomputable def eY:DS->Nat:=oh 1
noncomputable def pH:DS->Out :=
 (aA (cP (aL (two (aj 0) ‹0› (dZ fun i j=>decide (i < j))) aK) (fQ "Below" (ak (fun _=>.ok (.str "a number below nought has no whole root")) ‹""›)) Out.nxt) (aA (aB 1 (two ‹1› (two (two (ao (aj 0) (fun d=>gY d [])) ‹1› aN) ‹2› aO) iD)) (aA (g8 eY (aL (two (two (aj 1) (aj 1) b_) (aj 0) (dZ fun i j=>decide (j < i))) aK) (aB 1 (two (two (aj 1) ‹"L"› aN) ‹2› aO))) (aJ (aj 1)))))
noncomputable def tK:List D->Res D:=bF 1 2 pH
noncomputable def pI:DS->Out :=
 (aA (iJ 2 (aX 1 [0] (bC 0) (two (ao ‹"x"› bA) ‹9› fM) (bu ‹"e"› dh))) (aA (cP (aL (two (two (aj 0) ‹5› bH) ‹1› gO) aK) (putD 2 (jR (two (two (aj 0) ‹5› aO) (aj 1) bH)) ‹"m"›) Out.nxt) (aA (cP (aL (two (two (aj 0) ‹5› bH) ‹2› gO) aK) (iJ 2 (aX 2 [0] (aZ [0,1]) ‹"v"› (bu ‹"g"› f9))) Out.nxt) (aA (cP (aL (two (two (aj 0) ‹5› bH) ‹3› gO) aK) (iJ 2 (aX 2 [1,0] (aZ [0,1]) ‹"u"› (bu ‹"g"› f9))) Out.nxt) (aJ (ao (ak (bR (ak (ao ‹"g"› cN) (ak (two ‹1› (ao (ak (two (aj 0) ‹5› aO) (ak ‹8› (ak ‹12› ‹""›))) bA) aN) ‹""›))) ‹""›) m9))))))
noncomputable def lO:List D->Res D:=bF 2 3 pI
end Bk
set_option exponentiation.threshold 300000
namespace Bk
open PySem PySem.Spec PyProof.Rows L2 DL Mine
theorem Q3 (i:Int):sY [.int i]=.ok (.bl true):=rfl
noncomputable def cell (ns:List Int) (k:Nat):Int:=ns.getD k 0
theorem Bf (ns:List Int) (k:Nat):iT [.lst (ns.map .int),.int k]=.ok (.int (cell ns k)):=by
 show outD (oK [some (.arg (.lst (ns.map .int))),some (.arg (.int k))])=_;unfold oK cell;push_cast [length_map]
 by_cases h:k < ns.length
 ·have h':((k:Int) < (ns.length:Int)):=by omega
  have hz:(ns.map D.int)[k]? = some (.int ns[k]):=by simp [h]
  simp only [h',decide_true,↓reduceIte,sq_ret,out_ret,xG _ k _ hz,on_ok];simp [h]
 ·have h':¬((k:Int) < (ns.length:Int)):=by omega
  have hz:ns[k]? = none:=List.getElem?_eq_none (by omega);simp only [h',decide_false,Bool.false_eq_true,↓reduceIte,sq_nxt,on_ok,out_ret];simp [hz];rfl
abbrev Bg:DS->Res Bool:=aL (two (aj 1) ‹0› jC) aK
abbrev Bh:DS->Out:=aA (aB 2 (two (aj 0) (aj 1) bH)) (aA (aB 0 (aj 1)) (aB 1 (aj 2)))
theorem Jd:∀(n:Nat) (s0 s1:SV) (z:Option SV) (x y:Int),s0.view=.int x->s1.view=.int y->y.natAbs < n ->
  ∃s0' s1' z' g,bf Bg Bh n [some s0,some s1,z]=.nxt [some s0',s1',z']/\s0'.view=.int g/\g.natAbs=Int.gcd x y
 | 0,_,_,_,_,_,_,_,h=>absurd h (Nat.not_lt_zero _)
 | n + 1,s0,s1,z,x,y,h0,h1,h=>by
  rw [bf];have e:Bg [some s0,some s1,z]=.ok (!decide (y=0)):=by
   simp only [Bg,ap_seq,sq_nxt,sq_ret,sq_err,ap_set,on_ok,on_err,ont_ok,onl_ok,ap_if,ap_two,ap_bF,ap_bT,ap_bL,ap_cons,ap_tup,ap_lst,ap_ret,ap_expr,ap_neg,neg_ok,ap_notT,ap_andT,ap_orT,ap_ifD,ap_for,ap_forR,ap_slice,ap_part,ap_noPart,part_int,out_ret,out_err,cmp_ok,add_ok,sub_ok,bool_ok,truth_bl,abs_ok,len_tup,len_lst,tuple_lst,seq_tup,seq_lst,vw_val,vw_arg,eqI,neI,bnd_ok,bnd_err,mulE_i,sl0,st0,sl1,st1,sl2,st2,sl3,st3,sl4,st4,sl5,st5,sl6,st6,sl7,st7,sl8,st8,sl9,st9,sl10,st10,sl11,st11,tup1,lst1,tup2,lst2,tup3,lst3,tup4,lst4,lst5,lst6,ix_tup0,ix_lst0,ix_tup1,ix_lst1,↓reduceIte,decide_true,decide_false,Bool.not_true,Bool.not_false,Bool.false_eq_true,Int.reduceEq,Int.reduceNe,Int.reduceLT,Int.reduceLE,Nat.reduceAdd,cN0,length_cons,length_nil,h1]
  rw [e]
  by_cases c:y=0
  ·subst c;exact ⟨s0,some s1,z,x,rfl,h0,by simp⟩
  ·simp only [c,decide_false,Bool.not_false];have e2:Bh [some s0,some s1,z]=.nxt [some (.val (.int y)),some (.val (.int (Int.fmod x y))),some (.val (.int (Int.fmod x y)))]:=by
    simp only [Bh,ap_seq,sq_nxt,sq_ret,sq_err,ap_set,on_ok,on_err,ont_ok,onl_ok,ap_if,ap_two,ap_bF,ap_bT,ap_bL,ap_cons,ap_tup,ap_lst,ap_ret,ap_expr,ap_neg,neg_ok,ap_notT,ap_andT,ap_orT,ap_ifD,ap_for,ap_forR,ap_slice,ap_part,ap_noPart,part_int,out_ret,out_err,cmp_ok,add_ok,sub_ok,bool_ok,truth_bl,abs_ok,len_tup,len_lst,tuple_lst,seq_tup,seq_lst,vw_val,vw_arg,eqI,neI,bnd_ok,bnd_err,mulE_i,sl0,st0,sl1,st1,sl2,st2,sl3,st3,sl4,st4,sl5,st5,sl6,st6,sl7,st7,sl8,st8,sl9,st9,sl10,st10,sl11,st11,tup1,lst1,tup2,lst2,tup3,lst3,tup4,lst4,lst5,lst6,ix_tup0,ix_lst0,ix_tup1,ix_lst1,↓reduceIte,decide_true,decide_false,Bool.not_true,Bool.not_false,Bool.false_eq_true,Int.reduceEq,Int.reduceNe,Int.reduceLT,Int.reduceLE,Nat.reduceAdd,cN0,length_cons,length_nil,h1,h0,dG c]
   rw [e2];obtain ⟨s0',s1',z',g,q1,q2,q3⟩:=Jd n (.val (.int y)) (.val (.int (Int.fmod x y))) (some (.val (.int (Int.fmod x y)))) y (Int.fmod x y) rfl rfl (by have:=Qu x c; omega);exact ⟨s0',s1',z',g,q1,q2,by rw [q3,Qv]⟩
theorem Q4 (a b:Int):oN [.int a,.int b]=.ok (.int (cm a b)):=by
 show outD (oM [some (.arg (.int a)),some (.arg (.int b)),none])=_;unfold oM;obtain ⟨s0',s1',z',g,q1,q2,q3⟩:=Jd (b.natAbs + 1) (.arg (.int a)) (.arg (.int b)) none a b rfl rfl (Nat.lt_succ_self _);rw [ap_seq];show outD ((bf Bg Bh (b.natAbs + 1) [some (.arg (.int a)),some (.arg (.int b)),none]).seq _)=_;rw [q1];push_cast [q2,q3];rfl
abbrev cc:DS->Res Bool:=aL (two (aj 3) ‹0› jC) aK
abbrev cb:DS->Out:=(aA (aB 4 (two (aj 2) (aj 3) bH)) (aA (aB 2 (aj 3)) (aB 3 (aj 4))))
theorem Je (p q:Option SV):∀(n:Nat) (x y:Int) (z:Option SV),0<=x->0<=y->y.toNat < n ->
  ∃z',bf cc cb n [p,q,some (.val (.int x)),some (.val (.int y)),z]=.nxt [p,q,some (.val (.int (cm x y))),some (.val (.int 0)),z']
 | 0,_,_,_,_,_,h=>absurd h (Nat.not_lt_zero _)
 | n + 1,x,y,z,hx,hy,h=>by
  rw [bf];have e:cc [p,q,some (.val (.int x)),some (.val (.int y)),z]=.ok (!decide (y=0)):=rfl;rw [e]
  by_cases c:y=0
  ·subst c;exact ⟨z,by rw [Qh hx]; rfl⟩
  ·simp only [c,decide_false,Bool.not_false];have e2:cb [p,q,some (.val (.int x)),some (.val (.int y)),z]=.nxt [p,q,some (.val (.int y)),some (.val (.int (Int.fmod x y))),some (.val (.int (Int.fmod x y)))]:=by
    simp only [cb,ap_seq,sq_nxt,sq_ret,sq_err,ap_set,on_ok,on_err,ont_ok,onl_ok,ap_if,ap_two,ap_bF,ap_bT,ap_bL,ap_cons,ap_tup,ap_lst,ap_ret,ap_expr,ap_neg,neg_ok,ap_notT,ap_andT,ap_orT,ap_ifD,ap_for,ap_forR,ap_slice,ap_part,ap_noPart,part_int,out_ret,out_err,cmp_ok,add_ok,sub_ok,bool_ok,truth_bl,abs_ok,len_tup,len_lst,tuple_lst,seq_tup,seq_lst,vw_val,vw_arg,eqI,neI,bnd_ok,bnd_err,mulE_i,sl0,st0,sl1,st1,sl2,st2,sl3,st3,sl4,st4,sl5,st5,sl6,st6,sl7,st7,sl8,st8,sl9,st9,sl10,st10,sl11,st11,tup1,lst1,tup2,lst2,tup3,lst3,tup4,lst4,lst5,lst6,ix_tup0,ix_lst0,ix_tup1,ix_lst1,↓reduceIte,decide_true,decide_false,Bool.not_true,Bool.not_false,Bool.false_eq_true,Int.reduceEq,Int.reduceNe,Int.reduceLT,Int.reduceLE,Nat.reduceAdd,cN0,length_cons,length_nil,dG c]
   rw [e2];have yp:0 < y:=by omega
   obtain ⟨z',e⟩:=Je p q n y (Int.fmod x y) (some (.val (.int (Int.fmod x y)))) hy (Int.fmod_nonneg_of_pos x yp) (by have:=Int.fmod_lt_of_pos x yp; omega);refine ⟨z',?_⟩;rw [Qg hx hy] at e;exact e
theorem Q5 (a b:Int):oA [.int a,.int b]=.ok (.int (cm a b)):=by
 show outD (ou [some (.arg (.int a)),some (.arg (.int b)),none,none,none])=_;unfold ou;obtain ⟨z',e⟩:=Je (some (.arg (.int a))) (some (.arg (.int b))) (((b.natAbs:Int)).natAbs + 1) a.natAbs b.natAbs none (by omega) (by omega) (by omega);rw [Qi] at e;push_cast [DL.ap_seq];show outD ((bf cc cb (((b.natAbs:Int)).natAbs + 1) [some (.arg (.int a)),some (.arg (.int b)),some (.val (.int (a.natAbs:Nat))),some (.val (.int (b.natAbs:Nat))),none]).seq _)=_;rw [e]; rfl
theorem Jf {ts:List Int} {b K:Int} (h:Nf ts b) (hK:K≠0) (hts:ts≠[]) (hl:ts.length<=63) (hb:K.natAbs < 2 ^ 8000) :
  fV [.tup ((ts.map (K * ·)).map .int),.int (K * b)]=.ok (num ts b):=by
 show outD (oO [some (.arg (.tup ((ts.map (K * ·)).map .int))),some (.arg (.int (K * b))),none,none])=_;unfold oO;have bp:=h.pos;have nb:¬(K * b=0):=fun z=>by
  rcases Int.mul_eq_zero.mp z with q | q
  ·exact hK q
  ·omega
 obtain ⟨z',e⟩:=Dr (i:=3) (f:=cm) (b:=aB 2 (ao (ak (aj 2) (ak (aj 3) ‹""›)) oA))
  (fun acc z=>[some (.val (.tup ((ts.map (K * ·)).map .int))),some (.val (.int (K * b))),some (.val (.int acc)),z])
  (fun acc z t=>by push_cast [Q5]) (ts.map (K * ·)) (K * b) none
 rw [H_ h hK hts] at e;have th:thaw [some (SV.arg (.tup ((ts.map (K * ·)).map .int))),some (.arg (.int (K * b))),some (.val (.int (K * b))),none]=[some (.val (.tup ((ts.map (K * ·)).map .int))),some (.val (.int (K * b))),some (.val (.int (K * b))),none]:=rfl;push_cast [nb,th,e];have th2:fZ (Out.nxt [some (.val (.tup ((ts.map (K * ·)).map .int))),some (.val (.int (K * b))),some (.val (.int (K.natAbs:Nat))),z'])=.nxt [some (.val (.tup ((ts.map (K * ·)).map .int))),some (.val (.int (K * b))),some (.val (.int (K.natAbs:Nat))),z'.map thaw2]:=rfl;simp only [th2,sq_nxt];have last:∀z2:Option SV,outD (aJ ‹"t"›
   [some (.val (.tup ((ts.map (K * ·)).map .int))),some (.val (.int (K * b))),some (.val (.int K)),z2])=.ok (num ts b):=by
  intro z2;have cp:aX 1 [2] (bC 0) ‹"L"› (bindL (aj 0) a_) [some (.val (.tup ((ts.map (K * ·)).map .int))),some (.val (.int (K * b))),some (.val (.int K)),z2]=.ok (.lst ((ts.map (K * ·)).map fun t=>.int (Int.fdiv t K))) :=
   vU (rest:=[some (.arg (.int K))]) rfl rfl (by rw [length_map]; exact Nat.le_trans hl (by decide)) fun t _=>by
    push_cast [n8 hK hb]
  push_cast [cp,n8 hK hb];rw [map_map];simp only [Function.comp_def,cF' _ _ hK]
 by_cases c:K * b < 0
 ·have kn:-((K.natAbs:Nat):Int)=K:=by
   rcases Int.lt_or_le K 0 with q | q
   ·omega
   ·have:=Int.mul_nonneg q (Int.le_of_lt bp); omega
  push_cast [c,kn];exact last _
 ·have kn:((K.natAbs:Nat):Int)=K:=by
   rcases Int.lt_or_le K 0 with q | q
   ·have:=Int.mul_neg_of_neg_of_pos q bp; omega
   ·omega
  push_cast [c,kn];exact last _
theorem uJ (x:List Int):jq [TI x]=.ok (TI (aQ x)):=by
 show outD (oG [some (.arg (TI x))])=_;unfold oG aQ;push_cast [length_map,Dt,Ig]
theorem w_behind (x:List Int):jr [TI x]=.ok (TI (aU x)):=by
 show outD (oH [some (.arg (TI x))])=_;unfold oH aU;push_cast [length_map,Dt,Ih]
theorem gF {a b:Int} (h:a.natAbs < 2 ^ 200000) (h2:b.natAbs < 2 ^ 200000):di (.int a) (.int b)=.ok (.int (a * b)):=by
 unfold di;have e:200000<=2 ^ 20:=by decide
 exact if_pos (.inl ⟨Nat.le_trans (intBits_le h) e,Nat.le_trans (intBits_le h2) e⟩)
theorem kO {n m:Nat} (e:n<=m):2 ^ n<=2 ^ m:=Nat.pow_le_pow_right (by decide) e
theorem pJ {x n:Nat} (h:x < 2 ^ n) (e:n<=200000):x < 2 ^ 200000:=Nat.lt_of_lt_of_le h (kO e)
theorem DY {x n:Nat} (h:x < 2 ^ n) (e:n<=8000):x < 2 ^ 8000:=Nat.lt_of_lt_of_le h (kO e)
theorem D_ (x y:List Int) (hl:x.length<=1000):m7 [TI x,TI y]=.ok (TI (bI x y)):=by
 show outD (oZ [some (.arg (TI x)),some (.arg (TI y))])=_;unfold oZ;have c:=Du (fe:=two (aj 0) (aj 1) aN) (fi:=bu ‹"s"› lF) (fr:=[]) (δ:=[some (.arg (TI x)),some (.arg (TI y))]) (rest:=[]) (xs:=x) (ys:=y) (g:=fun a b=>.int (a + b))
  (jW (ds:=[TI x,TI y]) rfl rfl) rfl (Nat.le_trans hl (by decide)) fun a _ b _=>by push_cast [DL.ap_seq]
 rw [xN] at c;push_cast [c]
theorem Ea (x:List Int) (hl:x.length<=1000):m6 [TI x]=.ok (TI (x.map fun t=>-t)):=by
 show outD (oJ [some (.arg (TI x))])=_;unfold oJ;have c:=vU (fe:=gP (aj 0)) (fi:=bindL (aj 0) a_) (fr:=[]) (δ:=[some (.arg (TI x))]) (rest:=[]) (ts:=x) (g:=fun t=>.int (-t))
  (by push_cast [DL.ap_seq]) rfl (Nat.le_trans hl (by decide)) fun t ht=>by push_cast [DL.ap_seq]
 have e:(x.map fun t=>D.int (-t))=(x.map fun t=>-t).map .int:=by rw [map_map]; rfl
 rw [e] at c;push_cast [c]
noncomputable def eT (ρ:Nat):Nat->Nat
 | 0=>0
 | k + 1=>2 * eT ρ k + ρ + 1
theorem mD {ρ:Nat}:∀(rs:List (List Int)) {x y:List Int} {p q:Nat},(∀r∈rs,Bd ρ r)->Bd p x->Bd q y->Bd (p + q + eT ρ rs.length) (pt rs x y)
 | [],x,y,p,q,_,h1,h2=>fun t ht=>by
  rw [pt,mem_singleton] at ht;rw [ht]; show _ < 2 ^ (p + q); exact gR h1.head h2.head
 | r :: rs,x,y,p,q,hr,h1,h2=>by
  have hr':∀r∈rs,Bd ρ r:=fun u hu=>hr u (mem_cons_of_mem _ hu);have ac:=mD rs hr' h1.fr h2.fr;have bd:=mD rs hr' h1.bh h2.bh;have ad:=mD rs hr' h1.fr h2.bh;have bc:=mD rs hr' h1.bh h2.fr;have sq:=mD rs hr' bd (hr r (by simp));rw [pt];show Bd (p + q + (2 * eT ρ rs.length + ρ + 1)) _;refine Bd.app (Bd.mono ((ac.mono (by omega)).add sq) (by omega)) (Bd.mono (ad.add bc) (by omega))
theorem jw {ρ:Nat}:∀(rs:List (List Int)) (n:Nat) (x y:List Int) (p q:Nat),rs.length < n->Sc rs->(∀r∈rs,Bd ρ r)->x.length=2 ^ rs.length->y.length=2 ^ rs.length->Bd p x->Bd q y->p + q + eT ρ rs.length<=200000->rs.length<=8 ->
  jf n [RT rs,TI x,TI y]=.ok (TI (pt rs x y))
 | _,0,_,_,_,_,h,_,_,_,_,_,_,_,_=>absurd h (Nat.not_lt_zero _)
 | [],n + 1,x,y,p,q,_,_,_,hx,hy,bx,by_,hb,_=>by
  show outD (jZ (jf n) [some (.arg (RT [])),some (.arg (TI x)),some (.arg (TI y)),none,none,none,none,none,none,none,none])=_;unfold jZ;have e1:=pJ bx.head (show p<=200000 by omega);have e2:=pJ by_.head (show q<=200000 by omega);push_cast [reverse_nil,map_nil,Az (rO (k:=0) hx),Az (rO (k:=0) hy),gF e1 e2];rfl
 | r :: rs,n + 1,x,y,p,q,hn,S,hr,hx,hy,bx,by_,hb,h8=>by
  obtain ⟨hr1,S⟩:=S;have hb:p + q + (2 * eT ρ rs.length + ρ + 1)<=200000:=hb;have h8:rs.length + 1<=8:=h8;have hr':∀r∈rs,Bd ρ r:=fun u hu=>hr u (mem_cons_of_mem _ hu);have a:=iC hx;have b:=jb hx;have c:=iC hy;have d:=jb hy;have hn':rs.length < n:=Nat.lt_of_succ_lt_succ hn;have i1:=jw rs n (aQ x) (aQ y) p q hn' S hr' a c bx.fr by_.fr (by omega) (by omega);have i2:=jw rs n (aU x) (aU y) p q hn' S hr' b d bx.bh by_.bh (by omega) (by omega);have i3:=jw rs n (aQ x) (aU y) p q hn' S hr' a d bx.fr by_.bh (by omega) (by omega);have i4:=jw rs n (aU x) (aQ y) p q hn' S hr' b c bx.bh by_.fr (by omega) (by omega);have i5:=jw rs n (pt rs (aU x) (aU y)) r (p + q + eT ρ rs.length) ρ hn' S hr' (dM rs _ _ S b d) hr1 (mD rs hr' bx.bh by_.bh) (hr r (by simp)) (by omega) (by omega);have small:2 ^ rs.length<=256:=Nat.le_trans (Nat.pow_le_pow_right (by decide) (show rs.length<=8 by omega)) (by decide);have l1:=dM rs _ _ S a c;have l2:=dM rs _ _ S (dM rs _ _ S b d) hr1;have l3:=dM rs _ _ S a d;have l4:=dM rs _ _ S b c;have p1:=D_ (pt rs (aQ x) (aQ y)) (pt rs (pt rs (aU x) (aU y)) r) (by omega);have p2:=D_ (pt rs (aQ x) (aU y)) (pt rs (aU x) (aQ y)) (by omega);have f1:=mX l1 l2;have f2:=mX l3 l4;have ad:=A_ (a:=bI (pt rs (aQ x) (aQ y)) (pt rs (pt rs (aU x) (aU y)) r)) (b:=bI (pt rs (aQ x) (aU y)) (pt rs (aU x) (aQ y))) (rO f1) (by omega);show outD (jZ (jf n) [some (.arg (RT (r :: rs))),some (.arg (TI x)),some (.arg (TI y)),none,none,none,none,none,none,none,none])=_;unfold jZ;have z:¬(((rs.length + 1:Nat):Int)=0):=by omega
  push_cast [length_map,length_reverse,z,rN,xM,uJ,w_behind,i1,i2,i3,i4,i5,p1,p2,ad,pt]
section
variable {rs:List (List Int)} {F:OF} {of:List Int->F.C} {ρ:Nat}
theorem bm' {k:Nat} (h:k<=3):2 ^ k<=8:=Nat.le_trans (Nat.pow_le_pow_right (by decide) h) (by decide)
theorem nj (T:Tow rs F of) (h3:rs.length<=3) {ts:List Int} {b:Int} {n:Nat} (hl:ts.length=2 ^ rs.length) (hb:b≠0) (h1:Bd n ts) (h2:b.natAbs < 2 ^ n) (hn:n<=8000) :
  ∃d,fV [TI ts,.int b]=.ok d/\Nm of rs.length n d (of ts / (b:F.C)):=by
 obtain ⟨K,x,c,k0,e1,e2,nf,xl,kb,hN⟩:=ca' T hl hb h1 h2;refine ⟨_,?_,hN⟩;rw [e1,e2];exact Jf nf k0 (rO xl) (by have:=bm' h3; omega) (DY kb hn)
theorem Jg (T:Tow rs F of) (h3:rs.length<=3) {ts:List Int} {b:Int} {n m:Nat} (hl:ts.length=2 ^ rs.length) (hb:b≠0) (h1:Bd n ts) (h2:b.natAbs < 2 ^ m) (hm:m<=8000) :
  ∃d,fV [TI ts,.int b]=.ok d/\Nm of rs.length (max n m) d (of ts / (b:F.C)):=by
 obtain ⟨K,x,c,k0,e1,e2,nf,xl,kb,hN⟩:=ca' T (n:=max n m) hl hb (h1.mono (Nat.le_max_left ..)) (Nat.lt_of_lt_of_le h2 (kO (Nat.le_max_right ..)));refine ⟨_,?_,hN⟩;have cp:=nf.pos;have kb:K.natAbs < 2 ^ m:=by
  rw [e2,Int.natAbs_mul] at h2;exact Nat.lt_of_le_of_lt (Nat.le_mul_of_pos_right _ (by omega)) h2
 rw [e1,e2];exact Jf nf k0 (rO xl) (by have:=bm' h3; omega) (DY kb hm)
theorem nq (T:Tow rs F of) (h3:rs.length<=3) {p q:Nat} {d e:D} {u v:F.C} (h1:Nm of rs.length p d u) (h2:Nm of rs.length q e v) (hn:p + q + 1<=8000) :
  ∃z,gC [d,e]=.ok z/\Nm of rs.length (p + q + 1) z (u + v):=by
 obtain ⟨x,b,rfl,nx,lx,bx,bb,ex⟩:=h1;obtain ⟨y,c,rfl,ny,ly,b_y,bc,ey⟩:=h2;have pb:=nx.pos;have pc:=ny.pos;have e8:=bm' h3;have hb:=pJ bb (show p<=200000 by omega);have hc:=pJ bc (show q<=200000 by omega);have sl:(jo x y b c).length=2 ^ rs.length:=Qx lx ly b c;have sb:Bd (p + q + 1) (jo x y b c):=by
  rw [<- Il];have b1:=Im bx bc;have b2:=Im b_y bb;rw [Nat.add_comm q p] at b1;exact b1.add b2
 have bcb:(b * c).natAbs < 2 ^ (p + q + 1):=Nat.lt_of_lt_of_le (gR bb bc) (kO (by omega));obtain ⟨z,ez,hz⟩:=nj T h3 sl (Int.ne_of_gt (Int.mul_pos pb pc)) sb bcb hn;have val:of (jo x y b c) / ((b * c:Int):F.C)=u + v:=by
  have b0:=as' T (show b≠0 by omega);have c0:=as' T (show c≠0 by omega);rw [<- Il,uI T (by simpa using lx) (by simpa using ly),jK T _ lx,jK T _ ly,Lean.Grind.Ring.intCast_mul,ex,ey]
  grind
 rw [val] at hz;refine ⟨z,?_,hz⟩;show outD (oV [some (.arg (num x b)),some (.arg (num y c)),none])=_;unfold oV;have cp:=Du (fe:=two (two (aj 0) (two (aj 2) ‹1› bJ) b_) (two (aj 1) (two (aj 3) ‹1› bJ) b_) aN) (fi:=bu (ak ‹"l"› (ak ‹"z"› ‹""›)) lF) (fr:=[1,0]) (δ:=[some (.arg (num x b)),some (.arg (num y c)),none]) (rest:=[some (.arg (num y c)),some (.arg (num x b))]) (xs:=x) (ys:=y) (g:=fun s t=>.int (s * c + t * b))
  (jW (ds:=[TI x,TI y]) (by push_cast [DL.ap_seq]) rfl) rfl (Nat.le_trans (show x.length<=63 by omega) (by decide)) fun s hs t ht=>by push_cast [gF (pJ (bx s hs) (show p<=200000 by omega)) hc,gF (pJ (b_y t ht) (show q<=200000 by omega)) hb]
 have e:(List.zipWith (fun s t=>D.int (s * c + t * b)) x y)=(jo x y b c).map .int:=by unfold jo; rw [map_zipWith]
 rw [e] at cp;push_cast [cp,gF hb hc,ez]
theorem tL (T:Tow rs F of) (h3:rs.length<=3) {p:Nat} {d:D} {u:F.C} (h1:Nm of rs.length p d u):∃z,oU [d]=.ok z/\Nm of rs.length p z (-u):=by
 obtain ⟨x,b,rfl,nx,lx,bx,bb,ex⟩:=h1;have pb:=nx.pos;have e8:=bm' h3;refine ⟨num (x.map fun t=>-t) b,?_,_,_,rfl,nD' nx,by simpa using lx,dA' bx,bb,?_⟩
 ·show outD (oR [some (.arg (num x b))])=_;unfold oR;push_cast [Ea x (by omega)]
 ·rw [xP T lx,ex];have b0:=as' T (show b≠0 by omega)
  grind
theorem xV (T:Tow rs F of) (h3:rs.length<=3) {p q:Nat} {d e:D} {u v:F.C} (h1:Nm of rs.length p d u) (h2:Nm of rs.length q e v) (hn:p + q + 1<=8000) :
  ∃z,sZ [d,e]=.ok z/\Nm of rs.length (p + q + 1) z (u - v):=by
 obtain ⟨e',q1,q2⟩:=tL T h3 h2;obtain ⟨z,q3,q4⟩:=nq T h3 h1 q2 hn;refine ⟨z,?_,by rwa [show u + -v=u - v by grind] at q4⟩;show outD (oY [some (.arg d),some (.arg e)])=_;unfold oY;push_cast [q1,q3]
theorem pK (T:Tow rs F of) (h3:rs.length<=3) (hr:∀r∈rs,Bd ρ r) {p q:Nat} {d e:D} {u v:F.C} (h1:Nm of rs.length p d u) (h2:Nm of rs.length q e v) (hn:p + q + eT ρ rs.length<=8000) :
  ∃z,jt [RT rs,d,e]=.ok z/\Nm of rs.length (p + q + eT ρ rs.length) z (u * v):=by
 obtain ⟨x,b,rfl,nx,lx,bx,bb,ex⟩:=h1;obtain ⟨y,c,rfl,ny,ly,b_y,bc,ey⟩:=h2;have pb:=nx.pos;have pc:=ny.pos;have S:=T.sc;have t:iU [RT rs,TI x,TI y]=_:=jw rs 4 x y p q (by omega) S hr lx ly bx b_y (by omega) (by omega);have bcb:(b * c).natAbs < 2 ^ (p + q + eT ρ rs.length):=Nat.lt_of_lt_of_le (gR bb bc) (kO (by omega));obtain ⟨z,ez,hz⟩:=nj T h3 (dM rs x y S lx ly) (Int.ne_of_gt (Int.mul_pos pb pc)) (mD rs hr bx b_y) bcb hn;have val:of (pt rs x y) / ((b * c:Int):F.C)=u * v:=by
  have b0:=as' T (show b≠0 by omega);have c0:=as' T (show c≠0 by omega);rw [vW T lx ly,Lean.Grind.Ring.intCast_mul,ex,ey]
  grind
 rw [val] at hz;refine ⟨z,?_,hz⟩;show outD (o9 [some (.arg (RT rs)),some (.arg (num x b)),some (.arg (num y c))])=_;unfold o9;push_cast [t,gF (pJ bb (show p<=200000 by omega)) (pJ bc (show q<=200000 by omega)),ez]
open Classical in
theorem Eb (T:Tow rs F of) (h3:rs.length<=3) {p:Nat} {d:D} {u:F.C} (h1:Nm of rs.length p d u):ju [d]=.ok (.bl (decide (u=0))):=by
 have h0:=h1;obtain ⟨x,b,rfl,nx,lx,bx,bb,ex⟩:=h1;have e8:=bm' h3;have an:sW [TI x]=.ok (.bl (zA x)):=by
  show outD (oF [some (.arg (TI x))])=_;unfold oF;have c:=vU (fe:=two (aj 0) ‹0› gO) (fi:=bindL (aj 0) a_) (fr:=[]) (δ:=[some (.arg (TI x))]) (rest:=[]) (ts:=x) (g:=fun t=>.bl (decide (t=0)))
   (by push_cast [DL.ap_seq]) rfl (Nat.le_trans (show x.length<=63 by omega) (by decide)) fun t ht=>by push_cast [DL.ap_seq]
  have e:(x.map fun t=>D.bl (decide (t=0)))=(x.map fun t=>decide (t=0)).map .bl:=by rw [map_map]; rfl
  rw [e] at c;push_cast [c,nE']
  congr 2
  unfold zA;rw [all_map]; rfl
 show outD (pB [some (.arg (num x b))])=_;unfold pB;push_cast [an]
 congr 2
 have:=h0.zero_iff T
 by_cases c:u=0
 ·rw [this.mp c]; simp [c]
 ·have:zA x=false:=by
   cases h:zA x with
   | false=>rfl
   | true=>exact (c (this.mpr h)).elim
  rw [this]; simp [c]
end
theorem Bj (n:Nat) (a b:List Int):gN n (a ++ b)=gN (gN n a) b:=by unfold gN; rw [foldl_append]
section
variable {F:OF}
theorem Jh {a c b r:F.C} (hb:b≠0):(a * a - c * c * r) / (b * b)=a / b * (a / b) - c / b * (c / b) * r:=by grind
end
section
variable {rs:List (List Int)} {F:OF} {of:List Int->F.C} {ρ:Nat}
section
variable {r:F.C} {hr:0 < r} {hn:∀z:F.C,z * z≠r}
theorem Ji (x:(aH F r hr hn).C) (c:Int) (hc:(c:F.C)≠0):Ext.a (r:=r) (x / (c:(aH F r hr hn).C))=Ext.a (r:=r) x / (c:F.C):=by
 show Ext.a x * ((c:F.C) / ((c:F.C) * (c:F.C) - (0:F.C) * (0:F.C) * r)) + Ext.b x * (-(0:F.C) / ((c:F.C) * (c:F.C) - (0:F.C) * (0:F.C) * r)) * r=_
 grind
theorem Jj (x:(aH F r hr hn).C) (c:Int) (hc:(c:F.C)≠0):Ext.b (r:=r) (x / (c:(aH F r hr hn).C))=Ext.b (r:=r) x / (c:F.C):=by
 show Ext.a x * (-(0:F.C) / ((c:F.C) * (c:F.C) - (0:F.C) * (0:F.C) * r)) + Ext.b x * ((c:F.C) / ((c:F.C) * (c:F.C) - (0:F.C) * (0:F.C) * r))=_
 grind
noncomputable def cj (x:(aH F r hr hn).C):(aH F r hr hn).C:=(⟨Ext.a (r:=r) x,-Ext.b (r:=r) x⟩:Ext r)
noncomputable def em (x:F.C):(aH F r hr hn).C:=(⟨x,0⟩:Ext r)
theorem Jk (x y:F.C):em (hr:=hr) (hn:=hn) (x + y)=em x + em y:=Ext.eqs (r:=r) rfl (show (0:F.C)=0 + 0 by grind)
theorem vZ (x y:F.C):em (hr:=hr) (hn:=hn) (x * y)=em x * em y:=Ext.eqs (r:=r) (show x * y=x * y + 0 * 0 * r by grind) (show (0:F.C)=x * 0 + 0 * y by grind)
theorem Q6 (x:(aH F r hr hn).C):x * cj x=em (Ext.nrm (r:=r) x):=by
 refine Ext.eqs (r:=r) ?_ ?_
 ·show Ext.a x * Ext.a x + Ext.b x * -Ext.b x * r=Ext.a x * Ext.a x - Ext.b x * Ext.b x * r
  grind
 ·show Ext.a x * -Ext.b x + Ext.b x * Ext.a x=(0:F.C)
  grind
theorem Jl (x:(aH F r hr hn).C) (h:x≠0):Ext.nrm (r:=r) x≠0:=fun z=>h (Ext.nrm_0 hn z)
theorem Q7 (x:(aH F r hr hn).C) (h:x≠0):x⁻¹=cj x * em ((Ext.nrm (r:=r) x)⁻¹):=by
 have e1:=Q6 x;have n0:=Jl x h;have e2:em (hr:=hr) (hn:=hn) (Ext.nrm (r:=r) x) * em ((Ext.nrm (r:=r) x)⁻¹)=1:=by
  rw [<- vZ,show Ext.nrm (r:=r) x * (Ext.nrm (r:=r) x)⁻¹=1 by grind]; rfl
 have e3:x * (cj x * em ((Ext.nrm (r:=r) x)⁻¹))=1:=by
  rw [<- Lean.Grind.Semiring.mul_assoc,e1,e2]
 grind
end
theorem Bl {r:List Int} {hr:0 < of r} {hn:∀z:F.C,z * z≠of r} {v:(aH F (of r) hr hn).C} {x:List Int} {b:Int} (hb:(b:F.C)≠0) (e:v=aR of r hr hn x / (b:(aH F (of r) hr hn).C)):Ext.a (r:=of r) v=of (aQ x) / (b:F.C)/\Ext.b (r:=of r) v=of (aU x) / (b:F.C):=by
 rw [e];exact ⟨Ji _ b hb,Jj _ b hb⟩
theorem Bm {r:List Int} {hr:0 < of r} {hn:∀z:F.C,z * z≠of r} {v:(aH F (of r) hr hn).C} {x:List Int} {b:Int} (hb:(b:F.C)≠0) (e1:Ext.a (r:=of r) v=of (aQ x) / (b:F.C)) (e2:Ext.b (r:=of r) v=of (aU x) / (b:F.C)):v=aR of r hr hn x / (b:(aH F (of r) hr hn).C) :=
 Ext.eqs (r:=of r) (e1.trans (Ji (aR of r hr hn x) b hb).symm) (e2.trans (Jj (aR of r hr hn x) b hb).symm)
theorem Ec (T:Tow rs F of) (h3:rs.length < 3) {r:List Int} {hr:0 < of r} {hn:∀z:F.C,z * z≠of r} {p:Nat} {d:D} {v:(aH F (of r) hr hn).C} (h:Nm (aR of r hr hn) (rs.length + 1) p d v) :
  ∃z,tu [d]=.ok z/\Nm (aR of r hr hn) (rs.length + 1) p z (cj v):=by
 obtain ⟨x,b,rfl,nx,lx,bx,bb,ex⟩:=h;have pb:=nx.pos;have b0:=as' T (show b≠0 by omega);have lf:=iC lx;have lb:=jb lx;have e8:=bm' (k:=rs.length) (by omega);have ad:=A_ (a:=aQ x) (b:=(aU x).map fun t=>-t) (rO lf) (by rw [length_map]; omega);have ll:(aQ x).length=((aU x).map fun t=>-t).length:=by rw [length_map,lf,lb]
 refine ⟨num (aQ x ++ (aU x).map fun t=>-t) b,?_,_,_,rfl,⟨pb,?_⟩,?_,Bd.app bx.fr (dA' bx.bh),bb,?_⟩
 ·show outD (o_ [some (.arg (num x b))])=_;unfold o_;push_cast [uJ,w_behind,Ea (aU x) (by omega),ad]
 ·rw [Bj,Dw,<- Bj,DP]; exact nx.one
 ·rw [length_append,length_map,lf,lb,Nat.pow_succ]; omega
 ·obtain ⟨e1,e2⟩:=Bl b0 ex;refine Bm b0 ?_ ?_
  ·rw [rQ ll]; exact e1
  ·rw [rR ll,xP T lb];show -Ext.b v=_;rw [e2]; grind
noncomputable def tM (r:List Int) (rs:List (List Int)) (x:List Int):List Int:=bI (pt rs (aQ x) (aQ x)) ((pt rs (pt rs (aU x) (aU x)) r).map fun t=>-t)
theorem Bo (S:Sc rs) {r x:List Int} (hl:r.length=2 ^ rs.length) (lx:x.length=2 ^ (rs.length + 1)):(tM r rs x).length=2 ^ rs.length :=
 mX (dM rs _ _ S (iC lx) (iC lx)) (by rw [length_map]; exact dM rs _ _ S (dM rs _ _ S (jb lx) (jb lx)) hl)
theorem Bp {r x:List Int} (hr:Bd ρ r) (hrs:∀r∈rs,Bd ρ r) {p:Nat} (h:Bd p x):Bd (2 * p + eT ρ (rs.length + 1)) (tM r rs x):=by
 have a:=mD rs hrs h.fr h.fr;have b:=mD rs hrs (mD rs hrs h.bh h.bh) hr;have:=(a.mono (show p + p + eT ρ rs.length<=p + p + eT ρ rs.length + ρ + eT ρ rs.length by omega)).add (dA' b);exact this.mono (by show _<=2 * p + (2 * eT ρ rs.length + ρ + 1); omega)
theorem Jo (S:Sc rs) (h3:rs.length < 3) {r x:List Int} (hl:r.length=2 ^ rs.length) (hr:Bd ρ r) (hrs:∀r∈rs,Bd ρ r) {p:Nat} (lx:x.length=2 ^ (rs.length + 1)) (h:Bd p x) (hp:2 * p + eT ρ (rs.length + 1)<=200000) :
  pq [RT (r :: rs),TI x]=.ok (TI (tM r rs x)):=by
 have lf:=iC lx;have lb:=jb lx;have e8:=bm' (k:=rs.length) (by omega);have hp':2 * p + (2 * eT ρ rs.length + ρ + 1)<=200000:=hp;have t1:iU [RT rs,TI (aQ x),TI (aQ x)]=_:=jw rs 4 _ _ p p (by omega) S hrs lf lf h.fr h.fr (by omega) (by omega);have t2:iU [RT rs,TI (aU x),TI (aU x)]=_:=jw rs 4 _ _ p p (by omega) S hrs lb lb h.bh h.bh (by omega) (by omega);have l2:=dM rs _ _ S lb lb;have t3:iU [RT rs,TI (pt rs (aU x) (aU x)),TI r]=_:=jw rs 4 _ _ (p + p + eT ρ rs.length) ρ (by omega) S hrs l2 hl (mD rs hrs h.bh h.bh) hr (by omega) (by omega);have l3:=dM rs _ _ S l2 hl;have l1:=dM rs _ _ S lf lf;have g:=Ea (pt rs (pt rs (aU x) (aU x)) r) (by omega);have pl:=D_ (pt rs (aQ x) (aQ x)) ((pt rs (pt rs (aU x) (aU x)) r).map fun t=>-t) (by omega);show outD (ph [some (.arg (RT (r :: rs))),some (.arg (TI x)),none,none,none,none])=_;unfold ph tM;push_cast [rN,xM,uJ,w_behind,t1,t2,t3,g,pl]
theorem Bq (T:Tow rs F of) {r x:List Int} (hl:r.length=2 ^ rs.length) (lx:x.length=2 ^ (rs.length + 1)):of (tM r rs x)=of (aQ x) * of (aQ x) - of (aU x) * of (aU x) * of r:=by
 have S:=T.sc;have lf:=iC lx;have lb:=jb lx;unfold tM;rw [uI T (dM rs _ _ S lf lf) (by rw [length_map]; exact dM rs _ _ S (dM rs _ _ S lb lb) hl),xP T (dM rs _ _ S (dM rs _ _ S lb lb) hl),vW T lf lf,vW T (dM rs _ _ S lb lb) hl,vW T lb lb]
 grind
theorem tO (T:Tow rs F of) (h3:rs.length < 3) {r:List Int} (hl:r.length=2 ^ rs.length) {hr:0 < of r} {hn:∀z:F.C,z * z≠of r} (hrr:Bd ρ r) (hrs:∀r∈rs,Bd ρ r) {p:Nat} {d:D} {v:(aH F (of r) hr hn).C} (h:Nm (aR of r hr hn) (rs.length + 1) p d v) (hp:2 * p + eT ρ (rs.length + 1)<=8000) :
  ∃z,m8 [RT (r :: rs),d]=.ok z/\Nm of rs.length (2 * p + eT ρ (rs.length + 1)) z (Ext.nrm (r:=of r) v):=by
 obtain ⟨x,b,rfl,nx,lx,bx,bb,ex⟩:=h;have pb:=nx.pos;have b0:=as' T (show b≠0 by omega);have S:=T.sc;have nt:=Jo S h3 hl hrr hrs lx bx (by omega);have bb2:(b * b).natAbs < 2 ^ (2 * p + eT ρ (rs.length + 1)):=Nat.lt_of_lt_of_le (gR bb bb) (kO (by omega));obtain ⟨z,ez,hz⟩:=nj T (by omega) (Bo S hl lx) (Int.ne_of_gt (Int.mul_pos pb pb)) (Bp hrr hrs bx) bb2 hp;obtain ⟨e1,e2⟩:=Bl b0 ex;have val:of (tM r rs x) / ((b * b:Int):F.C)=Ext.nrm (r:=of r) v:=by
  unfold Ext.nrm;rw [Bq T hl lx,Lean.Grind.Ring.intCast_mul,e1,e2];exact Jh b0
 rw [val] at hz;refine ⟨z,?_,hz⟩;show outD (pA [some (.arg (RT (r :: rs))),some (.arg (num x b))])=_;unfold pA;have hbB:=pJ bb (show p<=200000 by omega);push_cast [nt,gF hbB hbB,ez]
theorem pL (T:Tow rs F of) (h3:rs.length < 3) {r:List Int} {hr:0 < of r} {hn:∀z:F.C,z * z≠of r} {p:Nat} {d:D} {v:(aH F (of r) hr hn).C} (h:Nm (aR of r hr hn) (rs.length + 1) p d v) (hp:p<=8000) :
  ∃y z,jY [d]=.ok (.tup [y,z])/\Nm of rs.length p y (Ext.a (r:=of r) v)/\Nm of rs.length p z (Ext.b (r:=of r) v):=by
 obtain ⟨x,b,rfl,nx,lx,bx,bb,ex⟩:=h;have pb:=nx.pos;have b0:=as' T (show b≠0 by omega);obtain ⟨e1,e2⟩:=Bl b0 ex;obtain ⟨y,ey,hy⟩:=nj T (by omega) (iC lx) (show b≠0 by omega) bx.fr bb hp;obtain ⟨z,ez,hz⟩:=nj T (by omega) (jb lx) (show b≠0 by omega) bx.bh bb hp;rw [<- e1] at hy;rw [<- e2] at hz;refine ⟨y,z,?_,hy,hz⟩;show outD (oW [some (.arg (num x b))])=_;unfold oW;push_cast [uJ,w_behind,ey,ez]
theorem vm (T:Tow rs F of) (h3:rs.length < 3) {r:List Int} {hr:0 < of r} {hn:∀z:F.C,z * z≠of r} {p:Nat} {d:D} {v:F.C} (h:Nm of rs.length p d v) :
  ∃z,gA [d,.int ((rs.length + 1:Nat):Int)]=.ok z/\Nm (aR of r hr hn) (rs.length + 1) p z (em v):=by
 obtain ⟨x,b,rfl,nx,lx,bx,bb,ex⟩:=h;have pb:=nx.pos;have b0:=as' T (show b≠0 by omega);have e8:=bm' (k:=rs.length) (by omega);have ll:x.length=(List.replicate (2 ^ rs.length) (0:Int)).length:=by simpa using lx
 refine ⟨num (x ++ List.replicate (2 ^ rs.length) 0) b,?_,_,_,rfl,⟨pb,?_⟩,?_,Bd.app bx fun t ht=>by rw [eq_of_mem_replicate ht]; exact Nat.two_pow_pos p,bb,?_⟩
 ·show outD (oE [some (.arg (num x b)),some (.arg (.int ((rs.length + 1:Nat):Int)))])=_;unfold oE;have su:((2 ^ (rs.length + 1):Nat):Int) - (x.length:Int)=((2 ^ rs.length:Nat):Int):=by
   rw [lx,Nat.pow_succ]; omega
  have lx':((List.map D.int x).length:Int)=(x.length:Int):=by rw [length_map]
  push_cast [QB (rs.length + 1) (by omega),lx'];rw [su];push_cast [Ip (2 ^ rs.length) (by omega),Ij (a:=x) (b:=List.replicate (2 ^ rs.length) 0) (by rw [length_replicate]; omega)]
 ·rw [Bj,nx.one,Dv]
 ·rw [length_append,length_replicate,lx,Nat.pow_succ]; omega
 ·refine Bm b0 ?_ ?_
  ·rw [rQ ll]; exact ex
  ·rw [rR ll,vX T];show (0:F.C)=_
   grind
noncomputable def SOk (ρ:Nat):Nat->Nat->Prop
 | 0,p=>p<=200000
 | k + 1,p=>2 * p + eT ρ (k + 1)<=200000/\SOk ρ k (2 * p + eT ρ (k + 1))
theorem SOk.mono {ρ:Nat}:∀{k p q:Nat},SOk ρ k q->p<=q->SOk ρ k p
 | 0,_,_,h,e=>Nat.le_trans e h
 | k + 1,p,q,⟨h1,h2⟩,e=>⟨by omega,SOk.mono (k:=k) h2 (by omega)⟩
theorem Q8 (n:Int):tE [.int n]=.ok (.int (sg n)):=by
 show outD (pD [some (.arg (.int n))])=_;unfold pD;rcases Iv n with ⟨h,e⟩ | ⟨h,e⟩ | ⟨h,e⟩ <;> rw [e]
 ·push_cast [h]
 ·have h0:¬(n=0):=by omega
  push_cast [h0,h]
 ·have h0:¬(n=0):=by omega
  have h1:¬(0 < n):=by omega
  push_cast [h0,h1]
theorem Q9 (T:Tow rs F of) (k:Int):sgn (k:F.C)=sg k:=by
 rcases Iv k with ⟨h,e⟩ | ⟨h,e⟩ | ⟨h,e⟩ <;> rw [e]
 ·rw [h]; exact sgn_0.mpr Lean.Grind.Ring.intCast_zero
 ·exact sgn_p.mpr (jX T h)
 ·have:=jX T (k:=-k) (by omega);rw [Lean.Grind.Ring.intCast_neg] at this;exact sgn_n.mpr (by grind)
theorem Jp (x:F.C):(sgn x).natAbs < 2 ^ 200000:=by
 refine Nat.lt_of_lt_of_le (show (sgn x).natAbs < 2 ^ 1 by rcases my x with ⟨_,e⟩ | ⟨_,e⟩ | ⟨_,e⟩ <;> rw [e] <;> decide) (kO (by decide))
theorem Q_ (T:Tow rs F of):∀(n:Nat) (x:List Int) (p:Nat),rs.length < n->rs.length<=3->(∀r∈rs,Bd ρ r)->x.length=2 ^ rs.length->Bd p x->SOk ρ rs.length p ->
  jh n [RT rs,TI x]=.ok (.int (sgn (of x))):=by
 induction T with
 | nil =>
  intro n x p hn h3 hrs lx bx hs
  match n,hn,x,lx with
  | n + 1,_,[a],_ =>
   show outD (j6 (jh n) [some (.arg (RT [])),some (.arg (TI [a])),none,none,none])=_;unfold j6;have rM:bJ (TI [a]) (.int 0)=.ok (.int a):=ix_tup0 _ _;have e:sgn (F:=ratOF) (((a:Int):Rat))=sg a:=Q9 Tow.nil a;show _=Res.ok (D.int (sgn (F:=ratOF) (((a:Int):Rat))));rw [e];push_cast [reverse_nil,map_nil,rM,Q8]
 | @cons rs F of T r hl hr hn' ih =>
  intro n x p hn h3 hrs lx bx hs
  match n,hn with
  | n + 1,hn =>
   obtain ⟨hs1,hs2⟩:=hs;have h3':rs.length + 1<=3:=h3;have hrs':∀r∈rs,Bd ρ r:=fun u hu=>hrs u (mem_cons_of_mem _ hu);have hn2:rs.length < n:=Nat.lt_of_succ_lt_succ hn;have S:=T.sc;have i1:=ih n (aQ x) p hn2 (by omega) hrs' (iC lx) bx.fr (hs2.mono (by omega));have i2:=ih n (aU x) p hn2 (by omega) hrs' (jb lx) bx.bh (hs2.mono (by omega));have nt:=Jo S (by omega) hl (hrs r (by simp)) hrs' lx bx hs1;have i3:=ih n (tM r rs x) _ hn2 (by omega) hrs' (Bo S hl lx) (Bp (hrs r (by simp)) hrs' bx) hs2;rw [Bq T hl lx] at i3;have es:=DQ (hr:=hr) (hn:=hn') (aR of r hr hn' x);have es':sgn (aR of r hr hn' x)=if sgn (of (aQ x))=sgn (of (aU x))\/sgn (of (aU x))=0 then sgn (of (aQ x)) else if sgn (of (aQ x))=0 then sgn (of (aU x)) else sgn (of (aQ x)) * sgn (of (aQ x) * of (aQ x) - of (aU x) * of (aU x) * of r):=es
   rw [es'];have z:¬(((rs.length + 1:Nat):Int)=0):=by omega
   show outD (j6 (jh n) [some (.arg (RT (r :: rs))),some (.arg (TI x)),none,none,none])=_;unfold j6;generalize of (aQ x) * of (aQ x) - of (aU x) * of (aU x) * of r=nn at *;have mu:=gF (Jp (of (aQ x))) (Jp nn)
   by_cases c1:sgn (of (aQ x))=sgn (of (aU x))
   ·rw [if_pos (.inl c1)];push_cast [length_map,length_reverse,z,rN,uJ,w_behind,i1,i2,c1]
   ·by_cases c2:sgn (of (aU x))=0
    ·rw [if_pos (.inr c2)];have c1':¬(sgn (of (aQ x))=0):=fun q=>c1 (by rw [q,c2]);push_cast [length_map,length_reverse,z,rN,uJ,w_behind,i1,i2,c2,c1']
    ·rw [if_neg (fun q=>q.elim c1 c2)]
     by_cases c3:sgn (of (aQ x))=0
     ·rw [if_pos c3];have c1':¬(0=sgn (of (aU x))):=fun q=>c2 q.symm;push_cast [length_map,length_reverse,z,rN,uJ,w_behind,i1,i2,c2,c3,c1']
     ·rw [if_neg c3];push_cast [length_map,length_reverse,z,rN,uJ,w_behind,i1,i2,c1,c2,c3,nt,i3,mu]
theorem Ra (T:Tow rs F of) {u:F.C} {b:Int} (hb:0 < b):sgn (u / (b:F.C))=sgn u:=by
 have bp:=jX T hb;have h1:sgn ((b:F.C) * (u / (b:F.C)))=sgn (u / (b:F.C)):=by rw [sgn_mul,sgn_p.mpr bp,Int.one_mul]
 rw [<- h1]; congr 1; grind
theorem Ed (T:Tow rs F of) (h3:rs.length<=3) (hrs:∀r∈rs,Bd ρ r) {p:Nat} {d:D} {u:F.C} (h:Nm of rs.length p d u) (hs:SOk ρ rs.length p):tH [RT rs,d]=.ok (.int (sgn u)):=by
 obtain ⟨x,b,rfl,nx,lx,bx,bb,ex⟩:=h;have pb:=nx.pos;have i:=Q_ T 4 x p (by omega) h3 hrs lx bx hs;have i':tG [RT rs,TI x]=.ok (.int (sgn (of x))):=i;show outD (pG [some (.arg (RT rs)),some (.arg (num x b))])=_;unfold pG;rw [ex,Ra T pb];push_cast [i']
open Classical in
noncomputable def fabs {F:OF} (u:F.C):F.C:=if u < 0 then -u else u
theorem Ef (T:Tow rs F of) (h3:rs.length<=3) (hrs:∀r∈rs,Bd ρ r) {p:Nat} {d:D} {u:F.C} (h:Nm of rs.length p d u) (hs:SOk ρ rs.length p):∃z,lN [RT rs,d]=.ok z/\Nm of rs.length p z (fabs u):=by
 have i:=Ed T h3 hrs h hs;have o:∀z,outD (m_ [some (.arg (RT rs)),some (.arg d)])=.ok z->lN [RT rs,d]=.ok z:=fun z q=>q;unfold fabs
 by_cases c:u < 0
 ·obtain ⟨z,ez,hz⟩:=tL T h3 h;refine ⟨z,o z ?_,by rw [if_pos c]; exact hz⟩;unfold m_;have e:=sgn_n.mpr c;push_cast [i,e,ez]
 ·refine ⟨d,o d ?_,by rw [if_neg c]; exact h⟩;unfold m_;have e:¬(sgn u < 0):=by
   rcases my u with ⟨_,e⟩ | ⟨_,e⟩ | ⟨h2,e⟩
   ·rw [e]; decide
   ·rw [e]; decide
   ·exact (c h2).elim
  push_cast [i,e]
noncomputable def oB (ρ:Nat):Nat->Nat->Nat
 | 0,p=>p
 | k + 1,p=>p + oB ρ k (2 * p + eT ρ (k + 1)) + eT ρ (k + 1)
theorem Rb (ρ:Nat):∀(k p:Nat),p<=oB ρ k p
 | 0,p=>Nat.le_refl _
 | k + 1,p=>by show p<=p + oB ρ k (2 * p + eT ρ (k + 1)) + eT ρ (k + 1); omega
theorem Eg (T:Tow rs F of):∀(n p:Nat) (d:D) (u:F.C),rs.length < n->rs.length<=3->(∀r∈rs,Bd ρ r)->Nm of rs.length p d u->u≠0->oB ρ rs.length p<=8000 ->
  ∃z,jg n [RT rs,d]=.ok z/\Nm of rs.length (oB ρ rs.length p) z (u⁻¹):=by
 induction T with
 | nil =>
  intro n p d u hn h3 hrs h u0 hp
  match n,hn with
  | n + 1,_ =>
   obtain ⟨x,b,rfl,nx,lx,bx,bb,ex⟩:=h
   match x,lx with
   | [a],_ =>
    have pb:=nx.pos;have a0:a≠0:=fun z=>u0 (by rw [ex,z]; show ((0:Int):Rat) / _=0; rw [show ((0:Int):Rat)=0 from rfl]; grind)
    have ab:a.natAbs < 2 ^ p:=bx a (by simp);obtain ⟨z,ez,hz⟩:=nj Tow.nil (by decide) (ts:=[b]) (b:=a) (n:=p) rfl a0 (fun t ht=>by rw [mem_singleton.mp ht]; exact bb) ab hp;have val:(((b:Int):Rat)) / ((a:Int):Rat)=(((a:Int):Rat) / ((b:Int):Rat))⁻¹:=by
     have h1:((a:Int):Rat)≠0:=fun z=>a0 (Rat.intCast_eq_zero_iff.mp z);have h2:((b:Int):Rat)≠0:=fun z=>absurd (Rat.intCast_eq_zero_iff.mp z) (by omega)
     grind
    refine ⟨z,?_,?_⟩
    ·show outD (j4 (jg n) [some (.arg (RT [])),some (.arg (num [a] b)),none])=_;unfold j4;have rM:bJ (TI [a]) (.int 0)=.ok (.int a):=ix_tup0 _ _;have ez':fV [.tup [.int b],.int a]=.ok z:=ez;push_cast [reverse_nil,map_nil,map_cons,rM,ez']
    ·rw [ex];have hz':Nm (F:=ratOF) (fun x=>((x.headD 0:Int):Rat)) 0 p z ((((b:Int):Rat)) / ((a:Int):Rat)):=hz;rw [val] at hz';exact hz'
 | @cons rs F of T r hl hr hn' ih =>
  intro n p d u hn h3 hrs h u0 hp
  match n,hn with
  | n + 1,hn =>
   have h3':rs.length + 1<=3:=h3;have hp':p + oB ρ rs.length (2 * p + eT ρ (rs.length + 1)) + eT ρ (rs.length + 1)<=8000:=hp;have hrs':∀r∈rs,Bd ρ r:=fun u hu=>hrs u (mem_cons_of_mem _ hu);have le:=Rb ρ rs.length (2 * p + eT ρ (rs.length + 1));obtain ⟨m,em_,hm⟩:=tO T (by omega) hl (hr:=hr) (hn:=hn') (hrs r (by simp)) hrs' h (by omega);obtain ⟨b,eb,hb⟩:=ih n _ m _ (Nat.lt_of_succ_lt_succ hn) (by omega) hrs' hm (Jl u u0) (by omega);obtain ⟨t,et,ht⟩:=Ec T (by omega) h;obtain ⟨l,el,hl'⟩:=vm T (by omega) (r:=r) (hr:=hr) (hn:=hn') hb;have TT:=Tow.cons T r hl hr hn';obtain ⟨z,ez,hz⟩:=pK TT h3 hrs ht hl' hp';rw [<- Q7 u u0] at hz;refine ⟨z,?_,hz⟩;show outD (j4 (jg n) [some (.arg (RT (r :: rs))),some (.arg d),none])=_;unfold j4;have zz:¬(((rs.length + 1:Nat):Int)=0):=by omega
   push_cast [length_map,length_reverse,zz,rN,em_,eb,et,el,ez]
theorem tQ (T:Tow rs F of) (h3:rs.length<=3) (hrs:∀r∈rs,Bd ρ r) {p q:Nat} {d e:D} {u v:F.C} (h1:Nm of rs.length p d u) (h2:Nm of rs.length q e v) (v0:v≠0) (hn:p + oB ρ rs.length q + eT ρ rs.length<=8000) :
  ∃z,j5 [RT rs,d,e]=.ok z/\Nm of rs.length (p + oB ρ rs.length q + eT ρ rs.length) z (u / v):=by
 obtain ⟨i,ei,hi⟩:=Eg T 4 q e v (by omega) h3 hrs h2 v0 (by omega);obtain ⟨z,ez,hz⟩:=pK T h3 hrs h1 hi hn;rw [show u * v⁻¹=u / v by grind] at hz;refine ⟨z,?_,hz⟩;have no:=Eb T h3 h2;have ei':tD [RT rs,e]=.ok i:=ei;show outD (pC [some (.arg (RT rs)),some (.arg d),some (.arg e)])=_;unfold pC;push_cast [no,v0,ei',ez]
end
theorem up {x n:Nat} (h:x < 2 ^ n) (m:Nat) (e:n<=m):x < 2 ^ m:=Nat.lt_of_lt_of_le h (Nat.pow_le_pow_right (by decide) e)
noncomputable def mixV:List Int:=[271828183,314159269,161803399,141421357,173205081,223606797,244948975,264575131,331662479,360555127]
noncomputable def mix (c:Int) (k:Nat) (m:Int):Int:=Int.fmod (Int.fmod ((c + 1) * mixV.getD k 0) 1000000007) m
theorem nu (c:Int) (k:Nat) {m:Int} (h:0 < m):0<=mix c k m/\mix c k m < m:=⟨Int.fmod_nonneg_of_pos _ h,Int.fmod_lt_of_pos _ h⟩
theorem nA (c:Int) (k:Nat) (m:Int) (hk:k < 10) (hm:0 < m):bA [.int c,.int k,.int m]=.ok (.int (mix c k m)):=by
 show outD (o7 [some (.arg (.int c)),some (.arg (.int k)),some (.arg (.int m)),none])=_;unfold o7 mix;have ad:aN (.lst [.int 271828183,.int 314159269,.int 161803399,.int 141421357,.int 173205081]) (.lst [.int 223606797,.int 244948975,.int 264575131,.int 331662479,.int 360555127])=.ok (.lst (mixV.map .int)):=rfl;have hl:k < mixV.length:=hk;have hg:(mixV.map D.int)[k]? = some (.int (mixV.getD k 0)):=by
  rw [List.getElem?_map,getD_eq_getElem?_getD,List.getElem?_eq_getElem hl]; rfl
 have hs:∀v∈mixV,v.natAbs < 2 ^ 64:=by decide
 have hv:(mixV.getD k 0).natAbs < 2 ^ 64:=by
  rw [getD_eq_getElem?_getD,List.getElem?_eq_getElem hl]; exact hs _ (getElem_mem hl)
 push_cast [ad,xG _ k _ hg,u6 hv,dG (show (1000000007:Int)≠0 by decide),dG (Int.ne_of_gt hm)]
theorem Rc:cJ [[2]]/\cJ [[3,0],[2]]/\cJ [[5,0,0,0],[3,0],[2]]:=vY (by decide) (by decide) (by decide) fun n hn=>by
 simp only [mem_cons,not_mem_nil,or_false] at hn;rcases hn with rfl | rfl | rfl | rfl | rfl | rfl | rfl
 ·exact ⟨1,by decide,by decide,by decide⟩
 ·exact ⟨1,by decide,by decide,by decide⟩
 ·exact ⟨2,by decide,by decide,by decide⟩
 ·exact ⟨2,by decide,by decide,by decide⟩
 ·exact ⟨3,by decide,by decide,by decide⟩
 ·exact ⟨3,by decide,by decide,by decide⟩
 ·exact ⟨5,by decide,by decide,by decide⟩
theorem Rf:cJ [[3]]/\cJ [[5,0],[3]]/\cJ [[7,0,0,0],[5,0],[3]]:=vY (by decide) (by decide) (by decide) fun n hn=>by
 simp only [mem_cons,not_mem_nil,or_false] at hn;rcases hn with rfl | rfl | rfl | rfl | rfl | rfl | rfl
 ·exact ⟨1,by decide,by decide,by decide⟩
 ·exact ⟨2,by decide,by decide,by decide⟩
 ·exact ⟨3,by decide,by decide,by decide⟩
 ·exact ⟨2,by decide,by decide,by decide⟩
 ·exact ⟨4,by decide,by decide,by decide⟩
 ·exact ⟨5,by decide,by decide,by decide⟩
 ·exact ⟨10,by decide,by decide,by decide⟩
theorem Rg:cJ [[5]]/\cJ [[7,0],[5]]/\cJ [[11,0,0,0],[7,0],[5]]:=vY (by decide) (by decide) (by decide) fun n hn=>by
 simp only [mem_cons,not_mem_nil,or_false] at hn;rcases hn with rfl | rfl | rfl | rfl | rfl | rfl | rfl
 ·exact ⟨2,by decide,by decide,by decide⟩
 ·exact ⟨2,by decide,by decide,by decide⟩
 ·exact ⟨5,by decide,by decide,by decide⟩
 ·exact ⟨3,by decide,by decide,by decide⟩
 ·exact ⟨7,by decide,by decide,by decide⟩
 ·exact ⟨8,by decide,by decide,by decide⟩
 ·exact ⟨19,by decide,by decide,by decide⟩
theorem Rh:cJ [[7]]/\cJ [[11,0],[7]]/\cJ [[13,0,0,0],[11,0],[7]]:=vY (by decide) (by decide) (by decide) fun n hn=>by
 simp only [mem_cons,not_mem_nil,or_false] at hn;rcases hn with rfl | rfl | rfl | rfl | rfl | rfl | rfl
 ·exact ⟨2,by decide,by decide,by decide⟩
 ·exact ⟨3,by decide,by decide,by decide⟩
 ·exact ⟨8,by decide,by decide,by decide⟩
 ·exact ⟨3,by decide,by decide,by decide⟩
 ·exact ⟨9,by decide,by decide,by decide⟩
 ·exact ⟨11,by decide,by decide,by decide⟩
 ·exact ⟨31,by decide,by decide,by decide⟩
theorem Ri:cJ [[11]]/\cJ [[13,0],[11]]/\cJ [[2,0,0,0],[13,0],[11]]:=vY (by decide) (by decide) (by decide) fun n hn=>by
 simp only [mem_cons,not_mem_nil,or_false] at hn;rcases hn with rfl | rfl | rfl | rfl | rfl | rfl | rfl
 ·exact ⟨3,by decide,by decide,by decide⟩
 ·exact ⟨3,by decide,by decide,by decide⟩
 ·exact ⟨11,by decide,by decide,by decide⟩
 ·exact ⟨1,by decide,by decide,by decide⟩
 ·exact ⟨4,by decide,by decide,by decide⟩
 ·exact ⟨5,by decide,by decide,by decide⟩
 ·exact ⟨16,by decide,by decide,by decide⟩
theorem Rj:cJ [[13]]/\cJ [[2,0],[13]]/\cJ [[3,0,0,0],[2,0],[13]]:=vY (by decide) (by decide) (by decide) fun n hn=>by
 simp only [mem_cons,not_mem_nil,or_false] at hn;rcases hn with rfl | rfl | rfl | rfl | rfl | rfl | rfl
 ·exact ⟨3,by decide,by decide,by decide⟩
 ·exact ⟨1,by decide,by decide,by decide⟩
 ·exact ⟨5,by decide,by decide,by decide⟩
 ·exact ⟨1,by decide,by decide,by decide⟩
 ·exact ⟨6,by decide,by decide,by decide⟩
 ·exact ⟨2,by decide,by decide,by decide⟩
 ·exact ⟨8,by decide,by decide,by decide⟩
theorem Rk (i:Int) (h0:0<=i) (h6:i < 6):∃v1 v2 v3:Int,bJ (.lst [.int 2,.int 3,.int 5,.int 7,.int 11,.int 13]) (.int i)=.ok (.int v1)/\bJ (.lst [.int 2,.int 3,.int 5,.int 7,.int 11,.int 13]) (.int (Int.fmod (i + 1) 6))=.ok (.int v2)/\bJ (.lst [.int 2,.int 3,.int 5,.int 7,.int 11,.int 13]) (.int (Int.fmod (i + 2) 6))=.ok (.int v3)/\v1.natAbs < 2 ^ 10/\v2.natAbs < 2 ^ 10/\v3.natAbs < 2 ^ 10/\cJ [[v1]]/\cJ [[v2,0],[v1]]/\cJ [[v3,0,0,0],[v2,0],[v1]]:=by
 have:i=0\/i=1\/i=2\/i=3\/i=4\/i=5:=by omega
 rcases this with z | z | z | z | z | z <;> rw [z]
 ·exact ⟨2,3,5,rfl,rfl,rfl,by decide,by decide,by decide,Rc⟩
 ·exact ⟨3,5,7,rfl,rfl,rfl,by decide,by decide,by decide,Rf⟩
 ·exact ⟨5,7,11,rfl,rfl,rfl,by decide,by decide,by decide,Rg⟩
 ·exact ⟨7,11,13,rfl,rfl,rfl,by decide,by decide,by decide,Rh⟩
 ·exact ⟨11,13,2,rfl,rfl,rfl,by decide,by decide,by decide,Ri⟩
 ·exact ⟨13,2,3,rfl,rfl,rfl,by decide,by decide,by decide,Rj⟩
theorem v7 {n:Nat} {a:Int} (h:a.natAbs < 2 ^ n):Bd n [a]:=fun t ht=>by rw [mem_singleton.mp ht]; exact h
theorem uK {n:Nat} {a:Int} {l:List Int} (h:a.natAbs < 2 ^ n) (hl:Bd n l):Bd n (a :: l):=fun t ht=>(mem_cons.mp ht).elim (fun z=>by rw [z]; exact h) (hl t)
theorem Rm (c:Int):∃R1 R2 R3:List Int,R1.length=1/\R2.length=2/\R3.length=4/\Bd 10 R1/\Bd 10 R2/\Bd 10 R3/\(cJ [R1]/\cJ [R2,R1]/\cJ [R3,R2,R1])/\∀level:Nat,eU [.int c,.int level]=.ok (.tup ([TI R1,TI R2,TI R3].take level)):=by
 have b0:=nu c 0 (m:=6) (by decide);have x0:bA [.int c,.int 0,.int 6]=_:=nA c 0 6 (by decide) (by decide);generalize mix c 0 6=y0 at b0 x0;have sq:(1 + y0) * (1 + y0)<=6 * 6:=Int.mul_le_mul (by omega) (by omega) (by omega) (by decide);have sq0:0<=(1 + y0) * (1 + y0):=Int.mul_nonneg (by omega) (by omega);have b1:=nu c 1 (m:=2 * (1 + y0)) (by omega);have x1:bA [.int c,.int 1,.int (2 * (1 + y0))]=_:=nA c 1 (2 * (1 + y0)) (by decide) (by omega);generalize mix c 1 (2 * (1 + y0))=y1 at b1 x1;have b2:=nu c 2 (m:=3) (by decide);have x2:bA [.int c,.int 2,.int 3]=_:=nA c 2 3 (by decide) (by decide);generalize mix c 2 3=y2 at b2 x2;have b3:=nu c 3 (m:=3) (by decide);have x3:bA [.int c,.int 3,.int 3]=_:=nA c 3 3 (by decide) (by decide);generalize mix c 3 3=y3 at b3 x3;have br:(1 + y2) * (1 + y0)<=3 * 6:=Int.mul_le_mul (by omega) (by omega) (by omega) (by decide);have br0:0<=(1 + y2) * (1 + y0):=Int.mul_nonneg (by omega) (by omega);have b4:=nu c 4 (m:=(1 + y2) * (1 + y0) + 1) (by omega);have x4:bA [.int c,.int 4,.int ((1 + y2) * (1 + y0) + 1)]=_:=nA c 4 ((1 + y2) * (1 + y0) + 1) (by decide) (by omega);generalize mix c 4 ((1 + y2) * (1 + y0) + 1)=y4 at b4 x4;have b5:=nu c 5 (m:=1 + y3) (by omega);have x5:bA [.int c,.int 5,.int (1 + y3)]=_:=nA c 5 (1 + y3) (by decide) (by omega);generalize mix c 5 (1 + y3)=y5 at b5 x5;have x6:bA [.int c,.int 6,.int 3]=_:=nA c 6 3 (by decide) (by decide);generalize mix c 6 3=y6 at x6;have b7:=nu c 7 (m:=6) (by decide);have x7:bA [.int c,.int 7,.int 6]=_:=nA c 7 6 (by decide) (by decide);generalize mix c 7 6=y7 at b7 x7;have big:(1024:Nat)=2 ^ 10:=by decide
 have tiny:∀{a:Int},0<=a->a < 1000->a.natAbs < 2 ^ 1000:=fun {a} h1 h2=>Nat.lt_of_lt_of_le (show a.natAbs < 2 ^ 10 by rw [<- big]; omega) (Nat.pow_le_pow_right (by decide) (by decide));have m1:=uZ (a:=1 + y0) (b:=1 + y0) (tiny (by omega) (by omega)) (tiny (by omega) (by omega));have m2:=uZ (a:=2) (b:=1 + y0) (tiny (by omega) (by omega)) (tiny (by omega) (by omega));have m3:=uZ (a:=1 + y2) (b:=1 + y0) (tiny (by omega) (by omega)) (tiny (by omega) (by omega));have z10:(0:Int).natAbs < 2 ^ 10:=by decide
 by_cases h:y6=0
 ·obtain ⟨v1,v2,v3,e1,e2,e3,w1,w2,w3,sc⟩:=Rk y7 b7.1 b7.2;refine ⟨[v1],[v2,0],[v3,0,0,0],rfl,rfl,rfl,v7 w1,uK w2 (v7 z10),uK w3 (uK z10 (uK z10 (v7 z10))),sc,fun level=>?_⟩;show outD (cg [some (.arg (.int c)),some (.arg (.int level)),none,none,none,none,none,none,none])=_;unfold cg;push_cast [x0,x1,x2,x3,x4,x5,x6,x7,m1,m2,m3,h,e1,e2,e3,dG (show (6:Int)≠0 by decide),xK];rfl
 ·have ex:(1 + y0 + 1) * (1 + y0 + 1)=(1 + y0) * (1 + y0) + 2 * (1 + y0) + 1:=by grind
  have sn:=QZ (m:=(1 + y0) * (1 + y0) + 1 + y1) (r:=1 + y0) (c:=y4) (b:=1 + y2) (e:=y5) (k:=1 + y3) (by omega) (by omega) (by omega) (by omega) (by omega) (by omega) (by omega) (by omega);refine ⟨[(1 + y0) * (1 + y0) + 1 + y1],[y4,1 + y2],[y5,0,1 + y3,0],rfl,rfl,rfl,v7 (by rw [<- big]; omega),uK (by rw [<- big]; omega) (v7 (by rw [<- big]; omega)),uK (by rw [<- big]; omega) (uK z10 (uK (by rw [<- big]; omega) (v7 z10))),sn,fun level=>?_⟩;show outD (cg [some (.arg (.int c)),some (.arg (.int level)),none,none,none,none,none,none,none])=_;unfold cg;push_cast [x0,x1,x2,x3,x4,x5,x6,m1,m2,m3,h,xK];rfl
theorem Jq (x y:List Int) (hl:x.length<=1000):eQ [TI x,TI y]=.ok (TI (bI x y)):=by
 show outD (eO [some (.arg (TI x)),some (.arg (TI y))])=_;unfold eO;have c:=Du (fe:=two (aj 0) (aj 1) aN) (fi:=bu ‹"s"› lF) (fr:=[]) (δ:=[some (.arg (TI x)),some (.arg (TI y))]) (rest:=[]) (xs:=x) (ys:=y) (g:=fun a b=>.int (a + b))
  (jW (ds:=[TI x,TI y]) rfl rfl) rfl (Nat.le_trans hl (by decide)) fun a _ b _=>by push_cast [DL.ap_seq]
 rw [xN] at c;push_cast [c]
theorem w_lt {ρ:Nat}:∀(rs:List (List Int)) (n:Nat) (x y:List Int) (p q:Nat),rs.length < n->Sc rs->(∀r∈rs,Bd ρ r)->x.length=2 ^ rs.length->y.length=2 ^ rs.length->Bd p x->Bd q y->p + q + eT ρ rs.length<=200000->rs.length<=8 ->
  bY n [RT rs,TI x,TI y]=.ok (TI (lt rs x y))
 | _,0,_,_,_,_,h,_,_,_,_,_,_,_,_=>absurd h (Nat.not_lt_zero _)
 | [],n + 1,x,y,p,q,_,_,_,hx,hy,bx,by_,hb,_=>by
  show outD (bL (bY n) [some (.arg (RT [])),some (.arg (TI x)),some (.arg (TI y)),none,none,none,none,none])=_;unfold bL;have e1:=pJ bx.head (show p<=200000 by omega);have e2:=pJ by_.head (show q<=200000 by omega);have hx':x.length=1:=hx;push_cast [length_map,hx',Az (rO (k:=0) hx),Az (rO (k:=0) hy),gF e1 e2];rfl
 | r :: rs,n + 1,x,y,p,q,hn,S,hr,hx,hy,bx,by_,hb,h8=>by
  obtain ⟨hr1,S⟩:=S;have hb:p + q + (2 * eT ρ rs.length + ρ + 1)<=200000:=hb;have h8:rs.length + 1<=8:=h8;have hr':∀r∈rs,Bd ρ r:=fun u hu=>hr u (mem_cons_of_mem _ hu);have a:=iC hx;have b:=jb hx;have c:=iC hy;have d:=jb hy;have hn':rs.length < n:=Nat.lt_of_succ_lt_succ hn;have i1:=w_lt rs n (aQ x) (aQ y) p q hn' S hr' a c bx.fr by_.fr (by omega) (by omega);have i2:=w_lt rs n (aU x) (aU y) p q hn' S hr' b d bx.bh by_.bh (by omega) (by omega);have i3:=w_lt rs n (aQ x) (aU y) p q hn' S hr' a d bx.fr by_.bh (by omega) (by omega);have i4:=w_lt rs n (aU x) (aQ y) p q hn' S hr' b c bx.bh by_.fr (by omega) (by omega);have i5:=w_lt rs n r (lt rs (aU x) (aU y)) ρ (p + q + eT ρ rs.length) hn' S hr' hr1 (by rw [nJ]; exact dM rs _ _ S b d) (hr r (by simp)) (by rw [nJ]; exact mD rs hr' bx.bh by_.bh) (by omega) (by omega);have small:2 ^ rs.length<=256:=Nat.le_trans (Nat.pow_le_pow_right (by decide) (show rs.length<=8 by omega)) (by decide);have l1:(lt rs (aQ x) (aQ y)).length=2 ^ rs.length:=by rw [nJ]; exact dM rs _ _ S a c
  have l2:(lt rs r (lt rs (aU x) (aU y))).length=2 ^ rs.length:=by rw [nJ,nJ]; exact dM rs _ _ S hr1 (dM rs _ _ S b d)
  have l3:(lt rs (aQ x) (aU y)).length=2 ^ rs.length:=by rw [nJ]; exact dM rs _ _ S a d
  have l4:(lt rs (aU x) (aQ y)).length=2 ^ rs.length:=by rw [nJ]; exact dM rs _ _ S b c
  have p1:=Jq (lt rs (aQ x) (aQ y)) (lt rs r (lt rs (aU x) (aU y))) (by omega);have p2:=Jq (lt rs (aQ x) (aU y)) (lt rs (aU x) (aQ y)) (by omega);have f1:=mX l1 l2;have f2:=mX l3 l4;have ad:=A_ (a:=bI (lt rs (aQ x) (aQ y)) (lt rs r (lt rs (aU x) (aU y)))) (b:=bI (lt rs (aQ x) (aU y)) (lt rs (aU x) (aQ y))) (rO f1) (by omega);show outD (bL (bY n) [some (.arg (RT (r :: rs))),some (.arg (TI x)),some (.arg (TI y)),none,none,none,none,none])=_;unfold bL;have z:¬((x.length:Int)=1):=by
   rw [hx]; show ¬(((2 ^ (rs.length + 1):Nat):Int)=1);have:=Nat.two_pow_pos rs.length;rw [Nat.pow_succ]; omega
  have fx:x.take (x.length / 2)=aQ x:=rfl;have bx':x.drop (x.length / 2)=aU x:=rfl;have e:x.length / 2=y.length / 2:=by rw [hx,hy]
  have fy:y.take (x.length / 2)=aQ y:=by rw [e]; rfl
  have by':y.drop (x.length / 2)=aU y:=by rw [e]; rfl
  push_cast [length_map,z,Dt,rN,xM,Ig,Ih,fx,bx',fy,by',i1,i2,i3,i4,i5,p1,p2,ad,lt]
noncomputable def Rw {F:OF} (of:List Int->F.C) (k n:Nat) (d:D) (v:F.C):Prop :=
 ∃x b,d=num x b/\0 < b/\x.length=2 ^ k/\Bd n x/\b.natAbs < 2 ^ n/\v=of x / (b:F.C)
section
variable {rs:List (List Int)} {F:OF} {of:List Int->F.C} {ρ:Nat}
theorem _root_.Mine.Nm.rw {k n:Nat} {d:D} {v:F.C} (h:Nm of k n d v):Rw of k n d v:=by
 obtain ⟨x,b,h1,h2,h3,h4,h5,h6⟩:=h;exact ⟨x,b,h1,h2.pos,h3,h4,h5,h6⟩
theorem Rw.mono {k n m:Nat} {d:D} {v:F.C} (h:Rw of k n d v) (e:n<=m):Rw of k m d v:=by
 obtain ⟨x,b,h1,h2,h3,h4,h5,h6⟩:=h;exact ⟨x,b,h1,h2,h3,h4.mono e,Nat.lt_of_lt_of_le h5 (kO e),h6⟩
end
theorem Rn {k:Nat} (h:k<=3):eT 10 k<=77:=by
 have:k=0\/k=1\/k=2\/k=3:=by omega
 rcases this with z | z | z | z <;> subst z <;> decide
theorem Eh {k p:Nat} (h:k<=3) (hp:p<=20000):SOk 10 k p:=by
 have:k=0\/k=1\/k=2\/k=3:=by omega
 rcases this with z | z | z | z <;> subst z <;> simp only [SOk,eT] <;> omega
section
variable {rs:List (List Int)} {F:OF} {of:List Int->F.C} {ρ:Nat}
end
end Bk
namespace Bk
open PySem PySem.Spec PyProof.Rows L2 DL
end Bk
namespace Bk
open PySem PySem.Spec PyProof.Rows L2 DL Mine
theorem Br (ds:List D):(SV.own ds).view=.lst ds:=Eq.trans rfl rfl
theorem Jr (b:Bool):lC [.bl b]=.ok (.int (if b then 1 else 0)):=Eq.trans rfl rfl
theorem tR (ts:List Int):aG (ts.map .int)=true:=by
 induction ts with
 | nil=>rfl
 | cons t ts ih=>rw [map_cons,aG,ih]; rfl
theorem Ei (i:Nat) {f:DS->Res D} {δ:DS} {ds:List D} (h:f δ=.ok (.lst ds)):iJ i f δ=.nxt (δ.set i (some (.own ds))):=by unfold iJ; rw [h]
theorem Ro {i:Nat} {fi fe:DS->Res D} {δ:DS} {ds:List D} {d:D} {z:Int} {j:Nat} (h1:δ[i]? = some (some (.own ds))) (h2:fe δ=.ok d) (h3:fi δ=.ok (.int z)) (h4:jz ds.length z=some j) (h5:aG ds=true) (h6:bD d=true):putD i fi fe δ=.nxt (gr i ds j d δ):=by
 unfold putD;rw [h1]; dsimp only;rw [h2]; dsimp only [gK];rw [h3]; dsimp only [gK];rw [h4]; dsimp only;rw [if_pos ⟨h5,h6⟩]
theorem Rp {n k:Nat} (h:k < n):jz n (k:Int)=some k:=by
 unfold jz;rw [if_pos (by omega),if_pos (by omega)]
 congr 1
theorem Js {fe:DS->Res D} {rest:DS} {g:Int->Int->Int} {n:Nat}:∀(ts:List Int) (k:Nat),k + ts.length<=n->(∀(i:Nat),i < n->∀t∈ts,fe (some (.val (.int (i:Int))) :: some (.val (.int t)) :: rest)=.ok (.int (g (i:Int) t))) ->
  mapR (fB (aZ [0,1]) fe (none :: none :: rest)) (((ts.map D.int).zipIdx k).map fun p=>D.tup [.int ((p.2:Nat):Int),p.1])=.ok (((ts.zipIdx k).map fun p=>g ((p.2:Nat):Int) p.1).map .int)
 | [],_,_,_=>rfl
 | t :: ts,k,hk,h=>by
  have hk':k + (ts.length + 1)<=n:=hk;have e:fB (aZ [0,1]) fe (none :: none :: rest) (.tup [.int (k:Int),.int t])=.ok (.int (g (k:Int) t)):=by
   show (match fe (some (.val (.int (k:Int))) :: some (.val (.int t)) :: rest) with | .ok z=>Res.ok z | _=>.stuck)=_
   rw [h k (by omega) t (by simp)]
  have ih:=Js (n:=n) (g:=g) ts (k + 1) (by omega) fun i hi u hu=>h i hi u (mem_cons_of_mem _ hu);rw [map_cons,zipIdx_cons,map_cons,zipIdx_cons,map_cons,map_cons];show mapR _ (D.tup [.int (k:Int),.int t] :: _)=_;rw [mapR,e,Res.bind_ok,ih,Res.bind_ok]
theorem Jt {fe:DS->Res D} {fi:DS->Res (List D)} {fr:List Nat} {δ rest:DS} {ts:List Int} {g:Int->Int->Int} (hi:fi δ=.ok (fK (ts.map .int))) (hr:cL 2 fr δ=none :: none :: rest) (hl:ts.length<=sizeLine)
  (h:∀(i:Nat),i < ts.length->∀t∈ts,fe (some (.val (.int (i:Int))) :: some (.val (.int t)) :: rest)=.ok (.int (g (i:Int) t))):aX 2 fr (aZ [0,1]) fe fi δ=.ok (.lst ((ts.zipIdx.map fun p=>g ((p.2:Nat):Int) p.1).map .int)):=by
 unfold aX;rw [hi,Res.bind_ok,hr];have:=Js (fe:=fe) (rest:=rest) (g:=g) (n:=ts.length) ts 0 (by omega) h;unfold fK;rw [this];unfold fj;rw [Res.bind_ok,if_pos (by rw [length_map,length_map,length_zipIdx]; exact hl)]
theorem Ju {α:Type} {l:List α} {k:Nat} {p:α×Nat} (h:p∈l.zipIdx k):p.1∈l:=by
 induction l generalizing k with
 | nil=>simp at h
 | cons a l ih =>
  rw [zipIdx_cons] at h;rcases mem_cons.mp h with z | z
  ·rw [z]; simp
  ·exact mem_cons_of_mem _ (ih z)
section
variable {rs:List (List Int)} {F:OF} {of:List Int->F.C} {ρ:Nat}
theorem Rq (T:Tow rs F of) (h3:rs.length<=3) {p:Nat} {d:D} {u:F.C} (h:Rw of rs.length p d u) {q:Nat} (hq:∀x b,d=num x b->b.natAbs < 2 ^ q) (hq8:q<=8000):∃z,m9 [d]=.ok z/\Nm of rs.length p z u:=by
 obtain ⟨x,b,rfl,pb,lx,bx,bb,ex⟩:=h;obtain ⟨K,y,c,k0,e1,e2,nf,yl,kb,hN⟩:=ca' T lx (show b≠0 by omega) bx bb;rw [<- ex] at hN;refine ⟨_,?_,hN⟩;have cp:=nf.pos;have kp:0 < K:=by
  rcases Int.lt_or_le 0 K with q | q
  ·exact q
  ·have:=Int.mul_nonpos_of_nonpos_of_nonneg q (Int.le_of_lt cp); omega
 have k8:K.natAbs < 2 ^ 8000:=by
  have:=hq x b rfl;rw [e2,Int.natAbs_mul] at this;exact DY (Nat.lt_of_le_of_lt (Nat.le_mul_of_pos_right _ (by omega)) this) hq8
 have e8:=bm' h3;have hs:x.foldl cm b=K:=by
  rw [e1,e2,H_ nf k0 (rO yl)]; omega
 obtain ⟨z',e⟩:=Dr (i:=2) (f:=cm) (b:=aB 1 (ao (ak (aj 1) ‹"g"›) oN))
  (fun acc z=>[some (.val (num x b)),some (.val (.int acc)),z])
  (fun acc z t=>by push_cast [Q4]) x b none
 rw [hs] at e;have th:thaw [some (SV.arg (num x b)),some (.val (.int b)),none]=[some (.val (num x b)),some (.val (.int b)),none]:=rfl;have th2:fZ (Out.nxt [some (.val (num x b)),some (.val (.int K)),z'])=.nxt [some (.val (num x b)),some (.val (.int K)),z'.map thaw2]:=rfl;have cp':∀z2,aX 1 [1] (bC 0) ‹"L"› (bindL ‹"l"› a_) [some (.val (num x b)),some (.val (.int K)),z2]=.ok (.lst (x.map fun t=>.int (Int.fdiv t K))):=fun z2 =>
  vU (rest:=[some (.arg (.int K))]) (by push_cast [DL.ap_seq]) rfl (Nat.le_trans (show x.length<=63 by omega) (by decide)) fun t _=>by
   push_cast [n8 k0 k8]
 have cl:x.map (fun t=>D.int (Int.fdiv t K))=y.map .int:=by
  rw [e1,map_map];simp only [Function.comp_def,cF' _ _ k0]
 have cb':Int.fdiv b K=c:=by rw [e2,cF' _ _ k0]
 show outD (pF [some (.arg (num x b)),none,none])=_;unfold pF;push_cast [th,e,th2,cp',cl,n8 k0 k8,cb']
theorem Rr (T:Tow rs F of) (h3:rs.length<=3) {p:Nat} {d:D} {u:F.C} (h:Rw of rs.length p d u) (hp:p<=8000):∃z,m9 [d]=.ok z/\Nm of rs.length p z u :=
 Rq T h3 h (q:=p) (fun x b e=>by
  obtain ⟨x',b',e',_,_,_,bb,_⟩:=h;rw [e] at e';injection e' with e'
  injection e' with _ e'
  injection e' with e'
  injection e' with e'
  rw [e']; exact bb) hp
theorem Rt (T:Tow rs F of) (h3:rs.length<=3) (c:Int):∃d v,lO [.int c,.int ((2 ^ rs.length:Nat):Int)]=.ok d/\Nm of rs.length 31 d v:=by
 have e8:=bm' h3;have p0:=Nat.two_pow_pos rs.length;have d5:aO (.int c) (.int 5)=_:=n8 (show (5:Int)≠0 by decide) (Nat.lt_of_lt_of_le (show 5 < 2 ^ 3 by decide) (Nat.pow_le_pow_right (by decide) (by decide)));have m5:bH (.int c) (.int 5)=_:=dG (show (5:Int)≠0 by decide);generalize Int.fdiv c 5=q at *;have p9:kY (.int 10) (.int 9)=.ok (.int (10 ^ 9)):=rfl;have mu2:di (.int 2) (.int (10 ^ 9))=.ok (.int (2 * 10 ^ 9)):=u6 (by decide);have mB:=dG (a:=q) (show (2 * 10 ^ 9 + 1:Int)≠0 by decide);have b0:=Int.fmod_nonneg_of_pos q (show (0:Int) < 2 * 10 ^ 9 + 1 by decide);have b1:=Int.fmod_lt_of_pos q (show (0:Int) < 2 * 10 ^ 9 + 1 by decide);have mM:=dG (a:=q) (show ((2 ^ rs.length:Nat):Int)≠0 by omega);have a0:=Int.fmod_nonneg_of_pos q (show (0:Int) < ((2 ^ rs.length:Nat):Int) by omega);have a1:=Int.fmod_lt_of_pos q (show (0:Int) < ((2 ^ rs.length:Nat):Int) by omega);generalize Int.fmod q ((2 ^ rs.length:Nat):Int)=at_ at *;generalize Int.fmod q (2 * 10 ^ 9 + 1)=big at *;obtain ⟨k,rfl⟩:=Int.eq_ofNat_of_zero_le a0;have k1:k < 2 ^ rs.length:=by omega
 have x8:bA [.int q,.int 8,.int 12]=_:=nA q 8 12 (by decide) (by decide);have b8:=nu q 8 (m:=12) (by decide);generalize mix q 8 12=bot at *
 let tops:List Int:=((List.range (2 ^ rs.length)).map fun (k:Nat)=>(k:Int)).map fun t=>mix q t.toNat 19 - 9
 have tl:tops.length=2 ^ rs.length:=by simp [tops]
 have tb:Bd 31 tops:=fun t ht=>by
  obtain ⟨u,_,rfl⟩:=mem_map.mp ht;have:=nu q u.toNat (m:=19) (by decide);have e:(2147483648:Nat)=2 ^ 31:=by decide
  rw [<- e]; omega
 have fin:∀(ts:List Int),ts.length=2 ^ rs.length->Bd 31 ts->∃d v,(∀s1,outD ((aJ (ao (ak (bR (ak (ao ‹"g"› cN) (ak (two ‹1› (ao (ak (two (aj 0) ‹5› aO) (ak ‹8› (ak ‹12› ‹""›))) bA) aN) ‹""›))) ‹""›) m9)) [some (.arg (.int c)),s1,some (.own (ts.map .int))])=.ok d)/\Nm of rs.length 31 d v:=by
  intro ts hl hb;have bb:(1 + bot).natAbs < 2 ^ 31:=by
   have e:(2147483648:Nat)=2 ^ 31:=by decide
   rw [<- e]; omega
  have hR:Rw of rs.length 31 (num ts (1 + bot)) (of ts / ((1 + bot:Int):F.C)):=⟨ts,1 + bot,rfl,by omega,hl,hb,bb,rfl⟩;obtain ⟨z,ez,hz⟩:=Rr T h3 hR (by decide);refine ⟨z,_,fun s1=>?_,hz⟩;push_cast [d5,x8,Br,ez]
 have c0:aX 1 [0] (bC 0) (two (ao ‹"x"› bA) ‹9› fM) (bu ‹"e"› dh) [some (.arg (.int c)),some (.arg (.int ((2 ^ rs.length:Nat):Int))),none]=.ok (.lst (tops.map .int)):=by
  have:=vU (fe:=two (ao ‹"x"› bA) ‹9› fM) (fi:=bu ‹"e"› dh) (fr:=[0]) (δ:=[some (.arg (.int c)),some (.arg (.int ((2 ^ rs.length:Nat):Int))),none]) (rest:=[some (.arg (.int c))])
   (ts:=(List.range (2 ^ rs.length)).map fun (k:Nat)=>(k:Int)) (g:=fun t=>.int (mix q t.toNat 19 - 9)) (jW (ds:=[.int ((2 ^ rs.length:Nat):Int)]) rfl (dc' _ (by omega))) rfl (by simp only [length_map,length_range]; exact Nat.le_trans e8 (by decide)) fun t ht=>by
    obtain ⟨j,hj,rfl⟩:=mem_map.mp ht;have hj':j < 2 ^ rs.length:=mem_range.mp hj;push_cast [d5,nA q j 19 (by omega) (by decide),Int.toNat_natCast]
  rw [this];simp only [tops,map_map,Function.comp_def]
 have bd0:∀(b:Bool) (t:Int),t.natAbs < 2 ^ 31->(t * (if b=true then 1 else 0)).natAbs < 2 ^ 31:=fun b t h=>by
  cases b
  ·simp only [Bool.false_eq_true,if_false,Int.mul_zero]; decide
  ·simp only [if_true,Int.mul_one]; exact h
 have mr:∀(t:Int) (b:Bool),di (.int t) (.int (if b=true then 1 else 0))=.ok (.int (t * (if b=true then 1 else 0))):=fun t b=>u6 (by cases b <;> decide)
 show ∃d v,outD (pI [some (.arg (.int c)),some (.arg (.int ((2 ^ rs.length:Nat):Int))),none])=.ok d/\_;unfold pI;rw [ap_seq,Ei 2 c0]
 by_cases h1:Int.fmod c 5=1
 ·
  have hp:(putD 2 (jR (two (two (aj 0) ‹5› aO) (aj 1) bH)) ‹"m"›) [some (.arg (.int c)),some (.arg (.int ((2 ^ rs.length:Nat):Int))),some (.own (tops.map .int))]=.nxt [some (.arg (.int c)),some (.arg (.int ((2 ^ rs.length:Nat):Int))),some (.own ((tops.set k (big - 10 ^ 9)).map .int))]:=by
   have:=Ro (i:=2) (fi:=(jR (two (two (aj 0) ‹5› aO) (aj 1) bH))) (fe:=‹"m"›)
    (δ:=[some (.arg (.int c)),some (.arg (.int ((2 ^ rs.length:Nat):Int))),some (.own (tops.map .int))]) (ds:=tops.map .int) (d:=.int (big - 10 ^ 9)) (z:=(k:Int)) (j:=k) rfl (by push_cast [d5,p9,mu2,mB]) (ns' (by push_cast [d5,mM])) (Rp (by rw [length_map,tl]; exact k1)) (tR _) rfl
   rw [this];unfold gr;rw [map_set];have fl:=tR tops;simp only [map_cons,map_nil,Option.bind_some,bG,fl,st2,↓reduceIte]
  obtain ⟨d,v,ed,hd⟩:=fin (tops.set k (big - 10 ^ 9)) (by rw [length_set]; exact tl) (fun t ht=>by
   rcases mem_or_eq_of_mem_set ht with z | z
   ·exact tb t z
   ·have e:(2147483648:Nat)=2 ^ 31:=by decide
    rw [z,<- e]; omega)
  refine ⟨d,v,?_,hd⟩;have:=ed (some (.arg (.int ((2 ^ rs.length:Nat):Int))));simp only [ap_seq,ap_if,ap_bT,ap_two,sl0,sl1,sl2,st0,st1,st2,sq_nxt,bnd_ok,vw_arg,m5,h1,eqI,bool_ok,ont_ok,decide_true,↓reduceIte,hp,decide_false,Bool.false_eq_true,Int.reduceEq];exact this
 ·by_cases h2:Int.fmod c 5=2
  ·have cc:=Jt (fe:=‹"v"›) (fi:=bu ‹"g"› f9) (fr:=[0]) (δ:=[some (.arg (.int c)),some (.arg (.int ((2 ^ rs.length:Nat):Int))),some (.own (tops.map .int))]) (rest:=[some (.arg (.int c))]) (ts:=tops) (g:=fun i t=>t * (if decide (Int.fmod (Int.fdiv q (i + 1)) 2=0)=true then 1 else 0))
    (jW (ds:=[.lst (tops.map .int)]) rfl rfl) rfl (by rw [tl]; exact Nat.le_trans e8 (by decide)) fun i hi t ht=>by
     have nz:((i:Int) + 1)≠0:=by omega
     have e16:(16:Nat)=2 ^ 4:=by decide
     have sm4:((i:Int) + 1).natAbs < 2 ^ 4:=by rw [<- e16]; omega
     have sm:((i:Int) + 1).natAbs < 2 ^ 8000:=Nat.lt_of_lt_of_le sm4 (kO (by decide));push_cast [d5,n8 nz sm,dG (show (2:Int)≠0 by decide),Jr,mr]
   obtain ⟨d,v,ed,hd⟩:=fin (tops.zipIdx.map fun p=>p.1 * (if decide (Int.fmod (Int.fdiv q (((p.2:Nat):Int) + 1)) 2=0)=true then 1 else 0)) (by rw [length_map,length_zipIdx]; exact tl) (fun t ht=>by
    obtain ⟨p,hp,rfl⟩:=mem_map.mp ht;exact bd0 _ _ (tb p.1 (Ju hp)))
   refine ⟨d,v,?_,hd⟩;have:=ed (some (.arg (.int ((2 ^ rs.length:Nat):Int))));have oc:=Ei 2 cc;simp only [ap_seq,ap_if,ap_bT,ap_two,sl0,sl1,sl2,st0,st1,st2,sq_nxt,bnd_ok,vw_arg,m5,h1,h2,eqI,bool_ok,ont_ok,decide_true,↓reduceIte,oc,decide_false,Bool.false_eq_true,Int.reduceEq];exact this
  ·by_cases h4:Int.fmod c 5=3
   ·have cc:=Jt (fe:=‹"u"›) (fi:=bu ‹"g"› f9) (fr:=[1,0]) (δ:=[some (.arg (.int c)),some (.arg (.int ((2 ^ rs.length:Nat):Int))),some (.own (tops.map .int))]) (rest:=[some (.arg (.int ((2 ^ rs.length:Nat):Int))),some (.arg (.int c))]) (ts:=tops) (g:=fun i t=>t * (if decide (i < (k:Int) + 1)=true then 1 else 0))
     (jW (ds:=[.lst (tops.map .int)]) rfl rfl) rfl (by rw [tl]; exact Nat.le_trans e8 (by decide)) fun i hi t ht=>by
      push_cast [d5,mM,Jr,mr]
    obtain ⟨d,v,ed,hd⟩:=fin (tops.zipIdx.map fun p=>p.1 * (if decide (((p.2:Nat):Int) < (k:Int) + 1)=true then 1 else 0)) (by rw [length_map,length_zipIdx]; exact tl) (fun t ht=>by
     obtain ⟨p,hp,rfl⟩:=mem_map.mp ht;exact bd0 _ _ (tb p.1 (Ju hp)))
    refine ⟨d,v,?_,hd⟩;have:=ed (some (.arg (.int ((2 ^ rs.length:Nat):Int))));have oc:=Ei 2 cc;simp only [ap_seq,ap_if,ap_bT,ap_two,sl0,sl1,sl2,st0,st1,st2,sq_nxt,bnd_ok,vw_arg,m5,h1,h2,h4,eqI,bool_ok,ont_ok,decide_true,↓reduceIte,oc,decide_false,Bool.false_eq_true,Int.reduceEq];exact this
   ·obtain ⟨d,v,ed,hd⟩:=fin tops tl tb;refine ⟨d,v,?_,hd⟩;have:=ed (some (.arg (.int ((2 ^ rs.length:Nat):Int))));simp only [ap_seq,ap_if,ap_bT,ap_two,sl0,sl1,sl2,st0,st1,st2,sq_nxt,bnd_ok,vw_arg,m5,h1,h2,h4,eqI,bool_ok,ont_ok,decide_true,↓reduceIte,decide_false,Bool.false_eq_true,Int.reduceEq];exact this
end
end Bk
namespace Bk
open PySem PySem.Spec PyProof.Rows L2 DL Mine Lean.Grind
section
variable {F:OF} {r:F.C} {hr:0 < r} {hn:∀z:F.C,z * z≠r}
theorem Ej:em (hr:=hr) (hn:=hn) (0:F.C)=0:=rfl
theorem Ru (x y:F.C):em (hr:=hr) (hn:=hn) (x - y)=em x - em y:=Ext.eqs (r:=r) rfl (show (0:F.C)=0 - 0 by grind)
theorem Rv {x:F.C} (h:0 < x):0 < em (hr:=hr) (hn:=hn) x:=vd h
theorem Jv {x y:F.C} (h:x < y):em (hr:=hr) (hn:=hn) x < em y:=by
 have:=Rv (hr:=hr) (hn:=hn) (x:=y - x) (by grind);rw [Ru] at this; grind
noncomputable def Jw (hr:0 < r) (hn:∀z:F.C,z * z≠r):(aH F r hr hn).C:=iR hr hn 0 1
theorem Rx:0 < Jw hr hn:=by
 have:=OrderedRing.zero_lt_one (R:=F.C);exact xR (Std.le_refl _) this
theorem Ry (x:(aH F r hr hn).C):x=em (Ext.a (r:=r) x) + em (Ext.b (r:=r) x) * Jw hr hn :=
 Ext.eqs (r:=r) (show Ext.a (r:=r) x=Ext.a (r:=r) x + (Ext.b (r:=r) x * 0 + 0 * 1 * r) by grind) (show Ext.b (r:=r) x=0 + (Ext.b (r:=r) x * 1 + 0 * 0) by grind)
end
section
variable {rs:List (List Int)} {F:OF} {of:List Int->F.C} {ρ:Nat}
noncomputable def hB (ρ:Nat):Nat->Nat->Nat
 | 0,p=>p
 | k + 1,p=>hB ρ k p + hB ρ k ρ + 1
theorem Rz (T:Tow rs F of) {a b:Int} (h:a<=b):((a:Int):F.C)<=((b:Int):F.C):=by
 by_cases c:a=b
 ·rw [c]; exact Std.le_refl _
 ·have:=jX T (k:=b - a) (by omega);rw [Ring.intCast_sub] at this; grind
theorem RB (T:Tow rs F of) {a b:Int} (h:a < b):((a:Int):F.C) < ((b:Int):F.C):=by
 have:=jX T (k:=b - a) (by omega);rw [Ring.intCast_sub] at this; grind
theorem lt_int (T:Tow rs F of) {a b:Int} (h:((a:Int):F.C) < ((b:Int):F.C)):a < b:=by
 rcases Int.lt_or_le a b with c | c
 ·exact c
 ·have:=Rz T c; grind
theorem le_int (T:Tow rs F of) {a b:Int} (h:((a:Int):F.C)<=((b:Int):F.C)):a<=b:=by
 rcases Int.lt_or_le b a with c | c
 ·have:=RB T c; grind
 ·exact c
end
theorem RC {c:DS->Res Bool} {b:DS->Out} {m:Nat} {δ δ':DS} (h1:c δ=.ok true) (h2:b δ=.nxt δ'):bf c b (m + 1) δ=bf c b m δ':=by
 rw [bf,h1];dsimp only;rw [h2]
theorem RD {c:DS->Res Bool} {b:DS->Out} {m:Nat} {δ:DS} (h1:c δ=.ok false):bf c b (m + 1) δ=.nxt δ:=by
 rw [bf,h1]
theorem rT {t:du} {b:DS->Out} {d:D} {ds:List D} {δ δ1 δ2:DS} (h1:t d δ=some δ1) (h2:b δ1=.nxt δ2):cI t b (d :: ds) δ=cI t b ds δ2:=by
 rw [cI,h1];dsimp only;rw [h2]
theorem xW {t:du} {b:DS->Out} {δ:DS}:cI t b [] δ=.nxt δ:=Eq.trans rfl rfl
section
variable {rs:List (List Int)} {F:OF} {of:List Int->F.C} {ρ:Nat}
end
section
variable {rs:List (List Int)} {F:OF} {of:List Int->F.C} {ρ:Nat}
theorem RG {a:F.C} (h:0 < a):a≠0:=by grind
end
end Bk
namespace K39
open PySem PySem.Spec PyProof.Rows L2 DL Bk Mine
noncomputable def cY:D->Option Bool
 | .excf c _ _=>if c = "NoCarry" then some true else none
 | .non=>some false
 | _=>none
noncomputable def cG:D->Option Bool
 | .excf c _ _=>if c = "NoCarry" then some true else none
 | .non=>some false
 | _=>none
noncomputable def dC:D->Option Bool
 | .excf c _ _=>if c = "NoCarry" then some false else none
 | .non=>some false
 | _=>none
noncomputable def cQ (c:Str):Option Bool:=if c = "NoCarry" then some true else none
noncomputable def iu (c:Str):Bool:=c == "NoCarry"
abbrev Jx:V->Prop:=uY
noncomputable def top (i:Nat):Stmt:=PySem.Challenge.pw_compasshall_k39_roots_that_are_not_there.main.body.getD i (.Pass ⟨0,0,0,0⟩)
abbrev pM:Stmt:=top 7
abbrev pN:Stmt:=top 8
abbrev pO:Stmt:=top 15
abbrev pP:Stmt:=top 18
abbrev pQ:Stmt:=top 19
abbrev pR:Stmt:=top 20
abbrev pU:Stmt:=top 21
abbrev pW:Stmt:=top 22
abbrev pX:Stmt:=top 33
abbrev pY:Stmt:=top 43
abbrev pZ:Stmt:=top 49
abbrev p6:Stmt:=top 50
abbrev p7:Stmt:=top 51
abbrev p_:Stmt:=top 53
abbrev qd:Stmt:=top 57
abbrev mF:Stmt:=top 10
abbrev qi:Stmt:=top 13
abbrev qj:Stmt:=top 17
abbrev ql:Stmt:=top 25
abbrev qm:Stmt:=top 52
abbrev mG:Stmt:=top 54
abbrev qp:Stmt:=top 56
abbrev mH:Stmt:=top 11
abbrev qt:Stmt:=top 16
abbrev qu:Stmt:=top 37
abbrev qw:Stmt:=top 42
abbrev ji:Stmt:=top 55
abbrev iw:Stmt:=top 59
abbrev qx:Stmt:=top 12
abbrev j7:Stmt:=top 23
abbrev qy:Stmt:=top 41
abbrev qC:Stmt:=top 14
abbrev qD:Stmt:=top 27
abbrev qF:Stmt:=top 26
abbrev qG:Stmt:=top 40
abbrev j8:Stmt:=top 32
abbrev j9:Stmt:=top 47
abbrev j_:Stmt:=top 29
abbrev qH:Stmt:=top 31
abbrev qI:Stmt:=top 28
abbrev qJ:Stmt:=top 34
abbrev kh:Stmt:=top 36
abbrev qK:Stmt:=top 38
abbrev qL:Stmt:=top 39
abbrev qM:Stmt:=top 46
abbrev qN:Stmt:=top 45
abbrev qO:Stmt:=top 58
abbrev tU:Stmt:=top 60
theorem sc_qH:FnScope ["a", "b", "one", "other", "rest"] ["a", "b"] (aq pM):=‹"0"›
theorem sc_qn:FnScope ["n", "guess"] ["n"] (aq pN):=‹"0"›
theorem xX:FnScope ["x", "many"] ["x", "many"] (aq pO):=‹"0"›
theorem xY:FnScope ["tops"] ["tops"] (aq pP):=‹"0"›
theorem xZ:FnScope ["tops"] ["tops"] (aq pQ):=‹"0"›
theorem x_:FnScope ["tops"] ["tops"] (aq pR):=‹"0"›
theorem yc:FnScope ["one", "other"] ["one", "other"] (aq pU):=‹"0"›
theorem yd:FnScope ["tops"] ["tops"] (aq pW):=‹"0"›
theorem ye:FnScope ["n"] ["n"] (aq pX):=‹"0"›
theorem yf:FnScope ["b"] ["b"] (aq pY):=‹"0"›
theorem yg:FnScope ["_law_script", "_law_k"] ["_law_script", "_law_k"] (aq pZ):=‹"0"›
theorem yh:FnScope ["_law_found"] ["_law_found"] (aq p6):=‹"0"›
theorem sc_qw:FnScope ["_law_cell_here", "_law_k", "_law_many", "_law_some"] ["_law_cell_here", "_law_k", "_law_many"] (aq p7):=‹"0"›
theorem sc_qq:FnScope ["_law_one", "_law_other", "_law_rest"] ["_law_one", "_law_other"] (aq p_):=‹"0"›
theorem sc_qb:FnScope ["_law_primes_here", "_law_shares", "_law_roots", "_law_k", "_law_square"] ["_law_primes_here", "_law_shares"] (aq qd):=‹"0"›
theorem sc_qO:FnScope ["tops", "bottom", "shared", "top"] ["tops", "bottom"] (aq mF):=‹"0"›
theorem yj:FnScope ["x"] ["x"] (aq qi):=‹"0"›
theorem ym:FnScope ["x"] ["x"] (aq qj):=‹"0"›
theorem yo:FnScope ["x"] ["x"] (aq ql):=‹"0"›
theorem sc_qc:FnScope ["_law_cell_here", "_law_many", "_law_r", "_law_m", "_law_b", "_law_k", "_law_roots", "_law_primes_here", "_law_at"] ["_law_cell_here", "_law_many"] (aq qm):=‹"0"›
theorem sc_qr:FnScope ["_law_one", "_law_shared", "_law_top"] ["_law_one"] (aq mG):=‹"0"›
theorem sc_qs:FnScope ["_law_cell_here", "_law_many", "_law_left", "_law_row", "_law_k"] ["_law_cell_here", "_law_many"] (aq qp):=‹"0"›
theorem sc_qP:FnScope ["x", "y", "tops"] ["x", "y"] (aq mH):=‹"0"›
theorem yq:FnScope ["x"] ["x"] (aq qt):=‹"0"›
theorem sc_qa:FnScope ["x", "product", "whole"] ["x"] (aq qu):=‹"0"›
theorem yr:FnScope ["x"] ["x"] (aq qw):=‹"0"›
theorem sc_ql:FnScope ["_law_cell_here", "_law_many", "_law_tops"] ["_law_cell_here", "_law_many"] (aq ji):=‹"0"›
theorem sc_qE:FnScope ["_law_script", "_law_first", "_law_count", "_law_old", "_law_at", "_law_primes_here", "_law_mine", "_law_gone", "_law_others", "_law_due", "_law_ones", "_law_twos"] ["_law_script"] (aq iw):=‹"0"›
theorem yt:FnScope ["x", "y"] ["x", "y"] (aq qx):=‹"0"›
theorem sc_qt:FnScope ["roots", "one", "other", "beneath", "a", "b", "c", "d", "squared", "front", "behind"] ["roots", "one", "other"] (aq j7):=‹"0"›
theorem yu:FnScope ["a", "n"] ["a", "n"] (aq qy):=‹"0"›
theorem yw:FnScope ["roots", "x", "y"] ["roots", "x", "y"] (aq qC):=‹"0"›
theorem sc_qy:FnScope ["roots", "tops", "beneath", "a", "b", "squared"] ["roots", "tops"] (aq qD):=‹"0"›
theorem yz:FnScope ["roots", "x"] ["roots", "x"] (aq qF):=‹"0"›
theorem yC:FnScope ["roots", "a"] ["roots", "a"] (aq qG):=‹"0"›
theorem sc_qh:FnScope ["roots", "tops", "beneath", "front", "behind"] ["roots", "tops"] (aq j8):=‹"0"›
theorem sc_qL:FnScope ["new", "told", "x", "parts", "front", "behind"] ["new", "told", "x"] (aq j9):=‹"0"›
theorem sc_qB:FnScope ["roots", "y", "beneath"] ["roots", "y"] (aq j_):=‹"0"›
theorem yD:FnScope ["roots", "x"] ["roots", "x"] (aq qH):=‹"0"›
theorem yE:FnScope ["roots", "x", "y"] ["roots", "x", "y"] (aq qI):=‹"0"›
theorem yF:FnScope ["roots", "x"] ["roots", "x"] (aq qJ):=‹"0"›
theorem sc_qU:FnScope ["roots", "x", "parts"] ["roots", "x"] (aq kh):=‹"0"›
theorem sc_qe:FnScope ["roots", "a", "beneath", "numbers", "told"] ["roots", "a"] (aq qK):=‹"0"›
theorem sc_qi:FnScope ["roots", "a", "b", "product", "beneath", "n", "middle", "u", "behind"] ["roots", "a", "b", "product"] (aq qL):=‹"0"›
theorem sc_qf:FnScope ["old", "new", "told", "k", "one"] ["old", "new"] (aq qM):=‹"0"›
theorem yG:FnScope ["old", "new", "x"] ["old", "new", "x"] (aq qN):=‹"0"›
theorem sc_qm:FnScope ["_law_old", "_law_new", "_law_one", "_law_caught", "e"] ["_law_old", "_law_new", "_law_one"] (aq qO):=‹"0"›
theorem sc_law:FnScope ["_law_script", "_law_old", "_law_new", "_law_due", "_law_many", "_law_cell_here", "_law_one"] ["_law_script"] (aq tU):=‹"0"›
noncomputable def qP:DS->Out :=
 (aJ (bR (ak (two (two (bR (ak ‹0› ‹""›)) (ao ‹"A"› cF) b_) ‹"l"› aN) ‹"q"›)))
noncomputable def kj:List D->Res D:=bF 1 1 qP
noncomputable def qQ:DS->Out :=
 (aA (aB 2 (bR ‹""›)) (aA (forR (dh) (bC 3) ‹"w"› ‹"d"›) (aJ (aj 2))))
noncomputable def nD:List D->Res D:=bF 2 5 qQ
noncomputable def vo:DS->Out :=
 (aA (aB 2 (two ‹1› (ao (ak (aj 0) (ak ‹0› (ak ‹6› ‹""›))) bA) aN)) (aA (aB 3 (two (two (two (aj 2) (aj 2) b_) ‹1› aN) (ao (ak (aj 0) (ak ‹1› (ak (two ‹2› (aj 2) b_) ‹""›))) bA) aN)) (aA (aB 4 (two ‹1› (ao (ak (aj 0) (ak ‹2› (ak ‹3› ‹""›))) bA) aN)) (aA (aB 5 (two ‹1› (ao (ak (aj 0) (ak ‹3› (ak ‹3› ‹""›))) bA) aN)) (aA (aB 6 (bR (ak (bR (ak (aj 3) ‹""›)) (ak (bR (ak (ao ‹"K"› bA) ‹"B"›)) (ak (bR (ak (ao (ak (aj 0) (ak ‹5› (ak (aj 5) ‹""›))) bA) (ak ‹0› (ak (aj 5) (ak ‹0› ‹""›))))) ‹""›))))) (aA (cP (aL (two (ao (ak (aj 0) (ak ‹6› (ak ‹3› ‹""›))) bA) ‹0› gO) aK) (aA (aB 7 (gZ ‹"j"›)) (aA (aB 8 (ao (ak (aj 0) (ak ‹7› (ak ‹6› ‹""›))) bA)) ‹"i"›)) Out.nxt) (aJ (bj (aj 6) bK (bM (aj 1))))))))))
noncomputable def tV:List D->Res D:=bF 2 9 vo
noncomputable def qR:DS->Out :=
 (aA (g_ 2 ‹"j"›) (aA (g_ 3 ‹""›) (aA (forR (dh) (bC 4) ‹"e"› (ik 3 2 (ao ‹"o"› bA))) (aJ (aj 3)))))
noncomputable def tW:List D->Res D:=bF 2 5 qR
noncomputable def lR:DS->Out :=
 (aA (aB 1 (two (two ‹"l"› ‹0› bJ) (two (aj 0) ‹1› bJ) b_)) (aA (cP (aL (two (aj 1) ‹0› (dZ fun i j=>decide (i < j))) aK) ‹"M"› Out.nxt) (aA (aB 2 (ao ‹"e"› tK)) (aA (cP (aL (two (two (aj 2) (aj 2) b_) (aj 1) jC) aK) ‹"M"› Out.nxt) (aJ (ao (ak (bR ‹"g"›) ‹"q"›) fV))))))
noncomputable def lU:List D->Res D:=bF 1 3 lR
noncomputable def qT:DS->Out :=
 (aJ (ao (ak ‹"l"› (ak (two ‹2› (two (aj 0) ‹1› bJ) b_) ‹""›)) fV))
noncomputable def qU:List D->Res D:=bF 1 1 qT
noncomputable def lV:DS->Out :=
 (aA (aB 1 (ao (ak (aj 0) (ak ‹0› ‹""›)) iT)) (aA (aB 2 (two ‹1› (two (aj 1) ‹3› bH) aN)) (aA (cP (aL (two (two (two (aj 1) ‹3› aO) ‹3› bH) ‹0› gO) aK) (aA (aB 3 (ao (ak (ao (ak (aj 0) (ak ‹1› ‹""›)) iT) ‹"g"›) tV)) (aA (aB 4 (two (two (aj 1) ‹9› aO) (aj 2) bH)) (aJ (bR (ak (aj 3) (ak (bj (aj 3) bK (bM (aj 4))) ‹"B"›)))))) Out.nxt) (aA (aB 5 (ao (ak (ao (ak (aj 0) (ak ‹1› ‹""›)) iT) (ak ‹6› ‹""›)) tW)) (aA (aB 6 (bj (aj 5) bK (bM (aj 2)))) (aA (aB 7 (two (two (aj 1) ‹9› aO) (aj 2) bH)) (aA (aB 8 (cX 2 [7,1] (aZ [0,1]) ‹"a"› (aj 1) (bu ‹"p"› f9))) (aA (aB 8 (bj (sS (two (aj 8) (bj (aj 5) (bM ‹3›) (bM (two ‹3› (two (two (aj 1) ‹162› aO) ‹4› bH) aN))) aN) (bM (gP ‹1›))) bK (bM ‹3›))) (aA (aB 9 (ao (ak (cX 1 [8,6] (bC 0) ‹"k"› (aj 0) (bu ‹"g"› dh)) ‹""›) mW)) (aA (aB 10 (aX 1 [1] (bC 0) (two ‹1› (ao (ak (aj 1) (ak (aj 0) (ak ‹5› ‹""›))) bA) aN) ‹"C"›)) (aA (aB 11 (aX 1 [1] (bC 0) (two ‹1› (ao (ak (aj 1) (ak (two (aj 0) ‹3› aN) (ak ‹5› ‹""›))) bA) aN) ‹"C"›)) (aJ (bR (ak (ao (ak (aj 6) (ak (aj 10) ‹""›)) nD) (ak (ao (ak (aj 8) (ak (aj 11) ‹""›)) nD) (ak (aj 9) ‹""›))))))))))))))))
noncomputable def km:List D->Res D:=bF 1 12 lV
noncomputable def qW:DS->Out :=
 (aJ (gZ (ak (ao (ak (ao ‹"s"› gC) ‹""›) qU) (ak (ao (ak (ao ‹"s"› sZ) ‹""›) qU) ‹""›))))
noncomputable def qX:List D->Res D:=bF 2 2 qW
noncomputable def qY:DS->Out :=
 (aJ (gZ (ak (aj 1) (ak (ao (ak ‹"n"› (ak (aj 1) (ak (bR (ak ‹"I"› (ak ‹1› ‹""›))) ‹""›))) jt) ‹""›))))
noncomputable def lW:List D->Res D:=bF 2 2 qY
noncomputable def iV (R:List D->Res D):DS->Out :=
 (aA (cP (aL (two (ao ‹"e"› cF) ‹0› gO) aK) (aJ (ao (ak (aj 2) ‹"w"›) gA)) Out.nxt) (aA (aB 3 (ao ‹"g"› jY)) (aA (aB 4 (ao (ak (aj 0) (ak (bj (aj 1) bK (bM (gP ‹1›))) (ak (two (aj 3) ‹0› bJ) ‹""›))) R)) (aA (aB 5 (ao (ak (aj 0) (ak (bj (aj 1) bK (bM (gP ‹1›))) (ak (two (aj 3) ‹1› bJ) ‹""›))) R)) (aJ (ao (ak (aj 4) (ak (ao (ak (aj 0) (ak (aj 5) (ak (two (aj 1) (gP ‹1›) bJ) ‹""›))) jt) ‹""›)) gC))))))
noncomputable def mJ:Nat->List D->Res D
 | 0=>fun _=>.stuck
 | n + 1=>bF 3 6 (iV (mJ n))
noncomputable def jx:List D->Res D:=mJ 4
noncomputable def eV (R:List D->Res D):DS->Out :=
 (aA (aB 2 ‹"n"›) (aA (aB 3 (ao ‹"s"› lW)) (aA (aB 4 (ao (ak (aj 2) (ak (two (aj 3) ‹0› bJ) ‹""›)) R)) (aA (cP (aL (two (aj 4) (fun _=>.ok .non) cM) aK) (aJ (ao (ak (aj 4) ‹"w"›) gA)) Out.nxt) (aA (aB 4 (ao (ak (aj 2) (ak (two (aj 3) ‹1› bJ) ‹""›)) R)) (aA (cP ‹"h"› ‹"M"› Out.nxt) (aJ (ao (ak (ao (ak (aj 2) (ak (aj 4) (ak (bR (ak ‹"I"› (ak ‹1› ‹""›))) ‹""›))) j5) ‹""›) kj))))))))
noncomputable def gb (R:List D->Res D):DS->Out :=
 (aA (aB 4 ‹"n"›) (aA (aB 5 (ao (ak (aj 4) (ak (aj 3) ‹""›)) R)) (aA (cP (aL (two (aj 5) (fun _=>.ok .non) cH) aK) ‹"M"› Out.nxt) (aA (lD (bC 6) (bindL (ao (ak (aj 1) (ak (aj 5) ‹""›)) qX) a_) (aA (aB 7 (ao (ak (aj 4) ‹"p"›) R)) (cP ‹"y"› (aA (aB 8 (ao (ak (ao (ak (aj 4) (ak (aj 2) (ak (ao ‹"H"› gC) ‹""›))) j5) ‹""›) kj)) (aJ (ao (ak (aj 0) (ak (ao (ak (ao (ak (aj 7) ‹"w"›) gA) (ak (aj 8) ‹""›)) gC) ‹""›)) lN))) Out.nxt))) ‹"M"›))))
noncomputable def gG (R:List D->Res D):DS->Out :=
 (aA (cP ‹"J"› (aJ (ao ‹"e"› lU)) Out.nxt) (aA (aB 2 (ao ‹"e"› jY)) (aA (cP (aL (ao (ak (two (aj 2) ‹1› bJ) ‹""›) ju) cU) (aJ (ao (ak (aj 0) (ak (two (aj 2) ‹0› bJ) ‹""›)) (bF 2 5 (eV R)))) Out.nxt) (aJ (ao (ak (aj 0) (ak (two (aj 2) ‹0› bJ) (ak (two (aj 2) ‹1› bJ) (ak (ao ‹"s"› m8) ‹""›)))) (bF 4 9 (gb R)))))))
noncomputable def dO:Nat->List D->Res D
 | 0=>fun _=>.stuck
 | n + 1=>bF 2 3 (gG (dO n))
noncomputable def kE:List D->Res D:=dO 4
noncomputable def qZ:DS->Out :=
 (aA (g_ 2 ‹""›) (aA (jV dh (bC 3) ‹"w"› (aA (aB 4 (ao (ak (aj 1) (ak (ao ‹"c"› jx) ‹""›)) kE)) (aA (cP ‹"h"› (bU "NoCarry" "at" (lJ (aj 3))) Out.nxt) (iI 2 (aj 4))))) (aJ (aj 2))))
noncomputable def nF:List D->Res D:=bF 2 5 qZ
noncomputable def lY:DS->Out :=
 (aJ (ao (ak (aj 1) (ak (ao ‹"s"› nF) ‹"g"›)) jx))
noncomputable def gH:List D->Res D:=bF 3 3 lY
noncomputable def q_:DS->Out :=
 (aA (aB 3 (fun _=>.ok .non)) (aA (gm 4 cQ (mq (ao (ak (aj 0) (ak (aj 1) ‹"g"›)) gH)) (aB 3 (aj 4))) (aA (cP (uQ (sO (aL (ao (aj 3) (nR cY)) cU)) (uQ (aL (ao (aj 3) (nR dC)) cU) (sO (aL (ao (aj 3) (nR cG)) cU)))) ‹"M"› Out.nxt) (aA (cP (sO (aL (ao (ak (ao (aj 3) (jU iu "at")) ‹""›) sY) cU)) ‹"M"› Out.nxt) (aJ (ao (aj 3) (jU iu "at")))))))
noncomputable def rm:List D->Res D:=bF 3 5 q_
noncomputable def kI:DS->Out :=
 (aA (lg (aZ [1,2,3]) (ao (ak (aj 0) ‹""›) km)) (aA ‹"E"› (aA (lD (bC 5) (bindL (two (bj (aj 0) (bM ‹4›) (bM ‹14›)) (gZ (ak ‹0› ‹""›)) aN) a_) (aA (aB 6 (ao (ak (aj 5) ‹"B"›) lO)) (aA (cP ‹"r"› ‹"b"› Out.nxt) (aA (cP (aL (two (ao ‹"F"› rm) (aj 3) jC) aK) (aJ (fun _=>.ok (.bl false))) Out.nxt) (cP (aL (two (ao ‹"G"› gH) (aj 6) jC) aK) (aJ (fun _=>.ok (.bl false))) Out.nxt))))) (aJ (fun _=>.ok (.bl true))))))
noncomputable def iy:List D->Res D:=bF 1 7 kI
structure Adr where
 c_HallError:Addr
 c_Below:Addr
 c_NoOver:Addr
 c_NoRoom:Addr
 c_NoCarry:Addr
structure Txt (K:Frag) (mg:Str->Option Value) (a:Adr):Prop where
 m_HallError:mg "HallError" = some (.ref a.c_HallError)
 m_Below:mg "Below" = some (.ref a.c_Below)
 n_Below:nsIn K mainGlobals "Below" = some (some (.ref a.c_Below))
 x_Below:excIn K a.c_Below [.type "ValueError",.type "Exception",.type "BaseException",.type "object"] "ValueError.__new__" = true
 m_NoOver:mg "NoOver" = some (.ref a.c_NoOver)
 n_NoOver:nsIn K mainGlobals "NoOver" = some (some (.ref a.c_NoOver))
 x_NoOver:excIn K a.c_NoOver [.type "ValueError",.type "Exception",.type "BaseException",.type "object"] "ValueError.__new__" = true
 m_NoRoom:mg "NoRoom" = some (.ref a.c_NoRoom)
 m_NoCarry:mg "NoCarry" = some (.ref a.c_NoCarry)
 n_NoCarry:nsIn K mainGlobals "NoCarry" = some (some (.ref a.c_NoCarry))
 s_HallError:∀x C,nsIn K mainGlobals x=some (some (.ref C))->cQ x=some true->exmOne K (.ref C) (.ref a.c_HallError)=some true
 i_int:∀d b,Bk.is_int d=some b->lB K (.type "int") b d
 i_bool:∀d b,Bk.is_bool d=some b->lB K (.type "bool") b d
 i_NoCarry:∀d b,cY d=some b->lB K (.ref a.c_NoCarry) b d
 i_NoRoom:∀d b,dC d=some b->lB K (.ref a.c_NoRoom) b d
 i_ValueError:∀d b,cG d=some b->lB K (.type "ValueError") b d
 a_at:∀c,iu c=true->∀C,nsIn K mainGlobals c=some (some (.ref C))->ExcCls K C/\findIn K (.ref C) "at" = some none
 z_ValueError:mg "ValueError" = none
 z_abs:mg "abs" = none
 z_all:mg "all" = none
 z_bool:mg "bool" = none
 z_enumerate:mg "enumerate" = none
 z_int:mg "int" = none
 z_isinstance:mg "isinstance" = none
 z_len:mg "len" = none
 z_min:mg "min" = none
 z_range:mg "range" = none
 z_tuple:mg "tuple" = none
 z_zip:mg "zip" = none
section
variable {P:Program} {w:World} {K:Frag} {mg:Str->Option Value} {base:Heap} {a:Adr}
variable (G_qH:aP P w K mg base 1 "common" oA) (G_qg:aP P w K mg base 1 "against_tops" m6) (G_qj:aP P w K mg base 1 "are_noughts" sW) (G_qo:aP P w K mg base 1 "front_tops" jq) (G_qk:aP P w K mg base 1 "behind_tops" jr) (G_qw:aP P w K mg base 1 "_law_mixed" bA) (G_qq:aP P w K mg base 1 "_law_common" oN) (G_qO:aP P w K mg base 2 "made" fV) (G_qn:aP P w K mg base 1 "whole_root" tK) (G_qr:aP P w K mg base 2 "_law_lowest" m9) (G_qA:aP P w K mg base 1 "_law_cell" iT) (G_qs:aP P w K mg base 2 "_law_primes" tW) (G_qc:aP P w K mg base 2 "_law_scaffold" tV) (G_qb:aP P w K mg base 1 "_law_prime_roots" nD) (G_qP:aP P w K mg base 3 "plus" gC) (G_qC:aP P w K mg base 2 "against" oU) (G_qu:aP P w K mg base 1 "plus_tops" m7) (G_qD:aP P w K mg base 3 "half_of" qU) (G_qM:aP P w K mg base 4 "minus" sZ) (G_qt:aP P w K mg base 5 "times_tops" iU) (G_qy:aP P w K mg base 6 "norm_tops" pq) (G_qN:aP P w K mg base 6 "times" jt) (G_qd:aP P w K mg base 1 "sign_of_whole" tE) (G_qK:aP P w K mg base 3 "halves" jY) (G_qI:aP P w K mg base 1 "lifted" gA) (G_qQ:aP P w K mg base 7 "norm" m8) (G_qJ:aP P w K mg base 2 "turned" tu) (G_qh:aP P w K mg base 10 "sign_of_tops" tG) (G_qx:aP P w K mg base 2 "is_nought" ju) (G_qB:aP P w K mg base 11 "one_over" tD) (G_qR:aP P w K mg base 11 "sign" tH) (G_qa:aP P w K mg base 3 "root_of_fraction" lU) (G_qz:aP P w K mg base 7 "both_ways" lW) (G_qp:aP P w K mg base 1 "times_last" kj) (G_qS:aP P w K mg base 12 "over" j5) (G_qF:aP P w K mg base 5 "middles" qX) (G_qT:aP P w K mg base 12 "size" lN) (G_qU:aP P w K mg base 20 "root" kE) (G_qL:aP P w K mg base 10 "put_in" jx) (G_qf:aP P w K mg base 21 "carried_roots" nF) (G_qG:aP P w K mg base 22 "carried" gH) (G_qv:aP P w K mg base 1 "_law_whole" sY) (G_qE:aP P w K mg base 3 "_law_two" km) (G_ql:aP P w K mg base 3 "_law_drawn" lO) (G_qm:aP P w K mg base 23 "_law_refused" rm)
abbrev Ek:Stmt:=uX (top 5) 0
theorem RJ:FnScope ["self", "at"] ["self", "at"] (aq Ek):=‹"0"›
theorem RK (T:Txt K mg a) (L:Xk K a.c_NoCarry a.c_HallError "NoCarry.__init__" Ek "at"):Ax P w K mg base a.c_NoCarry "at" Jx:=Pu L RJ (fun _ _ _ _ ok h=>⟨_,rfl,ok,fun _=>h _⟩) fun f cdv A outer s H E Z=>FT (KQ (Pk Z rfl T.m_HallError (hD' (pv 0) (hD' (PN (pv 1)) Lr)) (by decide))) (hv' (Pn Z (pv 0) (pv 1)))
theorem yH (T:Txt K mg a) (F:Ent K mg "common" pM ["a", "b"]) :
  aP P w K mg base 1 "common" oA:=by
 have q:=c7 P w base 0 ou F sc_qH fun _ _ _ _ _ _ _ hr=>by
  unfold ou;exact (aW (bV 2 (gU hS' hT' rfl T.z_abs ‹"1"› (az (au 0) aF)) sc_qH.nd) (aW (bV 3 (gU hS' hT' rfl T.z_abs ‹"1"› (az (au 1) aF)) sc_qH.nd) (aW (Cz jd (dU (vQ hr.units) vP (au 3) aC (dH _)) (aW (bV 4 (aY iH iG (au 2) (au 3)) sc_qH.nd) (aW (bV 2 (au 3) sc_qH.nd) (bB (bV 3 (au 4) sc_qH.nd))))) (bB (cA (au 2))))))
 exact q
theorem yI (T:Txt K mg a) (F:Ent K mg "whole_root" pN ["n"]) :
  aP P w K mg base 1 "whole_root" tK:=by
 have q:=c7 P w base 0 pH F sc_qn fun _ _ _ _ _ _ _ hr=>by
  unfold pH;exact (aW (fP (dU vM (sI _) (au 0) aC (dH _)) (bB (CK rfl PySem.F.excBase_ValueError T.n_Below T.x_Below rfl T.m_Below (az hK' aF) (by decide) (hlen:=fun δ ds h=>Dc h))) at') (aW (bV 1 (aY GJ Gy aC (aY iB iz (aY e_ eZ (NP (au 0)) aC) aC)) sc_qn.nd) (aW (Cz eY (dU lo' (sI _) (aY ie h_ (au 1) (au 1)) (au 0) (dH _)) (bB (bV 1 (aY iB iz (aY e_ eZ (au 1) (aY iB iz (au 0) (au 1))) aC) sc_qn.nd))) (bB (cA (au 1))))))
 exact q
theorem yJ (T:Txt K mg a) (F:Ent K mg "lifted" pO ["x", "many"]) :
  aP P w K mg base 1 "lifted" gA:=by
 have q:=c7 P w base 0 oE F xX fun _ _ _ _ _ _ _ hr=>by
  unfold oE;exact (bB (cA (fO (az (aY e_ eZ (bZ (au 0) aC) (aY ie h_ (fO (az aC aF)) (aY vL vK (aY GJ Gy aC (au 1)) (gU jB jA rfl T.z_len ‹"1"› (az (bZ (au 0) aC) aF))))) (az (bZ (au 0) aC) aF)))))
 exact q
theorem yK (T:Txt K mg a) (F:Ent K mg "are_noughts" pP ["tops"]) :
  aP P w K mg base 1 "are_noughts" sW:=by
 have q:=c7 P w base 0 oF F xY fun _ _ _ _ _ _ _ hr=>by
  unfold oF;exact (bB (cA (gU (Nz rfl) Nx rfl T.z_all ‹"1"› (az (wQ (N':=["top"]) (m:=1) (fr:=[]) Dd rfl (uC (by decide)) (uz (au 0)) (fun _ _ _ _=>k_ 0 (show List.Nodup (["top"]:List Str) by decide +kernel)) (fun _ _ _ _=>(hN' (jE hr.units) jD (au 0) aC (dH _)))) aF))))
 exact q
theorem yL (T:Txt K mg a) (F:Ent K mg "front_tops" pQ ["tops"]) :
  aP P w K mg base 1 "front_tops" jq:=by
 have q:=c7 P w base 0 oG F xZ fun _ _ _ _ _ _ _ hr=>by
  unfold oG;exact (bB (cA (jQ (au 0) jP (i_ (aY iB iz (gU jB jA rfl T.z_len ‹"1"› (az (au 0) aF)) aC)))))
 exact q
theorem yM (T:Txt K mg a) (F:Ent K mg "behind_tops" pR ["tops"]) :
  aP P w K mg base 1 "behind_tops" jr:=by
 have q:=c7 P w base 0 oH F x_ fun _ _ _ _ _ _ _ hr=>by
  unfold oH;exact (bB (cA (jQ (au 0) (i_ (aY iB iz (gU jB jA rfl T.z_len ‹"1"› (az (au 0) aF)) aC)) jP)))
 exact q
theorem yN (T:Txt K mg a) (F:Ent K mg "plus_tops" pU ["one", "other"]) :
  aP P w K mg base 1 "plus_tops" m7:=by
 have q:=c7 P w base 0 oZ F yc fun _ _ _ _ _ _ _ hr=>by
  unfold oZ;exact (bB (cA (rH uF uE rfl T.z_tuple ‹"1"› (az (wQ (N':=["first", "second"]) (m:=2) (fr:=[]) Dd rfl (xg (by decide) (by decide)) (Hw rfl T.z_zip (az (au 0) (az (au 1) aF))) (fun _ _ _ _=>vO rfl (fun _=>mR 0 (show List.Nodup (["first", "second"]:List Str) by decide +kernel) (mR 1 (show List.Nodup (["first", "second"]:List Str) by decide +kernel) vN))) (fun _ _ _ _=>(aY e_ eZ (au 0) (au 1)))) aF))))
 exact q
theorem yO (T:Txt K mg a) (F:Ent K mg "against_tops" pW ["tops"]) :
  aP P w K mg base 1 "against_tops" m6:=by
 have q:=c7 P w base 0 oJ F yd fun _ _ _ _ _ _ _ hr=>by
  unfold oJ;exact (bB (cA (rH uF uE rfl T.z_tuple ‹"1"› (az (wQ (N':=["top"]) (m:=1) (fr:=[]) Dd rfl (uC (by decide)) (uz (au 0)) (fun _ _ _ _=>k_ 0 (show List.Nodup (["top"]:List Str) by decide +kernel)) (fun _ _ _ _=>(jF (au 0)))) aF))))
 exact q
theorem yP (T:Txt K mg a) (F:Ent K mg "sign_of_whole" pX ["n"]) :
  aP P w K mg base 1 "sign_of_whole" tE:=by
 have q:=c7 P w base 0 pD F ye fun _ _ _ _ _ _ _ hr=>by
  unfold pD;exact (aW (fP (dU (jE hr.units) jD (au 0) aC (dH _)) (bB (cA aC)) at') (bB (cA (Gx (dU lo' (sI _) (au 0) aC (dH _)) aC (jF aC)))))
 exact q
theorem yQ (T:Txt K mg a) (F:Ent K mg "times_last" pY ["b"]) :
  aP P w K mg base 1 "times_last" kj:=by
 have q:=c7 P w base 0 qP F yf fun _ _ _ _ _ _ _ hr=>by
  unfold qP;exact (bB (cA (fO (az (aY e_ eZ (aY ie h_ (fO (az aC aF)) (gU jB jA rfl T.z_len ‹"1"› (az (bZ (au 0) aC) aF))) (bZ (au 0) aC)) (az (bZ (au 0) aC) aF)))))
 exact q
theorem yR (T:Txt K mg a) (F:Ent K mg "_law_cell" pZ ["_law_script", "_law_k"]) :
  aP P w K mg base 1 "_law_cell" iT:=by
 have q:=c7 P w base 0 oK F yg fun _ _ _ _ _ _ _ hr=>by
  unfold oK;exact (aW (fP (dU vM (sI _) (au 1) (gU jB jA rfl T.z_len ‹"1"› (az (au 0) aF)) (dH _)) (bB (cA (bZ (au 0) (au 1)))) at') (bB (cA aC)))
 exact q
theorem yS (T:Txt K mg a) (F:Ent K mg "_law_whole" p6 ["_law_found"]) :
  aP P w K mg base 1 "_law_whole" sY:=by
 have q:=c7 P w base 0 vh F yh fun _ _ _ _ _ _ _ hr=>by
  unfold vh;exact (bB (cA (ne' (wU T.i_int (au 0) (C_ rfl T.z_int ‹"1"›) rfl T.z_isinstance) (Mw (Mx (wU T.i_bool (au 0) (C_ rfl T.z_bool ‹"1"›) rfl T.z_isinstance))))))
 exact q
theorem yU (T:Txt K mg a) (F:Ent K mg "_law_mixed" p7 ["_law_cell_here", "_law_k", "_law_many"]) :
  aP P w K mg base 1 "_law_mixed" bA:=by
 have q:=c7 P w base 0 o7 F sc_qw fun _ _ _ _ _ _ _ hr=>by
  unfold o7;exact (aW (bV 3 (uw (az aC (az aC (az aC (az aC (az aC aF)))))) sc_qw.nd) (aW (bV 3 (aY e_ eZ (au 3) (uw (az aC (az aC (az aC (az aC (az aC aF))))))) sc_qw.nd) (bB (cA (aY iH iG (aY iH iG (aY ie h_ (aY e_ eZ (au 0) aC) (bZ (au 3) (au 1))) aC) (au 2))))))
 exact q
theorem yV (T:Txt K mg a) (F:Ent K mg "_law_common" p_ ["_law_one", "_law_other"]) :
  aP P w K mg base 1 "_law_common" oN:=by
 have q:=c7 P w base 0 oM F sc_qq fun _ _ _ _ _ _ _ hr=>by
  unfold oM;exact (aW (Cz je (dU (vQ hr.units) vP (au 1) aC (dH _)) (aW (bV 2 (aY iH iG (au 0) (au 1)) sc_qq.nd) (aW (bV 0 (au 1) sc_qq.nd) (bB (bV 1 (au 2) sc_qq.nd))))) (bB (cA (gU hS' hT' rfl T.z_abs ‹"1"› (az (au 0) aF)))))
 exact q
theorem yW (T:Txt K mg a) (F:Ent K mg "_law_prime_roots" qd ["_law_primes_here", "_law_shares"]) :
  aP P w K mg base 1 "_law_prime_roots" nD:=by
 have q:=c7 P w base 0 qQ F sc_qb fun _ _ _ _ _ _ _ hr=>by
  unfold qQ;exact (aW (bV 2 (fO aF) sc_qb.nd) (aW (G4 rfl rfl T.z_range (az (gU jB jA rfl T.z_len ‹"1"› (az (au 0) aF)) aF) (k_ 3 sc_qb.nd) (aW (bV 4 (aY ie h_ (aY ie h_ (bZ (au 0) (au 3)) (bZ (au 1) (au 3))) (bZ (au 1) (au 3))) sc_qb.nd) (bB (bV 2 (aY e_ eZ (au 2) (fO (az (aY e_ eZ (fO (az (au 4) aF)) (rH uF uE rfl T.z_tuple ‹"1"› (az (HF (az aC aF) (aY vL vK (bZ (uw (az aC (az aC (az aC aF)))) (au 3)) aC)) aF))) aF))) sc_qb.nd)))) (bB (cA (au 2)))))
 exact q
include G_qH in
theorem yX (T:Txt K mg a) (F:Ent K mg "made" mF ["tops", "bottom"]) :
  aP P w K mg base 2 "made" fV:=by
 have q:=c7 P w base 1 oO F sc_qO fun _ _ _ _ _ _ _ hr=>by
  unfold oO;exact (aW (fP (dU (jE hr.units) jD (au 1) aC (dH _)) (bB (CK rfl PySem.F.excBase_ValueError T.n_NoOver T.x_NoOver rfl T.m_NoOver (az hK' aF) (by decide) (hlen:=fun δ ds h=>Dc h))) at') (aW (bV 2 (au 1) sc_qO.nd) (aW (Aq rfl (uz (au 0)) (k_ 3 sc_qO.nd) (bB (bV 2 (cl G_qH hr (az (au 2) (az (au 3) aF))) sc_qO.nd))) (aW (fP (dU vM (sI _) (au 1) aC (dH _)) (bB (bV 2 (jF (au 2)) sc_qO.nd)) at') (bB (cA (fO (az (rH uF uE rfl T.z_tuple ‹"1"› (az (wQ (N':=["top", "shared"]) (m:=1) (fr:=[2]) (rK (aq mF) ["tops", "bottom", "shared", "top"] rfl rfl rfl rfl rfl ‹"1"›) rfl (uC (by decide)) (uz (au 0)) (fun _ _ _ _=>k_ 0 (show List.Nodup (["top", "shared"]:List Str) by decide +kernel)) (fun _ _ _ _=>(aY iB iz (au 0) (au 1)))) aF)) (az (aY iB iz (au 1) (au 2)) aF)))))))))
 exact q
include G_qg in
theorem yZ (T:Txt K mg a) (F:Ent K mg "against" qi ["x"]) :
  aP P w K mg base 2 "against" oU:=by
 have q:=c7 P w base 1 oR F yj fun _ _ _ _ _ _ _ hr=>by
  unfold oR;exact (bB (cA (fO (az (cl G_qg hr (az (bZ (au 0) aC) aF)) (az (bZ (au 0) aC) aF)))))
 exact q
include G_qj in
theorem y_ (T:Txt K mg a) (F:Ent K mg "is_nought" qj ["x"]) :
  aP P w K mg base 2 "is_nought" ju:=by
 have q:=c7 P w base 1 pB F ym fun _ _ _ _ _ _ _ hr=>by
  unfold pB;exact (bB (cA (cl G_qj hr (az (bZ (au 0) aC) aF))))
 exact q
include G_qg G_qo G_qk in
theorem zc (T:Txt K mg a) (F:Ent K mg "turned" ql ["x"]) :
  aP P w K mg base 2 "turned" tu:=by
 have q:=c7 P w base 1 o_ F yo fun _ _ _ _ _ _ _ hr=>by
  unfold o_;exact (bB (cA (fO (az (aY e_ eZ (cl G_qo hr (az (bZ (au 0) aC) aF)) (cl G_qg hr (az (cl G_qk hr (az (bZ (au 0) aC) aF)) aF))) (az (bZ (au 0) aC) aF)))))
 exact q
include G_qw in
theorem zf (T:Txt K mg a) (F:Ent K mg "_law_scaffold" qm ["_law_cell_here", "_law_many"]) :
  aP P w K mg base 2 "_law_scaffold" tV:=by
 have q:=c7 P w base 1 vo F sc_qc fun _ _ _ _ _ _ _ hr=>by
  unfold vo;exact (aW (bV 2 (aY e_ eZ aC (cl G_qw hr (az (au 0) (az aC (az aC aF))))) sc_qc.nd) (aW (bV 3 (aY e_ eZ (aY e_ eZ (aY ie h_ (au 2) (au 2)) aC) (cl G_qw hr (az (au 0) (az aC (az (aY ie h_ aC (au 2)) aF))))) sc_qc.nd) (aW (bV 4 (aY e_ eZ aC (cl G_qw hr (az (au 0) (az aC (az aC aF))))) sc_qc.nd) (aW (bV 5 (aY e_ eZ aC (cl G_qw hr (az (au 0) (az aC (az aC aF))))) sc_qc.nd) (aW (bV 6 (fO (az (fO (az (au 3) aF)) (az (fO (az (cl G_qw hr (az (au 0) (az aC (az (aY e_ eZ (aY ie h_ (au 4) (au 2)) aC) aF)))) (az (au 4) aF))) (az (fO (az (cl G_qw hr (az (au 0) (az aC (az (au 5) aF)))) (az aC (az (au 5) (az aC aF))))) aF)))) sc_qc.nd) (aW (fP (dU (jE hr.units) jD (cl G_qw hr (az (au 0) (az aC (az aC aF)))) aC (dH _)) (aW (bV 7 (uw (az aC (az aC (az aC (az aC (az aC (az aC aF))))))) sc_qc.nd) (aW (bV 8 (cl G_qw hr (az (au 0) (az aC (az aC aF)))) sc_qc.nd) (bB (bV 6 (fO (az (fO (az (bZ (au 7) (au 8)) aF)) (az (fO (az (bZ (au 7) (aY iH iG (aY e_ eZ (au 8) aC) aC)) (az aC aF))) (az (fO (az (bZ (au 7) (aY iH iG (aY e_ eZ (au 8) aC) aC)) (az aC (az aC (az aC aF))))) aF)))) sc_qc.nd)))) at') (bB (cA (jQ (au 6) jP (i_ (au 1)))))))))))
 exact q
include G_qq in
theorem zg (T:Txt K mg a) (F:Ent K mg "_law_lowest" mG ["_law_one"]) :
  aP P w K mg base 2 "_law_lowest" m9:=by
 have q:=c7 P w base 1 pF F sc_qr fun _ _ _ _ _ _ _ hr=>by
  unfold pF;exact (aW (bV 1 (bZ (au 0) aC) sc_qr.nd) (aW (Aq rfl (uz (bZ (au 0) aC)) (k_ 2 sc_qr.nd) (bB (bV 1 (cl G_qq hr (az (au 1) (az (au 2) aF))) sc_qr.nd))) (bB (cA (fO (az (rH uF uE rfl T.z_tuple ‹"1"› (az (wQ (N':=["_law_top", "_law_shared"]) (m:=1) (fr:=[1]) (rK (aq mG) ["_law_one", "_law_shared", "_law_top"] rfl rfl rfl rfl rfl ‹"1"›) rfl (uC (by decide)) (uz (bZ (au 0) aC)) (fun _ _ _ _=>k_ 0 (show List.Nodup (["_law_top", "_law_shared"]:List Str) by decide +kernel)) (fun _ _ _ _=>(aY iB iz (au 0) (au 1)))) aF)) (az (aY iB iz (bZ (au 0) aC) (au 1)) aF)))))))
 exact q
include G_qw in
theorem zj (T:Txt K mg a) (F:Ent K mg "_law_primes" qp ["_law_cell_here", "_law_many"]) :
  aP P w K mg base 2 "_law_primes" tW:=by
 have q:=c7 P w base 1 qR F sc_qs fun _ _ _ _ _ _ _ hr=>by
  unfold qR;exact (aW (Df 2 (az aC (az aC (az aC (az aC (az aC (az aC aF)))))) sc_qs.nd) (aW (Df 3 aF sc_qs.nd) (aW (G4 rfl rfl T.z_range (az (au 1) aF) (k_ 4 sc_qs.nd) (bB (PJ 3 2 (cl G_qw hr (az (au 0) (az (au 4) (az (gU jB jA rfl T.z_len ‹"1"› (az (au 2) aF)) aF))))))) (bB (cA (au 3))))))
 exact q
include G_qO in
theorem zm (T:Txt K mg a) (F:Ent K mg "plus" mH ["x", "y"]) :
  aP P w K mg base 3 "plus" gC:=by
 have q:=c7 P w base 2 oV F sc_qP fun _ _ _ _ _ _ _ hr=>by
  unfold oV;exact (aW (CW 2 (N':=["one", "other", "y", "x"]) (m:=2) (fr:=[1,0]) (rK (aq mH) ["x", "y", "tops"] rfl rfl rfl rfl rfl ‹"1"›) rfl (xg (by decide) (by decide)) (Hw rfl T.z_zip (az (bZ (au 0) aC) (az (bZ (au 1) aC) aF))) (fun _ _ _ _=>vO rfl (fun _=>mR 0 (show List.Nodup (["one", "other", "y", "x"]:List Str) by decide +kernel) (mR 1 (show List.Nodup (["one", "other", "y", "x"]:List Str) by decide +kernel) vN))) (fun _ _ _ _=>(aY e_ eZ (aY ie h_ (au 0) (bZ (au 2) aC)) (aY ie h_ (au 1) (bZ (au 3) aC)))) sc_qP.nd) (bB (cA (cl G_qO hr (az (rH uF uE rfl T.z_tuple ‹"1"› (az (au 2) aF)) (az (aY ie h_ (bZ (au 0) aC) (bZ (au 1) aC)) aF))))))
 exact q
include G_qo G_qk G_qO in
theorem zp (T:Txt K mg a) (F:Ent K mg "halves" qt ["x"]) :
  aP P w K mg base 3 "halves" jY:=by
 have q:=c7 P w base 2 oW F yq fun _ _ _ _ _ _ _ hr=>by
  unfold oW;exact (bB (cA (fO (az (cl G_qO hr (az (cl G_qo hr (az (bZ (au 0) aC) aF)) (az (bZ (au 0) aC) aF))) (az (cl G_qO hr (az (cl G_qk hr (az (bZ (au 0) aC) aF)) (az (bZ (au 0) aC) aF))) aF)))))
 exact q
include G_qO G_qn in
theorem zr (T:Txt K mg a) (F:Ent K mg "root_of_fraction" qu ["x"]) :
  aP P w K mg base 3 "root_of_fraction" lU:=by
 have q:=c7 P w base 2 lR F sc_qa fun _ _ _ _ _ _ _ hr=>by
  unfold lR;exact (aW (bV 1 (aY ie h_ (bZ (bZ (au 0) aC) aC) (bZ (au 0) aC)) sc_qa.nd) (aW (fP (dU vM (sI _) (au 1) aC (dH _)) (bB (cA mQ)) at') (aW (bV 2 (cl G_qn hr (az (au 1) aF)) sc_qa.nd) (aW (fP (dU (vQ hr.units) vP (aY ie h_ (au 2) (au 2)) (au 1) (dH _)) (bB (cA mQ)) at') (bB (cA (cl G_qO hr (az (fO (az (au 2) aF)) (az (bZ (au 0) aC) aF)))))))))
 exact q
include G_qO in
theorem zu (T:Txt K mg a) (F:Ent K mg "half_of" qw ["x"]) :
  aP P w K mg base 3 "half_of" qU:=by
 have q:=c7 P w base 2 qT F yr fun _ _ _ _ _ _ _ hr=>by
  unfold qT;exact (bB (cA (cl G_qO hr (az (bZ (au 0) aC) (az (aY ie h_ aC (bZ (au 0) aC)) aF)))))
 exact q
include G_qw G_qr in
theorem zx (T:Txt K mg a) (F:Ent K mg "_law_drawn" ji ["_law_cell_here", "_law_many"]) :
  aP P w K mg base 3 "_law_drawn" lO:=by
 have q:=c7 P w base 2 pI F sc_ql fun _ _ _ _ _ _ _ hr=>by
  unfold pI;exact (aW (Dj 2 (N':=["_law_k", "_law_cell_here"]) (m:=1) (fr:=[0]) (rK (aq ji) ["_law_cell_here", "_law_many", "_law_tops"] rfl rfl rfl rfl rfl ‹"1"›) rfl (uC (by decide)) (Av rfl T.z_range (az (au 1) aF)) (fun _ _ _ _=>k_ 0 (show List.Nodup (["_law_k", "_law_cell_here"]:List Str) by decide +kernel)) (fun _ _ _ _=>(aY vL vK (cl G_qw hr (az (aY iB iz (au 1) aC) (az (au 0) (az aC aF)))) aC)) sc_ql.nd) (aW (fP (dU (jE hr.units) jD (aY iH iG (au 0) aC) aC (dH _)) (bB (O1 2 (aY vL vK (aY iH iG (aY iB iz (au 0) aC) (aY e_ eZ (aY ie h_ aC (aY kw' ks' aC aC)) aC)) (aY kw' ks' aC aC)) (Hz (aY iH iG (aY iB iz (au 0) aC) (au 1))) (Dk _))) at') (aW (fP (dU (jE hr.units) jD (aY iH iG (au 0) aC) aC (dH _)) (bB (Dj 2 (N':=["_law_k", "_law_top", "_law_cell_here"]) (m:=2) (fr:=[0]) (rK (aq ji) ["_law_cell_here", "_law_many", "_law_tops"] rfl rfl rfl rfl rfl ‹"1"›) rfl (xg (by decide) (by decide)) (Di rfl T.z_enumerate (az (au 2) aF)) (fun _ _ _ _=>vO rfl (fun _=>mR 0 (show List.Nodup (["_law_k", "_law_top", "_law_cell_here"]:List Str) by decide +kernel) (mR 1 (show List.Nodup (["_law_k", "_law_top", "_law_cell_here"]:List Str) by decide +kernel) vN))) (fun _ _ _ _=>(aY ie h_ (au 1) (rH kz' ne_int rfl T.z_int ‹"1"› (az (hN' (jE hr.units) jD (aY iH iG (aY iB iz (aY iB iz (au 2) aC) (aY e_ eZ (au 0) aC)) aC) aC (dH _)) aF)))) sc_ql.nd)) at') (aW (fP (dU (jE hr.units) jD (aY iH iG (au 0) aC) aC (dH _)) (bB (Dj 2 (N':=["_law_k", "_law_top", "_law_many", "_law_cell_here"]) (m:=2) (fr:=[1,0]) (rK (aq ji) ["_law_cell_here", "_law_many", "_law_tops"] rfl rfl rfl rfl rfl ‹"1"›) rfl (xg (by decide) (by decide)) (Di rfl T.z_enumerate (az (au 2) aF)) (fun _ _ _ _=>vO rfl (fun _=>mR 0 (show List.Nodup (["_law_k", "_law_top", "_law_many", "_law_cell_here"]:List Str) by decide +kernel) (mR 1 (show List.Nodup (["_law_k", "_law_top", "_law_many", "_law_cell_here"]:List Str) by decide +kernel) vN))) (fun _ _ _ _=>(aY ie h_ (au 1) (rH kz' ne_int rfl T.z_int ‹"1"› (az (hN' vM (sI _) (au 0) (aY e_ eZ (aY iH iG (aY iB iz (au 3) aC) (au 2)) aC) (dH _)) aF)))) sc_ql.nd)) at') (bB (cA (cl G_qr hr (az (fO (az (rH uF uE rfl T.z_tuple ‹"1"› (az (au 2) aF)) (az (aY e_ eZ aC (cl G_qw hr (az (aY iB iz (au 0) aC) (az aC (az aC aF))))) aF))) aF))))))))
 exact q
include G_qw G_qA G_qs G_qc G_qb in
theorem zy (T:Txt K mg a) (F:Ent K mg "_law_two" iw ["_law_script"]) :
  aP P w K mg base 3 "_law_two" km:=by
 have q:=c7 P w base 2 lV F sc_qE fun _ _ _ _ _ _ _ hr=>by
  unfold lV;exact (aW (bV 1 (cl G_qA hr (az (au 0) (az aC aF))) sc_qE.nd) (aW (bV 2 (aY e_ eZ aC (aY iH iG (au 1) aC)) sc_qE.nd) (aW (fP (dU (jE hr.units) jD (aY iH iG (aY iB iz (au 1) aC) aC) aC (dH _)) (aW (bV 3 (cl G_qc hr (az (cl G_qA hr (az (au 0) (az aC aF))) (az (au 2) aF))) sc_qE.nd) (aW (bV 4 (aY iH iG (aY iB iz (au 1) aC) (au 2)) sc_qE.nd) (bB (cA (fO (az (au 3) (az (jQ (au 3) jP (i_ (au 4))) (az (au 4) aF)))))))) at') (aW (bV 5 (cl G_qs hr (az (cl G_qA hr (az (au 0) (az aC aF))) (az aC aF))) sc_qE.nd) (aW (bV 6 (jQ (au 5) jP (i_ (au 2))) sc_qE.nd) (aW (bV 7 (aY iH iG (aY iB iz (au 1) aC) (au 2)) sc_qE.nd) (aW (bV 8 (HJ (N':=["_law_k", "_law_prime", "_law_gone", "_law_first"]) (m:=2) (fr:=[7,1]) (rK (aq iw) ["_law_script", "_law_first", "_law_count", "_law_old", "_law_at", "_law_primes_here", "_law_mine", "_law_gone", "_law_others", "_law_due", "_law_ones", "_law_twos"] rfl rfl rfl rfl rfl ‹"1"›) rfl (xg (by decide) (by decide)) (Di rfl T.z_enumerate (az (au 6) aF)) (fun _ _ _ _=>vO rfl (fun _=>mR 0 (show List.Nodup (["_law_k", "_law_prime", "_law_gone", "_law_first"]:List Str) by decide +kernel) (mR 1 (show List.Nodup (["_law_k", "_law_prime", "_law_gone", "_law_first"]:List Str) by decide +kernel) vN))) (fun _ _ _ _=>(PWD.pt (Mv (dU (vQ hr.units) vP (au 0) (au 2) (dH _)) (Mu (dU lo' (sI _) (aY iH iG (aY iB iz (au 3) (aY ie h_ aC (aY e_ eZ (au 0) aC))) aC) aC (dH _)))))) (fun _ _ _ _=>(au 1))) sc_qE.nd) (aW (bV 8 (jQ (PDL.pd (Pz (aY e_ eZ (au 8) (jQ (au 5) (i_ aC) (i_ (aY e_ eZ aC (aY iH iG (aY iB iz (au 1) aC) aC))))) (i_ (jF aC)))) jP (i_ aC)) sc_qE.nd) (aW (bV 9 (gU (PX rfl) PQ rfl T.z_min ‹"1"› (az (HJ (N':=["_law_k", "_law_others", "_law_mine"]) (m:=1) (fr:=[8,6]) (rK (aq iw) ["_law_script", "_law_first", "_law_count", "_law_old", "_law_at", "_law_primes_here", "_law_mine", "_law_gone", "_law_others", "_law_due", "_law_ones", "_law_twos"] rfl rfl rfl rfl rfl ‹"1"›) rfl (uC (by decide)) (Av rfl T.z_range (az (au 2) aF)) (fun _ _ _ _=>k_ 0 (show List.Nodup (["_law_k", "_law_others", "_law_mine"]:List Str) by decide +kernel)) (fun _ _ _ _=>(dU O3 O2 (bZ (au 2) (au 0)) (au 1) (by with_unfolding_all rfl))) (fun _ _ _ _=>(au 0))) aF)) sc_qE.nd) (aW (CW 10 (N':=["_law_k", "_law_first"]) (m:=1) (fr:=[1]) (rK (aq iw) ["_law_script", "_law_first", "_law_count", "_law_old", "_law_at", "_law_primes_here", "_law_mine", "_law_gone", "_law_others", "_law_due", "_law_ones", "_law_twos"] rfl rfl rfl rfl rfl ‹"1"›) rfl (uC (by decide)) (Av rfl T.z_range (az aC aF)) (fun _ _ _ _=>k_ 0 (show List.Nodup (["_law_k", "_law_first"]:List Str) by decide +kernel)) (fun _ _ _ _=>(aY e_ eZ aC (cl G_qw hr (az (au 1) (az (au 0) (az aC aF)))))) sc_qE.nd) (aW (CW 11 (N':=["_law_k", "_law_first"]) (m:=1) (fr:=[1]) (rK (aq iw) ["_law_script", "_law_first", "_law_count", "_law_old", "_law_at", "_law_primes_here", "_law_mine", "_law_gone", "_law_others", "_law_due", "_law_ones", "_law_twos"] rfl rfl rfl rfl rfl ‹"1"›) rfl (uC (by decide)) (Av rfl T.z_range (az aC aF)) (fun _ _ _ _=>k_ 0 (show List.Nodup (["_law_k", "_law_first"]:List Str) by decide +kernel)) (fun _ _ _ _=>(aY e_ eZ aC (cl G_qw hr (az (au 1) (az (aY e_ eZ (au 0) aC) (az aC aF)))))) sc_qE.nd) (bB (cA (fO (az (cl G_qb hr (az (au 6) (az (au 10) aF))) (az (cl G_qb hr (az (au 8) (az (au 11) aF))) (az (au 9) aF)))))))))))))))))
 exact q
include G_qP G_qC in
theorem zB (T:Txt K mg a) (F:Ent K mg "minus" qx ["x", "y"]) :
  aP P w K mg base 4 "minus" sZ:=by
 have q:=c7 P w base 3 oY F yt fun _ _ _ _ _ _ _ hr=>by
  unfold oY;exact (bB (cA (cl G_qP hr (az (au 0) (az (cl G_qC hr (az (au 1) aF)) aF)))))
 exact q
include G_qo G_qk G_qu in
theorem tX (T:Txt K mg a) (F:Ent K mg "times_tops" j7 ["roots", "one", "other"]) {R:List D->Res D} {k:Nat} (hk:1<=k) (G_qt:aP P w K mg base k "times_tops" R) :
  aP P w K mg base (k + 1) "times_tops" (bF 3 11 (jZ R)):=by
 have q:=c7 P w base k (jZ R) F sc_qt fun _ _ _ _ _ _ _ hr=>by
  unfold jZ;exact (aW (fP (dU (jE hr.units) jD (gU jB jA rfl T.z_len ‹"1"› (az (au 0) aF)) aC (dH _)) (bB (cA (fO (az (aY ie h_ (bZ (au 1) aC) (bZ (au 2) aC)) aF)))) at') (aW (bV 3 (jQ (au 0) jP (i_ (jF aC))) sc_qt.nd) (aW (bV 4 (cl G_qo hr (az (au 1) aF)) sc_qt.nd) (aW (bV 5 (cl G_qk hr (az (au 1) aF)) sc_qt.nd) (aW (bV 6 (cl G_qo hr (az (au 2) aF)) sc_qt.nd) (aW (bV 7 (cl G_qk hr (az (au 2) aF)) sc_qt.nd) (aW (bV 8 (cl G_qt hr (az (au 3) (az (cl G_qt hr (az (au 3) (az (au 5) (az (au 7) aF)))) (az (bZ (au 0) (jF aC)) aF)))) sc_qt.nd) (aW (bV 9 (cl G_qu hr (az (cl G_qt hr (az (au 3) (az (au 4) (az (au 6) aF)))) (az (au 8) aF))) sc_qt.nd) (aW (bV 10 (cl G_qu hr (az (cl G_qt hr (az (au 3) (az (au 4) (az (au 7) aF)))) (az (cl G_qt hr (az (au 3) (az (au 5) (az (au 6) aF)))) aF))) sc_qt.nd) (bB (cA (aY e_ eZ (au 9) (au 10)))))))))))))
 exact q
include G_qo G_qk G_qu in
theorem rn (T:Txt K mg a) (F:Ent K mg "times_tops" j7 ["roots", "one", "other"]):∀n,aP P w K mg base (1 + 1 * n) "times_tops" (jf n)
 | 0=>nZ F _
 | n + 1=>tX G_qo G_qk G_qu T F (Nat.le_add_right _ _) (rn T F n)
include G_qo G_qk G_qu in
theorem zE (T:Txt K mg a) (F:Ent K mg "times_tops" j7 ["roots", "one", "other"]) :
  aP P w K mg base 5 "times_tops" iU:=rn G_qo G_qk G_qu T F  4
include G_qP G_qD G_qM in
theorem zF (T:Txt K mg a) (F:Ent K mg "middles" qy ["a", "n"]) :
  aP P w K mg base 5 "middles" qX:=by
 have q:=c7 P w base 4 qW F yu fun _ _ _ _ _ _ _ hr=>by
  unfold qW;exact (bB (cA (uw (az (cl G_qD hr (az (cl G_qP hr (az (au 0) (az (au 1) aF))) aF)) (az (cl G_qD hr (az (cl G_qM hr (az (au 0) (az (au 1) aF))) aF)) aF)))))
 exact q
include G_qO G_qt in
theorem zG (T:Txt K mg a) (F:Ent K mg "times" qC ["roots", "x", "y"]) :
  aP P w K mg base 6 "times" jt:=by
 have q:=c7 P w base 5 o9 F yw fun _ _ _ _ _ _ _ hr=>by
  unfold o9;exact (bB (cA (cl G_qO hr (az (cl G_qt hr (az (au 0) (az (bZ (au 1) aC) (az (bZ (au 2) aC) aF)))) (az (aY ie h_ (bZ (au 1) aC) (bZ (au 2) aC)) aF)))))
 exact q
include G_qg G_qo G_qk G_qu G_qt in
theorem zH (T:Txt K mg a) (F:Ent K mg "norm_tops" qD ["roots", "tops"]) :
  aP P w K mg base 6 "norm_tops" pq:=by
 have q:=c7 P w base 5 ph F sc_qy fun _ _ _ _ _ _ _ hr=>by
  unfold ph;exact (aW (bV 2 (jQ (au 0) jP (i_ (jF aC))) sc_qy.nd) (aW (bV 3 (cl G_qo hr (az (au 1) aF)) sc_qy.nd) (aW (bV 4 (cl G_qk hr (az (au 1) aF)) sc_qy.nd) (aW (bV 5 (cl G_qt hr (az (au 2) (az (cl G_qt hr (az (au 2) (az (au 4) (az (au 4) aF)))) (az (bZ (au 0) (jF aC)) aF)))) sc_qy.nd) (bB (cA (cl G_qu hr (az (cl G_qt hr (az (au 2) (az (au 3) (az (au 3) aF)))) (az (cl G_qg hr (az (au 5) aF)) aF)))))))))
 exact q
include G_qO G_qy in
theorem zJ (T:Txt K mg a) (F:Ent K mg "norm" qF ["roots", "x"]) :
  aP P w K mg base 7 "norm" m8:=by
 have q:=c7 P w base 6 pA F yz fun _ _ _ _ _ _ _ hr=>by
  unfold pA;exact (bB (cA (cl G_qO hr (az (cl G_qy hr (az (au 0) (az (bZ (au 1) aC) aF))) (az (aY ie h_ (bZ (au 1) aC) (bZ (au 1) aC)) aF)))))
 exact q
include G_qN in
theorem zK (T:Txt K mg a) (F:Ent K mg "both_ways" qG ["roots", "a"]) :
  aP P w K mg base 7 "both_ways" lW:=by
 have q:=c7 P w base 6 qY F yC fun _ _ _ _ _ _ _ hr=>by
  unfold qY;exact (bB (cA (uw (az (au 1) (az (cl G_qN hr (az (jQ (au 0) jP (i_ (jF aC))) (az (au 1) (az (fO (az (bZ (au 0) (jF aC)) (az aC aF))) aF)))) aF)))))
 exact q
include G_qo G_qk G_qy G_qd in
theorem tY (T:Txt K mg a) (F:Ent K mg "sign_of_tops" j8 ["roots", "tops"]) {R:List D->Res D} {k:Nat} (hk:6<=k) (G_qh:aP P w K mg base k "sign_of_tops" R) :
  aP P w K mg base (k + 1) "sign_of_tops" (bF 2 5 (j6 R)):=by
 have q:=c7 P w base k (j6 R) F sc_qh fun _ _ _ _ _ _ _ hr=>by
  unfold j6;exact (aW (fP (dU (jE hr.units) jD (gU jB jA rfl T.z_len ‹"1"› (az (au 0) aF)) aC (dH _)) (bB (cA (cl G_qd hr (az (bZ (au 1) aC) aF)))) at') (aW (bV 2 (jQ (au 0) jP (i_ (jF aC))) sc_qh.nd) (aW (bV 3 (cl G_qh hr (az (au 2) (az (cl G_qo hr (az (au 1) aF)) aF))) sc_qh.nd) (aW (bV 4 (cl G_qh hr (az (au 2) (az (cl G_qk hr (az (au 1) aF)) aF))) sc_qh.nd) (aW (fP (PWD.pt (hQ' (dU (jE hr.units) jD (au 3) (au 4) (dH _)) (Gw (dU (jE hr.units) jD (au 4) aC (dH _))))) (bB (cA (au 3))) at') (aW (fP (dU (jE hr.units) jD (au 3) aC (dH _)) (bB (cA (au 4))) at') (bB (cA (aY ie h_ (au 3) (cl G_qh hr (az (au 2) (az (cl G_qy hr (az (au 0) (az (au 1) aF))) aF))))))))))))
 exact q
include G_qo G_qk G_qy G_qd in
theorem rA (T:Txt K mg a) (F:Ent K mg "sign_of_tops" j8 ["roots", "tops"]):∀n,aP P w K mg base (6 + 1 * n) "sign_of_tops" (jh n)
 | 0=>nZ F _
 | n + 1=>tY G_qo G_qk G_qy G_qd T F (Nat.le_add_right _ _) (rA T F n)
include G_qo G_qk G_qy G_qd in
theorem zL (T:Txt K mg a) (F:Ent K mg "sign_of_tops" j8 ["roots", "tops"]) :
  aP P w K mg base 10 "sign_of_tops" tG:=rA G_qo G_qk G_qy G_qd T F  4
include G_qP G_qN G_qK G_qI in
theorem tZ (T:Txt K mg a) (F:Ent K mg "put_in" j9 ["new", "told", "x"]) {R:List D->Res D} {k:Nat} (hk:6<=k) (G_qL:aP P w K mg base k "put_in" R) :
  aP P w K mg base (k + 1) "put_in" (bF 3 6 (iV R)):=by
 have q:=c7 P w base k (iV R) F sc_qL fun _ _ _ _ _ _ _ hr=>by
  unfold iV;exact (aW (fP (dU (jE hr.units) jD (gU jB jA rfl T.z_len ‹"1"› (az (au 1) aF)) aC (dH _)) (bB (cA (cl G_qI hr (az (au 2) (az (gU jB jA rfl T.z_len ‹"1"› (az (au 0) aF)) aF))))) at') (aW (bV 3 (cl G_qK hr (az (au 2) aF)) sc_qL.nd) (aW (bV 4 (cl G_qL hr (az (au 0) (az (jQ (au 1) jP (i_ (jF aC))) (az (bZ (au 3) aC) aF)))) sc_qL.nd) (aW (bV 5 (cl G_qL hr (az (au 0) (az (jQ (au 1) jP (i_ (jF aC))) (az (bZ (au 3) aC) aF)))) sc_qL.nd) (bB (cA (cl G_qP hr (az (au 4) (az (cl G_qN hr (az (au 0) (az (au 5) (az (bZ (au 1) (jF aC)) aF)))) aF)))))))))
 exact q
include G_qP G_qN G_qK G_qI in
theorem rB (T:Txt K mg a) (F:Ent K mg "put_in" j9 ["new", "told", "x"]):∀n,aP P w K mg base (6 + 1 * n) "put_in" (mJ n)
 | 0=>nZ F _
 | n + 1=>tZ G_qP G_qN G_qK G_qI T F (Nat.le_add_right _ _) (rB T F n)
include G_qP G_qN G_qK G_qI in
theorem zM (T:Txt K mg a) (F:Ent K mg "put_in" j9 ["new", "told", "x"]) :
  aP P w K mg base 10 "put_in" jx:=rB G_qP G_qN G_qK G_qI T F  4
include G_qO G_qN G_qI G_qQ G_qJ in
theorem t6 (T:Txt K mg a) (F:Ent K mg "one_over" j_ ["roots", "y"]) {R:List D->Res D} {k:Nat} (hk:7<=k) (G_qB:aP P w K mg base k "one_over" R) :
  aP P w K mg base (k + 1) "one_over" (bF 2 3 (j4 R)):=by
 have q:=c7 P w base k (j4 R) F sc_qB fun _ _ _ _ _ _ _ hr=>by
  unfold j4;exact (aW (fP (dU (jE hr.units) jD (gU jB jA rfl T.z_len ‹"1"› (az (au 0) aF)) aC (dH _)) (bB (cA (cl G_qO hr (az (fO (az (bZ (au 1) aC) aF)) (az (bZ (bZ (au 1) aC) aC) aF))))) at') (aW (bV 2 (cl G_qB hr (az (jQ (au 0) jP (i_ (jF aC))) (az (cl G_qQ hr (az (au 0) (az (au 1) aF))) aF))) sc_qB.nd) (bB (cA (cl G_qN hr (az (au 0) (az (cl G_qJ hr (az (au 1) aF)) (az (cl G_qI hr (az (au 2) (az (gU jB jA rfl T.z_len ‹"1"› (az (au 0) aF)) aF))) aF))))))))
 exact q
include G_qO G_qN G_qI G_qQ G_qJ in
theorem rC (T:Txt K mg a) (F:Ent K mg "one_over" j_ ["roots", "y"]):∀n,aP P w K mg base (7 + 1 * n) "one_over" (jg n)
 | 0=>nZ F _
 | n + 1=>t6 G_qO G_qN G_qI G_qQ G_qJ T F (Nat.le_add_right _ _) (rC T F n)
include G_qO G_qN G_qI G_qQ G_qJ in
theorem zN (T:Txt K mg a) (F:Ent K mg "one_over" j_ ["roots", "y"]) :
  aP P w K mg base 11 "one_over" tD:=rC G_qO G_qN G_qI G_qQ G_qJ T F  4
include G_qh in
theorem zO (T:Txt K mg a) (F:Ent K mg "sign" qH ["roots", "x"]) :
  aP P w K mg base 11 "sign" tH:=by
 have q:=c7 P w base 10 pG F yD fun _ _ _ _ _ _ _ hr=>by
  unfold pG;exact (bB (cA (cl G_qh hr (az (au 0) (az (bZ (au 1) aC) aF)))))
 exact q
include G_qN G_qx G_qB in
theorem zP (T:Txt K mg a) (F:Ent K mg "over" qI ["roots", "x", "y"]) :
  aP P w K mg base 12 "over" j5:=by
 have q:=c7 P w base 11 pC F yE fun _ _ _ _ _ _ _ hr=>by
  unfold pC;exact (aW (fP (vI (cl G_qx hr (az (au 2) aF))) (bB (CK rfl PySem.F.excBase_ValueError T.n_NoOver T.x_NoOver rfl T.m_NoOver (az hK' aF) (by decide) (hlen:=fun δ ds h=>Dc h))) at') (bB (cA (cl G_qN hr (az (au 0) (az (au 1) (az (cl G_qB hr (az (au 0) (az (au 2) aF))) aF)))))))
 exact q
include G_qC G_qR in
theorem zQ (T:Txt K mg a) (F:Ent K mg "size" qJ ["roots", "x"]) :
  aP P w K mg base 12 "size" lN:=by
 have q:=c7 P w base 11 m_ F yF fun _ _ _ _ _ _ _ hr=>by
  unfold m_;exact (bB (cA (Gx (dU vM (sI _) (cl G_qR hr (az (au 0) (az (au 1) aF))) aC (dH _)) (cl G_qC hr (az (au 1) aF)) (au 1))))
 exact q
include G_qK G_qQ G_qx G_qa in
theorem t7 (T:Txt K mg a) (F:Ent K mg "root" kh ["roots", "x"]) {R:List D->Res D} {k:Nat} (hk:12<=k) (G_qU:aP P w K mg base k "root" R) (G_qe:aP P w K mg base (k + 1) "root_of_front" (bF 2 5 (eV R))) (G_qi:aP P w K mg base (k + 1) "root_of_both" (bF 4 9 (gb R))) :
  aP P w K mg base (k + 2) "root" (bF 2 3 (gG R)):=by
 have q:=c7 P w base (k + 1) (gG R) F sc_qU fun _ _ _ _ _ _ _ hr=>by
  unfold gG;exact (aW (fP (dU (jE hr.units) jD (gU jB jA rfl T.z_len ‹"1"› (az (au 0) aF)) aC (dH _)) (bB (cA (cl G_qa hr (az (au 1) aF)))) at') (aW (bV 2 (cl G_qK hr (az (au 1) aF)) sc_qU.nd) (aW (fP (vI (cl G_qx hr (az (bZ (au 2) aC) aF))) (bB (cA (cl G_qe hr (az (au 0) (az (bZ (au 2) aC) aF))))) at') (bB (cA (cl G_qi hr (az (au 0) (az (bZ (au 2) aC) (az (bZ (au 2) aC) (az (cl G_qQ hr (az (au 0) (az (au 1) aF))) aF))))))))))
 exact q
include G_qK G_qQ G_qx G_qa in
theorem jy (T:Txt K mg a) (F:Ent K mg "root" kh ["roots", "x"]) (S_qe:∀(R:List D->Res D) (k:Nat),12<=k->aP P w K mg base k "root" R->aP P w K mg base (k + 1) "root_of_front" (bF 2 5 (eV R))) (S_qi:∀(R:List D->Res D) (k:Nat),12<=k->aP P w K mg base k "root" R->aP P w K mg base (k + 1) "root_of_both" (bF 4 9 (gb R))):∀n,aP P w K mg base (12 + 2 * n) "root" (dO n)
 | 0=>nZ F _
 | n + 1=>t7 G_qK G_qQ G_qx G_qa T F (Nat.le_add_right _ _) (jy T F S_qe S_qi n) (S_qe _ _ (Nat.le_add_right _ _) (jy T F S_qe S_qi n)) (S_qi _ _ (Nat.le_add_right _ _) (jy T F S_qe S_qi n))
include G_qK G_qQ G_qx G_qa in
theorem zR (T:Txt K mg a) (F:Ent K mg "root" kh ["roots", "x"]) (S_qe:∀(R:List D->Res D) (k:Nat),12<=k->aP P w K mg base k "root" R->aP P w K mg base (k + 1) "root_of_front" (bF 2 5 (eV R))) (S_qi:∀(R:List D->Res D) (k:Nat),12<=k->aP P w K mg base k "root" R->aP P w K mg base (k + 1) "root_of_both" (bF 4 9 (gb R))) :
  aP P w K mg base 20 "root" kE:=jy G_qK G_qQ G_qx G_qa T F S_qe S_qi 4
include G_qI G_qz G_qp G_qS in
theorem rE (T:Txt K mg a) (F:Ent K mg "root_of_front" qK ["roots", "a"]) {R:List D->Res D} {k:Nat} (hk:12<=k) (G_qU:aP P w K mg base k "root" R) :
  aP P w K mg base (k + 1) "root_of_front" (bF 2 5 (eV R)):=by
 have q:=c7 P w base k (eV R) F sc_qe fun _ _ _ _ _ _ _ hr=>by
  unfold eV;exact (aW (bV 2 (jQ (au 0) jP (i_ (jF aC))) sc_qe.nd) (aW (bV 3 (cl G_qz hr (az (au 0) (az (au 1) aF))) sc_qe.nd) (aW (bV 4 (cl G_qU hr (az (au 2) (az (bZ (au 3) aC) aF))) sc_qe.nd) (aW (fP (dU id' dv' (au 4) mQ (dH _)) (bB (cA (cl G_qI hr (az (au 4) (az (gU jB jA rfl T.z_len ‹"1"› (az (au 0) aF)) aF))))) at') (aW (bV 4 (cl G_qU hr (az (au 2) (az (bZ (au 3) aC) aF))) sc_qe.nd) (aW (fP (dU ic' cs' (au 4) mQ (dH _)) (bB (cA mQ)) at') (bB (cA (cl G_qp hr (az (cl G_qS hr (az (au 2) (az (au 4) (az (fO (az (bZ (au 0) (jF aC)) (az aC aF))) aF)))) aF))))))))))
 exact q
include G_qP G_qI G_qp G_qS G_qF G_qT in
theorem rF (T:Txt K mg a) (F:Ent K mg "root_of_both" qL ["roots", "a", "b", "product"]) {R:List D->Res D} {k:Nat} (hk:12<=k) (G_qU:aP P w K mg base k "root" R) :
  aP P w K mg base (k + 1) "root_of_both" (bF 4 9 (gb R)):=by
 have q:=c7 P w base k (gb R) F sc_qi fun _ _ _ _ _ _ _ hr=>by
  unfold gb;exact (aW (bV 4 (jQ (au 0) jP (i_ (jF aC))) sc_qi.nd) (aW (bV 5 (cl G_qU hr (az (au 4) (az (au 3) aF))) sc_qi.nd) (aW (fP (dU ic' cs' (au 5) mQ (dH _)) (bB (cA mQ)) at') (aW (Aq rfl (uz (cl G_qF hr (az (au 1) (az (au 5) aF)))) (k_ 6 sc_qi.nd) (aW (bV 7 (cl G_qU hr (az (au 4) (az (au 6) aF))) sc_qi.nd) (bB (fP (dU id' dv' (au 7) mQ (dH _)) (aW (bV 8 (cl G_qp hr (az (cl G_qS hr (az (au 4) (az (au 2) (az (cl G_qP hr (az (au 7) (az (au 7) aF))) aF)))) aF)) sc_qi.nd) (bB (cA (cl G_qT hr (az (au 0) (az (cl G_qP hr (az (cl G_qI hr (az (au 7) (az (gU jB jA rfl T.z_len ‹"1"› (az (au 0) aF)) aF))) (az (au 8) aF))) aF)))))) at')))) (bB (cA mQ))))))
 exact q
include G_qU G_qL in
theorem zT (T:Txt K mg a) (F:Ent K mg "carried_roots" qM ["old", "new"]) (G_NoCarry:Ax P w K mg base a.c_NoCarry "at" Jx) :
  aP P w K mg base 21 "carried_roots" nF:=by
 have q:=fnX P w base 20 qZ F sc_qf fun _ _ _ _ _ _ _ hr=>by
  unfold qZ;exact (HS (PSD.psx (Df 2 aF sc_qf.nd)) (HS (Qa PassesOwn.leaving rfl rfl T.z_range (az (gU jB jA rfl T.z_len ‹"1"› (az (au 0) aF)) aF) (k_ 3 sc_qf.nd) (aW (bV 4 (cl G_qU hr (az (au 1) (az (cl G_qL hr (az (au 1) (az (au 2) (az (fO (az (bZ (au 0) (au 3)) (az aC aF))) aF)))) aF))) sc_qf.nd) (aW (fP (dU ic' cs' (au 4) mQ (dH _)) (bB (rz G_NoCarry hr rfl T.n_NoCarry rfl T.m_NoCarry (PK (au 3)) PL)) at') (bB (N8 2 (au 4)))))) (nx' (PSD.psx (cA (au 2))))))
 exact q
include G_qL G_qf in
theorem zU (T:Txt K mg a) (F:Ent K mg "carried" qN ["old", "new", "x"]) :
  aP P w K mg base 22 "carried" gH:=by
 have q:=c7 P w base 21 lY F yG fun _ _ _ _ _ _ _ hr=>by
  unfold lY;exact (bB (cA (cl G_qL hr (az (au 1) (az (cl G_qf hr (az (au 0) (az (au 1) aF))) (az (au 2) aF))))))
 exact q
include G_qG G_qv in
theorem zV (T:Txt K mg a) (F:Ent K mg "_law_refused" qO ["_law_old", "_law_new", "_law_one"]) :
  aP P w K mg base 23 "_law_refused" rm:=by
 have q:=c7 P w base 22 q_ F sc_qm fun _ _ _ _ _ _ _ hr=>by
  unfold q_;exact (aW (bV 3 mQ sc_qm.nd) (aW (lv' 4 rfl ⟨rfl,rfl⟩ sc_qm.nd rfl T.m_HallError T.s_HallError (bB (M7 (cl G_qG hr (az (au 0) (az (au 1) (az (au 2) aF)))))) (fun _=>(bB (bV 3 (au 4) sc_qm.nd)))) (aW (fP (PWD.pt (hQ' (Cw (vI (wU T.i_NoCarry (au 3) (Hh rfl T.m_NoCarry) rfl T.z_isinstance))) (hQ' (vI (wU T.i_NoRoom (au 3) (Hh rfl T.m_NoRoom) rfl T.z_isinstance)) (Gw (Cw (vI (wU T.i_ValueError (au 3) (C_ rfl T.z_ValueError ‹"1"›) rfl T.z_isinstance))))))) (bB (cA mQ)) at') (aW (fP (Cw (vI (cl G_qv hr (az (HH T.a_at (au 3)) aF)))) (bB (cA mQ)) at') (bB (cA (HH T.a_at (au 3))))))))
 exact q
include G_qG G_qE G_ql G_qm in
theorem RL (T:Txt K mg a) {f:Addr} {fd:FuncData} (F:Fun K "law" "law" tU f fd) :
  FnOk P w K mg base (gW P w) 24 f fd ["_law_script"] (rJ K iy):=by
 exact G8 (P:=P) (w:=w) (base:=base) (N:=["_law_script", "_law_old", "_law_new", "_law_due", "_law_many", "_law_cell_here", "_law_one"]) (ps:=["_law_script"]) (k:=23) (body:=kI) F sc_law fun cdv A outer s H E hr=>by
  unfold kI;exact (aW (lt' (cl G_qE hr (az (au 0) aF)) (vO rfl (fun _=>(mR 1 sc_law.nd (mR 2 sc_law.nd (mR 3 sc_law.nd vN)))))) (aW (bV 4 (bZ (uw (az aC (az aC (az aC (az aC aF))))) (gU jB jA rfl T.z_len ‹"1"› (az (au 1) aF))) sc_law.nd) (aW (Aq rfl (uz (aY e_ eZ (jQ (au 0) (i_ aC) (i_ aC)) (uw (az aC aF)))) (k_ 5 sc_law.nd) (aW (bV 6 (cl G_ql hr (az (au 5) (az (au 4) aF))) sc_law.nd) (aW (fP (dU (jE hr.units) jD (aY iH iG (au 5) aC) aC (dH _)) (bB (bV 6 (fO (az (aY e_ eZ (fO (az (aY vL vK (aY iH iG (aY iB iz (au 5) aC) aC) aC) aF)) (rH uF uE rfl T.z_tuple ‹"1"› (az (HF (az aC aF) (aY vL vK (au 4) aC)) aF))) (az aC aF))) sc_law.nd)) at') (aW (fP (dU (vQ hr.units) vP (cl G_qm hr (az (au 1) (az (au 2) (az (au 6) aF)))) (au 3) (dH _)) (bB (cA Cq)) at') (bB (fP (dU (vQ hr.units) vP (cl G_qG hr (az (au 1) (az (au 1) (az (au 6) aF)))) (au 6) (dH _)) (bB (cA Cq)) at')))))) (bB (cA Cq)))))
end
end K39
namespace K39
open PySem PySem.Spec PyProof.Rows L2 DL Mine Bk Lean.Grind
local macro_rules
 | `(‹"N"›) => `(aA (aB 8 (ao (ak (ao (ak (aj 4) (ak (aj 2) (ak (ao ‹"H"› gC) ‹""›))) j5) ‹""›) kj)) (aJ (ao (ak (aj 0) (ak (ao (ak (ao (ak (aj 7) ‹"w"›) gA) (ak (aj 8) ‹""›)) gC) ‹""›)) lN)))
 | `(‹"O"›) => `(aB 4 (ao (ak (aj 1) (ak (ao ‹"c"› jx) ‹""›)) kE))
 | `(‹"P"›) => `(aL (two (ao ‹"F"› rm) (aj 3) jC) aK)
 | `(‹"Q"›) => `(aL (two (ao ‹"G"› gH) (aj 6) jC) aK)
abbrev rc:DS->Res Bool:=(aL (two (two (aj 1) (aj 1) b_) (aj 0) (dZ fun i j=>decide (j < i))) aK)
abbrev rb:DS->Out:=(aB 1 (two (two (aj 1) ‹"L"› aN) ‹2› aO))
theorem nG {x n m:Nat} (h:x < 2 ^ n) (e:n<=m):x < 2 ^ m:=Nat.lt_of_lt_of_le h (kO e)
theorem RM (n g:Int) (hg:g.natAbs < 2 ^ 7900):rc [some (.arg (.int n)),some (.val (.int g))]=.ok (decide (n < g * g)):=by
 have:=gF (nG hg (show 7900<=200000 by decide)) (nG hg (show 7900<=200000 by decide));push_cast [this]
theorem RN (n g:Int) (hg:g.natAbs < 2 ^ 7900) (h:g≠0):rb [some (.arg (.int n)),some (.val (.int g))]=.nxt [some (.arg (.int n)),some (.val (.int (Int.fdiv (g + Int.fdiv n g) 2)))]:=by
 have d1:=n8 (a:=n) h (nG hg (show 7900<=8000 by decide));have d2:=n8 (a:=g + Int.fdiv n g) (show (2:Int)≠0 by decide) (nG (show Int.natAbs 2 < 2 ^ 2 by decide) (show 2<=8000 by decide));push_cast [d1,d2]
theorem Jy {n:Int} (hn:0<=n):∀(m:Nat) (g:Int),0<=g->bN n<=g->g.natAbs < 2 ^ 7900->g.toNat < m ->
  bf rc rb m [some (.arg (.int n)),some (.val (.int g))]=.nxt [some (.arg (.int n)),some (.val (.int (bN n)))]
 | 0,_,_,_,_,h=>absurd h (Nat.not_lt_zero _)
 | m + 1,g,g0,hg,hl,h=>by
  have t:=RM n g hl
  by_cases c:n < g * g
  ·obtain ⟨a1,a2,a3,a4⟩:=Qe hn hg c g0;rw [_root_.decide_eq_true c] at t;refine Eq.trans (RC t (RN n g hl (by omega))) ?_;exact Jy hn m _ a2 a1 (by omega) (by omega)
  ·rw [_root_.decide_eq_false c] at t;rw [RD t,Qf hn hg c g0]
theorem kN' {n:Int} (hn:0<=n) (hl:aD n<=15000):tK [.int n]=.ok (.int (bN n)):=by
 show outD (pH [some (.arg (.int n)),none])=_;unfold pH;have hb:n.natAbs < 2 ^ aD n:=natAbs_lt_pow_bits n;have hnn:¬n < 0:=by omega
 have e2:Int.fdiv ((aD n:Nat) + 1:Int) 2=(((aD n + 1) / 2:Nat):Int):=by rw [xF]; omega
 have d2:=n8 (a:=(aD n:Nat) + 1) (show (2:Int)≠0 by decide) (nG (show Int.natAbs 2 < 2 ^ 2 by decide) (show 2<=8000 by decide));rw [e2] at d2;have sh:iD (.int 1) (.int (((aD n + 1) / 2:Nat):Int))=.ok (.int (2 ^ ((aD n + 1) / 2))):=by
  simp only [iD];rw [if_pos ⟨by omega,by omega,by decide⟩,Int.toNat_natCast,Int.one_mul]
 have p0:(0:Int) < 2 ^ ((aD n + 1) / 2):=Int.pow_pos (by decide);have pc:(((2 ^ ((aD n + 1) / 2):Nat)):Int)=2 ^ ((aD n + 1) / 2):=by simp
 have big:bN n<=2 ^ ((aD n + 1) / 2):=by
  have r:=(xx hn).1;refine HW (Int.le_of_lt p0) ?_;have a1:(2 ^ aD n:Nat)<=2 ^ ((aD n + 1) / 2) * 2 ^ ((aD n + 1) / 2):=by
   rw [<- Nat.pow_add]; exact Nat.pow_le_pow_right (by decide) (by omega)
  have a2:(((2 ^ ((aD n + 1) / 2) * 2 ^ ((aD n + 1) / 2):Nat)):Int)=2 ^ ((aD n + 1) / 2) * 2 ^ ((aD n + 1) / 2):=by simp
  have a3:((2:Int) ^ ((aD n + 1) / 2) + 1) * (2 ^ ((aD n + 1) / 2) + 1)=2 ^ ((aD n + 1) / 2) * 2 ^ ((aD n + 1) / 2) + 2 * 2 ^ ((aD n + 1) / 2) + 1:=by
   rw [Int.add_mul,Int.mul_add]; omega
  rw [a3];omega
 have lt:((2:Int) ^ ((aD n + 1) / 2)).natAbs < 2 ^ 7900:=by
  rw [<- pc,Int.natAbs_natCast];exact Nat.pow_lt_pow_right (by decide) (by omega)
 generalize (2:Int) ^ ((aD n + 1) / 2)=g at *;obtain ⟨fl,fu,fg⟩:∃k,eY [some (.arg (.int n)),some (.val (.int g))]=k/\g.toNat < k:=⟨g.natAbs + 1,rfl,by omega⟩;have lp:=Jy hn fl g (Int.le_of_lt p0) big lt fg;have wh:∀f:DS->Out,(g8 eY rc rb [some (.arg (.int n)),some (.val (.int g))]).seq f=f [some (.arg (.int n)),some (.val (.int (bN n)))]:=fun f=>by
  rw [Qj,fu,lp,sq_nxt]
 have bg:gY (.int n) []=.ok (.int (aD n)):=rfl;push_cast [hnn,bg,d2,sh,wh]
section
variable {F:OF}
theorem El {p q a b ρ:F.C} (h1:p * p + q * q * ρ=a) (h2:p * q + q * p=b) (hb:b=0):(q=0/\a=p * p)\/(p=0/\a=q * q * ρ):=by
 have h:p * q=0:=by grind
 rcases Classical.em (q=0) with c | c
 ·left; exact ⟨c,by rw [c] at h1; grind⟩
 ·right
  have:p=0:=by grind
  exact ⟨this,by rw [this] at h1; grind⟩
theorem Jz {q ρ s:F.C} (hn:∀z:F.C,z * z≠ρ) (q0:q≠0):s * s≠q * q * ρ:=fun e=>hn (s / q) (by grind)
theorem zW {p q a b ρ:F.C} (h1:p * p + q * q * ρ=a) (h2:p * q + q * p=b):a * a - b * b * ρ=(p * p - q * q * ρ) * (p * p - q * q * ρ):=by grind
theorem Em {p q a ρ:F.C} (h1:p * p + q * q * ρ=a):a + (p * p - q * q * ρ)=2 * (p * p):=by grind
theorem JB {p q a ρ:F.C} (h1:p * p + q * q * ρ=a):a - (p * p - q * q * ρ)=2 * (q * q * ρ):=by grind
theorem En {x y:F.C} (h:x=2 * y):x / 2=y:=by grind
theorem JC {a b n u ρ:F.C} (hn:a * a - b * b * ρ=n * n) (hu:u * u=(a + n) / 2) (u0:u≠0):u * u + b / (u + u) * (b / (u + u)) * ρ=a/\u * (b / (u + u)) + b / (u + u) * u=b:=by
 have e:4 * (u * u) * ((a - n) / 2)=b * b * ρ:=by grind
 have e2:b / (u + u) * (b / (u + u)) * ρ=(a - n) / 2:=by grind
 constructor <;> grind
theorem JD {a b n u ρ:F.C} (hn:a * a - b * b * ρ=n * n) (hu:u * u=(a + n) / 2) (b0:b≠0) (r0:0 < ρ):u≠0:=fun z=>by
 rw [z] at hu;have h:a + n=0:=by grind
 have e:b * b * ρ=0:=by grind
 have:b * b≠0:=by grind
 grind
theorem fs_abs {z:F.C}:fabs z * fabs z=z * z:=by unfold fabs; split <;> grind
theorem Bs (z:F.C):0<=fabs z:=by unfold fabs; split <;> grind
end
section
variable {rs:List (List Int)} {F:OF} {of:List Int->F.C}
theorem JF (T:Tow rs F of) {r:List Int} {hr:0 < of r} {hn:∀z:F.C,z * z≠of r} (hl:r.length=2 ^ rs.length) {α β:Nat} {d e:D} {p q:F.C} (h1:Nm of rs.length α d p) (h2:Nm of rs.length β e q) {z:(aH F (of r) hr hn).C} (za:Ext.a (r:=of r) z=p) (zb:Ext.b (r:=of r) z=q) :
  ∃w,Nm (aR of r hr hn) (rs.length + 1) (α + β) w z:=by
 obtain ⟨x,b,rfl,nx,lx,bx,bb,ex⟩:=h1;obtain ⟨y,c,rfl,ny,ly,b_y,bc,ey⟩:=h2;have T':=Tow.cons T r hl hr hn;have pb:=nx.pos;have pc:=ny.pos;have b0:=as' T (show b≠0 by omega);have c0:=as' T (show c≠0 by omega);have ll:(x.map (c * ·)).length=(y.map (b * ·)).length:=by rw [length_map,length_map,lx,ly]
 have L:(x.map (c * ·) ++ y.map (b * ·)).length=2 ^ (r :: rs).length:=by
  rw [length_append,length_map,length_map,lx,ly,length_cons,Nat.pow_succ]; omega
 have B:Bd (α + β) (x.map (c * ·) ++ y.map (b * ·)):=by
  refine Bd.app (fun s hs=>?_) fun s hs=>?_
  ·obtain ⟨t,ht,rfl⟩:=mem_map.mp hs;rw [Nat.add_comm]; exact gR bc (bx t ht)
  ·obtain ⟨t,ht,rfl⟩:=mem_map.mp hs;exact gR bb (b_y t ht)
 have cb:c * b≠0:=by have:=Int.mul_pos pc pb; omega
 obtain ⟨K,w,g,_,_,_,_,_,_,hN⟩:=ca' T' (n:=α + β) L cb B (by rw [Nat.add_comm]; exact gR bc bb);refine ⟨num w g,?_⟩;have ev:aR of r hr hn (x.map (c * ·) ++ y.map (b * ·)) / ((c * b:Int):(aH F (of r) hr hn).C)=z:=by
  have cb':=as' T cb;refine (Bm cb' ?_ ?_).symm
  ·rw [za,rQ ll,jK T c lx,ex,Ring.intCast_mul]; grind
  ·rw [zb,rR ll,jK T b ly,ey,Ring.intCast_mul]; grind
 rw [ev] at hN;exact hN
theorem JG (T:Tow rs F of):∀z:F.C,∃n d,Nm of rs.length n d z:=by
 induction T with
 | nil =>
  intro z;have z':Rat:=z;refine ⟨(Rat.num z).natAbs + (Rat.den z) + 1,num [Rat.num z] (Rat.den z),[Rat.num z],(Rat.den z:Int),rfl,⟨by have:=Rat.den_pos z; omega,?_⟩,rfl,fun t ht=>?_,?_,?_⟩
  ·show gN ((Rat.den z:Int)).natAbs [Rat.num z]=1;have:=Rat.reduced z;unfold gN;simp only [foldl_cons,foldl_nil];rw [Int.natAbs_natCast,Nat.gcd_comm]; exact this
  ·rw [mem_singleton.mp ht];have:=Nat.lt_two_pow_self (n:=(Rat.num z).natAbs + (Rat.den z) + 1);omega
  ·have:=Nat.lt_two_pow_self (n:=(Rat.num z).natAbs + (Rat.den z) + 1);rw [Int.natAbs_natCast]; omega
  ·show z=((Rat.num z:Int):Rat) / ((Rat.den z:Int):Rat);have:=Rat.num_divInt_den z;rw [Rat.divInt_eq_div] at this;exact this.symm
 | @cons rs F of T r hl hr hn ih =>
  intro z;obtain ⟨n,d,h1⟩:=ih (Ext.a (r:=of r) z);obtain ⟨m,e,h2⟩:=ih (Ext.b (r:=of r) z);obtain ⟨w,hw⟩:=JF T (hr:=hr) (hn:=hn) hl h1 h2 (z:=z) rfl rfl;exact ⟨_,w,hw⟩
end
noncomputable def Qb:Nat->Nat->Nat
 | 0,P=>P / 2 + 1
 | k + 1,P=>Qb k (P + Qb k (2 * P + eT 10 (k + 1)) + 3) + Qb k (P + Qb k (2 * P + eT 10 (k + 1)) + 3 + oB 10 k 11 + eT 10 k)
noncomputable def QO:Nat->Nat->Prop
 | 0,_=>True
 | k + 1,P=>2 * P + eT 10 (k + 1)<=8000/\QO k (2 * P + eT 10 (k + 1))/\QO k (P + Qb k (2 * P + eT 10 (k + 1)) + 3)/\QO k (P + Qb k (2 * P + eT 10 (k + 1)) + 3 + oB 10 k 11 + eT 10 k)/\P + Qb k (2 * P + eT 10 (k + 1)) + 3 + oB 10 k 11 + eT 10 k<=8000
theorem Eo {s P:Nat} (h:s * s < 2 ^ P):s < 2 ^ (P / 2 + 1):=by
 rcases Nat.lt_or_ge s (2 ^ (P / 2 + 1)) with c | c
 ·exact c
 ·exfalso;have a:=Nat.mul_le_mul c c;rw [<- Nat.pow_add] at a;have b:2 ^ P<=2 ^ (P / 2 + 1 + (P / 2 + 1)):=Nat.pow_le_pow_right (by decide) (by omega);omega
section
variable {rs:List (List Int)} {F:OF} {of:List Int->F.C}
theorem Bt (T:Tow rs F of) (h3:rs.length<=3) {P:Nat} {d:D} {u:F.C} (h:Nm of rs.length P d u) (hP:P + 1<=8000):∃e,qU [d]=.ok e/\Nm of rs.length (P + 1) e (u / 2):=by
 obtain ⟨x,b,rfl,nx,lx,bx,bb,ex⟩:=h;have pb:=nx.pos;have b2:(2 * b).natAbs < 2 ^ (P + 1):=by rw [Nat.pow_succ]; omega
 obtain ⟨e,ee,he⟩:=Jg T h3 (n:=P) (m:=P + 1) lx (show 2 * b≠0 by omega) bx b2 hP;have mu:di (.int 2) (.int b)=.ok (.int (2 * b)):=by
  unfold di;exact if_pos (.inr (.inl (intBits_le (show Int.natAbs 2 < 2 ^ 64 by decide))))
 refine ⟨e,?_,?_⟩
 ·show outD (qT [some (.arg (num x b))])=_;unfold qT;push_cast [mu,ee]
 ·have b0:=as' T (show b≠0 by omega);have ev:of x / ((2 * b:Int):F.C)=u / 2:=by
   rw [ex,Ring.intCast_mul];have:((2:Int):F.C)=2:=by rw [show (2:Int)=1 + 1 from rfl,Ring.intCast_add,Ring.intCast_one]; grind
   rw [this]; grind
  rw [ev] at he;exact he.mono (by omega)
theorem Ep (T:Tow rs F of):(2:F.C)≠0:=by
 have:=as' T (k:=2) (by decide);rw [show (2:Int)=1 + 1 from rfl,Ring.intCast_add,Ring.intCast_one] at this
 grind
theorem Er {a N q ρ:F.C} (t0:(2:F.C)≠0) (r0:0 < ρ) (h:a - N=2 * (q * q * ρ)):q * q=(a - N) / 2 / ρ:=by
 have:ρ≠0:=by grind
 grind
theorem Es {a N p:F.C} (t0:(2:F.C)≠0) (h:a + N=2 * (p * p)):p * p=(a + N) / 2:=by grind
theorem qb (T:Tow rs F of):∀{P:Nat} {d:D} {v z:F.C},rs.length<=3->(∀r∈rs,Bd 10 r)->Nm of rs.length P d v->z * z=v->QO rs.length P->∃e,Nm of rs.length (Qb rs.length P) e z:=by
 induction T with
 | nil =>
  intro P d v z _ _ hd hz _;have T:=Tow.nil;obtain ⟨n,e,he⟩:=JG T z;obtain ⟨x,w,rfl,nx,lx,bx,bw,ex⟩:=he
  match x,lx with
  | [s],_ =>
   have pw:=nx.pos;have cop:Nat.gcd w.natAbs s.natAbs=1:=by
    have:=nx.one;unfold gN at this;simpa using this
   have nf2:Nf [s * s] (w * w):=by
    refine ⟨Int.mul_pos pw pw,?_⟩;unfold gN;simp only [foldl_cons,foldl_nil];rw [Int.natAbs_mul,Int.natAbs_mul];have c1:Nat.Coprime w.natAbs s.natAbs:=cop;exact Nat.Coprime.mul_left (Nat.Coprime.mul_right c1 c1) (Nat.Coprime.mul_right c1 c1)
   have h2:Nm (fun x:List Int=>((x.headD 0:Int):ratOF.C)) ([]:List (List Int)).length (n + n) (num [s * s] (w * w)) v:=by
    refine ⟨_,_,rfl,nf2,rfl,fun t ht=>?_,gR bw bw,?_⟩
    ·rw [mem_singleton.mp ht]; exact gR (bx s (by simp)) (bx s (by simp))
    ·have w0:=as' T (show w≠0 by omega);rw [<- hz,ex];show ((s:Int):ratOF.C) / (w:ratOF.C) * (((s:Int):ratOF.C) / (w:ratOF.C))=(((s * s:Int)):ratOF.C) / ((w * w:Int):ratOF.C);rw [Ring.intCast_mul,Ring.intCast_mul]; grind
   have eq:=jL T h2 hd;obtain ⟨y,c,ed,ny,ly,b_y,bc,_⟩:=hd;rw [ed] at eq;simp only [num,D.tup.injEq,map_cons,map_nil,List.cons.injEq,D.int.injEq,and_true] at eq;obtain ⟨q1,q2⟩:=eq;have sP:(s * s).natAbs < 2 ^ P:=by
    match y,ly,q1,b_y with
    | [t],_,q1,b_y =>
     simp at q1;rw [q1]; exact b_y t (by simp)
   have wP:(w * w).natAbs < 2 ^ P:=by rw [q2]; exact bc
   rw [Int.natAbs_mul] at sP wP;refine ⟨num [s] w,[s],w,rfl,nx,rfl,fun t ht=>?_,Eo wP,ex⟩;rw [mem_singleton.mp ht]; exact Eo sP
 | @cons rs F of T r hl hr hn ih =>
  intro P d v z h3 hrs hd hz hQ;have h3':rs.length < 3:=by rw [length_cons] at h3; omega
  obtain ⟨o1,o2,o3,o4,o5⟩:=(show 2 * P + eT 10 (rs.length + 1)<=8000/\QO rs.length (2 * P + eT 10 (rs.length + 1))/\QO rs.length (P + Qb rs.length (2 * P + eT 10 (rs.length + 1)) + 3)/\QO rs.length (P + Qb rs.length (2 * P + eT 10 (rs.length + 1)) + 3 + oB 10 rs.length 11 + eT 10 rs.length)/\P + Qb rs.length (2 * P + eT 10 (rs.length + 1)) + 3 + oB 10 rs.length 11 + eT 10 rs.length<=8000 from hQ)
  have hr1:=hrs r (by simp);have hrs':∀s∈rs,Bd 10 s:=fun s hs=>hrs s (mem_cons_of_mem _ hs);have t0:=Ep T;obtain ⟨da,db,_,ha,hb⟩:=pL T h3' hd (by omega);obtain ⟨dn,_,hN⟩:=tO T h3' hl hr1 hrs' hd o1;have e1:Ext.a (r:=of r) z * Ext.a (r:=of r) z + Ext.b (r:=of r) z * Ext.b (r:=of r) z * of r=Ext.a (r:=of r) v:=by rw [<- hz]; rfl
  have e2:Ext.a (r:=of r) z * Ext.b (r:=of r) z + Ext.b (r:=of r) z * Ext.a (r:=of r) z=Ext.b (r:=of r) v:=by rw [<- hz]; rfl
  have en:Ext.nrm (r:=of r) v=(Ext.a (r:=of r) z * Ext.a (r:=of r) z - Ext.b (r:=of r) z * Ext.b (r:=of r) z * of r) * (Ext.a (r:=of r) z * Ext.a (r:=of r) z - Ext.b (r:=of r) z * Ext.b (r:=of r) z * of r):=zW e1 e2;obtain ⟨dN,hn1⟩:=ih (by omega) hrs' hN en.symm o2;obtain ⟨dp,_,hp⟩:=nq T (by omega) ha hn1 (by omega);obtain ⟨dp2,_,hp2⟩:=Bt T (by omega) hp (by omega);obtain ⟨dm,_,hm⟩:=xV T (by omega) ha hn1 (by omega);obtain ⟨dm2,_,hm2⟩:=Bt T (by omega) hm (by omega);have nr:Nm of rs.length 11 (num r 1) (of r):=⟨r,1,rfl,Ba _,hl,hr1.mono (by decide),by decide,by rw [Ring.intCast_one]; grind⟩;obtain ⟨dq,_,hq⟩:=tQ T (by omega) hrs' (hm2.mono (show P + Qb rs.length (2 * P + eT 10 (rs.length + 1)) + 1 + 1<=P + Qb rs.length (2 * P + eT 10 (rs.length + 1)) + 3 by omega)) nr (by grind) o5;obtain ⟨ep,hep⟩:=ih (by omega) hrs' (hp2.mono (show P + Qb rs.length (2 * P + eT 10 (rs.length + 1)) + 1 + 1<=P + Qb rs.length (2 * P + eT 10 (rs.length + 1)) + 3 by omega)) (Es t0 (Em e1)) o3;obtain ⟨eq,heq⟩:=ih (by omega) hrs' hq (Er t0 hr (JB e1)) o4;exact JF T hl hep heq rfl rfl
end
theorem JH {F:OF} {a b:F.C} (h:0 < a) (g:0<=b):0<=a * b:=by
 have q:b=0\/0 < b:=by grind
 rcases q with q | q
 ·rw [q]; grind
 ·have:=cO h q; grind
theorem RP {F:OF} {s w z:F.C} (h:0 < w) (e:z=s / w) (g:0<=z):0<=s:=by
 have a:=JH h g;have b:w * z=s:=by rw [e]; grind
 rw [b] at a; exact a
theorem RQ {m:Int} (h:0<=m):bN (m * m)=m:=by
 obtain ⟨a,b⟩:=xx (Int.mul_nonneg h h);have c:=bs' (m * m);generalize bN (m * m)=r at *;rcases Int.lt_trichotomy r m with q | q | q
 ·exfalso;have:=Int.mul_le_mul (show r + 1<=m by omega) (show r + 1<=m by omega) (by omega) h;omega
 ·exact q
 ·exfalso;have:=Int.mul_lt_mul_of_pos_left q (show 0 < r by omega);have:=Int.mul_le_mul_of_nonneg_right (Int.le_of_lt q) h;omega
theorem JK {P q:Nat} {t c:Int} {e:D} {v z:ratOF.C} (hd:Nm (fun x:List Int=>((x.headD 0:Int):ratOF.C)) 0 P (num [t] c) v) (he:Nm (fun x:List Int=>((x.headD 0:Int):ratOF.C)) 0 q e z) (hz:z * z=v) :
  ∃s w:Int,e=num [s] w/\0 < w/\t=s * s/\c=w * w/\z=(s:ratOF.C) / (w:ratOF.C):=by
 have T:=Tow.nil;obtain ⟨x,w,rfl,nx,lx,bx,bw,ex⟩:=he
 match x,lx with
 | [s],_ =>
  have pw:=nx.pos;have cop:Nat.Coprime w.natAbs s.natAbs:=by
   have:=nx.one;unfold gN at this;simpa using this
  have nf2:Nf [s * s] (w * w):=by
   refine ⟨Int.mul_pos pw pw,?_⟩;unfold gN;simp only [foldl_cons,foldl_nil];rw [Int.natAbs_mul,Int.natAbs_mul];exact Nat.Coprime.mul_left (Nat.Coprime.mul_right cop cop) (Nat.Coprime.mul_right cop cop)
  have h2:Nm (fun x:List Int=>((x.headD 0:Int):ratOF.C)) ([]:List (List Int)).length (q + q) (num [s * s] (w * w)) v:=by
   refine ⟨_,_,rfl,nf2,rfl,fun t ht=>?_,gR bw bw,?_⟩
   ·rw [mem_singleton.mp ht]; exact gR (bx s (by simp)) (bx s (by simp))
   ·have w0:=as' T (show w≠0 by omega);rw [<- hz,ex];show ((s:Int):ratOF.C) / (w:ratOF.C) * (((s:Int):ratOF.C) / (w:ratOF.C))=(((s * s:Int)):ratOF.C) / ((w * w:Int):ratOF.C);rw [Ring.intCast_mul,Ring.intCast_mul]; grind
  have eq:=jL T h2 hd;simp only [num,D.tup.injEq,map_cons,map_nil,List.cons.injEq,D.int.injEq,and_true] at eq;exact ⟨s,w,rfl,pw,eq.1.symm,eq.2.symm,ex⟩
theorem RV {P q:Nat} {d e:D} {v z:ratOF.C} (hd:Nm (fun x:List Int=>((x.headD 0:Int):ratOF.C)) 0 P d v) (he:Nm (fun x:List Int=>((x.headD 0:Int):ratOF.C)) 0 q e z) (hz:z * z=v) (z0:0<=z) (hP:P<=7000):lU [d]=.ok e:=by
 have T:=Tow.nil;have hd':=hd;obtain ⟨x,c,rfl,nx,lx,bx,bc,ex⟩:=hd'
 match x,lx with
 | [t],_ =>
  obtain ⟨s,w,ee,w0,et,ec,ez⟩:=JK hd he hz;have c0:=nx.pos;have s0:0<=s:=by
   have wp:=jX T w0;have h1:(0:ratOF.C)<=(s:ratOF.C):=RP wp ez z0;rw [<- Ring.intCast_zero] at h1;exact le_int T h1
  have bt:t.natAbs < 2 ^ P:=bx t (by simp);have mu:=gF (a:=t) (b:=c) (nG bt (by omega)) (nG bc (by omega));have etc:t * c=s * w * (s * w):=by rw [et,ec]; grind
  have sw0:0<=s * w:=Int.mul_nonneg s0 (Int.le_of_lt w0);have rt:=kN' (n:=t * c) (by rw [etc]; exact Int.mul_nonneg sw0 sw0) (Nat.le_trans (intBits_le (gR bt bc)) (by omega));rw [etc,RQ sw0,<- etc] at rt;have swb:(s * w).natAbs < 2 ^ (P + P):=by
   have h:=gR bt bc;rw [etc,Int.natAbs_mul] at h;exact Nat.lt_of_le_of_lt (Nat.le_mul_self _) h
  have mu2:=gF (a:=s * w) (b:=s * w) (nG swb (by omega)) (nG swb (by omega));rw [<- etc] at mu2;obtain ⟨e',ee',he'⟩:=Jg T (by decide) (ts:=[s * w]) (b:=c) (n:=P + P) (m:=P) rfl (by omega) (fun y hy=>by rw [mem_singleton.mp hy]; exact swb) bc (by omega);have ev:(((s * w:Int)):ratOF.C) / (c:ratOF.C)=z:=by
   have w1:=as' T (show w≠0 by omega);rw [ez,ec,Ring.intCast_mul,Ring.intCast_mul]; grind
  have:e'=e:=jL T (v:=z) (ev ▸ he') he;subst this;have ee2:fV [.tup [.int (s * w)],.int c]=_:=ee';have nn:¬(t * c < 0):=by rw [etc]; have:=Int.mul_nonneg sw0 sw0; omega
  have rM:bJ (TI [t]) (.int 0)=.ok (.int t):=ix_tup0 _ _;show outD (lR [some (.arg (num [t] c)),none,none])=_;unfold lR;push_cast [rM,mu,nn,rt,mu2,ee2]
theorem RW {P:Nat} {d:D} {v:ratOF.C} (hd:Nm (fun x:List Int=>((x.headD 0:Int):ratOF.C)) 0 P d v) (hz:∀z:ratOF.C,z * z≠v) (hP:P<=7000):lU [d]=.ok .non:=by
 have T:=Tow.nil;obtain ⟨x,c,rfl,nx,lx,bx,bc,ex⟩:=hd
 match x,lx with
 | [t],_ =>
  have c0:=nx.pos;have bt:t.natAbs < 2 ^ P:=bx t (by simp);have mu:=gF (a:=t) (b:=c) (nG bt (by omega)) (nG bc (by omega));have rM:bJ (TI [t]) (.int 0)=.ok (.int t):=ix_tup0 _ _;show outD (lR [some (.arg (num [t] c)),none,none])=_;unfold lR
  by_cases nn:t * c < 0
  ·push_cast [rM,mu,nn]
  ·have rt:=kN' (n:=t * c) (by omega) (Nat.le_trans (intBits_le (gR bt bc)) (by omega));have wb:(bN (t * c)).natAbs < 2 ^ (P + P):=by
    have h:=gR bt bc;have a:=(xx (show 0<=t * c by omega)).1;have b:=bs' (t * c);have k:(bN (t * c)).natAbs * (bN (t * c)).natAbs<=(t * c).natAbs:=by rw [<- Int.natAbs_mul]; have:=Int.mul_nonneg b b; omega
    exact Nat.lt_of_le_of_lt (Nat.le_trans (Nat.le_mul_self _) k) h
   have mu2:=gF (a:=bN (t * c)) (b:=bN (t * c)) (nG wb (by omega)) (nG wb (by omega));have ne:¬(bN (t * c) * bN (t * c)=t * c):=fun q=>by
    refine hz ((bN (t * c):ratOF.C) / (c:ratOF.C)) ?_;have c1:=as' T (show c≠0 by omega);have q':=congrArg (fun i:Int=>(i:ratOF.C)) q;simp only [Ring.intCast_mul] at q';rw [ex];show _=((t:Int):ratOF.C) / (c:ratOF.C)
    grind
   push_cast [rM,mu,nn,rt,mu2,ne]
theorem JL {t:du} {b:DS->Out} {d:D} {ds:List D} {δ δ1:DS} {x:D} (h1:t d δ=some δ1) (h2:b δ1=.ret x):cI t b (d :: ds) δ=.ret x:=by
 rw [cI,h1];dsimp only;rw [h2]
theorem Et:cM .non .non=.ok (.bl false):=rfl
theorem Eu:cH .non .non=.ok (.bl true):=rfl
section
variable {R:List D->Res D} {G G0 rD da db dn dar e2 o:D} {k:Int}
theorem JM {e1:D} (cl:cutD G none (some (-1))=.ok G0) (bw:lW [G,da]=.ok (.lst [da,dar])) (r1:R [G0,da]=.ok e1) (n1:cM e1 .non=.ok (.bl true)) (ln:cF [G]=.ok (.int k)) (lf:gA [e1,.int k]=.ok e2):bF 2 5 (eV R) [G,da]=.ok e2:=by
 show outD (eV R [some (.arg G),some (.arg da),none,none,none])=_;unfold eV;push_cast [cl,bw,r1,n1,ln,lf]
theorem RX {w:D} (cl:cutD G none (some (-1))=.ok G0) (bw:lW [G,da]=.ok (.lst [da,dar])) (r1:R [G0,da]=.ok .non) (r2:R [G0,dar]=.ok w) (n1:cH w .non=.ok (.bl false)) (ix:bJ G (.int (-1))=.ok rD) (ov:j5 [G0,w,.tup [rD,.int 1]]=.ok o) (tl:kj [o]=.ok e2):bF 2 5 (eV R) [G,da]=.ok e2:=by
 show outD (eV R [some (.arg G),some (.arg da),none,none,none])=_;unfold eV;push_cast [cl,bw,r1,Et,r2,n1,ix,ov,tl]
theorem kq' (cl:cutD G none (some (-1))=.ok G0) (bw:lW [G,da]=.ok (.lst [da,dar])) (r1:R [G0,da]=.ok .non) (r2:R [G0,dar]=.ok .non):bF 2 5 (eV R) [G,da]=.ok .non:=by
 show outD (eV R [some (.arg G),some (.arg da),none,none,none])=_;unfold eV;push_cast [cl,bw,r1,Et,r2,Eu]
theorem RZ (cl:cutD G none (some (-1))=.ok G0) (r0:R [G0,dn]=.ok .non):bF 4 9 (gb R) [G,da,db,dn]=.ok .non:=by
 show outD (gb R [some (.arg G),some (.arg da),some (.arg db),some (.arg dn),none,none,none,none,none])=_;unfold gb;push_cast [cl,r0,Eu]
theorem JN {m u uu bh lu s e nd:D} {z6 z7 z8:Option SV} (r1:R [G0,m]=.ok u) (n1:cM u .non=.ok (.bl true)) (pl:gC [u,u]=.ok uu) (ov:j5 [G0,db,uu]=.ok o) (tl:kj [o]=.ok bh) (ln:cF [G]=.ok (.int k)) (lf:gA [u,.int k]=.ok lu) (p2:gC [lu,bh]=.ok s) (sz:lN [G,s]=.ok e) :
  (aA (aB 7 (ao (ak (aj 4) ‹"p"›) R)) (cP ‹"y"› ‹"N"› Out.nxt)) [some (.val G),some (.val da),some (.val db),some (.val dn),some (.val G0),some (.val nd),some (.val m),z7,z8]=.ret e:=by
 push_cast [r1,n1,pl,ov,tl,ln,lf,p2,sz]
theorem Ew {m nd:D} {z7 z8:Option SV} (r1:R [G0,m]=.ok .non) :
  (aA (aB 7 (ao (ak (aj 4) ‹"p"›) R)) (cP ‹"y"› ‹"N"› Out.nxt)) [some (.val G),some (.val da),some (.val db),some (.val dn),some (.val G0),some (.val nd),some (.val m),z7,z8]=.nxt [some (.val G),some (.val da),some (.val db),some (.val dn),some (.val G0),some (.val nd),some (.val m),some (.val .non),z8]:=by
 push_cast [r1,Et]
theorem Ex {nd m1 m2:D} {x:List Int} {b:Int} {out:Out} (hnd:nd=num x b) (cl:cutD G none (some (-1))=.ok G0) (r0:R [G0,dn]=.ok nd) (md:qX [da,nd]=.ok (.lst [m1,m2]))
  (lp:cI (bC 6) (aA (aB 7 (ao (ak (aj 4) ‹"p"›) R)) (cP ‹"y"› ‹"N"› Out.nxt)) [m1,m2] [some (.val G),some (.val da),some (.val db),some (.val dn),some (.val G0),some (.val nd),none,none,none]=out) (ho:(∃e,out=.ret e)\/∃δ,out=.nxt δ) :
  bF 4 9 (gb R) [G,da,db,dn]=.ok (match out with | .ret e=>e | _=>.non):=by
 have n1:cH nd .non=.ok (.bl false):=by rw [hnd]; rfl
 have th:thaw [some (SV.arg G),some (.arg da),some (.arg db),some (.arg dn),some (.val G0),some (.val nd),none,none,none]=[some (.val G),some (.val da),some (.val db),some (.val dn),some (.val G0),some (.val nd),none,none,none]:=rfl;have tn:∀δ,fZ (Out.nxt δ)=.nxt (δ.map (Option.map thaw2)):=fun _=>rfl;have tr:∀d,fZ (Out.ret d)=.ret d:=fun _=>rfl;show outD (gb R [some (.arg G),some (.arg da),some (.arg db),some (.arg dn),none,none,none,none,none])=_;unfold gb;rcases ho with ⟨e,rfl⟩ | ⟨δ,rfl⟩
 ·push_cast [cl,r0,n1,md,th,lp,tr]
 ·push_cast [cl,r0,n1,md,th,lp,tn]
theorem JP {d:D} {R:List D->Res D}:bF 2 3 (gG R) [RT [],d]=lU [d]:=by
 show outD (gG R [some (.arg (RT [])),some (.arg d),none])=_;unfold gG;have ln:cF [RT []]=.ok (.int 0):=rfl;generalize RT []=G at *
 cases q:lU [d] with
 | ok a=>push_cast [ln,q]
 | err x=>push_cast [ln,q]
 | stuck =>
  push_cast [ln,q];rfl
theorem Bu {d:D} {l:Nat} (ln:cF [G]=.ok (.int ((l + 1:Nat):Int))) (ha:jY [d]=.ok (.tup [da,db])) (nb:ju [db]=.ok (.bl true)) {e:D} (fr:bF 2 5 (eV R) [G,da]=.ok e):bF 2 3 (gG R) [G,d]=.ok e:=by
 have hz:¬(((l + 1:Nat):Int)=0):=by omega
 show outD (gG R [some (.arg G),some (.arg d),none])=_;unfold gG;push_cast [ln,hz,ha,nb,fr]
theorem Bv {d:D} {l:Nat} (ln:cF [G]=.ok (.int ((l + 1:Nat):Int))) (ha:jY [d]=.ok (.tup [da,db])) (nb:ju [db]=.ok (.bl false)) (no:m8 [G,d]=.ok dn) {e:D} (fr:bF 4 9 (gb R) [G,da,db,dn]=.ok e):bF 2 3 (gG R) [G,d]=.ok e:=by
 have hz:¬(((l + 1:Nat):Int)=0):=by omega
 show outD (gG R [some (.arg G),some (.arg d),none])=_;unfold gG;push_cast [ln,hz,ha,nb,no,fr]
end
section
variable {rs:List (List Int)} {F:OF} {of:List Int->F.C}
theorem t8 (T:Tow rs F of) (h3:rs.length < 3) {r:List Int} {hr:0 < of r} {hn:∀z:F.C,z * z≠of r} {P:Nat} {d:D} {q:F.C} (h:Nm of rs.length P d q) {z:(aH F (of r) hr hn).C} (za:Ext.a (r:=of r) z=0) (zb:Ext.b (r:=of r) z=q) :
  ∃e,kj [d]=.ok e/\Nm (aR of r hr hn) (rs.length + 1) P e z:=by
 obtain ⟨x,b,rfl,nx,lx,bx,bb,ex⟩:=h;have pb:=nx.pos;have b0:=as' T (show b≠0 by omega);have e8:=bm' (k:=rs.length) (by omega);have ll:(List.replicate (2 ^ rs.length) (0:Int)).length=x.length:=by simpa using lx.symm
 refine ⟨num (List.replicate (2 ^ rs.length) 0 ++ x) b,?_,_,_,rfl,⟨pb,?_⟩,?_,Bd.app (fun t ht=>by rw [eq_of_mem_replicate ht]; exact Nat.two_pow_pos P) bx,bb,?_⟩
 ·show outD (qP [some (.arg (num x b))])=_;unfold qP;have lx':((List.map D.int x).length:Int)=((2 ^ rs.length:Nat):Int):=by rw [length_map,lx]
  push_cast [lx',Ip (2 ^ rs.length) (by omega),Ij (a:=List.replicate (2 ^ rs.length) 0) (b:=x) (by rw [length_replicate]; omega)]
 ·rw [Bj];have:gN b.natAbs (List.replicate (2 ^ rs.length) 0)=b.natAbs:=by
   generalize 2 ^ rs.length=n
   induction n with
   | zero=>rfl
   | succ n ih =>
    rw [replicate_succ];unfold gN at ih ⊢;rw [foldl_cons];simpa using ih
  rw [this]; exact nx.one
 ·rw [length_append,length_replicate,lx,Nat.pow_succ]; omega
 ·refine Bm b0 ?_ ?_
  ·rw [za,rQ ll,vX T]; grind
  ·rw [zb,rR ll]; exact ex
theorem vq (hl:∀r:List Int,r.length=r.length) {r:List Int} (lr:r.length=2 ^ rs.length) (br:Bd 10 r):Nm of rs.length 10 (num r 1) (of r) :=
 ⟨r,1,rfl,Ba _,lr,br,by decide,by rw [Ring.intCast_one]; grind⟩
theorem zX (T:Tow rs F of) (h3:rs.length < 3) (hrs:∀s∈rs,Bd 10 s) {r:List Int} (lr:r.length=2 ^ rs.length) (br:Bd 10 r) {P:Nat} {d:D} {a:F.C} (h:Nm of rs.length P d a) (hP:P + 10 + eT 10 rs.length<=8000) :
  ∃e,lW [RT (r :: rs),d]=.ok (.lst [d,e])/\Nm of rs.length (P + 10 + eT 10 rs.length) e (a * of r):=by
 obtain ⟨e,ee,he⟩:=pK T (by omega) hrs h (vq (of:=of) (fun _=>rfl) lr br) hP;refine ⟨e,?_,he⟩;have cl:=rN r rs;have ix:=xM r rs;have ee':jt [RT rs,d,.tup [TI r,.int 1]]=.ok e:=ee;show outD (qY [some (.arg (RT (r :: rs))),some (.arg d)])=_;unfold qY;generalize RT (r :: rs)=G at *;generalize RT rs=G0 at *;push_cast [cl,ix,ee']
theorem zY (T:Tow rs F of) (h3:rs.length<=3) {P Q:Nat} {d e:D} {a n:F.C} (h:Nm of rs.length P d a) (g:Nm of rs.length Q e n) (hP:P + Q + 2<=8000) :
  ∃m1 m2,qX [d,e]=.ok (.lst [m1,m2])/\Nm of rs.length (P + Q + 2) m1 ((a + n) / 2)/\Nm of rs.length (P + Q + 2) m2 ((a - n) / 2):=by
 obtain ⟨x,ex,hx⟩:=nq T h3 h g (by omega);obtain ⟨y,ey,hy⟩:=xV T h3 h g (by omega);obtain ⟨m1,e1,h1⟩:=Bt T h3 hx (by omega);obtain ⟨m2,e2,h2⟩:=Bt T h3 hy (by omega);refine ⟨m1,m2,?_,h1,h2⟩;show outD (qW [some (.arg d),some (.arg e)])=_;unfold qW;push_cast [ex,ey,e1,e2]
end
noncomputable def gB (k:Nat):Nat:=2 + oB 10 k 10 + eT 10 k
noncomputable def dB:Nat->Nat
 | 0=>1
 | k + 1=>2 + dB k + dB k + gB k
noncomputable def cB:Nat->Nat
 | 0=>1
 | k + 1=>dB k + eT 10 (k + 1) + cB k + dB k + 5 + 10 + eT 10 k + cB k + gB k + eT 10 k
section
variable {F:OF}
theorem Ey {p q a b ρ:F.C} (h1:p * p + q * q * ρ=a) (h2:p * q + q * p=b):(p * p - q * q * ρ) * (p * p - q * q * ρ)=a * a - b * b * ρ:=by grind
theorem Ez {p q a ρ D n:F.C} (h1:p * p + q * q * ρ=a) (h3:n=D * (p * p - q * q * ρ)):2 * D * p * (2 * D * p)=2 * D * (D * a + n):=by grind
theorem EY {p q a ρ D n:F.C} (h1:p * p + q * q * ρ=a) (h3:n=D * (p * p - q * q * ρ)):2 * D * (q * ρ) * (2 * D * (q * ρ))=ρ * (2 * D * (D * a + -n)):=by grind
theorem E_ {p D g x:F.C} (h:x=D * (2 * D * p)):g * x=2 * D * D * g * p:=by grind
theorem Fb {q D g x ρ t:F.C} (r0:ρ≠0) (g0:g≠0) (h:x=D * (2 * D * (q * ρ))) (e:1 / ρ=t / g):x * t=2 * D * D * g * q:=by grind
end
theorem uL {M e:Nat} {k:Int} {x:List Int} (hk:k.natAbs < 2 ^ e) (hx:Bd M x):Bd (e + M) (x.map (k * ·)):=fun t ht=>by
 obtain ⟨a,ha,rfl⟩:=mem_map.mp ht;exact gR hk (hx a ha)
theorem dA' {M:Nat} {x:List Int} (hx:Bd M x):Bd M (x.map fun t=>-t):=fun t ht=>by
 obtain ⟨a,ha,rfl⟩:=mem_map.mp ht;rw [Int.natAbs_neg]; exact hx a ha
section
variable {rs:List (List Int)} {F:OF} {of:List Int->F.C}
theorem JQ (T:Tow rs F of):rs.length<=3->(∀r∈rs,Bd 10 r)->∃D:Int,0 < D/\D.natAbs < 2 ^ dB rs.length/\∀(M:Nat) (y:List Int) (w:F.C),y.length=2 ^ rs.length->Bd M y->w * w=of y->∃x,x.length=2 ^ rs.length/\of x=(D:F.C) * w/\Bd (M / 2 + cB rs.length) x:=by
 induction T with
 | nil =>
  intro _ _;refine ⟨1,by decide,by decide,fun M y w ly by_ hw=>?_⟩
  match y,ly with
  | [t],_ =>
   have tb:t.natAbs < 2 ^ M:=by_ t (by simp);have hd:Nm (fun x:List Int=>((x.headD 0:Int):ratOF.C)) 0 (M + 1) (num [t] 1) (((t:Int):ratOF.C)):=⟨[t],1,rfl,Ba _,rfl,by_.mono (by omega),Nat.one_lt_two_pow (by omega),by
    show ((t:Int):ratOF.C)=((t:Int):ratOF.C) / ((1:Int):ratOF.C);rw [Ring.intCast_one]; grind⟩
   obtain ⟨q,e,he⟩:=JG Tow.nil w;obtain ⟨s,c,ee,c0,et,ec,ez⟩:=JK hd he hw;have c1:c=1:=by
    rcases Int.lt_trichotomy c 1 with z | z | z
    ·omega
    ·exact z
    ·have:=Int.mul_lt_mul_of_pos_left z (show 0 < c by omega);omega
   subst c1;refine ⟨[s],rfl,?_,fun a ha=>?_⟩
   ·rw [ez];show ((s:Int):ratOF.C)=((1:Int):ratOF.C) * (((s:Int):ratOF.C) / ((1:Int):ratOF.C));rw [Ring.intCast_one]; grind
   ·rw [mem_singleton.mp ha];have k:s.natAbs * s.natAbs < 2 ^ M:=by rw [<- Int.natAbs_mul,<- et]; exact tb
    exact Eo k
 | @cons rs F of T r hl hr hn ih =>
  intro h3 hrs;rw [length_cons] at h3;have hr1:=hrs r (by simp);have hrs':∀s∈rs,Bd 10 s:=fun s hs=>hrs s (mem_cons_of_mem _ hs);obtain ⟨D,D0,Db,ih⟩:=ih (by omega) hrs';have r0:of r≠0:=fun h=>by rw [h] at hr; grind
  have nr:=vq (of:=of) (fun _=>rfl) hl hr1;have o8:2 + oB 10 rs.length 10 + eT 10 rs.length<=8000:=by
   have:rs.length=0\/rs.length=1\/rs.length=2:=by omega
   rcases this with z | z | z <;> rw [z] <;> decide
  obtain ⟨zi,_,hzi⟩:=tQ T (by omega) hrs' (Be T (n:=2) (k:=1) (by decide) (by decide)) nr r0 o8;obtain ⟨ti,g,_,ng,lti,bti,bg,ei⟩:=hzi;have g0:=ng.pos;have gc:=as' T (show g≠0 by omega);rw [Ring.intCast_one] at ei;refine ⟨2 * D * D * g,by have:=Int.mul_pos (Int.mul_pos (Int.mul_pos (show (0:Int) < 2 by decide) D0) D0) g0; exact this,?_,fun M y w ly by_ hw=>?_⟩
  ·have:=gR (gR (gR (show (2:Int).natAbs < 2 ^ 2 by decide) Db) Db) bg;exact this
  ·have e1:Ext.a (r:=of r) w * Ext.a w + Ext.b w * Ext.b w * of r=of (aQ y):=congrArg (Ext.a (r:=of r)) hw;have e2:Ext.a (r:=of r) w * Ext.b w + Ext.b w * Ext.a w=of (aU y):=congrArg (Ext.b (r:=of r)) hw;have lA:=iC ly;have en:=Ey e1 e2;rw [<- Bq T hl ly] at en;obtain ⟨xn,ln,on,bn⟩:=ih _ _ _ (Bo T.sc hl ly) (Bp hr1 hrs' by_) en;have D2:(2 * D).natAbs < 2 ^ (2 + dB rs.length):=gR (by decide) Db;have lDA:((aQ y).map (D * ·)).length=2 ^ rs.length:=by rw [length_map]; exact lA
   have c2:((2:Int):F.C)=2:=Ring.intCast_ofNat 2;have bs:Bd (M + dB rs.length + eT 10 (rs.length + 1) + cB rs.length + 1) (bI ((aQ y).map (D * ·)) xn):=Bd.add ((uL Db by_.fr).mono (by omega)) (bn.mono (by omega));have ls:=mX lDA ln;have o1:of ((bI ((aQ y).map (D * ·)) xn).map (2 * D * ·))=2 * (D:F.C) * ((D:F.C) * of (aQ y) + of xn):=by
    rw [jK T _ ls,uI T lDA ln,jK T D lA,Ring.intCast_mul,c2]
   obtain ⟨xp,lp,op,bp⟩:=ih _ _ (2 * (D:F.C) * Ext.a w) (by rw [length_map]; exact ls) (uL D2 bs) ((Ez e1 on).trans o1.symm);have lm:(xn.map fun t=>-t).length=2 ^ rs.length:=by rw [length_map]; exact ln
   have bs2:Bd (M + dB rs.length + eT 10 (rs.length + 1) + cB rs.length + 1) (bI ((aQ y).map (D * ·)) (xn.map fun t=>-t)):=Bd.add ((uL Db by_.fr).mono (by omega)) ((dA' bn).mono (by omega));have ls2:=mX lDA lm;have lS:((bI ((aQ y).map (D * ·)) (xn.map fun t=>-t)).map (2 * D * ·)).length=2 ^ rs.length:=by rw [length_map]; exact ls2
   have o2:of (pt rs r ((bI ((aQ y).map (D * ·)) (xn.map fun t=>-t)).map (2 * D * ·)))=of r * (2 * (D:F.C) * ((D:F.C) * of (aQ y) + -of xn)):=by
    rw [vW T hl lS,jK T _ ls2,uI T lDA lm,jK T D lA,xP T ln,Ring.intCast_mul,c2]
   obtain ⟨xq,lq,oq,bq⟩:=ih _ _ (2 * (D:F.C) * (Ext.b w * of r)) (dM rs _ _ T.sc hl lS) (mD rs hrs' hr1 (uL D2 bs2)) ((EY e1 on).trans o2.symm);have lx1:(xp.map (g * ·)).length=2 ^ rs.length:=by rw [length_map]; exact lp
   have lx2:=dM rs xq ti T.sc lq lti;have ll:(xp.map (g * ·)).length=(pt rs xq ti).length:=lx1.trans lx2.symm;refine ⟨xp.map (g * ·) ++ pt rs xq ti,?_,?_,?_⟩
   ·rw [length_append,lx1,lx2,length_cons,Nat.pow_succ]; omega
   ·have cD:((2 * D * D * g:Int):F.C)=2 * (D:F.C) * (D:F.C) * (g:F.C):=by rw [Ring.intCast_mul,Ring.intCast_mul,Ring.intCast_mul,c2]
    refine Ext.eqs (r:=of r) ?_ ?_
    ·show of (aQ _)=((2 * D * D * g:Int):F.C) * Ext.a w + 0 * Ext.b w * of r;rw [rQ ll,jK T g lp,cD,E_ op]; grind
    ·show of (aU _)=((2 * D * D * g:Int):F.C) * Ext.b w + 0 * Ext.a w;rw [rR ll,vW T lq lti,cD,Fb r0 gc oq ei]; grind
   ·refine Bd.app ((uL bg bp).mono ?_) ((mD rs hrs' bq bti).mono ?_)
    ·simp only [length_cons,cB,gB]; omega
    ·simp only [length_cons,cB,gB]; omega
end
noncomputable def eN (k:Nat):Nat:=eT 10 (k + 1) + cB k + dB k
section
variable {F:OF}
theorem Fd {n b m:F.C} (b0:b≠0) (h:n * n=m / (b * b)):b * n * (b * n)=m:=by grind
theorem zZ {n b D x:F.C} (b0:b≠0) (d0:D≠0) (h:x=D * (b * n)):x / (D * b)=n:=by grind
theorem Fe {n b D x a:F.C} (b0:b≠0) (d0:D≠0) (t0:(2:F.C)≠0) (h:x=D * (b * n)):(D * a + x) / (2 * (D * b))=(a / b + n) / 2:=by grind
theorem Ff {n b D x a:F.C} (b0:b≠0) (d0:D≠0) (t0:(2:F.C)≠0) (h:x=D * (b * n)):(D * a + -x) / (2 * (D * b))=(a / b - n) / 2:=by grind
end
section
variable {rs:List (List Int)} {F:OF} {of:List Int->F.C}
theorem JR (T:Tow rs F of) (h3:rs.length < 3) (hrs:∀s∈rs,Bd 10 s) {r:List Int} {hr:0 < of r} {hn:∀z:F.C,z * z≠of r} (hl:r.length=2 ^ rs.length) (hr1:Bd 10 r) {P:Nat} {d:D} {v:(aH F (of r) hr hn).C} (hd:Nm (aR of r hr hn) (rs.length + 1) P d v) {n:F.C} (hv:n * n=Ext.nrm (r:=of r) v) :
  (∃e,Nm of rs.length (P + eN rs.length) e n)/\(∃e,Nm of rs.length (P + eN rs.length + 2) e ((Ext.a (r:=of r) v + n) / 2))/\∃e,Nm of rs.length (P + eN rs.length + 2) e ((Ext.a (r:=of r) v - n) / 2):=by
 obtain ⟨x,b,rfl,nx,lx,bx,bb,ex⟩:=hd;have pb:=nx.pos;have b0:=as' T (show b≠0 by omega);obtain ⟨e1,e2⟩:=Bl b0 ex;have t0:=Ep T;obtain ⟨D,D0,Db,ir⟩:=JQ T (by omega) hrs;have d0:=as' T (show D≠0 by omega);have nv:Ext.nrm (r:=of r) v=of (tM r rs x) / ((b:F.C) * (b:F.C)):=by
  show Ext.a v * Ext.a v - Ext.b v * Ext.b v * of r=_;rw [Bq T hl lx,e1,e2];exact (Jh b0).symm
 obtain ⟨X,lX,oX,bX⟩:=ir _ _ ((b:F.C) * n) (Bo T.sc hl lx) (Bp hr1 hrs bx) (Fd b0 (hv.trans nv));have lA:=iC lx;have lDA:((aQ x).map (D * ·)).length=2 ^ rs.length:=by rw [length_map]; exact lA
 have lm:(X.map fun t=>-t).length=2 ^ rs.length:=by rw [length_map]; exact lX
 have hb1:(D * b).natAbs < 2 ^ (dB rs.length + P):=gR Db bb;have hb2:(2 * (D * b)).natAbs < 2 ^ (2 + (dB rs.length + P)):=gR (by decide) hb1;have Dp:=Int.mul_pos D0 pb;have c2:((2:Int):F.C)=2:=Ring.intCast_ofNat 2;refine ⟨?_,?_,?_⟩
 ·obtain ⟨_,y,c,_,_,_,_,_,_,h⟩:=ca' T (n:=P + eN rs.length) lX (show D * b≠0 by omega) (bX.mono (by unfold eN; omega)) (Nat.lt_of_lt_of_le hb1 (kO (by unfold eN; omega)));rw [Ring.intCast_mul,zZ b0 d0 oX] at h;exact ⟨_,h⟩
 ·obtain ⟨_,y,c,_,_,_,_,_,_,h⟩:=ca' T (n:=P + eN rs.length + 2) (mX lDA lX) (show 2 * (D * b)≠0 by omega) ((Bd.add (n:=P + eN rs.length) ((uL Db bx.fr).mono (by unfold eN; omega)) (bX.mono (by unfold eN; omega))).mono (by omega)) (Nat.lt_of_lt_of_le hb2 (kO (by unfold eN; omega)));rw [uI T lDA lX,jK T D lA,Ring.intCast_mul,Ring.intCast_mul,c2,Fe b0 d0 t0 oX,<- e1] at h;exact ⟨_,h⟩
 ·obtain ⟨_,y,c,_,_,_,_,_,_,h⟩:=ca' T (n:=P + eN rs.length + 2) (mX lDA lm) (show 2 * (D * b)≠0 by omega) ((Bd.add (n:=P + eN rs.length) ((uL Db bx.fr).mono (by unfold eN; omega)) ((dA' bX).mono (by unfold eN; omega))).mono (by omega)) (Nat.lt_of_lt_of_le hb2 (kO (by unfold eN; omega)));rw [uI T lDA lm,jK T D lA,xP T lX,Ring.intCast_mul,Ring.intCast_mul,c2,Ff b0 d0 t0 oX,<- e1] at h;exact ⟨_,h⟩
end
noncomputable def uB (k P q:Nat):Nat:=min q (P + eN k + 2 + cB k + dB k)
mutual
noncomputable def t_:Nat->Nat->Nat->Bool
 | 0,P,_=>decide (P<=7000)
 | k + 1,P,q=>decide (2 * P + eT 10 (k + 1)<=8000) && decide (2 * q + eT 10 (k + 1) < 8000) && decide (P + oB 10 k (uB k P q + 1) + eT 10 k<=8000) && decide (q + 10 + eT 10 k + oB 10 k 10 + eT 10 k<=8000) && decide (P + 10 + eT 10 k<=8000) && decide (P + (P + eN k) + 2<=8000)
  && t_ k P q && rW k P && t_ k (P + 10 + eT 10 k) (q + 10 + eT 10 k) && t_ k (2 * P + eT 10 (k + 1)) (P + eN k) && t_ k (P + eN k + 2) (uB k P q) && rW k (P + eN k + 2)
noncomputable def rW:Nat->Nat->Bool
 | 0,P=>decide (P<=7000)
 | k + 1,P=>decide (2 * P + eT 10 (k + 1)<=8000) && decide (P + 10 + eT 10 k<=8000) && decide (P + (P + eN k) + 2<=8000) && rW k P && rW k (P + 10 + eT 10 k) && rW k (2 * P + eT 10 (k + 1)) && t_ k (2 * P + eT 10 (k + 1)) (P + eN k) && rW k (P + eN k + 2)
end
section
variable {F:OF}
theorem Fg {b z v x:F.C} (b0:b≠0) (hz:z * z=v) (e:v=x / b):b * z * (b * z)=b * x:=by grind
theorem Fi {x b:F.C} (b0:b≠0):2 * x / b=x / b + x / b:=by grind
end
section
variable {rs:List (List Int)} {F:OF} {of:List Int->F.C}
theorem R0 (T:Tow rs F of) (h3:rs.length<=3) (hrs:∀r∈rs,Bd 10 r) {P:Nat} {d:D} {v z:F.C} (hd:Nm of rs.length P d v) (hz:z * z=v):∃e,Nm of rs.length (P + cB rs.length + dB rs.length) e z:=by
 obtain ⟨x,b,rfl,nx,lx,bx,bb,ex⟩:=hd;have pb:=nx.pos;have b0:=as' T (show b≠0 by omega);obtain ⟨D,D0,Db,ir⟩:=JQ T h3 hrs;have d0:=as' T (show D≠0 by omega);obtain ⟨X,lX,oX,bX⟩:=ir _ (x.map (b * ·)) ((b:F.C) * z) (by rw [length_map]; exact lx) (uL bb bx) ((Fg b0 hz ex).trans (jK T b lx).symm);have hb1:(D * b).natAbs < 2 ^ (dB rs.length + P):=gR Db bb;have Dp:=Int.mul_pos D0 pb;obtain ⟨_,y,c,_,_,_,_,_,_,h⟩:=ca' T (n:=P + cB rs.length + dB rs.length) lX (show D * b≠0 by omega) (bX.mono (by omega)) (Nat.lt_of_lt_of_le hb1 (kO (by omega)));rw [Ring.intCast_mul,zZ b0 d0 oX] at h;exact ⟨_,h⟩
theorem R8 (T:Tow rs F of) {P:Nat} {d:D} {v:F.C} (hd:Nm of rs.length P d v):∃e,Nm of rs.length (P + 1) e (v + v):=by
 obtain ⟨x,b,rfl,nx,lx,bx,bb,ex⟩:=hd;have pb:=nx.pos;have b0:=as' T (show b≠0 by omega);obtain ⟨_,y,c,_,_,_,_,_,_,h⟩:=ca' T (n:=P + 1) (ts:=x.map (2 * ·)) (by rw [length_map]; exact lx) (show b≠0 by omega) (fun t ht=>by
  obtain ⟨a,ha,rfl⟩:=mem_map.mp ht;have:=bx a ha;rw [Nat.pow_succ]; omega) (Nat.lt_of_lt_of_le bb (kO (by omega)))
 rw [jK T 2 lx,show ((2:Int):F.C)=2 from Ring.intCast_ofNat 2,Fi b0,<- ex] at h
 exact ⟨_,h⟩
theorem ob' {k a b:Nat} {d:D} {v:F.C} (h:Nm of k a d v) (g:Nm of k b d v):Nm of k (min a b) d v:=by
 rcases Nat.le_total a b with z | z
 ·rw [Nat.min_eq_left z]; exact h
 ·rw [Nat.min_eq_right z]; exact g
end
section
variable {F:OF}
theorem kS' {x:F.C} (h:¬0<=x):x < 0:=by grind
theorem R9 {x:F.C} (h:x < 0) (g:0<=x):False:=by grind
theorem R_ {x p y:F.C} (h:x=y * y * p) (hy:y=0) (z:F.C) (hz:z=0):x=z * z:=by rw [h,hy,hz]; grind
theorem oc' {x:F.C} (h:x≠0) (e:x * x=0):False:=by grind
theorem Sg:(0:F.C) * 0=0:=by grind
theorem Sh {u:F.C} (t0:(2:F.C)≠0) (h:u≠0):u + u≠0:=by grind
theorem od' (x:F.C):x + 0=x:=by grind
theorem JS (x:F.C):0 + x=x:=by grind
theorem Sq {x y:F.C} (h:x=y):0 * 0 + x=y:=by grind
theorem Ss (x:F.C):0 * x + x * 0=0:=by grind
theorem Su {q s:F.C} (h:q < 0) (r:0 < s):¬(0<=0 + q * s):=by
 have:=cO (show 0 < -q by grind) r
 grind
theorem Sv {q ρ:F.C}:q * ρ * (q * ρ)=q * q * ρ * ρ:=by grind
theorem ps' {q ρ:F.C} (h:0<=q) (r:0 < ρ):0<=q * ρ:=by
 have:=JH r h; grind
theorem Sw {q ρ:F.C} (r:0 < ρ):q * ρ / ρ=q:=by
 have:ρ≠0:=by grind
 grind
theorem Sx {a w ρ:F.C} (r:0 < ρ) (h:w * w=a * ρ):w / ρ * (w / ρ) * ρ=a:=by
 have:ρ≠0:=by grind
 grind
theorem JT {p q b u:F.C} (t0:(2:F.C)≠0) (p0:p≠0) (h:p * q + q * p=b) (hu:u=fabs p):b / (u + u)=q/\u=p\/b / (u + u)=-q/\u=-p:=by
 unfold fabs at hu
 split at hu
 ·right; subst hu; exact ⟨by grind,rfl⟩
 ·left; subst hu; exact ⟨by grind,rfl⟩
theorem ok' {y z:F.C} (h:y=z\/y=-z) (hz:0<=z):fabs y=z:=by
 unfold fabs;rcases h with h | h <;> subst h <;> split <;> grind
theorem Sy {p q b:F.C} (h:p * q + q * p=b) (b0:b≠0):p≠0/\q≠0:=by constructor <;> (intro z; rw [z] at h; grind)
theorem SJ {a N x:F.C} (h:a - N=x):a + -N=x:=by grind
theorem mu' {a N x:F.C} (h:a + N=x):a - -N=x:=by grind
theorem SM {a b n u ρ:F.C} (hn:a * a - b * b * ρ=n * n) (hu:u * u=(a - n) / 2) (u0:u≠0):u * u + b / (u + u) * (b / (u + u)) * ρ=a/\u * (b / (u + u)) + b / (u + u) * u=b:=by
 refine JC (n:=-n) (by grind) (by grind) u0
theorem SN {a b n u ρ:F.C} (hn:a * a - b * b * ρ=n * n) (hu:u * u=(a - n) / 2) (b0:b≠0) (r0:0 < ρ):u≠0:=JD (n:=-n) (a:=a) (b:=b) (ρ:=ρ) (by grind) (by grind) b0 r0
end
section
variable {rs:List (List Int)} {F:OF} {of:List Int->F.C}
theorem z9 {k n:Nat} {d:D} {v:F.C} (h:Nm of k n d v):∃x b,d=num x b:=by
 obtain ⟨x,b,e,_⟩:=h; exact ⟨x,b,e⟩
theorem Bw {k n:Nat} {d:D} {v:F.C} (h:Nm of k n d v):cM d .non=.ok (.bl true):=by obtain ⟨x,b,rfl⟩:=z9 h; rfl
theorem SQ {k n:Nat} {d:D} {v:F.C} (h:Nm of k n d v):cH d .non=.ok (.bl false):=by obtain ⟨x,b,rfl⟩:=z9 h; rfl
open Classical in
theorem JV (T:Tow rs F of) (h3:rs.length<=3) {p:Nat} {d:D} {u:F.C} (h:Nm of rs.length p d u) (c:u=0):ju [d]=.ok (.bl true):=by rw [Eb T h3 h,_root_.decide_eq_true c]
open Classical in
theorem JW (T:Tow rs F of) (h3:rs.length<=3) {p:Nat} {d:D} {u:F.C} (h:Nm of rs.length p d u) (c:u≠0):ju [d]=.ok (.bl false):=by rw [Eb T h3 h,_root_.decide_eq_false c]
theorem S5 (T:Tow rs F of) (h3:rs.length<=3) {p:Nat} {d:D} {u:F.C} (h:Nm of rs.length p d u):∃e,Nm of rs.length p e (fabs u):=by
 unfold fabs
 split
 ·obtain ⟨e,_,he⟩:=tL T h3 h; exact ⟨e,he⟩
 ·exact ⟨d,h⟩
theorem JX (T:Tow rs F of):rs.length<=3->(∀r∈rs,Bd 10 r)->∀n,rs.length < n ->
  (∀(P q:Nat) (d e:D) (v z:F.C),Nm of rs.length P d v->Nm of rs.length q e z->z * z=v->0<=z->t_ rs.length P q=true->dO n [RT rs,d]=.ok e) /\
  (∀(P:Nat) (d:D) (v:F.C),Nm of rs.length P d v->(∀z:F.C,z * z≠v)->rW rs.length P=true->dO n [RT rs,d]=.ok .non):=by
 induction T with
 | nil =>
  intro _ _ n hn;obtain ⟨m,rfl⟩:∃m,n=m + 1:=⟨n - 1,by have:0 < n:=hn; omega⟩;refine ⟨fun P q d e v z hd he hz z0 ho=>?_,fun P d v hd hz ho=>?_⟩
  ·have ho':P<=7000:=of_decide_eq_true ho;exact (JP (R:=dO m)).trans (RV hd he hz z0 ho')
  ·have ho':P<=7000:=of_decide_eq_true ho;exact (JP (R:=dO m)).trans (RW hd hz ho')
 | @cons rs F of T r hl hr hn ih =>
  intro h3 hrs n hk;rw [length_cons] at h3 hk;obtain ⟨m,rfl⟩:∃m,n=m + 1:=⟨n - 1,by omega⟩;have T':=Tow.cons T r hl hr hn;have hr1:=hrs r (by simp);have hrs':∀s∈rs,Bd 10 s:=fun s hs=>hrs s (mem_cons_of_mem _ hs);obtain ⟨ihA,ihB⟩:=ih (by omega) hrs' m (by omega);have t0:=Ep T;have h3':rs.length < 3:=by omega
  have cl:=rN r rs;have ix:=xM r rs;have ln:cF [RT (r :: rs)]=.ok (.int ((rs.length + 1:Nat):Int)):=by
   show Res.ok (D.int (((r :: rs).reverse.map TI).length:Int))=_;rw [length_map,length_reverse,length_cons]
  have nr:=vq (of:=of) (fun _=>rfl) hl hr1;refine ⟨fun P q d e v z hd he hz z0 ho=>?_,fun P d v hd hz ho=>?_⟩
  ·
   have ho':t_ (rs.length + 1) P q=true:=ho;simp only [t_,Bool.and_eq_true,decide_eq_true_eq] at ho';obtain ⟨⟨⟨⟨⟨⟨⟨⟨⟨⟨⟨o1,o2⟩,o3⟩,o4⟩,o5⟩,o6⟩,a1⟩,b1⟩,a2⟩,a3⟩,a4⟩,b2⟩:=ho';have e1:Ext.a (r:=of r) z * Ext.a (r:=of r) z + Ext.b (r:=of r) z * Ext.b (r:=of r) z * of r=Ext.a (r:=of r) v:=by rw [<- hz]; rfl
   have e2:Ext.a (r:=of r) z * Ext.b (r:=of r) z + Ext.b (r:=of r) z * Ext.a (r:=of r) z=Ext.b (r:=of r) v:=by rw [<- hz]; rfl
   obtain ⟨da,db,ed,ha,hb⟩:=pL T h3' hd (by omega);obtain ⟨ea,eb,_,hea,heb⟩:=pL T h3' he (by omega)
   by_cases c:Ext.b (r:=of r) v=0
   ·obtain ⟨dar,ebw,har⟩:=zX T h3' hrs' hl hr1 ha o5;have nb:=JV T (by omega) hb c;rcases El e1 e2 c with ⟨q0,ea2⟩ | ⟨p0,ea2⟩
    ·
     have p0:0<=Ext.a (r:=of r) z:=by
      have ez:z=em (Ext.a (r:=of r) z):=Ext.eqs (r:=of r) rfl q0;rcases Classical.em (0<=Ext.a (r:=of r) z) with g | g
      ·exact g
      ·exfalso;have lt:=Jv (hr:=hr) (hn:=hn) (kS' g);rw [<- ez,Ej] at lt;exact R9 lt z0
     have r1:=ihA P q da ea _ _ ha hea ea2.symm p0 a1;obtain ⟨e',el,hl'⟩:=vm T h3' (hr:=hr) (hn:=hn) hea;have ev:em (Ext.a (r:=of r) z)=z:=(Ext.eqs (r:=of r) rfl q0:z=em (Ext.a (r:=of r) z)).symm;rw [ev] at hl';have:e'=e:=jL T' hl' he;subst this;exact Bu ln ed nb (JM cl ebw r1 (Bw hea) ln el)
    ·
     have zq:0<=Ext.b (r:=of r) z:=by
      rcases Classical.em (0<=Ext.b (r:=of r) z) with g | g
      ·exact g
      ·exfalso;have lt:=Jv (hr:=hr) (hn:=hn) (kS' g);rw [Ej] at lt;have sp:=Ry z;rw [p0,Ej] at sp;have rp:=Rx (hr:=hr) (hn:=hn);exact absurd z0 (by rw [sp]; exact Su lt rp)
     by_cases qz:Ext.b (r:=of r) z=0
     ·
      have a0:Ext.a (r:=of r) v=Ext.a (r:=of r) z * Ext.a (r:=of r) z:=R_ ea2 qz _ p0;have r1:=ihA P q da ea _ _ ha hea a0.symm (by rw [p0]; exact Std.le_refl _) a1;obtain ⟨e',el,hl'⟩:=vm T h3' (hr:=hr) (hn:=hn) hea;have ev:em (Ext.a (r:=of r) z)=z:=(Ext.eqs (r:=of r) rfl qz:z=em (Ext.a (r:=of r) z)).symm;rw [ev] at hl';have:e'=e:=jL T' hl' he;subst this;exact Bu ln ed nb (JM cl ebw r1 (Bw hea) ln el)
     ·have r1:=ihB P da _ ha (fun s hs=>Jz (s:=s) hn qz (hs.trans ea2)) b1;obtain ⟨w,_,hw⟩:=pK T (by omega) hrs' heb nr (by omega);have sq:Ext.b (r:=of r) z * of r * (Ext.b (r:=of r) z * of r)=Ext.a (r:=of r) v * of r:=by rw [ea2]; exact Sv
      have r2:=ihA _ _ dar w _ _ har hw sq (ps' zq hr) a2;obtain ⟨o,eo,ho2⟩:=tQ T (by omega) hrs' hw nr (RG hr) o4;rw [Sw hr] at ho2;obtain ⟨e',et,hl'⟩:=t8 T h3' (hr:=hr) (hn:=hn) ho2 (z:=z) p0 rfl;have:e'=e:=jL T' hl' he;subst this;exact Bu ln ed nb (RX cl ebw r1 r2 (SQ hw) ix eo et)
   ·
    have nb:=JW T (by omega) hb c;obtain ⟨dn,en,hN⟩:=tO T h3' hl hr1 hrs' hd o1;have nv:Ext.nrm (r:=of r) v=Ext.nrm (r:=of r) z * Ext.nrm (r:=of r) z:=zW e1 e2;have hn1:fabs (Ext.nrm (r:=of r) z) * fabs (Ext.nrm (r:=of r) z)=Ext.nrm (r:=of r) v:=fs_abs.trans nv.symm;obtain ⟨⟨nd,hnd⟩,⟨j1,hk1⟩,j2,hk2⟩:=JR T h3' hrs' hl hr1 hd hn1;have r0:=ihA _ _ dn nd _ _ hN hnd hn1 (Bs _) a3;obtain ⟨pz,qz⟩:=Sy e2 c;obtain ⟨m1,m2,em',hm1,hm2⟩:=zY T (by omega) ha hnd o6;have g1:=jL T hk1 hm1;have g2:=jL T hk2 hm2;subst g1 g2;clear hm1 hm2;have vs:((Ext.a (r:=of r) v + fabs (Ext.nrm (r:=of r) z)) / 2=Ext.b (r:=of r) z * Ext.b (r:=of r) z * of r/\(Ext.a (r:=of r) v - fabs (Ext.nrm (r:=of r) z)) / 2=Ext.a (r:=of r) z * Ext.a (r:=of r) z)\/(Ext.a (r:=of r) v + fabs (Ext.nrm (r:=of r) z)) / 2=Ext.a (r:=of r) z * Ext.a (r:=of r) z:=by
     rcases Classical.em (Ext.nrm (r:=of r) z < 0) with sg | sg
     ·have fN:fabs (Ext.nrm (r:=of r) z)=-Ext.nrm (r:=of r) z:=by unfold fabs; rw [if_pos sg]
      left
      rw [fN];exact ⟨En (SJ (JB e1)),En (mu' (Em e1))⟩
     ·have fN:fabs (Ext.nrm (r:=of r) z)=Ext.nrm (r:=of r) z:=by unfold fabs; rw [if_neg sg]
      right
      rw [fN]; exact En (Em e1)
    have hmid:∃mm,Nm of rs.length (P + eN rs.length + 2) mm (Ext.a (r:=of r) z * Ext.a (r:=of r) z):=by
     rcases vs with ⟨v1,v2⟩ | v1
     ·rw [v2] at hk2; exact ⟨_,hk2⟩
     ·rw [v1] at hk1; exact ⟨_,hk1⟩
    obtain ⟨u,hu0⟩:=S5 T (by omega) hea;obtain ⟨mm,hmm⟩:=hmid;obtain ⟨u',hu'⟩:=R0 T (by omega) hrs' hmm (fs_abs (z:=Ext.a (r:=of r) z));have gu:=jL T hu' hu0;subst gu;have hu:Nm of rs.length (uB rs.length P q) u' (fabs (Ext.a (r:=of r) z)):=ob' hu0 hu';have Qq:uB rs.length P q<=q:=Nat.min_le_left _ _;obtain ⟨uu,euu,huu0⟩:=nq T (by omega) hu hu (by omega);obtain ⟨u2,huu⟩:=R8 T hu;have gd:=jL T huu huu0;subst gd;have up:fabs (Ext.a (r:=of r) z)≠0:=by
     intro h0;have:Ext.a (r:=of r) z * Ext.a (r:=of r) z=0:=by rw [<- fs_abs,h0]; exact Sg
     exact oc' pz this
    have uu0:fabs (Ext.a (r:=of r) z) + fabs (Ext.a (r:=of r) z)≠0:=Sh t0 up;obtain ⟨o,eo,ho2⟩:=tQ T (by omega) hrs' hb huu uu0 o3;obtain ⟨bh,ebh,hbh⟩:=t8 T h3' (hr:=hr) (hn:=hn) ho2 (z:=iR hr hn 0 (Ext.b (r:=of r) v / (fabs (Ext.a (r:=of r) z) + fabs (Ext.a (r:=of r) z)))) rfl rfl;obtain ⟨lu,elu,hlu⟩:=vm T h3' (hr:=hr) (hn:=hn) hu;have val:em (fabs (Ext.a (r:=of r) z)) + iR hr hn 0 (Ext.b (r:=of r) v / (fabs (Ext.a (r:=of r) z) + fabs (Ext.a (r:=of r) z)))=z\/em (fabs (Ext.a (r:=of r) z)) + iR hr hn 0 (Ext.b (r:=of r) v / (fabs (Ext.a (r:=of r) z) + fabs (Ext.a (r:=of r) z)))=-z:=by
     rcases JT t0 pz e2 rfl with ⟨x1,x2⟩ | ⟨x1,x2⟩
     ·left
      refine Ext.eqs (r:=of r) ?_ ?_
      ·show fabs (Ext.a (r:=of r) z) + 0=Ext.a (r:=of r) z;rw [x2]; exact od' _
      ·show 0 + _=Ext.b (r:=of r) z;rw [x1]; exact JS _
     ·right
      refine Ext.eqs (r:=of r) ?_ ?_
      ·show fabs (Ext.a (r:=of r) z) + 0=-Ext.a (r:=of r) z;rw [x2]; exact od' _
      ·show 0 + _=-Ext.b (r:=of r) z;rw [x1]; exact JS _
    have hbhb:∃bb,Nm (aR of r hr hn) (rs.length + 1) q bb (iR hr hn 0 (Ext.b (r:=of r) v / (fabs (Ext.a (r:=of r) z) + fabs (Ext.a (r:=of r) z)))):=by
     rcases JT t0 pz e2 rfl with ⟨x1,x2⟩ | ⟨x1,x2⟩
     ·rw [x1];obtain ⟨bb,_,hbb⟩:=t8 T h3' (hr:=hr) (hn:=hn) heb (z:=iR hr hn 0 (Ext.b (r:=of r) z)) rfl rfl;exact ⟨bb,hbb⟩
     ·rw [x1];obtain ⟨nb',_,hnb⟩:=tL T (by omega) heb;obtain ⟨bb,_,hbb⟩:=t8 T h3' (hr:=hr) (hn:=hn) hnb (z:=iR hr hn 0 (-Ext.b (r:=of r) z)) rfl rfl;exact ⟨bb,hbb⟩
    obtain ⟨bb,hbb⟩:=hbhb;have:bh=bb:=jL T' hbh hbb;subst this;obtain ⟨s,es,hs⟩:=nq T' (by rw [length_cons]; omega) hlu hbb (by omega);obtain ⟨e',ee,he'⟩:=Ef T' (by rw [length_cons]; omega) hrs hs (Eh (by rw [length_cons]; omega) (by omega));rw [ok' val z0] at he';have:e'=e:=jL T' he' he;subst this;obtain ⟨xn,bn,en'⟩:=z9 hnd;rcases vs with ⟨v1,v2⟩ | v1
    ·rw [v1] at hk1;rw [v2] at hk2;have r1:=ihB _ _ _ hk1 (fun s hs=>Jz hn qz hs) b2;have r2:=ihA _ _ _ u' _ _ hk2 hu fs_abs (Bs _) a4;have lp:=Eq.trans (rT (t:=bC 6) (d:=j1) (ds:=[j2]) (δ:=[some (.val (RT (r :: rs))),some (.val da),some (.val db),some (.val dn),some (.val (RT rs)),some (.val nd),none,none,none]) rfl (Ew (R:=dO m) (G:=RT (r :: rs)) (G0:=RT rs) (da:=da) (db:=db) (dn:=dn) (nd:=nd) (z7:=none) (z8:=none) r1)) (JL (ds:=[]) rfl (JN (R:=dO m) (G:=RT (r :: rs)) (G0:=RT rs) (da:=da) (db:=db) (dn:=dn) (nd:=nd) (z6:=none) (z7:=some (.val .non)) (z8:=none) r2 (Bw hu) euu eo ebh ln elu es ee));exact Bv ln ed nb en (Ex en' cl r0 em' lp (.inl ⟨_,rfl⟩))
    ·rw [v1] at hk1;have r1:=ihA _ _ _ u' _ _ hk1 hu fs_abs (Bs _) a4;have lp:=JL (t:=bC 6) (d:=j1) (ds:=[j2]) (δ:=[some (.val (RT (r :: rs))),some (.val da),some (.val db),some (.val dn),some (.val (RT rs)),some (.val nd),none,none,none]) rfl (JN (R:=dO m) (G:=RT (r :: rs)) (G0:=RT rs) (da:=da) (db:=db) (dn:=dn) (nd:=nd) (z6:=none) (z7:=none) (z8:=none) r1 (Bw hu) euu eo ebh ln elu es ee);exact Bv ln ed nb en (Ex en' cl r0 em' lp (.inl ⟨_,rfl⟩))
  ·
   have ho':rW (rs.length + 1) P=true:=ho;simp only [rW,Bool.and_eq_true,decide_eq_true_eq] at ho';obtain ⟨⟨⟨⟨⟨⟨⟨o1,o2⟩,o3⟩,b1⟩,b2⟩,b3⟩,a1⟩,b4⟩:=ho';obtain ⟨da,db,ed,ha,hb⟩:=pL T h3' hd (by omega)
   by_cases c:Ext.b (r:=of r) v=0
   ·obtain ⟨dar,ebw,har⟩:=zX T h3' hrs' hl hr1 ha o2;have nb:=JV T (by omega) hb c;have r1:=ihB P da _ ha (fun s hs=>hz (em s) (by rw [<- vZ,hs]; exact (Ext.eqs (r:=of r) rfl c:v=em (Ext.a (r:=of r) v)).symm)) b1;have r2:=ihB _ dar _ har (fun s hs=>hz (iR hr hn 0 (s / of r)) (by
     refine Ext.eqs (r:=of r) ?_ ?_
     ·show 0 * 0 + s / of r * (s / of r) * of r=Ext.a (r:=of r) v;exact Sq (Sx hr hs)
     ·show 0 * (s / of r) + s / of r * 0=Ext.b (r:=of r) v;rw [c]; exact Ss _)) b2
    exact Bu ln ed nb (kq' cl ebw r1 r2)
   ·have nb:=JW T (by omega) hb c;obtain ⟨dn,en,hN⟩:=tO T h3' hl hr1 hrs' hd o1
    by_cases sq:∃n:F.C,n * n=Ext.nrm (r:=of r) v
    ·obtain ⟨n0,hn0⟩:=sq;have hn1:fabs n0 * fabs n0=Ext.nrm (r:=of r) v:=fs_abs.trans hn0;obtain ⟨⟨nd,hnd⟩,⟨j1,hk1⟩,j2,hk2⟩:=JR T h3' hrs' hl hr1 hd hn1;have r0:=ihA _ _ dn nd _ _ hN hnd hn1 (Bs _) a1;obtain ⟨m1,m2,em',hm1,hm2⟩:=zY T (by omega) ha hnd o3;have g1:=jL T hk1 hm1;have g2:=jL T hk2 hm2;subst g1 g2;have nv:Ext.a (r:=of r) v * Ext.a (r:=of r) v - Ext.b (r:=of r) v * Ext.b (r:=of r) v * of r=fabs n0 * fabs n0:=hn1.symm;have mk:∀u:F.C,(u * u + Ext.b (r:=of r) v / (u + u) * (Ext.b (r:=of r) v / (u + u)) * of r=Ext.a (r:=of r) v/\u * (Ext.b (r:=of r) v / (u + u)) + Ext.b (r:=of r) v / (u + u) * u=Ext.b (r:=of r) v)->False:=fun u hu =>
      hz (iR hr hn u (Ext.b (r:=of r) v / (u + u))) (Ext.eqs (r:=of r) hu.1 hu.2)
     have r1:=ihB _ _ _ hk1 (fun u hu=>mk u (JC nv hu (JD nv hu c hr))) b4;have r2:=ihB _ _ _ hk2 (fun u hu=>mk u (SM nv hu (SN nv hu c hr))) b4;obtain ⟨xn,bn,en'⟩:=z9 hnd;have lp:=Eq.trans (rT (t:=bC 6) (d:=_) (ds:=[_]) (δ:=[some (.val (RT (r :: rs))),some (.val da),some (.val db),some (.val dn),some (.val (RT rs)),some (.val nd),none,none,none]) rfl (Ew (R:=dO m) (G:=RT (r :: rs)) (G0:=RT rs) (da:=da) (db:=db) (dn:=dn) (nd:=nd) (z7:=none) (z8:=none) r1)) (Eq.trans (rT (ds:=[]) rfl (Ew (R:=dO m) (G:=RT (r :: rs)) (G0:=RT rs) (da:=da) (db:=db) (dn:=dn) (nd:=nd) (z7:=some (.val .non)) (z8:=none) r2)) xW);exact Bv ln ed nb en (Ex en' cl r0 em' lp (.inr ⟨_,rfl⟩))
    ·have r0:=ihB _ dn _ hN (fun n hn0=>sq ⟨n,hn0⟩) b3;exact Bv ln ed nb en (RZ cl r0)
end
abbrev vz:List Int->ratOF.C:=fun x=>(((x.headD 0:Int):Rat))
section
variable {rs:List (List Int)} {F:OF} {of:List Int->F.C}
theorem z_:∀(k n:Nat),gN n (List.replicate k 0)=n
 | 0,_=>rfl
 | k + 1,n=>by rw [replicate_succ,n_,show Nat.gcd n (0:Int).natAbs=n from Nat.gcd_zero_right n,z_ k n]
theorem oo' {k:Nat} (h:k<=3) (a b:Int):gA [num [a] b,.int (k:Int)]=.ok (num (a :: List.replicate (2 ^ k - 1) 0) b):=by
 have:k=0\/k=1\/k=2\/k=3:=by omega
 rcases this with z | z | z | z <;> subst z <;> rfl
theorem Fj {a b c:F.C} (hb:b≠0) (h:c * b=a):c=a / b:=by grind
theorem S6 (T:Tow rs F of) (h3:rs.length<=3) {φ:ratOF.C->F.C} (hφ:Hm φ) {P:Nat} {d:D} {v:ratOF.C} (h:Nm vz 0 P d v):∃e,gA [d,.int (rs.length:Int)]=.ok e/\Nm of rs.length P e (φ v):=by
 obtain ⟨x,b,rfl,nf,lx,bx,bb,ex⟩:=h
 match x,lx with
 | [t],_ =>
  have bp:=nf.pos;have p2:=Nat.two_pow_pos rs.length;refine ⟨_,oo' h3 t b,_,b,rfl,⟨bp,?_⟩,by rw [length_cons,length_replicate]; omega,?_,bb,?_⟩
  ·rw [n_,z_]; exact nf.one
  ·intro u hu;rcases mem_cons.mp hu with z | z
   ·rw [z]; exact bx t (by simp)
   ·rw [eq_of_mem_replicate z]; exact Nat.two_pow_pos P
  ·rw [mz T,ex];refine Fj (as' T (show b≠0 by omega)) ?_;have bz:(b:ratOF.C)≠0:=as' Tow.nil (show b≠0 by omega);rw [<- hφ.int b,<- hφ.mul,<- hφ.int t]
   congr 1
   show vz [t] / (b:ratOF.C) * (b:ratOF.C)=(t:ratOF.C);generalize (b:ratOF.C)=bb at *;have:vz [t]=(t:ratOF.C):=rfl;rw [this];generalize (t:ratOF.C)=tt at *
   grind
end
inductive PG {Fn:OF} (ofn:List Int->Fn.C) (n:Nat):(rs:List (List Int))->(F:OF)->(List Int->F.C)->List D->(F.C->Fn.C)->Prop
 | nil {φ:ratOF.C->Fn.C}:Hm φ->PG ofn n [] ratOF (fun x=>(((x.headD 0:Int):Rat))) [] φ
 | cons {rs:List (List Int)} {F:OF} {of:List Int->F.C} {told:List D} {φ:F.C->Fn.C} {r:List Int} {hr:0 < of r} {hn:∀z:F.C,z * z≠of r} {d e:D} {g:Fn.C} :
   PG ofn n rs F of told φ->r.length=2 ^ rs.length->Bd 10 r->Nm ofn n 12 d g->0<=g->g * g=φ (of r)->Nm ofn n 10 e (φ (of r))->PG ofn n (r :: rs) (aH F (of r) hr hn) (aR of r hr hn) (told ++ [d]) (fun x=>φ (Ext.a (r:=of r) x) + φ (Ext.b (r:=of r) x) * g)
section
variable {Fn:OF} {ofn:List Int->Fn.C} {n:Nat} {rs:List (List Int)} {F:OF} {of:List Int->F.C} {told:List D} {φ:F.C->Fn.C}
theorem PG.tow (h:PG ofn n rs F of told φ):Tow rs F of:=by
 induction h with
 | nil _=>exact Tow.nil
 | cons _ l _ _ _ _ _ ih=>exact Tow.cons ih _ l _ _
theorem PG.len (h:PG ofn n rs F of told φ):told.length=rs.length:=by
 induction h with
 | nil _=>rfl
 | cons _ l _ _ _ _ _ ih=>rw [length_append,ih]; rfl
end
theorem S7 {R:List D->Res D} {G d e:D} {k:Int} (ln:cF [G]=.ok (.int k)) (lf:gA [d,.int k]=.ok e):bF 3 6 (iV R) [G,.lst [],d]=.ok e:=by
 show outD (iV R [some (.arg G),some (.arg (.lst [])),some (.arg d),none,none,none])=_;unfold iV;have l0:cF [.lst []]=.ok (.int 0):=rfl;push_cast [ln,l0,lf]
theorem S8 {R:List D->Res D} {G d y z f b t e g L L0:D} {k:Int} (hk:¬k=0) (ll:cF [L]=.ok (.int k)) (cu:cutD L none (some (-1))=.ok L0) (ix:bJ L (.int (-1))=.ok g) (ha:jY [d]=.ok (.tup [y,z])) (r1:R [G,L0,y]=.ok f) (r2:R [G,L0,z]=.ok b) (tm:jt [G,b,g]=.ok t) (pl:gC [f,t]=.ok e):bF 3 6 (iV R) [G,L,d]=.ok e:=by
 show outD (iV R [some (.arg G),some (.arg L),some (.arg d),none,none,none])=_;unfold iV;push_cast [ll,hk,cu,ix,ha,r1,r2,tm,pl]
theorem S_ {told:List D} (h:told.length<=2) (g:D):cutD (.lst (told ++ [g])) none (some (-1))=.ok (.lst told)/\bJ (.lst (told ++ [g])) (.int (-1))=.ok g/\cF [.lst (told ++ [g])]=.ok (.int ((told.length + 1:Nat):Int)):=by
 match told,h with
 | [],_=>exact ⟨rfl,rfl,rfl⟩
 | [a],_=>exact ⟨rfl,rfl,rfl⟩
 | [a,b],_=>exact ⟨rfl,rfl,rfl⟩
noncomputable def pb:Nat->Nat->Nat
 | 0,P=>P
 | k + 1,P=>2 * pb k P + 90
theorem dx' (rs:List (List Int)):cF [RT rs]=.ok (.int (rs.length:Int)):=by
 show Res.ok (D.int _)=_;simp
theorem op' {rsn:List (List Int)} {Fn:OF} {ofn:List Int->Fn.C} (Tn:Tow rsn Fn ofn) (hn3:rsn.length<=3) (hrn:∀r∈rsn,Bd 10 r) {rs:List (List Int)} {F:OF} {of:List Int->F.C} {told:List D} {φ:F.C->Fn.C} (h:PG ofn rsn.length rs F of told φ) :
  ∀(m P:Nat) (d:D) (x:F.C),rs.length < m->rs.length<=3->P<=100->Nm of rs.length P d x->∃e,mJ m [RT rsn,.lst told,d]=.ok e/\Nm ofn rsn.length (pb rs.length P) e (φ x):=by
 have e77:eT 10 rsn.length<=77:=Rn hn3;have ln:=dx' rsn
 induction h with
 | nil hφ =>
  intro m P d x hm _ _ hx;obtain ⟨m',rfl⟩:∃m',m=m' + 1:=⟨m - 1,by have:0 < m:=hm; omega⟩;obtain ⟨e,e1,e2⟩:=S6 Tn hn3 hφ hx;exact ⟨e,S7 ln e1,e2⟩
 | @cons rs F of told φ r hr hn dg eg g hp lr br hd g0 gg he ih =>
  intro m P d x hm h3 hP hx;have hm':rs.length + 1 < m:=hm;have h3':rs.length + 1<=3:=h3;obtain ⟨m',rfl⟩:∃m',m=m' + 1:=⟨m - 1,by omega⟩;have T:=hp.tow;obtain ⟨y,z,ha,hy,hz⟩:=pL T (by omega) hx (by omega);obtain ⟨f,f1,f2⟩:=ih m' P y _ (by omega) (by omega) hP hy;obtain ⟨b,b1,b2⟩:=ih m' P z _ (by omega) (by omega) hP hz;have pl:pb rs.length P<=1000:=by
   have:rs.length=0\/rs.length=1\/rs.length=2:=by omega
   rcases this with q | q | q <;> rw [q] <;> simp only [pb] <;> omega
  obtain ⟨t,t1,t2⟩:=pK Tn hn3 hrn b2 hd (by omega);obtain ⟨e,e1,e2⟩:=nq Tn hn3 f2 t2 (by omega);have tl:=hp.len;obtain ⟨c1,c2,c3⟩:=S_ (told:=told) (by omega) dg;refine ⟨e,S8 (k:=((told.length + 1:Nat):Int)) (by omega) c3 c1 c2 ha f1 b1 t1 e1,?_⟩;refine e2.mono ?_;show pb rs.length P + (pb rs.length P + 12 + eT 10 rsn.length) + 1<=2 * pb rs.length P + 90;omega
section
variable {F:OF} {r:F.C} {hr:0 < r} {hn:∀z:F.C,z * z≠r}
theorem Fl {g:F.C} (h:0<=g) (z:g≠0):0 < g:=by grind
theorem JZ {g:F.C} (h:0<=g):0<=em (hr:=hr) (hn:=hn) g:=by
 by_cases z:g=0
 ·subst z;have:em (hr:=hr) (hn:=hn) (0:F.C)=0:=rfl;rw [this]; exact Std.le_refl _
 ·have p:0 < g:=Fl h z;exact Std.le_of_lt (vd (hr:=hr) (hn:=hn) p)
theorem J0 {A:OF} {φ:A.C->F.C} (h:Hm φ):Hm (A:=A) (B:=aH F r hr hn) (fun a=>em (φ a)):=⟨fun a b=>by rw [h.add,Jk],fun a b=>by rw [h.mul,vZ],fun n=>by rw [h.int]; rfl⟩
noncomputable def gen (hr:0 < r) (hn:∀z:F.C,z * z≠r):(aH F r hr hn).C:=iR hr hn 0 1
theorem J1:gen hr hn * gen hr hn=em r:=Ext.eqs (r:=r) (show (0:F.C) * 0 + 1 * 1 * r=r by grind) (show (0:F.C) * 1 + 1 * 0=0 by grind)
theorem J2:0<=gen hr hn:=Std.le_of_lt (xR (hr:=hr) (hn:=hn) (Std.le_refl _) (OrderedRing.zero_lt_one (R:=F.C)))
theorem Fp (a b r:F.C):a + (b * 0 + 0 * 1 * r)=a:=by grind
theorem Fq (b:F.C):0 + (b * 1 + 0 * 0)=b:=by grind
theorem Tc (x:(aH F r hr hn).C):em (hr:=hr) (hn:=hn) (Ext.a (r:=r) x) + em (Ext.b (r:=r) x) * gen hr hn=x:=Ext.eqs (r:=r) (Fp (Ext.a (r:=r) x) (Ext.b (r:=r) x) r) (Fq (Ext.b (r:=r) x))
end
section
variable {rsn:List (List Int)} {Fn:OF} {ofn:List Int->Fn.C} {rs:List (List Int)} {F:OF} {of:List Int->F.C} {told:List D} {φ:F.C->Fn.C}
theorem PG.conv {n:Nat} {ψ:F.C->Fn.C} (h:PG ofn n rs F of told φ) (e:∀x,φ x=ψ x):PG ofn n rs F of told ψ:=by
 have:φ=ψ:=funext e;subst this; exact h
theorem PG.up (Tn:Tow rsn Fn ofn) (h3:rsn.length < 3) {r':List Int} {hr':0 < ofn r'} {hn':∀z:Fn.C,z * z≠ofn r'} (h:PG ofn rsn.length rs F of told φ):∃told',PG (aR ofn r' hr' hn') (rsn.length + 1) rs F of told' (fun x=>em (φ x)):=by
 induction h with
 | nil hφ=>exact ⟨[],PG.nil (J0 hφ)⟩
 | @cons rs F of told φ r hr hn dg eg g hp lr br hd g0 gg he ih =>
  obtain ⟨told',ht⟩:=ih;obtain ⟨d',_,hd'⟩:=vm Tn h3 (r:=r') (hr:=hr') (hn:=hn') hd;obtain ⟨e',_,he'⟩:=vm Tn h3 (r:=r') (hr:=hr') (hn:=hn') he;have c:=PG.cons (hr:=hr) (hn:=hn) ht lr br hd' (JZ g0) (by rw [<- vZ,gg]) he';refine ⟨told' ++ [d'],?_⟩;have ee:(fun x=>em (φ (Ext.a (r:=of r) x)) + em (φ (Ext.b (r:=of r) x)) * em g)=(fun x:(aH F (of r) hr hn).C=>em (hr:=hr') (hn:=hn') (φ (Ext.a (r:=of r) x) + φ (Ext.b (r:=of r) x) * g)):=by
   funext x; rw [Jk,vZ]
  rw [<- ee]; exact c
end
theorem self {rs:List (List Int)} {F:OF} {of:List Int->F.C} (T:Tow rs F of):rs.length<=3->(∀r∈rs,Bd 10 r)->∃told,PG of rs.length rs F of told (fun x=>x):=by
 induction T with
 | nil=>intro _ _; exact ⟨[],PG.nil Jc⟩
 | @cons rs F of T r hl hr hn ih =>
  intro h3 hb;have h3':rs.length + 1<=3:=h3;obtain ⟨told,h⟩:=ih (by omega) fun u hu=>hb u (mem_cons_of_mem _ hu);obtain ⟨told',h'⟩:=PG.up T (by omega) (r':=r) (hr':=hr) (hn':=hn) h;have br:=hb r (by simp);have lz:(List.replicate (2 ^ rs.length) (0:Int)).length=((1:Int) :: List.replicate (2 ^ rs.length - 1) 0).length:=by
   have:=Nat.two_pow_pos rs.length;simp; omega
  have ge:aR of r hr hn (List.replicate (2 ^ rs.length) 0 ++ (1 :: List.replicate (2 ^ rs.length - 1) 0))=gen hr hn:=by
   refine Ext.eqs (r:=of r) ?_ ?_
   ·show of (aQ _)=0;rw [rQ lz,vX T]
   ·show of (aU _)=1;rw [rR lz,mz T,Ring.intCast_one]
  have ng:Nm (aR of r hr hn) (rs.length + 1) 10 (num (List.replicate (2 ^ rs.length) 0 ++ (1 :: List.replicate (2 ^ rs.length - 1) 0)) 1) (gen hr hn):=by
   rw [<- ge];refine vq (rs:=r :: rs) (of:=aR of r hr hn) (fun _=>rfl) ?_ ?_
   ·rw [length_append,<- lz,length_replicate,length_cons,Nat.pow_succ]; omega
   ·intro t ht;rcases mem_append.mp ht with q | q
    ·rw [eq_of_mem_replicate q]; decide
    ·rcases mem_cons.mp q with q | q
     ·rw [q]; decide
     ·rw [eq_of_mem_replicate q]; decide
  obtain ⟨e',_,he'⟩:=vm T (by omega) (r:=r) (hr:=hr) (hn:=hn) (vq (rs:=rs) (of:=of) (fun _=>rfl) hl br);have c:=PG.cons (hr:=hr) (hn:=hn) h' hl br (ng.mono (by decide)) J2 J1 he';exact ⟨_,c.conv Tc⟩
theorem Td {F:OF} {of:List Int->F.C} {k n:Nat} {d:D} {v:F.C} (h:Nm of k n d v):bD d=true:=by
 obtain ⟨x,b,rfl,_⟩:=h;show aG [D.tup (x.map .int),D.int b]=true;rw [aG,aG,aG,bD,tR]; rfl
theorem Te {L:List D} {d:D} (h:aG L=true) (hd:bD d=true):aG (L ++ [d])=true:=by
 induction L with
 | nil=>simp only [nil_append,aG,hd,Bool.and_self]
 | cons x L ih =>
  simp only [cons_append,aG,Bool.and_eq_true] at h ⊢;exact ⟨h.1,ih h.2⟩
theorem Tf (x:List Int) (b:Int):cH (num x b) .non=.ok (.bl false):=rfl
section
variable {O G rt e:D} {told:List D} {k:Nat} {s4:Option SV}
theorem Tg {w:List Int} {b:Int} (ix:bJ O (.int (k:Int))=.ok rt) (pu:jx [G,.lst told,.tup [rt,.int 1]]=.ok e) (ro:kE [G,e]=.ok (num w b)) (fl:aG told=true) (hl:told.length<=100) :
  (aA ‹"O"› (aA (cP ‹"h"› (bU "NoCarry" "at" (lJ (aj 3))) Out.nxt) (iI 2 (aj 4)))) [some (.arg O),some (.arg G),some (.own told),some (.val (.int (k:Int))),s4]=.nxt [some (.arg O),some (.arg G),some (.own (told ++ [num w b])),some (.val (.int (k:Int))),some (.val (num w b))]:=by
 have fd:bD (num w b)=true:=by
  show aG [D.tup (w.map .int),D.int b]=true;rw [aG,aG,aG,bD,tR]; rfl
 have fi:bD (.int (k:Int))=true:=rfl;have q0:‹"O"› [some (.arg O),some (.arg G),some (.own told),some (.val (.int (k:Int))),s4]=.nxt [some (.arg O),some (.arg G),some (.own told),some (.val (.int (k:Int))),some (.val (num w b))]:=by
  push_cast [Br,ix,pu,ro]
 have q1:(cP ‹"h"› (bU "NoCarry" "at" (lJ (aj 3))) Out.nxt) [some (.arg O),some (.arg G),some (.own told),some (.val (.int (k:Int))),some (.val (num w b))]=.nxt [some (.arg O),some (.arg G),some (.own told),some (.val (.int (k:Int))),some (.val (num w b))]:=by
  push_cast [Tf]
 rw [ap_seq,q0,sq_nxt,ap_seq,q1,sq_nxt];have ap:iI 2 (aj 4) [some (.arg O),some (.arg G),some (.own told),some (.val (.int (k:Int))),some (.val (num w b))]=gK (aj 4 [some (.arg O),some (.arg G),some (.own told),some (.val (.int (k:Int))),some (.val (num w b))]) [some (.arg O),some (.arg G),some (.own told),some (.val (.int (k:Int))),some (.val (num w b))] (fun d=>if aG told=true/\bD d=true/\told.length < sizeLine then .nxt (fU 2 told d [some (.arg O),some (.arg G),some (.own told),some (.val (.int (k:Int))),some (.val (num w b))]) else .stuck):=rfl
 rw [ap,sl4,vw_val,on_ok,if_pos ⟨fl,fd,Nat.lt_of_le_of_lt hl (by decide)⟩];unfold fU;simp only [map_cons,map_nil,Option.bind_some,bG,fd,fi,fl,↓reduceIte,set_cons_succ,set_cons_zero]
theorem Th (k3:k<=3) (ix:bJ O (.int (k:Int))=.ok rt) (pu:jx [G,.lst told,.tup [rt,.int 1]]=.ok e) (ro:kE [G,e]=.ok .non) :
  ∃δ',(aA ‹"O"› (aA (cP ‹"h"› (bU "NoCarry" "at" (lJ (aj 3))) Out.nxt) (iI 2 (aj 4)))) [some (.arg O),some (.arg G),some (.own told),some (.val (.int (k:Int))),s4]=.err ⟨"NoCarry",some ("at",.int (k:Int))⟩ δ':=by
 have q0:‹"O"› [some (.arg O),some (.arg G),some (.own told),some (.val (.int (k:Int))),s4]=.nxt [some (.arg O),some (.arg G),some (.own told),some (.val (.int (k:Int))),some (.val .non)]:=by
  push_cast [Br,ix,pu,ro]
 have sm:lJ (aj 3) [some (.arg O),some (.arg G),some (.own told),some (.val (.int (k:Int))),some (.val .non)]=.ok (.int (k:Int)):=by
  show vR (.int (k:Int))=_;exact if_pos ⟨by omega,by omega⟩
 have q1:(cP ‹"h"› (bU "NoCarry" "at" (lJ (aj 3))) Out.nxt) [some (.arg O),some (.arg G),some (.own told),some (.val (.int (k:Int))),some (.val .non)]=.err ⟨"NoCarry",some ("at",.int (k:Int))⟩ [some (.arg O),some (.arg G),some (.own told),some (.val (.int (k:Int))),some (.val .non)]:=by
  have rf:bU "NoCarry" "at" (lJ (aj 3)) [some (.arg O),some (.arg G),some (.own told),some (.val (.int (k:Int))),some (.val .non)]=.err ⟨"NoCarry",some ("at",.int (k:Int))⟩ [some (.arg O),some (.arg G),some (.own told),some (.val (.int (k:Int))),some (.val .non)]:=by
   unfold bU; rw [sm]
  simp only [ap_if,ap_bT,ap_two,sl4,vw_val,bnd_ok,Eu,bool_ok,ont_ok,↓reduceIte,rf]
 refine ⟨[some (.arg O),some (.arg G),some (.own told),some (.val (.int (k:Int))),some (.val .non)],?_⟩;rw [ap_seq,q0,sq_nxt,ap_seq,q1,sq_err]
end
theorem Ti {t:du} {b:DS->Out} {d:D} {ds:List D} {δ δ1 δ2:DS} (h1:t d δ=some δ1) (h2:b δ1=.nxt δ2):fG t b (d :: ds) δ=fG t b ds δ2:=by
 rw [fG,h1];dsimp only;rw [h2]
theorem Tj {t:du} {b:DS->Out} {d:D} {ds:List D} {δ δ1 δ2:DS} {x:Exn} (h1:t d δ=some δ1) (h2:b δ1=.err x δ2):fG t b (d :: ds) δ=.err x δ2:=by
 rw [fG,h1];dsimp only;rw [h2]
theorem Tp {l:Nat} (h:l<=3):t_ l 10 12=true:=by
 have:l=0\/l=1\/l=2\/l=3:=by omega
 rcases this with z | z | z | z <;> subst z <;> decide +kernel
theorem Tq {l:Nat} (h:l<=3):rW l 10=true:=by
 have:l=0\/l=1\/l=2\/l=3:=by omega
 rcases this with z | z | z | z <;> subst z <;> decide +kernel
abbrev vA (k:Nat):List D:=((List.range k).map fun (j:Nat)=>(j:Int)).map .int
theorem Tr (k:Nat) (L:List D):vA (k + 1) ++ L=vA k ++ (.int (k:Int) :: L):=by
 show ((List.range (k + 1)).map _).map _ ++ L=_;rw [range_succ,map_append,map_append,append_assoc]; rfl
section
variable {rsn:List (List Int)} {Fn:OF} {ofn:List Int->Fn.C} {rs:List (List Int)} {F:OF} {of:List Int->F.C} {told:List D} {φ:F.C->Fn.C} {O:D}
noncomputable def At (O:D) (rs:List (List Int)):Prop:=∀(pre:List (List Int)) (r:List Int) (post:List (List Int)),rs=pre ++ r :: post->bJ O (.int (post.length:Int))=.ok (TI r)
theorem At.tail {r:List Int} (h:At O (r :: rs)):At O rs:=fun pre u post e=>h (r :: pre) u post (by rw [e]; rfl)
theorem At.head {r:List Int} (h:At O (r :: rs)):bJ O (.int (rs.length:Int))=.ok (TI r):=h [] r rs rfl
theorem mA' (more rs:List (List Int)):At (RT (more ++ rs)) rs:=fun pre r post e=>by
 subst e;refine ix_tup _ _ _ ?_;rw [List.getElem?_map,reverse_append,reverse_append,reverse_cons,append_assoc,append_assoc];rw [List.getElem?_append_right (by rw [length_reverse]; exact Nat.le_refl _),length_reverse,Nat.sub_self];rfl
theorem J5 (Tn:Tow rsn Fn ofn) (hn3:rsn.length<=3) (hrn:∀r∈rsn,Bd 10 r) (h:PG ofn rsn.length rs F of told φ) (h3:rs.length<=2) {r:List Int} (lr:r.length=2 ^ rs.length) (br:Bd 10 r) {e:D} (he:Nm ofn rsn.length 10 e (φ (of r))):jx [RT rsn,.lst told,.tup [TI r,.int 1]]=.ok e:=by
 obtain ⟨e',e1,e2⟩:=op' Tn hn3 hrn h 4 10 (num r 1) (of r) (by omega) (by omega) (by decide) (vq (rs:=rs) (of:=of) (fun _=>rfl) lr br);rw [jL Tn he e2]; exact e1
theorem J6 (Tn:Tow rsn Fn ofn) (hn3:rsn.length<=3) (hrn:∀r∈rsn,Bd 10 r) (h:PG ofn rsn.length rs F of told φ):rs.length<=3->At O rs->aG told=true/\∀(rest:List D) (s3 s4:Option SV),∃s3' s4',fG (bC 3) (aA ‹"O"› (aA (cP ‹"h"› (bU "NoCarry" "at" (lJ (aj 3))) Out.nxt) (iI 2 (aj 4)))) (vA rs.length ++ rest) [some (.arg O),some (.arg (RT rsn)),some (.own []),s3,s4]=fG (bC 3) (aA ‹"O"› (aA (cP ‹"h"› (bU "NoCarry" "at" (lJ (aj 3))) Out.nxt) (iI 2 (aj 4)))) rest [some (.arg O),some (.arg (RT rsn)),some (.own told),s3',s4']:=by
 induction h with
 | nil _=>intro _ _; exact ⟨rfl,fun rest s3 s4=>⟨s3,s4,rfl⟩⟩
 | @cons rs F of told φ r hr hn dg eg g hp lr br hd g0 gg he ih =>
  intro h3 hO;have h3':rs.length + 1<=3:=h3;obtain ⟨fl,ih⟩:=ih (by omega) hO.tail;refine ⟨Te fl (Td hd),fun rest s3 s4=>?_⟩;obtain ⟨s3',s4',e⟩:=ih (.int (rs.length:Int) :: rest) s3 s4;have pu:=J5 Tn hn3 hrn hp (by omega) lr br he;obtain ⟨rtA,_⟩:=JX Tn hn3 hrn 4 (by omega);have ro:kE [RT rsn,eg]=.ok dg:=rtA 10 12 eg dg _ g he hd gg g0 (Tp hn3);obtain ⟨w,b,rfl⟩:=z9 hd;refine ⟨some (.val (.int (rs.length:Int))),some (.val (num w b)),?_⟩;rw [length_cons,Tr,e];exact Ti (δ1:=[some (.arg O),some (.arg (RT rsn)),some (.own told),some (.val (.int (rs.length:Int))),s4']) rfl (Tg hO.head pu ro fl (by rw [hp.len]; omega))
theorem J7 {c:Nat} (c3:c<=3) {G:D} (ln:cF [O]=.ok (.int (c:Int))) {out:Out} (h:fG (bC 3) (aA ‹"O"› (aA (cP ‹"h"› (bU "NoCarry" "at" (lJ (aj 3))) Out.nxt) (iI 2 (aj 4)))) (vA c) [some (.arg O),some (.arg G),some (.own []),none,none]=out):nF [O,G]=outD (match out with | .nxt δ'=>aJ (aj 2) δ' | o=>o):=by
 show outD (qZ [some (.arg O),some (.arg G),none,none,none])=_;unfold qZ;have rg:=dc' c (by omega);have q0:g_ 2 ‹""› [some (.arg O),some (.arg G),none,none,none]=.nxt [some (.arg O),some (.arg G),some (.own []),none,none]:=rfl;have q1:jV dh (bC 3) ‹"w"› (aA ‹"O"› (aA (cP ‹"h"› (bU "NoCarry" "at" (lJ (aj 3))) Out.nxt) (iI 2 (aj 4)))) [some (.arg O),some (.arg G),some (.own []),none,none]=out:=by
  unfold jV;have a:ak ‹"f"› ‹""› [some (.arg O),some (.arg G),some (.own []),none,none]=.ok [.int (c:Int)]:=by push_cast [ln]
  rw [a,Res.bind_ok,rg,onl_ok]; exact h
 rw [ap_seq,q0,sq_nxt,ap_seq,q1]
 cases out <;> rfl
theorem ov' (Tn:Tow rsn Fn ofn) (hn3:rsn.length<=3) (hrn:∀r∈rsn,Bd 10 r) (h:PG ofn rsn.length rs F of told φ) (h3:rs.length<=3) (hO:At O rs) (ln:cF [O]=.ok (.int (rs.length:Int))):nF [O,RT rsn]=.ok (.lst told):=by
 obtain ⟨_,lp⟩:=J6 (O:=O) Tn hn3 hrn h h3 hO;obtain ⟨s3,s4,e⟩:=lp [] none none;rw [append_nil] at e;exact (J7 h3 ln e).trans rfl
theorem Tt (Tn:Tow rsn Fn ofn) (hn3:rsn.length<=3) (hrn:∀r∈rsn,Bd 10 r) (h:PG ofn rsn.length rs F of told φ) (h3:rs.length<=3) (hO:At O rs) (ln:cF [O]=.ok (.int (rs.length:Int))) {P:Nat} (hP:P<=100) {d:D} {x:F.C} (hx:Nm of rs.length P d x):∃e,gH [O,RT rsn,d]=.ok e/\Nm ofn rsn.length (pb rs.length P) e (φ x):=by
 have cr:=ov' Tn hn3 hrn h h3 hO ln;obtain ⟨e,e1,e2⟩:=op' Tn hn3 hrn h 4 P d x (by omega) h3 hP hx;have e1':jx [RT rsn,.lst told,d]=.ok e:=e1;refine ⟨e,?_,e2⟩;show outD (lY [some (.arg O),some (.arg (RT rsn)),some (.arg d)])=_;unfold lY;generalize RT rsn=G at *;push_cast [cr,e1']
theorem ox' (Tn:Tow rsn Fn ofn) (hn3:rsn.length<=3) (hrn:∀r∈rsn,Bd 10 r) (h:PG ofn rsn.length rs F of told φ) {c:Nat} (c3:c<=3) (hc:rs.length < c) {r:List Int} (hO:At O (r :: rs)) (ln:cF [O]=.ok (.int (c:Int))) (lr:r.length=2 ^ rs.length) (br:Bd 10 r) {e:D} (he:Nm ofn rsn.length 10 e (φ (of r))) (hz:∀z:Fn.C,z * z≠φ (of r)) (d:D):gH [O,RT rsn,d]=.err ⟨"NoCarry",some ("at",.int (rs.length:Int))⟩:=by
 obtain ⟨_,lp⟩:=J6 (O:=O) Tn hn3 hrn h (by omega) hO.tail;have pu:=J5 Tn hn3 hrn h (by omega) lr br he;obtain ⟨_,rtB⟩:=JX Tn hn3 hrn 4 (by omega);have ro:kE [RT rsn,e]=.ok .non:=rtB 10 e _ he hz (Tq hn3);obtain ⟨rest,er⟩:∃rest,vA c=vA rs.length ++ (.int (rs.length:Int) :: rest):=by
  have q:(rs.length=0/\c=1)\/(rs.length=0/\c=2)\/(rs.length=0/\c=3)\/(rs.length=1/\c=2)\/(rs.length=1/\c=3)\/(rs.length=2/\c=3):=by omega
  rcases q with ⟨a,b⟩ | ⟨a,b⟩ | ⟨a,b⟩ | ⟨a,b⟩ | ⟨a,b⟩ | ⟨a,b⟩ <;> rw [a,b] <;> exact ⟨_,rfl⟩
 obtain ⟨s3,s4,e1⟩:=lp (.int (rs.length:Int) :: rest) none none;obtain ⟨δ',e2⟩:=Th (s4:=s4) (show rs.length<=3 by omega) hO.head pu ro;have e3:=Tj (ds:=rest) (t:=bC 3) (d:=.int (rs.length:Int)) (δ:=[some (.arg O),some (.arg (RT rsn)),some (.own told),s3,s4]) rfl e2;have e4:=e1.trans e3;rw [<- er] at e4;have cr:nF [O,RT rsn]=.err ⟨"NoCarry",some ("at",.int (rs.length:Int))⟩:=(J7 c3 ln e4).trans rfl;show outD (lY [some (.arg O),some (.arg (RT rsn)),some (.arg d)])=_;unfold lY;generalize RT rsn=G at *;push_cast [cr]
end
structure Sit (O N:D) (c due:Nat):Prop where
 no:∀d,gH [O,N,d]=.err ⟨"NoCarry",some ("at",.int (due:Int))⟩
 ln:cF [O]=.ok (.int (c:Int))
 c3:1<=c/\c<=3
 id:∃rs F,∃of:List Int->F.C,Tow rs F of/\rs.length=c/\∀d x,Nm of rs.length 100 d x->gH [O,O,d]=.ok d
theorem J8 {rs:List (List Int)} {F:OF} {of:List Int->F.C} (T:Tow rs F of) (h3:rs.length<=3) (hb:∀r∈rs,Bd 10 r) {d:D} {x:F.C} (hx:Nm of rs.length 100 d x):gH [RT rs,RT rs,d]=.ok d:=by
 obtain ⟨told,h⟩:=self T h3 hb;have hat:At (RT rs) rs:=mA' [] rs;have q:=@Tt rs F of rs F of told (fun x=>x) (RT rs) T h3 hb h h3 hat (dx' rs) 100 (Nat.le_refl 100) d x hx;obtain ⟨e,e1,e2⟩:=q;have ee:=jL T hx e2;rw [<- ee] at e1; exact e1
theorem Aa {r:List Int} {rs:List (List Int)}:∀(more:List (List Int)) {F:OF} {of:List Int->F.C},Tow (more ++ r :: rs) F of->∃(F':OF) (of':List Int->F'.C),Tow rs F' of'/\r.length=2 ^ rs.length/\∀z:F'.C,z * z≠of' r
 | [],F,of,T=>by
  cases T with
  | cons T _ hl hr hn=>exact ⟨_,_,T,hl,hn⟩
 | m :: more,F,of,T=>by
  cases T with
  | cons T _ hl hr hn=>exact Aa more T
theorem hg' {more:List (List Int)} {r:List Int} {rs:List (List Int)} {F:OF} {of:List Int->F.C} (T:Tow (more ++ r :: rs) F of) (h3:(more ++ r :: rs).length<=3) (hb:∀u∈more ++ r :: rs,Bd 10 u):Sit (RT (more ++ r :: rs)) (RT rs) (more ++ r :: rs).length rs.length:=by
 have l3:more.length + (rs.length + 1)<=3:=by rw [length_append,length_cons] at h3; exact h3
 obtain ⟨F',of',T',lr,hz⟩:=Aa more T;have hb':∀u∈rs,Bd 10 u:=fun u hu=>hb u (mem_append_right _ (mem_cons_of_mem _ hu));have br:Bd 10 r:=hb r (mem_append_right _ (mem_cons_self ..));obtain ⟨told,h⟩:=self T' (by omega) hb';refine ⟨fun d=>?_,dx' _,⟨by rw [length_append,length_cons]; omega,h3⟩,_,F,of,T,rfl,fun d x hx=>J8 T h3 hb hx⟩;exact ox' T' (by omega) hb' h h3 (by rw [length_append,length_cons]; omega) (mA' more (r :: rs)) (dx' _) lr br (vq (rs:=rs) (of:=of') (fun _=>rfl) lr br) hz d
noncomputable def fH:List (Int×Int)->List (List Int)
 | []=>[]
 | q :: L=>(q.1 * q.2 * q.2 :: List.replicate (2 ^ L.length - 1) 0) :: fH L
theorem mK:∀L:List (Int×Int),(fH L).length=L.length
 | []=>rfl
 | _ :: L=>by rw [fH,length_cons,mK L]; rfl
abbrev iW:List Int:=[2,3,5,7,11,13]
structure IT (L:List (Int×Int)):Prop where
 p:∀q∈L,q.1∈iW
 s:∀q∈L,1<=q.2/\q.2<=5
 nd:(L.map (·.1)).Nodup
theorem Bx:∀a∈iW,∃r∈List.range 71,(r:Int) * r < a/\a < ((r:Int) + 1) * ((r:Int) + 1):=by decide +kernel
theorem v9:∀a∈iW,∀b∈iW,a≠b->∃r∈List.range 71,(r:Int) * r < a * b/\a * b < ((r:Int) + 1) * ((r:Int) + 1):=by decide +kernel
theorem By:∀a∈iW,∀b∈iW,∀c∈iW,a≠b->a≠c->b≠c->∃r∈List.range 71,(r:Int) * r < a * b * c/\a * b * c < ((r:Int) + 1) * ((r:Int) + 1):=by decide +kernel
theorem Tu:∀a∈iW,∀b∈iW,∀c∈iW,∀d∈iW,a≠b->a≠c->a≠d->b≠c->b≠d->c≠d->∃r∈List.range 71,(r:Int) * r < a * b * c * d/\a * b * c * d < ((r:Int) + 1) * ((r:Int) + 1):=by decide +kernel
theorem Tv {n:Int} (h:∃r∈List.range 71,(r:Int) * r < n/\n < ((r:Int) + 1) * ((r:Int) + 1)):NS (F:=ratOF) ((n:Int):Rat):=by
 obtain ⟨r,_,h1,h2⟩:=h;exact gd' (by omega) h1 h2
theorem Ft {F:OF} {z c a:F.C} (hc:c≠0) (e:z * z=a * (c * c)):z / c * (z / c)=a:=by grind
theorem Tw {n c:Int} (hc:c≠0) (h:NS (F:=ratOF) ((n:Int):ratOF.C)):NS (F:=ratOF) (((n * (c * c):Int)):ratOF.C):=fun z e=>by
 rw [Ring.intCast_mul,Ring.intCast_mul] at e;exact h _ (Ft (as' Tow.nil hc) e)
noncomputable def BJ (m:Int):List (Int×Int)->Prop
 | []=>NS (F:=ratOF) ((m:Int):ratOF.C)
 | q :: L=>BJ m L/\BJ (m * (q.1 * q.2 * q.2)) L
theorem Fv {L:List (Int×Int)}:∀{F:OF} {of:List Int->F.C},Tow (fH L) F of->∀m:Int,BJ m L->NS ((m:Int):F.C):=by
 induction L with
 | nil =>
  intro F of T m h
  cases T
  exact h
 | cons q L ih =>
  intro F of T m h
  cases T with
  | cons T _ hl hr hn =>
   have er:=mz T (q.1 * q.2 * q.2);rw [mK] at er;exact Q0 T er (ih T m h.1) (ih T _ h.2)
theorem lZ {n c m:Int} (e:m=n * (c * c)) (hc:1<=c) (h:∃r∈List.range 71,(r:Int) * r < n/\n < ((r:Int) + 1) * ((r:Int) + 1)):NS (F:=ratOF) ((m:Int):ratOF.C):=by
 rw [e]; exact Tw (by omega) (Tv h)
theorem pos2 {a b:Int} (ha:1<=a) (hb:1<=b):1<=a * b:=Int.mul_pos (by omega) (by omega)
theorem IT.tail {q:Int×Int} {L:List (Int×Int)} (h:IT (q :: L)):IT L:=⟨fun u hu=>h.p u (mem_cons_of_mem _ hu),fun u hu=>h.s u (mem_cons_of_mem _ hu),(nodup_cons.mp h.nd).2⟩
theorem Fw {q:Int×Int} {L:List (Int×Int)} (h:IT (q :: L)) (h3:L.length<=3):BJ (q.1 * q.2 * q.2) L:=by
 match L,h3,h with
 | [],_,h =>
  have s0:=(h.s q (by simp)).1;exact lZ (n:=q.1) (c:=q.2) (by grind) s0 (Bx _ (h.p q (by simp)))
 | [a],_,h =>
  have nd:=h.nd;simp only [map_cons,map_nil,nodup_cons,mem_cons,not_mem_nil,or_false,not_false_eq_true,nodup_nil,and_true] at nd;have s0:=(h.s q (by simp)).1;have s1:=(h.s a (by simp)).1;have p0:=h.p q (by simp);have p1:=h.p a (by simp);exact ⟨lZ (n:=q.1) (c:=q.2) (by grind) s0 (Bx _ p0),lZ (n:=q.1 * a.1) (c:=q.2 * a.2) (by grind) (pos2 s0 s1) (v9 _ p0 _ p1 nd)⟩
 | [a,b],_,h =>
  have nd:=h.nd;simp only [map_cons,map_nil,nodup_cons,mem_cons,not_mem_nil,or_false,_root_.not_or,not_false_eq_true,nodup_nil,and_true] at nd;obtain ⟨⟨n1,n2⟩,n3⟩:=nd;have s0:=(h.s q (by simp)).1;have s1:=(h.s a (by simp)).1;have s2:=(h.s b (by simp)).1;have p0:=h.p q (by simp);have p1:=h.p a (by simp);have p2:=h.p b (by simp);exact ⟨⟨lZ (n:=q.1) (c:=q.2) (by grind) s0 (Bx _ p0),lZ (n:=q.1 * b.1) (c:=q.2 * b.2) (by grind) (pos2 s0 s2) (v9 _ p0 _ p2 n2)⟩,lZ (n:=q.1 * a.1) (c:=q.2 * a.2) (by grind) (pos2 s0 s1) (v9 _ p0 _ p1 n1),lZ (n:=q.1 * a.1 * b.1) (c:=q.2 * a.2 * b.2) (by grind) (pos2 (pos2 s0 s1) s2) (By _ p0 _ p1 _ p2 n1 n2 n3)⟩
 | [a,b,c],_,h =>
  have nd:=h.nd;simp only [map_cons,map_nil,nodup_cons,mem_cons,not_mem_nil,or_false,_root_.not_or,not_false_eq_true,nodup_nil,and_true] at nd;obtain ⟨⟨n1,n2,n3⟩,⟨n4,n5⟩,n6⟩:=nd;have s0:=(h.s q (by simp)).1;have s1:=(h.s a (by simp)).1;have s2:=(h.s b (by simp)).1;have s3:=(h.s c (by simp)).1;have p0:=h.p q (by simp);have p1:=h.p a (by simp);have p2:=h.p b (by simp);have p3:=h.p c (by simp);refine ⟨⟨⟨lZ (n:=q.1) (c:=q.2) (by grind) s0 (Bx _ p0),lZ (n:=q.1 * c.1) (c:=q.2 * c.2) (by grind) (pos2 s0 s3) (v9 _ p0 _ p3 n3)⟩,lZ (n:=q.1 * b.1) (c:=q.2 * b.2) (by grind) (pos2 s0 s2) (v9 _ p0 _ p2 n2),lZ (n:=q.1 * b.1 * c.1) (c:=q.2 * b.2 * c.2) (by grind) (pos2 (pos2 s0 s2) s3) (By _ p0 _ p2 _ p3 n2 n3 n6)⟩,⟨lZ (n:=q.1 * a.1) (c:=q.2 * a.2) (by grind) (pos2 s0 s1) (v9 _ p0 _ p1 n1),lZ (n:=q.1 * a.1 * c.1) (c:=q.2 * a.2 * c.2) (by grind) (pos2 (pos2 s0 s1) s3) (By _ p0 _ p1 _ p3 n1 n3 n5)⟩,lZ (n:=q.1 * a.1 * b.1) (c:=q.2 * a.2 * b.2) (by grind) (pos2 (pos2 s0 s1) s2) (By _ p0 _ p1 _ p2 n1 n2 n4),lZ (n:=q.1 * a.1 * b.1 * c.1) (c:=q.2 * a.2 * b.2 * c.2) (by grind) (pos2 (pos2 (pos2 s0 s1) s2) s3) (Tu _ p0 _ p1 _ p2 _ p3 n1 n2 n3 n4 n5 n6)⟩
theorem uc {q:Int×Int} {L:List (Int×Int)} (h:IT L) (hq:q∈L):0 < q.1 * q.2 * q.2/\(q.1 * q.2 * q.2).natAbs < 2 ^ 10:=by
 have a:2<=q.1/\q.1<=13:=by
  have:=h.p q hq;simp only [iW,mem_cons,not_mem_nil,or_false] at this;omega
 have b:=h.s q hq;have m1:q.1 * q.2<=13 * 5:=Int.mul_le_mul a.2 b.2 (by omega) (by decide);have m0:0 < q.1 * q.2:=Int.mul_pos (by omega) (by omega);have m2:q.1 * q.2 * q.2<=13 * 5 * 5:=Int.mul_le_mul m1 b.2 (by omega) (by decide);have m3:0 < q.1 * q.2 * q.2:=Int.mul_pos m0 (by omega);have e:(2:Nat) ^ 10=1024:=by decide
 exact ⟨m3,by omega⟩
theorem Ab:∀{L:List (Int×Int)},IT L->∀r∈fH L,Bd 10 r
 | [],_,r,hr=>absurd hr (by simp [fH])
 | q :: L,h,r,hr=>by
  rcases mem_cons.mp hr with z | z
  ·rw [z];intro t ht;rcases mem_cons.mp ht with w | w
   ·rw [w]; exact (uc h (by simp)).2
   ·rw [eq_of_mem_replicate w]; decide
  ·exact Ab h.tail r z
theorem Fx:∀{L:List (Int×Int)},IT L->L.length<=3->∃(F:OF) (of:List Int->F.C),Tow (fH L) F of
 | [],_,_=>⟨_,_,Tow.nil⟩
 | q :: L,h,h3=>by
  have h3':L.length + 1<=3:=h3;obtain ⟨F,of,T⟩:=Fx h.tail (by omega);have er:=mz T (q.1 * q.2 * q.2);rw [mK] at er;refine ⟨_,_,Tow.cons T _ ?_ ?_ ?_⟩
  ·rw [mK,length_cons,length_replicate];have:=Nat.two_pow_pos L.length;omega
  ·rw [er]; exact jX T (uc h (by simp)).1
  ·rw [er]; exact Fv T _ (Fw h (by omega))
theorem Tz {rs:List (List Int)} {F:OF} {of:List Int->F.C} (T:Tow rs F of):∃φ:ratOF.C->F.C,Hm φ:=by
 induction T with
 | nil=>exact ⟨fun a=>a,Jc⟩
 | cons T r hl hr hn ih=>obtain ⟨φ,h⟩:=ih; exact ⟨_,J0 h⟩
theorem sw {q:Int×Int}:∀{L:List (Int×Int)} {F:OF} {of:List Int->F.C},Tow (fH L) F of->q∈L->∃w:List Int,w.length=2 ^ L.length/\Bd 1 w/\0<=of w/\of w * of w=((q.1 * q.2 * q.2:Int):F.C)
 | [],_,_,_,hq=>absurd hq (by simp)
 | u :: L,F,of,T,hq=>by
  cases T with
  | @cons _ F of T _ hl hr hn =>
   have er:=mz T (u.1 * u.2 * u.2);have ez:=vX T;have e1:=mz T 1;rw [mK] at er ez e1;have p2:=Nat.two_pow_pos L.length
   by_cases c:q=u
   ·subst c;have lz:(List.replicate (2 ^ L.length) (0:Int)).length=((1:Int) :: List.replicate (2 ^ L.length - 1) 0).length:=by simp; omega
    have ge:aR of (q.1 * q.2 * q.2 :: List.replicate (2 ^ L.length - 1) 0) hr hn (List.replicate (2 ^ L.length) 0 ++ (1 :: List.replicate (2 ^ L.length - 1) 0))=gen hr hn:=by
     refine Ext.eqs (r:=of (q.1 * q.2 * q.2 :: List.replicate (2 ^ L.length - 1) 0)) ?_ ?_
     ·show of (aQ _)=0;rw [rQ lz,ez]
     ·show of (aU _)=1;rw [rR lz,e1,Ring.intCast_one]
    refine ⟨List.replicate (2 ^ L.length) 0 ++ (1 :: List.replicate (2 ^ L.length - 1) 0),?_,?_,?_,?_⟩
    ·rw [length_append,<- lz,length_replicate,length_cons,Nat.pow_succ]; omega
    ·intro t ht;rcases mem_append.mp ht with z | z
     ·rw [eq_of_mem_replicate z]; decide
     ·rcases mem_cons.mp z with z | z
      ·rw [z]; decide
      ·rw [eq_of_mem_replicate z]; decide
    ·rw [ge]; exact J2
    ·rw [ge,J1];exact Ext.eqs (r:=of (q.1 * q.2 * q.2 :: List.replicate (2 ^ L.length - 1) 0)) er rfl
   ·have hq':q∈L:=by
     rcases mem_cons.mp hq with z | z
     ·exact (c z).elim
     ·exact z
    obtain ⟨w,lw,bw,w0,ww⟩:=sw T hq';have lz:w.length=(List.replicate (2 ^ L.length) (0:Int)).length:=by rw [lw,length_replicate]
    have ge:aR of (u.1 * u.2 * u.2 :: List.replicate (2 ^ L.length - 1) 0) hr hn (w ++ List.replicate (2 ^ L.length) 0)=em (of w):=by
     refine Ext.eqs (r:=of (u.1 * u.2 * u.2 :: List.replicate (2 ^ L.length - 1) 0)) ?_ ?_
     ·show of (aQ _)=of w;rw [rQ lz]
     ·show of (aU _)=0;rw [rR lz,ez]
    refine ⟨w ++ List.replicate (2 ^ L.length) 0,?_,?_,?_,?_⟩
    ·rw [length_append,<- lz,lw,length_cons,Nat.pow_succ]; omega
    ·intro t ht;rcases mem_append.mp ht with z | z
     ·exact bw t z
     ·rw [eq_of_mem_replicate z]; decide
    ·rw [ge]; exact JZ w0
    ·rw [ge,<- vZ,ww]; rfl
theorem Fy {F:OF} {s t G p:F.C} (t0:t≠0) (h:G * G=p * t * t):s * G / t * (s * G / t)=p * s * s:=by grind
theorem Fz {F:OF} {s t G:F.C} (s0:0 < s) (t0:0 < t) (h:0<=G):0<=s * G / t:=by
 have q:=jG (show 0<=s by grind) h;have e:s * G / t * t=s * G:=by grind
 by_cases c:0<=s * G / t
 ·exact c
 ·exfalso;have:=cO (a:=-(s * G / t)) (b:=t) (by grind) t0
  grind
theorem TF {N:List (Int×Int)} {F:OF} {of:List Int->F.C} (T:Tow (fH N) F of) (hN:IT N) {p s t:Int} (hs:1<=s/\s<=5) (ht:(p,t)∈N):∃d g,Nm of (fH N).length 12 d g/\0<=g/\g * g=((p * s * s:Int):F.C):=by
 obtain ⟨w,lw,bw,w0,ww⟩:=sw T ht;have t1:=hN.s _ ht;have t1':1<=t/\t<=5:=t1;have lw':w.length=2 ^ (fH N).length:=by rw [mK]; exact lw
 have bs:Bd 12 (w.map (s * ·)):=fun u hu=>by
  obtain ⟨v,hv,rfl⟩:=mem_map.mp hu;have:=bw v hv;rw [Int.natAbs_mul];have h1:s.natAbs<=5:=by omega
  have h2:v.natAbs<=1:=by have e:(2:Nat) ^ 1=2:=rfl; omega
  have:=Nat.mul_le_mul h1 h2;have e:(2:Nat) ^ 12=4096:=by decide
  omega
 have t12:t.natAbs < 2 ^ 12:=by
  have e:(2:Nat) ^ 12=4096:=by decide
  omega
 obtain ⟨K,x,c,_,_,_,_,_,_,nm⟩:=ca' T (ts:=w.map (s * ·)) (b:=t) (n:=12) (by rw [length_map]; exact lw') (by omega) bs t12;have sc:=jK T s lw';rw [sc] at nm;refine ⟨_,_,nm,Fz (jX T (by omega)) (jX T (by omega)) w0,?_⟩;have ww':of w * of w=(p:F.C) * (t:F.C) * (t:F.C):=by rw [ww,Ring.intCast_mul,Ring.intCast_mul]
 rw [Fy (as' T (by omega)) ww',Ring.intCast_mul,Ring.intCast_mul]
theorem PG.int {Fn:OF} {ofn:List Int->Fn.C} {n:Nat} {rs:List (List Int)} {F:OF} {of:List Int->F.C} {told:List D} {φ:F.C->Fn.C} (h:PG ofn n rs F of told φ):∀m:Int,φ (m:F.C)=(m:Fn.C):=by
 induction h with
 | nil hφ=>exact hφ.int
 | @cons rs F of told φ r hr hn dg eg g hp lr br hd g0 gg he ih =>
  intro m;have z:φ (0:F.C)=0:=by have:=ih 0; rwa [Ring.intCast_zero,Ring.intCast_zero] at this
  show φ (m:F.C) + φ (0:F.C) * g=_;rw [ih,z]; grind
theorem J9 {N:List (Int×Int)} {Fn:OF} {ofn:List Int->Fn.C} (Tn:Tow (fH N) Fn ofn) (hN:IT N):∀{L:List (Int×Int)},IT L->L.length<=3->(∀q∈L,∃t,(q.1,t)∈N)->∃(F:OF) (of:List Int->F.C) (told:List D) (φ:F.C->Fn.C),PG ofn (fH N).length (fH L) F of told φ
 | [],_,_,_=>by
  obtain ⟨φ,h⟩:=Tz Tn;exact ⟨_,_,[],φ,PG.nil h⟩
 | q :: L,h,h3,hq=>by
  have h3':L.length + 1<=3:=h3;obtain ⟨F,of,told,φ,hp⟩:=J9 Tn hN h.tail (by omega) fun u hu=>hq u (mem_cons_of_mem _ hu);have T:=hp.tow;have er:=mz T (q.1 * q.2 * q.2);rw [mK] at er;obtain ⟨t,ht⟩:=hq q (by simp);obtain ⟨d,g,nd,g0,gg⟩:=TF Tn hN (h.s q (by simp)) ht;have pb:=uc h (show q∈q :: L by simp);have lr:(q.1 * q.2 * q.2 :: List.replicate (2 ^ L.length - 1) 0).length=2 ^ (fH L).length:=by
   rw [mK,length_cons,length_replicate];have:=Nat.two_pow_pos L.length;omega
  have ei:φ (of (q.1 * q.2 * q.2 :: List.replicate (2 ^ L.length - 1) 0))=((q.1 * q.2 * q.2:Int):Fn.C):=by rw [er,hp.int]
  have hr:0 < of (q.1 * q.2 * q.2 :: List.replicate (2 ^ L.length - 1) 0):=by rw [er]; exact jX T pb.1
  have hn:∀z:F.C,z * z≠of (q.1 * q.2 * q.2 :: List.replicate (2 ^ L.length - 1) 0):=by rw [er]; exact Fv T _ (Fw h (by omega))
  exact ⟨_,_,_,_,PG.cons (hr:=hr) (hn:=hn) hp lr (Ab h _ (by simp [fH])) nd g0 (gg.trans ei.symm) (by rw [ei]; exact Be Tn (by decide) pb.2)⟩
theorem J_ (L:List (Int×Int)):∀more:List (Int×Int),∃pre,fH (more ++ L)=pre ++ fH L/\pre.length=more.length
 | []=>⟨[],rfl,rfl⟩
 | q :: more=>by
  obtain ⟨pre,e,el⟩:=J_ L more;exact ⟨_ :: pre,by rw [cons_append,fH,e]; rfl,by rw [length_cons,el]; rfl⟩
theorem hh' {more:List (Int×Int)} {q:Int×Int} {L N:List (Int×Int)} (hO:IT (more ++ q :: L)) (hN:IT N) (l3:(more ++ q :: L).length<=3) (n3:N.length<=3) (hL:∀u∈L,∃t,(u.1,t)∈N) (hq:q.1∉N.map (·.1)):Sit (RT (fH (more ++ q :: L))) (RT (fH N)) (more ++ q :: L).length L.length:=by
 have l3':more.length + (L.length + 1)<=3:=by rw [length_append,length_cons] at l3; exact l3
 obtain ⟨Fn,ofn,Tn⟩:=Fx hN n3;obtain ⟨Fo,ofo,To⟩:=Fx hO l3;have hqL:IT (q :: L):=⟨fun u hu=>hO.p u (mem_append_right _ hu),fun u hu=>hO.s u (mem_append_right _ hu),by
  have:=hO.nd;rw [map_append] at this;exact (nodup_append.mp this).2.1⟩
 obtain ⟨F,of,told,φ,hp⟩:=J9 Tn hN hqL.tail (by omega) hL;have T:=hp.tow;have er:=mz T (q.1 * q.2 * q.2);rw [mK] at er;have ei:φ (of (q.1 * q.2 * q.2 :: List.replicate (2 ^ L.length - 1) 0))=((q.1 * q.2 * q.2:Int):Fn.C):=by rw [er,hp.int]
 have pb:=uc hqL (show q∈q :: L by simp);have lr:(q.1 * q.2 * q.2 :: List.replicate (2 ^ L.length - 1) 0).length=2 ^ (fH L).length:=by
  rw [mK,length_cons,length_replicate];have:=Nat.two_pow_pos L.length;omega
 have hqN:IT (q :: N):=⟨fun u hu=>by
  rcases mem_cons.mp hu with z | z
  ·rw [z]; exact hqL.p q (by simp)
  ·exact hN.p u z,fun u hu=>by
  rcases mem_cons.mp hu with z | z
  ·rw [z]; exact hqL.s q (by simp)
  ·exact hN.s u z,by rw [map_cons]; exact nodup_cons.mpr ⟨hq,hN.nd⟩⟩
 obtain ⟨pre,epre,lpre⟩:=J_ (q :: L) more;have hat:=mA' pre (fH (q :: L));rw [<- epre] at hat;have ll:(fH (more ++ q :: L)).length=(more ++ q :: L).length:=mK _;have lnO:=dx' (fH (more ++ q :: L));rw [ll] at lnO;refine ⟨fun d=>?_,lnO,⟨by rw [length_append,length_cons]; omega,l3⟩,_,Fo,ofo,To,ll,fun d x hx=>J8 To (by rw [ll]; exact l3) (Ab hO) hx⟩;have:=ox' (rs:=fH L) Tn (by rw [mK]; exact n3) (Ab hN) hp l3 (by rw [mK,length_append,length_cons]; omega) hat lnO lr (Ab hqL _ (by simp [fH])) (e:=num ((q.1 * q.2 * q.2) :: List.replicate (2 ^ (fH N).length - 1) 0) 1) (by rw [ei]; exact Be Tn (by decide) pb.2) (by rw [ei]; exact Fv Tn _ (Fw hqN n3)) d;rw [mK] at this;exact this
theorem FJ {a b:Int} (h:a.natAbs < 2 ^ 64):di (.int a) (.int b)=.ok (.int (a * b)):=by
 unfold di;exact if_pos (.inr (.inl (intBits_le h)))
theorem Ka (f:Int->D):∀(l:List Int) (j:Nat),(l.map f).eraseIdx j=(l.eraseIdx j).map f
 | [],_=>rfl
 | a :: l,0=>rfl
 | a :: l,j + 1=>by
  show f a :: (l.map f).eraseIdx j=f a :: (l.eraseIdx j).map f;rw [Ka f l j]
theorem Kc:∀(l:List Int) (j:Nat) (h:j < l.length),(l[j] :: l.eraseIdx j).Perm l
 | a :: l,0,_=>List.Perm.refl _
 | a :: l,j + 1,h=>by
  have hj:j < l.length:=by simpa using h
  have ih:=Kc l j hj;show (l[j] :: a :: l.eraseIdx j).Perm (a :: l);exact (List.Perm.swap a l[j] _).trans (List.Perm.cons a ih)
theorem TJ (ds:List D) (k:Nat):cutD (.lst ds) none (some (k:Int))=.ok (.lst (ds.take k)):=by
 have h:=xK ds k;have e:cutD (.tup ds) none (some (k:Int))=.ok (.tup (fC ds none (some (k:Int)))):=rfl;rw [e] at h;injection h with h
 injection h with h
 show Res.ok (D.lst (fC ds none (some (k:Int))))=_;rw [h]
theorem TQ {c:Int} {k:Nat} (hk:k < 10) {L R:List Int} (hL:L≠[]) (h6:L.length<=6) (hR:R.length<=6) {s1:Option SV} (hs1:s1=some (.arg (.int 6))):∃(j:Nat) (hj:j < L.length),(ik 3 2 (ao ‹"o"› bA)) [some (.arg (.int c)),s1,some (.own (L.map .int)),some (.own (R.map .int)),some (.val (.int (k:Int)))]=.nxt [some (.arg (.int c)),s1,some (.own ((L.eraseIdx j).map .int)),some (.own ((R ++ [L[j]]).map .int)),some (.val (.int (k:Int)))]:=by
 subst hs1;have lp:0 < L.length:=length_pos_iff.mpr hL;have mx:bA [.int c,.int (k:Int),.int (L.length:Int)]=_:=nA c k (L.length:Int) hk (by omega);obtain ⟨m0,m1⟩:=nu c k (m:=(L.length:Int)) (by omega);generalize mix c k (L.length:Int)=z at *;obtain ⟨j,rfl⟩:=Int.eq_ofNat_of_zero_le m0;have hj:j < L.length:=by omega
 have ln:cF [.lst (L.map .int)]=.ok (.int (L.length:Int)):=by
  show Res.ok (D.int ((L.map D.int).length:Int))=_;rw [length_map]
 refine ⟨j,hj,?_⟩;have fe:(ao ‹"o"› bA) [some (.arg (.int c)),some (.arg (.int 6)),some (.own (L.map .int)),some (.own (R.map .int)),some (.val (.int (k:Int)))]=.ok (.int (j:Int)):=by
  push_cast [Br,ln,mx]
 have g:(L.map D.int)[j]? = some (.int L[j]):=by rw [List.getElem?_map,List.getElem?_eq_getElem hj]; rfl
 have pk:jn (L.map .int) (.int (j:Int))=some (j,L[j]):=by
  have b63:(j:Int) < 2 ^ 63:=by
   have:(2:Int) ^ 63=9223372036854775808:=by decide
   omega
  unfold jn;dsimp only;rw [if_pos ⟨by omega,b63⟩,Int.toNat_natCast,g]
 show (if (3:Nat)≠2/\aG (L.map .int)=true/\aG (R.map .int)=true/\(R.map D.int).length < sizeLine then gK ((ao ‹"o"› bA) [some (.arg (.int c)),some (.arg (.int 6)),some (.own (L.map .int)),some (.own (R.map .int)),some (.val (.int (k:Int)))]) [some (.arg (.int c)),some (.arg (.int 6)),some (.own (L.map .int)),some (.own (R.map .int)),some (.val (.int (k:Int)))] (fun d=>(match jn (L.map .int) d with | some kt=>Out.nxt (fU 3 (R.map .int) (.int kt.2) (dJ 2 (L.map .int) kt.1 [some (.arg (.int c)),some (.arg (.int 6)),some (.own (L.map .int)),some (.own (R.map .int)),some (.val (.int (k:Int)))])) | none=>.stuck)) else .stuck)=_
 rw [if_pos ⟨by decide,tR L,tR R,by rw [length_map]; exact Nat.lt_of_le_of_lt hR (by decide)⟩,fe,on_ok,pk];dsimp only;have er:(L.map D.int).eraseIdx j=(L.eraseIdx j).map .int:=by
  exact Ka _ _ _
 unfold fU dJ;have f1:=tR L;have f2:=tR R;have f3:=tR (L.eraseIdx j);have fi:∀u:Int,bD (.int u)=true:=fun _=>rfl;rw [er];simp only [map_cons,map_nil,Option.bind_some,bG,f1,f2,f3,fi,↓reduceIte,set_cons_succ,set_cons_zero,map_append]
theorem Kd {c:Int} {s1:Option SV} (hs1:s1=some (.arg (.int 6))):∀(ks:List Nat) (L R:List Int) (s4:Option SV),(∀k∈ks,k < 10)->ks.length<=L.length->L.length + R.length<=6->∃(L' R':List Int) (s4':Option SV),cI (bC 4) (ik 3 2 (ao ‹"o"› bA)) (ks.map fun k:Nat=>D.int (k:Int)) [some (.arg (.int c)),s1,some (.own (L.map .int)),some (.own (R.map .int)),s4]=.nxt [some (.arg (.int c)),s1,some (.own (L'.map .int)),some (.own (R'.map .int)),s4']/\R'.length=R.length + ks.length/\(R' ++ L').Perm (R ++ L)
 | [],L,R,s4,_,_,_=>⟨L,R,s4,xW,rfl,List.Perm.refl _⟩
 | k :: ks,L,R,s4,hk,hl,h6=>by
  have hl':ks.length + 1<=L.length:=hl;have hL:L≠[]:=fun z=>by rw [z] at hl'; simp at hl'
  obtain ⟨j,hj,e⟩:=TQ (c:=c) (hk k (by simp)) hL (by omega) (by omega) hs1 (R:=R);have le:(L.eraseIdx j).length=L.length - 1:=length_eraseIdx_of_lt hj;obtain ⟨L',R',s4',e2,l2,p2⟩:=Kd hs1 ks (L.eraseIdx j) (R ++ [L[j]]) (some (.val (.int (k:Int)))) (fun u hu=>hk u (mem_cons_of_mem _ hu)) (by omega) (by rw [le,length_append,length_singleton]; omega);refine ⟨L',R',s4',?_,?_,?_⟩
  ·rw [map_cons];exact (rT (δ1:=[some (.arg (.int c)),s1,some (.own (L.map .int)),some (.own (R.map .int)),some (.val (.int (k:Int)))]) rfl e).trans e2
  ·rw [l2,length_append,length_singleton,length_cons]; omega
  ·refine p2.trans ?_;rw [append_assoc];exact List.Perm.append_left R (Kc L j hj)
theorem TV (c:Int):∃P:List Int,tW [.int c,.int 6]=.ok (.lst (P.map .int))/\P.length=6/\P.Nodup/\∀p∈P,p∈iW:=by
 obtain ⟨L',R',s4',e,l,p⟩:=Kd (c:=c) rfl [0,1,2,3,4,5] [2,3,5,7,11,13] [] none (by decide) (by decide) (by decide);have ll:=p.length_eq;rw [length_append,l] at ll;have L0:L'=[]:=by simpa using ll
 subst L0;rw [append_nil] at p;have p':R'.Perm iW:=p;refine ⟨R',?_,by rw [l]; rfl,p'.nodup_iff.mpr (by decide),fun q hq=>p'.mem_iff.mp hq⟩;have rg:=dc' 6 (by decide);have rg':dh [.int 6]=.ok ([0,1,2,3,4,5].map fun k:Nat=>D.int (k:Int)):=rg.trans rfl;show outD (qR [some (.arg (.int c)),some (.arg (.int 6)),none,none,none])=_;unfold qR;have q0:(g_ 2 ‹"j"›) [some (.arg (.int c)),some (.arg (.int 6)),none,none,none]=.nxt [some (.arg (.int c)),some (.arg (.int 6)),some (.own ([2,3,5,7,11,13].map .int)),none,none]:=rfl;have q1:(g_ 3 ‹""›) [some (.arg (.int c)),some (.arg (.int 6)),some (.own ([2,3,5,7,11,13].map .int)),none,none]=.nxt [some (.arg (.int c)),some (.arg (.int 6)),some (.own ([2,3,5,7,11,13].map .int)),some (.own (([]:List Int).map .int)),none]:=rfl;rw [ap_seq,q0,sq_nxt,ap_seq,q1,sq_nxt,ap_seq,ap_forR];have a:ak (aj 1) ‹""› [some (.arg (.int c)),some (.arg (.int 6)),some (.own ([2,3,5,7,11,13].map .int)),some (.own (([]:List Int).map .int)),none]=.ok [.int 6]:=rfl;rw [a,bnd_ok,rg',onl_ok,e,sq_nxt];rfl
theorem FN:dw [.int 0] (.int 0)=.ok (.lst []):=rfl
theorem Ke:dw [.int 0] (.int 1)=.ok (.lst [.int 0]):=rfl
theorem TX:dw [.int 0] (.int 3)=.ok (.lst [.int 0,.int 0,.int 0]):=rfl
theorem v_ {Pd Sd:D} {T:D} {z4:Option SV} {k:Nat} {p s:Int} {zs:List D} {e:D} (ip:bJ Pd (.int (k:Int))=.ok (.int p)) (is_:bJ Sd (.int (k:Int))=.ok (.int s)) (hp:p.natAbs < 2 ^ 10) (hs:s.natAbs < 2 ^ 10) {m:Int} (i4:bJ (.lst [.int 1,.int 2,.int 4]) (.int (k:Int))=.ok (.int m)) (rp:dw [.int 0] (.int (m - 1))=.ok (.lst zs)) (ad:aN (.tup [.int (p * s * s)]) (.tup zs)=.ok e) {T':D} (ad2:aN T (.tup [e])=.ok T') :
  ‹"d"› [some (.arg Pd),some (.arg Sd),some (.val T),some (.val (.int (k:Int))),z4]=.nxt [some (.arg Pd),some (.arg Sd),some (.val T'),some (.val (.int (k:Int))),some (.val (.int (p * s * s)))]:=by
 have m1:di (.int p) (.int s)=_:=FJ (b:=s) (Nat.lt_of_lt_of_le hp (by decide));have ps:(p * s).natAbs < 2 ^ 64:=by
  rw [Int.natAbs_mul];have:=Nat.mul_lt_mul'' hp hs;exact Nat.lt_of_lt_of_le this (by decide)
 have m2:di (.int (p * s)) (.int s)=_:=FJ (b:=s) ps;have ls:∀δ:DS,δ=[some (.arg Pd),some (.arg Sd),some (.val T),some (.val (.int (k:Int))),some (.val (.int (p * s * s)))]->eF (ak ‹0› ‹""›) (two (two (gZ (ak ‹1› (ak ‹2› (ak ‹4› ‹""›)))) (aj 3) bJ) ‹1› fM) δ=.ok (.lst zs):=fun δ h=>by
  subst h;unfold eF jR;push_cast [i4,rp]
 have ls':=ls _ rfl;push_cast [ip,is_,m1,m2,ls',ad,ad2]
theorem gJ {L:List Int} {k:Nat} {p:Int} (h:L[k]? = some p):bJ (.lst (L.map .int)) (.int (k:Int))=.ok (.int p):=xG _ _ _ (by rw [List.getElem?_map,h]; rfl)
theorem Ac {α:Type} {Q:List α} (h:Q.length<=3):Q=[]\/(∃a,Q=[a])\/(∃a b,Q=[a,b])\/∃a b c,Q=[a,b,c]:=match Q,h with
 | [],_=>.inl rfl
 | [a],_=>.inr (.inl ⟨a,rfl⟩)
 | [a,b],_=>.inr (.inr (.inl ⟨a,b,rfl⟩))
 | [a,b,c],_=>.inr (.inr (.inr ⟨a,b,c,rfl⟩))
theorem Kf {α:Type} {Q:List α} (h:Q.length=3):∃a b c,Q=[a,b,c]:=match Q,h with
 | [a,b,c],_=>⟨a,b,c,rfl⟩
theorem Kg {Q S:List Int} (q3:Q.length<=3) (s3:S.length=3) (hQ:∀q∈Q,q.natAbs < 2 ^ 10) (hS:∀s∈S,s.natAbs < 2 ^ 10):nD [.lst (Q.map .int),.lst (S.map .int)]=.ok (RT (fH (Q.zip S).reverse)):=by
 have ln:cF [.lst (Q.map .int)]=.ok (.int (Q.length:Int)):=by
  show Res.ok (D.int ((Q.map D.int).length:Int))=_;rw [length_map]
 have rg:=dc' Q.length (by omega);have fin:∀{T:D},(∃s3 s4,cI (bC 3) ‹"d"› (vA Q.length) [some (.arg (.lst (Q.map .int))),some (.arg (.lst (S.map .int))),some (.val (.tup [])),none,none]=.nxt [some (.arg (.lst (Q.map .int))),some (.arg (.lst (S.map .int))),some (.val T),s3,s4])->nD [.lst (Q.map .int),.lst (S.map .int)]=.ok T:=fun {T} h=>by
  obtain ⟨z3,z4,e⟩:=h;show outD (qQ [some (.arg (.lst (Q.map .int))),some (.arg (.lst (S.map .int))),none,none,none])=_;unfold qQ;have q0:(aB 2 (bR ‹""›)) [some (.arg (.lst (Q.map .int))),some (.arg (.lst (S.map .int))),none,none,none]=.nxt [some (.arg (.lst (Q.map .int))),some (.arg (.lst (S.map .int))),some (.val (.tup [])),none,none]:=rfl;have a:ak ‹"f"› ‹""› [some (.arg (.lst (Q.map .int))),some (.arg (.lst (S.map .int))),some (.val (.tup [])),none,none]=.ok [.int (Q.length:Int)]:=by push_cast [ln]
  rw [ap_seq,q0,sq_nxt,ap_seq,ap_forR,a,bnd_ok,rg,onl_ok,e,sq_nxt];rfl
 obtain ⟨s0,s1,s2,rfl⟩:=Kf s3;have b0:=hS s0 (by simp);have b1:=hS s1 (by simp);have b2:=hS s2 (by simp);rcases Ac q3 with rfl | ⟨a,rfl⟩ | ⟨a,b,rfl⟩ | ⟨a,b,c,rfl⟩
 ·exact fin ⟨none,none,rfl⟩
 ·have p0:=hQ a (by simp);have e0:=fun z4=>v_ (k:=0) (z4:=z4) (Pd:=.lst ([a].map .int)) (Sd:=.lst ([s0,s1,s2].map .int)) (T:=.tup []) (gJ rfl) (gJ rfl) p0 b0 rfl FN rfl rfl;exact fin ⟨_,_,(rT rfl (e0 _)).trans xW⟩
 ·have p0:=hQ a (by simp);have p1:=hQ b (by simp);have e0:=fun z4=>v_ (k:=0) (z4:=z4) (Pd:=.lst ([a,b].map .int)) (Sd:=.lst ([s0,s1,s2].map .int)) (T:=.tup []) (gJ rfl) (gJ rfl) p0 b0 rfl FN rfl rfl;have e1:=fun z4=>v_ (k:=1) (z4:=z4) (Pd:=.lst ([a,b].map .int)) (Sd:=.lst ([s0,s1,s2].map .int)) (T:=.tup [TI [a * s0 * s0]]) (gJ rfl) (gJ rfl) p1 b1 rfl Ke rfl rfl;exact fin ⟨_,_,((rT rfl (e0 _)).trans (rT rfl (e1 _))).trans xW⟩
 ·have p0:=hQ a (by simp);have p1:=hQ b (by simp);have p2:=hQ c (by simp);have e0:=fun z4=>v_ (k:=0) (z4:=z4) (Pd:=.lst ([a,b,c].map .int)) (Sd:=.lst ([s0,s1,s2].map .int)) (T:=.tup []) (gJ rfl) (gJ rfl) p0 b0 rfl FN rfl rfl;have e1:=fun z4=>v_ (k:=1) (z4:=z4) (Pd:=.lst ([a,b,c].map .int)) (Sd:=.lst ([s0,s1,s2].map .int)) (T:=.tup [TI [a * s0 * s0]]) (gJ rfl) (gJ rfl) p1 b1 rfl Ke rfl rfl;have e2:=fun z4=>v_ (k:=2) (z4:=z4) (Pd:=.lst ([a,b,c].map .int)) (Sd:=.lst ([s0,s1,s2].map .int)) (T:=.tup [TI [a * s0 * s0],TI [b * s1 * s1,0]]) (gJ rfl) (gJ rfl) p2 b2 rfl TX rfl rfl;exact fin ⟨_,_,(((rT rfl (e0 _)).trans (rT rfl (e1 _))).trans (rT rfl (e2 _))).trans xW⟩
theorem vB {a b:Int} (h:b≠0) (hb:b.natAbs < 2 ^ 20):aO (.int a) (.int b)=.ok (.int (Int.fdiv a b)):=n8 h (Nat.lt_of_lt_of_le hb (kO (by decide)))
theorem TY:tV=eU:=rfl
theorem pz' (ns:List Int) (h0:Int.fmod (Int.fdiv (cell ns 0) 3) 3=0):∃O N c due,Sit O N c due/\km [.lst (ns.map .int)]=.ok (.tup [O,N,.int (due:Int)]):=by
 have c0:iT [.lst (ns.map .int),.int 0]=_:=Bf ns 0;have c1:iT [.lst (ns.map .int),.int 1]=_:=Bf ns 1;generalize cell ns 0=f at *;generalize cell ns 1=g at *;have m3:bH (.int f) (.int 3)=_:=dG (show (3:Int)≠0 by decide);have d3:aO (.int f) (.int 3)=_:=vB (a:=f) (show (3:Int)≠0 by decide) (by decide);have m33:bH (.int (Int.fdiv f 3)) (.int 3)=_:=dG (show (3:Int)≠0 by decide);have d9:aO (.int f) (.int 9)=_:=vB (a:=f) (show (9:Int)≠0 by decide) (by decide);have a0:=Int.fmod_nonneg_of_pos f (b:=3) (by decide);have a1:=Int.fmod_lt_of_pos f (b:=3) (by decide);generalize Int.fmod f 3=x at *;obtain ⟨c,hc,c13⟩:∃c:Nat,1 + x=(c:Int)/\1<=c/\c<=3:=⟨(1 + x).toNat,by omega,by omega,by omega⟩;have mc:bH (.int (Int.fdiv f 9)) (.int (c:Int))=_:=dG (show (c:Int)≠0 by omega);have b0:=Int.fmod_nonneg_of_pos (Int.fdiv f 9) (b:=(c:Int)) (by omega);have b1:=Int.fmod_lt_of_pos (Int.fdiv f 9) (b:=(c:Int)) (by omega);generalize Int.fmod (Int.fdiv f 9) (c:Int)=y at *;obtain ⟨k,rfl⟩:=Int.eq_ofNat_of_zero_le b0;have kc:k < c:=by omega
 obtain ⟨R1,R2,R3,l1,l2,l3,e1,e2,e3,⟨⟨F1,o1,T1⟩,⟨F2,o2,T2⟩,⟨F3,o3,T3⟩⟩,sc⟩:=Rm g;have sc':=sc c;rw [<- TY] at sc';have ct:=xK ([TI R1,TI R2,TI R3].take c) k;have run:km [.lst (ns.map .int)]=.ok (.tup [.tup ([TI R1,TI R2,TI R3].take c),.tup (([TI R1,TI R2,TI R3].take c).take k),.int (k:Int)]):=by
  show outD (lV [some (.arg (.lst (ns.map .int))),none,none,none,none,none,none,none,none,none,none,none])=_;unfold lV;generalize D.tup ([TI R1,TI R2,TI R3].take c)=OO at *;generalize D.tup (([TI R1,TI R2,TI R3].take c).take k)=NN at *;simp only [ap_seq (aB _ _),ap_seq (cP _ _ _),ap_seq,sq_nxt,sq_ret,sq_err,ap_set,on_ok,on_err,ont_ok,onl_ok,ap_if,ap_two,ap_bF,ap_bT,ap_bL,ap_cons,ap_tup,ap_lst,ap_ret,ap_expr,ap_neg,neg_ok,ap_notT,ap_andT,ap_orT,ap_ifD,ap_for,ap_forR,ap_slice,ap_part,ap_noPart,part_int,out_ret,out_err,cmp_ok,add_ok,sub_ok,bool_ok,truth_bl,abs_ok,len_tup,len_lst,tuple_lst,seq_tup,seq_lst,vw_val,vw_arg,eqI,neI,bnd_ok,bnd_err,mulE_i,sl0,st0,sl1,st1,sl2,st2,sl3,st3,sl4,st4,sl5,st5,sl6,st6,sl7,st7,sl8,st8,sl9,st9,sl10,st10,sl11,st11,tup1,lst1,tup2,lst2,tup3,lst3,tup4,lst4,lst5,lst6,ix_tup0,ix_lst0,ix_tup1,ix_lst1,↓reduceIte,decide_true,decide_false,Bool.not_true,Bool.not_false,Bool.false_eq_true,Int.reduceEq,Int.reduceNe,Int.reduceLT,Int.reduceLE,Nat.reduceAdd,cN0,length_cons,length_nil,c0,m3,hc,d3,m33,h0,c1,sc',d9,mc,ct]
 rw [run];have hb1:∀u∈[R1],Bd 10 u:=fun u hu=>by rw [mem_singleton.mp hu]; exact e1
 have hb2:∀u∈[R2,R1],Bd 10 u:=fun u hu=>by
  rcases mem_cons.mp hu with q | q
  ·rw [q]; exact e2
  ·exact hb1 u q
 have hb3:∀u∈[R3,R2,R1],Bd 10 u:=fun u hu=>by
  rcases mem_cons.mp hu with q | q
  ·rw [q]; exact e3
  ·exact hb2 u q
 have q:(c=1/\k=0)\/(c=2/\k=0)\/(c=2/\k=1)\/(c=3/\k=0)\/(c=3/\k=1)\/(c=3/\k=2):=by omega
 rcases q with ⟨a,b⟩ | ⟨a,b⟩ | ⟨a,b⟩ | ⟨a,b⟩ | ⟨a,b⟩ | ⟨a,b⟩ <;> subst a <;> subst b
 ·exact ⟨_,_,_,_,hg' (more:=[]) (r:=R1) (rs:=[]) T1 (by simp) hb1,rfl⟩
 ·exact ⟨_,_,_,_,hg' (more:=[R2]) (r:=R1) (rs:=[]) T2 (by simp) hb2,rfl⟩
 ·exact ⟨_,_,_,_,hg' (more:=[]) (r:=R2) (rs:=[R1]) T2 (by simp) hb2,rfl⟩
 ·exact ⟨_,_,_,_,hg' (more:=[R3,R2]) (r:=R1) (rs:=[]) T3 (by simp) hb3,rfl⟩
 ·exact ⟨_,_,_,_,hg' (more:=[R3]) (r:=R2) (rs:=[R1]) T3 (by simp) hb3,rfl⟩
 ·exact ⟨_,_,_,_,hg' (more:=[]) (r:=R3) (rs:=[R2,R1]) T3 (by simp) hb3,rfl⟩
noncomputable def oth (gone f:Int):Nat->List Int->List Int
 | _,[]=>[]
 | k,t :: L=>if (decide ((k:Int)≠gone) && decide (0 < Int.fmod (Int.fdiv f (27 * ((k:Int) + 1))) 3))=true then t :: oth gone f (k + 1) L else oth gone f (k + 1) L
theorem BK (gone f:Int):∀(L:List Int) (k:Nat),(oth gone f k L).Sublist L
 | [],_=>List.Sublist.refl _
 | t :: L,k=>by
  rw [oth]
  split
  ·exact (BK gone f L (k + 1)).cons₂ t
  ·exact (BK gone f L (k + 1)).cons t
theorem Kh {gone:Nat} {f:Int}:∀(L:List Int) (k j:Nat),gone=k + j->L.Nodup->∀p,L[j]? = some p->p∉oth (gone:Int) f k L
 | [],_,_,_,_,p,h=>by simp at h
 | t :: L,k,0,e,nd,p,h=>by
  simp at h;subst h;rw [oth,if_neg (by rw [e]; simp)];exact fun z=>(nodup_cons.mp nd).1 ((BK _ f L (k + 1)).subset z)
 | t :: L,k,j + 1,e,nd,p,h=>by
  have h':L[j]? = some p:=by simpa using h
  have ih:=Kh (gone:=gone) (f:=f) L (k + 1) j (by omega) (nodup_cons.mp nd).2 p h';have ne:p≠t:=fun z=>(nodup_cons.mp nd).1 (by rw [<- z]; exact mem_of_getElem? h');rw [oth]
  split
  ·intro z;rcases mem_cons.mp z with w | w
   ·exact ne w
   ·exact ih w
  ·exact ih
noncomputable def vC:Nat->List D->List D
 | _,[]=>[]
 | k,d :: ds=>.tup [.int (k:Int),d] :: vC (k + 1) ds
theorem Kl (ds:List D):fK ds=vC 0 ds:=by
 have:∀(ds:List D) (k:Nat),(ds.zipIdx k).map (fun p=>D.tup [.int ((p.2:Nat):Int),p.1])=vC k ds:=by
  intro ds
  induction ds with
  | nil=>intro k; rfl
  | cons d ds ih=>intro k; rw [zipIdx_cons,map_cons,ih]; rfl
 exact this ds 0
theorem T4 {gone f t:Int} {k:Nat} (hk:k < 10):‹"a"› [some (.val (.int (k:Int))),some (.val (.int t)),some (.arg (.int gone)),some (.arg (.int f))]=.ok (decide ((k:Int)≠gone) && decide (0 < Int.fmod (Int.fdiv f (27 * ((k:Int) + 1))) 3)):=by
 have m1:di (.int 27) (.int ((k:Int) + 1))=_:=FJ (b:=(k:Int) + 1) (by decide);have e20:(2:Nat) ^ 20=1048576:=by decide
 have d1:aO (.int f) (.int (27 * ((k:Int) + 1)))=_:=vB (a:=f) (b:=27 * ((k:Int) + 1)) (by omega) (by omega);have m3:bH (.int (Int.fdiv f (27 * ((k:Int) + 1)))) (.int 3)=_:=dG (show (3:Int)≠0 by decide);generalize Int.fmod (Int.fdiv f (27 * ((k:Int) + 1))) 3=w at *
 by_cases q:(k:Int)=gone
 ·push_cast [m1,d1,m3,q,ne_eq,not_true_eq_false,Bool.false_and]
 ·by_cases p:0 < w
  ·push_cast [m1,d1,m3,q,ne_eq,not_false_eq_true,p,Bool.and_self]
  ·push_cast [m1,d1,m3,q,ne_eq,not_false_eq_true,p,Bool.and_false]
theorem Km {gone f:Int}:∀(L:List Int) (k:Nat),k + L.length<=10->∃rs,mapR (cW (aZ [0,1]) ‹"a"› (aj 1) [none,none,some (.arg (.int gone)),some (.arg (.int f))]) (vC k (L.map .int))=.ok rs/\rs.flatMap unI=(oth gone f k L).map .int
 | [],_,_=>⟨[],rfl,rfl⟩
 | t :: L,k,h=>by
  have h':k + (L.length + 1)<=10:=h;obtain ⟨rs,e1,e2⟩:=Km (gone:=gone) (f:=f) L (k + 1) (by omega);have fc:=T4 (gone:=gone) (f:=f) (t:=t) (show k < 10 by omega);have el:cW (aZ [0,1]) ‹"a"› (aj 1) [none,none,some (.arg (.int gone)),some (.arg (.int f))] (.tup [.int (k:Int),.int t])=.ok (if (decide ((k:Int)≠gone) && decide (0 < Int.fmod (Int.fdiv f (27 * ((k:Int) + 1))) 3))=true then .tup [.int t] else .tup []):=by
   unfold cW;have tg:aZ [0,1] (.tup [.int (k:Int),.int t]) [none,none,some (.arg (.int gone)),some (.arg (.int f))]=some [some (.val (.int (k:Int))),some (.val (.int t)),some (.arg (.int gone)),some (.arg (.int f))]:=rfl;rw [tg];dsimp only;rw [fc]
   cases (decide ((k:Int)≠gone) && decide (0 < Int.fmod (Int.fdiv f (27 * ((k:Int) + 1))) 3)) <;> rfl
  refine ⟨(if (decide ((k:Int)≠gone) && decide (0 < Int.fmod (Int.fdiv f (27 * ((k:Int) + 1))) 3))=true then .tup [.int t] else .tup []) :: rs,?_,?_⟩
  ·rw [map_cons,vC,mapR,el,Res.bind_ok,e1,Res.bind_ok]
  ·rw [flatMap_cons,e2,oth]
   cases (decide ((k:Int)≠gone) && decide (0 < Int.fmod (Int.fdiv f (27 * ((k:Int) + 1))) 3)) <;> rfl
noncomputable def BL (M Q:List Int) (c:Nat):List Nat:=(List.range c).filter fun k=>!(Q.contains (M.getD k 0))
theorem Ko {M Q:List Int}:∀(ks:List Nat),(∀k∈ks,k < M.length)->∃rs,mapR (cW (bC 0) ‹"k"› (aj 0) [none,some (.arg (.lst (Q.map .int))),some (.arg (.lst (M.map .int)))]) (ks.map fun k:Nat=>D.int (k:Int))=.ok rs/\rs.flatMap unI=(ks.filter fun k=>!(Q.contains (M.getD k 0))).map fun k:Nat=>D.int (k:Int)
 | [],_=>⟨[],rfl,rfl⟩
 | k :: ks,h=>by
  obtain ⟨rs,e1,e2⟩:=Ko (M:=M) (Q:=Q) ks fun u hu=>h u (mem_cons_of_mem _ hu);have hk:=h k (by simp);have g:M[k]? = some (M.getD k 0):=by rw [getD_eq_getElem?_getD,List.getElem?_eq_getElem hk]; rfl
  have ix:=gJ g;have ni:gw (.int (M.getD k 0)) (.lst (Q.map .int))=.ok (.bl (!(Q.contains (M.getD k 0)))):=by
   show (match intsOf (Q.map D.int) with | some ns=>Res.ok (D.bl (!ns.contains (M.getD k 0))) | none=>.stuck)=_
   rw [Hx]
  have fc:‹"k"› [some (.val (.int (k:Int))),some (.arg (.lst (Q.map .int))),some (.arg (.lst (M.map .int)))]=.ok (!(Q.contains (M.getD k 0))):=by
   push_cast [ix,ni]
  have el:cW (bC 0) ‹"k"› (aj 0) [none,some (.arg (.lst (Q.map .int))),some (.arg (.lst (M.map .int)))] (.int (k:Int))=.ok (if (!(Q.contains (M.getD k 0)))=true then .tup [.int (k:Int)] else .tup []):=by
   unfold cW;have tg:bC 0 (.int (k:Int)) [none,some (.arg (.lst (Q.map .int))),some (.arg (.lst (M.map .int)))]=some [some (.val (.int (k:Int))),some (.arg (.lst (Q.map .int))),some (.arg (.lst (M.map .int)))]:=rfl;rw [tg];dsimp only;rw [fc]
   cases (!(Q.contains (M.getD k 0))) <;> rfl
  refine ⟨(if (!(Q.contains (M.getD k 0)))=true then .tup [.int (k:Int)] else .tup []) :: rs,?_,?_⟩
  ·rw [map_cons,mapR,el,Res.bind_ok,e1,Res.bind_ok]
  ·rw [flatMap_cons,e2,filter_cons]
   cases (!(Q.contains (M.getD k 0))) <;> rfl
theorem T5 {p:Int}:∀{Q S:List Int},p∈Q->Q.length<=S.length->∃t,(p,t)∈Q.zip S:=by
 intro Q
 induction Q with
 | nil=>intro S h; simp at h
 | cons a Q ih =>
  intro S h hl
  match S,hl with
  | s :: S,hl =>
   rcases mem_cons.mp h with z | z
   ·exact ⟨s,by rw [z]; simp⟩
   ·obtain ⟨t,ht⟩:=ih (S:=S) z (by simpa using hl);exact ⟨t,mem_cons_of_mem _ ht⟩
theorem FP:∀{Q S:List Int},Q.length<=S.length->(Q.zip S).map (·.1)=Q
 | [],_,_=>by simp
 | a :: Q,s :: S,h=>by
  show a :: (Q.zip S).map (·.1)=a :: Q;rw [FP (by simpa using h)]
theorem Kp {Q S:List Int} (hQ:∀q∈Q,q∈iW) (nd:Q.Nodup) (hS:∀s∈S,1<=s/\s<=5) (hl:Q.length<=S.length):IT (Q.zip S).reverse:=by
 refine ⟨fun q hq=>?_,fun q hq=>?_,?_⟩
 ·have:=mem_reverse.mp hq;exact hQ _ (of_mem_zip this).1
 ·have:=mem_reverse.mp hq;exact hS _ (of_mem_zip this).2
 ·rw [map_reverse,FP hl];exact (reverse_perm Q).nodup_iff.mpr nd
theorem T6 {M Q S1 S2:List Int} (hM:∀p∈M,p∈iW) (ndM:M.Nodup) (m1:1<=M.length) (m3:M.length<=3) (hQ:∀p∈Q,p∈iW) (ndQ:Q.Nodup) (q3:Q.length<=3) (s1:S1.length=3) (s2:S2.length=3) (h1:∀s∈S1,1<=s/\s<=5) (h2:∀s∈S2,1<=s/\s<=5) {due:Nat} (hd:due < M.length) (no:M.getD due 0∉Q) (yes:∀k < due,M.getD k 0∈Q):Sit (RT (fH (M.zip S1).reverse)) (RT (fH (Q.zip S2).reverse)) M.length due:=by
 have iM:=Kp hM ndM h1 (by omega);have iQ:=Kp hQ ndQ h2 (by omega);have lQ:(Q.zip S2).reverse.length<=3:=by rw [length_reverse,length_zip]; omega
 have inn:∀{p s:Int},p∈Q->∃t,(p,t)∈(Q.zip S2).reverse:=fun {p s} hp=>by
  obtain ⟨t,ht⟩:=@T5 p Q S2 hp (by omega);exact ⟨t,mem_reverse.mpr ht⟩
 have out:∀{p:Int},p∉Q->p∉(Q.zip S2).reverse.map (·.1):=fun {p} hp=>by
  rw [map_reverse,FP (by omega)];exact fun z=>hp (mem_reverse.mp z)
 obtain ⟨a1,a2,a3,rfl⟩:=Kf s1;rcases Ac m3 with rfl | ⟨x,rfl⟩ | ⟨x,y,rfl⟩ | ⟨x,y,z,rfl⟩
 ·simp at m1
 ·have d0:due=0:=by simp at hd; exact hd
  subst d0;exact hh' (more:=[]) (q:=(x,a1)) (L:=[]) iM iQ (by simp) lQ (fun u hu=>absurd hu (by simp)) (out no)
 ·have d0:due=0\/due=1:=by simp at hd; omega
  rcases d0 with d0 | d0 <;> subst d0
  ·exact hh' (more:=[(y,a2)]) (q:=(x,a1)) (L:=[]) iM iQ (by simp) lQ (fun u hu=>absurd hu (by simp)) (out no)
  ·exact hh' (more:=[]) (q:=(y,a2)) (L:=[(x,a1)]) iM iQ (by simp) lQ (fun u hu=>by rw [mem_singleton.mp hu]; exact inn (s:=0) (yes 0 (by decide))) (out no)
 ·have d0:due=0\/due=1\/due=2:=by simp at hd; omega
  rcases d0 with d0 | d0 | d0 <;> subst d0
  ·exact hh' (more:=[(z,a3),(y,a2)]) (q:=(x,a1)) (L:=[]) iM iQ (by simp) lQ (fun u hu=>absurd hu (by simp)) (out no)
  ·exact hh' (more:=[(z,a3)]) (q:=(y,a2)) (L:=[(x,a1)]) iM iQ (by simp) lQ (fun u hu=>by rw [mem_singleton.mp hu]; exact inn (s:=0) (yes 0 (by decide))) (out no)
  ·exact hh' (more:=[]) (q:=(z,a3)) (L:=[(y,a2),(x,a1)]) iM iQ (by simp) lQ (fun u hu=>by
    rcases mem_cons.mp hu with w | w
    ·rw [w]; exact inn (s:=0) (yes 1 (by decide))
    ·rw [mem_singleton.mp w]; exact inn (s:=0) (yes 0 (by decide))) (out no)
theorem T7 {M Q:List Int} {c gone:Nat} (c3:c<=3) (gc:gone < c) (hg:M.getD gone 0∉Q):∃due,due < c/\M.getD due 0∉Q/\(∀k < due,M.getD k 0∈Q)/\mW [.lst ((BL M Q c).map fun k:Nat=>D.int (k:Int))]=.ok (.int (due:Int)):=by
 have ct:∀p:Int,Q.contains p=true↔p∈Q:=fun p=>contains_iff_mem;have hc:c=1\/c=2\/c=3:=by omega
 have b:∀k,(!(Q.contains (M.getD k 0)))=true/\M.getD k 0∉Q\/(!(Q.contains (M.getD k 0)))=false/\M.getD k 0∈Q:=fun k=>by
  cases h:Q.contains (M.getD k 0) with
  | true=>exact .inr ⟨rfl,(ct _).mp h⟩
  | false=>exact .inl ⟨rfl,fun z=>by rw [(ct _).mpr z] at h; cases h⟩
 have v0:=b 0;have v1:=b 1;have v2:=b 2;have vg:=b gone;unfold BL;rcases v0 with ⟨e0,w0⟩ | ⟨e0,w0⟩
 ·refine ⟨0,by omega,w0,fun k hk=>absurd hk (Nat.not_lt_zero _),?_⟩;rcases hc with q | q | q <;> subst q
  ·simp only [show List.range 1=[0] from rfl,filter_cons,e0,↓reduceIte,filter_nil]; rfl
  ·simp only [show List.range 2=[0,1] from rfl,filter_cons,e0,↓reduceIte,filter_nil]
   rcases v1 with ⟨e1,_⟩ | ⟨e1,_⟩ <;> simp only [e1,↓reduceIte,Bool.false_eq_true] <;> rfl
  ·simp only [show List.range 3=[0,1,2] from rfl,filter_cons,e0,↓reduceIte,filter_nil]
   rcases v1 with ⟨e1,_⟩ | ⟨e1,_⟩ <;> rcases v2 with ⟨e2,_⟩ | ⟨e2,_⟩ <;> simp only [e1,e2,↓reduceIte,Bool.false_eq_true] <;> rfl
 ·have g0:gone≠0:=fun z=>hg (by rw [z]; exact w0);rcases v1 with ⟨e1,w1⟩ | ⟨e1,w1⟩
  ·refine ⟨1,by omega,w1,fun k hk=>?_,?_⟩
   ·have k0:k=0:=by omega
    rw [k0]; exact w0
   rcases hc with q | q | q <;> subst q
   ·omega
   ·simp only [show List.range 2=[0,1] from rfl,filter_cons,e0,e1,↓reduceIte,Bool.false_eq_true,filter_nil]; rfl
   ·simp only [show List.range 3=[0,1,2] from rfl,filter_cons,e0,e1,↓reduceIte,Bool.false_eq_true,filter_nil]
    rcases v2 with ⟨e2,_⟩ | ⟨e2,_⟩ <;> simp only [e2,↓reduceIte,Bool.false_eq_true] <;> rfl
  ·have g1:gone≠1:=fun z=>hg (by rw [z]; exact w1);have c2:c=3/\gone=2:=by omega
   obtain ⟨rfl,rfl⟩:=c2;have e2:(!(Q.contains (M.getD 2 0)))=true:=by
    rcases v2 with ⟨e2,_⟩ | ⟨_,w⟩
    ·exact e2
    ·exact (hg w).elim
   refine ⟨2,by omega,hg,fun k hk=>?_,?_⟩
   ·have:k=0\/k=1:=by omega
    rcases this with z | z <;> rw [z]
    ·exact w0
    ·exact w1
   ·simp only [show List.range 3=[0,1,2] from rfl,filter_cons,e0,e1,e2,↓reduceIte,Bool.false_eq_true,filter_nil]; rfl
theorem T8 (fe:DS->Res D) (fs:DS->Res (Option Int)) (δ:DS):sS fe fs δ=(fe δ).bind fun d=>(fs δ).bind fun st=>lH d st:=Eq.trans rfl rfl
theorem oC' (ds:List D):lH (.lst ds) (some (-1))=.ok (.lst ds.reverse):=Eq.trans rfl rfl
theorem T9 {P:List Int} (h:P.length=6):∃a b c d e f,P=[a,b,c,d,e,f]:=match P,h with
 | [a,b,c,d,e,f],_=>⟨a,b,c,d,e,f,rfl⟩
theorem Kq (f:Int) {j:Nat} (hj:j<=3) {fe:DS->Res D} {δ:DS} (hr:cL 1 [1] δ=[none,some (.arg (.int f))]) (hfe:∀k:Nat,k < 3->fe [some (.val (.int (k:Int))),some (.arg (.int f))]=.ok (.int (1 + mix f (k + j) 5))):aX 1 [1] (bC 0) fe ‹"C"› δ=.ok (.lst ([1 + mix f (0 + j) 5,1 + mix f (1 + j) 5,1 + mix f (2 + j) 5].map .int)):=by
 have h:=vU (fe:=fe) (fi:=bu (ak ‹3› ‹""›) dh) (fr:=[1]) (δ:=δ) (rest:=[some (.arg (.int f))]) (ts:=[0,1,2]) (g:=fun t=>.int (1 + mix f (t.toNat + j) 5)) (jW (ds:=[.int 3]) rfl rfl) hr (by decide) (fun t ht=>by
  simp only [mem_cons,not_mem_nil,or_false] at ht;rcases ht with q | q | q <;> subst q
  ·exact hfe 0 (by decide)
  ·exact hfe 1 (by decide)
  ·exact hfe 2 (by decide))
 exact h.trans rfl
theorem Kr (f:Int) (j:Nat):∀s∈[1 + mix f (0 + j) 5,1 + mix f (1 + j) 5,1 + mix f (2 + j) 5],1<=s/\s<=5:=fun s hs=>by
 have a:=nu f (0 + j) (m:=5) (by decide);have b:=nu f (1 + j) (m:=5) (by decide);have c:=nu f (2 + j) (m:=5) (by decide);simp only [mem_cons,not_mem_nil,or_false] at hs;rcases hs with q | q | q <;> subst q <;> omega
theorem T_ (ns:List Int) (h0:¬Int.fmod (Int.fdiv (cell ns 0) 3) 3=0):∃O N c due,Sit O N c due/\km [.lst (ns.map .int)]=.ok (.tup [O,N,.int (due:Int)]):=by
 have c0:iT [.lst (ns.map .int),.int 0]=_:=Bf ns 0;have c1:iT [.lst (ns.map .int),.int 1]=_:=Bf ns 1;generalize cell ns 0=f at *;generalize cell ns 1=g at *;have m3:bH (.int f) (.int 3)=_:=dG (show (3:Int)≠0 by decide);have d3:aO (.int f) (.int 3)=_:=vB (a:=f) (show (3:Int)≠0 by decide) (by decide);have m33:bH (.int (Int.fdiv f 3)) (.int 3)=_:=dG (show (3:Int)≠0 by decide);have d9:aO (.int f) (.int 9)=_:=vB (a:=f) (show (9:Int)≠0 by decide) (by decide);have d162:aO (.int f) (.int 162)=_:=vB (a:=f) (show (162:Int)≠0 by decide) (by decide);have m162:bH (.int (Int.fdiv f 162)) (.int 4)=_:=dG (show (4:Int)≠0 by decide);have a0:=Int.fmod_nonneg_of_pos f (b:=3) (by decide);have a1:=Int.fmod_lt_of_pos f (b:=3) (by decide);generalize Int.fmod f 3=x at *;obtain ⟨c,hc,c13⟩:∃c:Nat,1 + x=(c:Int)/\1<=c/\c<=3:=⟨(1 + x).toNat,by omega,by omega,by omega⟩;have mc:bH (.int (Int.fdiv f 9)) (.int (c:Int))=_:=dG (show (c:Int)≠0 by omega);have b0:=Int.fmod_nonneg_of_pos (Int.fdiv f 9) (b:=(c:Int)) (by omega);have b1:=Int.fmod_lt_of_pos (Int.fdiv f 9) (b:=(c:Int)) (by omega);generalize Int.fmod (Int.fdiv f 9) (c:Int)=y at *;obtain ⟨k,rfl⟩:=Int.eq_ofNat_of_zero_le b0;have kc:k < c:=by omega
 have j0:=Int.fmod_nonneg_of_pos (Int.fdiv f 162) (b:=4) (by decide);have j1:=Int.fmod_lt_of_pos (Int.fdiv f 162) (b:=4) (by decide);generalize Int.fmod (Int.fdiv f 162) 4=jj at *;obtain ⟨j,rfl⟩:=Int.eq_ofNat_of_zero_le j0;have j3:j<=3:=by omega
 obtain ⟨P,pr,l6,nd,hP⟩:=TV g;obtain ⟨p0,p1,p2,p3,p4,p5,rfl⟩:=T9 l6;obtain ⟨M,hM,lM,subM,sub6⟩:∃M:List Int,cutD (.lst ([p0,p1,p2,p3,p4,p5].map .int)) none (some (c:Int))=.ok (.lst (M.map .int))/\M.length=c/\M.Sublist [p0,p1,p2]/\(M ++ [p3,p4,p5]).Sublist [p0,p1,p2,p3,p4,p5]:=by
  have q:c=1\/c=2\/c=3:=by omega
  rcases q with q | q | q <;> subst q
  ·exact ⟨[p0],rfl,rfl,by simp,by simp⟩
  ·exact ⟨[p0,p1],rfl,rfl,by simp,by simp⟩
  ·exact ⟨[p0,p1,p2],rfl,rfl,by simp,by simp⟩
 obtain ⟨Y,hY,subY⟩:∃Y:List Int,cutD (.lst ([p0,p1,p2,p3,p4,p5].map .int)) (some 3) (some (3 + (j:Int)))=.ok (.lst (Y.map .int))/\Y.Sublist [p3,p4,p5]:=by
  have q:j=0\/j=1\/j=2\/j=3:=by omega
  rcases q with q | q | q | q <;> subst q
  ·exact ⟨[],rfl,by simp⟩
  ·exact ⟨[p3],rfl,by simp⟩
  ·exact ⟨[p3,p4],rfl,by simp⟩
  ·exact ⟨[p3,p4,p5],rfl,by simp⟩
 have ndM:M.Nodup:=(List.Sublist.trans (sublist_append_left M [p3,p4,p5]) sub6).nodup nd;have subX:=BK (k:Int) f M 0;have subQ:(oth (k:Int) f 0 M ++ Y).Sublist [p0,p1,p2,p3,p4,p5]:=(subX.append subY).trans sub6;have ndXY:=subQ.nodup nd;have gk:M[k]? = some (M.getD k 0):=by rw [getD_eq_getElem?_getD,List.getElem?_eq_getElem (by omega)]; rfl
 have jR:=Kh (gone:=k) (f:=f) M 0 k (by omega) ndM _ gk;have noY:M.getD k 0∉Y:=fun z=>by
  have n6:=sub6.nodup nd;have:=(nodup_append.mp n6).2.2 (M.getD k 0) (mem_of_getElem? gk) (M.getD k 0) (subY.subset z);exact this rfl
 have hQs:∀q∈(oth (k:Int) f 0 M ++ Y).reverse.take 3,q∈oth (k:Int) f 0 M ++ Y:=fun q hq=>mem_reverse.mp (mem_of_mem_take hq);have ndQ:((oth (k:Int) f 0 M ++ Y).reverse.take 3).Nodup:=(take_sublist 3 _).nodup ((reverse_perm _).nodup_iff.mpr ndXY);have noQ:M.getD k 0∉(oth (k:Int) f 0 M ++ Y).reverse.take 3:=fun z=>by
  rcases mem_append.mp (hQs _ z) with w | w
  ·exact jR w
  ·exact noY w
 have lQ:((oth (k:Int) f 0 M ++ Y).reverse.take 3).length<=3:=length_take_le ..;have inQ:∀q∈(oth (k:Int) f 0 M ++ Y).reverse.take 3,q∈iW:=fun q hq=>hP q (subQ.subset (hQs q hq));have inM:∀q∈M,q∈iW:=fun q hq=>hP q ((List.Sublist.trans (sublist_append_left M [p3,p4,p5]) sub6).subset hq);obtain ⟨rs1,r1,r2⟩:=Km (gone:=(k:Int)) (f:=f) M 0 (by omega);have lX:(oth (k:Int) f 0 M ++ Y).length<=6:=subQ.length_le;have ad:aN (.lst ((oth (k:Int) f 0 M).map .int)) (.lst (Y.map .int))=.ok (.lst ((oth (k:Int) f 0 M ++ Y).map .int)):=by
  show (if _ then Res.ok (D.lst _) else .stuck)=_
  rw [if_pos (by rw [length_map,length_map,<- length_append]; exact Nat.le_trans lX (by decide)),map_append]
 generalize oth (k:Int) f 0 M=X at *;have rv:lH (.lst ((X ++ Y).map .int)) (some (-1))=.ok (.lst ((X ++ Y).reverse.map .int)):=by rw [oC',map_reverse]
 have ck:cutD (.lst ((X ++ Y).reverse.map .int)) none (some 3)=.ok (.lst (((X ++ Y).reverse.take 3).map .int)):=by
  have:=TJ ((X ++ Y).reverse.map .int) 3;rw [<- map_take] at this; exact this
 generalize (X ++ Y).reverse.take 3=Q at *;obtain ⟨rs2,z1,z2⟩:=Ko (M:=M) (Q:=Q) (List.range c) (fun u hu=>by have:=mem_range.mp hu; omega);obtain ⟨due,dc,dn,dy,dm⟩:=T7 (M:=M) (Q:=Q) c13.2 kc noQ;have big:∀{p:Int},p∈iW->p.natAbs < 2 ^ 10:=fun {p} hp=>by
  have e:(2:Nat) ^ 10=1024:=by decide
  simp only [iW,mem_cons,not_mem_nil,or_false] at hp;omega
 have bigS:∀{s:Int},1<=s/\s<=5->s.natAbs < 2 ^ 10:=fun {s} hs=>by
  have e:(2:Nat) ^ 10=1024:=by decide
  omega
 have s1:=Kr f 0;have s2:=Kr f 3;have w1:=Kg (Q:=M) (S:=[1 + mix f (0 + 0) 5,1 + mix f (1 + 0) 5,1 + mix f (2 + 0) 5]) (by omega) rfl (fun q hq=>big (inM q hq)) (fun s hs=>bigS (s1 s hs));have w2:=Kg (Q:=Q) (S:=[1 + mix f (0 + 3) 5,1 + mix f (1 + 3) 5,1 + mix f (2 + 3) 5]) lQ rfl (fun q hq=>big (inQ q hq)) (fun s hs=>bigS (s2 s hs));have sit:=T6 inM ndM (by omega) (by omega) inQ ndQ lQ rfl rfl s1 s2 (by omega) dn dy;refine ⟨_,_,_,due,sit,?_⟩;generalize RT (fH (M.zip [1 + mix f (0 + 0) 5,1 + mix f (1 + 0) 5,1 + mix f (2 + 0) 5]).reverse)=OO at *;generalize RT (fH (Q.zip [1 + mix f (0 + 3) 5,1 + mix f (1 + 3) 5,1 + mix f (2 + 3) 5]).reverse)=NN at *;have cm1:∀(s8:Option SV),(cX 2 [7,1] (aZ [0,1]) ‹"a"› (aj 1) (bu ‹"p"› f9)) [some (.arg (.lst (ns.map .int))),some (.val (.int f)),some (.val (.int (c:Int))),none,none,some (.val (.lst ([p0,p1,p2,p3,p4,p5].map .int))),some (.val (.lst (M.map .int))),some (.val (.int (k:Int))),s8,none,none,none]=.ok (.lst (X.map .int)):=fun s8=>by
  have fi:(bu ‹"p"› f9) [some (.arg (.lst (ns.map .int))),some (.val (.int f)),some (.val (.int (c:Int))),none,none,some (.val (.lst ([p0,p1,p2,p3,p4,p5].map .int))),some (.val (.lst (M.map .int))),some (.val (.int (k:Int))),s8,none,none,none]=.ok (vC 0 (M.map .int)):=by
   show Res.ok (fK (M.map D.int))=_;rw [Kl]
  unfold cX;rw [fi,Res.bind_ok];unfold fJ;rw [if_pos (by rw [<- Kl]; unfold fK; rw [length_map,length_zipIdx,length_map]; exact Nat.le_trans (show M.length<=3 by omega) (by decide))];show (mapR (cW (aZ [0,1]) ‹"a"› (aj 1) [none,none,some (.arg (.int (k:Int))),some (.arg (.int f))]) (vC 0 (M.map .int))).bind _=_;rw [r1,Res.bind_ok,r2]
 have cm2:(cX 1 [8,6] (bC 0) ‹"k"› (aj 0) (bu ‹"g"› dh)) [some (.arg (.lst (ns.map .int))),some (.val (.int f)),some (.val (.int (c:Int))),none,none,some (.val (.lst ([p0,p1,p2,p3,p4,p5].map .int))),some (.val (.lst (M.map .int))),some (.val (.int (k:Int))),some (.val (.lst (Q.map .int))),none,none,none]=.ok (.lst ((BL M Q c).map fun k:Nat=>D.int (k:Int))):=by
  have rgc:=dc' c (by omega);have fi:(bu ‹"g"› dh) [some (.arg (.lst (ns.map .int))),some (.val (.int f)),some (.val (.int (c:Int))),none,none,some (.val (.lst ([p0,p1,p2,p3,p4,p5].map .int))),some (.val (.lst (M.map .int))),some (.val (.int (k:Int))),some (.val (.lst (Q.map .int))),none,none,none]=.ok ((List.range c).map fun k:Nat=>D.int (k:Int)):=by
   refine (jW (ds:=[.int (c:Int)]) rfl rgc).trans ?_;rw [map_map]; rfl
  unfold cX;rw [fi,Res.bind_ok];unfold fJ;rw [if_pos (by rw [length_map,length_range]; exact Nat.le_trans c13.2 (by decide))];show (mapR (cW (bC 0) ‹"k"› (aj 0) [none,some (.arg (.lst (Q.map .int))),some (.arg (.lst (M.map .int)))]) ((List.range c).map fun k:Nat=>D.int (k:Int))).bind _=_;rw [z1,Res.bind_ok,z2]; rfl
 have mx1:∀k:Nat,k < 3->bA [.int f,.int (k:Int),.int 5]=.ok (.int (mix f (k + 0) 5)):=fun k hk=>nA f k 5 (by omega) (by decide);have mx2:∀k:Nat,k < 3->bA [.int f,.int ((k:Int) + 3),.int 5]=.ok (.int (mix f (k + 3) 5)):=fun k hk=>nA f (k + 3) 5 (by omega) (by decide);have S9:∀(s9:Option SV),(aX 1 [1] (bC 0) (two ‹1› (ao (ak (aj 1) (ak (aj 0) (ak ‹5› ‹""›))) bA) aN) ‹"C"›) [some (.arg (.lst (ns.map .int))),some (.val (.int f)),some (.val (.int (c:Int))),none,none,some (.val (.lst ([p0,p1,p2,p3,p4,p5].map .int))),some (.val (.lst (M.map .int))),some (.val (.int (k:Int))),some (.val (.lst (Q.map .int))),s9,none,none]=_:=fun s9=>Kq f (j:=0) (by decide) rfl fun k hk=>by
  have:=mx1 k hk;push_cast [this]
 have S10:∀(s9 s10:Option SV),(aX 1 [1] (bC 0) (two ‹1› (ao (ak (aj 1) (ak (two (aj 0) ‹3› aN) (ak ‹5› ‹""›))) bA) aN) ‹"C"›) [some (.arg (.lst (ns.map .int))),some (.val (.int f)),some (.val (.int (c:Int))),none,none,some (.val (.lst ([p0,p1,p2,p3,p4,p5].map .int))),some (.val (.lst (M.map .int))),some (.val (.int (k:Int))),some (.val (.lst (Q.map .int))),s9,s10,none]=_:=fun s9 s10=>Kq f (j:=3) (by decide) rfl fun k hk=>by
  have:=mx2 k hk;push_cast [this]
 show outD (lV [some (.arg (.lst (ns.map .int))),none,none,none,none,none,none,none,none,none,none,none])=_;unfold lV;generalize D.lst ([1 + mix f (0 + 0) 5,1 + mix f (1 + 0) 5,1 + mix f (2 + 0) 5].map .int)=Z1 at *;generalize D.lst ([1 + mix f (0 + 3) 5,1 + mix f (1 + 3) 5,1 + mix f (2 + 3) 5].map .int)=Z2 at *;generalize D.lst ([p0,p1,p2,p3,p4,p5].map .int)=PP at *;generalize D.lst ((X ++ Y).map .int)=XY at *;generalize D.lst ((X ++ Y).reverse.map .int)=XR at *;generalize D.lst (X.map .int)=XX at *;generalize D.lst (Y.map .int)=YY at *;generalize D.lst ((BL M Q c).map fun k:Nat=>D.int (k:Int))=LF at *;generalize D.lst (M.map .int)=MM at *;generalize D.lst (Q.map .int)=QQ at *;generalize D.lst (ns.map .int)=NS0 at *;push_cast [T8,c0,m3,hc,d3,m33,h0,c1,pr,hM,d9,mc,cm1,d162,m162,hY,ad,rv,ck,cm2,dm,S9,S10,w1,w2]
theorem Ua (ns:List Int):∃O N c due,Sit O N c due/\km [.lst (ns.map .int)]=.ok (.tup [O,N,.int (due:Int)]):=by
 by_cases h0:Int.fmod (Int.fdiv (cell ns 0) 3) 3=0
 ·exact pz' ns h0
 ·exact T_ ns h0
theorem Ub {O N d:D} {due:Nat} (ca:gH [O,N,d]=.err ⟨"NoCarry",some ("at",.int (due:Int))⟩):rm [O,N,d]=.ok (.int (due:Int)):=by
 show outD (q_ [some (.arg O),some (.arg N),some (.arg d),none,none])=_;unfold q_;have tr:(gm 4 cQ (mq (ao (ak (aj 0) (ak (aj 1) ‹"g"›)) gH)) (aB 3 (aj 4))) [some (.arg O),some (.arg N),some (.arg d),some (.val .non),none]=.nxt [some (.arg O),some (.arg N),some (.arg d),some (.val (.excf "NoCarry" "at" (.int (due:Int)))),none]:=by
  have fb:(mq (ao (ak (aj 0) (ak (aj 1) ‹"g"›)) gH)) [some (.arg O),some (.arg N),some (.arg d),some (.val .non),none]=.err ⟨"NoCarry",some ("at",.int (due:Int))⟩ [some (.arg O),some (.arg N),some (.arg d),some (.val .non),none]:=by
   push_cast [ca]
  unfold gm;rw [fb];rfl
 have i1:∀d,nR cY (.excf "NoCarry" "at" d)=.ok (.bl true):=fun _=>rfl;have i2:∀d,nR dC (.excf "NoCarry" "at" d)=.ok (.bl false):=fun _=>rfl;have i3:∀d,nR cG (.excf "NoCarry" "at" d)=.ok (.bl true):=fun _=>rfl;have at_:∀d,jU iu "at" (.excf "NoCarry" "at" d)=.ok d:=fun _=>rfl;have wh:=Q3 (due:Int);have q0:(aB 3 (fun _=>.ok .non)) [some (.arg O),some (.arg N),some (.arg d),none,none]=.nxt [some (.arg O),some (.arg N),some (.arg d),some (.val .non),none]:=rfl;rw [ap_seq,q0,sq_nxt,ap_seq,tr,sq_nxt];push_cast [i1,i2,i3,at_,wh]
theorem Uc (ns:List Int):∃us:List Int,cutD (.lst (ns.map .int)) (some 4) (some 14)=.ok (.lst (us.map .int))/\us.length<=ns.length:=by
 refine ⟨(ns.drop (HT.sIx ns.length 0 (some 4))).take (HT.sIx ns.length ns.length (some 14) - HT.sIx ns.length 0 (some 4)),?_,?_⟩
 ·show Res.ok (D.lst (fC (ns.map D.int) (some 4) (some 14)))=_;unfold fC;rw [length_map,map_take,map_drop]
 ·rw [length_take,length_drop]; omega
theorem Ud {n:Nat} (h:n<=3):bJ (.lst [.int 1,.int 2,.int 4,.int 8]) (.int (n:Int))=.ok (.int ((2 ^ n:Nat):Int)):=by
 have:n=0\/n=1\/n=2\/n=3:=by omega
 rcases this with z | z | z | z <;> subst z <;> rfl
theorem Ue {O N:D} {c due:Nat} (S:Sit O N c due) (q:Int) (s0 s6:Option SV):∃d',(aA (aB 6 (ao (ak (aj 5) ‹"B"›) lO)) (aA (cP ‹"r"› ‹"b"› Out.nxt) (aA (cP ‹"P"› (aJ (fun _=>.ok (.bl false))) Out.nxt) (cP ‹"Q"› (aJ (fun _=>.ok (.bl false))) Out.nxt)))) [s0,some (.val O),some (.val N),some (.val (.int (due:Int))),some (.val (.int ((2 ^ c:Nat):Int))),some (.val (.int q)),s6]=.nxt [s0,some (.val O),some (.val N),some (.val (.int (due:Int))),some (.val (.int ((2 ^ c:Nat):Int))),some (.val (.int q)),some (.val d')]:=by
 obtain ⟨no,ln,c3,rs,F,of,T,rl,id⟩:=S;subst rl;have e8:=bm' c3.2;have p0:=Nat.two_pow_pos rs.length;obtain ⟨d,v,ed,hd⟩:=Rt T c3.2 q;have m4:bH (.int q) (.int 4)=_:=dG (show (4:Int)≠0 by decide);have d4:aO (.int q) (.int 4)=_:=vB (a:=q) (show (4:Int)≠0 by decide) (by decide);have m3:bH (.int (Int.fdiv q 4)) (.int 3)=_:=dG (show (3:Int)≠0 by decide);have k0:=Int.fmod_nonneg_of_pos (Int.fdiv q 4) (b:=3) (by decide);have k1:=Int.fmod_lt_of_pos (Int.fdiv q 4) (b:=3) (by decide);generalize Int.fmod (Int.fdiv q 4) 3=w at *;have w4:(w - 1).natAbs < 2 ^ 2:=by
  have e:(2:Nat) ^ 2=4:=rfl;omega
 have hi:Nm of rs.length 2 (num ((w - 1) :: List.replicate (2 ^ rs.length - 1) 0) 1) ((w - 1:Int):F.C):=Be T (by decide) w4;have fin:∀{n:Nat} {e:D} {x:F.C},n<=100->Nm of rs.length n e x->(aA (cP ‹"P"› (aJ (fun _=>.ok (.bl false))) Out.nxt) (cP ‹"Q"› (aJ (fun _=>.ok (.bl false))) Out.nxt)) [s0,some (.val O),some (.val N),some (.val (.int (due:Int))),some (.val (.int ((2 ^ rs.length:Nat):Int))),some (.val (.int q)),some (.val e)]=.nxt [s0,some (.val O),some (.val N),some (.val (.int (due:Int))),some (.val (.int ((2 ^ rs.length:Nat):Int))),some (.val (.int q)),some (.val e)]:=fun {n e x} hn he=>by
  have rf:=Ub (no e);have ci:=id e x (he.mono hn);have ne:jC e e=.ok (.bl false):=by
   have:=QV T he he;rw [this]; simp
  generalize D.int ((2 ^ rs.length:Nat):Int)=MM at *;push_cast [rf,ci,ne,ne_eq,not_true_eq_false]
 have q0:(aB 6 (ao (ak (aj 5) ‹"B"›) lO)) [s0,some (.val O),some (.val N),some (.val (.int (due:Int))),some (.val (.int ((2 ^ rs.length:Nat):Int))),some (.val (.int q)),s6]=.nxt [s0,some (.val O),some (.val N),some (.val (.int (due:Int))),some (.val (.int ((2 ^ rs.length:Nat):Int))),some (.val (.int q)),some (.val d)]:=by
  push_cast [ed]
 by_cases h:Int.fmod q 4=0
 ·have rp:dw [.int 0] (.int (((2 ^ rs.length:Nat):Int) - 1))=.ok (.lst ((List.replicate (2 ^ rs.length - 1) (0:Int)).map .int)):=by
   have:rs.length=1\/rs.length=2\/rs.length=3:=by omega
   rcases this with z | z | z <;> rw [z] <;> rfl
  have ls:eF (ak ‹0› ‹""›) (two (aj 4) ‹1› fM) [s0,some (.val O),some (.val N),some (.val (.int (due:Int))),some (.val (.int ((2 ^ rs.length:Nat):Int))),some (.val (.int q)),some (.val d)]=.ok (.lst ((List.replicate (2 ^ rs.length - 1) (0:Int)).map .int)):=by
   unfold eF jR;push_cast [rp]
  have ad:aN (.tup [.int (w - 1)]) (.tup ((List.replicate (2 ^ rs.length - 1) (0:Int)).map .int))=.ok (TI ((w - 1) :: List.replicate (2 ^ rs.length - 1) 0)):=A_ (a:=[w - 1]) (b:=List.replicate (2 ^ rs.length - 1) 0) (by simp) (by simp; omega);have q1:(cP ‹"r"› ‹"b"› Out.nxt) [s0,some (.val O),some (.val N),some (.val (.int (due:Int))),some (.val (.int ((2 ^ rs.length:Nat):Int))),some (.val (.int q)),some (.val d)]=.nxt [s0,some (.val O),some (.val N),some (.val (.int (due:Int))),some (.val (.int ((2 ^ rs.length:Nat):Int))),some (.val (.int q)),some (.val (num ((w - 1) :: List.replicate (2 ^ rs.length - 1) 0) 1))]:=by
   push_cast [m4,h,d4,m3,ls,ad]
  exact ⟨_,by rw [ap_seq,q0,sq_nxt,ap_seq,q1,sq_nxt]; exact fin (by decide) hi⟩
 ·have q1:(cP ‹"r"› ‹"b"› Out.nxt) [s0,some (.val O),some (.val N),some (.val (.int (due:Int))),some (.val (.int ((2 ^ rs.length:Nat):Int))),some (.val (.int q)),some (.val d)]=.nxt [s0,some (.val O),some (.val N),some (.val (.int (due:Int))),some (.val (.int ((2 ^ rs.length:Nat):Int))),some (.val (.int q)),some (.val d)]:=by
   push_cast [m4,h]
  exact ⟨_,by rw [ap_seq,q0,sq_nxt,ap_seq,q1,sq_nxt]; exact fin (by decide) hd⟩
theorem FQ (δ:DS):fZ (Out.nxt δ)=.nxt (δ.map (Option.map thaw2)):=rfl
theorem Ug (ns:List Int) (hl63:ns.length<=63):iy [.lst (ns.map .int)]=.ok (.bl true):=by
 obtain ⟨O,N,c,due,S,tw⟩:=Ua ns;have ln:=S.ln;have mi:=Ud S.c3.2;obtain ⟨us,cu,lu⟩:=Uc ns;have ad:aN (.lst (us.map .int)) (.lst [.int 0])=.ok (.lst ((us ++ [0]).map .int)):=by
  show (if _ then Res.ok (D.lst _) else .stuck)=_
  rw [if_pos (by rw [length_map]; exact Nat.le_trans (show us.length + 1<=64 by omega) (by decide)),map_append]; rfl
 have lp:=Io (t:=bC 5) (b:=(aA (aB 6 (ao (ak (aj 5) ‹"B"›) lO)) (aA (cP ‹"r"› ‹"b"› Out.nxt) (aA (cP ‹"P"› (aJ (fun _=>.ok (.bl false))) Out.nxt) (cP ‹"Q"› (aJ (fun _=>.ok (.bl false))) Out.nxt))))) (P:=fun δ=>∃z5 z6,δ=[some (SV.val (.lst (ns.map .int))),some (.val O),some (.val N),some (.val (.int (due:Int))),some (.val (.int ((2 ^ c:Nat):Int))),z5,z6]) ((us ++ [0]).map .int) (fun d hd δ hδ=>by
  obtain ⟨z5,z6,rfl⟩:=hδ;obtain ⟨q,_,rfl⟩:=mem_map.mp hd;obtain ⟨d',e⟩:=Ue S q (some (SV.val (.lst (ns.map .int)))) z6;exact ⟨[some (SV.val (.lst (ns.map .int))),some (.val O),some (.val N),some (.val (.int (due:Int))),some (.val (.int ((2 ^ c:Nat):Int))),some (.val (.int q)),z6],_,rfl,e,_,_,rfl⟩) [some (SV.val (.lst (ns.map .int))),some (.val O),some (.val N),some (.val (.int (due:Int))),some (.val (.int ((2 ^ c:Nat):Int))),none,none] ⟨_,_,rfl⟩
 obtain ⟨δ',el,_⟩:=lp;have th0:thaw [some (SV.arg (.lst (ns.map .int))),some (.val O),some (.val N),some (.val (.int (due:Int))),some (.val (.int ((2 ^ c:Nat):Int))),none,none]=[some (SV.val (.lst (ns.map .int))),some (.val O),some (.val N),some (.val (.int (due:Int))),some (.val (.int ((2 ^ c:Nat):Int))),none,none]:=rfl;show outD (kI [some (.arg (.lst (ns.map .int))),none,none,none,none,none,none])=_;unfold kI;have t0:(lg (aZ [1,2,3]) (ao (ak (aj 0) ‹""›) km)) [some (.arg (.lst (ns.map .int))),none,none,none,none,none,none]=.nxt [some (.arg (.lst (ns.map .int))),some (.val O),some (.val N),some (.val (.int (due:Int))),none,none,none]:=by
  unfold lg;push_cast [tw];rfl
 have t1:‹"E"› [some (.arg (.lst (ns.map .int))),some (.val O),some (.val N),some (.val (.int (due:Int))),none,none,none]=.nxt [some (SV.arg (.lst (ns.map .int))),some (.val O),some (.val N),some (.val (.int (due:Int))),some (.val (.int ((2 ^ c:Nat):Int))),none,none]:=by push_cast [ln,mi]
 rw [ap_seq,t0,sq_nxt,ap_seq,t1,sq_nxt];push_cast [cu,ad,th0,el,FQ]
theorem fd' {K:Frag} {H:Hp}:∀ns:List Int,Reps K H (ns.map .int) (ns.map V.int)
 | []=>.nil
 | n :: ns=>.cons gQ (fd' ns)
end K39
namespace K39
open PySem PySem.Spec PyProof.Rows L2 DL
theorem all_mk {l:OpenLaw} {w:World} {K:Frag} {h:Heap} {mg:Str->Option Value} {fa c_HallError c_Below c_NoOver c_NoRoom c_NoCarry f_law:Addr} (X:K.In h) (G:h.Ns mainGlobals mg) (hfa:mg "law" = some (.ref fa))
  {od_law an_law:Option Addr} {sl_law:Array (Option Value)} {oc_law kV_law dc_law pm_law cd_law ct_law:Value}
  (n_HallError:nsIn K mainGlobals "HallError" = some (some (.ref c_HallError)))
  (n_Below:nsIn K mainGlobals "Below" = some (some (.ref c_Below)))
  (x_Below:excIn K c_Below [.type "ValueError",.type "Exception",.type "BaseException",.type "object"] "ValueError.__new__" = true)
  (n_NoOver:nsIn K mainGlobals "NoOver" = some (some (.ref c_NoOver)))
  (x_NoOver:excIn K c_NoOver [.type "ValueError",.type "Exception",.type "BaseException",.type "object"] "ValueError.__new__" = true)
  (n_NoRoom:nsIn K mainGlobals "NoRoom" = some (some (.ref c_NoRoom)))
  (n_NoCarry:nsIn K mainGlobals "NoCarry" = some (some (.ref c_NoCarry)))
  (xk_NoCarry:Xk K c_NoCarry c_HallError "NoCarry.__init__" Ek "at")
  (no_at_NoCarry:findIn K (.ref c_NoCarry) "at" = some none)
  (l_qH:Lk K "common" pM)
  (l_qn:Lk K "whole_root" pN)
  (l_qI:Lk K "lifted" pO)
  (l_qj:Lk K "are_noughts" pP)
  (l_qo:Lk K "front_tops" pQ)
  (l_qk:Lk K "behind_tops" pR)
  (l_qu:Lk K "plus_tops" pU)
  (l_qg:Lk K "against_tops" pW)
  (l_qd:Lk K "sign_of_whole" pX)
  (l_qp:Lk K "times_last" pY)
  (l_qA:Lk K "_law_cell" pZ)
  (l_qv:Lk K "_law_whole" p6)
  (l_qw:Lk K "_law_mixed" p7)
  (l_qq:Lk K "_law_common" p_)
  (l_qb:Lk K "_law_prime_roots" qd)
  (l_qO:Lk K "made" mF)
  (l_qC:Lk K "against" qi)
  (l_qx:Lk K "is_nought" qj)
  (l_qJ:Lk K "turned" ql)
  (l_qc:Lk K "_law_scaffold" qm)
  (l_qr:Lk K "_law_lowest" mG)
  (l_qs:Lk K "_law_primes" qp)
  (l_qP:Lk K "plus" mH)
  (l_qK:Lk K "halves" qt)
  (l_qa:Lk K "root_of_fraction" qu)
  (l_qD:Lk K "half_of" qw)
  (l_ql:Lk K "_law_drawn" ji)
  (l_qE:Lk K "_law_two" iw)
  (l_qM:Lk K "minus" qx)
  (l_qt:Lk K "times_tops" j7)
  (l_qF:Lk K "middles" qy)
  (l_qN:Lk K "times" qC)
  (l_qy:Lk K "norm_tops" qD)
  (l_qQ:Lk K "norm" qF)
  (l_qz:Lk K "both_ways" qG)
  (l_qh:Lk K "sign_of_tops" j8)
  (l_qL:Lk K "put_in" j9)
  (l_qB:Lk K "one_over" j_)
  (l_qR:Lk K "sign" qH)
  (l_qS:Lk K "over" qI)
  (l_qT:Lk K "size" qJ)
  (l_qU:Lk K "root" kh)
  (l_qe:Lk K "root_of_front" qK)
  (l_qi:Lk K "root_of_both" qL)
  (l_qf:Lk K "carried_roots" qM)
  (l_qG:Lk K "carried" qN)
  (l_qm:Lk K "_law_refused" qO)
  (n_law:nsIn K mainGlobals "law" = some (some (.ref f_law)))
  (l_law:K.lookup f_law=some ⟨oc_law,od_law,.func (fnOf "law" "law" (bO tU) (aV tU) (aq tU) .none kV_law dc_law pm_law an_law cd_law ct_law),sl_law⟩)
  (c_law:codeIn K cd_law "law" = true)
  (k_law:keepIn K (.ref f_law)=true)
  (z_ValueError:nsIn K mainGlobals "ValueError" = some none)
  (z_abs:nsIn K mainGlobals "abs" = some none)
  (z_all:nsIn K mainGlobals "all" = some none)
  (z_bool:nsIn K mainGlobals "bool" = some none)
  (z_enumerate:nsIn K mainGlobals "enumerate" = some none)
  (z_int:nsIn K mainGlobals "int" = some none)
  (z_isinstance:nsIn K mainGlobals "isinstance" = some none)
  (z_len:nsIn K mainGlobals "len" = some none)
  (z_min:nsIn K mainGlobals "min" = some none)
  (z_range:nsIn K mainGlobals "range" = some none)
  (z_tuple:nsIn K mainGlobals "tuple" = some none)
  (z_zip:nsIn K mainGlobals "zip" = some none)
  (e0_NoCarry:findIn K (.ref c_NoCarry) "__getattribute__" = some (some (.builtin "BaseException.__getattribute__")))
  (e1_NoCarry:findIn K (.ref c_NoCarry) "__getattr__" = some none)
  (e2_NoCarry:hasDictIn K c_NoCarry=true)
  (e3_NoCarry:findIn K (.ref c_NoCarry) "__class__" = some (some (.builtin "object.__class__")))
  (e6_NoCarry:mroIn K c_NoCarry (.type "object")=some true)
  (e7_NoCarry:mroIn K c_NoCarry (.type "BaseException")=some true)
  (e4:specialIn K (.builtin "object.__class__") "__get__" = some (some (.builtin "getset_descriptor.__get__")))
  (e5:takesIn K (.builtin "object.__class__")=some true)
  (s_NoCarry_HallError:exmOne K (.ref c_NoCarry) (.ref c_HallError)=some true)
  (i_int_int:kitOne K (.type "int") (.type "int")=some true)
  (i_bool_int:kitOne K (.type "bool") (.type "int")=some true)
  (i_NoneType_int:kitOne K (.type "NoneType") (.type "int")=some false)
  (i_str_int:kitOne K (.type "str") (.type "int")=some false)
  (i_tuple_int:kitOne K (.type "tuple") (.type "int")=some false)
  (i_list_int:kitOne K (.type "list") (.type "int")=some false)
  (i_dict_int:kitOne K (.type "dict") (.type "int")=some false)
  (i_int_bool:kitOne K (.type "int") (.type "bool")=some false)
  (i_bool_bool:kitOne K (.type "bool") (.type "bool")=some true)
  (i_NoneType_bool:kitOne K (.type "NoneType") (.type "bool")=some false)
  (i_str_bool:kitOne K (.type "str") (.type "bool")=some false)
  (i_tuple_bool:kitOne K (.type "tuple") (.type "bool")=some false)
  (i_list_bool:kitOne K (.type "list") (.type "bool")=some false)
  (i_dict_bool:kitOne K (.type "dict") (.type "bool")=some false)
  (i_NoneType_NoCarry:kitOne K (.type "NoneType") (.ref c_NoCarry)=some false)
  (i_NoCarry_NoCarry:kitOne K (.ref c_NoCarry) (.ref c_NoCarry)=some true)
  (i_NoneType_NoRoom:kitOne K (.type "NoneType") (.ref c_NoRoom)=some false)
  (i_NoCarry_NoRoom:kitOne K (.ref c_NoCarry) (.ref c_NoRoom)=some false)
  (i_NoneType_ValueError:kitOne K (.type "NoneType") (.type "ValueError")=some false)
  (i_NoCarry_ValueError:kitOne K (.ref c_NoCarry) (.type "ValueError")=some true)
  : ∃fd:FuncData,(∀(s:Shared) (v:Value),BindsTo s fd ⟨[v],[]⟩ [("_law_script",v)])/\∀base:Heap,K.In base->base.Ns mainGlobals mg->FnOk l.prog w K mg base (gW l.prog w) 24 fa fd ["_law_script"] (rJ K iy):=by
 have e:=hfa.symm.trans (mg_of X G n_law)
 cases e
 have iy:=hJ' (st:=tU) l_law c_law k_law;have T:Txt K mg { c_HallError:=c_HallError,c_Below:=c_Below,c_NoOver:=c_NoOver,c_NoRoom:=c_NoRoom,c_NoCarry:=c_NoCarry }:={
  m_HallError:=mg_of X G n_HallError
  m_Below:=mg_of X G n_Below
  n_Below:=n_Below
  x_Below:=x_Below
  m_NoOver:=mg_of X G n_NoOver
  n_NoOver:=n_NoOver
  x_NoOver:=x_NoOver
  m_NoRoom:=mg_of X G n_NoRoom
  m_NoCarry:=mg_of X G n_NoCarry
  n_NoCarry:=n_NoCarry
  z_ValueError:=mg_none_of X G z_ValueError
  z_abs:=mg_none_of X G z_abs
  z_all:=mg_none_of X G z_all
  z_bool:=mg_none_of X G z_bool
  z_enumerate:=mg_none_of X G z_enumerate
  z_int:=mg_none_of X G z_int
  z_isinstance:=mg_none_of X G z_isinstance
  z_len:=mg_none_of X G z_len
  z_min:=mg_none_of X G z_min
  z_range:=mg_none_of X G z_range
  z_tuple:=mg_none_of X G z_tuple
  z_zip:=mg_none_of X G z_zip
  a_at:=by
   intro c hc C hC;unfold iu at hc;simp only [beq_iff_eq] at hc;subst hc; cases n_NoCarry.symm.trans hC; exact ⟨⟨e0_NoCarry,e1_NoCarry,e2_NoCarry,e3_NoCarry,e4,e5,e6_NoCarry,e7_NoCarry⟩,no_at_NoCarry⟩
  s_HallError:=by
   intro x C hC hs;unfold cQ at hs
   split at hs
   ·rename_i e; subst e; cases n_NoCarry.symm.trans hC; exact s_NoCarry_HallError
   ·cases hs
  i_int:=by
   intro d b hd
   cases d <;> simp only [Bk.is_int] at hd <;> cases hd <;> first | exact i_int_int | exact i_bool_int | exact i_NoneType_int | exact i_str_int | exact i_tuple_int | exact i_list_int | exact i_dict_int
  i_bool:=by
   intro d b hd
   cases d <;> simp only [Bk.is_bool] at hd <;> cases hd <;> first | exact i_int_bool | exact i_bool_bool | exact i_NoneType_bool | exact i_str_bool | exact i_tuple_bool | exact i_list_bool | exact i_dict_bool
  i_NoCarry:=by
   intro d b hd
   cases d with
   | excf c _ _ =>
    simp only [cY] at hd
    split at hd
    ·rename_i e; subst e; cases hd; intro C hC; cases n_NoCarry.symm.trans hC; exact ⟨⟨e0_NoCarry,e1_NoCarry,e2_NoCarry,e3_NoCarry,e4,e5,e6_NoCarry,e7_NoCarry⟩,i_NoCarry_NoCarry⟩
    ·cases hd
   | non=>simp only [cY] at hd; cases hd; exact i_NoneType_NoCarry
   | _=>cases hd
  i_NoRoom:=by
   intro d b hd
   cases d with
   | excf c _ _ =>
    simp only [dC] at hd
    split at hd
    ·rename_i e; subst e; cases hd; intro C hC; cases n_NoCarry.symm.trans hC; exact ⟨⟨e0_NoCarry,e1_NoCarry,e2_NoCarry,e3_NoCarry,e4,e5,e6_NoCarry,e7_NoCarry⟩,i_NoCarry_NoRoom⟩
    ·cases hd
   | non=>simp only [dC] at hd; cases hd; exact i_NoneType_NoRoom
   | _=>cases hd
  i_ValueError:=by
   intro d b hd
   cases d with
   | excf c _ _ =>
    simp only [cG] at hd
    split at hd
    ·rename_i e; subst e; cases hd; intro C hC; cases n_NoCarry.symm.trans hC; exact ⟨⟨e0_NoCarry,e1_NoCarry,e2_NoCarry,e3_NoCarry,e4,e5,e6_NoCarry,e7_NoCarry⟩,i_NoCarry_ValueError⟩
    ·cases hd
   | non=>simp only [cG] at hd; cases hd; exact i_NoneType_ValueError
   | _=>cases hd
 }
 refine ⟨fnOf "law" "law" (bO tU) (aV tU) (aq tU) .none kV_law dc_law pm_law an_law cd_law ct_law,fun s v=>.of_eq rfl,fun base _ _=>?_⟩;have G_NoCarry:=RK (P:=l.prog) (w:=w) (base:=base) T xk_NoCarry;have G_qH:=yH (P:=l.prog) (w:=w) (base:=base) T (cT X G l_qH);have G_qn:=yI (P:=l.prog) (w:=w) (base:=base) T (fD X G l_qn);have G_qI:=yJ (P:=l.prog) (w:=w) (base:=base) T (cT X G l_qI);have G_qj:=yK (P:=l.prog) (w:=w) (base:=base) T (fD X G l_qj);have G_qo:=yL (P:=l.prog) (w:=w) (base:=base) T (fD X G l_qo);have G_qk:=yM (P:=l.prog) (w:=w) (base:=base) T (fD X G l_qk);have G_qu:=yN (P:=l.prog) (w:=w) (base:=base) T (cT X G l_qu);have G_qg:=yO (P:=l.prog) (w:=w) (base:=base) T (fD X G l_qg);have G_qd:=yP (P:=l.prog) (w:=w) (base:=base) T (fD X G l_qd);have G_qp:=yQ (P:=l.prog) (w:=w) (base:=base) T (fD X G l_qp);have G_qA:=yR (P:=l.prog) (w:=w) (base:=base) T (cT X G l_qA);have G_qv:=yS (P:=l.prog) (w:=w) (base:=base) T (fD X G l_qv);have G_qw:=yU (P:=l.prog) (w:=w) (base:=base) T (lG X G l_qw);have G_qq:=yV (P:=l.prog) (w:=w) (base:=base) T (cT X G l_qq);have G_qb:=yW (P:=l.prog) (w:=w) (base:=base) T (cT X G l_qb);have G_qO:=yX G_qH T (cT X G l_qO);have G_qC:=yZ G_qg T (fD X G l_qC);have G_qx:=y_ G_qj T (fD X G l_qx);have G_qJ:=zc G_qg G_qo G_qk T (fD X G l_qJ);have G_qc:=zf G_qw T (cT X G l_qc);have G_qr:=zg G_qq T (fD X G l_qr);have G_qs:=zj G_qw T (cT X G l_qs);have G_qP:=zm G_qO T (cT X G l_qP);have G_qK:=zp G_qo G_qk G_qO T (fD X G l_qK);have G_qa:=zr G_qO G_qn T (fD X G l_qa);have G_qD:=zu G_qO T (fD X G l_qD);have G_ql:=zx G_qw G_qr T (cT X G l_ql);have G_qE:=zy G_qw G_qA G_qs G_qc G_qb T (fD X G l_qE);have G_qM:=zB G_qP G_qC T (cT X G l_qM);have G_qt:=zE G_qo G_qk G_qu T (lG X G l_qt);have G_qF:=zF G_qP G_qD G_qM T (cT X G l_qF);have G_qN:=zG G_qO G_qt T (lG X G l_qN);have G_qy:=zH G_qg G_qo G_qk G_qu G_qt T (cT X G l_qy);have G_qQ:=zJ G_qO G_qy T (cT X G l_qQ);have G_qz:=zK G_qN T (cT X G l_qz);have G_qh:=zL G_qo G_qk G_qy G_qd T (cT X G l_qh);have G_qL:=zM G_qP G_qN G_qK G_qI T (lG X G l_qL);have G_qB:=zN G_qO G_qN G_qI G_qQ G_qJ T (cT X G l_qB);have G_qR:=zO G_qh T (cT X G l_qR);have G_qS:=zP G_qN G_qx G_qB T (lG X G l_qS);have G_qT:=zQ G_qC G_qR T (cT X G l_qT);have G_qU:=zR G_qK G_qQ G_qx G_qa T (cT X G l_qU) (fun R k hk g=>(rE G_qI G_qz G_qp G_qS T (cT X G l_qe) hk g )) (fun R k hk g=>(rF G_qP G_qI G_qp G_qS G_qF G_qT T (xj X G l_qi) hk g ));have G_qe:=rE G_qI G_qz G_qp G_qS T (cT X G l_qe) (by decide) G_qU;have G_qi:=rF G_qP G_qI G_qp G_qS G_qF G_qT T (xj X G l_qi) (by decide) G_qU;have G_qf:=zT G_qU G_qL T (cT X G l_qf) G_NoCarry;have G_qG:=zU G_qL G_qf T (lG X G l_qG);have G_qm:=zV G_qG G_qv T (lG X G l_qm);exact RL G_qG G_qE G_ql G_qm T iy
theorem walk {l:OpenLaw} {q:Program} {loose:List Str} {XP:(Str->Option Value)->Heap->Prop} {YP:World->Heap->Prop} {d:DefRec} {K:Params->Frag} (hn:l.most=some 63) (hdf:d.params.defaults=[])
  (hY:∀(w:World) (h:Heap),YP w h->(K w.params).In h)
  (F:∀(w:World) (mg:Str->Option Value) (fa:Addr) (h:Heap),(K w.params).In h->h.Ns mainGlobals mg->mg d.name=some (.ref fa) ->
   ∃fd:FuncData,(∀(s:Shared) (u:Value),BindsTo s fd ⟨[u],[]⟩ [("_law_script",u)])/\∀base:Heap,(K w.params).In base->base.Ns mainGlobals mg->FnOk l.prog w (K w.params) mg base (gW l.prog w) 24 fa fd ["_law_script"] (rJ (K w.params) iy)) :
  WalkO q loose XP YP l.row.toRowW d [] (fun f vs=>PySem.call f vs) :=
 L2.walk_of (n:=63) (k:=24) (x:="_law_script") (CX:=fun w=>gW l.prog w) (sp:=fun w=>rJ (K w.params) iy) hn (by decide) hdf ⟨rfl,by decide,by decide⟩ hY F
  (fun w H a ns hl _ hS=>⟨[.lst (ns.map .int)],.cons (rG hS (fd' ns)) .nil,by rw [Ug ns hl]; exact fun v H' _ r=>by rw [Rep] at r; exact r⟩)
  fun _ _ _ _ _ z=>by obtain ⟨_,_,_,_,_,_,_,_,_,_,z⟩:=z; exact z
end K39
open PySem PySem.W PyProof.Rows
def PySem.W.Fast.tw15150497886466611514:Unit:=()
def PySem.W.Fast.tw18405209846230487363:Unit:=()
def PySem.W.Fast.tw7414626391500653569:Unit:=()
def PySem.W.Fast.tw16233832911509745953:Unit:=()
def PySem.W.Fast.tw112679899595009220:Unit:=()
def PySem.W.Fast.tw10586666106656186808:Unit:=()
def PySem.W.Fast.tw8180999840073856604:Unit:=()
def PySem.W.Fast.tw12939891839934364063:Unit:=()
def PySem.W.Fast.tw14971756221002456672:Unit:=()
def PySem.W.Fast.tw10147242060228005787:Unit:=()
def PySem.W.Fast.tw3220005607929936262:Unit:=()
def PySem.W.Fast.tw17843140851243344731:Unit:=()
def PySem.W.Fast.tw12070256410959965494:Unit:=()
def PySem.W.Fast.tw3298712973909214417:Unit:=()
def PySem.W.Fast.tw8348933864721581609:Unit:=()
def PySem.W.Fast.tw16891660950858210913:Unit:=()
def PySem.W.Fast.tw2169018883085045542:Unit:=()
def PySem.W.Fast.tw257874278947429991:Unit:=()
def PySem.W.Fast.tw8832232973103786331:Unit:=()
def PySem.W.Fast.tw17436468212225639117:Unit:=()
def PySem.W.Fast.tw13317997110751567712:Unit:=()
def PySem.W.Fast.tw14816354548381261808:Unit:=()
def PySem.W.Fast.tw216576387735682273:Unit:=()
def PySem.W.Fast.tw5574057014701811594:Unit:=()
def PySem.W.Fast.tw4930060636148407070:Unit:=()
def PySem.W.Fast.tw16352307971334795270:Unit:=()
def PySem.W.Fast.tw17510908051015179590:Unit:=()
def PySem.W.Fast.tw2801256331331420497:Unit:=()
def PySem.W.Fast.tw15764031150359533181:Unit:=()
def PySem.W.Fast.tw1313515528525707918:Unit:=()
def PySem.W.Fast.tw3626633961257669094:Unit:=()
def PySem.W.Fast.tw11746914981445036596:Unit:=()
def PySem.W.Fast.tw3082673462791937274:Unit:=()
def PySem.W.Fast.tw16790068712600630463:Unit:=()
def PySem.W.Fast.tw7250120649040191683:Unit:=()
def PySem.W.Fast.tw7135240203265874373:Unit:=()
def PySem.W.Fast.tw5845852724588434183:Unit:=()
def PySem.W.Fast.tw12980307754167745295:Unit:=()
def PySem.W.Fast.tw13851445244271305771:Unit:=()
def PySem.W.Fast.tw6854282870529408035:Unit:=()
def PySem.W.Fast.tw2591528231957567899:Unit:=()
def PySem.W.Fast.tw4643601136166261376:Unit:=()
def PySem.W.Fast.tw11968118891559337211:Unit:=()
def PySem.W.Fast.tw8186763086646006958:Unit:=()
def PySem.W.Fast.tw3884362562200101381:Unit:=()
def PySem.W.Fast.tw12088581551413996444:Unit:=()
def PySem.W.Fast.tw426504414799736741:Unit:=()
def PySem.W.Fast.tw15950373096105691061:Unit:=()
def PySem.W.Fast.tw15008187004383469028:Unit:=()
def PySem.W.Fast.tw18300434841423344448:Unit:=()
def PySem.W.Fast.tw14330578473966495034:Unit:=()
def PySem.W.Fast.tw8616758715808552180:Unit:=()
def PySem.W.Fast.tw397435693417487439:Unit:=()
def PySem.W.Fast.tw137378077979745187:Unit:=()
def PySem.W.Fast.tw15885817158515618731:Unit:=()
def PySem.W.Fast.tw773440637331716877:Unit:=()
set_option maxRecDepth 100000 in
set_option maxHeartbeats 0 in
theorem PySem.Challenge.cw_compasshall_k39_roots_that_are_not_there_holds : PySem.Challenge.rw_compasshall_k39_roots_that_are_not_there.Holds := by
  w_on; o_law; k_head; (case hw => w_witness2)
  k_fill
  refine K39.walk (l := PySem.Challenge.rw_compasshall_k39_roots_that_are_not_there) rfl rfl (fun w h Y => kIn_of Y) ?F
  case F =>
    intro w mg fa h KX G hmg
    refine' K39.all_mk KX G hmg ?q0 ?q1 ?q2 ?q3 ?q4 ?q5 ?q6 ?q7 ?q8 ?q9 ?q10 ?q11 ?q12 ?q13 ?q14 ?q15 ?q16 ?q17 ?q18 ?q19 ?q20 ?q21 ?q22 ?q23 ?q24 ?q25 ?q26 ?q27 ?q28 ?q29 ?q30 ?q31 ?q32 ?q33 ?q34 ?q35 ?q36 ?q37 ?q38 ?q39 ?q40 ?q41 ?q42 ?q43 ?q44 ?q45 ?q46 ?q47 ?q48 ?q49 ?q50 ?q51 ?q52 ?q53 ?q54 ?q55 ?q56 ?q57 ?q58 ?q59 ?q60 ?q61 ?q62 ?q63 ?q64 ?q65 ?q66 ?q67 ?q68 ?q69 ?q70 ?q71 ?q72 ?q73 ?q74 ?q75 ?q76 ?q77 ?q78 ?q79 ?q80 ?q81 ?q82 ?q83 ?q84 ?q85 ?q86 ?q87 ?q88 ?q89 ?q90 ?q91 ?q92 ?q93 ?q94 ?q95 ?q96 ?q97 ?q98 ?q99 ?q100
    case q0 | q1 => k_is
    case q2 => k_exc
    case q3 => k_is
    case q4 => k_exc
    case q5 | q6 => k_is
    case q7 => (refine' DL.xk_mk ?a ?b ?c ?d ?e ?f ?g ?h ?i ?j ?k ?l; (case a => k_is); (case b => k_is); (case c => k_is); (case d => k_is); (case e => k_is); (case f => k_exc); (case g => k_is); (case h => k_is); (case i => k_is); (case j => k_is); (case k => k_is); (case l => k_is))
    case q8 => k_is
    case q9 | q10 | q11 | q12 | q13 | q14 | q15 | q16 | q17 | q18 | q19 | q20 | q21 | q22 | q23 | q24 | q25 | q26 | q27 | q28 | q29 | q30 | q31 | q32 | q33 | q34 | q35 | q36 | q37 | q38 | q39 | q40 | q41 | q42 | q43 | q44 | q45 | q46 | q47 | q48 | q49 | q50 | q51 | q52 | q53 | q54 | q55 => (refine' DL.lk_mk ?a ?b ?c ?d; (case a => k_is); (case b => k_is); (case c => k_is); (case d => k_is))
    case q56 | q57 | q58 | q59 | q60 | q61 | q62 | q63 | q64 | q65 | q66 | q67 | q68 | q69 | q70 | q71 | q72 | q73 | q74 | q75 | q76 | q77 | q78 | q79 => k_is
    case q80 => kts_exm
    case q81 | q82 | q83 | q84 | q85 | q86 | q87 | q88 | q89 | q90 | q91 | q92 | q93 | q94 | q95 | q96 | q97 | q98 | q99 | q100 => kit_is
