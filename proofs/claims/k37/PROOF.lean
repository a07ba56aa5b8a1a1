import PyProof.Rows.All
import Wide.All
import OpenK.AllK
import Wide.FinOn
import Lean
import PyProof.EqAt
import PyProof.EqKinds
import PyProof.TupleCall
import PySem.Challenge.RW_compasshall_k37_rows_changed
noncomputable section
set_option Elab.async false
set_option linter.all false
set_option maxRecDepth 100000
namespace L2
open PySem PySem.Spec PyProof.Rows
abbrev Key:=Sum Int Str
noncomputable def keyIs:Key->Value->Bool
 | .inl k,v=>Value.isInt k v
 | .inr x,v=>Value.isStrOf x v
noncomputable def keyH (w:World):Key->Int
 | .inl k=>hashInt k
 | .inr x=>hashStr w x
theorem aG':∀{k:Key} {v:Value},keyIs k v=true->(∃i t,k=Sum.inl i/\v=Value.int i t)\/(∃x t,k=Sum.inr x/\v=Value.str x t)
 | .inl i,v,h=>by
  obtain ⟨t,e⟩:=Value.isInt_shape (k:=i) (v:=v) h;exact .inl ⟨i,t,rfl,e⟩
 | .inr x,v,h=>by
  obtain ⟨t,e⟩:=Value.isStrOf_shape (x:=x) (v:=v) h;exact .inr ⟨x,t,rfl,e⟩
theorem lc' (a b:Int):decide ((Sum.inl a:Key)=Sum.inl b)=(a == b):=by
 by_cases e:a=b
 ·subst e; simp
 ·have h:¬(Sum.inl a:Key)=Sum.inl b:=fun q=>e (Sum.inl.inj q);rw [decide_eq_false h];exact (beq_eq_false_iff_ne.mpr e).symm
theorem ld' (a b:Str):decide ((Sum.inr a:Key)=Sum.inr b)=decide (a=b):=by
 by_cases e:a=b
 ·subst e; simp
 ·have h:¬(Sum.inr a:Key)=Sum.inr b:=fun q=>e (Sum.inr.inj q);rw [decide_eq_false h,decide_eq_false e]
theorem le' (a:Int) (b:Str):decide ((Sum.inl a:Key)=Sum.inr b)=false:=decide_eq_false (fun q=>nomatch q)
theorem lf' (a:Str) (b:Int):decide ((Sum.inr a:Key)=Sum.inl b)=false:=decide_eq_false (fun q=>nomatch q)
noncomputable def mixKind (prog:Program) (w:World):PySem.KeyKind prog w Key where
 is:=keyIs
 hash:=keyH w
 inj:=fun v a b ha hb=>by
  rcases aG' ha with ⟨i,t,rfl,rfl⟩ | ⟨x,t,rfl,rfl⟩
  ·rcases aG' hb with ⟨j,u,rfl,e⟩ | ⟨y,u,rfl,e⟩
   ·injection e with e1 _; rw [e1]
   ·exact nomatch e
  ·rcases aG' hb with ⟨j,u,rfl,e⟩ | ⟨y,u,rfl,e⟩
   ·exact nomatch e
   ·injection e with e1 _; rw [e1]
 byValue:=fun k v h=>by
  rcases aG' h with ⟨i,t,rfl,rfl⟩ | ⟨x,t,rfl,rfl⟩ <;> rfl
 pyHash:=fun hv h=>by
  rcases aG' hv with ⟨i,t,rfl,rfl⟩ | ⟨x,t,rfl,rfl⟩
  ·exact wpAny_pyHash_int h
  ·exact wpAny_pyHash_str h
 eqBool:=fun hu hv h=>by
  rcases aG' hu with ⟨i,t,rfl,rfl⟩ | ⟨x,t,rfl,rfl⟩
  ·rcases aG' hv with ⟨j,u,rfl,rfl⟩ | ⟨y,u,rfl,rfl⟩
   ·rw [lc'] at h; exact wpAny_eqBool_int h
   ·rw [le'] at h; exact SeqAt.EqAt.int_str i t y u _ _ _ _ h
  ·rcases aG' hv with ⟨j,u,rfl,rfl⟩ | ⟨y,u,rfl,rfl⟩
   ·rw [lf'] at h; exact SeqAt.EqAt.str_int x t j u _ _ _ _ h
   ·rw [ld'] at h; exact wpAny_eqBool_str h
 «strs»:=fun k x t v h=>by
  rcases aG' h with ⟨i,u,rfl,e⟩ | ⟨y,u,rfl,e⟩
  ·exact nomatch e
  ·injection e with e1 _
   subst e1
   cases v <;> rfl
inductive V where
 | non | bl (b:Bool) | int (i:Int) | str (x:Str) | byt (b:Array UInt8) | flt (b:UInt64) | ref (a:Addr) | ty (n:String)
 deriving DecidableEq
noncomputable def RelV:V->Value->Prop
 | .non,u=>u=Value.none
 | .bl b,u=>u=Value.bool b
 | .int i,u=>∃t,u=Value.int i t
 | .str x,u=>∃t,u=Value.str x t
 | .byt b,u=>∃t,u=Value.bytes b t
 | .flt b,u=>∃t,u=Value.float b t
 | .ref a,u=>u=Value.ref a
 | .ty n,u=>u=Value.type n
abbrev Vals:List V->List Value->Prop:=Paired RelV
theorem Vals.length {xs:List V} {us:List Value} (r:Vals xs us):xs.length=us.length:=Paired.length r
theorem Vals.get:∀{xs:List V} {us:List Value} {i:Nat} {x:V},Vals xs us->xs[i]? = some x->∃u,us[i]? = some u/\RelV x u
 | _,_,_,_,.nil,e=>by simp at e
 | _,_,0,_,.cons r _,e=>by simp at e; subst e; exact ⟨_,rfl,r⟩
 | _,_,i + 1,x,.cons _ t,e=>by
  obtain ⟨u,h1,h2⟩:=Vals.get (i:=i) (x:=x) t (by simpa using e);exact ⟨u,by simpa using h1,h2⟩
theorem Vals.set {x:V} {u:Value} (r:RelV x u):∀{xs:List V} {us:List Value} (i:Nat),Vals xs us->Vals (xs.set i x) (us.set i u)
 | _,_,_,.nil=>.nil
 | _,_,0,.cons _ t=>.cons r t
 | _,_,i + 1,.cons q t=>.cons q (Vals.set r i t)
theorem Vals.append:∀{xs ys:List V} {us ws:List Value},Vals xs us->Vals ys ws->Vals (xs ++ ys) (us ++ ws)
 | _,_,_,_,.nil,s=>s
 | _,_,_,_,.cons r t,s=>.cons r (Vals.append t s)
theorem Vals.take:∀{xs:List V} {us:List Value} (n:Nat),Vals xs us->Vals (xs.take n) (us.take n)
 | _,_,0,_=>.nil
 | _,_,_ + 1,.nil=>.nil
 | _,_,n + 1,.cons r t=>.cons r (Vals.take n t)
theorem Vals.drop:∀{xs:List V} {us:List Value} (n:Nat),Vals xs us->Vals (xs.drop n) (us.drop n)
 | _,_,0,r=>r
 | _,_,_ + 1,.nil=>.nil
 | _,_,n + 1,.cons _ t=>Vals.drop n t
theorem Vals.none_of:∀{xs:List V} {us:List Value} {i:Nat},Vals xs us->xs[i]? = none->us[i]? = none:=fun {xs us i} r e=>by
 have h1:=r.length;have h2:xs.length<=i:=List.getElem?_eq_none_iff.mp e;exact List.getElem?_eq_none_iff.mpr (by omega)
noncomputable def RelO:Option V->Option Value->Prop
 | some v,some u=>RelV v u
 | none,none=>True
 | _,_=>False
noncomputable def KV {κ:Type}:List (κ×V)->List (κ×Value)->Prop:=Paired fun (p:κ×V) (q:κ×Value)=>p.1=q.1/\RelV p.2 q.2
noncomputable def kV:Key->V
 | .inl i=>.int i
 | .inr x=>.str x
inductive HO where
 | lst (xs:List V)
 | tup (xs:List V)
 | dK (kvs:List (Key×V)) | dT (kvs:List (List Key×V))
 | set (S:Int->Bool) (n:Nat)
 | ins (C dx:Addr) (fs:List (Str×V))
 | own (x:Addr)
 | xd (fs:List (Str×V))
 | met (f x:Addr)
 | rng (lo hi:Int)
 | frz (o:Obj) (u:HO)
 | tbl (ps:Array Value)
 | ext (φ:Heap->Prop)
abbrev Hp:=Addr->Option HO
noncomputable def upd (H:Hp) (a:Addr) (o:HO):Hp:=fun b=>if b=a then some o else H b
theorem aj' {H:Hp} {a:Addr} {o:HO}:upd H a o a=some o:=by unfold upd; rw [if_pos rfl]
theorem ai' {H:Hp} {a b:Addr} {o:HO} (h:b≠a):upd H a o b=H b:=by unfold upd; rw [if_neg h]
theorem du' {H:Hp} {a:Addr} {o u:HO}:upd (upd H a o) a u=upd H a u:=by
 funext b; unfold upd; split <;> rfl
theorem aF' {H:Hp} {a b:Addr} {o:HO} (h:H a=some o) (h':H b=none):a≠b:=by
 intro e; subst e; rw [h] at h'; cases h'
section
variable (P:Program) (w:World)
noncomputable def ObjOk (H:Hp) (h:Heap) (a:Addr):HO->Prop
 | .lst xs=>xs.length<=sizeLine/\∃(its:List Value) (n:Nat),Vals xs its/\h.get? a=some { cls:=.type "list",data:=.seq its.toArray n }
 | .tup xs=>xs.length<=sizeLine/\∃its:List Value,Vals xs its/\IsTup h a its.toArray
 | .dK kvs=>kvs.length<=sizeLine/\(a == sysModules)=false/\∃vs,KV kvs vs/\h.DictOf (mixKind P w) a vs
 | .dT kvs=>kvs.length<=sizeLine/\(a == sysModules)=false/\∃xs:List (List Key×Addr×Value),
   Paired (fun (p:List Key×V) (q:List Key×Addr×Value)=>p.1=q.1/\H q.2.1=some (.tup (p.1.map kV))/\RelV p.2 q.2.2) kvs xs /\
   ∃o es ep,h.get? a=some o/\o.ExactDict/\o.data=.dict es ep/\es.toList=xs.map (entryOfKey (tupleKind (mixKind P w)))/\(xs.map (·.1)).Nodup
 | .set S n=>h.SetOf (intKind P w) a S n
 | .ins C dx fs=>H dx=some (.own a)/\fs.length<=1000/\dx≠a/\h.get? a=some (PySem.W.instObj C dx) /\
   ∃mA,h.Ns1 dx mA/\(∀f,RelO (fs.lookup f) (mA f))/\PySem.Within mA (fs.map (·.1))
 | .own _=>∃o,h.get? a=some o
 | .xd fs=>∃mA,h.Ns1 a mA/\∀f,RelO (fs.lookup f) (mA f)
 | .rng lo hi=>∃t u v,h.get? a=some { cls:=.type "range",data:=.fields #[.int lo t,.int hi u,.int 1 v] }
 | .frz o u=>h.get? a=some o/\ObjOk H h a u
 | .tbl ps=>h.get? a=some { cls:=.none,data:=.fields ps }
 | .met f x=>h.get? a=some (PySem.W.methodObj (.ref f) (.ref x))
 | .ext φ=>φ h/\(∃o,h.get? a=some o)/\∀h1 h2:Heap,φ h1->(∀o,h1.get? a=some o->h2.get? a=some o)->φ h2
noncomputable def HOk (H:Hp) (h:Heap):Prop:=∀a o,H a=some o->ObjOk P w H h a o
end
section
variable {P:Program} {w:World} {H H':Hp} {h h':Heap} {a:Addr} {o:HO}
theorem ObjOk.lt (x:ObjOk P w H h a o):a < h.objs.size:=by
 cases o with
 | lst xs=>obtain ⟨_,_,_,_,e⟩:=x; exact Heap.lt_size e
 | tup xs=>obtain ⟨_,_,_,p⟩:=x; exact p.lt
 | dK kvs=>obtain ⟨_,_,_,_,o,_,_,e,_⟩:=x; exact Heap.lt_size e
 | dT kvs=>obtain ⟨_,_,_,_,o,_,_,e,_⟩:=x; exact Heap.lt_size e
 | set S n=>obtain ⟨o,_,_,_,e,_⟩:=x; exact Heap.lt_size e
 | ins C dx fs=>obtain ⟨_,_,_,e,_⟩:=x; exact Heap.lt_size e
 | own y=>obtain ⟨_,e⟩:=x; exact Heap.lt_size e
 | xd fs=>obtain ⟨_,⟨_,_,_,e,_⟩,_⟩:=x; exact Heap.lt_size e
 | rng lo hi=>obtain ⟨_,_,_,e⟩:=x; exact Heap.lt_size e
 | frz ob u=>obtain ⟨e,_⟩:=x; exact Heap.lt_size e
 | tbl ps=>exact Heap.lt_size (show h.get? a=some _ from x)
 | met f y=>exact Heap.lt_size (show h.get? a=some _ from x)
 | ext φ=>obtain ⟨_,⟨_,e⟩,_⟩:=x; exact Heap.lt_size e
theorem Paired.mapP {α β:Type} {F G:α->β->Prop}:∀{l₁:List α} {l₂:List β},Paired F l₁ l₂->(∀a b,F a b->G a b)->Paired G l₁ l₂
 | _,_,.nil,_=>.nil
 | _,_,.cons r t,f=>.cons (f _ _ r) (Paired.mapP t f)
theorem ObjOk.stay (x:ObjOk P w H h a o) (k:∀b u,(b=a\/H b=some (.own a))->h.get? b=some u->h'.get? b=some u)
  (ho:∀b,H b=some (.own a)->H' b=some (.own a)) (ht:∀b xs,H b=some (.tup xs)->H' b=some (.tup xs)):ObjOk P w H' h' a o:=by
 induction o with
 | lst xs=>obtain ⟨z,its,n,r,e⟩:=x; exact ⟨z,its,n,r,k _ _ (.inl rfl) e⟩
 | tup xs=>obtain ⟨z,its,r,ob,e,c⟩:=x; exact ⟨z,its,r,ob,k _ _ (.inl rfl) e,c⟩
 | dK kvs=>obtain ⟨z,y,vs,r,ob,es,ep,e,c⟩:=x; exact ⟨z,y,vs,r,ob,es,ep,k _ _ (.inl rfl) e,c⟩
 | dT kvs =>
  obtain ⟨z,y,xs,r,ob,es,ep,e,c⟩:=x;exact ⟨z,y,xs,Paired.mapP r fun p q z=>⟨z.1,ht _ _ z.2.1,z.2.2⟩,ob,es,ep,k _ _ (.inl rfl) e,c⟩
 | set S n=>obtain ⟨ob,es,ep,t,e,c⟩:=x; exact ⟨ob,es,ep,t,k _ _ (.inl rfl) e,c⟩
 | ins C dx fs =>
  obtain ⟨d,z,ne,e,mA,⟨od,es,ep,e2,c⟩,r⟩:=x;exact ⟨ho _ d,z,ne,k _ _ (.inl rfl) e,mA,⟨od,es,ep,k _ _ (.inr d) e2,c⟩,r⟩
 | own y=>obtain ⟨ob,e⟩:=x; exact ⟨ob,k _ _ (.inl rfl) e⟩
 | xd fs=>obtain ⟨mA,⟨od,es,ep,e,c⟩,r⟩:=x; exact ⟨mA,⟨od,es,ep,k _ _ (.inl rfl) e,c⟩,r⟩
 | rng lo hi=>obtain ⟨t,u,v,e⟩:=x; exact ⟨t,u,v,k _ _ (.inl rfl) e⟩
 | frz ob u ih=>obtain ⟨e,q⟩:=x; exact ⟨k _ _ (.inl rfl) e,ih q⟩
 | tbl ps =>
  have e:h.get? a=some { cls:=.none,data:=.fields ps }:=x;show h'.get? a=some { cls:=.none,data:=.fields ps };exact k a _ (.inl rfl) e
 | met f y =>
  have e:h.get? a=some (PySem.W.methodObj (.ref f) (.ref y)):=x;show h'.get? a=some (PySem.W.methodObj (.ref f) (.ref y));exact k a _ (.inl rfl) e
 | ext φ=>obtain ⟨p,⟨o,e⟩,st⟩:=x; exact ⟨st _ _ p fun o q=>k _ _ (.inl rfl) q,⟨o,k _ _ (.inl rfl) e⟩,st⟩
theorem HOk.lt (x:HOk P w H h) (e:H a=some o):a < h.objs.size:=(x a o e).lt
theorem HOk.fresh (x:HOk P w H h) (e:h.objs.size<=a):H a=none:=by
 cases q:H a with
 | none=>rfl
 | some u=>exact absurd (Nat.lt_of_lt_of_le (x.lt q) e) (Nat.lt_irrefl _)
theorem HOk.kept (x:HOk P w H h) (k:∀b u,h.get? b=some u->h'.get? b=some u):HOk P w H h':=fun a o e =>
 (x a o e).stay (fun b u _ q=>k b u q) (fun _ q=>q) fun _ _ q=>q
theorem HOk.laid (x:HOk P w H h) (k:∀b u,h.get? b=some u->h'.get? b=some u) (hp:h.objs.size<=a) (new:ObjOk P w (upd H a o) h' a o):HOk P w (upd H a o) h':=fun b u e=>by
 have hn:=x.fresh hp
 by_cases hb:b=a
 ·subst hb; rw [aj'] at e; cases e; exact new
 ·rw [ai' hb] at e;exact (x b u e).stay (fun c v _ q=>k c v q) (fun c q=>by rw [ai' (aF' q hn)]; exact q) fun c xs q=>by rw [ai' (aF' q hn)]; exact q
end
noncomputable def Rd (H:Hp) (a:Addr) (u:HO):Prop:=H a=some u\/∃o,H a=some (.frz o u)
theorem Rd.of {H:Hp} {a:Addr} {u:HO} (h:H a=some u):Rd H a u:=.inl h
theorem Rd.ok {P:Program} {w:World} {H:Hp} {h:Heap} {a:Addr} {u:HO} (r:Rd H a u) (x:HOk P w H h):ObjOk P w H h a u:=by
 rcases r with r | ⟨o,r⟩
 ·exact x a u r
 ·obtain ⟨_,q⟩:=x a _ r;exact q
noncomputable def Mut:Option HO->Prop
 | some (.lst _)=>True
 | some (.dK _)=>True
 | some (.dT _)=>True
 | some (.set _ _)=>True
 | some (.ins _ _ _)=>True
 | some (.ext _)=>True
 | _=>False
section
variable {P:Program} {w:World} {H:Hp} {h h':Heap} {x e:Addr} {o':HO}
theorem HOk.write (ok:HOk P w H h) (mu:Mut (H x)) (he:e=x\/H e=some (.own x)) (k:∀b u,b≠e->h.get? b=some u->h'.get? b=some u) (heo:∃u,h'.get? e=some u)
  (new:ObjOk P w (upd H x o') h' x o'):HOk P w (upd H x o') h':=fun b u q=>by
 have nown:∀c y,H c=some (.own y)->c≠x:=fun c y r z=>by subst z; rw [r] at mu; exact mu
 have ntup:∀c xs,H c=some (.tup xs)->c≠x:=fun c xs r z=>by subst z; rw [r] at mu; exact mu
 by_cases hb:b=x
 ·subst hb; rw [aj'] at q; cases q; exact new
 ·rw [ai' hb] at q
  by_cases hbe:b=e
  ·have q':H b=some (.own x):=by
    rcases he with z | z
    ·exact absurd (hbe.trans z) hb
    ·rw [hbe]; exact z
   rw [q] at q'; cases q';obtain ⟨v,hv⟩:=heo;exact ⟨v,by rw [hbe]; exact hv⟩
  ·refine (ok b u q).stay (fun c v hc r=>k c v ?_ r) (fun c r=>by rw [ai' (nown c b r)]; exact r) fun c xs r=>by rw [ai' (ntup c xs r)]; exact r
   rcases hc with rfl | hc
   ·exact hbe
   ·rintro rfl
    rcases he with z | z
    ·exact nown c b hc z
    ·rw [hc] at z; cases z; exact hb rfl
end
structure Un (fs ex:List Addr) (H H':Hp) (h h':Heap):Prop where
 keep:∀b o,h.get? b=some o->H b=none->b∉fs->b∉ex->h'.get? b=some o
 slot:∀b o,h.get? b=some o->H b=none->b∈fs->b∉ex->∃sl,h'.get? b=some { o with slots:=sl }
 free:∀b o,h.get? b=some o->H b=none->b∉ex->H' b=none
 there:∀b o,h.get? b=some o->b∉ex->∃o',h'.get? b=some o'
 tups:∀b xs,H b=some (.tup xs)->H' b=some (.tup xs)
 frzs:∀b o u,H b=some (.frz o u)->H' b=some (.frz o u)
 tbls:∀b ps,H b=some (.tbl ps)->∃more,H' b=some (.tbl (ps ++ more))
section
variable {fs fs' ex ex':List Addr} {H H1 H2:Hp} {h h1 h2 h':Heap} {a x e:Addr} {o:HO}
theorem Un.any (u:Un fs ex H H1 h h1) {b:Addr} {ob:Obj} (q:h.get? b=some ob) (n:H b=none) (hx:b∉ex):∃sl,h1.get? b=some { ob with slots:=sl }:=by
 by_cases hb:b∈fs
 ·exact u.slot b ob q n hb hx
 ·exact ⟨ob.slots,u.keep b ob q n hb hx⟩
theorem Un.trans (a:Un fs ex H H1 h h1) (b:Un fs ex H1 H2 h1 h2):Un fs ex H H2 h h2 where
 keep:=fun c ob q n hc hx=>b.keep c ob (a.keep c ob q n hc hx) (a.free c ob q n hx) hc hx
 slot:=fun c ob q n hc hx=>by
  obtain ⟨sl,e1⟩:=a.slot c ob q n hc hx;obtain ⟨sl',e2⟩:=b.slot c _ e1 (a.free c ob q n hx) hc hx;exact ⟨sl',e2⟩
 free:=fun c ob q n hx=>by
  obtain ⟨o',e1⟩:=a.there c ob q hx;exact b.free c o' e1 (a.free c ob q n hx) hx
 there:=fun c ob q hx=>by
  obtain ⟨o',e1⟩:=a.there c ob q hx;exact b.there c o' e1 hx
 tups:=fun c xs q=>b.tups c xs (a.tups c xs q)
 frzs:=fun c ob xs q=>b.frzs c ob xs (a.frzs c ob xs q)
 tbls:=fun c ps q=>by
  obtain ⟨m1,e1⟩:=a.tbls c ps q;obtain ⟨m2,e2⟩:=b.tbls c _ e1;exact ⟨m1 ++ m2,by rw [e2,Array.append_assoc]⟩
theorem Un.kept (k:∀b u,h.get? b=some u->h'.get? b=some u):Un fs ex H H h h' :=
 ⟨fun b ob q _ _ _=>k b ob q,fun b ob q _ _ _=>⟨ob.slots,k b ob q⟩,fun _ _ _ n _=>n,fun b ob q _=>⟨ob,k b ob q⟩,fun _ _ q=>q,fun _ _ _ q=>q,fun _ ps q=>⟨#[],by rw [q]; simp⟩⟩
theorem Un.refl:Un fs ex H H h h:=Un.kept fun _ _ q=>q
theorem Un.laid (k:∀b u,h.get? b=some u->h'.get? b=some u) (hp:h.objs.size<=a) (hn:H a=none):Un fs ex H (upd H a o) h h' where
 keep:=fun b u q _ _ _=>k b u q
 slot:=fun b u q _ _ _=>⟨u.slots,k b u q⟩
 free:=fun b u q n _=>by rw [ai' (Nat.ne_of_lt (Nat.lt_of_lt_of_le (Heap.lt_size q) hp))]; exact n
 there:=fun b u q _=>⟨u,k b u q⟩
 tups:=fun b xs q=>by rw [ai' (aF' q hn)]; exact q
 frzs:=fun b u xs q=>by rw [ai' (aF' q hn)]; exact q
 tbls:=fun b ps q=>⟨#[],by rw [ai' (aF' q hn),q]; simp⟩
theorem Un.write (mu:Mut (H x)) (he:e=x\/H e=some (.own x)) (k:∀b u,b≠e->h.get? b=some u->h'.get? b=some u) (heo:∃u,h'.get? e=some u):Un fs ex H (upd H x o) h h':=by
 have hx:∀b,H b=none->b≠x:=fun b n z=>by subst z; rw [n] at mu; exact mu
 have hb:∀b,H b=none->b≠e:=fun b n z=>by
  subst z;rcases he with r | r
  ·exact hx b n r
  ·rw [n] at r; cases r
 have hm:∀b u,H b=some u->¬Mut (some u)->b≠x:=fun b u q nm z=>by subst z; rw [q] at mu; exact nm mu
 refine ⟨fun b u q n _ _=>k b u (hb b n) q,fun b u q n _ _=>⟨u.slots,k b u (hb b n) q⟩,fun b u q n _=>by rw [ai' (hx b n)]; exact n,fun b u q _=>?_,
  fun b xs q=>by rw [ai' (hm b _ q fun z=>z)]; exact q,fun b u xs q=>by rw [ai' (hm b _ q fun z=>z)]; exact q,fun b ps q=>⟨#[],by rw [ai' (hm b _ q fun z=>z),q]; simp⟩⟩
 by_cases hbe:b=e
 ·subst hbe; exact heo
 ·exact ⟨u,k b u hbe q⟩
theorem Un.mono (u:Un fs ex H H1 h h1) (hs:∀b∈fs,b∈fs') (hx:∀b∈ex,b∈ex'):Un fs' ex' H H1 h h1 :=
 ⟨fun b ob q n hb he=>u.keep b ob q n (fun z=>hb (hs b z)) fun z=>he (hx b z),fun _ _ q n _ he=>u.any q n fun z=>he (hx _ z),fun b ob q n he=>u.free b ob q n fun z=>he (hx b z),fun b ob q he=>u.there b ob q fun z=>he (hx b z),u.tups,u.frzs,u.tbls⟩
end
noncomputable def trk (h:Heap) (H:Hp):List Addr:=(List.range h.objs.size).filter fun a=>(H a).isSome
noncomputable def hidT (h:Heap) (H:Hp):Heap:=PySem.W.hideAll h (trk h H)
theorem gl' (h:Heap) (H:Hp):(hidT h H).objs.size=h.objs.size:=PySem.W.hideAll_size _ _
theorem ic' {h:Heap} {H:Hp} {b:Addr} {o:Obj} (e:h.get? b=some o) (n:H b=none):(hidT h H).get? b=some o :=
 PySem.W.hideAll_get _ e fun hm=>by
  have q:(H b).isSome=true:=(List.mem_filter.mp hm).2;rw [n] at q; simp at q
theorem jI' {h:Heap} {H:Hp} {b:Addr} {o:Obj} (e:(hidT h H).get? b=some o):h.get? b=some o/\H b=none:=by
 have e':h.get? b=some o:=PySem.W.of_hideAll (trk h H) e;refine ⟨e',?_⟩
 cases q:H b with
 | none=>rfl
 | some x =>
  have hm:b∈trk h H:=List.mem_filter.mpr ⟨List.mem_range.mpr (Heap.lt_size e'),by simp [q]⟩;have z:(hidT h H).get? b=none:=PySem.W.hideAll_none (trk h H) hm;rw [z] at e; cases e
noncomputable def allNews (g h:Heap) (L:Addr):List (Addr×Obj):=(List.range h.objs.size).filterMap fun a=>if a=L\/(g.get? a).isSome=true then none else (h.get? a).map fun o=>(a,o)
noncomputable def rest (g h:Heap) (L d:Addr):List (Addr×Obj):=(allNews g h L).filter fun p=>decide (p.1≠d)
structure Mod (K:PySem.W.Frag) (mg:Str->Option Value) (base:Heap):Prop where
 kin:K.In base
 glob:base.Ns mainGlobals mg
 blt:∃mb,base.Ns builtinsNs mb/\∀x:Str,x≠"__name__"->mb x=bootBuiltins x
 nolimit:base.NoLimit
structure Cx where
 prog:Program
 w:World
 K:PySem.W.Frag
 mg:Str->Option Value
 base:Heap
 A:Around
 N:List Str
 s₀:Shared
 H₀:Hp
 env:Env
 outer:List Env
 stack:List Env
 ex:List Addr
 fn:Str->Bool
 calm:Bool
 pn:List (Addr×Obj)
 xe:Value->Shared->Prop
noncomputable def frs (l:List Env):List Addr:=l.filterMap (·.frame)
abbrev Cx.fs (X:Cx):List Addr:=frs X.outer
noncomputable def Vis (sc:Scope) (x:Str):Prop:=sc.names.lookup x=some .local\/sc.names.lookup x=some .cell\/sc.names.lookup x=some .free
noncomputable def Loc (sc:Scope) (x:Str):Prop:=sc.names.lookup x=some .local\/sc.names.lookup x=some .cell
noncomputable def Look (env:Env) (h:Heap) (m:Str->Option Value) (x:Str) (u:Value):Prop :=
 (env.kindOf x=some .local/\m x=some u)\/((env.kindOf x=some .cell\/env.kindOf x=some .free)/\∃c,env.cells.lookup x=some c/\h.IsCell c (some u))
structure Cx.Ok (X:Cx):Prop where
 mod:Mod X.K X.mg X.base
 kind:X.env.scope.kind=.function
 glob:X.env.globals=mainGlobals
 blt:X.env.builtins=builtinsNs
 above:X.s₀.heap.objs.size<=X.env.locals
 inj:∀x y c,X.env.cells.lookup x=some c->X.env.cells.lookup y=some c->x=y
 has:∀x,(X.env.kindOf x=some .cell\/X.env.kindOf x=some .free)->∃c,X.env.cells.lookup x=some c
 cab:∀x c,X.fn x=true->X.env.cells.lookup x=some c->X.s₀.heap.objs.size<=c
 hd:X.calm=true->X.A.handled=none
 frames:X.A.frames=some X.stack
 stk:X.stack=X.outer\/(X.stack=X.env :: X.outer/\X.env.frame=some X.env.locals)
 exf:∀b∈X.ex,b≠X.env.locals/\∀x c,X.env.cells.lookup x=some c->c≠b
 bs:∀b o,X.base.get? b=some o->X.s₀.heap.get? b=some o/\X.H₀ b=none
 bsz:X.base.objs.size<=X.s₀.heap.objs.size
 noex:∀b o,X.base.get? b=some o->b∉X.ex
 exfs:∀b∈X.ex,b∉X.fs
 funs:X.s₀.heap.FunFrames X.base X.outer
 frf:∀b∈X.fs,X.H₀ b=none
structure Inv (X:Cx) (pins:List (Addr×Obj)) (σ:List (Option V)) (H:Hp) (s:Shared):Prop where
 ok:X.Ok
 os:s.os=X.s₀.os
 bare:AllBare s.gens
 base:Un X.fs X.ex X.H₀ H X.s₀.heap s.heap
 loc:∃m,s.heap.Ns X.env.locals m/\∀(i:Nat) (x:Str) (v:V),X.N[i]? = some x->σ[i]? = some (some v)->Vis X.env.scope x->∃u,RelV v u/\Look X.env s.heap m x u
 cell:∀x c,X.env.cells.lookup x=some c->∃v,s.heap.IsCell c v
 free:H X.env.locals=none
 freeC:∀x c,X.env.cells.lookup x=some c->H c=none
 pin:∀p∈X.pn ++ pins,s.heap.get? p.1=some p.2/\H p.1=none/\p.1≠X.env.locals/\p.1∉X.fs/\∀v,p.2.data≠.cell v
 hok:HOk X.prog X.w H s.heap
 len:σ.length=X.N.length
section
variable {X:Cx} {pins:List (Addr×Obj)} {σ:List (Option V)} {H H':Hp} {s:Shared} {h':Heap}
theorem Cx.Ok.nofr (ok:X.Ok) {b:Addr} {o:Obj} (e:X.base.get? b=some o):b∉X.fs:=fun hb=>by
 have:=(ok.funs.mem hb).1;rw [e] at this; cases this
theorem Inv.bs (I:Inv X pins σ H s):∀b o,X.base.get? b=some o->s.heap.get? b=some o/\H b=none:=fun b o e =>
 ⟨I.base.keep b o (I.ok.bs b o e).1 (I.ok.bs b o e).2 (I.ok.nofr e) (I.ok.noex b o e),I.base.free b o (I.ok.bs b o e).1 (I.ok.bs b o e).2 (I.ok.noex b o e)⟩
theorem Inv.bk (I:Inv X pins σ H s):∀b o,X.base.get? b=some o->s.heap.get? b=some o:=fun b o e=>(I.bs b o e).1
theorem Inv.mod (I:Inv X pins σ H s):Mod X.K X.mg X.base:=I.ok.mod
theorem Inv.kIn (I:Inv X pins σ H s):X.K.In s.heap:=I.ok.mod.kin.keeps I.bk
theorem Inv.nolimit (I:Inv X pins σ H s):s.heap.NoLimit:=I.ok.mod.nolimit.keeps I.bk
theorem Inv.fr (I:Inv X pins σ H s):∃m,Fr X.base X.env.locals s.heap m :=
 let ⟨m,hn,_⟩:=I.loc
 ⟨m,hn,I.bk,Nat.le_trans I.ok.bsz I.ok.above⟩
theorem Inv.lt (I:Inv X pins σ H s):X.env.locals < s.heap.objs.size:=let ⟨_,hn,_⟩:=I.loc; hn.lt
theorem Inv.sz (I:Inv X pins σ H s):X.s₀.heap.objs.size<=s.heap.objs.size:=Nat.le_trans I.ok.above (Nat.le_of_lt I.lt)
theorem Inv.nofs (I:Inv X pins σ H s) {a:Addr} (h:s.heap.objs.size<=a):a∉X.fs:=fun hb=>by
 obtain ⟨_,o,ho,_⟩:=I.ok.funs.mem hb;exact absurd (Nat.lt_of_lt_of_le (Heap.lt_size ho) (Nat.le_trans I.sz h)) (Nat.lt_irrefl _)
theorem Inv.cne (I:Inv X pins σ H s):∀x c,X.env.cells.lookup x=some c->c≠X.env.locals:=fun x c e z=>by
 obtain ⟨v,o,ho,hd⟩:=I.cell x c e;obtain ⟨m,⟨o',es,ep,ho',hd',_⟩,_⟩:=I.loc;rw [z,ho'] at ho; cases ho; rw [hd'] at hd; cases hd
theorem Inv.funs (I:Inv X pins σ H s):s.heap.FunFrames X.base X.outer:=by
 have all:∀(l:List Env),(∀b∈frs l,b∈X.fs)->X.s₀.heap.FunFrames X.base l->s.heap.FunFrames X.base l:=by
  intro l
  induction l with
  | nil=>intro _ _; trivial
  | cons env r ih =>
   intro hs hl;obtain ⟨hk,⟨L,o,hf,hn,ho,hd⟩,hr⟩:=hl;have hL:L∈X.fs:=hs L (by unfold frs; rw [List.filterMap_cons,hf]; exact List.mem_cons_self);obtain ⟨sl,e⟩:=I.base.slot L o ho (I.ok.frf L hL) hL fun z=>I.ok.exfs L z hL;exact ⟨hk,⟨L,_,hf,hn,e,hd⟩,ih (fun b hb=>hs b (by unfold frs; rw [List.filterMap_cons,hf]; exact List.mem_cons_of_mem _ hb)) hr⟩
 exact all X.outer (fun _ hb=>hb) I.ok.funs
theorem Inv.stack (I:Inv X pins σ H s):s.heap.FunFrames X.base X.stack:=by
 rcases I.ok.stk with e | ⟨e,hf⟩
 ·rw [e]; exact I.funs
 ·rw [e];obtain ⟨m,hn,_⟩:=I.loc;refine .cons (by rw [I.ok.kind]; decide) hf hn ?_ I.funs;exact Heap.get?_none_of_le (Nat.le_trans I.ok.bsz I.ok.above)
theorem Inv.stkSub (I:Inv X pins σ H s):∀b∈frs X.stack,b∈X.env.locals :: X.fs:=fun b hb=>by
 rcases I.ok.stk with e | ⟨e,hf⟩
 ·rw [e] at hb; exact List.mem_cons_of_mem _ hb
 ·rw [e] at hb;unfold frs at hb;rw [List.filterMap_cons,hf] at hb;exact hb
theorem Inv.stkFree (I:Inv X pins σ H s):∀b∈frs X.stack,H b=none:=fun b hb=>by
 rcases List.mem_cons.mp (I.stkSub b hb) with e | hb
 ·rw [e]; exact I.free
 ·obtain ⟨_,o,ho,_⟩:=I.ok.funs.mem hb;exact I.base.free b o ho (I.ok.frf b hb) fun z=>I.ok.exfs b z hb
theorem Inv.step {g':Array GenState} {t':Nat} {d':Drawn} {ch:List Addr} (I:Inv X pins σ H s)
  (hch:∀b∈ch,(b∈X.ex\/X.s₀.heap.objs.size<=b)/\b≠X.env.locals/\(∀x c,X.env.cells.lookup x=some c->c≠b)/\∀p∈X.pn ++ pins,p.1≠b)
  (keep:∀b o,b≠X.env.locals->b∉X.fs->b∉ch->s.heap.get? b=some o->H b=none->h'.get? b=some o)
  (slot:∀b o,b≠X.env.locals->b∈X.fs->b∉ch->s.heap.get? b=some o->H b=none->∃sl,h'.get? b=some { o with slots:=sl }) (free:∀b o,b∉ch->s.heap.get? b=some o->H b=none->H' b=none)
  (there:∀b o,b∉ch->s.heap.get? b=some o->∃o',h'.get? b=some o')
  (tups:∀b xs,H b=some (.tup xs)->H' b=some (.tup xs)) (frzs:∀b o u,H b=some (.frz o u)->H' b=some (.frz o u)) (tbls:∀b ps,H b=some (.tbl ps)->∃more,H' b=some (.tbl (ps ++ more)))
  (ns:∀m,s.heap.Ns X.env.locals m->h'.Ns X.env.locals m) (hok:HOk X.prog X.w H' h') (hg:AllBare g') :
  Inv X pins σ H' { s with heap:=h',gens:=g',drawn:=d',toks:=t' }:=by
 have neL:∀b o,X.s₀.heap.get? b=some o->b≠X.env.locals:=fun b o e=>Nat.ne_of_lt (Nat.lt_of_lt_of_le (Heap.lt_size e) I.ok.above);have neC:∀b o,X.s₀.heap.get? b=some o->b∉X.ex->b∉ch:=fun b o e hx hb=>by
  rcases (hch b hb).1 with z | z
  ·exact hx z
  ·exact absurd (Nat.lt_of_lt_of_le (Heap.lt_size e) z) (Nat.lt_irrefl _)
 have cellK:∀x c,X.env.cells.lookup x=some c->∀v,s.heap.IsCell c v->h'.IsCell c v:=fun x c e v ⟨o,ho,hd⟩=>by
  have nch:c∉ch:=fun z=>(hch c z).2.2.1 x c e rfl
  by_cases hc:c∈X.fs
  ·obtain ⟨sl,q⟩:=slot c o (I.cne x c e) hc nch ho (I.freeC x c e);exact ⟨_,q,hd⟩
  ·exact ⟨o,keep c o (I.cne x c e) hc nch ho (I.freeC x c e),hd⟩
 refine ⟨I.ok,I.os,hg,⟨fun b o e n hb hx=>?_,fun b o e n hb hx=>?_,fun b o e n hx=>?_,fun b o e hx=>?_,fun b xs e=>tups b xs (I.base.tups b xs e),fun b o xs e=>frzs b o xs (I.base.frzs b o xs e),fun b ps e=>?_⟩,?_,fun x c e=>?_,?_,fun x c e=>?_,fun p hp=>?_,hok,I.len⟩
 ·exact keep b o (neL b o e) hb (neC b o e hx) (I.base.keep b o e n hb hx) (I.base.free b o e n hx)
 ·obtain ⟨sl,e1⟩:=I.base.slot b o e n hb hx;obtain ⟨sl',e2⟩:=slot b _ (neL b o e) hb (neC b o e hx) e1 (I.base.free b o e n hx);exact ⟨sl',e2⟩
 ·obtain ⟨o',e1⟩:=I.base.there b o e hx;exact free b o' (neC b o e hx) e1 (I.base.free b o e n hx)
 ·obtain ⟨o',e1⟩:=I.base.there b o e hx;exact there b o' (neC b o e hx) e1
 ·obtain ⟨m1,e1⟩:=I.base.tbls b ps e;obtain ⟨m2,e2⟩:=tbls b _ e1;exact ⟨m1 ++ m2,by rw [e2,Array.append_assoc]⟩
 ·obtain ⟨m,hn,hl⟩:=I.loc;refine ⟨m,ns m hn,fun i x v e1 e2 e3=>?_⟩;obtain ⟨u,r,l⟩:=hl i x v e1 e2 e3;refine ⟨u,r,?_⟩;rcases l with l | ⟨k,c,e,z⟩
  ·exact .inl l
  ·exact .inr ⟨k,c,e,cellK x c e _ z⟩
 ·obtain ⟨v,z⟩:=I.cell x c e;exact ⟨v,cellK x c e v z⟩
 ·obtain ⟨m,⟨o,_,_,ho,_⟩,_⟩:=I.loc;exact free _ o (fun z=>(hch _ z).2.1 rfl) ho I.free
 ·obtain ⟨v,o,ho,hd⟩:=I.cell x c e;exact free c o (fun z=>(hch c z).2.2.1 x c e rfl) ho (I.freeC x c e)
 ·obtain ⟨e,n,ne,nf,d⟩:=I.pin p hp;have nch:p.1∉ch:=fun z=>(hch p.1 z).2.2.2 p hp rfl;exact ⟨keep p.1 p.2 ne nf nch e n,free p.1 p.2 nch e n,ne,nf,d⟩
theorem Inv.un {t':Nat} (I:Inv X pins σ H s) (u:Un X.fs [] H H' s.heap h') (hok:HOk X.prog X.w H' h'):Inv X pins σ H' { s with heap:=h',toks:=t' }:=by
 obtain ⟨m,⟨o,es,ep,ho,r⟩,_⟩:=id I.loc;obtain ⟨sl,hL⟩:=u.any ho I.free (by simp);exact I.step (g':=s.gens) (d':=s.drawn) (ch:=[]) (fun _ z=>nomatch z) (fun b o _ hb _ e n=>u.keep b o e n hb (by simp)) (fun b o _ hb _ e n=>u.slot b o e n hb (by simp)) (fun b o _ e n=>u.free b o e n (by simp)) (fun b o _ e=>u.there b o e (by simp)) u.tups u.frzs u.tbls (fun m' hm=>by
  obtain ⟨o',es',ep',ho',r'⟩:=hm;rw [ho] at ho'; cases ho';exact ⟨_,es',ep',hL,r'⟩) hok I.bare
theorem Inv.call {g':Array GenState} {t':Nat} {d':Drawn} {ch:List Addr} (I:Inv X pins σ H s) (u:Un (frs X.stack) ch H H' s.heap h') (hok:HOk X.prog X.w H' h') (hg:AllBare g')
  (hch:∀b∈ch,(b∈X.ex\/X.s₀.heap.objs.size<=b)/\b≠X.env.locals/\(∀x c,X.env.cells.lookup x=some c->c≠b)/\∀p∈X.pn ++ pins,p.1≠b) :
  Inv X pins σ H' { s with heap:=h',gens:=g',drawn:=d',toks:=t' }:=by
 obtain ⟨m,⟨o,es,ep,ho,r⟩,_⟩:=id I.loc;obtain ⟨sl,hL⟩:=u.any ho I.free fun z=>(hch _ z).2.1 rfl;exact I.step (ch:=ch) hch (fun b o hL hb hc e n=>u.keep b o e n (fun z=>(List.mem_cons.mp (I.stkSub b z)).elim hL hb) hc) (fun b o _ _ hc e n=>u.any e n hc) (fun b o hc e n=>u.free b o e n hc) (fun b o hc e=>u.there b o e hc) u.tups u.frzs u.tbls (fun m' hm=>by
  obtain ⟨o',es',ep',ho',r'⟩:=hm;rw [ho] at ho'; cases ho';exact ⟨_,es',ep',hL,r'⟩) hok hg
theorem Inv.turned {t':Nat} {it:Addr} (I:Inv X pins σ H s) (k:∀b o,b≠it->s.heap.get? b=some o->h'.get? b=some o) (hn:H it=none) (hL:it≠X.env.locals)
  (h1:it∈X.ex\/X.s₀.heap.objs.size<=it) (h2:∀x c,X.env.cells.lookup x=some c->c≠it) (h3:∀p∈X.pn ++ pins,p.1≠it):Inv X pins σ H { s with heap:=h',toks:=t' }:=by
 have nit:∀b u,H b=some u->b≠it:=fun b u e z=>by rw [z,hn] at e; cases e
 refine I.step (g':=s.gens) (d':=s.drawn) (ch:=[it]) (fun b hb=>?_) (fun b o _ _ hc e _=>k b o (fun z=>hc (by simp [z])) e) (fun b o _ _ hc e _=>⟨o.slots,k b o (fun z=>hc (by simp [z])) e⟩) (fun _ _ _ _ n=>n)
  (fun b o hc e=>⟨o,k b o (fun z=>hc (by simp [z])) e⟩) (fun _ _ e=>e) (fun _ _ _ e=>e) (fun b ps e=>⟨#[],by rw [e]; simp⟩) (fun m hm=>?_) (fun b u e=>?_) I.bare
 ·have e:b=it:=by simpa using hb
  subst e;exact ⟨h1,hL,h2,h3⟩
 ·obtain ⟨o,es,ep,ho,r⟩:=hm;exact ⟨o,es,ep,k _ o (Ne.symm hL) ho,r⟩
 ·refine (I.hok b u e).stay (fun c v hc q=>k c v ?_ q) (fun _ q=>q) fun _ _ q=>q;rcases hc with z | z
  ·rw [z]; exact nit b u e
  ·exact nit c _ z
theorem Inv.tok (I:Inv X pins σ H s) (t:Nat):Inv X pins σ H { s with toks:=t }:=I.un (h':=s.heap) (t':=t) Un.refl I.hok
theorem Inv.kept {t':Nat} (I:Inv X pins σ H s) (k:∀b u,s.heap.get? b=some u->h'.get? b=some u):Inv X pins σ H { s with heap:=h',toks:=t' }:=I.un (Un.kept k) (I.hok.kept k)
theorem Inv.laid {a:Addr} {o:HO} {t':Nat} (I:Inv X pins σ H s) (k:∀b u,s.heap.get? b=some u->h'.get? b=some u) (hp:s.heap.objs.size<=a) (new:ObjOk X.prog X.w (upd H a o) h' a o) :
  Inv X pins σ (upd H a o) { s with heap:=h',toks:=t' }:=I.un (Un.laid k hp (I.hok.fresh hp)) (I.hok.laid k hp new)
theorem Inv.write {x e:Addr} {o:HO} {t':Nat} (I:Inv X pins σ H s) (mu:Mut (H x)) (he:e=x\/H e=some (.own x)) (k:∀b u,b≠e->s.heap.get? b=some u->h'.get? b=some u) (heo:∃u,h'.get? e=some u)
  (new:ObjOk X.prog X.w (upd H x o) h' x o):Inv X pins σ (upd H x o) { s with heap:=h',toks:=t' }:=I.un (Un.write mu he k heo) (I.hok.write mu he k heo new)
theorem Inv.weak {σ':List (Option V)} (I:Inv X pins σ H s) (hl:σ'.length=σ.length) (w:∀(i:Nat) v,σ'[i]? = some (some v)->σ[i]? = some (some v)):Inv X pins σ' H s :=
 ⟨I.ok,I.os,I.bare,I.base,let ⟨m,hn,hl'⟩:=I.loc; ⟨m,hn,fun i x v e1 e2 e3=>hl' i x v e1 (w i v e2) e3⟩,I.cell,I.free,I.freeC,I.pin,I.hok,hl.trans I.len⟩
theorem Inv.pins_of {pins':List (Addr×Obj)} (I:Inv X pins σ H s) (h:∀p∈pins',s.heap.get? p.1=some p.2/\H p.1=none/\p.1≠X.env.locals/\p.1∉X.fs/\∀v,p.2.data≠.cell v):Inv X pins' σ H s :=
 ⟨I.ok,I.os,I.bare,I.base,I.loc,I.cell,I.free,I.freeC,fun p hp=>(List.mem_append.mp hp).elim (fun z=>I.pin p (List.mem_append_left _ z)) (h p),I.hok,I.len⟩
theorem dv' {N:List Str} (hN:N.Nodup) {i j:Nat} {x:Str} (a:N[i]? = some x) (b:N[j]? = some x):i=j:=by
 obtain ⟨h1,e1⟩:=List.getElem?_eq_some_iff.mp a;obtain ⟨h2,e2⟩:=List.getElem?_eq_some_iff.mp b;exact (List.getElem_inj hN).mp (e1.trans e2.symm)
theorem cC' {M:Model} {A:Around} {E:Value->Shared->Prop} {i:Nat} {x:Str} {v:V} {u:Value} {Q:Unit->Shared->Prop} (I:Inv X pins σ H s) (hN:X.N.Nodup) (hi:X.N[i]? = some x) (hx:Loc X.env.scope x) (r:RelV v u)
  (h:∀s',Inv X pins (σ.set i (some v)) H s'->(∃a,Heap.SameBut a s.heap s'.heap/\(a=X.env.locals\/X.env.cells.lookup x=some a))->Q () s') (hf:X.fn x=true\/X.env.scope.names.lookup x=some .local:=by first | exact .inl rfl | exact .inr rfl | assumption):wpAny M A (storeName X.env x u) Q E s:=by
 obtain ⟨m,hn,hl⟩:=id I.loc;have hcls:(X.env.scope.kind == .class || (X.env.scope.kind == .module && X.env.locals != X.env.globals))=false:=by rw [I.ok.kind]; rfl
 have hiσ:i < σ.length:=by rw [I.len]; exact (List.getElem?_eq_some_iff.mp hi).1
 have cne:=I.cne;have tracked:∀{a:Addr} {h':Heap},(∃o,s.heap.get? a=some o/\H a=none)->Heap.SameBut a s.heap h'->HOk X.prog X.w H h':=fun {a h'} ha hs b ob e=>by
  obtain ⟨_,_,hfree⟩:=ha;refine (I.hok b ob e).stay (fun c w' hc q=>(hs.2 c ?_).trans q) (fun _ q=>q) fun _ _ q=>q
  rintro rfl
  rcases hc with rfl | hc
  ·rw [hfree] at e; cases e
  ·rw [hfree] at hc; cases hc
 rcases hx with hk | hk
 ·refine wpAny_storeName_local hk hn (fun h' hn' hs=>?_) hcls;obtain ⟨oL,_,_,hoL,_⟩:=id hn;refine h _ ⟨I.ok,I.os,I.bare,⟨fun b o e n hb hx=>?_,fun b o e n hb hx=>?_,I.base.free,fun b o e hx=>?_,I.base.tups,I.base.frzs,I.base.tbls⟩,⟨_,hn',fun j y v' e1 e2 e3=>?_⟩,fun y c e=>?_,I.free,I.freeC,fun p hp=>?_,tracked ⟨oL,hoL,I.free⟩ hs,by simpa using I.len⟩ ⟨_,hs,.inl rfl⟩
  ·exact (hs.2 b (Nat.ne_of_lt (Nat.lt_of_lt_of_le (Heap.lt_size e) I.ok.above))).trans (I.base.keep b o e n hb hx)
  ·obtain ⟨sl,e1⟩:=I.base.slot b o e n hb hx;exact ⟨sl,(hs.2 b (Nat.ne_of_lt (Nat.lt_of_lt_of_le (Heap.lt_size e) I.ok.above))).trans e1⟩
  ·obtain ⟨o',e1⟩:=I.base.there b o e hx;exact ⟨o',(hs.2 b (Nat.ne_of_lt (Nat.lt_of_lt_of_le (Heap.lt_size e) I.ok.above))).trans e1⟩
  ·by_cases hj:j=i
   ·subst hj;rw [hi] at e1; cases e1;rw [List.getElem?_set_self hiσ] at e2
    cases e2
    exact ⟨u,r,.inl ⟨hk,by simp⟩⟩
   ·rw [List.getElem?_set_ne (Ne.symm hj)] at e2;obtain ⟨u',r',q⟩:=hl j y v' e1 e2 e3;refine ⟨u',r',?_⟩;rcases q with ⟨k,e⟩ | ⟨k,c,e,z⟩
    ·refine .inl ⟨k,?_⟩;have:y≠x:=fun e=>hj (dv' hN e1 (e ▸ hi));simp [this,e]
    ·exact .inr ⟨k,c,e,z.sameBut hs (cne y c e)⟩
  ·obtain ⟨w',z⟩:=I.cell y c e;exact ⟨w',z.sameBut hs (cne y c e)⟩
  ·obtain ⟨e,n,ne,nf,d⟩:=I.pin p hp;exact ⟨(hs.2 p.1 ne).trans e,n,ne,nf,d⟩
 ·have hfn:X.fn x=true:=by
   rcases hf with z | z
   ·exact z
   ·rw [z] at hk; cases hk
  obtain ⟨c,hc⟩:=I.ok.has x (.inl hk);obtain ⟨w',z⟩:=I.cell x c hc;refine wpAny_storeName_cell I.ok.kind hk hc z (fun h' hc' hs=>?_);obtain ⟨oc,hoc,hocd⟩:=id z;refine h { s with heap:=h' } ⟨I.ok,I.os,I.bare,⟨fun b o e n hb hx=>?_,fun b o e n hb hx=>?_,I.base.free,fun b o e hx=>?_,I.base.tups,I.base.frzs,I.base.tbls⟩,⟨m,hn.sameBut hs (Ne.symm (cne x c hc)),fun j y v' e1 e2 e3=>?_⟩,fun y c' e=>?_,I.free,I.freeC,fun p hp=>?_,tracked ⟨oc,hoc,I.freeC x c hc⟩ hs,by simpa using I.len⟩ ⟨c,hs,.inr hc⟩
  ·exact (hs.2 b (Nat.ne_of_lt (Nat.lt_of_lt_of_le (Heap.lt_size e) (I.ok.cab x c hfn hc)))).trans (I.base.keep b o e n hb hx)
  ·obtain ⟨sl,e1⟩:=I.base.slot b o e n hb hx;exact ⟨sl,(hs.2 b (Nat.ne_of_lt (Nat.lt_of_lt_of_le (Heap.lt_size e) (I.ok.cab x c hfn hc)))).trans e1⟩
  ·obtain ⟨o',e1⟩:=I.base.there b o e hx;exact ⟨o',(hs.2 b (Nat.ne_of_lt (Nat.lt_of_lt_of_le (Heap.lt_size e) (I.ok.cab x c hfn hc)))).trans e1⟩
  ·by_cases hj:j=i
   ·subst hj;rw [hi] at e1; cases e1;rw [List.getElem?_set_self hiσ] at e2
    cases e2
    exact ⟨u,r,.inr ⟨.inl hk,c,hc,hc'⟩⟩
   ·rw [List.getElem?_set_ne (Ne.symm hj)] at e2;obtain ⟨u',r',q⟩:=hl j y v' e1 e2 e3;refine ⟨u',r',?_⟩;rcases q with q | ⟨k,c',e,z'⟩
    ·exact .inl q
    ·refine .inr ⟨k,c',e,z'.sameBut hs ?_⟩
     rintro rfl
     exact hj (dv' hN e1 (I.ok.inj _ _ _ e hc ▸ hi))
  ·by_cases hcc:c'=c
   ·subst hcc; exact ⟨_,hc'⟩
   ·obtain ⟨w2,z2⟩:=I.cell y c' e;exact ⟨w2,z2.sameBut hs hcc⟩
  ·obtain ⟨e,n,ne,nf,d⟩:=I.pin p hp;refine ⟨(hs.2 p.1 ?_).trans e,n,ne,nf,d⟩;intro q;rw [q,hoc] at e;have q':oc=p.2:=Option.some.inj e;exact d w' (by rw [<- q']; exact hocd)
theorem cz' {M:Model} {A:Around} {E:Value->Shared->Prop} {i:Nat} {x:Str} {v:V} {u:Value} {Q:Unit->Shared->Prop} (I:Inv X pins σ H s) (hN:X.N.Nodup) (hi:X.N[i]? = some x) (hx:Loc X.env.scope x) (r:RelV v u)
  (h:∀s',Inv X pins (σ.set i (some v)) H s'->Q () s') (hf:X.fn x=true\/X.env.scope.names.lookup x=some .local:=by first | exact .inl rfl | exact .inr rfl | assumption):wpAny M A (storeName X.env x u) Q E s :=
 cC' I hN hi hx r (fun s' I' _=>h s' I') hf
theorem Inv.call' {s':Shared} {ch:List Addr} (I:Inv X pins σ H s) (ho:s'.os=s.os) (u:Un (frs X.stack) ch H H' s.heap s'.heap) (hok:HOk X.prog X.w H' s'.heap) (hg:AllBare s'.gens)
  (hch:∀b∈ch,(b∈X.ex\/X.s₀.heap.objs.size<=b)/\b≠X.env.locals/\(∀x c,X.env.cells.lookup x=some c->c≠b)/\∀p∈X.pn ++ pins,p.1≠b):Inv X pins σ H' s':=by
 obtain ⟨h',g',d',t',o'⟩:=s';have e:o'=s.os:=ho;subst e;exact I.call (g':=g') (t':=t') (d':=d') u hok hg hch
end
abbrev XK:=Value->Option Addr->Hp->Prop
abbrev St:=List (Option V)
abbrev VK:=V->Hp->Prop
abbrev TE:=St->Hp->VK->Prop
abbrev TT:=St->Hp->(Bool->Hp->Prop)->Prop
abbrev TA:=St->Hp->(List V->Hp->Prop)->Prop
structure Ends where
 nx:St->Hp->Prop
 rt:VK
 bk:St->Hp->Prop:=fun _ _=>False
 ct:St->Hp->Prop:=fun _ _=>False
abbrev TS:=Ends->St->Hp->Prop
noncomputable def EP (X:Cx) (pins:List (Addr×Obj)) (σ:St) (Q:VK) (u:Value) (s':Shared):Prop:=∃v H',Inv X pins σ H' s'/\RelV v u/\Q v H'
noncomputable def TP (X:Cx) (pins:List (Addr×Obj)) (σ:St) (Q:Bool->Hp->Prop) (b:Bool) (s':Shared):Prop:=∃H',Inv X pins σ H' s'/\Q b H'
noncomputable def AP (X:Cx) (pins:List (Addr×Obj)) (σ:St) (Q:List V->Hp->Prop) (us:List Value) (s':Shared):Prop:=∃vs H',Inv X pins σ H' s'/\Vals vs us/\Q vs H'
noncomputable def SP (X:Cx) (pins:List (Addr×Obj)) (D:Ends) (f:Flow) (s':Shared):Prop :=
 match f with
 | .next=>∃σ' H',Inv X pins σ' H' s'/\D.nx σ' H'
 | .brk=>∃σ' H',Inv X pins σ' H' s'/\D.bk σ' H'
 | .cont=>∃σ' H',Inv X pins σ' H' s'/\D.ct σ' H'
 | .ret u=>∃v σ' H',Inv X pins σ' H' s'/\RelV v u/\D.rt v H'
noncomputable def PE (X:Cx) (e:Expr) (t:TE):Prop :=
 ∀(pins:List (Addr×Obj)) (s:Shared) (σ:St) (H:Hp) (Q:VK),Inv X pins σ H s->t σ H Q->wpAny (model X.prog X.w) X.A (eval e X.env) (EP X pins σ Q) X.xe s
noncomputable def PT (X:Cx) (e:Expr) (t:TT):Prop :=
 ∀(pins:List (Addr×Obj)) (s:Shared) (σ:St) (H:Hp) (Q:Bool->Hp->Prop),Inv X pins σ H s->t σ H Q->wpAny (model X.prog X.w) X.A (isTrue e X.env (eval e X.env)) (TP X pins σ Q) X.xe s
noncomputable def PW (X:Cx) (e:Expr) (t:TT):Prop :=
 ∀(whole:Sem Value) (pins:List (Addr×Obj)) (s:Shared) (σ:St) (H:Hp) (Q:Bool->Hp->Prop),Inv X pins σ H s->t σ H Q->wpAny (model X.prog X.w) X.A (isTrue e X.env whole) (TP X pins σ Q) X.xe s
theorem PW.pt {X:Cx} {e:Expr} {t:TT} (h:PW X e t):PT X e t:=h _
noncomputable def PA (X:Cx) (es:List Expr) (t:TA):Prop :=
 ∀(pos:Pos) (pins:List (Addr×Obj)) (s:Shared) (σ:St) (H:Hp) (Q:List V->Hp->Prop),Inv X pins σ H s->t σ H Q->wpAny (model X.prog X.w) X.A (spliced (backTo pos (starEach es X.env))) (AP X pins σ Q) X.xe s
noncomputable def PS (X:Cx) (st:Stmt) (t:TS):Prop :=
 ∀(pins:List (Addr×Obj)) (s:Shared) (σ:St) (H:Hp) (D:Ends),Inv X pins σ H s->t D σ H->wpAny (model X.prog X.w) X.A (exec st X.env) (SP X pins D) X.xe s
noncomputable def PSs (X:Cx) (st:List Stmt) (t:TS):Prop :=
 ∀(pins:List (Addr×Obj)) (s:Shared) (σ:St) (H:Hp) (D:Ends),Inv X pins σ H s->t D σ H->wpAny (model X.prog X.w) X.A (execs st X.env) (SP X pins D) X.xe s
theorem thn {α:Type} {t:Sem α} {Q Q':α->Shared->Prop} {M:Model} {A:Around} {E:Value->Shared->Prop} {s:Shared} (h:wpAny M A t Q E s) (hQ:∀a s,Q a s->Q' a s):wpAny M A t Q' E s:=wpAny_mono h hQ fun _ _ x=>x
section
variable {X:Cx}
noncomputable def tVar (i:Nat):TE:=fun σ H Q=>∃v,σ[i]? = some (some v)/\Q v H
noncomputable def tC (v:V):TE:=fun _ H Q=>Q v H
theorem fh' {i:Nat} {x:Str} {pos:Pos} (hN:X.N[i]? = some x) (hv:Vis X.env.scope x) (hd:(x == ("__debug__" : Str))=false:=by decide) (hcd:(x == ("__classdict__" : Str))=false:=by decide):PE X (.Name x pos) (tVar i):=by
 intro pins s σ H Q I h;obtain ⟨v,e,h⟩:=h;obtain ⟨m,hn,hl⟩:=I.loc;obtain ⟨u,r,l⟩:=hl i x v hN e hv;have fin:EP X pins σ Q u s:=⟨v,H,I,r,h⟩;rcases l with ⟨hk,hm⟩ | ⟨hk,c,hc,hcell⟩
 ·exact wpAny_Name (wpAny_loadName_local I.ok.kind hk hn hm fin) hd
 ·rcases hk with hk | hk
  ·exact wpAny_Name (wpAny_loadName_cell I.ok.kind hk hc hcell fin) hd
  ·exact wpAny_Name (wpAny_loadName_free I.ok.kind hk hc hcell fin hcd) hd
theorem lg' {i j pos}:PE X (.Constant (.int i) j pos) (tC (.int i)):=fun _ _ _ H _ I h=>wpAny_Constant_int ⟨.int i,H,I.tok _,⟨_,rfl⟩,h⟩
theorem mk' {b j pos}:PE X (.Constant (.bool b) j pos) (tC (.bl b)):=fun _ _ _ H _ I h=>Constant_bool ⟨.bl b,H,I,rfl,h⟩
theorem lh' {j pos}:PE X (.Constant .none j pos) (tC .non):=fun _ _ _ H _ I h=>Constant_none ⟨.non,H,I,rfl,h⟩
theorem li' {x j pos}:PE X (.Constant (.str x) j pos) (tC (.str x)):=fun _ _ _ H _ I h=>Calls.Constant_str ⟨.str x,H,I.tok _,⟨_,rfl⟩,h⟩
noncomputable def Gl (X:Cx) (x:Str):Prop:=X.env.kindOf x=some .globalImplicit
theorem bh' {E:Value->Shared->Prop} {pins:List (Addr×Obj)} {s:Shared} {σ:St} {H:Hp} {x:Str} {u:Value} {pos:Pos} {Q:Value->Shared->Prop} (I:Inv X pins σ H s) (hg:Gl X x) (hm:X.mg x=some u) (h:Q u s)
  (hd:(x == ("__debug__" : Str))=false:=by decide):wpAny (model X.prog X.w) X.A (eval (.Name x pos) X.env) Q E s :=
 Calls.Name_function_global I.ok.kind hg (Calls.loadGlobal_global (by rw [I.ok.glob]; exact I.mod.glob.keeps I.bk) hm h) hd
theorem bR' {E:Value->Shared->Prop} {pins:List (Addr×Obj)} {s:Shared} {σ:St} {H:Hp} {x:Str} {u:Value} {pos:Pos} {Q:Value->Shared->Prop} (I:Inv X pins σ H s) (hg:Gl X x) (hm:X.mg x=none) (hv:bootBuiltins x=some u) (h:Q u s)
  (hn:x≠"__name__":=by decide) (hd:(x == ("__debug__" : Str))=false:=by decide):wpAny (model X.prog X.w) X.A (eval (.Name x pos) X.env) Q E s:=by
 obtain ⟨mb,h1,h2⟩:=I.mod.blt;exact Calls.Name_function_global I.ok.kind hg (Calls.loadGlobal_builtin (by rw [I.ok.glob]; exact I.mod.glob.keeps I.bk) hm (by rw [I.ok.blt]; exact h1.keeps I.bk) ((h2 x hn).trans hv) h) hd
theorem jJ' {x:Str} {v:V} {u:Value} {pos:Pos} (hg:Gl X x) (hm:X.mg x=some u) (r:RelV v u) (hd:(x == ("__debug__" : Str))=false:=by decide):PE X (.Name x pos) (tC v) :=
 fun _ _ _ H _ I h=>bh' I hg hm ⟨v,H,I,r,h⟩ hd
noncomputable def t2I (ta tb:TE) (k:Int->Int->Hp->Prop):St->Hp->Prop:=fun σ H=>ta σ H fun x H1=>tb σ H1 fun y H2=>∃i j,x=.int i/\y=.int j/\k i j H2
variable {a b:Expr} {ta tb:TE} {pos:Pos}
noncomputable def tCmp (p:Int->Int->Bool) (ta tb:TE):TE:=fun σ H Q=>t2I ta tb (fun i j H2=>Q (.bl (p i j)) H2) σ H
abbrev tLt:TE->TE->TE:=tCmp fun i j=>decide (i < j)
abbrev tLe:TE->TE->TE:=tCmp fun i j=>decide (i<=j)
abbrev tGt:TE->TE->TE:=tCmp fun i j=>decide (j < i)
abbrev tGe:TE->TE->TE:=tCmp fun i j=>decide (j<=i)
abbrev tEqI:TE->TE->TE:=tCmp fun i j=>decide (i=j)
abbrev tNeI:TE->TE->TE:=tCmp fun i j=>!decide (i=j)
noncomputable def tB (t:TE):TT:=fun σ H Q=>t σ H fun x H1=>∃c,x=.bl c/\Q c H1
variable {tA tB':TT} {rest:List Expr}
end
noncomputable def SqL (K:PySem.W.Frag) (H:Hp) (a:Addr) (xs:List V):Prop :=
 Rd H a (.lst xs) \/
  ∃(o:Obj) (its:Array Value) (n:Nat),K.lookup a=some o/\o.cls=.type "list"/\o.dict=none/\o.data=.seq its n/\its.size<=sizeLine/\Vals xs its.toList
noncomputable def SqT (K:PySem.W.Frag) (H:Hp) (a:Addr) (xs:List V):Prop :=
 Rd H a (.tup xs) \/
  ∃(o:Obj) (its:Array Value) (n:Nat),K.lookup a=some o/\o.cls=.type "tuple"/\o.data=.seq its n/\its.size<=sizeLine/\Vals xs its.toList
noncomputable def absV:Value->Option V
 | .none=>some .non
 | .bool b=>some (.bl b)
 | .int i _=>some (.int i)
 | .str x _=>some (.str x)
 | .bytes b _=>some (.byt b)
 | .float b _=>some (.flt b)
 | .ref a=>some (.ref a)
 | .type n=>some (.ty n)
 | _=>none
theorem RelV.abs {x:V} {u:Value} (r:RelV x u):absV u=some x:=by
 cases x with
 | non=>cases r; rfl
 | bl _=>cases r; rfl
 | int _=>obtain ⟨t,rfl⟩:=r; rfl
 | str _=>obtain ⟨t,rfl⟩:=r; rfl
 | byt _=>obtain ⟨t,rfl⟩:=r; rfl
 | flt _=>obtain ⟨t,rfl⟩:=r; rfl
 | ref _=>cases r; rfl
 | ty _=>cases r; rfl
theorem RelV.inj {x y:V} {u:Value} (r:RelV x u) (q:RelV y u):x=y:=Option.some.inj (r.abs.symm.trans q.abs)
theorem Vals.inj:∀{xs ys:List V} {us:List Value},Vals xs us->Vals ys us->xs=ys
 | _,_,_,.nil,.nil=>rfl
 | _,_,_,.cons r t,.cons r' t'=>by rw [r.inj r',Vals.inj t t']
section
variable {X:Cx} {pins:List (Addr×Obj)} {σ:St} {H:Hp} {s:Shared} {a:Addr} {xs ys:List V}
theorem SqL.of {K:PySem.W.Frag} (h:H a=some (.lst xs)):SqL K H a xs:=.inl (.inl h)
theorem SqT.of {K:PySem.W.Frag} (h:H a=some (.tup xs)):SqT K H a xs:=.inl (.inl h)
theorem Inv.list (I:Inv X pins σ H s) (h:SqL X.K H a xs):∃its:List Value,Vals xs its/\PlainL s.heap a its.toArray/\xs.length<=sizeLine:=by
 rcases h with h | ⟨o,its,n,hk,hc,hd,hs,hz,r⟩
 ·obtain ⟨z,its,n,r,e⟩:=h.ok I.hok;exact ⟨its,r,⟨_,n,e,rfl,rfl,rfl⟩,z⟩
 ·refine ⟨its.toList,r,⟨o,n,I.kIn a o hk,hc,hd,by simpa using hs⟩,?_⟩;have e:=r.length;simp only [Array.length_toList] at e;omega
theorem Inv.tuple (I:Inv X pins σ H s) (h:SqT X.K H a xs):∃its:List Value,Vals xs its/\IsTup s.heap a its.toArray/\xs.length<=sizeLine:=by
 rcases h with h | ⟨o,its,n,hk,hc,hs,hz,r⟩
 ·obtain ⟨z,its,r,p⟩:=h.ok I.hok;exact ⟨its,r,p,z⟩
 ·refine ⟨its.toList,r,⟨o,I.kIn a o hk,hc,n,by simpa using hs⟩,?_⟩;have e:=r.length;simp only [Array.length_toList] at e;omega
theorem Inv.list_inj (I:Inv X pins σ H s) (h:SqL X.K H a xs) (h':SqL X.K H a ys):xs=ys:=by
 obtain ⟨its,r,⟨o,n,e,_,_,d⟩,_⟩:=I.list h;obtain ⟨its',r',⟨o',n',e',_,_,d'⟩,_⟩:=I.list h';rw [e] at e'; cases e';rw [d] at d';injection d' with d1 _
 have:its=its':=by simpa using congrArg Array.toList d1
 subst this;exact r.inj r'
theorem Inv.tuple_inj (I:Inv X pins σ H s) (h:SqT X.K H a xs) (h':SqT X.K H a ys):xs=ys:=by
 obtain ⟨its,r,⟨o,e,_,n,d⟩,_⟩:=I.tuple h;obtain ⟨its',r',⟨o',e',_,n',d'⟩,_⟩:=I.tuple h';rw [e] at e'; cases e';rw [d] at d';injection d' with d1 _
 have:its=its':=by simpa using congrArg Array.toList d1
 subst this;exact r.inj r'
end
abbrev Cx.wish (X:Cx) (E:Value->Shared->Prop):Cx:={ X with xe:=E }
abbrev Cx.nox (X:Cx):Cx:=X.wish fun _ _=>False
theorem Cx.Ok.wish {X:Cx} (ok:X.Ok) (E:Value->Shared->Prop):(X.wish E).Ok :=
 ⟨ok.mod,ok.kind,ok.glob,ok.blt,ok.above,ok.inj,ok.has,ok.cab,ok.hd,ok.frames,ok.stk,ok.exf,ok.bs,ok.bsz,ok.noex,ok.exfs,ok.funs,ok.frf⟩
theorem Cx.Ok.unwish {X:Cx} {E:Value->Shared->Prop} (ok:(X.wish E).Ok):X.Ok :=
 ⟨ok.mod,ok.kind,ok.glob,ok.blt,ok.above,ok.inj,ok.has,ok.cab,ok.hd,ok.frames,ok.stk,ok.exf,ok.bs,ok.bsz,ok.noex,ok.exfs,ok.funs,ok.frf⟩
section
variable {X:Cx} {pins:List (Addr×Obj)} {σ:St} {H:Hp} {s:Shared} {E:Value->Shared->Prop}
theorem Inv.wish (I:Inv X pins σ H s) (E:Value->Shared->Prop):Inv (X.wish E) pins σ H s:=⟨I.ok.wish E,I.os,I.bare,I.base,I.loc,I.cell,I.free,I.freeC,I.pin,I.hok,I.len⟩
theorem Inv.unwish (I:Inv (X.wish E) pins σ H s):Inv X pins σ H s:=⟨I.ok.unwish,I.os,I.bare,I.base,I.loc,I.cell,I.free,I.freeC,I.pin,I.hok,I.len⟩
theorem SP.unwish {D:Ends} {f:Flow} {s':Shared} (h:SP (X.wish E) pins D f s'):SP X pins D f s':=by
 cases f with
 | next=>obtain ⟨σ',H',I,q⟩:=h; exact ⟨σ',H',I.unwish,q⟩
 | brk=>obtain ⟨σ',H',I,q⟩:=h; exact ⟨σ',H',I.unwish,q⟩
 | cont=>obtain ⟨σ',H',I,q⟩:=h; exact ⟨σ',H',I.unwish,q⟩
 | ret u=>obtain ⟨v,σ',H',I,r,q⟩:=h; exact ⟨v,σ',H',I.unwish,r,q⟩
theorem PE.nox {e:Expr} {t:TE} (h:PE X.nox e t):PE X e t:=fun pins s σ H Q I hw =>
 wpAny_mono (h pins s σ H Q (I.wish _) hw) (fun _ _ ⟨v,H',I',r,q⟩=>⟨v,H',I'.unwish,r,q⟩) fun _ _ z=>False.elim z
theorem PT.nox {e:Expr} {t:TT} (h:PT X.nox e t):PT X e t:=fun pins s σ H Q I hw =>
 wpAny_mono (h pins s σ H Q (I.wish _) hw) (fun _ _ ⟨H',I',q⟩=>⟨H',I'.unwish,q⟩) fun _ _ z=>False.elim z
theorem PSs.nox {st:List Stmt} {t:TS} (h:PSs X.nox st t):PSs X st t:=fun pins s σ H D I hw =>
 wpAny_mono (h pins s σ H D (I.wish _) hw) (fun _ _ q=>q.unwish) fun _ _ z=>False.elim z
end
section
variable {X:Cx} {st:Stmt} {rest:List Stmt} {t u:TS} {e:Expr} {te:TE} {pos:Pos}
noncomputable def tNext:TS:=fun D σ H=>D.nx σ H
noncomputable def tSeq (t u:TS):TS:=fun D σ H=>t { D with nx:=u D } σ H
theorem ce':PSs X [] tNext:=fun _ _ σ H _ I h=>wpAny_execs_nil ⟨σ,H,I,h⟩
theorem aM' (h1:PS X st t) (h2:PSs X rest u):PSs X (st :: rest) (tSeq t u):=by
 intro pins s σ H D I h;refine wpAny_execs_cons (thn (h1 pins s σ H { D with nx:=u D } I h) fun f s1 q=>?_)
 cases f with
 | next =>
  obtain ⟨σ',H',I',q⟩:=q;exact h2 pins s1 σ' H' D I' q
 | ret v=>exact q
 | brk=>exact q
 | cont=>exact q
theorem jK' (h1:PS X st t):PSs X [st] t:=by
 intro pins s σ H D I h;refine wpAny_execs_cons (thn (h1 pins s σ H D I h) fun f s1 q=>?_)
 cases f with
 | next=>exact wpAny_execs_nil q
 | ret v=>exact q
 | brk=>exact q
 | cont=>exact q
theorem Inv.quiet {pins:List (Addr×Obj)} {σ:St} {H:Hp} {s:Shared} (I:Inv X pins σ H s):interactive X.env=false:=by simp [interactive,I.ok.kind]
noncomputable def tDrop (te:TE):TS:=fun D σ H=>te σ H fun _ H1=>D.nx σ H1
theorem cf' (he:PE X e te) (hs:swapsWith e none pos.line X.env=pure false:=by rfl):PS X (.Expr e pos) (tDrop te):=by
 intro pins s σ H D I h;exact wpAny_Expr_any (thn (he pins s σ H _ I h) fun v s1 ⟨x,H1,I1,r1,q1⟩=>⟨σ,H1,I1,q1⟩) I.quiet hs
end
abbrev TG:=V->St->Hp->(St->Hp->Prop)->Prop
abbrev TGs:=List V->St->Hp->(St->Hp->Prop)->Prop
noncomputable def PG (X:Cx) (target:Expr) (t:TG):Prop :=
 ∀(pins:List (Addr×Obj)) (s:Shared) (σ:St) (H:Hp) (v:V) (u:Value) (Q:St->Hp->Prop),Inv X pins σ H s->RelV v u->t v σ H Q ->
  wpAny (model X.prog X.w) X.A (assign target X.env u) (fun _ s'=>∃σ' H',Inv X pins σ' H' s'/\Q σ' H') X.xe s
noncomputable def PGs (X:Cx) (ts:List Expr) (t:TGs):Prop :=
 ∀(pins:List (Addr×Obj)) (s:Shared) (σ:St) (H:Hp) (vs:List V) (us:List Value) (Q:St->Hp->Prop),Inv X pins σ H s->Vals vs us->t vs σ H Q ->
  wpAny (model X.prog X.w) X.A (assignInOrder ((assignEach ts X.env).map (·.2)) us) (fun _ s'=>∃σ' H',Inv X pins σ' H' s'/\Q σ' H') X.xe s
abbrev TSet:=V->V->V->Hp->(Hp->Prop)->Prop
abbrev TIp:=V->V->Hp->VK->Prop
section
variable {X:Cx} {pos:Pos}
noncomputable def gName (i:Nat):TG:=fun v σ H Q=>Q (σ.set i (some v)) H
theorem gm' {i:Nat} {x:Str} (hN:X.N.Nodup) (hi:X.N[i]? = some x) (hx:Loc X.env.scope x) (hf:X.fn x=true\/X.env.scope.names.lookup x=some .local:=by first | exact .inl rfl | exact .inr rfl | assumption):PG X (.Name x pos) (gName i):=by
 intro pins s σ H v u Q I r h;exact wpAny_assign_Name (cz' I hN hi hx r (fun s' I'=>⟨_,H,I',h⟩) hf)
noncomputable def gNil:TGs:=fun vs σ H Q=>vs=[]/\Q σ H
noncomputable def gCons (t:TG) (u:TGs):TGs:=fun vs σ H Q=>∃v r,vs=v :: r/\t v σ H fun σ' H'=>u r σ' H' Q
theorem jL':PGs X [] gNil:=by
 intro pins s σ H vs us Q I r h;obtain ⟨e,h⟩:=h;subst e
 cases r
 exact assignInOrder_nil ⟨σ,H,I,h⟩
theorem id' {e:Expr} {es:List Expr} {t:TG} {u:TGs} (h1:PG X e t) (h2:PGs X es u)
  (hs:(assignEach (e :: es) X.env).map (·.2)=assign e X.env :: (assignEach es X.env).map (·.2):=by rfl):PGs X (e :: es) (gCons t u):=by
 intro pins s σ H vs us Q I r h;obtain ⟨v,vr,e1,h⟩:=h;subst e1
 cases r with
 | cons r rr =>
  rw [hs];refine assignInOrder_cons (thn (h1 pins s σ H _ _ _ I r h) fun _ s1 ⟨σ1,H1,I1,q1⟩=>?_);exact h2 pins s1 σ1 H1 _ _ Q I1 rr q1
noncomputable def gTup (K:PySem.W.Frag) (n:Nat) (t:TGs):TG:=fun v σ H Q=>∃a xs,v=.ref a/\SqT K H a xs/\xs.length=n/\t xs σ H Q
theorem lj' {es:List Expr} {k:Nat} {t:TGs} {n:Nat} (hc:X.calm=true) (h:PGs X es t)
  (hn:(assignEach es X.env).length=n:=by rfl) (hst:(assignEach es X.env).findIdx? (·.1)=none:=by rfl):PG X (.Tuple es k pos) (gTup X.K n t):=by
 intro pins s σ H v u Q I r hw;obtain ⟨a,xs,e1,hq,hl,hw⟩:=hw;subst e1
 cases r
 obtain ⟨its,rv,ht,hz⟩:=I.tuple hq;refine assign_Tuple_tuple (I.ok.hd hc) ht (by simp [hn,<- hl,rv.length]) hst fun h' hx=>?_;have I1:Inv X pins σ H { s with heap:=h' }:=I.kept (t':=s.toks) fun b o e=>hx b o (Nat.ne_of_lt (Heap.lt_size e)) e
 exact h pins _ σ H xs _ Q I1 (by simpa using rv) hw
end
section
variable {X:Cx} {pos:Pos}
noncomputable def tWhile (c:TT) (tb:TS):TS:=fun D σ H=>∃W:Nat->St->Hp->Prop,(∃m,W m σ H)/\∀m σ H,W m σ H ->
 c σ H fun b H1=>if b=true then ∃N:St->Hp->Prop,(∀σ' H',N σ' H'->∃m',m' < m/\W m' σ' H')/\tb { D with nx:=N,ct:=N,bk:=D.nx } σ H1 else D.nx σ H1
theorem ie' {c:Expr} {body:List Stmt} {tc:TT} {tb:TS} (hp:PassesOwn (model X.prog X.w) X.A X.env X.xe) (hc:PT X c tc) (hb:PSs X body tb):PS X (.While c body [] pos) (tWhile tc tb):=by
 intro pins s σ H D I h;obtain ⟨W,⟨m0,w0⟩,turn⟩:=h;refine wpAny_While (codeAny_whileLoop (fun n s'=>∃σ' H',Inv X pins σ' H' s'/\W n σ' H') ?_ m0 ⟨σ,H,I,w0⟩)
 rintro n s1 ⟨σ1,H1,I1,w1⟩
 refine wpAny_passesOwn hp (thn (hc pins s1 σ1 H1 _ I1 (turn n σ1 H1 w1)) fun b s2 ⟨H2,I2,q2⟩=>?_)
 cases b with
 | true =>
  obtain ⟨N,hN,q2⟩:=q2;rw [if_pos rfl];refine wpAny_passesOwn hp (thn (hb pins s2 σ1 H2 _ I2 q2) fun f s3 q3=>?_)
  cases f with
  | next =>
   obtain ⟨σ3,H3,I3,n3⟩:=q3;obtain ⟨m',hm,w3⟩:=hN σ3 H3 n3;exact ⟨m',hm,σ3,H3,I3,w3⟩
  | cont =>
   obtain ⟨σ3,H3,I3,n3⟩:=q3;obtain ⟨m',hm,w3⟩:=hN σ3 H3 n3;exact ⟨m',hm,σ3,H3,I3,w3⟩
  | brk=>exact q3
  | ret v=>exact q3
 | false =>
  rw [if_neg Bool.false_ne_true];exact wpAny_execs_nil ⟨σ1,H2,I2,q2⟩
end
structure It where
 go:Nat->Hp->Prop
 yld:Nat->Hp->V->Hp->Prop
 stop:Nat->Hp->Prop
noncomputable def FpOk (X:Cx) (pins:List (Addr×Obj)) (H:Hp) (b:Addr):Prop :=
 H b=none/\b≠X.env.locals/\b∉X.fs/\(b∈X.ex\/X.s₀.heap.objs.size<=b)/\(∀x c,X.env.cells.lookup x=some c->c≠b)/\∀p∈X.pn ++ pins,p.1≠b
theorem Inv.fpOk {X:Cx} {pins:List (Addr×Obj)} {σ:St} {H H':Hp} {s:Shared} {b:Addr} (I:Inv X pins σ H s) (hb:s.heap.objs.size<=b) (hn:H' b=none):FpOk X pins H' b:=by
 refine ⟨hn,Nat.ne_of_gt (Nat.lt_of_lt_of_le I.lt hb),I.nofs hb,.inr (Nat.le_trans I.sz hb),fun x c e z=>?_,fun p hp z=>?_⟩
 ·obtain ⟨v,q⟩:=I.cell x c e;exact absurd (Nat.lt_of_lt_of_le q.lt (by rw [z]; exact hb)) (Nat.lt_irrefl _)
 ·exact absurd (Nat.lt_of_lt_of_le (Heap.lt_size (I.pin p hp).1) (by rw [z]; exact hb)) (Nat.lt_irrefl _)
structure Turn (P:Program) (w:World) (K:PySem.W.Frag) (tg:Expr) (J:It) (fp:List Addr) (it:Addr) (tn:Nat->Heap->Prop):Prop where
 mem:it∈fp
 obj:∀i h,tn i h->∀b∈fp,∃o,h.get? b=some o/\∀v,o.data≠.cell v
 keep:∀i h h',tn i h->(∀b∈fp,∀o,h.get? b=some o->h'.get? b=some o)->tn i h'
 item:∀(X:Cx),X.prog=P->X.w=w->X.K=K->X.calm=true->∀(i:Nat) (pins:List (Addr×Obj)) (s:Shared) (σ:St) (H:Hp) (E:Value->Shared->Prop),Inv X pins σ H s->(∀b∈fp,FpOk X pins H b)->tn i s.heap->J.go i H ->
  wpAny (model P w) X.A (pyNext (.ref it)) (fun r s1=>∃u,r=some u /\
   wpAny (model P w) X.A (letOwnedTupleGo tg (.ref it) u) (fun _ s2=>∃x H',Inv X pins σ H' s2/\RelV x u/\J.yld i H x H'/\tn (i + 1) s2.heap/\∀b∈fp,H' b=none) E s1) E s
 done:∀(X:Cx),X.prog=P->X.w=w->X.K=K->X.calm=true->∀(i:Nat) (pins:List (Addr×Obj)) (s:Shared) (σ:St) (H:Hp) (E:Value->Shared->Prop),Inv X pins σ H s->(∀b∈fp,FpOk X pins H b)->tn i s.heap->J.stop i H ->
  wpAny (model P w) X.A (pyNext (.ref it)) (fun r s1=>r=none/\Inv X pins σ H s1) E s
 self:∀(A:Around) (i:Nat) (s:Shared) (Q:Value->Shared->Prop) (E:Value->Shared->Prop),tn i s.heap->Q (.ref it) s->wpAny (model P w) A (pyIter (.ref it)) Q E s
abbrev TI:=St->Hp->(It->Hp->Prop)->Prop
noncomputable def PIE (X:Cx) (pins:List (Addr×Obj)) (σ:St) (tg:Expr) (R:It->Hp->Prop) (itv:Value) (s2:Shared):Prop :=
 ∃(it:Addr) (fp:List Addr) (tn:Nat->Heap->Prop) (J:It) (H':Hp),itv=.ref it/\Inv X pins σ H' s2/\Turn X.prog X.w X.K tg J fp it tn/\tn 0 s2.heap/\(∀b∈fp,FpOk X pins H' b)/\R J H'
noncomputable def PI (X:Cx) (tg iter:Expr) (wi:TI):Prop :=
 ∀(pins:List (Addr×Obj)) (s:Shared) (σ:St) (H:Hp) (R:It->Hp->Prop),Inv X pins σ H s->wi σ H R ->
  wpAny (model X.prog X.w) X.A (eval iter X.env) (fun v s1=>wpAny (model X.prog X.w) X.A (pyIter v) (PIE X pins σ tg R) X.xe s1) X.xe s
theorem gn' {M:Model} {A:Around} {E:Value->Shared->Prop} {s:Shared} {tg:Expr} {it:Addr} {u:Value} {o:Obj} {n:String} {vs:Array Value} {Q:Unit->Shared->Prop} (ho:s.heap.get? it=some o) (hc:o.cls=.type n) (hd:o.data=.fields vs)
    (hn:["enumerate", "zip", "dict_itemiterator", "dict_reverseitemiterator", "odict_iterator", "itertools.zip_longest", "itertools.pairwise"].contains n=false) (hQ:Q () s):wpAny M A (letOwnedTupleGo tg (.ref it) u) Q E s:=by
  unfold letOwnedTupleGo
  cases tg <;> first
    | exact wpAny_pure hQ
    | (cases u <;> first
        | exact wpAny_pure hQ
        | (refine wpAny_bind (wpAny_load ho ?_)
           rw [hc,hd];show wpAny M A (if (["enumerate", "zip", "dict_itemiterator", "dict_reverseitemiterator", "odict_iterator", "itertools.zip_longest", "itertools.pairwise"].contains n && vs[0]? == some (rawInt _))=true then _ else _) Q E s
           rw [if_neg (by intro h; rw [hn,Bool.false_and] at h; cases h)];exact wpAny_pure hQ))
noncomputable def Itl (K:PySem.W.Frag) (a:Addr):It :=
 ⟨fun i H=>∃xs x,SqL K H a xs/\xs[i]? = some x,fun i H x H'=>H'=H/\∀xs,SqL K H a xs->xs[i]? = some x,fun i H=>∃xs,SqL K H a xs/\xs.length<=i⟩
noncomputable def Itt (K:PySem.W.Frag) (a:Addr):It :=
 ⟨fun i H=>∃xs x,SqT K H a xs/\xs[i]? = some x,fun i H x H'=>H'=H/\∀xs,SqT K H a xs->xs[i]? = some x,fun i H=>∃xs,SqT K H a xs/\xs.length<=i⟩
noncomputable def Itr (lo:Int) (n:Nat):It:=⟨fun i _=>i < n,fun i H x H'=>H'=H/\x=.int (lo + i),fun i _=>n<=i⟩
theorem go' {P:Program} {w:World} {K:PySem.W.Frag} {tg:Expr} (a it:Addr):Turn P w K tg (Itl K a) [it] it (fun i h=>h.IsListIter it a i) where
 mem:=by simp
 obj:=fun i h st b hb=>by
  have e:b=it:=by simpa using hb
  subst e;obtain ⟨o,e,c,d⟩:=st;exact ⟨o,e,fun v z=>by rw [d] at z; cases z⟩
 keep:=fun i h h' st k=>st.at fun o e=>k it (by simp) o e
 item:=by
  intro X hP hw hK hc i pins s σ H E I hf st hg;subst hP hw hK;obtain ⟨xs,x,hq,hx⟩:=hg;obtain ⟨its,rv,p,hz⟩:=I.list hq;obtain ⟨u,hu,ru⟩:=rv.get hx;obtain ⟨f0,f1,f2,f3,f4,f5⟩:=hf it (by simp);refine wpAny_pyNext_list_item st p.isList (x:=u) (by simpa using hu) fun h' st' sb=>?_;have I1:Inv X pins σ H { s with heap:=h' }:=I.turned (t':=s.toks) (fun b o hb e=>(sb.2 b hb).trans e) f0 f1 f3 f4 f5
  obtain ⟨o,e,c,d⟩:=id st';exact ⟨u,rfl,gn' (s:={ s with heap:=h' }) e c d (by decide) ⟨x,H,I1,ru,⟨rfl,fun ys hy=>by rw [I.list_inj hy hq]; exact hx⟩,st',fun b hb=>(hf b hb).1⟩⟩
 done:=by
  intro X hP hw hK hc i pins s σ H E I hf st hg;subst hP hw hK;obtain ⟨xs,hq,hx⟩:=hg;obtain ⟨its,rv,p,hz⟩:=I.list hq;obtain ⟨f0,f1,f2,f3,f4,f5⟩:=hf it (by simp);have hl:=rv.length;exact wpAny_pyNext_list_end (I.ok.hd hc) st p.isList (by simp; omega) fun h' eb=>⟨rfl,I.turned (t':=s.toks) (fun b o hb e=>eb b o hb e) f0 f1 f3 f4 f5⟩
 self:=fun _ _ _ _ _ st h=>wpAny_pyIter_listiter st h
theorem fJ' {P:Program} {w:World} {K:PySem.W.Frag} {tg:Expr} (a it:Addr):Turn P w K tg (Itt K a) [it] it (fun i h=>h.IsTupleIter it a i) where
 mem:=by simp
 obj:=fun i h st b hb=>by
  have e:b=it:=by simpa using hb
  subst e;obtain ⟨o,e,c,d⟩:=st;exact ⟨o,e,fun v z=>by rw [d] at z; cases z⟩
 keep:=fun i h h' st k=>st.at fun o e=>k it (by simp) o e
 item:=by
  intro X hP hw hK hc i pins s σ H E I hf st hg;subst hP hw hK;obtain ⟨xs,x,hq,hx⟩:=hg;obtain ⟨its,rv,p,hz⟩:=I.tuple hq;obtain ⟨u,hu,ru⟩:=rv.get hx;obtain ⟨f0,f1,f2,f3,f4,f5⟩:=hf it (by simp);refine wpAny_pyNext_tuple_item st (show s.heap.IsTuple a its.toArray from p) (x:=u) (by simpa using hu) fun h' st' sb=>?_
  have I1:Inv X pins σ H { s with heap:=h' }:=I.turned (t':=s.toks) (fun b o hb e=>(sb.2 b hb).trans e) f0 f1 f3 f4 f5
  obtain ⟨o,e,c,d⟩:=id st';exact ⟨u,rfl,gn' (s:={ s with heap:=h' }) e c d (by decide) ⟨x,H,I1,ru,⟨rfl,fun ys hy=>by rw [I.tuple_inj hy hq]; exact hx⟩,st',fun b hb=>(hf b hb).1⟩⟩
 done:=by
  intro X hP hw hK hc i pins s σ H E I hf st hg;subst hP hw hK;obtain ⟨xs,hq,hx⟩:=hg;obtain ⟨its,rv,p,hz⟩:=I.tuple hq;obtain ⟨f0,f1,f2,f3,f4,f5⟩:=hf it (by simp);have hl:=rv.length;exact wpAny_pyNext_tuple_end (I.ok.hd hc) st (show s.heap.IsTuple a its.toArray from p) (by simp; omega) fun h' eb=>⟨rfl,I.turned (t':=s.toks) (fun b o hb e=>eb b o hb e) f0 f1 f3 f4 f5⟩
 self:=fun _ _ _ _ _ st h=>wpAny_pyIter_tupleiter st h
theorem fK' {P:Program} {w:World} {K:PySem.W.Frag} {tg:Expr} (it:Addr) (lo:Int) (n:Nat):Turn P w K tg (Itr lo n) [it] it (fun i h=>IsRangeIter h it (lo + (i:Nat) * 1) ((n:Int) - (i:Nat)) 1) where
 mem:=by simp
 obj:=fun i h st b hb=>by
  have e:b=it:=by simpa using hb
  subst e;exact ⟨_,st,fun v z=>by
   have z':Data.fields _=Data.cell v:=z
   cases z'⟩
 keep:=fun i h h' st k=>k it (by simp) _ st
 item:=by
  intro X hP hw hK hc i pins s σ H E I hf st hg;subst hP hw hK;obtain ⟨f0,f1,f2,f3,f4,f5⟩:=hf it (by simp);have W:=Walks.range (prog:=X.prog) (w:=X.w) (I.ok.hd hc) it lo 1 n;refine W.item i s _ _ hg st fun v h' tk hv st' kk=>?_;obtain ⟨t,rfl⟩:=hv;have I1:Inv X pins σ H { s with heap:=h',toks:=tk }:=I.turned (fun b o hb e=>kk b o (by simpa using hb) e) f0 f1 f3 f4 f5
  refine ⟨_,rfl,gn' (s:={ s with heap:=h',toks:=tk }) (n:="range_iterator") st' rfl rfl (by decide) ⟨.int (lo + i),H,I1,⟨t,?_⟩,⟨rfl,rfl⟩,st',fun b hb=>(hf b hb).1⟩⟩
  rw [Int.mul_one]
 done:=by
  intro X hP hw hK hc i pins s σ H E I hf st hg;subst hP hw hK;obtain ⟨f0,f1,f2,f3,f4,f5⟩:=hf it (by simp);exact wpAny_pyNext_range_end (I.ok.hd hc) st (by have:n<=i:=hg; omega) fun h' eb=>⟨rfl,I.turned (t':=s.toks) (fun b o hb e=>eb b o hb e) f0 f1 f3 f4 f5⟩
 self:=fun _ _ _ _ _ st h=>wpAny_pyIter_rangeiter st h
section
variable {X:Cx} {tg:Expr}
theorem if' {pins:List (Addr×Obj)} {σ:St} {H:Hp} {s:Shared} {R:It->Hp->Prop} {E:Value->Shared->Prop} {lo hi:Int} {t u v:Tok} {tk:Nat} (I:Inv X pins σ H s) (h1:-(2 ^ 62)<=lo) (h2:lo < 2 ^ 62) (h3:-(2 ^ 62)<=hi) (h4:hi < 2 ^ 62)
  (q:R (Itr lo (hi - lo).toNat) H):wpAny (model X.prog X.w) X.A (pyIter (.ref s.heap.objs.size)) (PIE X pins σ tg R) E { s with heap:=s.heap.push { cls:=.type "range",data:=.fields #[.int lo t,.int hi u,.int 1 v] },toks:=tk }:=by
 refine wpAny_pyIter_range (IsRange.new ..) (small_one h1 h2 h3 h4) ?_;have I1:Inv X pins σ H { s with heap:=s.heap.push { cls:=.type "range",data:=.fields #[.int lo t,.int hi u,.int 1 v] },toks:=tk }:=I.kept fun b o e=>Heap.get?_push_of_some _ e
 refine ⟨(s.heap.push { cls:=.type "range",data:=.fields #[.int lo t,.int hi u,.int 1 v] }).objs.size,[(s.heap.push { cls:=.type "range",data:=.fields #[.int lo t,.int hi u,.int 1 v] }).objs.size],_,_,H,rfl,
  I1.kept (t':=tk) fun b o e=>Heap.get?_push_of_some _ e,fK' _ lo (hi - lo).toNat,?_,fun b hb=>?_,q⟩
 ·have e1:lo + ((0:Nat):Int) * 1=lo:=by simp
  have e2:(((hi - lo).toNat:Nat):Int) - ((0:Nat):Int)=Builtin.Range.rangeSize lo hi 1:=by rw [rangeSize_one]; split <;> omega
  show IsRangeIter _ _ (lo + ((0:Nat):Int) * 1) ((((hi - lo).toNat:Nat):Int) - ((0:Nat):Int)) 1;rw [e1,e2];exact Heap.get?_push_size _ rfl
 ·have e:b=(s.heap.push { cls:=.type "range",data:=.fields #[.int lo t,.int hi u,.int 1 v] }).objs.size:=by simpa using hb
  subst e;exact I1.fpOk (Nat.le_refl _) (I1.hok.fresh (Nat.le_refl _))
noncomputable def tFor (wi:TI) (g:TG) (tb:TS):TS:=fun D σ H=>wi σ H fun J H1=>∃W:Nat->Nat->St->Hp->Prop,(∃m,W 0 m σ H1)/\∀i m σ H,W i m σ H ->
 (J.stop i H/\D.nx σ H)\/(J.go i H/\∃N:St->Hp->Prop,(∀σ' H',N σ' H'->∃m',m' < m/\W (i + 1) m' σ' H')/\∀x H',J.yld i H x H'->g x σ H' fun σ2 H2=>tb { D with nx:=N,ct:=N,bk:=D.nx } σ2 H2)
noncomputable def pinsAt (fp:List Addr) (h:Heap):List (Addr×Obj):=fp.filterMap fun b=>(h.get? b).map fun o=>(b,o)
theorem bw' {fp:List Addr} {h:Heap} {b:Addr} {o:Obj} (hb:b∈fp) (e:h.get? b=some o):(b,o)∈pinsAt fp h:=List.mem_filterMap.mpr ⟨b,hb,by rw [e]; rfl⟩
theorem gp' {fp:List Addr} {h:Heap} {p:Addr×Obj} (hp:p∈pinsAt fp h):p.1∈fp/\h.get? p.1=some p.2:=by
 obtain ⟨b,hb,e⟩:=List.mem_filterMap.mp hp
 cases q:h.get? b with
 | none=>rw [q] at e; cases e
 | some o =>
  rw [q] at e;have e':(b,o)=p:=Option.some.inj e;subst e';exact ⟨hb,q⟩
theorem Inv.pinned {pins:List (Addr×Obj)} {σ:St} {H:Hp} {s:Shared} {fp:List Addr} (I:Inv X pins σ H s) (hf:∀b∈fp,FpOk X pins H b) (ho:∀b∈fp,∃o,s.heap.get? b=some o/\∀v,o.data≠.cell v):Inv X (pins ++ pinsAt fp s.heap) σ H s :=
 I.pins_of fun p hp=>(List.mem_append.mp hp).elim (fun z=>I.pin p (List.mem_append_right _ z)) fun z=>by
  obtain ⟨hb,e⟩:=gp' z;obtain ⟨f0,f1,f2,_⟩:=hf p.1 hb;obtain ⟨o,e',d⟩:=ho p.1 hb;rw [e] at e'; cases e';exact ⟨e,f0,f1,f2,d⟩
theorem Inv.unpinned {pins pl:List (Addr×Obj)} {σ:St} {H:Hp} {s:Shared} (I:Inv X (pins ++ pl) σ H s):Inv X pins σ H s:=I.pins_of fun p hp=>I.pin p (List.mem_append_right _ (List.mem_append_left _ hp))
theorem jt' {iter:Expr} {body:List Stmt} {wi:TI} {g:TG} {tb:TS} {pos:Pos} (hp:PassesOwn (model X.prog X.w) X.A X.env X.xe) (hc:X.calm=true) (hi:PI X tg iter wi) (hg:PG X tg g) (hb:PSs X body tb)
  (hs:∀x,foldedSetIterable iter X.env x=pure x:=by intro _; rfl):PS X (.For tg iter body [] pos) (tFor wi g tb):=by
 intro pins s σ H D I h;refine wpAny_For (thn (hi pins s σ H _ I h) fun v s1 h1=>thn h1 fun itv s2 h2=>?_) hs;obtain ⟨it,fp,tn,J,H2,e,I2,T,st2,f2,W,⟨m0,w0⟩,turn⟩:=h2;subst e;have stat:∀{H':Hp},(∀b∈fp,H' b=none)->∀b∈fp,FpOk X pins H' b:=fun hn b hb=>⟨hn b hb,(f2 b hb).2⟩;refine codeAny_forLoop_any (fun n s'=>∃i σ' H',Inv X pins σ' H' s'/\tn i s'.heap/\(∀b∈fp,H' b=none)/\W i n σ' H') ?_ m0 ⟨0,σ,H2,I2,st2,fun b hb=>(f2 b hb).1,w0⟩
 rintro n s3 ⟨i,σ3,H3,I3,st3,fr3,w3⟩
 rcases turn i n σ3 H3 w3 with ⟨stop,qn⟩ | ⟨go,N,hN,step⟩
 ·refine wpAny_passesOwn hp (thn (T.done X rfl rfl rfl hc i pins s3 σ3 H3 X.xe I3 (stat fr3) st3 stop) fun r s4 ⟨hr,I4⟩=>?_)
  subst hr;exact wpAny_execs_nil ⟨σ3,H3,I4,qn⟩
 ·refine wpAny_passesOwn hp (thn (T.item X rfl rfl rfl hc i pins s3 σ3 H3 X.xe I3 (stat fr3) st3 go) fun r s4 ⟨u,hr,h4⟩=>?_);subst hr;refine wpAny_passesOwn hp (thn h4 fun _ s5 ⟨x,H5,I5,r5,y5,st5,fr5⟩=>?_);have I5':=I5.pinned (stat fr5) (T.obj _ _ st5);refine wpAny_passesOwn hp (thn (hg _ s5 σ3 H5 x u _ I5' r5 (step x H5 y5)) fun _ s6 ⟨σ6,H6,I6,q6⟩=>?_);refine wpAny_passesOwn hp (thn (hb _ s6 σ6 H6 _ I6 q6) fun f s7 q7=>?_);have again:∀{σ7:St} {H7:Hp},Inv X (pins ++ pinsAt fp s5.heap) σ7 H7 s7->N σ7 H7->∃m,m < n/\∃i σ' H',Inv X pins σ' H' s7/\tn i s7.heap/\(∀b∈fp,H' b=none)/\W i m σ' H':=fun {σ7 H7} I7 n7=>by
   obtain ⟨m',hm,w7⟩:=hN σ7 H7 n7;refine ⟨m',hm,i + 1,σ7,H7,I7.unpinned,T.keep _ _ _ st5 fun b hb o e=>(I7.pin (b,o) (List.mem_append_right _ (List.mem_append_right _ (bw' hb e)))).1,fun b hb=>?_,w7⟩;obtain ⟨o,e,d⟩:=T.obj _ _ st5 b hb;exact (I7.pin (b,o) (List.mem_append_right _ (List.mem_append_right _ (bw' hb e)))).2.1
  cases f with
  | next=>obtain ⟨σ7,H7,I7,n7⟩:=q7; exact again I7 n7
  | cont=>obtain ⟨σ7,H7,I7,n7⟩:=q7; exact again I7 n7
  | brk=>obtain ⟨σ7,H7,I7,q7⟩:=q7; exact ⟨σ7,H7,I7.unpinned,q7⟩
  | ret v=>obtain ⟨x7,σ7,H7,I7,r7,q7⟩:=q7; exact ⟨x7,σ7,H7,I7.unpinned,r7,q7⟩
end
abbrev R2:=V->V->Hp->VK->Prop
noncomputable def OpR (X:Cx) (f:Value->Value->Sem Value) (r:R2):Prop :=
 ∀(pins:List (Addr×Obj)) (s:Shared) (σ:St) (H:Hp) (x y:V) (v u:Value) (Q:VK),Inv X pins σ H s->RelV x v->RelV y u->r x y H Q ->
  wpAny (model X.prog X.w) X.A (f v u) (EP X pins σ Q) X.xe s
noncomputable def UnR (X:Cx) (f:Value->Sem Value) (r:V->Hp->VK->Prop):Prop :=
 ∀(pins:List (Addr×Obj)) (s:Shared) (σ:St) (H:Hp) (x:V) (v:Value) (Q:VK),Inv X pins σ H s->RelV x v->r x H Q ->
  wpAny (model X.prog X.w) X.A (f v) (EP X pins σ Q) X.xe s
noncomputable def CallR (X:Cx) (f:Value) (r:List V->Hp->VK->Prop):Prop :=
 ∀(pins:List (Addr×Obj)) (s:Shared) (σ:St) (H:Hp) (xs:List V) (us:List Value) (Q:VK),Inv X pins σ H s->Vals xs us->r xs H Q ->
  wpAny (model X.prog X.w) X.A (call f us) (EP X pins σ Q) X.xe s
noncomputable def TruR (X:Cx) (r:V->Hp->(Bool->Hp->Prop)->Prop):Prop :=
 ∀(pins:List (Addr×Obj)) (s:Shared) (σ:St) (H:Hp) (x:V) (v:Value) (Q:Bool->Hp->Prop),Inv X pins σ H s->RelV x v->r x H Q ->
  wpAny (model X.prog X.w) X.A (truthy v) (TP X pins σ Q) X.xe s
noncomputable def rI (C:Int->Int->Prop) (g:Int->Int->V):R2:=fun x y H Q=>∃i j,x=.int i/\y=.int j/\C i j/\Q (g i j) H
noncomputable def rI0 (g:Int->Int->V):R2:=fun x y H Q=>∃i j,x=.int i/\y=.int j/\Q (g i j) H
noncomputable def rU (g:Int->V):V->Hp->VK->Prop:=fun x H Q=>∃i,x=.int i/\Q (g i) H
section
variable {X:Cx} {a b c:Expr} {ta tb tc:TE} {pos:Pos}
theorem opI {f:Value->Value->Sem Value} {C:Int->Int->Prop} {g:Int->Int->Int}
  (rule:∀(i j:Int) (t u:Tok) (s:Shared) (Q:Value->Shared->Prop) (E:Value->Shared->Prop),C i j->Q (.int (g i j) s.toks) { s with toks:=s.toks + 1 }->wpAny (model X.prog X.w) X.A (f (.int i t) (.int j u)) Q E s) :
  OpR X f (rI C fun i j=>.int (g i j)):=by
 intro pins s σ H x y v u Q I rx ry h;obtain ⟨i,j,rfl,rfl,hc,q⟩:=h;obtain ⟨t,rfl⟩:=rx;obtain ⟨t',rfl⟩:=ry;exact rule i j t t' s _ _ hc ⟨.int (g i j),H,I.tok _,⟨_,rfl⟩,q⟩
theorem opI0 {f:Value->Value->Sem Value} {g:Int->Int->Int}
  (rule:∀(i j:Int) (t u:Tok) (s:Shared) (Q:Value->Shared->Prop) (E:Value->Shared->Prop),Q (.int (g i j) s.toks) { s with toks:=s.toks + 1 }->wpAny (model X.prog X.w) X.A (f (.int i t) (.int j u)) Q E s) :
  OpR X f (rI0 fun i j=>.int (g i j)):=by
 intro pins s σ H x y v u Q I rx ry h;obtain ⟨i,j,rfl,rfl,q⟩:=h;obtain ⟨t,rfl⟩:=rx;obtain ⟨t',rfl⟩:=ry;exact rule i j t t' s _ _ ⟨.int (g i j),H,I.tok _,⟨_,rfl⟩,q⟩
theorem opB0 {f:Value->Value->Sem Value} {g:Int->Int->Bool}
  (rule:∀(i j:Int) (t u:Tok) (s:Shared) (Q:Value->Shared->Prop) (E:Value->Shared->Prop),Q (.bool (g i j)) s->wpAny (model X.prog X.w) X.A (f (.int i t) (.int j u)) Q E s) :
  OpR X f (rI0 fun i j=>.bl (g i j)):=by
 intro pins s σ H x y v u Q I rx ry h;obtain ⟨i,j,rfl,rfl,q⟩:=h;obtain ⟨t,rfl⟩:=rx;obtain ⟨t',rfl⟩:=ry;exact rule i j t t' s _ _ ⟨.bl (g i j),H,I,rfl,q⟩
noncomputable def CPow (i j:Int):Prop:=0<=j/\j<=1000000/\i.natAbs < 2 ^ 64
noncomputable def CMul (i j:Int):Prop:=(-(2 ^ 64) < i/\i < 2 ^ 64)\/(-(2 ^ 64) < j/\j < 2 ^ 64)
theorem CMul.ok {i j:Int} (h:CMul i j):IntMulOk i j:=by
 rcases h with ⟨h1,h2⟩ | ⟨h1,h2⟩
 ·exact .of_left (intBits_le_64 h1 h2)
 ·exact .of_right (intBits_le_64 h1 h2)
theorem op_add:OpR X (binaryOp .Add) (rI0 fun i j=>.int (i + j)):=opI0 fun _ _ _ _ _ _ _ q=>add_int q
theorem lk':OpR X (binaryOp .Sub) (rI0 fun i j=>.int (i - j)):=opI0 fun _ _ _ _ _ _ _ q=>sub_int q
theorem jM':OpR X (binaryOp .Mod) (rI (fun _ j=>j≠0) fun i j=>.int (i.fmod j)):=opI fun _ _ _ _ _ _ _ hc q=>mod_int' hc q
theorem ll':OpR X (binaryOp .Pow) (rI CPow fun i j=>.int (i ^ j.toNat)):=opI fun _ _ _ _ _ _ _ hc q=>pow_int_small hc.1 hc.2.1 hc.2.2 q
theorem unI {f:Value->Sem Value} {g:Int->Int}
  (rule:∀(i:Int) (t:Tok) (s:Shared) (Q:Value->Shared->Prop) (E:Value->Shared->Prop),Q (.int (g i) s.toks) { s with toks:=s.toks + 1 }->wpAny (model X.prog X.w) X.A (f (.int i t)) Q E s) :
  UnR X f (rU fun i=>.int (g i)):=by
 intro pins s σ H x v Q I rx h;obtain ⟨i,rfl,q⟩:=h;obtain ⟨t,rfl⟩:=rx;exact rule i t s _ _ ⟨.int (g i),H,I.tok _,⟨_,rfl⟩,q⟩
theorem lm':UnR X (unaryOp .USub) (rU fun i=>.int (-i)):=unI fun _ _ _ _ _ q=>neg_int q
end
noncomputable def scal:V->V->Bool
 | .non,.non=>true | .non,.int _=>true | .int _,.non=>true | .non,.bl _=>true | .bl _,.non=>true | .non,.str _=>true | .str _,.non=>true
 | .int _,.int _=>true | .bl _,.bl _=>true | .str _,.str _=>true | .byt _,.byt _=>true
 | .int _,.str _=>true | .str _,.int _=>true | .bl _,.str _=>true | .str _,.bl _=>true
 | _,_=>false
section
variable {X:Cx} {a b c:Expr} {ta tb tc:TE} {pos:Pos}
theorem ju' {pins:List (Addr×Obj)} {σ:St} {H:Hp} {s:Shared} {Q:VK} {k k':Bool} (I:Inv X pins σ H s) (q:Q (.bl k) H) (e:k=k'):EP X pins σ Q (.bool k') s:=by
 subst e;exact ⟨.bl k,H,I,rfl,q⟩
theorem ml':OpR X (compareOp .Lt) (rI0 fun i j=>.bl (decide (i < j))):=opB0 fun _ _ _ _ _ _ _ q=>lt_int q
theorem mm':OpR X (compareOp .Gt) (rI0 fun i j=>.bl (decide (j < i))):=opB0 fun _ _ _ _ _ _ _ q=>gt_int q
theorem mn':OpR X (compareOp .GtE) (rI0 fun i j=>.bl (decide (j<=i))):=opB0 fun _ _ _ _ _ _ _ q=>ge_int q
theorem gq':OpR X (compareOp .In) (fun x y H Q=>∃i j,x=.str i/\y=.str j/\Q (.bl (!(Builtin.Str.occurrences j i 0 j.length 1).isEmpty)) H):=by
 intro pins s σ H x y v u Q I rx ry h;obtain ⟨i,j,rfl,rfl,q⟩:=h;obtain ⟨t,rfl⟩:=rx;obtain ⟨t',rfl⟩:=ry;exact in_str (ju' I q rfl)
theorem ln':OpR X (compareOp .Is) (fun x y H Q=>y=.non/\Q (.bl (decide (x=.non))) H):=by
 intro pins s σ H x y v u Q I rx ry h;obtain ⟨rfl,q⟩:=h
 cases ry
 refine is_none_gen (ju' I q ?_)
 cases x <;> first
  | (cases rx; rfl)
  | (obtain ⟨t,rfl⟩:=rx; rfl)
theorem OpR.or {f:Value->Value->Sem Value} {r r':R2} (h:OpR X f r) (h':OpR X f r'):OpR X f (fun x y H Q=>r x y H Q\/r' x y H Q):=by
 intro pins s σ H x y v u Q I rx ry q;rcases q with q | q
 ·exact h pins s σ H x y v u Q I rx ry q
 ·exact h' pins s σ H x y v u Q I rx ry q
theorem ax' (b:Expr) {op:CmpOp} (h:op≠.In:=by decide) (h2:op≠.NotIn:=by decide):behindInMarks op b=false:=by
 have e1:(op == CmpOp.In)=false:=by cases op <;> first | rfl | exact absurd rfl h
 have e2:(op == CmpOp.NotIn)=false:=by cases op <;> first | rfl | exact absurd rfl h2
 cases b <;> simp [behindInMarks,e1,e2]
noncomputable def TruV (K:PySem.W.Frag) (x:V) (H:Hp) (k:Bool):Prop :=
 match x with
 | .non=>k=false
 | .bl b=>k=b
 | .int i=>k=(i != 0)
 | .str y=>y.length<=sizeLine/\k=((y.length:Int) != 0)
 | .byt y=>y.size<=sizeLine/\k=((y.size:Int) != 0)
 | .ref p=>(∃xs,SqL K H p xs/\k = !xs.isEmpty)\/(∃xs,SqT K H p xs/\k = !xs.isEmpty)\/∃kvs,H p=some (.dK kvs)/\k = !kvs.isEmpty
 | _=>False
theorem fL' {κ:Type} {kvs:List (κ×V)} {vs:List (κ×Value)} (r:KV kvs vs):(!vs.isEmpty) = !kvs.isEmpty:=by
 cases r <;> rfl
theorem dh' {xs:List V} {its:List Value} (r:Vals xs its):(!its.toArray.isEmpty) = !xs.isEmpty:=by
 cases r <;> simp
theorem dW':(sizeLine:Nat) < 2 ^ 63:=by rw [sizeLine_eq]; decide
theorem lo':TruR X (fun x H Q=>∃k,TruV X.K x H k/\Q k H):=by
 intro pins s σ H x v Q I rx h;obtain ⟨k,e,q⟩:=h;have hl:=dW';have hs:sizeLine=16777216:=sizeLine_eq
 cases x with
 | non =>
  cases rx
  have e':k=false:=e;subst e';exact truthy_none ⟨H,I,q⟩
 | bl b =>
  cases rx
  have e':k=b:=e;subst e';exact wpAny_truthy_bool ⟨H,I,q⟩
 | int i =>
  obtain ⟨t,rfl⟩:=rx;have e':k=(i != 0):=e;subst e';exact PySem.P.truthy_int ⟨H,I,q⟩
 | str y =>
  obtain ⟨t,rfl⟩:=rx;obtain ⟨hy,e'⟩:y.length<=sizeLine/\k=((y.length:Int) != 0):=e;subst e';exact PySem.P.truthy_str (by omega) ⟨H,I.tok _,q⟩
 | byt y =>
  obtain ⟨t,rfl⟩:=rx;obtain ⟨hy,e'⟩:y.size<=sizeLine/\k=((y.size:Int) != 0):=e;subst e';exact PySem.W.truthy_bytes (by omega) ⟨H,I.tok _,q⟩
 | ref p =>
  cases rx
  have e':(∃xs,SqL X.K H p xs/\k = !xs.isEmpty)\/(∃xs,SqT X.K H p xs/\k = !xs.isEmpty)\/∃kvs,H p=some (.dK kvs)/\k = !kvs.isEmpty:=e;rcases e' with ⟨xs,hx,e'⟩ | ⟨xs,hx,e'⟩ | ⟨kvs,hx,e'⟩
  ·subst e';obtain ⟨its,r,pl,hz⟩:=I.list hx;have hlen:=r.length;exact wpAny_truthy_list pl.isList (by simp only [List.size_toArray]; omega) ⟨H,I.tok _,by rw [dh' r]; exact q⟩
  ·subst e';obtain ⟨its,r,pl,hz⟩:=I.tuple hx;have hlen:=r.length;exact truthy_tuple pl (by simp only [List.size_toArray]; omega) ⟨H,I.tok _,by rw [dh' r]; exact q⟩
  ·subst e';obtain ⟨hz,hS,vs,r,m⟩:kvs.length<=sizeLine/\(p == sysModules)=false/\∃vs,KV kvs vs/\s.heap.DictOf (mixKind X.prog X.w) p vs:=I.hok p _ hx;have hlen:kvs.length=vs.length:=Paired.length r;exact wpAny_truthy_dict hS m (by omega) ⟨H,I.tok _,by rw [fL' r]; exact q⟩
 | _=>exact (show False from e).elim
theorem op_add_str:OpR X (binaryOp .Add) (fun x y H Q=>∃i j,x=.str i/\y=.str j/\i.length + j.length<=sizeLine/\Q (.str (i ++ j)) H):=by
 intro pins s σ H x y v u Q I rx ry h;obtain ⟨i,j,rfl,rfl,hz,q⟩:=h;obtain ⟨t,rfl⟩:=rx;obtain ⟨t',rfl⟩:=ry;exact add_str (fun t' tk=>⟨.str (i ++ j),H,I.tok _,⟨_,rfl⟩,q⟩) hz
theorem vals1 {x:V} {us:List Value} (r:Vals [x] us):∃u,us=[u]/\RelV x u:=by
 cases r with
 | cons r1 r2=>cases r2; exact ⟨_,rfl,r1⟩
theorem vals2 {x y:V} {us:List Value} (r:Vals [x,y] us):∃u w',us=[u,w']/\RelV x u/\RelV y w':=by
 cases r with
 | cons r1 r2 =>
  cases r2 with
  | cons r3 r4=>cases r4; exact ⟨_,_,rfl,r1,r3⟩
theorem ig':CallR X (.builtin "abs") (fun xs H Q=>∃i,xs=[.int i]/\Q (.int (if i < 0 then -i else i)) H):=by
 intro pins s σ H xs us Q I r h;obtain ⟨i,rfl,q⟩:=h;obtain ⟨u,rfl,t,rfl⟩:=vals1 r;exact call_abs_int fun u tk=>⟨.int (if i < 0 then -i else i),H,I.tok _,⟨_,rfl⟩,q⟩
theorem gr' (hc:X.calm=true):CallR X (.builtin "min") (fun xs H Q=>∃i j,xs=[.int i,.int j]/\Q (.int (if j < i then j else i)) H):=by
 intro pins s σ H xs us Q I r h;obtain ⟨i,j,rfl,q⟩:=h;obtain ⟨u,w',rfl,⟨t,rfl⟩,⟨t',rfl⟩⟩:=vals2 r;refine min_two_ints (I.ok.hd hc) fun h' tk k=>⟨_,H,I.kept k,?_,q⟩
 by_cases hj:j < i
 ·rw [if_pos hj,if_pos hj]; exact ⟨_,rfl⟩
 ·rw [if_neg hj,if_neg hj]; exact ⟨_,rfl⟩
theorem dX':CallR X (.type "str") (fun xs H Q=>∃i,xs=[.int i]/\i.natAbs.log2 < 1920/\Q (.str (toString i)) H):=by
 intro pins s σ H xs us Q I r h;obtain ⟨i,rfl,hz,q⟩:=h;obtain ⟨u,rfl,t,rfl⟩:=vals1 r;exact PySem.P.str_of_int hz ⟨.str _,H,I.tok _,⟨_,rfl⟩,q⟩
noncomputable def LenV (K:PySem.W.Frag) (x:V) (H:Hp) (n:Nat):Prop :=
 match x with
 | .str y=>y.length<=sizeLine/\n=y.length
 | .byt y=>y.size<=sizeLine/\n=y.size
 | .ref p=>(∃xs,SqL K H p xs/\n=xs.length)\/∃xs,SqT K H p xs/\n=xs.length
 | _=>False
theorem ih':CallR X (.builtin "len") (fun xs H Q=>∃x n,xs=[x]/\LenV X.K x H n/\Q (.int n) H):=by
 intro pins s σ H xs us Q I r h;obtain ⟨x,n,rfl,e,q⟩:=h;obtain ⟨u,rfl,rx⟩:=vals1 r;have hl:=dW';have hs:sizeLine=16777216:=sizeLine_eq
 cases x with
 | str y =>
  obtain ⟨t,rfl⟩:=rx;obtain ⟨hy,e'⟩:y.length<=sizeLine/\n=y.length:=e;subst e';exact len_str (by omega) ⟨.int _,H,I.tok _,⟨_,rfl⟩,q⟩
 | byt y =>
  obtain ⟨t,rfl⟩:=rx;obtain ⟨hy,e'⟩:y.size<=sizeLine/\n=y.size:=e;subst e';exact PySem.W.len_bytes (by omega) ⟨.int _,H,I.tok _,⟨_,rfl⟩,q⟩
 | ref p =>
  cases rx
  have e':(∃xs,SqL X.K H p xs/\n=xs.length)\/∃xs,SqT X.K H p xs/\n=xs.length:=e;rcases e' with ⟨xs,hx,e'⟩ | ⟨xs,hx,e'⟩
  ·subst e';obtain ⟨its,r',pl,hz⟩:=I.list hx;have hlen:=r'.length;exact Calls.call_len_list pl.isList (by simp only [List.size_toArray]; omega) ⟨.int xs.length,H,I.tok _,⟨_,by simp only [List.size_toArray]; rw [hlen]⟩,q⟩
  ·subst e';obtain ⟨its,r',pl,hz⟩:=I.tuple hx;have hlen:=r'.length;exact len_tuple pl (by simp only [List.size_toArray]; omega) ⟨.int xs.length,H,I.tok _,⟨_,by simp only [List.size_toArray]; rw [hlen]⟩,q⟩
 | _=>exact (show False from e).elim
end
structure ObjM (h:Heap) (x dx C:Addr) (mA:Str->Option Value):Prop where
 obj:h.get? x=some (PySem.W.instObj C dx)
 ns:h.Ns1 dx mA
 ne:dx≠x
theorem gt' {h:Heap} {dx:Addr} {mA:Str->Option Value} (n:h.Ns1 dx mA):∃od,h.get? dx=some od/\∀name,PySem.W.lookIn name od=some (mA name):=by
 obtain ⟨o,es,ep,ho,hd,hk,_,hm⟩:=n;refine ⟨o,ho,fun name=>?_⟩;have e:=hm name;unfold nsFind findBy at e;rw [<- Array.find?_toList] at e;unfold PySem.W.lookIn;rw [hd];dsimp only
 split
 ·rename_i y q;rw [q] at e;exact congrArg some e
 ·rename_i q;rw [q] at e;have a:es.toList.any (·.refKey)=false:=by
   rw [List.any_eq_false];intro y hy;obtain ⟨z,t,hkey⟩:=hk y (Array.mem_toList_iff.mp hy);simp [DictEntry.refKey,hkey]
  have a':¬es.toList.any (·.refKey)=true:=by rw [a]; exact Bool.false_ne_true
  rw [if_neg a'];exact congrArg some e
theorem ObjM.look {h:Heap} {x dx C:Addr} {mA:Str->Option Value} (I:ObjM h x dx C mA):∃od,PySem.W.InstAt h x (PySem.W.instObj C dx) C (some od)/\∀name,PySem.W.lookIn name od=some (mA name) :=
 let ⟨od,ho,hl⟩:=gt' I.ns
 ⟨od,⟨I.obj,rfl,rfl,ho⟩,hl⟩
section
variable {prog:Program} {w:World} {A:Around} {E:Value->Shared->Prop} {s:Shared} {K:PySem.W.Frag} {x dx C f:Addr} {mA:Str->Option Value} {name:Str} {v:Value}
theorem jN' {expr:Bool} {Q:Value->Shared->Prop} (X:K.In s.heap) (I:ObjM s.heap x dx C mA) (hg:PySem.W.plainGet K C name=true) (hh:PySem.W.hasDictIn K C=true)
  (ha:PySem.W.findIn K (.ref C) name=some none) (hv:mA name=some v) (hv':PySem.W.handedIn v=true) (h:Q v { s with toks:=s.toks + 1 }) :
  wpAny (model prog w) A (getAttr (.ref x) name expr) Q E s:=by
 obtain ⟨od,J,hl⟩:=I.look;exact PySem.W.get_value X J (PySem.W.plainGet_of hg).1 (PySem.W.findObj_own hh ha rfl (by rw [hl,hv])) hv' h
theorem ii' {pl:Sem Bool} {Q:Value×List Value->Shared->Prop} (X:K.In s.heap) (I:ObjM s.heap x dx C mA) (hg:PySem.W.plainGet K C name=true)
  (hf:PySem.W.findIn K (.ref C) name=some (some (.ref f))) (ht:PySem.W.isFn K (.ref f)=true) (hv:mA name=none) (h:Q (.ref f,[.ref x]) s) :
  wpAny (model prog w) A (getMethod (.ref x) name pl) Q E s:=by
 obtain ⟨od,J,hl⟩:=I.look;exact PySem.W.method_fn X J (PySem.W.plainGet_of hg).1 (PySem.W.plainGet_of hg).2 hf (beq_iff_eq.mp ht) (by show (PySem.W.lookIn name od).map (·.isSome)=some false; rw [hl,hv]; rfl) h
theorem jO' {ns:List Str} {Q:Unit->Shared->Prop} (X:K.In s.heap) (I:ObjM s.heap x dx C mA)
  (hs:PySem.W.findIn K (.ref C) "__setattr__" = some (some (.builtin "object.__setattr__"))) (hp:PySem.W.plainOver K C=true) (ht:PySem.W.takerIn K C name=some none) (hh:PySem.W.hasDictIn K C=true)
  (hw:PySem.Within mA ns) (hsz:ns.length<=sizeLine)
  (h:∀h',ObjM h' x dx C (fun y=>if y=name then some v else mA y)->Heap.SameBut dx s.heap h'->Q () { s with heap:=h',toks:=s.toks + 2 }) :
  wpAny (model prog w) A (setAttr (.ref x) name v) Q E s:=by
 obtain ⟨od,J,hl⟩:=I.look;refine PySem.W.set_plain X J hs (PySem.W.osa_open (s:={ s with toks:=s.toks + 1 }) (r:=none) X J hp ht fun b=>?_)
 obtain ⟨cd,hc,hd'⟩:=PySem.W.any_some hh;have hx:s.heap.get? x=some ⟨.ref C,some dx,.plain,#[]⟩:=I.obj;refine wpAny_bind (wpAny_pure (wpAny_bind (wpAny_bind (wpAny_loadPart hx (wpAny_bind (PySem.W.Looks.here (s:={ s with toks:=s.toks + 1 }) (PySem.W.looks_clsIn X hc) ?_))))))
 rw [hd'];refine wpAny_pure (a:=some dx) (wpAny_bind (wpAny_pure (wpAny_bind ?_)));refine wpAny_nsSet1 (s:={ s with toks:=s.toks + 1 }) I.ns fun h' hn2 hs2=>?_
 obtain ⟨oD,esD,epD,hoD,hdD,hcD⟩:=hn2.count (PySem.Within.cons name v hw);refine wpAny_bind (wpAny_lookBehind hoD (by rw [hdD]; exact pastItsLine_dict (Nat.le_trans hcD (by rw [List.length_cons]; omega))) ?_);exact wpAny_pure (h _ ⟨(hs2.2 _ (Ne.symm I.ne)).trans I.obj,hn2,I.ne⟩ hs2)
theorem ij' {R:Result->Shared->Prop} {vs:List Value} {kw:List (Str×Value)} (X:K.In s.heap) (hm:PySem.W.makesIn K C=true)
    (hi:PySem.W.findIn K (.ref C) "__init__" = some (some (.ref f))) (hf:PySem.W.typeIn K (.ref f)=some (.type "function"))
    (h:codeAny (model prog w) (A.under (.builtin "type.__call__" ⟨.ref C :: vs,kw⟩)) (.call (.ref f) ⟨.ref (s.heap.objs.size + 1) :: vs,kw⟩) (PySem.W.InitBack (s.heap.objs.size + 1) R)
      { s with heap:=(s.heap.push PySem.W.emptyDict).push (PySem.W.instObj C s.heap.objs.size) }) :
    codeAny (model prog w) A (.call (.ref C) ⟨vs,kw⟩) R s:=by
  obtain ⟨hh,g,d,t,os⟩:=s;exact PySem.W.make_core (PySem.W.makes_of X hm) (PySem.W.looks_findIn X hi) (fun self=>PySem.W.bind_fn X self hf) (.inl rfl) h
end
noncomputable def putF (f:Str) (v:V):List (Str×V)->List (Str×V)
 | []=>[(f,v)]
 | (g,x) :: r=>if g=f then (g,v) :: r else (g,x) :: putF f v r
theorem cD' (f g:Str) (v:V):∀fs:List (Str×V),(putF f v fs).lookup g=if g=f then some v else fs.lookup g
 | []=>by
  show List.lookup g [(f,v)]=_
  by_cases h:g=f
  ·have hb:(g == f)=true:=beq_iff_eq.mpr h;simp only [List.lookup,hb,if_pos h]
  ·have hb:(g == f)=false:=beq_eq_false_iff_ne.mpr h;simp only [List.lookup,hb,if_neg h]
 | (k,x) :: r=>by
  have ih:=cD' f g v r;rw [show putF f v ((k,x) :: r)=(if k=f then (k,v) :: r else (k,x) :: putF f v r) from rfl]
  by_cases hk:k=f
  ·rw [if_pos hk]
   by_cases h:g=k
   ·have hb:(g == k)=true:=beq_iff_eq.mpr h;simp only [List.lookup,hb,if_pos (h.trans hk)]
   ·have hb:(g == k)=false:=beq_eq_false_iff_ne.mpr h;simp only [List.lookup,hb,if_neg (fun e:g=f=>h (e.trans hk.symm))]
  ·rw [if_neg hk]
   by_cases h:g=k
   ·have hb:(g == k)=true:=beq_iff_eq.mpr h;simp only [List.lookup,hb,if_neg (fun e:g=f=>hk (h.symm.trans e))]
   ·have hb:(g == k)=false:=beq_eq_false_iff_ne.mpr h;simp only [List.lookup,hb];exact ih
theorem cE' (f:Str) (v:V):∀fs:List (Str×V),f∈(putF f v fs).map (·.1)/\∀g,g∈fs.map (·.1)->g∈(putF f v fs).map (·.1)
 | []=>⟨by simp [putF],fun g h=>by simp at h⟩
 | (k,x) :: r=>by
  obtain ⟨i1,i2⟩:=cE' f v r;rw [show putF f v ((k,x) :: r)=(if k=f then (k,v) :: r else (k,x) :: putF f v r) from rfl]
  by_cases hk:k=f
  ·rw [if_pos hk];subst hk;exact ⟨by simp,fun g h=>by simpa using h⟩
  ·rw [if_neg hk];refine ⟨?_,fun g h=>?_⟩
   ·rw [List.map_cons];exact List.mem_cons_of_mem _ i1
   ·rw [List.map_cons] at h ⊢;rcases List.mem_cons.mp h with e | e
    ·exact List.mem_cons.mpr (.inl e)
    ·exact List.mem_cons_of_mem _ (i2 g e)
theorem cF' (f:Str) (v:V):∀fs:List (Str×V),(putF f v fs).length<=fs.length + 1
 | []=>by simp [putF]
 | (k,x) :: r=>by
  have ih:=cF' f v r;rw [show putF f v ((k,x) :: r)=(if k=f then (k,v) :: r else (k,x) :: putF f v r) from rfl]
  by_cases hk:k=f
  ·rw [if_pos hk,List.length_cons,List.length_cons]; omega
  ·rw [if_neg hk,List.length_cons,List.length_cons]; omega
theorem RelO.some_of {v:V} {o:Option Value} (r:RelO (some v) o):∃u,o=some u/\RelV v u:=by
 cases o with
 | none=>exact (show False from r).elim
 | some u=>exact ⟨u,rfl,r⟩
theorem RelO.none_of {o:Option Value} (r:RelO none o):o=none:=by
 cases o with
 | none=>rfl
 | some u=>exact (show False from r).elim
theorem gu' {v:V} {u:Value} (r:RelV v u):PySem.W.handedIn u=true:=by
 cases v with
 | non=>cases (show u=Value.none from r); rfl
 | bl b=>cases (show u=Value.bool b from r); rfl
 | int i=>obtain ⟨t,e⟩:=(show ∃t,u=Value.int i t from r); cases e; rfl
 | str x=>obtain ⟨t,e⟩:=(show ∃t,u=Value.str x t from r); cases e; rfl
 | byt b=>obtain ⟨t,e⟩:=(show ∃t,u=Value.bytes b t from r); cases e; rfl
 | flt b=>obtain ⟨t,e⟩:=(show ∃t,u=Value.float b t from r); cases e; rfl
 | ref a=>cases (show u=Value.ref a from r); rfl
 | ty n=>cases (show u=Value.type n from r); rfl
section
variable {P:Program} {w:World} {H H':Hp} {h h':Heap} {a C dx:Addr} {fs fs':List (Str×V)}
theorem dw' (hok:HOk P w H h) (e:H a=some (.ins C dx fs)):∃mA,ObjM h a dx C mA/\(∀f,RelO (fs.lookup f) (mA f))/\PySem.Within mA (fs.map (·.1))/\fs.length<=1000/\H dx=some (.own a):=by
 obtain ⟨d,z,ne,ob,mA,n,r,q⟩:=(show ObjOk P w H h a (.ins C dx fs) from hok a _ e)
 exact ⟨mA,⟨ob,n,ne⟩,r,q,z,d⟩
end
structure Cls (K:PySem.W.Frag) (C:Addr):Prop where
 pg:PySem.W.plainGet K C Str.empty=true
 hd:PySem.W.hasDictIn K C=true
 po:PySem.W.plainOver K C=true
 sa:PySem.W.findIn K (.ref C) "__setattr__" = some (some (.builtin "object.__setattr__"))
theorem Cls.get {K:PySem.W.Frag} {C:Addr} (c:Cls K C) (f:Str):PySem.W.plainGet K C f=true:=c.pg
noncomputable def NoAttr (K:PySem.W.Frag) (C:Addr) (f:Str):Prop:=PySem.W.findIn K (.ref C) f=some none
theorem NoAttr.taker {K:PySem.W.Frag} {C:Addr} {f:Str} (n:NoAttr K C f):PySem.W.takerIn K C f=some none:=by
 unfold PySem.W.takerIn;rw [show PySem.W.findIn K (.ref C) f=some none from n]
 rfl
structure Con (K:PySem.W.Frag) (C:Addr) (f:Str) (v:V) (u:Value):Prop where
 at_:PySem.W.findIn K (.ref C) f=some (some u)
 rel:RelV v u
 get:PySem.W.specialIn K u "__get__" = some none
 cp:PySem.W.copiedNames.contains f=false
structure Meth (K:PySem.W.Frag) (C:Addr) (m:Str) (f:Addr):Prop where
 at_:PySem.W.findIn K (.ref C) m=some (some (.ref f))
 fn:PySem.W.isFn K (.ref f)=true
 kp:PySem.W.keepIn K (.ref f)=true
section
variable {X:Cx} {pins:List (Addr×Obj)} {σ:St} {H:Hp} {s:Shared} {a C dx:Addr} {fs:List (Str×V)} {f:Str} {v:V} {A:Around} {E:Value->Shared->Prop}
theorem fM' {b:Bool} {Q:Value->Shared->Prop} (I:Inv X pins σ H s) (e:H a=some (.ins C dx fs)) (c:Cls X.K C) (n:NoAttr X.K C f) (l:fs.lookup f=some v)
  (h:∀u s',Inv X pins σ H s'->RelV v u->Q u s'):wpAny (model X.prog X.w) A (getAttr (.ref a) f b) Q E s:=by
 obtain ⟨mA,O,r,_,_,_⟩:=dw' I.hok e;obtain ⟨u,hu,ru⟩:=RelO.some_of (v:=v) (o:=mA f) (by rw [<- l]; exact r f);exact jN' I.kIn O (c.get f) c.hd n hu (gu' ru) (h u _ (I.tok _) ru)
theorem di' {m:Str} {g:Addr} {pl:Sem Bool} {Q:Value×List Value->Shared->Prop} (I:Inv X pins σ H s) (e:H a=some (.ins C dx fs)) (c:Cls X.K C) (k:Meth X.K C m g) (l:fs.lookup m=none)
  (h:Q (.ref g,[.ref a]) s):wpAny (model X.prog X.w) A (getMethod (.ref a) m pl) Q E s:=by
 obtain ⟨mA,O,r,_,_,_⟩:=dw' I.hok e;have hn:mA m=none:=RelO.none_of (by rw [<- l]; exact r m);exact ii' I.kIn O (c.get m) k.at_ k.fn hn h
theorem fN' {y:V} {u:Value} {Q:Unit->Shared->Prop} (I:Inv X pins σ H s) (e:H a=some (.ins C dx fs)) (c:Cls X.K C) (n:NoAttr X.K C f) (hl:fs.length < 1000) (ry:RelV y u)
  (h:∀s',Inv X pins σ (upd H a (.ins C dx (putF f y fs))) s'->Q () s'):wpAny (model X.prog X.w) A (setAttr (.ref a) f u) Q E s:=by
 obtain ⟨mA,O,r,wi,_,ho⟩:=dw' I.hok e;have hz:(fs.map (·.1)).length<=sizeLine:=by rw [List.length_map,sizeLine_eq]; omega
 refine jO' I.kIn O c.sa c.po n.taker c.hd wi hz fun h' O' sb=>h _ ?_;have hd:∃o,h'.get? dx=some o:=let ⟨o,_,_,e',_⟩:=O'.ns; ⟨o,e'⟩;refine I.write (x:=a) (e:=dx) (by rw [e]; exact True.intro) (.inr ho) (fun b q hb z=>(sb.2 b hb).trans z) hd ?_;refine ⟨by rw [ai' O.ne]; exact ho,?_,O.ne,O'.obj,_,O'.ns,fun g=>?_,fun g hg=>?_⟩
 ·have:=cF' f y fs; omega
 ·show RelO ((putF f y fs).lookup g) (if g=f then some u else mA g)
  rw [cD']
  by_cases q:g=f
  ·rw [if_pos q,if_pos q]; exact ry
  ·rw [if_neg q,if_neg q]; exact r g
 ·by_cases q:g=f
  ·rw [q]; exact (cE' f y fs).1
  ·refine (cE' f y fs).2 g (wi g fun z=>hg ?_);show (if g=f then some u else mA g)=none
   rw [if_neg q]; exact z
theorem Inv.made (I:Inv X pins σ H s):Inv X pins σ (upd (upd H s.heap.objs.size (.own (s.heap.objs.size + 1))) (s.heap.objs.size + 1) (.ins C s.heap.objs.size []))
    { s with heap:=(s.heap.push PySem.W.emptyDict).push (PySem.W.instObj C s.heap.objs.size) }:=by
  have e1:(s.heap.push PySem.W.emptyDict).get? s.heap.objs.size=some PySem.W.emptyDict:=Heap.get?_push_size s.heap rfl;have e2:((s.heap.push PySem.W.emptyDict).push (PySem.W.instObj C s.heap.objs.size)).get? (s.heap.objs.size + 1)=some (PySem.W.instObj C s.heap.objs.size):=by
    have:=Heap.get?_push_size (s.heap.push PySem.W.emptyDict) (o:=PySem.W.instObj C s.heap.objs.size) rfl
    rwa [Heap.size_push] at this
  have e3:(s.heap.push PySem.W.emptyDict).Ns s.heap.objs.size (fun _=>none):=⟨PySem.W.emptyDict,#[],_,e1,rfl,(fun e he=>absurd he (by simp)),fun _=>rfl⟩;have I1:=I.laid (a:=s.heap.objs.size) (o:=.own (s.heap.objs.size + 1)) (h':=s.heap.push PySem.W.emptyDict) (t':=s.toks) (fun b u q=>Heap.get?_push_of_some _ q) (Nat.le_refl _) ⟨_,e1⟩;refine I1.laid (a:=s.heap.objs.size + 1) (o:=.ins C s.heap.objs.size []) (t':=s.toks) (fun b u q=>Heap.get?_push_of_some _ q) (Nat.le_of_eq (Heap.size_push _ _)) ?_;have ne:s.heap.objs.size≠s.heap.objs.size + 1:=Nat.ne_of_lt (Nat.lt_succ_self _);refine ⟨by rw [ai' ne,aj'],Nat.zero_le _,ne,e2,fun _=>none,(Heap.Ns1.of_empty e3).at fun o q=>Heap.get?_push_of_some _ q,fun _=>True.intro,fun y hy=>absurd rfl hy⟩
theorem jP' {prog:Program} {w:World} {env:Env} {e:Expr} {f:Str} {pos:Pos} {s:Shared} {Q:Value->Shared->Prop} (hb:attributeBase e f env (eval e env)=eval e env)
  (h:wpAny (model prog w) A (eval e env) (fun o s₁=>wpAny (model prog w) A (getAttr o f true) Q E s₁) E s):wpAny (model prog w) A (eval (.Attribute e f pos) env) Q E s :=
 Attribute_any_ h (by rw [arm_eval_Attribute,hb])
end
noncomputable def sFld (K:PySem.W.Frag) (ta tv:TE) (f:Str):TS:=fun D σ H=>tv σ H fun y H1=>ta σ H1 fun x H2=>∃a C dx fs,x=.ref a/\H2 a=some (.ins C dx fs)/\Cls K C/\NoAttr K C f/\fs.length < 1000 /\
 D.nx σ (upd H2 a (.ins C dx (putF f y fs)))
section
variable {X:Cx} {o e value:Expr} {f:Str} {pos pos' tpos:Pos} {ta tv:TE}
theorem cG' (ha:PE X o ta) (hv:PE X value tv) (hs:swapsWith value (some (.Attribute o f pos')) pos.line X.env=pure false):PS X (.Assign [.Attribute o f pos'] value pos) (sFld X.K ta tv f):=by
 intro pins s σ H D I h;refine plainObj_wpAny_Assign_Attribute (thn (hv pins s σ H _ I h) fun u s1 ⟨y,H1,I1,ry,q⟩=>thn (ha pins s1 σ H1 _ I1 q) fun ov s2 ⟨x,H2,I2,rx,a,C,dx,fs,ex,ea,c,n,l,q2⟩=>?_) hs;subst ex;obtain rfl:ov=Value.ref a:=rx;exact fN' I2 ea c n l ry fun s3 I3=>⟨σ,_,I3,q2⟩
end
section
variable {X:Cx} {pins:List (Addr×Obj)} {σ:St} {H:Hp} {s:Shared} {A:Around} {E:Value->Shared->Prop} {Q:Value->Shared->Prop} {c:Value} {b:Bool}
inductive TyOf (K:PySem.W.Frag) (H:Hp):V->Value->Prop where
 | non:TyOf K H .non (.type "NoneType")
 | bl (x:Bool):TyOf K H (.bl x) (.type "bool")
 | int (i:Int):TyOf K H (.int i) (.type "int")
 | str (x:Str):TyOf K H (.str x) (.type "str")
 | flt (x:UInt64):TyOf K H (.flt x) (.type "float")
 | lst {a:Addr} {xs:List V} (e:H a=some (.lst xs)):TyOf K H (.ref a) (.type "list")
 | frz {a:Addr} {o:Obj} {xs:List V} (e:H a=some (.frz o (.lst xs))):TyOf K H (.ref a) (.type "list")
 | tup {a:Addr} {xs:List V} (e:H a=some (.tup xs)):TyOf K H (.ref a) (.type "tuple")
 | dK {a:Addr} {kvs:List (Key×V)} (e:H a=some (.dK kvs)):TyOf K H (.ref a) (.type "dict")
 | dT {a:Addr} {kvs:List (List Key×V)} (e:H a=some (.dT kvs)):TyOf K H (.ref a) (.type "dict")
 | ins {a C dx:Addr} {fs:List (Str×V)} (e:H a=some (.ins C dx fs)) (cl:Cls K C) (ha:PySem.W.findIn K (.ref C) "__class__" = some (some (.builtin "object.__class__")))
   (hn:PySem.W.specialIn K (.builtin "object.__class__") "__get__" = some (some (.builtin "getset_descriptor.__get__"))) (htk:PySem.W.takesIn K (.builtin "object.__class__")=some true)
   (hm:PySem.W.mroIn K C (.type "object")=some true):TyOf K H (.ref a) (.ref C)
theorem bq' {x:V} {u t:Value} (I:Inv X pins σ H s) (rx:RelV x u) (ty:TyOf X.K H x t) (e:PySem.W.kitOne X.K t c=some b) (h:∀tk,Q (.bool b) { s with toks:=tk }) :
  wpAny (model X.prog X.w) A (call (.builtin "isinstance") [u,c]) Q E s:=by
 cases ty with
 | non=>cases (show u=Value.none from rx); exact PySem.W.kia_one PySem.W.kitx_none I.kIn True.intro e (fun z=>nomatch z) h
 | bl y=>cases (show u=Value.bool y from rx); exact PySem.W.kia_one PySem.W.kitx_bool I.kIn True.intro e (fun z=>nomatch z) h
 | int i=>obtain ⟨t,q⟩:=(show ∃t,u=Value.int i t from rx); cases q; exact PySem.W.kia_one PySem.W.kitx_int I.kIn True.intro e (fun z=>nomatch z) h
 | str y=>obtain ⟨t,q⟩:=(show ∃t,u=Value.str y t from rx); cases q; exact PySem.W.kia_one PySem.W.kitx_str I.kIn True.intro e (fun z=>nomatch z) h
 | flt y=>obtain ⟨t,q⟩:=(show ∃t,u=Value.float y t from rx); cases q; exact PySem.W.kia_one PySem.W.kitx_float I.kIn True.intro e (fun z=>nomatch z) h
 | @lst a xs ea =>
  cases (show u=Value.ref a from rx)
  obtain ⟨_,_,n,_,h1⟩:=(show ObjOk X.prog X.w H s.heap a (.lst xs) from I.hok a _ ea)
  exact PySem.W.kia_one PySem.W.kitx_list I.kIn ⟨_,h1,rfl⟩ e (fun z=>nomatch z) h
 | @frz a ob xs ea =>
  cases (show u=Value.ref a from rx)
  obtain ⟨_,_,_,n,_,h1⟩:=(show ObjOk X.prog X.w H s.heap a (.frz ob (.lst xs)) from I.hok a _ ea)
  exact PySem.W.kia_one PySem.W.kitx_list I.kIn ⟨_,h1,rfl⟩ e (fun z=>nomatch z) h
 | @tup a xs ea =>
  cases (show u=Value.ref a from rx)
  obtain ⟨_,_,_,p⟩:=(show ObjOk X.prog X.w H s.heap a (.tup xs) from I.hok a _ ea)
  obtain ⟨o,h1,h2,_⟩:=p;exact PySem.W.kia_one PySem.W.kitx_tuple I.kIn ⟨o,h1,h2⟩ e (fun z=>nomatch z) h
 | @dK a kvs ea =>
  cases (show u=Value.ref a from rx)
  obtain ⟨_,_,vs,_,p⟩:=(show ObjOk X.prog X.w H s.heap a (.dK kvs) from I.hok a _ ea)
  obtain ⟨o,es,ep,h1,h2,_⟩:=p;exact PySem.W.kia_one PySem.W.kitx_dict I.kIn ⟨o,h1,h2.1⟩ e (fun z=>nomatch z) h
 | @dT a kvs ea =>
  cases (show u=Value.ref a from rx)
  obtain ⟨_,_,xs,_,o,es,ep,h1,h2,_⟩:=(show ObjOk X.prog X.w H s.heap a (.dT kvs) from I.hok a _ ea)
  exact PySem.W.kia_one PySem.W.kitx_dict I.kIn ⟨o,h1,h2.1⟩ e (fun z=>nomatch z) h
 | @ins a C dx fs ea cl ha hn htk hm =>
  cases (show u=Value.ref a from rx)
  obtain ⟨mA,O,_⟩:=dw' I.hok ea;obtain ⟨od,J,_⟩:=O.look;exact PySem.W.kia_one (PySem.W.kitx_own (cl.get _) cl.hd ha hn htk hm) I.kIn J e (fun z=>nomatch z) h
end
structure Room (k:Nat) (A:Around):Prop where
 hd:A.handled=none
 dp:A.depth + 3 * k + 5 < recursionLimit
 un:A.units + 16 * k + 200 < cLine
theorem Room.mono {j k:Nat} {A:Around} (r:Room k A) (h:j<=k):Room j A:=⟨r.hd,by have:=r.dp; omega,by have:=r.un; omega⟩
theorem Room.deeper {k:Nat} {A:Around} (r:Room (k + 1) A) (env:Env):Room k (A.deeper env) :=
 ⟨r.hd,by have:=r.dp; show A.depth + 1 + 3 * k + 5 < _; omega,by have:=r.un; show A.units + 3 + 16 * k + 200 < _; omega⟩
theorem Room.in1 {k:Nat} {A:Around} (r:Room (k + 1) A):Room k A.in1 :=
 ⟨r.hd,by have:=r.dp; show A.depth + 3 * k + 5 < _; omega,by have:=r.un; show A.units + 1 + 16 * k + 200 < _; omega⟩
theorem fO' {A:Around} {C:Addr} {us:List Value} {kw:List (Str×Value)}:(A.under (.builtin "type.__call__" ⟨.ref C :: us,kw⟩)).depth=A.depth + 1:=by
 first | rfl | simp [Around.under,Code.weight,Code.isCreation,Code.isGuard,Code.isCaller,Code.frames,Code.isFrame,guardIds]
theorem fP' {A:Around} {C:Addr} {us:List Value} {kw:List (Str×Value)}:(A.under (.builtin "type.__call__" ⟨.ref C :: us,kw⟩)).units=A.units + 1:=by
 first | rfl | simp [Around.under,Code.cUnits,Code.frames,Code.isFrame]
theorem Room.make {k:Nat} {A:Around} (r:Room (k + 1) A) (C:Addr) (us:List Value) (kw:List (Str×Value)):Room k (A.under (.builtin "type.__call__" ⟨.ref C :: us,kw⟩)) :=
 ⟨r.hd,by have:=r.dp; rw [fO']; omega,by have:=r.un; rw [fP']; omega⟩
theorem Room.depth {k:Nat} {A:Around} (r:Room k A):A.depth < recursionLimit:=by have:=r.dp; omega
theorem Room.units {k:Nat} {A:Around} (r:Room k A):A.units + 64 < cLine:=by have:=r.un; omega
noncomputable def tCons (ta:TE) (tr:TA):TA:=fun σ H Q=>ta σ H fun x H1=>tr σ H1 fun xs H2=>Q (x :: xs) H2
section
variable {X:Cx} {e:Expr} {es:List Expr} {te:TE} {t:TA} {pos:Pos}
theorem cg' (ha:PE X e te) (hr:PA X es t) (hs:starEach (e :: es) X.env=(false,eval e X.env) :: starEach es X.env:=by rfl):PA X (e :: es) (tCons te t):=by
 intro pos pins s σ H Q I h;rw [hs];show wpAny _ _ (spliced ((false,eval e X.env) :: backTo pos (starEach es X.env))) _ _ s;refine Calls.spliced_cons (thn (ha pins s σ H _ I h) fun u s1 ⟨x,H1,I1,r1,q1⟩=>?_);exact thn (hr pos pins s1 σ H1 _ I1 q1) fun us s2 ⟨xs,H2,I2,r2,q2⟩=>⟨x :: xs,H2,I2,.cons r1 r2,q2⟩
end
abbrev Sp:=List V->Hp->VK->XK->Prop
abbrev CXT:=List Env->Hp->Shared->XK->Value->Shared->Prop
structure Env0 (P:Program) (w:World) (K:PySem.W.Frag) (mg:Str->Option Value) (base:Heap) (A:Around) (outer:List Env) (s:Shared) (H:Hp):Prop where
 frames:A.frames=some outer
 mod:Mod K mg base
 bs:∀b o,base.get? b=some o->s.heap.get? b=some o/\H b=none
 bsz:base.objs.size<=s.heap.objs.size
 funs:s.heap.FunFrames base outer
 frf:∀b∈frs outer,H b=none
 hok:HOk P w H s.heap
 bare:AllBare s.gens
noncomputable def CE (outer:List Env) (P:Program) (w:World) (H:Hp) (s:Shared) (Q:VK) (u:Value) (s':Shared):Prop :=
 ∃v H',s'.os=s.os/\AllBare s'.gens/\Un (frs outer) [] H H' s.heap s'.heap/\HOk P w H' s'.heap/\RelV v u/\Q v H'
noncomputable def CR (CX:CXT) (outer:List Env) (P:Program) (w:World) (H:Hp) (s:Shared) (Q:VK) (E:XK) (r:Result) (s':Shared):Prop :=
 match r with
 | .ok (.ret u)=>CE outer P w H s Q u s'
 | .ok _=>False
 | .error e=>CX outer H s E e s'
structure FnOk (P:Program) (w:World) (K:PySem.W.Frag) (mg:Str->Option Value) (base:Heap) (CX:CXT) (k:Nat) (f:Addr) (fd:FuncData) (ps:List Str) (sp:Sp):Prop where
 len:∀vs H Q E,sp vs H Q E->vs.length=ps.length
 run:∀(A:Around) (outer:List Env) (s:Shared) (H:Hp) (args:Args) (us:List Value) (vs:List V) (Q:VK) (E:XK),Room k A->Env0 P w K mg base A outer s H->BindsTo s fd args (ps.zip us)->Vals vs us->sp vs H Q E ->
  codeAny (model P w) A (.call (.ref f) args) (CR CX outer P w H s Q E) s
theorem FnOk.mono {P:Program} {w:World} {K:PySem.W.Frag} {mg:Str->Option Value} {base:Heap} {CX:CXT} {j k:Nat} {f:Addr} {fd:FuncData} {ps:List Str} {sp:Sp} (F:FnOk P w K mg base CX j f fd ps sp) (h:j<=k) :
  FnOk P w K mg base CX k f fd ps sp:=⟨F.len,fun A outer s H args us vs Q E hr=>F.run A outer s H args us vs Q E (hr.mono h)⟩
theorem Env0.make {P:Program} {w:World} {K:PySem.W.Frag} {mg:Str->Option Value} {base:Heap} {A:Around} {outer:List Env} {s:Shared} {H:Hp} (e:Env0 P w K mg base A outer s H) (C:Addr) (us:List Value) (kw:List (Str×Value)) :
  Env0 P w K mg base (A.under (.builtin "type.__call__" ⟨.ref C :: us,kw⟩)) outer s H:=⟨by first | exact e.frames | (simpa [Around.under,Code.envs,Code.isFrame,pushEnvs] using e.frames),e.mod,e.bs,e.bsz,e.funs,e.frf,e.hok,e.bare⟩
theorem Env0.in1 {P:Program} {w:World} {K:PySem.W.Frag} {mg:Str->Option Value} {base:Heap} {A:Around} {outer:List Env} {s:Shared} {H:Hp} (e:Env0 P w K mg base A outer s H) :
  Env0 P w K mg base A.in1 outer s H:=⟨e.frames,e.mod,e.bs,e.bsz,e.funs,e.frf,e.hok,e.bare⟩
section
variable {X:Cx} {pins:List (Addr×Obj)} {σ:St} {H:Hp} {s s':Shared}
theorem Inv.env0 (I:Inv X pins σ H s):Env0 X.prog X.w X.K X.mg X.base X.A X.stack s H :=
 ⟨I.ok.frames,I.ok.mod,I.bs,Nat.le_trans I.ok.bsz I.sz,I.stack,I.stkFree,I.hok,I.bare⟩
theorem Inv.after {Q:VK} {u:Value} (I:Inv X pins σ H s) (h:CE X.stack X.prog X.w H s Q u s'):EP X pins σ Q u s':=by
 obtain ⟨v,H',os,bare,un,hok,r,q⟩:=h;obtain ⟨hh,g,d,t,os'⟩:=s';obtain rfl:os'=s.os:=os;exact ⟨v,H',I.call (h':=hh) (g':=g) (d':=d) (t':=t) (ch:=[]) un hok bare (fun b z=>absurd z (by simp)),r,q⟩
end
noncomputable def Binds (K:PySem.W.Frag) (fd:FuncData) (ps:List Str) (ds:List Value):Prop :=
 ∀(s:Shared) (us:List Value),K.In s.heap->(us ++ ds).length=ps.length->BindsTo s fd ⟨us,[]⟩ (ps.zip (us ++ ds))
theorem Binds.all {K:PySem.W.Frag} {fd:FuncData} {ps:List Str} (h:∀us:List Value,us.length=ps.length->bindArgs fd ⟨us,[]⟩=pure (ps.zip us)):Binds K fd ps []:=fun s us _ hl=>by
 rw [List.append_nil] at hl ⊢;exact .of_eq (h us hl)
noncomputable def Passes (CX:CXT) (X:Cx) (E:XK):Prop:=∀(pins:List (Addr×Obj)) (σ:St) (H:Hp) (s:Shared) (e:Value) (s':Shared),Inv X pins σ H s->CX X.stack H s E e s'->X.xe e s'
section
variable {X:Cx} {CX:CXT} {k:Nat} {f C:Addr} {fd:FuncData} {ps:List Str} {sp:Sp} {dvs:List V} {ds:List Value} {E:XK} {x m:Str} {p pos apos:Pos} {e o:Expr} {es:List Expr} {ta:TE} {t:TA}
theorem lp' {pins:List (Addr×Obj)} {σ:St} {H:Hp} {s:Shared} {Q:VK} {us:List Value} {vs:List V} (F:FnOk X.prog X.w X.K X.mg X.base CX k f fd ps sp) (hr:Room k X.A) (hb:Binds X.K fd ps ds) (hd:Vals dvs ds) (hx:Passes CX X E)
  (I:Inv X pins σ H s) (r:Vals vs us) (h:sp (vs ++ dvs) H Q E):wpAny (model X.prog X.w) X.A (call (.ref f) us) (EP X pins σ Q) X.xe s:=by
 have r2:Vals (vs ++ dvs) (us ++ ds):=r.append hd;have hl:(us ++ ds).length=ps.length:=by rw [<- r2.length]; exact F.len _ _ _ _ h
 refine wpAny_call (codeAny_mono (F.run X.A X.stack s H ⟨us,[]⟩ (us ++ ds) (vs ++ dvs) Q E hr I.env0 (hb s us I.kIn hl) r2 h) fun r s' hq=>?_)
 cases r with
 | error e=>exact hx pins σ H s e s' I hq
 | ok fl =>
  cases fl with
  | ret u=>exact I.after hq
  | next=>exact False.elim hq
  | brk=>exact False.elim hq
  | cont=>exact False.elim hq
structure Mk (K:PySem.W.Frag) (C f:Addr):Prop where
 makes:PySem.W.makesIn K C=true
 init:PySem.W.findIn K (.ref C) "__init__" = some (some (.ref f))
 fn:PySem.W.isFn K (.ref f)=true
 kp:PySem.W.keepIn K (.ref C)=true
theorem ik' {pins:List (Addr×Obj)} {σ:St} {H:Hp} {s:Shared} {Q:VK} {us:List Value} {vs:List V} (M:Mk X.K C f) (F:FnOk X.prog X.w X.K X.mg X.base CX k f fd ps sp) (hr:Room (k + 1) X.A) (hb:Binds X.K fd ps ds) (hd:Vals dvs ds)
  (hx:Passes CX X E) (I:Inv X pins σ H s) (r:Vals vs us)
  (h:∀x dx,H x=none->H dx=none->dx≠x->sp (.ref x :: (vs ++ dvs)) (upd (upd H dx (.own x)) x (.ins C dx [])) (fun v H2=>v=.non/\Q (.ref x) H2) E) :
  wpAny (model X.prog X.w) X.A (call (.ref C) us) (EP X pins σ Q) X.xe s:=by
 have hq:=h (s.heap.objs.size + 1) s.heap.objs.size (I.hok.fresh (Nat.le_succ _)) (I.hok.fresh (Nat.le_refl _)) (Nat.ne_of_lt (Nat.lt_succ_self _));have I2:=Inv.made (C:=C) I;have r2:Vals (V.ref (s.heap.objs.size + 1) :: (vs ++ dvs)) (Value.ref (s.heap.objs.size + 1) :: (us ++ ds)):=.cons rfl (r.append hd);have hl:(Value.ref (s.heap.objs.size + 1) :: us ++ ds).length=ps.length:=by
  have e:=r2.length;rw [F.len _ _ _ _ hq] at e;exact e.symm
 refine wpAny_call (ij' (f:=f) I.kIn M.makes M.init (beq_iff_eq.mp M.fn) (codeAny_mono (F.run _ X.stack _ _ ⟨Value.ref (s.heap.objs.size + 1) :: us,[]⟩ (Value.ref (s.heap.objs.size + 1) :: (us ++ ds)) _ _ E (hr.make C us [])
  (I2.env0.make C us []) (hb _ (Value.ref (s.heap.objs.size + 1) :: us) I2.kIn hl) r2 hq) fun r s' hq'=>?_))
 cases r with
 | error e=>exact hx pins σ _ _ e s' I2 hq'
 | ok fl =>
  cases fl with
  | ret u =>
   obtain ⟨v,H',I3,rv,ev,q3⟩:=I2.after hq';subst ev;exact ⟨rv,⟨V.ref (s.heap.objs.size + 1),H',I3,rfl,q3⟩⟩
  | next=>exact False.elim hq'
  | brk=>exact False.elim hq'
  | cont=>exact False.elim hq'
end
section
variable {X:Cx} {CX:CXT} {k:Nat} {f C:Addr} {fd:FuncData} {ps ks:List Str} {sp:Sp} {E:XK} {x m:Str} {p pos apos kpos:Pos} {e o:Expr} {es:List Expr} {kws:List Keyword} {te ta:TE} {t tk:TA} {nm:Option Str}
structure KBinds (K:PySem.W.Frag) (fd:FuncData) (ps ks:List Str) (g:List Value->List Value->List Value) (gV:List V->List V->List V):Prop where
 to:∀(s:Shared) (us ws:List Value),K.In s.heap->(g us ws).length=ps.length->BindsTo s fd ⟨us,ks.zip ws⟩ (ps.zip (g us ws))
 rel:∀{vs:List V} {us:List Value} {zs:List V} {ws:List Value},Vals vs us->Vals zs ws->Vals (gV vs zs) (g us ws)
variable {g:List Value->List Value->List Value} {gV:List V->List V->List V}
end
structure FnScope (N P:List Str) (sc:Scope):Prop where
 kind:sc.kind=.function
 co:sc.isCoroutine=false
 gen:sc.isGenerator=false
 nd:N.Nodup
 pre:N.take P.length=P
 par:∀x∈P,sc.names.lookup x=some .local\/sc.names.lookup x=some .cell
 nofree:∀y∈sc.names,y.2≠.free
theorem dY' {kindOf:Str->Option NameKind} {x:Str}:∀{binds:List (Str×Value)} {m:Str->Option Value},(∀v,(x,v)∉binds)->bindL kindOf binds m x=m x
 | [],_,_=>rfl
 | (n,v) :: r,m,h=>by
  unfold bindL;rw [dY' fun w hw=>h w (List.mem_cons_of_mem _ hw)]
  split
  ·have:x≠n:=by rintro rfl; exact h v List.mem_cons_self
   simp [this]
  ·rfl
theorem dZ' {kindOf:Str->Option NameKind} {x:Str}:∀{binds:List (Str×Value)} {m:Str->Option Value},(∀v,(x,v)∉binds)->bindC kindOf binds m x=m x
 | [],_,_=>rfl
 | (n,v) :: r,m,h=>by
  unfold bindC;rw [dZ' fun w hw=>h w (List.mem_cons_of_mem _ hw)]
  split
  ·rfl
  ·have:x≠n:=by rintro rfl; exact h v List.mem_cons_self
   simp [this]
theorem ea' {kindOf:Str->Option NameKind} {x:Str} {v:Value}:∀{P:List Str} {vs:List Value} {i:Nat} {m:Str->Option Value},P.Nodup->P[i]? = some x->vs[i]? = some v->kindOf x=some .local ->
  bindL kindOf (P.zip vs) m x=some v
 | [],_,_,_,_,h,_,_=>by simp at h
 | _ :: _,[],_,_,_,_,h,_=>by simp at h
 | p :: P,w :: vs,0,m,nd,h1,h2,hk=>by
  simp at h1 h2; subst h1; subst h2;show bindL kindOf ((p,w) :: P.zip vs) m p=_;unfold bindL;rw [dY' fun v hv=>(List.nodup_cons.mp nd).1 (List.of_mem_zip hv).1,if_pos hk];simp
 | p :: P,w :: vs,i + 1,m,nd,h1,h2,hk=>by
  show bindL kindOf ((p,w) :: P.zip vs) m x=_;unfold bindL;exact ea' (i:=i) (List.nodup_cons.mp nd).2 (by simpa using h1) (by simpa using h2) hk
theorem eb' {kindOf:Str->Option NameKind} {x:Str} {v:Value}:∀{P:List Str} {vs:List Value} {i:Nat} {m:Str->Option Value},P.Nodup->P[i]? = some x->vs[i]? = some v->kindOf x≠some .local ->
  bindC kindOf (P.zip vs) m x=some v
 | [],_,_,_,_,h,_,_=>by simp at h
 | _ :: _,[],_,_,_,_,h,_=>by simp at h
 | p :: P,w :: vs,0,m,nd,h1,h2,hk=>by
  simp at h1 h2; subst h1; subst h2;show bindC kindOf ((p,w) :: P.zip vs) m p=_;unfold bindC;rw [dZ' fun v hv=>(List.nodup_cons.mp nd).1 (List.of_mem_zip hv).1,if_neg hk];simp
 | p :: P,w :: vs,i + 1,m,nd,h1,h2,hk=>by
  show bindC kindOf ((p,w) :: P.zip vs) m x=_;unfold bindC;exact eb' (i:=i) (List.nodup_cons.mp nd).2 (by simpa using h1) (by simpa using h2) hk
noncomputable def start (N:List Str) (vs:List V):St:=vs.map some ++ List.replicate (N.length - vs.length) none
noncomputable def cxOf (CX:CXT) (P:Program) (w:World) (K:PySem.W.Frag) (mg:Str->Option Value) (base:Heap) (N:List Str) (qual:Str) (scope:Scope) (f:Addr) (cd:Value) (A:Around) (outer:List Env) (s:Shared) (H:Hp) (E:XK):Cx where
 prog:=P
 w:=w
 K:=K
 mg:=mg
 base:=base
 A:=A.deeper (envOfC qual scope s.heap.objs.size f cd)
 N:=N
 s₀:=s
 H₀:=H
 env:=envOfC qual scope s.heap.objs.size f cd
 outer:=outer
 stack:=envOfC qual scope s.heap.objs.size f cd :: outer
 ex:=[]
 calm:=true
 fn:=fun _=>true
 pn:=[]
 xe:=fun e s'=>wpAny (model P w) (A.deeper (envOfC qual scope s.heap.objs.size f cd)) (leaving (envOfC qual scope s.heap.objs.size f cd) e) (fun _ s''=>CX outer H s E e s'') (fun e' s''=>CX outer H s E e' s'') s'
theorem dx' {sc:Scope} {n:Nat} {x:Str} (h:sc.names.lookup x=some .cell):∃c,(cellsFrom n sc.names []).lookup x=some c:=by
 have q:=PySem.W.cellsFrom_some sc.names n [] (.inl h);exact Option.isSome_iff_exists.mp q
theorem ec' {CX:CXT} {P:Program} {w:World} {K:PySem.W.Frag} {mg:Str->Option Value} {base:Heap} {N ps:List Str} {qual:Str} {scope:Scope} {f:Addr} {cd:Value} {A:Around} {outer:List Env} {s s1:Shared} {H:Hp} {E:XK} {us:List Value} {vs:List V}
  (S:FnScope N ps scope) (hd:A.handled=none) (e0:Env0 P w K mg base A outer s H) (hl:vs.length=ps.length) (r:Vals vs us)
  (x:InCallC s s.heap.objs.size (bindL (envOfC qual scope s.heap.objs.size f cd).kindOf (ps.zip us) fun _=>none) (cellsFrom (s.heap.objs.size + 1) scope.names []) (bindC (envOfC qual scope s.heap.objs.size f cd).kindOf (ps.zip us) fun _=>none) s1) :
  Inv (cxOf CX P w K mg base N qual scope f cd A outer s H E) [] (start N vs) H s1:=by
 have hpl:ps.length<=N.length:=by have:=congrArg List.length S.pre; rw [List.length_take] at this; omega
 obtain ⟨h1,tk,rfl,hk⟩:=x.done
 have noA:∀b:Addr,b∉(cxOf CX P w K mg base N qual scope f cd A outer s H E).ex:=fun b z=>absurd (show b∈([]:List Addr) from z) (by simp)
 refine ⟨⟨e0.mod,S.kind,rfl,rfl,Nat.le_refl _,fun y z c h1 h2=>?_,fun y hy=>?_,fun y c _ h=>?_,fun _=>hd,Around.frames_deeper e0.frames,.inr ⟨rfl,rfl⟩,fun b z=>absurd z (noA b),e0.bs,e0.bsz,fun b _ _=>noA b,fun b z=>absurd z (noA b),e0.funs,e0.frf⟩,
  rfl,e0.bare,Un.kept hk,⟨_,x.toInCall.ns,fun i y v h1 h2 h3=>?_⟩,fun y c h=>⟨_,x.cell y c h⟩,e0.hok.fresh (Nat.le_refl _),fun y c h=>?_,fun p hp=>absurd (show p∈([]:List (Addr×Obj)) from hp) (by simp),e0.hok.kept hk,?_⟩
 ·exact name_of_addr x.apart (PySem.mem_of_lookup h1) (PySem.mem_of_lookup h2)
 ·have hy:scope.names.lookup y=some .cell\/scope.names.lookup y=some .free:=hy;rcases hy with hy | hy
  ·exact dx' hy
  ·exact absurd rfl (S.nofree _ (PySem.mem_of_lookup hy))
 ·exact Nat.le_of_lt (x.above y c (PySem.mem_of_lookup h))
 ·have hi:i < vs.length:=by
   unfold start at h2
   by_cases hi:i < vs.length
   ·exact hi
   ·rw [List.getElem?_append_right (by simpa using hi)] at h2;rw [List.getElem?_replicate] at h2
    split at h2 <;> cases h2
  have ha:vs[i]? = some v:=by
   unfold start at h2;rw [List.getElem?_append_left (by simpa using hi),List.getElem?_map] at h2
   cases e:vs[i]? with
   | none=>rw [e] at h2; cases h2
   | some a=>rw [e] at h2; cases h2; rfl
  obtain ⟨u,hu,rv⟩:=r.get ha;have hp:ps[i]? = some y:=by
   rw [<- S.pre,List.getElem?_take_of_lt (by omega)]; exact h1
  have ndP:ps.Nodup:=by rw [<- S.pre]; exact S.nd.sublist (List.take_sublist _ _)
  refine ⟨u,rv,?_⟩;rcases S.par y (List.mem_of_getElem? hp) with k | k
  ·exact .inl ⟨k,ea' ndP hp hu k⟩
  ·obtain ⟨c,e⟩:=dx' (n:=s.heap.objs.size + 1) k;refine .inr ⟨.inl k,c,e,?_⟩;have q:=x.cell y c e;rw [eb' ndP hp hu (by show scope.names.lookup y≠_; rw [k]; decide)] at q;exact q
 ·exact e0.hok.fresh (Nat.le_of_lt (x.above y c (PySem.mem_of_lookup h)))
 ·unfold start;show _=N.length;rw [List.length_append,List.length_map,List.length_replicate];omega
theorem gv' {CX:CXT} {P:Program} {w:World} {K:PySem.W.Frag} {mg:Str->Option Value} {base:Heap} {k:Nat} {f:Addr} {name qual:Str} {params:Arguments} {body:List Stmt} {scope:Scope} {dV kV doc pm cdv ct oc:Value} {an od:Option Addr}
  {osl:Array (Option Value)} {N ps:List Str} {sp:Sp} (lk:K.lookup f=some ⟨oc,od,.func (PySem.W.fnOf name qual params body scope dV kV doc pm an cdv ct),osl⟩) (hcd:PySem.W.codeIn K cdv qual=true) (S:FnScope N ps scope)
  (len:∀vs H Q E,sp vs H Q E->vs.length=ps.length)
  (hbody:∀(A:Around) (outer:List Env) (s:Shared) (H:Hp) (vs:List V) (Q:VK) (E:XK),Room k (A.deeper (envOfC qual scope s.heap.objs.size f cdv))->sp vs H Q E ->
   ∃t,PSs (cxOf CX P w K mg base N qual scope f cdv A outer s H E) body t/\t { nx:=fun _ H'=>Q .non H',rt:=Q } (start N vs) H) :
  FnOk P w K mg base CX (k + 1) f (PySem.W.fnOf name qual params body scope dV kV doc pm an cdv ct) ps sp:=by
 refine ⟨len,fun A outer s H args us vs Q E hr e0 hb r hsp=>?_⟩;have hl:=len _ _ _ _ hsp;have KX:K.In s.heap:=e0.mod.kin.keeps fun b o e=>(e0.bs b o e).1;have lim:s.heap.NoLimit:=e0.mod.nolimit.keeps fun b o e=>(e0.bs b o e).1;have hkind:∀y∈ps.zip us,scope.names.lookup y.1=some .local\/(scope.names.lookup y.1=some .cell/\((cellsFrom (s.heap.objs.size + 1) scope.names []).lookup y.1).isSome=true):=fun ⟨n,v⟩ hy=>by
  rcases S.par n (List.of_mem_zip hy).1 with q | q
  ·exact .inl q
  ·exact .inr ⟨q,PySem.W.cellsFrom_some _ _ _ (.inl q)⟩
 refine codeAny_call_function hr.depth (KX _ _ lk) rfl S.co S.gen rfl (PySem.W.codeRec_of KX hcd) (hb _ _ _ _ ?_);refine wpAny_newFunctionEnv_cells S.kind hkind fun env he s1 x=>?_;subst he;refine ⟨lim.keeps x.toInCall.keep,codeAny_func ?_⟩;obtain ⟨t,ht,hq⟩:=hbody A outer s H vs Q E (hr.deeper _) hsp;have I:Inv (cxOf CX P w K mg base N qual scope f cdv A outer s H E) [] (start N vs) H s1:=ec' S hr.hd e0 hl r x;refine wpAny_mono (ht [] s1 (start N vs) H _ I hq) (fun fl s' hs=>?_) fun e s' hs=>hs;have fin:∀{σ':St} {H':Hp} {v:V} {u:Value},Inv (cxOf CX P w K mg base N qual scope f cdv A outer s H E) [] σ' H' s'->RelV v u->Q v H'->CE outer P w H s Q u s' :=
  fun {σ' H' v u} J rv q=>⟨v,H',J.os,J.bare,J.base,J.hok,rv,q⟩
 cases fl with
 | ret u =>
  obtain ⟨v,σ',H',J,rv,q⟩:=hs;exact fin J rv q
 | next =>
  obtain ⟨σ',H',J,q⟩:=hs;exact fin (v:=V.non) (u:=Value.none) J rfl q
 | brk =>
  obtain ⟨_,_,_,q⟩:=hs;exact False.elim q
 | cont =>
  obtain ⟨_,_,_,q⟩:=hs;exact False.elim q
section
variable {X:Cx} {x:Str} {p pos:Pos} {e:Expr} {es:List Expr} {t:TA} {id T:String} {r:List V->Hp->VK->Prop}
end
end L2
namespace HT
open PySem PyProof.Rows
section
open PySem.SeqAt
open PySem.AutoSeq1 (wpAny_loadPart')
open PySem.MeetsSeq PySem.MeetsSeq2 PySem.MeetsSeq3
end
section
variable {prog:Program} {w:World} {A:Around} {E:Value->Shared->Prop} {s:Shared}
theorem cat_tup {t b:Addr} {vs ws:List Value} {Q:Value->Shared->Prop} (ht:IsTup s.heap t vs.toArray) (hb:IsTup s.heap b ws.toArray) (hv:vs≠[])
  (h1:ws=[]->Q (.ref t) s) (h2:ws≠[]->Q (.ref s.heap.objs.size) { s with heap:=s.heap.push { cls:=.type "tuple",data:=.seq (vs ++ ws).toArray } })
  (hsz:vs.length + ws.length<=sizeLine):wpAny (model prog w) A (binaryOp .Add (.ref t) (.ref b)) Q E s:=by
 obtain ⟨⟨cls,dd,data,sl⟩,ho,hc,n,hd⟩:=id ht;obtain ⟨⟨cls2,dd2,data2,sl2⟩,ho2,hc2,n2,hd2⟩:=id hb;simp only at hc hd hc2 hd2;subst hc hd hc2 hd2;have e:vs.toArray ++ ws.toArray=(vs ++ ws).toArray:=by simp
 by_cases hw:ws=[]
 ·exact concat_meets ⟨_,ho,rfl⟩ ⟨_,ho2,rfl⟩ noFill_tuple_add seq_tuple_add PySem.F.slot_tuple_add PySem.F.entry_tuple_add (PySem.F.args_tuple_add_2 _ _)
   (tuple_addW1 t b vs.toArray ws.toArray n n2 dd dd2 sl sl2 (by simpa using hv) (by simp [hw])) ⟨ho,ho2,h1 hw⟩
 ·refine concat_meets ⟨_,ho,rfl⟩ ⟨_,ho2,rfl⟩ noFill_tuple_add seq_tuple_add PySem.F.slot_tuple_add PySem.F.entry_tuple_add (PySem.F.args_tuple_add_2 _ _)
   (tuple_addW2 t b vs.toArray ws.toArray n n2 dd dd2 sl sl2 (by simpa using hv) (by simpa using hw) (by rw [List.size_toArray,List.size_toArray]; exact hsz)) ⟨ho,ho2,?_⟩
  rw [e];exact h2 hw
noncomputable def sIx (n d:Nat):Option Int->Nat
 | none=>d
 | some v=>if v < 0 then (v + (n:Int)).toNat else min v.toNat n
theorem sIx_none (n d:Nat):sIx n d none=d:=rfl
theorem sIx_nat (n d k:Nat):sIx n d (some (k:Int))=min k n:=by
 show (if (k:Int) < 0 then ((k:Int) + (n:Int)).toNat else min (k:Int).toNat n)=min k n
 rw [if_neg (by omega),Int.toNat_natCast]
theorem lq' (n d:Nat) (hd:d<=n) (o:Option Int):sIx n d o<=n:=by
 cases o with
 | none=>exact hd
 | some v =>
  show (if v < 0 then (v + (n:Int)).toNat else min v.toNat n)<=n
  by_cases hv:v < 0
  ·rw [if_pos hv]; omega
  ·rw [if_neg hv]; exact Nat.min_le_right _ _
theorem gw' (v:Int) (n d:Nat):(if v < 0 then max (v + (n:Int)) 0 else min v (n:Int))=((sIx n d (some v):Nat):Int):=by
 show (if v < 0 then max (v + (n:Int)) 0 else min v (n:Int))=(((if v < 0 then (v + (n:Int)).toNat else min v.toNat n):Nat):Int)
 by_cases hv:v < 0
 ·simp only [if_pos hv]; omega
 ·simp only [if_neg hv]; omega
theorem fQ' (lo hi:Option Int) (n:Nat):Builtin.Slice.sliceAdjust lo hi 1 (n:Int)=(((sIx n 0 lo:Nat):Int),((sIx n n hi:Nat):Int)):=by
 have h1:¬((1:Int) < 0):=by omega
 unfold Builtin.Slice.sliceAdjust;simp only [h1,if_false];refine Prod.ext ?_ ?_
 ·cases lo with
  | none=>rfl
  | some v=>exact gw' v n 0
 ·cases hi with
  | none=>rfl
  | some v=>exact gw' v n n
theorem fR' (i j:Nat):Builtin.Slice.slicePlaces (i:Int) (j:Int) 1=j - i:=by
 unfold Builtin.Slice.slicePlaces;have h1:(1:Int) > 0:=by omega
 simp only [h1,if_true,Int.ediv_one]
 split <;> omega
theorem dj' {v:Value} {o:Option Int} {Q:Option Int->Shared->Prop} (p:IsPart v o) (h:Q o s):wpAny (model prog w) A (Builtin.Slice.slicePartIndex v) Q E s:=by
 cases p with
 | none=>exact slicePart_none h
 | int i t=>exact slicePart_int h
theorem bl' {sl:Addr} {vl vu:Value} {lo hi:Option Int} {n:Nat} {Q:Int×Int×Nat->Shared->Prop} (hs:s.heap.IsSliceOf sl vl vu .none) (pl:IsPart vl lo) (pu:IsPart vu hi)
  (h:Q (((sIx n 0 lo:Nat):Int),1,sIx n n hi - sIx n 0 lo) s):wpAny (model prog w) A (Builtin.Slice.sliceApplied (.ref sl) (pure (n:Int))) Q E s:=by
 obtain ⟨os,hos,hcs,hds⟩:=id hs;unfold Builtin.Slice.sliceApplied Builtin.Slice.sliceFields;refine wpAny_bind (wpAny_bind (wpAny_field hos hds (x:=vl) rfl (wpAny_bind (wpAny_field hos hds (x:=vu) rfl (wpAny_bind (wpAny_field hos hds (x:=.none) rfl (wpAny_pure ?_)))))));refine wpAny_bind (slicePart_none ?_);show wpAny _ _ (if ((1:Int) == 0)=true then _ else _) _ _ s
 rw [if_neg (by decide)];refine wpAny_bind (dj' pl (wpAny_bind (dj' pu (wpAny_bind (wpAny_pure ?_)))));show wpAny _ _ (match Builtin.Slice.sliceAdjust lo hi 1 (n:Int) with | (lo,hi)=>pure (lo,(1:Int),Builtin.Slice.slicePlaces lo hi 1)) _ _ s
 rw [fQ' lo hi n];show wpAny _ _ (pure (((sIx n 0 lo:Nat):Int),(1:Int),Builtin.Slice.slicePlaces ((sIx n 0 lo:Nat):Int) ((sIx n n hi:Nat):Int) 1)) _ _ s;rw [fR'];exact wpAny_pure h
theorem il' (xs:Array Value) (i k:Nat):((List.range k).filterMap fun (m:Nat)=>xs[((i:Int) + (m:Int) * 1).toNat]?).toArray=((xs.toList.drop i).take k).toArray:=by
 have e:(fun (m:Nat)=>xs[((i:Int) + (m:Int) * 1).toNat]?)=fun m=>xs[i + m]?:=by
  funext m
  have:((i:Int) + (m:Int) * 1).toNat=i + m:=by omega
  rw [this]
 rw [e];have:=pick_run xs i k;rw [List.filterMap_map] at this;have e2:((fun x=>xs[x]?) ∘ fun x=>i + x)=fun m=>xs[i + m]?:=rfl;rw [e2] at this;rw [this]
theorem getItem_tuple_cut {t sl:Addr} {items:Array Value} {vl vu:Value} {lo hi:Option Int} {Q:Value->Shared->Prop} (ht:IsTup s.heap t items) (hs:s.heap.IsSliceOf sl vl vu .none) (pl:IsPart vl lo) (pu:IsPart vu hi)
  (hw:¬(sIx items.size 0 lo=0/\sIx items.size items.size hi=items.size))
  (h:Q (.ref s.heap.objs.size) { s with heap:=s.heap.push { cls:=.type "tuple",data:=.seq ((items.toList.drop (sIx items.size 0 lo)).take (sIx items.size items.size hi - sIx items.size 0 lo)).toArray } })
  (hsz:items.size<=sizeLine):wpAny (model prog w) A (getItem (.ref t) (.ref sl)) Q E s:=by
 have htake:sizeOk (.seq ((items.toList.drop (sIx items.size 0 lo)).take (sIx items.size items.size hi - sIx items.size 0 lo)).toArray):=by
  show ((items.toList.drop (sIx items.size 0 lo)).take (sIx items.size items.size hi - sIx items.size 0 lo)).toArray.size<=sizeLine;rw [List.size_toArray,List.length_take,List.length_drop,Array.length_toList];omega
 have hj:sIx items.size items.size hi<=items.size:=lq' _ _ (Nat.le_refl _) hi;obtain ⟨os,hos,hcs,hds⟩:=id hs;have hTs:s.TypeIs (.ref sl) "slice":=⟨os,hos,hcs⟩;unfold getItem
 try with_reducible refine wpAny_holding ?_
 first | refine wpAny_bind (wpAny_pure ?_) | skip
 refine wpAny_bind (wpAny_sequenceKey ht.typeIs (by decide) ?_);refine wpAny_bind (wpAny_callSpecial?_slot (name:=Str.ofString "__getitem__") ht.typeIs PyProof.Rows.slot_tuple_getitem
  (wpAny_call_entry PyProof.Rows.slot_tuple_getitem ht.typeIs entry_tuple_getitem ?_ (args_tuple_getitem _ _)))
 show wpAny _ _ (Builtin.Tuple.tupleItemsOf (.ref t) >>= _) _ _ s;refine wpAny_bind (tupleItemsOf_ ht ?_);refine wpAny_bind (wpAny_typeOf hTs ?_);rw [if_pos (by decide)];refine wpAny_bind (bl' hs pl pu ?_);have hno:¬((((sIx items.size 0 lo:Nat):Int) == 0 && (1:Int) == 1 && (sIx items.size items.size hi - sIx items.size 0 lo) == items.size)=true):=by
  intro q;rw [Bool.and_eq_true,Bool.and_eq_true] at q;have q1:((sIx items.size 0 lo:Nat):Int)=0:=eq_of_beq q.1.1;have q2:sIx items.size items.size hi - sIx items.size 0 lo=items.size:=eq_of_beq q.2;exact hw ⟨by omega,by omega⟩
 show wpAny _ _ (if (((sIx items.size 0 lo:Nat):Int) == 0 && (1:Int) == 1 && (sIx items.size items.size hi - sIx items.size 0 lo) == items.size)=true then _ else _) _ _ s
 rw [if_neg hno,il']
 first
  | exact wpAny_bind (m:=Builtin.Tuple.tupleExact _) (wpAny_newObj_type (wpAny_pure ⟨_,rfl,wpAny_pure h⟩) htake)
  | exact wpAny_bind (m:=Builtin.Tuple.tupleExact _) (wpAny_newObj_type (wpAny_bind (wpAny_pure (wpAny_pure ⟨_,rfl,wpAny_pure h⟩))) htake)
  | exact wpAny_bind (wpAny_bind (m:=Builtin.Tuple.tupleExact _) (wpAny_newObj_type (wpAny_pure (wpAny_pure ⟨_,rfl,wpAny_pure h⟩)) htake))
  | exact wpAny_bind (wpAny_bind (m:=Builtin.Tuple.tupleExact _) (wpAny_newObj_type (wpAny_pure ⟨_,rfl,wpAny_pure h⟩) htake))
end
end HT
namespace L2
open PySem PySem.Spec PyProof.Rows
abbrev TO:=St->Hp->(Option Int->Hp->Prop)->Prop
section
variable {X:Cx} {e:Expr} {te:TE} {lo hi:Option Expr} {tl th:TO} {pos p2:Pos}
noncomputable def SlR (X:Cx) (r:V->Option Int->Option Int->Hp->VK->Prop):Prop :=
 ∀(pins:List (Addr×Obj)) (s:Shared) (σ:St) (H:Hp) (x:V) (v vl vu:Value) (lo hi:Option Int) (sl:Addr) (Q:VK),Inv X pins σ H s->RelV x v->s.heap.IsSliceOf sl vl vu .none->IsPart vl lo->IsPart vu hi->r x lo hi H Q ->
  ∃T id,typeLookup (.type T) "__getitem__" = pure (some (.builtin id))/\s.TypeIs v T/\wpAny (model X.prog X.w) X.A (getItem v (.ref sl)) (EP X pins σ Q) X.xe s
theorem SlR.or {r r':V->Option Int->Option Int->Hp->VK->Prop} (h:SlR X r) (h':SlR X r'):SlR X (fun x lo hi H Q=>r x lo hi H Q\/r' x lo hi H Q):=by
 intro pins s σ H x v vl vu lo hi sl Q I rx hs pl pu q;rcases q with q | q
 ·exact h pins s σ H x v vl vu lo hi sl Q I rx hs pl pu q
 ·exact h' pins s σ H x v vl vu lo hi sl Q I rx hs pl pu q
noncomputable def cutV (xs:List V) (lo hi:Option Int):List V:=(xs.drop (HT.sIx xs.length 0 lo)).take (HT.sIx xs.length xs.length hi - HT.sIx xs.length 0 lo)
theorem cH' (xs:List V) (lo hi:Option Int):(cutV xs lo hi).length<=xs.length:=by
 unfold cutV;rw [List.length_take,List.length_drop];omega
noncomputable def rSlT (K:PySem.W.Frag):V->Option Int->Option Int->Hp->VK->Prop:=fun x lo hi H Q=>∃a xs,x=.ref a/\SqT K H a xs /\
 ¬(HT.sIx xs.length 0 lo=0/\HT.sIx xs.length xs.length hi=xs.length)/\∀p,H p=none->Q (.ref p) (upd H p (.tup (cutV xs lo hi)))
theorem sl_tup:SlR X (rSlT X.K):=by
 intro pins s σ H x v vl vu lo hi sl Q I rx hs pl pu h;obtain ⟨a,xs,rfl,hx,hw,q⟩:=h
 cases rx
 obtain ⟨its,r,ht,hz⟩:=I.tuple hx;have hlen:its.toArray.size=xs.length:=by rw [List.size_toArray]; exact r.length.symm
 refine ⟨"tuple",_,PyProof.Rows.slot_tuple_getitem.lookup,ht.typeIs,?_⟩;refine HT.getItem_tuple_cut ht hs pl pu (by rw [hlen]; exact hw) ?_ (by rw [hlen]; exact hz);rw [hlen];refine ⟨.ref s.heap.objs.size,_,I.laid (t':=s.toks) (o:=.tup (cutV xs lo hi)) (fun b ob q=>Heap.get?_push_of_some _ q) (Nat.le_refl _) ?_,rfl,q _ (I.hok.fresh (Nat.le_refl _))⟩;exact ⟨Nat.le_trans (cH' xs lo hi) hz,_,(r.drop (HT.sIx xs.length 0 lo)).take (HT.sIx xs.length xs.length hi - HT.sIx xs.length 0 lo),IsTup.new _ _⟩
noncomputable def rCatT (K:PySem.W.Frag):R2:=fun x y H Q=>∃a b xs ys,x=.ref a/\y=.ref b/\SqT K H a xs/\SqT K H b ys/\xs≠[]/\xs.length + ys.length<=sizeLine /\
 (ys=[]->Q (.ref a) H)/\(ys≠[]->∀p,H p=none->Q (.ref p) (upd H p (.tup (xs ++ ys))))
theorem Vals.nil_iff {xs:List V} {us:List Value} (r:Vals xs us):us=[]↔xs=[]:=by
 cases r with
 | nil=>simp
 | cons _ _=>simp
theorem jQ':OpR X (binaryOp .Add) (rCatT X.K):=by
 intro pins s σ H x y v u Q I rx ry h;obtain ⟨a,b,xs,ys,rfl,rfl,ha,hb,hx,hz,q1,q2⟩:=h
 cases rx
 cases ry
 obtain ⟨its,r1,p1,_⟩:=I.tuple ha;obtain ⟨its2,r2,p2,_⟩:=I.tuple hb;refine HT.cat_tup p1 p2 (fun z=>hx (r1.nil_iff.mp z)) (fun z=>⟨.ref a,H,I,rfl,q1 (r2.nil_iff.mp z)⟩) (fun z=>?_) (by rw [<- r1.length,<- r2.length]; exact hz);refine ⟨.ref s.heap.objs.size,_,I.laid (t':=s.toks) (o:=.tup (xs ++ ys)) (fun b ob q=>Heap.get?_push_of_some _ q) (Nat.le_refl _) ?_,rfl,q2 (fun w=>z (r2.nil_iff.mpr w)) _ (I.hok.fresh (Nat.le_refl _))⟩;exact ⟨by rw [List.length_append]; exact hz,_,r1.append r2,IsTup.new _ _⟩
end
noncomputable def ixN (n:Nat) (i:Int):Option Nat:=if 0<=i then (if i < n then some i.toNat else none) else if -(n:Int)<=i then some (i + n).toNat else none
noncomputable def atI {α:Type} (xs:List α) (i:Int):Option α:=(ixN xs.length i).bind fun j=>xs[j]?
theorem jR' {n:Nat} {i:Int} {j:Nat} (h:ixN n i=some j):seqIndex? i n=some j/\j < n/\-(n:Int)<=i/\i < n:=by
 unfold ixN at h
 by_cases h0:0<=i
 ·rw [if_pos h0] at h
  by_cases h1:i < n
  ·rw [if_pos h1] at h;have e:i.toNat=j:=Option.some.inj h;exact ⟨by rw [seqIndex_of h0 h1,e],by omega,by omega,h1⟩
  ·rw [if_neg h1] at h; cases h
 ·rw [if_neg h0] at h
  by_cases h1:-(n:Int)<=i
  ·rw [if_pos h1] at h;have e:(i + n).toNat=j:=Option.some.inj h;exact ⟨by rw [seqIndex_neg (by omega) h1,e],by omega,h1,by omega⟩
  ·rw [if_neg h1] at h; cases h
theorem eN' {α:Type} {xs:List α} {i:Int} {v:α} (h:atI xs i=some v):∃j,seqIndex? i xs.length=some j/\xs[j]? = some v/\j < xs.length/\-(xs.length:Int)<=i/\i < xs.length:=by
 unfold atI at h
 cases e:ixN xs.length i with
 | none=>rw [e] at h; cases h
 | some j =>
  rw [e] at h;obtain ⟨h1,h2,h3,h4⟩:=jR' e;exact ⟨j,h1,h,h2,h3,h4⟩
noncomputable def PlainIx (b:Expr):Prop:=∀o i,subscripted b false o i=operate [o,i] (getItem o i)
noncomputable def IxR (X:Cx) (r:R2):Prop :=
 ∀(value slice:Expr) (pins:List (Addr×Obj)) (s:Shared) (σ:St) (H:Hp) (x y:V) (v u:Value) (Q:VK),Inv X pins σ H s->RelV x v->RelV y u->r x y H Q ->
  subscripted slice false v u=operate [v,u] (getItem v u)->wpAny (model X.prog X.w) X.A (subscriptTail value slice v u) (EP X pins σ Q) X.xe s
noncomputable def MtR (X:Cx) (id:String) (r:V->List V->Hp->VK->Prop):Prop :=
 ∀(pins:List (Addr×Obj)) (s:Shared) (σ:St) (H:Hp) (x:V) (xs:List V) (v:Value) (us:List Value) (Q:VK),Inv X pins σ H s->RelV x v->Vals xs us->r x xs H Q ->
  wpAny (model X.prog X.w) X.A (call (.builtin id) (v :: us)) (EP X pins σ Q) X.xe s
section
variable {X:Cx} {a b:Expr} {ta tb:TE} {pos:Pos}
theorem IxR.or {r r':R2} (h:IxR X r) (h':IxR X r'):IxR X (fun x y H Q=>r x y H Q\/r' x y H Q):=by
 intro value slice pins s σ H x y v u Q I rx ry q hs;rcases q with q | q
 ·exact h value slice pins s σ H x y v u Q I rx ry q hs
 ·exact h' value slice pins s σ H x y v u Q I rx ry q hs
theorem MtR.or {id:String} {r r':V->List V->Hp->VK->Prop} (h:MtR X id r) (h':MtR X id r'):MtR X id (fun x xs H Q=>r x xs H Q\/r' x xs H Q):=by
 intro pins s σ H x xs v us Q I rx rs q;rcases q with q | q
 ·exact h pins s σ H x xs v us Q I rx rs q
 ·exact h' pins s σ H x xs v us Q I rx rs q
noncomputable def rIxL (K:PySem.W.Frag):R2:=fun x y H Q=>∃p xs i v,x=.ref p/\y=.int i/\SqL K H p xs/\atI xs i=some v/\Q v H
noncomputable def rIxT (K:PySem.W.Frag):R2:=fun x y H Q=>∃p xs i v,x=.ref p/\y=.int i/\SqT K H p xs/\atI xs i=some v/\Q v H
noncomputable def rIxS:R2:=fun x y H Q=>∃z i c,x=.str z/\y=.int i/\z.length<=sizeLine/\atI z.cps.toList i=some c/\Q (.str ⟨#[c]⟩) H
theorem ix_list:IxR X (rIxL X.K):=by
 intro value slice pins s σ H x y v u Q I rx ry h hs;obtain ⟨p,xs,i,z,rfl,rfl,hq,he,q⟩:=h
 cases rx
 obtain ⟨t,rfl⟩:=ry;obtain ⟨its,r,pl,hz⟩:=I.list hq;obtain ⟨j,h1,h2,h3,h4,h5⟩:=eN' he;obtain ⟨w,ew,rw'⟩:=r.get h2;have hl:=r.length;have hn:=dW';have fin:EP X pins σ Q w s:=⟨z,H,I,rw',q⟩
 by_cases h0:0<=i
 ·have hj:i.toNat=j:=by
   rw [seqIndex_of h0 h5] at h1;exact Option.some.inj h1
  exact item_listR pl.isList h0 (by omega) (by rw [hj]; simpa using ew) fin hs
 ·have hj:(i + (its.toArray.size:Int)).toNat=j:=by
   rw [seqIndex_neg (by omega) h4] at h1;rw [List.size_toArray,<- hl];exact Option.some.inj h1
  exact subscriptTail_builtinR (x:=w) pl.isList.typeIs slot_list_getitem.lookup
   (wpAny_getItem_list_neg (Q:=fun r s'=>r=w/\EP X pins σ Q r s') pl.isList (by omega) (by rw [List.size_toArray] <;> omega) (by omega) (by rw [hj]; simpa using ew) ⟨rfl,fin⟩) hs
theorem ix_tup:IxR X (rIxT X.K):=by
 intro value slice pins s σ H x y v u Q I rx ry h hs;obtain ⟨p,xs,i,z,rfl,rfl,hq,he,q⟩:=h
 cases rx
 obtain ⟨t,rfl⟩:=ry;obtain ⟨its,r,pl,hz⟩:=I.tuple hq;obtain ⟨j,h1,h2,h3,h4,h5⟩:=eN' he;obtain ⟨w,ew,rw'⟩:=r.get h2;have hl:=r.length;have hn:=dW';have fin:EP X pins σ Q w s:=⟨z,H,I,rw',q⟩;exact subscriptTail_builtinR (x:=w) pl.typeIs slot_tuple_getitem.lookup
  (getItem_tuple (j:=j) (Q:=fun r s'=>r=w/\EP X pins σ Q r s') pl (by omega) (by omega) (by rw [List.size_toArray,<- hl]; exact h1) (by simpa using ew) ⟨rfl,fin⟩) hs
theorem lr':IxR X rIxS:=by
 intro value slice pins s σ H x y v u Q I rx ry h hs;obtain ⟨z,i,c,rfl,rfl,hz,he,q⟩:=h;obtain ⟨t,rfl⟩:=rx;obtain ⟨t',rfl⟩:=ry;obtain ⟨j,h1,h2,h3,h4,h5⟩:=eN' he;have hl:z.cps.toList.length=z.length:=by simp [Str.length]
 rw [hl] at h1 h4 h5;have hn:=dW';exact tail_any (typeIs_str s z t) slot_str_getitem.lookup (getItem_str (c:=c) (by
  have e1:decide (i < -(2 ^ 63:Int))=false:=decide_eq_false (by omega);have e2:decide (i>=2 ^ 63)=false:=decide_eq_false (by omega);rw [e1,e2,Bool.or_false]) (by rw [h1]; simpa using h2) ⟨.str ⟨#[c]⟩,H,I.tok _,⟨_,rfl⟩,q⟩) hs
noncomputable def rIx (K:PySem.W.Frag):R2:=fun x y H Q=>rIxL K x y H Q\/rIxT K x y H Q\/rIxS x y H Q
theorem ls':IxR X (rIx X.K):=ix_list.or (ix_tup.or lr')
theorem Inv.lst {pins:List (Addr×Obj)} {σ:St} {H:Hp} {s:Shared} {p:Addr} {xs:List V} (I:Inv X pins σ H s) (h:H p=some (.lst xs)) :
  ∃(its:List Value) (n:Nat),Vals xs its/\s.heap.get? p=some { cls:=.type "list",data:=.seq its.toArray n }/\xs.length<=sizeLine:=by
 obtain ⟨z,its,n,r,e⟩:=I.hok p _ h;exact ⟨its,n,r,e,z⟩
theorem ed' (lo hi:Option Int) (n:Nat):(sliceBounds lo hi none n).1=((HT.sIx n 0 lo:Nat):Int)/\(sliceBounds lo hi none n).2.1=((HT.sIx n n hi:Nat):Int)/\(sliceBounds lo hi none n).2.2=1:=by
 refine ⟨?_,?_,rfl⟩
 ·cases lo with
  | none=>simp [sliceBounds,HT.sIx]
  | some i =>
   simp only [sliceBounds,HT.sIx,Option.getD_none,show (1:Int) > 0 by decide,if_true]
   by_cases h:i < 0
   ·simp only [h,if_true] <;> omega
   ·simp only [h,if_false] <;> omega
 ·cases hi with
  | none=>simp [sliceBounds,HT.sIx]
  | some i =>
   simp only [sliceBounds,HT.sIx,Option.getD_none,show (1:Int) > 0 by decide,if_true]
   by_cases h:i < 0
   ·simp only [h,if_true] <;> omega
   ·simp only [h,if_false] <;> omega
theorem dy' (its:List Value) (lo hi:Option Int):slicePick its.toArray lo hi none=((its.drop (HT.sIx its.length 0 lo)).take (HT.sIx its.length its.length hi - HT.sIx its.length 0 lo)).toArray:=by
 obtain ⟨h1,h2,h3⟩:=ed' lo hi its.toArray.size;unfold slicePick;rw [h1,h2,h3];simp only [sliceRange_one,pick_run,List.size_toArray] <;> rfl
noncomputable def rSlL (K:PySem.W.Frag):V->Option Int->Option Int->Hp->VK->Prop:=fun x lo hi H Q=>∃a xs,x=.ref a/\SqL K H a xs/\∀p,H p=none->Q (.ref p) (upd H p (.lst (cutV xs lo hi)))
theorem sl_list:SlR X (rSlL X.K):=by
 intro pins s σ H x v vl vu lo hi sl Q I rx hs pl pu h;obtain ⟨a,xs,rfl,hx,q⟩:=h
 cases rx
 obtain ⟨its,r,ht,hz⟩:=I.list hx;have hlen:=r.length;refine ⟨"list",_,slot_list_getitem.lookup,ht.isList.typeIs,?_⟩;refine wpAny_getItem_list_slice ht.isList hs pl pu .none (by simp) ?_ (by rw [List.size_toArray] <;> omega)
 rw [dy',<- hlen];refine ⟨.ref s.heap.objs.size,_,I.laid (t':=s.toks) (o:=.lst (cutV xs lo hi)) (fun b ob q=>Heap.get?_push_of_some _ q) (Nat.le_refl _) ?_,rfl,q _ (I.hok.fresh (Nat.le_refl _))⟩;exact ⟨Nat.le_trans (cH' xs lo hi) hz,_,0,(r.drop (HT.sIx xs.length 0 lo)).take (HT.sIx xs.length xs.length hi - HT.sIx xs.length 0 lo),Heap.get?_push_size _ rfl⟩
noncomputable def flatV:V->Bool
 | .non=>true
 | .bl _=>true
 | .int _=>true
 | .str _=>true
 | _=>false
noncomputable def eqV:V->V->Bool
 | .non,.non=>true
 | .bl a,.bl b=>a == b
 | .bl a,.int b=>(if a then 1 else 0) == b
 | .int a,.bl b=>a == (if b then 1 else 0)
 | .int a,.int b=>a == b
 | .str a,.str b=>a == b
 | _,_=>false
theorem lu' {A:Around} {s:Shared} {y x:V} {u v:Value} (ry:RelV y u) (rx:RelV x v) (fy:flatV y=true) (fx:flatV x=true):SeqAt.EqAt A s u v (eqV y x):=by
 cases y with
 | non =>
  cases ry
  cases x with
  | non=>cases rx; exact SeqAt.EqAt.same _
  | bl b=>cases rx; exact SeqAt.EqAt.none_bool b
  | int b=>obtain ⟨t,rfl⟩:=rx; exact SeqAt.EqAt.none_int b t
  | str b=>obtain ⟨t,rfl⟩:=rx; exact SeqAt.EqAt.none_str b t
  | _=>exact absurd (show false=true from fx) Bool.false_ne_true
 | bl a =>
  cases ry
  cases x with
  | non=>cases rx; exact SeqAt.EqAt.bool_none a
  | bl b=>cases rx; exact SeqAt.EqAt.bool_bool a b
  | int b=>obtain ⟨t,rfl⟩:=rx; exact SeqAt.EqAt.bool_int a b t
  | str b=>obtain ⟨t,rfl⟩:=rx; exact SeqAt.EqAt.bool_str a b t
  | _=>exact absurd (show false=true from fx) Bool.false_ne_true
 | int a =>
  obtain ⟨t',rfl⟩:=ry
  cases x with
  | non=>cases rx; exact SeqAt.EqAt.int_none a t'
  | bl b=>cases rx; exact SeqAt.EqAt.int_bool a t' b
  | int b=>obtain ⟨t,rfl⟩:=rx; exact SeqAt.EqAt.int_int a t' b t
  | str b=>obtain ⟨t,rfl⟩:=rx; exact SeqAt.EqAt.int_str a t' b t
  | _=>exact absurd (show false=true from fx) Bool.false_ne_true
 | str a =>
  obtain ⟨t',rfl⟩:=ry
  cases x with
  | non=>cases rx; exact SeqAt.EqAt.str_none a t'
  | bl b=>cases rx; exact SeqAt.EqAt.str_bool a t' b
  | int b=>obtain ⟨t,rfl⟩:=rx; exact SeqAt.EqAt.str_int a t' b t
  | str b=>obtain ⟨t,rfl⟩:=rx; exact SeqAt.EqAt.str_str a t' b t
  | _=>exact absurd (show false=true from fx) Bool.false_ne_true
 | _=>exact absurd (show false=true from fy) Bool.false_ne_true
noncomputable def eqU (x:V) (u:Value):Bool:=match u with
 | .none=>eqV .non x
 | .bool b=>eqV (.bl b) x
 | .int i _=>eqV (.int i) x
 | .str z _=>eqV (.str z) x
 | _=>false
theorem jv' {x y:V} {u:Value} (r:RelV y u) (f:flatV y=true):eqU x u=eqV y x:=by
 cases y with
 | non=>cases r; rfl
 | bl b=>cases r; rfl
 | int i=>obtain ⟨t,rfl⟩:=r; rfl
 | str z=>obtain ⟨t,rfl⟩:=r; rfl
 | _=>exact absurd (show false=true from f) Bool.false_ne_true
theorem eO' {x:V}:∀{xs:List V} {us:List Value},Vals xs us->xs.all flatV=true->us.any (eqU x)=xs.any fun y=>eqV y x
 | _,_,.nil,_=>rfl
 | y :: xs,u :: us,.cons r t,f=>by
  rw [List.all_cons,Bool.and_eq_true] at f;rw [List.any_cons,List.any_cons,jv' r f.1,eO' t f.2]
theorem dz' {A:Around} {s:Shared} {x:V} {v:Value} (rx:RelV x v) (fx:flatV x=true):∀{xs:List V} {us:List Value},Vals xs us->xs.all flatV=true->∀u∈us,SeqAt.EqAt A s u v (eqU x u)
 | _,_,.nil,_=>fun u hu=>by cases hu
 | y :: xs,u :: us,.cons r t,f=>fun u' hu=>by
  rw [List.all_cons,Bool.and_eq_true] at f;rcases List.mem_cons.mp hu with rfl | hu
  ·rw [jv' r f.1]; exact lu' r rx f.1 fx
  ·exact dz' rx fx t f.2 u' hu
noncomputable def inV (x:V) (xs:List V):Bool:=xs.any fun y=>eqV y x
noncomputable def rIn (K:PySem.W.Frag) (neg:Bool):R2:=fun x y H Q=>∃p xs,y=.ref p/\(SqL K H p xs\/SqT K H p xs)/\flatV x=true/\xs.all flatV=true/\Q (.bl (if neg then !inV x xs else inV x xs)) H
theorem cw':OpR X (compareOp .NotIn) (rIn X.K true):=by
 intro pins s σ H x y v u Q I rx ry h;obtain ⟨p,xs,rfl,hq,fx,fs,q⟩:=h
 cases ry
 rcases hq with hq | hq
 ·obtain ⟨its,r,pl,hz⟩:=I.list hq;refine SeqAt.notIn_listAt (eqU x) pl.isList (fun w hw=>dz' rx fx r fs w (by simpa using hw)) ⟨.bl _,H,I,rfl,?_⟩;rw [show its.toArray.any (eqU x)=its.any (eqU x) by simp,eO' r fs];exact q
 ·obtain ⟨its,r,pl,hz⟩:=I.tuple hq;refine SeqAt.notIn_tupleAt (eqU x) pl (fun w hw=>dz' rx fx r fs w (by simpa using hw)) ⟨.bl _,H,I,rfl,?_⟩;rw [show its.toArray.any (eqU x)=its.any (eqU x) by simp,eO' r fs];exact q
theorem CallR.or {f:Value} {r r':List V->Hp->VK->Prop} (h:CallR X f r) (h':CallR X f r'):CallR X f (fun xs H Q=>r xs H Q\/r' xs H Q):=by
 intro pins s σ H xs us Q I rs q;rcases q with q | q
 ·exact h pins s σ H xs us Q I rs q
 ·exact h' pins s σ H xs us Q I rs q
theorem ee':CallR X (.type "list") (fun xs H Q=>∃p ys,xs=[.ref p]/\(SqL X.K H p ys\/SqT X.K H p ys)/\∀l,H l=none->Q (.ref l) (upd H l (.lst ys))):=by
 intro pins s σ H xs us Q I r h;obtain ⟨p,ys,rfl,hq,q⟩:=h;obtain ⟨u,rfl,rx⟩:=vals1 r
 cases rx
 have fin:∀(its:List Value),Vals ys its->ys.length<=sizeLine->∀(h':Heap) (c':Nat),(∀b o',s.heap.get? b=some o'->h'.get? b=some o') ->
   h'.get? s.heap.objs.size=some { cls:=.type "list",dict:=none,data:=.seq its.toArray c',slots:=#[] }->EP X pins σ Q (.ref s.heap.objs.size) { s with heap:=h' }:=fun its r' hz h' c' kp e =>
  ⟨.ref s.heap.objs.size,_,I.laid (t':=s.toks) kp (Nat.le_refl _) (show ObjOk X.prog X.w _ h' _ (.lst ys) from ⟨hz,its,c',r',e⟩),rfl,q _ (I.hok.fresh (Nat.le_refl _))⟩
 rcases hq with hq | hq
 ·obtain ⟨its,r',pl,hz⟩:=I.list hq;have hlen:=r'.length;obtain ⟨o,ho,hc,n,hd⟩:=pl.isList;exact call_list_seq p (.inl rfl) ho hc hd (fun h' c' kp e=>fin its r' hz h' c' kp e) (by simp only [List.size_toArray] <;> omega)
 ·obtain ⟨its,r',pl,hz⟩:=I.tuple hq;have hlen:=r'.length;obtain ⟨o,ho,hc,n,hd⟩:=pl;exact call_list_seq p (.inr rfl) ho hc hd (fun h' c' kp e=>fin its r' hz h' c' kp e) (by simp only [List.size_toArray] <;> omega)
noncomputable def tyV (K:PySem.W.Frag) (T:String) (x:V) (H:Hp):Prop:=match x with
 | .str _=>T = "str"
 | .int _=>T = "int"
 | .ref p=>(T = "list"/\∃xs,SqL K H p xs)\/(T = "tuple"/\∃o,K.lookup p=some o/\o.cls=.type "tuple"/\o.dict=none) \/
   (T = "dict"/\((∃kvs,H p=some (.dK kvs))\/∃kvs,H p=some (.dT kvs)))\/(T = "set"/\∃S n,H p=some (.set S n))
 | _=>False
theorem gx' {pins:List (Addr×Obj)} {σ:St} {H:Hp} {s:Shared} {T:String} {x:V} {v:Value} (I:Inv X pins σ H s) (r:RelV x v) (ty:tyV X.K T x H) :
  s.TypeIs v T/\∀a,v=.ref a->∃ob,s.heap.get? a=some ob/\ob.dict=none:=by
 cases x with
 | str z =>
  obtain ⟨t,rfl⟩:=r
  cases (show T = "str" from ty)
  exact ⟨typeIs_str s z t,fun _ e=>nomatch e⟩
 | int i =>
  obtain ⟨t,rfl⟩:=r
  cases (show T = "int" from ty)
  exact ⟨typeIs_int s i t,fun _ e=>nomatch e⟩
 | ref p =>
  cases r
  rcases ty with ⟨rfl,xs,hq⟩ | ⟨rfl,o,hk,hc,hd⟩ | ⟨rfl,hk⟩ | ⟨rfl,S,n,hk⟩
  ·obtain ⟨its,_,pl,_⟩:=I.list hq;refine ⟨pl.isList.typeIs,fun a e=>?_⟩
   cases e
   obtain ⟨o,n,e,c,hd,_⟩:=pl;exact ⟨o,e,hd⟩
  ·refine ⟨⟨o,I.kIn p o hk,hc⟩,fun a e=>?_⟩
   cases e
   exact ⟨o,I.kIn _ o hk,hd⟩
  ·have z:∃o,s.heap.get? p=some o/\o.ExactDict:=by
    rcases hk with ⟨kvs,hk⟩ | ⟨kvs,hk⟩
    ·obtain ⟨_,_,_,_,o,_,_,e,ex,_⟩:=I.hok p _ hk;exact ⟨o,e,ex⟩
    ·obtain ⟨_,_,_,_,o,_,_,e,ex,_⟩:=I.hok p _ hk;exact ⟨o,e,ex⟩
   obtain ⟨o,e,ex⟩:=z;refine ⟨⟨o,e,ex.1⟩,fun a e2=>?_⟩
   cases e2
   exact ⟨o,e,ex.2.1⟩
  ·obtain ⟨o,_,_,_,e,ex,_⟩:=I.hok p _ hk;refine ⟨⟨o,e,ex.1⟩,fun a e2=>?_⟩
   cases e2
   exact ⟨o,e,ex.2.1⟩
 | _=>exact False.elim ty
variable {o e:Expr} {es:List Expr} {to:TE} {t:TA} {name:Str} {apos cpos:Pos} {T id:String} {r:V->List V->Hp->VK->Prop}
end
noncomputable def MtM (X:Cx) (id:String) (r:V->List V->Hp->VK->Prop):Prop :=
 ∀(pins:List (Addr×Obj)) (s:Shared) (σ:St) (H:Hp) (x:V) (xs:List V) (v:Value) (us:List Value) (Q:VK),Inv X pins σ H s->RelV x v->Vals xs us->r x xs H Q ->
  wpAny (model X.prog X.w) X.A (call (.builtin id) (v :: us)) (EP X pins σ Q) X.xe s
theorem Vals.one:∀{x:V} {us:List Value},Vals [x] us->∃u,us=[u]/\RelV x u
 | _,_,.cons r .nil=>⟨_,rfl,r⟩
theorem Vals.two:∀{x y:V} {us:List Value},Vals [x,y] us->∃u v,us=[u,v]/\RelV x u/\RelV y v
 | _,_,_,.cons r (.cons q .nil)=>⟨_,_,rfl,r,q⟩
theorem Vals.zero:∀{us:List Value},Vals [] us->us=[]
 | _,.nil=>rfl
theorem Vals.reverse {xs:List V} {us:List Value} (h:Vals xs us):Vals xs.reverse us.reverse:=by
 induction h with
 | nil=>exact .nil
 | cons r t ih=>rw [List.reverse_cons,List.reverse_cons]; exact Vals.append ih (.cons r .nil)
theorem Vals.rep {xs:List V} {us:List Value} (h:Vals xs us):∀k:Nat,Vals (List.replicate k xs).flatten (List.replicate k us).flatten
 | 0=>.nil
 | k + 1=>by
  rw [List.replicate_succ,List.replicate_succ,List.flatten_cons,List.flatten_cons];exact Vals.append h (Vals.rep h k)
theorem foldl_rep (its:List Value):∀(k:Nat) (acc:List Value),
  List.foldl (fun x1 x2=>x1 ++ x2) acc.toArray (List.replicate k its.toArray)=(acc ++ (List.replicate k its).flatten).toArray
 | 0,acc=>by simp
 | k + 1,acc=>by
  have e:acc.toArray ++ its.toArray=(acc ++ its).toArray:=by simp
  have e2:(acc ++ its) ++ (List.replicate k its).flatten=acc ++ (List.replicate (k + 1) its).flatten:=by
   rw [List.replicate_succ,List.flatten_cons,List.append_assoc]
  rw [<- e2,<- foldl_rep its k (acc ++ its),<- e,List.replicate_succ,List.foldl_cons]
section
variable {X:Cx} {pins:List (Addr×Obj)} {σ:St} {H:Hp} {s:Shared} {l b:Addr} {xs ys zs:List V}
theorem Inv.lset {its its':List Value} {n:Nat} {f:Array Value->Array Value} {t':Nat} (I:Inv X pins σ H s) (hH:H l=some (.lst xs))
  (e:s.heap.get? l=some { cls:=.type "list",data:=.seq its.toArray n }) (hf:f its.toArray=its'.toArray) (hv:Vals ys its') (hz:ys.length<=sizeLine) :
  Inv X pins σ (upd H l (.lst ys)) { s with heap:=s.heap.update l (Obj.mapSeq f),toks:=t' }:=by
 have q:=PySem.IsL.update e f;rw [hf] at q;refine I.write (x:=l) (e:=l) (by rw [hH]; exact trivial) (.inl rfl) (fun b' u hb hu=>(Heap.get?_update_other s.heap (Obj.mapSeq f) (Ne.symm hb)).trans hu) ⟨_,q⟩ ?_;exact ⟨hz,its',_,hv,q⟩
theorem Inv.fresh (I:Inv X pins σ H s):H s.heap.objs.size=none:=I.hok.fresh (Nat.le_refl _)
theorem Inv.lstM (I:Inv X pins σ H s) (hH:H l=some (.lst xs)):xs.length<=sizeLine/\∃(its:List Value) (n:Nat),Vals xs its/\xs.length=its.length/\s.heap.get? l=some { cls:=.type "list",data:=.seq its.toArray n }:=by
 obtain ⟨z,its,n,r,e⟩:=I.hok l _ hH;exact ⟨z,its,n,r,r.length,e⟩
end
section
variable {X:Cx}
noncomputable def rAppend:V->List V->Hp->VK->Prop:=fun x vs H Q=>∃l xs y,x=.ref l/\vs=[y]/\H l=some (.lst xs)/\xs.length < sizeLine/\Q .non (upd H l (.lst (xs ++ [y])))
theorem ef':MtM X "list.append" rAppend:=by
 intro pins s σ H x vs v us Q I rx rv h;obtain ⟨l,xs,y,rfl,rfl,hH,hz,q⟩:=h
 cases rx
 obtain ⟨u,rfl,ru⟩:=rv.one;obtain ⟨z,its,n,r,hl,e⟩:=I.lstM hH;refine call_meets F.slot_list_append ⟨_,e,rfl⟩ F.entry_list_append (F.args_list_append_2 _ _) (PySem.list_append l its.toArray n u (by rw [List.size_toArray]; omega)) ⟨e,?_⟩;refine ⟨.non,_,I.lset (its':=its ++ [u]) hH e (by simp) (r.append (.cons ru .nil)) ?_,rfl,q⟩;rw [List.length_append,List.length_singleton];omega
theorem len_rep {α:Type} (xs:List α) (k:Nat):(List.replicate k xs).flatten.length=k * xs.length:=by
 induction k with
 | zero=>simp
 | succ k ih=>rw [List.replicate_succ,List.flatten_cons,List.length_append,ih,Nat.succ_mul,Nat.add_comm]
end
section
variable {prog:Program} {w:World} {A:Around} {E:Value->Shared->Prop} {s:Shared}
end
section
variable {X:Cx}
end
end L2
namespace Att
open PySem PySem.W PySem.Calls PyProof.Rows
theorem cI' {P:Params} {h:Heap}:∀(ns:List Int) (vs:List Value),WellAll P h vs (ns.map WData.int)->IntsAre vs ns:=by
 intro ns
 induction ns with
 | nil =>
  intro vs w;rw [List.map_nil] at w
  cases w
  exact .nil
 | cons n ns ih =>
  intro vs w;rw [List.map_cons] at w
  cases w with
  | cons a b =>
   cases a
   exact .cons _ _ (ih _ b)
theorem gy' {l:OpenLaw} {n:Nat} (hn:l.most=some n) {P:Params} {h:Heap} {args:List WData} {vals:List Value}
  (hpre:l.row.toRowW.claim.pre args=true) (hwl:WellAll P h vals args) :
  ∃a vs ns,vals=[Value.ref a]/\args=[WData.list (ns.map WData.int)]/\h.get? a=some { cls:=.type "list",data:=.seq vs.toArray }/\IntsAre vs ns/\ns.length<=n:=by
 have hsh:WShape.hasAll [] args [.list .int]=true:=(pre_splitW hpre).1;have hc:l.pre.holds [] { args:=args }=true:=(pre_splitW hpre).2;obtain ⟨d,r,rfl,h1,h2⟩:=hasAllW_cons hsh;obtain rfl:=hasAllW_nil h2;obtain ⟨xs,rfl,h3⟩:=hasW_list h1;obtain ⟨ns,rfl⟩:=items_int h3;have hlen:ns.length<=n:=by
  unfold OpenLaw.pre at hc;have h4:(WTm.not (.lt (.lit (.int (n:Int))) (.len (.arg 0)))).holds [] { args:=[.list (ns.map .int)] }=true:=by
   have h4:=(holds_andW hc).1;rw [hn] at h4;exact h4
  have h5:=condW_of h4 (w_not (w_lt w_lit (w_len_list (w_arg rfl))));rw [List.length_map] at h5;refine Nat.le_of_not_lt fun q=>?_;have q':(n:Int) < ((ns.length:Nat):Int):=by omega
  first
   | (rw [decide_eq_true q'] at h5; exact absurd h5 (by decide))
   | (simp at h5; omega)
 cases hwl with
 | cons w1 w2 =>
  cases w2
  cases w1 with
  | list ho hall=>exact ⟨_,_,ns,rfl,rfl,ho,cI' ns _ hall,hlen⟩
theorem gz' (l:OpenLaw) (args:List WData):l.row.toRowW.claim.post args (.bool true) args=true :=
 postW_of (r:=l.row.toRowW) (X:=(true == true))
  (show WShape.has [] (.bool true) .bool=true by first | rfl | decide | simp [WShape.has,WShape.arms,WShape.armsAll])
  (show (WTm.eq .res (.lit (.bool true))).value [] { args:=args,res:=some (.bool true),after:=args }=some (.bool (true == true)) from w_eq_bool (w_res rfl) w_lit) rfl
theorem attach_call {l:OpenLaw} {n:Nat} {q:Program} {loose:List Str} {XP:(Str->Option Value)->Heap->Prop} {YP:World->Heap->Prop} {d:DefRec}
  (hn:l.most=some n) (hdf:d.params.defaults=[])
  (call:∀(w:World) (s₀ s₁:Shared) (mg mb:Str->Option Value) (fa:Addr) (o:Obj) (pm cd doc:Value) (a:Addr) (vs:List Value) (ns:List Int),
   Ground q loose [] XP w s₀ mg mb s₁.heap->YP w s₁.heap ->
   s₁.heap.get? fa=some o->o.data=.func (docDef d.name d.params d.body d.scope pm cd doc)->s₁.heap.CodeRec cd d.name->mg d.name=some (.ref fa) ->
   s₁.heap.get? a=some { cls:=.type "list",data:=.seq vs.toArray }->IntsAre vs ns->ns.length<=n->s₁.gens = #[] ->
   codeAny (model l.prog w) callerA (.call (.ref fa) ⟨[.ref a],[]⟩) (fun r s'=>r=.ok (.ret (.bool true))/\OldK s₁.heap s'.heap/\s'.os=s₁.os/\AllBare s'.gens) s₁) :
  WalkO q loose XP YP l.row.toRowW d [] (fun f vs=>PySem.call f vs):=by
 intro w s₀ s₁ mg mb G Y fa o pm cd doc dV kV ho hd hcd hD hmg hg args vals as hpre hlay hrd hwl hlo;obtain rfl:dV=.none:=Dflts.none hD hdf;obtain rfl:kV=.none:=Dflts.noKw hD;obtain ⟨a,vs,ns,rfl,rfl,hobj,hints,hlen⟩:=gy' hn hpre hwl;refine enter_call (codeAny_mono (call w s₀ s₁ mg mb fa o pm cd doc a vs ns G Y ho (fd_plain hd) hcd hmg hobj hints hlen hg) fun r s' hq=>?_);obtain ⟨rfl,h2,h3,h4⟩:=hq;exact ⟨.inl ⟨.bool true,.bool true,[],rfl,fun _=>rfl,.bool true,gz' l _,fun _=>⟨List.Pairwise.nil,fun _ hm=>(nomatch hm)⟩⟩,h2,h3,h4⟩
section
variable {prog:Program} {w:World} {A:Around} {E:Value->Shared->Prop} {s:Shared} {K:Frag}
noncomputable def noObjs (h:Heap):Heap:={ h with objs:=#[] }
end
end Att
namespace L2
open PySem PySem.Spec PyProof.Rows
theorem eg':∀{vs:List Value} {ns:List Int},IntsAre vs ns->Vals (ns.map V.int) vs
 | _,_,.nil=>.nil
 | _,_,.cons n t h=>.cons ⟨t,rfl⟩ (eg' h)
noncomputable def Only (H:Hp):Prop:=∀b,H b=none\/∃o xs,H b=some (.frz o (.lst xs))
theorem im' {P:Program} {w:World} {K:PySem.W.Frag} {mg mb:Str->Option Value} {CX:CXT} {k:Nat} {fa a:Addr} {fd:FuncData} {x:Str} {sp:Sp} {s₁:Shared} {vs:List Value} {ns:List Int}
  (KX:K.In s₁.heap) (hns:s₁.heap.Ns mainGlobals mg) (hb:s₁.heap.Ns builtinsNs mb) (hbb:∀x:Str,x≠"__name__"->mb x=bootBuiltins x) (hlim:s₁.heap.NoLimit) (hg:s₁.gens = #[])
  (ha:s₁.heap.get? a=some { cls:=.type "list",data:=.seq vs.toArray }) (hi:IntsAre vs ns) (hl:ns.length<=sizeLine) (hr:Room k callerA)
  (F:∀base:Heap,K.In base->base.Ns mainGlobals mg->FnOk P w K mg base CX k fa fd [x] sp) (hbind:∀(s:Shared) (u:Value),BindsTo s fd ⟨[u],[]⟩ [(x,u)])
  (hsp:∀H:Hp,Only H->SqL K H a (ns.map V.int)->sp [.ref a] H (fun v _=>v=.bl true) fun _ _ _=>False)
  (hCX:∀H e s',CX [] H s₁ (fun _ _ _=>False) e s'->False) :
  codeAny (model P w) callerA (.call (.ref fa) ⟨[.ref a],[]⟩) (fun r s'=>r=.ok (.ret (.bool true))/\OldK s₁.heap s'.heap/\s'.os=s₁.os/\AllBare s'.gens) s₁:=by
 have rv:=eg' hi;have lenV:=hi.length;have core:∀H:Hp,Only H->SqL K H a (ns.map V.int)->HOk P w H s₁.heap->(∀b,H b≠none->b=a)->(H a≠none->K.lookup a=none) ->
   codeAny (model P w) callerA (.call (.ref fa) ⟨[.ref a],[]⟩) (fun r s'=>r=.ok (.ret (.bool true))/\OldK s₁.heap s'.heap/\s'.os=s₁.os/\AllBare s'.gens) s₁:=by
  intro H hO hS hok hA hK;have base_of:∀{b:Addr} {o:Obj},s₁.heap.get? b=some o->H b=none->(hidT s₁.heap H).get? b=some o:=fun e n=>ic' e n;have noA:∀{b:Addr} {o:Obj} {es:Array DictEntry} {ep:Nat},s₁.heap.get? b=some o->o.data=.dict es ep->H b=none:=fun {b o es ep} e d=>by
   cases q:H b with
   | none=>rfl
   | some u =>
    have e':b=a:=hA b (by rw [q]; simp);subst e';rw [ha] at e; cases e;have d':Data.seq vs.toArray _=Data.dict es ep:=d
    cases d'
  have nsK:∀{b:Addr} {m:Str->Option Value},s₁.heap.Ns b m->(hidT s₁.heap H).Ns b m:=fun {b m} ⟨o,es,ep,e,d,r⟩=>⟨o,es,ep,base_of e (noA e d),d,r⟩;have hKb:K.In (hidT s₁.heap H):=fun b o e=>base_of (KX b o e) (by
   cases q:H b with
   | none=>rfl
   | some u =>
    have e':b=a:=hA b (by rw [q]; simp);subst e';rw [hK (by rw [q]; simp)] at e; cases e)
  have hM:Mod K mg (hidT s₁.heap H):=⟨hKb,nsK hns,⟨mb,nsK hb,hbb⟩,let ⟨mc,h1,h2⟩:=hlim; ⟨mc,nsK h1,h2⟩⟩;have e0:Env0 P w K mg (hidT s₁.heap H) callerA [] s₁ H:=⟨rfl,hM,fun b o e=>jI' e,Nat.le_of_eq (gl' _ _),trivial,fun b hb=>absurd (show b∈([]:List Addr) from hb) (by simp),hok,.of_eq hg⟩
  refine codeAny_mono ((F _ hKb (nsK hns)).run callerA [] s₁ H ⟨[.ref a],[]⟩ [.ref a] [.ref a] _ _ hr e0 (hbind s₁ (.ref a)) (.cons rfl .nil) (hsp H hO hS)) fun r s' h=>?_
  cases r with
  | error e=>exact (hCX H e s' h).elim
  | ok fl =>
   cases fl with
   | next=>exact False.elim h
   | brk=>exact False.elim h
   | cont=>exact False.elim h
   | ret u =>
    obtain ⟨v,H',os,bare,un,hok',r',q⟩:=h;have q':v=.bl true:=q;subst q';obtain rfl:u=Value.bool true:=r';refine ⟨rfl,OldK.of_keep fun b o e=>?_,os,bare⟩
    cases q:H b with
    | none=>exact un.keep b o e q (by intro z; exact absurd (show b∈([]:List Addr) from z) (by simp)) (by simp)
    | some u =>
     rcases hO b with z | ⟨ob,xs,z⟩
     ·rw [q] at z; cases z
     ·have z2:=un.frzs b ob _ z;obtain ⟨e1,_⟩:=hok b _ z;obtain ⟨e2,_⟩:=hok' b _ z2;rw [e] at e1; cases e1;exact e2
 cases hk:K.lookup a with
 | some o =>
  have e:=KX a o hk;rw [ha] at e
  cases e
  refine core (fun _=>none) (fun _=>.inl rfl) (.inr ⟨_,vs.toArray,_,hk,rfl,rfl,rfl,by rw [List.size_toArray,lenV]; exact hl,by simpa using rv⟩) (fun b u z=>by have z':(none:Option HO)=some u:=z; cases z') (fun b z=>absurd rfl z) fun z=>absurd rfl z
 | none =>
  refine core (fun b=>if b=a then some (.frz { cls:=.type "list",data:=.seq vs.toArray } (.lst (ns.map V.int))) else none) (fun b=>?_) (.inl (.inr ⟨{ cls:=.type "list",data:=.seq vs.toArray },if_pos rfl⟩)) (fun b u z=>?_) (fun b z=>?_) fun _=>hk
  ·by_cases hb:b=a
   ·exact .inr ⟨_,_,if_pos hb⟩
   ·exact .inl (if_neg hb)
  ·by_cases hb:b=a
   ·have z':=(if_pos hb).symm.trans z
    cases z'
    subst hb;exact ⟨ha,by rw [List.length_map]; exact hl,vs,_,rv,ha⟩
   ·have z':=(if_neg hb).symm.trans z
    cases z'
  ·by_cases hb:b=a
   ·exact hb
   ·exact absurd (if_neg hb) z
abbrev KOf {K:PySem.W.Frag} {h:Heap} (_:K.In h):PySem.W.Frag:=K
theorem walk_of {l:PySem.W.OpenLaw} {n k:Nat} {q:Program} {loose:List Str} {XP:(Str->Option Value)->Heap->Prop} {YP:World->Heap->Prop} {d:DefRec} {K:Params->PySem.W.Frag} {CX:World->CXT} {sp:World->Sp} {x:Str}
  (hn:l.most=some n) (hn2:n<=sizeLine) (hdf:d.params.defaults=[]) (hr:Room k callerA)
  (hY:∀(w:World) (h:Heap),YP w h->(K w.params).In h)
  (F:∀(w:World) (mg:Str->Option Value) (fa:Addr) (h:Heap),(K w.params).In h->h.Ns mainGlobals mg->mg d.name=some (.ref fa) ->
   ∃fd:FuncData,(∀(s:Shared) (u:Value),BindsTo s fd ⟨[u],[]⟩ [(x,u)]) /\
    ∀base:Heap,(K w.params).In base->base.Ns mainGlobals mg->FnOk l.prog w (K w.params) mg base (CX w) k fa fd [x] (sp w))
  (hsp:∀(w:World) (H:Hp) (a:Addr) (ns:List Int),ns.length<=n->Only H->SqL (K w.params) H a (ns.map V.int)->sp w [.ref a] H (fun v _=>v=.bl true) fun _ _ _=>False)
  (hCX:∀(w:World) (H:Hp) (s:Shared) (e:Value) (s':Shared),CX w [] H s (fun _ _ _=>False) e s'->False) :
  PySem.W.WalkO q loose XP YP l.row.toRowW d [] (fun f vs=>PySem.call f vs):=by
 refine Att.attach_call hn hdf fun w s₀ s₁ mg mb fa o pm cd doc a vs ns G Y ho hd hcd hmg hobj hints hlen hg=>?_;have KX:=hY w _ Y;obtain ⟨fd,hb,hF⟩:=F w mg fa _ KX G.T.g hmg;exact im' KX G.T.g G.T.b G.T.builtins G.T.nolimit hg hobj hints (Nat.le_trans hlen hn2) hr hF hb (fun H hO hS=>hsp w H a ns hlen hO hS) fun H e s'=>hCX w H s₁ e s'
noncomputable def defArgs (s:Stmt):Arguments:=match s with
 | .FunctionDef _ a _ _ _ _ _ _ _ _=>a
 | _=>{ posonlyargs:=[],args:=[],vararg:=none,kwonlyargs:=[],kw_defaults:=[],kwarg:=none,defaults:=[] }
noncomputable def defBody (s:Stmt):List Stmt:=match s with
 | .FunctionDef _ _ b _ _ _ _ _ _ _=>b
 | _=>[]
noncomputable def defScope (s:Stmt):Scope:=match s with
 | .FunctionDef _ _ _ _ _ _ sc _ _ _=>sc
 | _=>{ kind:=.function,names:=[],isGenerator:=false,isCoroutine:=false }
abbrev CX0:CXT:=fun _ _ _ _ _ _=>False
abbrev E0:XK:=fun _ _ _=>False
structure Fun (K:PySem.W.Frag) (x qual:Str) (st:Stmt) (f:Addr) (fd:FuncData):Prop where
 ex:∃(oc:Value) (od:Option Addr) (kV doc pm:Value) (an:Option Addr) (cdv ct:Value) (osl:Array (Option Value)),
  fd=PySem.W.fnOf x qual (defArgs st) (defBody st) (defScope st) .none kV doc pm an cdv ct/\K.lookup f=some ⟨oc,od,.func fd,osl⟩/\PySem.W.codeIn K cdv qual=true
 kp:PySem.W.keepIn K (.ref f)=true
section
variable {P:Program} {w:World} {K:PySem.W.Frag} {mg:Str->Option Value} {base:Heap}
theorem Fun.ok {x qual:Str} {st:Stmt} {f:Addr} {fd:FuncData} {N ps:List Str} {k:Nat} {sp:Sp} (F:Fun K x qual st f fd) (S:FnScope N ps (defScope st)) (len:∀vs H Q E,sp vs H Q E->vs.length=ps.length)
  (hbody:∀(cdv:Value) (A:Around) (outer:List Env) (s:Shared) (H:Hp) (vs:List V) (Q:VK) (E:XK),Room k (A.deeper (envOfC qual (defScope st) s.heap.objs.size f cdv))->sp vs H Q E ->
   ∃t,PSs (cxOf CX0 P w K mg base N qual (defScope st) f cdv A outer s H E).nox (defBody st) t/\t { nx:=fun _ H'=>Q .non H',rt:=Q } (start N vs) H):FnOk P w K mg base CX0 (k + 1) f fd ps sp:=by
 obtain ⟨oc,od,kV,doc,pm,an,cdv,ct,osl,rfl,lk,hcd⟩:=F.ex;refine gv' lk hcd S len fun A outer s H vs Q E hr hsp=>?_;obtain ⟨t,h,q⟩:=hbody cdv A outer s H vs Q E hr hsp;exact ⟨t,h.nox,q⟩
theorem Fun.binds {x qual:Str} {st:Stmt} {f:Addr} {fd:FuncData} {ps:List Str} (F:Fun K x qual st f fd)
  (h:∀(kV doc pm:Value) (an:Option Addr) (cdv ct:Value) (us:List Value),us.length=ps.length->bindArgs (PySem.W.fnOf x qual (defArgs st) (defBody st) (defScope st) .none kV doc pm an cdv ct) ⟨us,[]⟩=pure (ps.zip us)):Binds K fd ps []:=by
 obtain ⟨oc,od,kV,doc,pm,an,cdv,ct,osl,rfl,lk,hcd⟩:=F.ex;exact .all (h kV doc pm an cdv ct)
theorem gA' {x qual:Str} {st:Stmt} {f:Addr} {oc:Value} {od an:Option Addr} {osl:Array (Option Value)} {kV doc pm cdv ct:Value} (l:K.lookup f=some ⟨oc,od,.func (PySem.W.fnOf x qual (defArgs st) (defBody st) (defScope st) .none kV doc pm an cdv ct),osl⟩)
  (c:PySem.W.codeIn K cdv qual=true) (k:PySem.W.keepIn K (.ref f)=true):Fun K x qual st f (PySem.W.fnOf x qual (defArgs st) (defBody st) (defScope st) .none kV doc pm an cdv ct):=⟨⟨oc,od,kV,doc,pm,an,cdv,ct,osl,rfl,l,c⟩,k⟩
end
section
variable {X:Cx}
theorem pv (i:Nat) {x:Str} {pos:Pos} (hN:X.N[i]? = some x:=by rfl) (hv:Vis X.env.scope x:=by first | exact Or.inl rfl | exact Or.inr (Or.inl rfl) | exact Or.inr (Or.inr rfl)) (hd:(x == ("__debug__" : Str))=false:=by decide)
  (hcd:(x == ("__classdict__" : Str))=false:=by decide):PE X (.Name x pos) (tVar i):=fh' hN hv hd hcd
end
noncomputable def Same (H H':Hp):Prop:=∀b o,H b=some o->H' b=some o
theorem Same.refl (H:Hp):Same H H:=fun _ _ h=>h
theorem Same.trans {H H1 H2:Hp} (a:Same H H1) (b:Same H1 H2):Same H H2:=fun c o h=>b c o (a c o h)
theorem Same.free {H H':Hp} (e:Same H H') {l:Addr} (h:H' l=Option.none):H l=Option.none:=by
 cases q:H l with
 | none=>rfl
 | some o =>
  rw [e l o q] at h
  cases h
theorem Same.seq {K:PySem.W.Frag} {H H':Hp} {a:Addr} {xs:List V} (e:Same H H') (h:SqL K H a xs):SqL K H' a xs:=by
 rcases h with (h | ⟨o,h⟩) | h
 ·exact .inl (.inl (e _ _ h))
 ·exact .inl (.inr ⟨o,e _ _ h⟩)
 ·exact .inr h
end L2
namespace DL
open PySem PySem.Spec PyProof.Rows L2
abbrev St:=L2.St
inductive D where
 | non
 | bl (b:Bool)
 | int (i:Int)
 | str (x:Str)
 | tup (ds:List D)
 | lst (ds:List D)
 | exc (c:Str)
 | excf (c f:Str) (d:D)
 | dct
 | obj (c:Str) (fs:List Str) (ds:List D)
structure Exn where
 cls:Str
 pay:Option (Str×D):=none
inductive Res (α:Type) where
 | stuck
 | ok (a:α)
 | err (x:Exn)
noncomputable def Res.bind {α β:Type} (r:Res α) (f:α->Res β):Res β:=match r with
 | .stuck=>.stuck
 | .ok a=>f a
 | .err x=>.err x
@[simp] theorem Res.bind_ok {α β:Type} (a:α) (f:α->Res β):(Res.ok a).bind f=f a:=rfl
@[simp] theorem Res.bind_stuck {α β:Type} (f:α->Res β):(Res.stuck).bind f=.stuck:=rfl
@[simp] theorem Res.bind_err {α β:Type} (x:Exn) (f:α->Res β):(Res.err x).bind f=.err x:=rfl
noncomputable def excAt (a C:Addr) (dd:Option Addr) (h:Heap):Prop:=∃o vs,h.get? a=some o/\o.cls=.ref C/\o.dict=dd/\o.data=.fields vs
section
variable (K:PySem.W.Frag)
mutual
noncomputable def Rep (H:Hp):D->V->Prop
 | .non,v=>v=.non
 | .bl b,v=>v=.bl b
 | .int i,v=>v=.int i
 | .str x,v=>v=.str x
 | .tup ds,v=>∃a xs,v=.ref a/\SqT K H a xs/\Reps H ds xs
 | .lst ds,v=>∃a xs,v=.ref a/\SqL K H a xs/\Reps H ds xs
 | .exc c,v=>∃a C,v=.ref a/\PySem.W.nsIn K mainGlobals c=some (some (.ref C))/\H a=some (.ext (excAt a C none))
 | .excf c f d,v=>∃a C dx u,v=.ref a/\PySem.W.nsIn K mainGlobals c=some (some (.ref C))/\H a=some (.ext (excAt a C (some dx)))/\H dx=some (.xd [(f,u)])/\Rep H d u
 | .dct,v=>∃a,v=.ref a/\H a=some (.ext (PySem.W.KitAt a "dict"))
 | .obj c fs ds,v=>∃a C dx us,v=.ref a/\PySem.W.nsIn K mainGlobals c=some (some (.ref C))/\H a=some (.ins C dx (fs.zip us))/\fs.length=us.length/\Reps H ds us
noncomputable def Reps (H:Hp):List D->List V->Prop
 | [],xs=>xs=[]
 | d :: ds,xs=>∃v vs,xs=v :: vs/\Rep H d v/\Reps H ds vs
end
end
theorem fi' {K:PySem.W.Frag} {H H':Hp} {a:Addr} {xs:List V} (e:Same H H') (h:SqT K H a xs):SqT K H' a xs:=by
 rcases h with (h | ⟨o,h⟩) | h
 ·exact .inl (.inl (e _ _ h))
 ·exact .inl (.inr ⟨o,e _ _ h⟩)
 ·exact .inr h
mutual
theorem Rep.mono {K:PySem.W.Frag} {H H':Hp} (e:Same H H'):∀{d:D} {v:V},Rep K H d v->Rep K H' d v
 | .non,_,h=>by rw [Rep] at h ⊢; exact h
 | .bl _,_,h=>by rw [Rep] at h ⊢; exact h
 | .int _,_,h=>by rw [Rep] at h ⊢; exact h
 | .str _,_,h=>by rw [Rep] at h ⊢; exact h
 | .tup ds,_,h=>by
  rw [Rep] at h ⊢;obtain ⟨a,xs,e1,e2,e3⟩:=h;exact ⟨a,xs,e1,fi' e e2,Reps.mono e e3⟩
 | .lst ds,_,h=>by
  rw [Rep] at h ⊢;obtain ⟨a,xs,e1,e2,e3⟩:=h;exact ⟨a,xs,e1,e.seq e2,Reps.mono e e3⟩
 | .exc _,_,h=>by
  rw [Rep] at h ⊢;obtain ⟨a,C,e1,e2,e3⟩:=h;exact ⟨a,C,e1,e2,e _ _ e3⟩
 | .excf _ _ d,_,h=>by
  rw [Rep] at h ⊢;obtain ⟨a,C,dx,u,e1,e2,e3,e4,e5⟩:=h;exact ⟨a,C,dx,u,e1,e2,e _ _ e3,e _ _ e4,Rep.mono e e5⟩
 | .dct,_,h=>by
  rw [Rep] at h ⊢;obtain ⟨a,e1,e2⟩:=h;exact ⟨a,e1,e _ _ e2⟩
 | .obj _ _ ds,_,h=>by
  rw [Rep] at h ⊢;obtain ⟨a,C,dx,us,e1,e2,e3,e4,e5⟩:=h;exact ⟨a,C,dx,us,e1,e2,e _ _ e3,e4,Reps.mono e e5⟩
theorem Reps.mono {K:PySem.W.Frag} {H H':Hp} (e:Same H H'):∀{ds:List D} {vs:List V},Reps K H ds vs->Reps K H' ds vs
 | [],_,h=>by rw [Reps] at h ⊢; exact h
 | d :: ds,_,h=>by
  rw [Reps] at h ⊢;obtain ⟨v,vs,e1,e2,e3⟩:=h;exact ⟨v,vs,e1,Rep.mono e e2,Reps.mono e e3⟩
end
theorem Reps.nil {K:PySem.W.Frag} {H:Hp}:Reps K H [] []:=by rw [Reps]
theorem Reps.cons {K:PySem.W.Frag} {H:Hp} {d:D} {v:V} {ds:List D} {vs:List V} (h:Rep K H d v) (t:Reps K H ds vs):Reps K H (d :: ds) (v :: vs):=by
 rw [Reps]; exact ⟨v,vs,rfl,h,t⟩
theorem Reps.nil_of {K:PySem.W.Frag} {H:Hp} {xs:List V} (h:Reps K H [] xs):xs=[]:=by rw [Reps] at h; exact h
theorem Reps.cons_of {K:PySem.W.Frag} {H:Hp} {d:D} {ds:List D} {xs:List V} (h:Reps K H (d :: ds) xs):∃v vs,xs=v :: vs/\Rep K H d v/\Reps K H ds vs:=by rw [Reps] at h; exact h
theorem Reps.length {K:PySem.W.Frag} {H:Hp}:∀{ds:List D} {vs:List V},Reps K H ds vs->vs.length=ds.length
 | [],_,h=>by rw [h.nil_of]; rfl
 | d :: ds,_,h=>by
  obtain ⟨v,vs,rfl,_,t⟩:=h.cons_of;simp [Reps.length t]
theorem Reps.isEmpty {K:PySem.W.Frag} {H:Hp} {ds:List D} {vs:List V} (h:Reps K H ds vs):vs.isEmpty=ds.isEmpty:=by
 cases ds with
 | nil=>rw [h.nil_of]; rfl
 | cons d ds=>obtain ⟨v,vs,rfl,_,_⟩:=h.cons_of; rfl
theorem Reps.get {K:PySem.W.Frag} {H:Hp}:∀{ds:List D} {vs:List V} {i:Nat} {d:D},Reps K H ds vs->ds[i]? = some d->∃v,vs[i]? = some v/\Rep K H d v
 | [],_,i,d,h,e=>by simp at e
 | d' :: ds,_,0,d,h,e=>by
  obtain ⟨v,vs,rfl,r,t⟩:=h.cons_of;simp at e; subst e;exact ⟨v,by simp,r⟩
 | d' :: ds,_,i + 1,d,h,e=>by
  obtain ⟨v,vs,rfl,r,t⟩:=h.cons_of;simp at e;obtain ⟨u,e1,e2⟩:=Reps.get t e;exact ⟨u,by simpa using e1,e2⟩
theorem Reps.get' {K:PySem.W.Frag} {H:Hp}:∀{ds:List D} {vs:List V} {i:Nat} {v:V},Reps K H ds vs->vs[i]? = some v->∃d,ds[i]? = some d/\Rep K H d v
 | [],_,i,v,h,e=>by rw [h.nil_of] at e; simp at e
 | d' :: ds,_,0,v,h,e=>by
  obtain ⟨v',vs,rfl,r,t⟩:=h.cons_of;simp at e; subst e;exact ⟨d',by simp,r⟩
 | d' :: ds,_,i + 1,v,h,e=>by
  obtain ⟨v',vs,rfl,r,t⟩:=h.cons_of;simp at e;obtain ⟨u,e1,e2⟩:=Reps.get' t e;exact ⟨u,by simpa using e1,e2⟩
theorem Reps.append {K:PySem.W.Frag} {H:Hp}:∀{ds es:List D} {vs ws:List V},Reps K H ds vs->Reps K H es ws->Reps K H (ds ++ es) (vs ++ ws)
 | [],_,_,_,h,t=>by rw [h.nil_of]; exact t
 | d :: ds,_,_,_,h,t=>by
  obtain ⟨v,vs,rfl,r,q⟩:=h.cons_of;exact Reps.cons r (Reps.append q t)
theorem Reps.take {K:PySem.W.Frag} {H:Hp}:∀(n:Nat) {ds:List D} {vs:List V},Reps K H ds vs->Reps K H (ds.take n) (vs.take n)
 | 0,_,_,_=>by simpa using Reps.nil
 | n + 1,[],_,h=>by rw [h.nil_of]; simpa using Reps.nil
 | n + 1,d :: ds,_,h=>by
  obtain ⟨v,vs,rfl,r,q⟩:=h.cons_of;simpa using Reps.cons r (Reps.take n q)
theorem Reps.drop {K:PySem.W.Frag} {H:Hp}:∀(n:Nat) {ds:List D} {vs:List V},Reps K H ds vs->Reps K H (ds.drop n) (vs.drop n)
 | 0,_,_,h=>by simpa using h
 | n + 1,[],_,h=>by rw [h.nil_of]; simpa using Reps.nil
 | n + 1,d :: ds,_,h=>by
  obtain ⟨v,vs,rfl,r,q⟩:=h.cons_of;simpa using Reps.drop n q
inductive SV where
 | val (d:D)
 | arg (d:D)
 | own (ds:List D)
abbrev DS:=List (Option SV)
noncomputable def SV.view:SV->D
 | .val d=>d
 | .arg d=>d
 | .own ds=>.lst ds
noncomputable def RepSV (K:PySem.W.Frag) (G H:Hp):SV->V->Prop
 | .val d,v=>Rep K H d v
 | .arg d,v=>Rep K G d v
 | .own ds,v=>∃a xs,v=.ref a/\H a=some (.lst xs)/\Reps K H ds xs/\G a=none
structure RepSt (K:PySem.W.Frag) (G H:Hp) (σ:St) (δ:DS):Prop where
 same:Same G H
 len:σ.length=δ.length
 at_:∀(i:Nat) (sv:SV),δ[i]? = some (some sv)->∃v,σ[i]? = some (some v)/\RepSV K G H sv v
 sep:∀(i j:Nat) (ds es:List D) (v:V),i≠j->δ[i]? = some (some (.own ds))->δ[j]? = some (some (.own es))->σ[i]? = some (some v)->σ[j]?≠some (some v)
structure TK (H H':Hp):Prop where
 tup:∀b xs,H b=some (.tup xs)->H' b=some (.tup xs)
 frz:∀b o u,H b=some (.frz o u)->H' b=some (.frz o u)
 trk:∀b,H' b=none->H b=none
theorem _root_.L2.Same.tk {H H':Hp} (e:Same H H'):TK H H':=⟨fun b xs h=>e b _ h,fun b o u h=>e b _ h,fun b h=>e.free h⟩
theorem TK.refl (H:Hp):TK H H:=⟨fun _ _ h=>h,fun _ _ _ h=>h,fun _ h=>h⟩
theorem TK.trans {H H1 H2:Hp} (a:TK H H1) (b:TK H1 H2):TK H H2:=⟨fun c xs h=>b.tup c xs (a.tup c xs h),fun c o u h=>b.frz c o u (a.frz c o u h),fun c h=>a.trk c (b.trk c h)⟩
theorem RepSt.mono {K:PySem.W.Frag} {G H H':Hp} {σ:St} {δ:DS} (R:RepSt K G H σ δ) (e:Same H H'):RepSt K G H' σ δ where
 same:=R.same.trans e
 len:=R.len
 at_:=fun i sv h=>by
  obtain ⟨v,e1,e2⟩:=R.at_ i sv h;refine ⟨v,e1,?_⟩
  cases sv with
  | val d=>exact Rep.mono e e2
  | arg d=>exact e2
  | own ds =>
   obtain ⟨a,xs,q1,q2,q3,q4⟩:=e2;exact ⟨a,xs,q1,e _ _ q2,q3.mono e,q4⟩
 sep:=R.sep
theorem RepSt.view {K:PySem.W.Frag} {G H:Hp} {σ:St} {δ:DS} (R:RepSt K G H σ δ) {i:Nat} {sv:SV} (h:δ[i]? = some (some sv)):∃v,σ[i]? = some (some v)/\Rep K H sv.view v:=by
 obtain ⟨v,e1,e2⟩:=R.at_ i sv h;refine ⟨v,e1,?_⟩
 cases sv with
 | val d=>exact e2
 | arg d=>exact Rep.mono R.same e2
 | own ds =>
  obtain ⟨a,xs,rfl,q2,q3,q4⟩:=e2;show Rep K H (.lst ds) _;rw [Rep];exact ⟨a,xs,rfl,SqL.of q2,q3⟩
theorem RepSt.set {K:PySem.W.Frag} {G H:Hp} {σ:St} {δ:DS} (R:RepSt K G H σ δ) (i:Nat) {d:D} {v:V} (h:Rep K H d v):RepSt K G H (σ.set i (some v)) (δ.set i (some (.val d))) where
 same:=R.same
 len:=by simpa using R.len
 at_:=fun j sv e=>by
  by_cases hj:i=j
  ·subst hj;have hl:i < δ.length:=by
    rw [List.getElem?_set] at e
    by_cases q:i < δ.length
    ·exact q
    ·simp [q] at e
   rw [List.getElem?_set_self hl] at e
   cases e
   exact ⟨v,by rw [List.getElem?_set_self (by rw [R.len]; exact hl)],h⟩
  ·rw [List.getElem?_set_ne hj] at e;obtain ⟨u,e1,e2⟩:=R.at_ j sv e;exact ⟨u,by rw [List.getElem?_set_ne hj]; exact e1,e2⟩
 sep:=fun j k ds es u hjk e1 e2 e3=>by
  have n1:i≠j:=by
   rintro rfl
   rw [List.getElem?_set] at e1
   split at e1
   ·split at e1 <;> cases e1
   ·omega
  have n2:i≠k:=by
   rintro rfl
   rw [List.getElem?_set] at e2
   split at e2
   ·split at e2 <;> cases e2
   ·omega
  rw [List.getElem?_set_ne n1] at e1 e3;rw [List.getElem?_set_ne n2] at e2;rw [List.getElem?_set_ne n2];exact R.sep j k ds es u hjk e1 e2 e3
theorem RepSt.setOwn {K:PySem.W.Frag} {G H H':Hp} {σ:St} {δ:DS} (R:RepSt K G H σ δ) (e:Same H H') (i:Nat) {ds:List D} {a:Addr} {xs:List V} (hn:H a=none) (h:H' a=some (.lst xs)) (r:Reps K H' ds xs) :
  RepSt K G H' (σ.set i (some (.ref a))) (δ.set i (some (.own ds))) where
 same:=R.same.trans e
 len:=by simpa using R.len
 at_:=fun j sv q=>by
  have R':=R.mono e
  by_cases hj:i=j
  ·subst hj;have hl:i < δ.length:=by
    rw [List.getElem?_set] at q
    by_cases z:i < δ.length
    ·exact z
    ·simp [z] at q
   rw [List.getElem?_set_self hl] at q
   cases q
   exact ⟨.ref a,by rw [List.getElem?_set_self (by rw [R.len]; exact hl)],a,xs,rfl,h,r,R.same.free hn⟩
  ·rw [List.getElem?_set_ne hj] at q;obtain ⟨u,e1,e2⟩:=R'.at_ j sv q;exact ⟨u,by rw [List.getElem?_set_ne hj]; exact e1,e2⟩
 sep:=fun j k ds' es u hjk e1 e2 e3=>by
  have old:∀(m:Nat) (fs:List D) (z:V),δ[m]? = some (some (.own fs))->σ[m]? = some (some z)->z≠.ref a:=fun m fs z q1 q2 q3=>by
   obtain ⟨v,w1,b,ys,w2,w3,_⟩:=R.at_ m _ q1;rw [q2] at w1
   cases w1
   rw [q3] at w2
   cases w2
   rw [hn] at w3
   cases w3
  by_cases hj:i=j
  ·subst hj;have nk:i≠k:=hjk;rw [List.getElem?_set_ne nk] at e2;rw [List.getElem?_set_ne nk];intro q;have ev:u=.ref a:=by
    rw [List.getElem?_set] at e3
    split at e3
    ·split at e3
     ·cases e3; rfl
     ·cases e3
    ·omega
   exact old k es u e2 q ev
  ·rw [List.getElem?_set_ne hj] at e1 e3
   by_cases hk:i=k
   ·subst hk;intro q;have ev:u=.ref a:=by
     rw [List.getElem?_set] at q
     split at q
     ·split at q
      ·cases q; rfl
      ·cases q
     ·omega
    exact old j ds' u e1 e3 ev
   ·rw [List.getElem?_set_ne hk] at e2;rw [List.getElem?_set_ne hk];exact R.sep j k ds' es u hjk e1 e2 e3
theorem obj_some {P:Program} {w:World} {H:Hp} {h:Heap} {a:Addr} {o:HO} (x:ObjOk P w H h a o):∃ob,h.get? a=some ob:=by
 cases o with
 | lst xs=>obtain ⟨_,_,_,_,e⟩:=x; exact ⟨_,e⟩
 | tup xs=>obtain ⟨_,_,_,o,e,_⟩:=x; exact ⟨o,e⟩
 | dK kvs=>obtain ⟨_,_,_,_,o,_,_,e,_⟩:=x; exact ⟨o,e⟩
 | dT kvs=>obtain ⟨_,_,_,_,o,_,_,e,_⟩:=x; exact ⟨o,e⟩
 | set S n=>obtain ⟨o,_,_,_,e,_⟩:=x; exact ⟨o,e⟩
 | ins C dx fs=>obtain ⟨_,_,_,e,_⟩:=x; exact ⟨_,e⟩
 | own y=>obtain ⟨o,e⟩:=x; exact ⟨o,e⟩
 | xd fs=>obtain ⟨_,⟨o,_,_,e,_⟩,_⟩:=x; exact ⟨o,e⟩
 | rng lo hi=>obtain ⟨_,_,_,e⟩:=x; exact ⟨_,e⟩
 | frz ob u=>obtain ⟨e,_⟩:=x; exact ⟨_,e⟩
 | tbl ps=>exact ⟨_,show h.get? a=some _ from x⟩
 | met f y=>exact ⟨_,show h.get? a=some _ from x⟩
 | ext φ=>obtain ⟨_,⟨o,e⟩,_⟩:=x; exact ⟨o,e⟩
noncomputable def NoRec (h:Heap) (e:Addr):Prop:=∀o vs,h.get? e=some o->o.data≠.fields vs
noncomputable def Back (H:Hp) (h h1:Heap):Prop:=∀e,H e=none->NoRec h1 e->NoRec h e
theorem Back.refl (H:Hp) (h:Heap):Back H h h:=fun _ _ q=>q
theorem Back.trans {H H1:Hp} {h h1 h2:Heap} (a:Back H h h1) (b:Back H1 h1 h2) (k:∀e,H e=none->NoRec h2 e->H1 e=none):Back H h h2:=fun e n q=>a e n (b e (k e n q) q)
noncomputable def Fly (h0:Heap) (H:Hp) (h:Heap) (e:Addr) (cls:Value×Option Addr):Prop :=
 NoRec h0 e/\H e=none/\∃oe vs a0,h.get? e=some oe/\(oe.cls=cls.1/\oe.dict=cls.2)/\oe.data=.fields vs/\vs[0]? = some a0 /\
  (vs[1]? = some .none\/∃T oT ts,vs[1]? = some (.ref T)/\NoRec h0 T/\H T=none/\T≠e/\h.get? T=some oT/\oT.data=.fields ts/\ts[3]? = some .none)
theorem Fly.back {h0 h1 h:Heap} {H0 H1 H:Hp} {e:Addr} {cls:Value×Option Addr} (f:Fly h1 H h e cls) (e1:TK H0 H1) (e2:TK H1 H) (b:Back H0 h0 h1):Fly h0 H h e cls:=by
 obtain ⟨n,he,oe,vs,a0,q1,q2,q3,q4,q5⟩:=f;refine ⟨b e (e1.trk e (e2.trk e he)) n,he,oe,vs,a0,q1,q2,q3,q4,?_⟩;rcases q5 with q5 | ⟨T,oT,ts,w1,w2,w3,w4⟩
 ·exact .inl q5
 ·exact .inr ⟨T,oT,ts,w1,b T (e1.trk T (e2.trk T w3)) w2,w3,w4⟩
noncomputable def Pay (K:PySem.W.Frag) (H:Hp) (x:Exn) (dd:Option Addr):Prop:=match x.pay with
 | none=>dd=none
 | some (f,d)=>∃dx u,dd=some dx/\H dx=some (.xd [(f,u)])/\Rep K H d u
noncomputable def FlyX (K:PySem.W.Frag) (x:Exn) (h0:Heap) (H:Hp) (h:Heap) (e C:Addr):Prop:=∃dd,Pay K H x dd/\Fly h0 H h e (.ref C,dd)
theorem FlyX.back {K:PySem.W.Frag} {x:Exn} {h0 h1 h:Heap} {H0 H1 H:Hp} {e C:Addr} (f:FlyX K x h1 H h e C) (e1:TK H0 H1) (e2:TK H1 H) (b:Back H0 h0 h1):FlyX K x h0 H h e C:=by
 obtain ⟨dd,p,f⟩:=f;exact ⟨dd,p,f.back e1 e2 b⟩
noncomputable def EPost (X:Cx) (pins:List (Addr×Obj)) (σ:St) (H:Hp) (r:Res D) (u:Value) (s1:Shared):Prop:=∃d v H1,r=.ok d/\Inv X pins σ H1 s1/\RelV v u/\Same H H1/\Rep X.K H1 d v
noncomputable def XPost {α:Type} (X:Cx) (pins:List (Addr×Obj)) (σ:St) (H:Hp) (h0:Heap) (r:Res α) (e:Value) (s1:Shared):Prop :=
 ∃x a C H1,r=.err x/\e=.ref a/\Inv X pins σ H1 s1/\Same H H1/\PySem.W.nsIn X.K mainGlobals x.cls=some (some (.ref C))/\FlyX X.K x h0 H1 s1.heap a C
theorem XPost.back {α β:Type} {X:Cx} {pins:List (Addr×Obj)} {σ:St} {H H1:Hp} {h h1:Heap} {r:Res α} {r':Res β} {e:Value} {s1:Shared} (p:XPost X pins σ H1 h1 r e s1) (e1:Same H H1) (b:Back H h h1) (hr:∀x,r=.err x->r'=.err x):XPost X pins σ H h r' e s1:=by
 obtain ⟨x,a,C,H2,q1,q2,q3,q4,q5,q6⟩:=p;exact ⟨x,a,C,H2,hr x q1,q2,q3,e1.trans q4,q5,q6.back e1.tk q4.tk b⟩
theorem XPost.same {α β:Type} {X:Cx} {pins:List (Addr×Obj)} {σ:St} {H:Hp} {h:Heap} {r:Res α} {r':Res β} {e:Value} {s1:Shared} (p:XPost X pins σ H h r e s1) (hr:∀x,r=.err x->r'=.err x):XPost X pins σ H h r' e s1:=p.back (Same.refl H) (Back.refl H h) hr
theorem XPost.none {α:Type} {X:Cx} {pins:List (Addr×Obj)} {σ:St} {H:Hp} {h0:Heap} {a:α} {e:Value} {s1:Shared} (p:XPost X pins σ H h0 (.ok a) e s1):False:=by
 obtain ⟨x,_,_,_,q,_⟩:=p; cases q
noncomputable def PD (X:Cx) (e:Expr) (f:DS->Res D):Prop :=
 ∀(pins:List (Addr×Obj)) (s:Shared) (σ:St) (G H:Hp) (δ:DS),Inv X pins σ H s->RepSt X.K G H σ δ->f δ≠.stuck ->
  wpAny (model X.prog X.w) X.A (eval e X.env) (EPost X pins σ H (f δ)) (XPost X pins σ H s.heap (f δ)) s
open Classical in
noncomputable def allP (X:Cx) (H:Hp) (h:Heap):List (Addr×Obj) :=
 (List.range h.objs.size).filterMap fun a=>(h.get? a).bind fun o=>if H a=none/\a≠X.env.locals/\a∉X.fs/\(∀v,o.data≠.cell v) then some (a,o) else none
theorem jS' {X:Cx} {H:Hp} {h:Heap} {p:Addr×Obj} (hp:p∈allP X H h):h.get? p.1=some p.2/\H p.1=none/\p.1≠X.env.locals/\p.1∉X.fs/\∀v,p.2.data≠.cell v:=by
 obtain ⟨a,_,e⟩:=List.mem_filterMap.mp hp
 cases q:h.get? a with
 | none=>rw [q] at e; cases e
 | some o =>
  rw [q] at e;simp only [Option.bind_some] at e
  split at e
  ·rename_i c
   cases e
   exact ⟨q,c⟩
  ·cases e
theorem in' {X:Cx} {H:Hp} {h:Heap} {a:Addr} {o:Obj} (e:h.get? a=some o) (c:H a=none/\a≠X.env.locals/\a∉X.fs/\∀v,o.data≠.cell v):(a,o)∈allP X H h:=by
 refine List.mem_filterMap.mpr ⟨a,List.mem_range.mpr (Heap.lt_size e),?_⟩;rw [e];simp only [Option.bind_some];rw [if_pos c]
section
variable {X:Cx} {pins:List (Addr×Obj)} {s:Shared} {σ:St} {G H:Hp} {δ:DS}
theorem _root_.L2.Inv.all (I:Inv X pins σ H s):Inv X (pins ++ allP X H s.heap) σ H s :=
 I.pins_of fun p hp=>(List.mem_append.mp hp).elim (fun z=>I.pin p (List.mem_append_right _ z)) jS'
theorem _root_.L2.Inv.locals_dict (I:Inv X pins σ H s) {o:Obj} {vs:Array Value} (e:s.heap.get? X.env.locals=some o):o.data≠.fields vs:=by
 obtain ⟨m,⟨o',es,ep,ho,hd,_⟩,_⟩:=I.loc;rw [e] at ho; cases ho;rw [hd]; intro z; cases z
theorem _root_.L2.Inv.fs_rec (I:Inv X pins σ H s) {b:Addr} (hb:b∈X.fs) {o:Obj} {vs:Array Value} (e:s.heap.get? b=some o):o.data≠.fields vs:=by
 obtain ⟨_,o',ho,hd⟩:=I.funs.mem hb;rw [e] at ho; cases ho;exact hd vs
theorem _root_.L2.Inv.backTo {σ1:St} {H1:Hp} {s1:Shared} (I:Inv X pins σ H s) (J:Inv X (pins ++ allP X H s.heap) σ1 H1 s1):Back H s.heap s1.heap:=by
 intro e n q o vs ho hd;have hm:(e,o)∈allP X H s.heap:=in' ho ⟨n,fun z=>by subst z; exact I.locals_dict ho hd,fun z=>I.fs_rec z ho hd,fun v z=>by rw [hd] at z; cases z⟩;exact q o vs (J.pin (e,o) (List.mem_append_right _ (List.mem_append_right _ hm))).1 hd
theorem PD.use {e:Expr} {f:DS->Res D} (h:PD X e f) (I:Inv X pins σ H s) (R:RepSt X.K G H σ δ) (hs:f δ≠.stuck) {P E:Value->Shared->Prop}
  (k:∀d u s1 v H1,f δ=.ok d->Inv X pins σ H1 s1->RelV v u->Same H H1->Back H s.heap s1.heap->Rep X.K H1 d v->P u s1)
  (kx:∀e s1,XPost X pins σ H s.heap (f δ) e s1->E e s1):wpAny (model X.prog X.w) X.A (eval e X.env) P E s:=by
 refine wpAny_mono (h (pins ++ allP X H s.heap) s σ G H δ I.all R hs) (fun u s1 ⟨d,v,H1,q1,q2,q3,q4,q5⟩=>k d u s1 v H1 q1 q2.unpinned q3 q4 (I.backTo q2) q5) fun e s1 ⟨x,a,C,H1,q1,q2,q3,q4,q5,q6⟩=>kx e s1 ⟨x,a,C,H1,q1,q2,q3.unpinned,q4,q5,q6⟩
end
section
variable {X:Cx} {e:Expr} {pos:Pos}
theorem cJ' {d:D} {v:V} (h:∀E,PE (X.wish E) e (tC v)) (hr:∀H,Rep X.K H d v):PD X e (fun _=>.ok d):=by
 intro pins s σ G H δ I R _;refine wpAny_mono (h (fun _ _=>False) pins s σ H (fun v' H'=>v'=v/\H'=H) (I.wish _) ⟨rfl,rfl⟩) (fun u s1 q=>?_) fun _ _ z=>z.elim;obtain ⟨v',H',I',r',e1,e2⟩:=q;subst e1 e2;exact ⟨d,v',H',rfl,I'.unwish,r',Same.refl _,hr _⟩
theorem af' {i:Int} {j}:PD X (.Constant (.int i) j pos) (fun _=>.ok (.int i)):=cJ' (fun _=>lg') (fun _=>by rw [Rep])
theorem dA' {k:Bool} {j}:PD X (.Constant (.bool k) j pos) (fun _=>.ok (.bl k)):=cJ' (fun _=>mk') (fun _=>by rw [Rep])
theorem be' {j}:PD X (.Constant .none j pos) (fun _=>.ok .non):=cJ' (fun _=>lh') (fun _=>by rw [Rep])
theorem am' {x:Str} {j}:PD X (.Constant (.str x) j pos) (fun _=>.ok (.str x)):=cJ' (fun _=>li') (fun _=>by rw [Rep])
theorem eP' {x:Str} {d:D} {v:V} {u:Value} (hg:Gl X x) (hm:X.mg x=some u) (r:RelV v u) (hr:∀H,Rep X.K H d v) (hd:(x == ("__debug__" : Str))=false:=by decide):PD X (.Name x pos) (fun _=>.ok d) :=
 cJ' (fun _=>jJ' hg hm r hd) hr
noncomputable def slotD (i:Nat):DS->Res D:=fun δ=>match δ[i]? with | some (some sv)=>.ok sv.view | _=>.stuck
theorem ab' (i:Nat) {x:Str} (hN:X.N[i]? = some x:=by rfl) (hv:Vis X.env.scope x:=by first | exact Or.inl rfl | exact Or.inr (Or.inl rfl) | exact Or.inr (Or.inr rfl)) (hd:(x == ("__debug__" : Str))=false:=by decide)
  (hcd:(x == ("__classdict__" : Str))=false:=by decide):PD X (.Name x pos) (slotD i):=by
 intro pins s σ G H δ I R hs
 try dsimp only at hs ⊢
 unfold slotD at hs ⊢
 split at hs
 ·rename_i sv e;obtain ⟨v,e1,e2⟩:=R.view e;refine wpAny_mono (fh' (X:=X.wish fun _ _=>False) hN hv hd hcd pins s σ H (fun v' H'=>v'=v/\H'=H) (I.wish _) ⟨v,e1,rfl,rfl⟩) (fun u s1 q=>?_) fun _ _ z=>z.elim;obtain ⟨v',H',I',r',e3,e4⟩:=q;subst e3 e4;exact ⟨_,v',H',rfl,I'.unwish,r',Same.refl _,e2⟩
 ·exact (hs rfl).elim
end
noncomputable def OpD (X:Cx) (f:Value->Value->Sem Value) (g:D->D->Res D):Prop :=
 ∀(E:Value->Shared->Prop) (pins:List (Addr×Obj)) (s:Shared) (σ:St) (H:Hp) (x y:V) (v u:Value) (a b d:D),Inv X pins σ H s->RelV x v->RelV y u->Rep X.K H a x->Rep X.K H b y->g a b=.ok d ->
  wpAny (model X.prog X.w) X.A (f v u) (EPost X pins σ H (.ok d)) E s
noncomputable def NoErr {α:Type} (r:Res α):Prop:=∀x,r≠.err x
noncomputable def two (fa fb:DS->Res D) (g:D->D->Res D):DS->Res D:=fun δ=>(fa δ).bind fun x=>(fb δ).bind fun y=>g x y
theorem mo' {fa fb:DS->Res D} {g:D->D->Res D} {δ:DS} (h:two fa fb g δ≠.stuck):fa δ≠.stuck:=fun q=>h (by unfold two; rw [q]; rfl)
theorem mp' {fa fb:DS->Res D} {g:D->D->Res D} {δ:DS} {x:D} (h:two fa fb g δ≠.stuck) (q1:fa δ=.ok x):fb δ≠.stuck:=fun q=>h (by unfold two; rw [q1,Res.bind_ok,q]; rfl)
theorem mq' {fa fb:DS->Res D} {g:D->D->Res D} {δ:DS} {x y:D} (q1:fa δ=.ok x) (q2:fb δ=.ok y):two fa fb g δ=g x y:=by unfold two; rw [q1,Res.bind_ok,q2,Res.bind_ok]
theorem mr' {fa fb:DS->Res D} {g:D->D->Res D} {δ:DS} {x:Exn} (q1:fa δ=.err x):two fa fb g δ=.err x:=by unfold two; rw [q1]; rfl
theorem ms' {fa fb:DS->Res D} {g:D->D->Res D} {δ:DS} {x:D} {y:Exn} (q1:fa δ=.ok x) (q2:fb δ=.err y):two fa fb g δ=.err y:=by unfold two; rw [q1,Res.bind_ok,q2]; rfl
section
variable {X:Cx} {a b:Expr} {fa fb:DS->Res D} {pos:Pos}
theorem gB' {g:D->D->Res D} {pins:List (Addr×Obj)} {s:Shared} {σ:St} {G H:Hp} {δ:DS} (ha:PD X a fa) (hb:PD X b fb) (I:Inv X pins σ H s) (R:RepSt X.K G H σ δ) (hs:two fa fb g δ≠.stuck) {P:Value->Value->Shared->Prop} {E:Value->Shared->Prop}
  (k:∀x y v u s2 vx vy H2,two fa fb g δ=g x y->Inv X pins σ H2 s2->RelV vx v->RelV vy u->Same H H2->Rep X.K H2 x vx->Rep X.K H2 y vy->P v u s2)
  (kx:∀e s1,XPost X pins σ H s.heap (two fa fb g δ) e s1->E e s1) :
  wpAny (model X.prog X.w) X.A (eval a X.env) (fun v s1=>wpAny (model X.prog X.w) X.A (eval b X.env) (fun u s2=>P v u s2) E s1) E s:=by
 refine ha.use I R (mo' hs) (fun x u s1 v H1 qa I1 r1 e1 b1 p1=>?_) fun e s1 q=>kx e s1 (q.same fun x z=>mr' z);refine hb.use I1 (R.mono e1) (mp' hs qa) (fun y u2 s2 v2 H2 qb I2 r2 e2 b2 p2=>?_) fun e s2 q=>kx e s2 (q.back e1 b1 fun x z=>ms' qa z);exact k x y u u2 s2 v v2 H2 (mq' qa qb) I2 r1 r2 (e1.trans e2) (p1.mono e2) p2
theorem EPost.from {X:Cx} {pins:List (Addr×Obj)} {σ:St} {H H1:Hp} {r r':Res D} {u:Value} {s1:Shared} (p:EPost X pins σ H1 r u s1) (e:Same H H1) (q:r=r'):EPost X pins σ H r' u s1:=by
 obtain ⟨d,v,H2,q1,q2,q3,q4,q5⟩:=p;exact ⟨d,v,H2,q ▸ q1,q2,q3,e.trans q4,q5⟩
theorem gC' {g:D->D->Res D} {pins:List (Addr×Obj)} {s:Shared} {σ:St} {G H:Hp} {δ:DS} {f:Value->Value->Sem Value} (ho:OpD X f g) (hg:∀x y,NoErr (g x y)) (ha:PD X a fa) (hb:PD X b fb) (I:Inv X pins σ H s) (R:RepSt X.K G H σ δ) (hs:two fa fb g δ≠.stuck) {E:Value->Shared->Prop}
  (kx:∀e s1,XPost X pins σ H s.heap (two fa fb g δ) e s1->E e s1) :
  wpAny (model X.prog X.w) X.A (eval a X.env) (fun v s1=>wpAny (model X.prog X.w) X.A (eval b X.env) (fun u s2=>wpAny (model X.prog X.w) X.A (f v u) (EPost X pins σ H (two fa fb g δ)) E s2) E s1) E s:=by
 refine gB' ha hb I R hs (fun x y v u s2 vx vy H2 q I2 r1 r2 e2 p1 p2=>?_) kx
 cases qg:g x y with
 | stuck=>exact (hs (q.trans qg)).elim
 | err z=>exact (hg x y z qg).elim
 | ok d=>exact thn (ho E pins s2 σ H2 vx vy v u x y d I2 r1 r2 p1 p2 qg) fun w s3 p=>p.from e2 (qg.symm.trans q.symm)
theorem ao' {op:Operator} {g:D->D->Res D} (ho:OpD X (binaryOp op) g) (hg:∀x y,NoErr (g x y)) (ha:PD X a fa) (hb:PD X b fb):PD X (.BinOp a op b pos) (two fa fb g) :=
 fun pins s σ G H δ I R hs=>wpAny_BinOp (gC' ho hg ha hb I R hs fun _ _ q=>q)
theorem fj' {op:CmpOp} {g:D->D->Res D} (ho:OpD X (compareOp op) g) (hg:∀x y,NoErr (g x y)) (ha:PD X a fa) (hb:PD X b fb) (hm:behindInMarks op b=false):PD X (.Compare a [op] [b] pos) (two fa fb g) :=
 fun pins s σ G H δ I R hs=>wpAny_Compare1 (gC' ho hg ha hb I R hs fun _ _ q=>q) hm
theorem OpD.of {f:Value->Value->Sem Value} {r:R2} {g:D->D->Res D} (ho:∀E,OpR (X.wish E) f r)
  (h:∀(H:Hp) (x y:V) (a b d:D) (Q:VK),Rep X.K H a x->Rep X.K H b y->g a b=.ok d->(∀z H',Same H H'->Rep X.K H' d z->Q z H')->r x y H Q):OpD X f g :=
 fun E pins s σ H x y v u a b d I r1 r2 p1 p2 e=>thn (ho E pins s σ H x y v u (fun z H'=>Same H H'/\Rep X.K H' d z) (I.wish _) r1 r2 (h H x y a b d _ p1 p2 e fun z H' a b=>⟨a,b⟩)) fun w s1 ⟨z,H1,I1,r3,e1,p3⟩=>⟨d,z,H1,rfl,I1.unwish,r3,e1,p3⟩
end
noncomputable def TPost (X:Cx) (pins:List (Addr×Obj)) (σ:St) (H:Hp) (r:Res Bool) (u:Bool) (s1:Shared):Prop:=∃H1,r=.ok u/\Inv X pins σ H1 s1/\Same H H1
noncomputable def PTD (X:Cx) (e:Expr) (f:DS->Res Bool):Prop :=
 ∀(pins:List (Addr×Obj)) (s:Shared) (σ:St) (G H:Hp) (δ:DS),Inv X pins σ H s->RepSt X.K G H σ δ->f δ≠.stuck ->
  wpAny (model X.prog X.w) X.A (isTrue e X.env (eval e X.env)) (TPost X pins σ H (f δ)) (XPost X pins σ H s.heap (f δ)) s
noncomputable def PWD (X:Cx) (e:Expr) (f:DS->Res Bool):Prop :=
 ∀(wh:Sem Value) (pins:List (Addr×Obj)) (s:Shared) (σ:St) (G H:Hp) (δ:DS),Inv X pins σ H s->RepSt X.K G H σ δ->f δ≠.stuck ->
  wpAny (model X.prog X.w) X.A (isTrue e X.env wh) (TPost X pins σ H (f δ)) (XPost X pins σ H s.heap (f δ)) s
theorem PWD.pt {X:Cx} {e:Expr} {f:DS->Res Bool} (h:PWD X e f):PTD X e f:=h _
section
variable {X:Cx} {pins:List (Addr×Obj)} {s:Shared} {σ:St} {G H:Hp} {δ:DS}
theorem jT' {t:Sem Bool} {f:DS->Res Bool} (h:∀pins,Inv X pins σ H s->wpAny (model X.prog X.w) X.A t (TPost X pins σ H (f δ)) (XPost X pins σ H s.heap (f δ)) s) (I:Inv X pins σ H s) {P:Bool->Shared->Prop} {E:Value->Shared->Prop}
  (k:∀d s1 H1,f δ=.ok d->Inv X pins σ H1 s1->Same H H1->Back H s.heap s1.heap->P d s1) (kx:∀e s1,XPost X pins σ H s.heap (f δ) e s1->E e s1):wpAny (model X.prog X.w) X.A t P E s:=by
 refine wpAny_mono (h (pins ++ allP X H s.heap) I.all) (fun d s1 ⟨H1,q1,q2,q3⟩=>k d s1 H1 q1 q2.unpinned q3 (I.backTo q2)) fun e s1 ⟨x,a,C,H1,q1,q2,q3,q4,q5,q6⟩=>kx e s1 ⟨x,a,C,H1,q1,q2,q3.unpinned,q4,q5,q6⟩
theorem PTD.use {e:Expr} {f:DS->Res Bool} (h:PTD X e f) (I:Inv X pins σ H s) (R:RepSt X.K G H σ δ) (hs:f δ≠.stuck) {P:Bool->Shared->Prop} {E:Value->Shared->Prop}
  (k:∀d s1 H1,f δ=.ok d->Inv X pins σ H1 s1->Same H H1->Back H s.heap s1.heap->P d s1) (kx:∀e s1,XPost X pins σ H s.heap (f δ) e s1->E e s1):wpAny (model X.prog X.w) X.A (isTrue e X.env (eval e X.env)) P E s :=
 jT' (f:=f) (δ:=δ) (fun pins I=>h pins s σ G H δ I R hs) I k kx
theorem PWD.use {e:Expr} {f:DS->Res Bool} (h:PWD X e f) (wh:Sem Value) (I:Inv X pins σ H s) (R:RepSt X.K G H σ δ) (hs:f δ≠.stuck) {P:Bool->Shared->Prop} {E:Value->Shared->Prop}
  (k:∀d s1 H1,f δ=.ok d->Inv X pins σ H1 s1->Same H H1->Back H s.heap s1.heap->P d s1) (kx:∀e s1,XPost X pins σ H s.heap (f δ) e s1->E e s1):wpAny (model X.prog X.w) X.A (isTrue e X.env wh) P E s :=
 jT' (f:=f) (δ:=δ) (fun pins I=>h wh pins s σ G H δ I R hs) I k kx
end
noncomputable def truthD:D->Res Bool
 | .non=>.ok false
 | .bl b=>.ok b
 | .int i=>.ok (i != 0)
 | .str x=>if x.length<=sizeLine then .ok ((x.length:Int) != 0) else .stuck
 | .tup ds=>.ok (!ds.isEmpty)
 | .lst ds=>.ok (!ds.isEmpty)
 | _=>.stuck
noncomputable def boolD:D->Res Bool
 | .bl b=>.ok b
 | _=>.stuck
theorem fk' {d:D} (h:boolD d≠.stuck):∃b,d=.bl b:=by
 cases d with
 | bl b=>exact ⟨b,rfl⟩
 | _=>exact (h rfl).elim
theorem az' {α β:Type} {r:Res α} {f:α->Res β} (h:r.bind f≠.stuck):r≠.stuck:=fun q=>h (by rw [q]; rfl)
theorem aD' {α β:Type} {r:Res α} {f:α->Res β} {a:α} (h:r.bind f≠.stuck) (e:r=.ok a):f a≠.stuck:=fun q=>h (by rw [e,Res.bind_ok,q])
theorem aB' {α β:Type} {r:Res α} {f:α->Res β} {x:Exn} (e:r=.err x):r.bind f=.err x:=by rw [e]; rfl
section
variable {X:Cx} {a b:Expr} {rest:List Expr} {fa:DS->Res D} {ta tb:DS->Res Bool} {pos:Pos}
theorem an' {op:CmpOp} {fb:DS->Res D} {g:D->D->Res D} (ho:OpD X (compareOp op) g) (hg:∀x y,NoErr (g x y)) (ha:PD X a fa) (hb:PD X b fb) (hm:behindInMarks op b=false):PTD X (.Compare a [op] [b] pos) (fun δ=>(two fa fb g δ).bind boolD):=by
 intro pins s σ G H δ I R hs
 try dsimp only at hs ⊢
 refine wpAny_isTrue_Compare1 (thn (gC' ho hg ha hb I R (az' hs) (fun _ _ q=>q.same fun x z=>aB' z)) fun v s1 h1=>thn h1 fun u s2 h2=>thn h2 fun c s3 ⟨d,x,H1,q1,I1,r1,e1,p1⟩=>?_) hm;obtain ⟨k,rfl⟩:=fk' (aD' hs q1);rw [Rep] at p1;subst p1
 cases r1
 exact wpAny_truthy_bool ⟨H1,by rw [q1]; rfl,I1,e1⟩
theorem aH' (ha:PD X a fa) (he:∀whole,isTrue a X.env whole=(do let v <- whole; standAt a.pos; holding [v] (truthy v)):=by intro _; rfl):PTD X a (fun δ=>(fa δ).bind truthD):=by
 intro pins s σ G H δ I R hs
 try dsimp only at hs ⊢
 refine isTrue_plain (ha.use I R (az' hs) (fun d u s1 v H1 q I1 r1 e1 b1 p1=>?_) fun e s1 q=>q.same fun x z=>aB' z) (he _);have hd:=aD' hs q;refine wpAny_mono (lo' (X:=X.wish fun _ _=>False) pins s1 σ H1 v u (fun k H2=>truthD d=.ok k/\H2=H1) (I1.wish _) r1 ?_) (fun k s2 ⟨H2,I2,q2,e2⟩=>⟨H2,by rw [q,Res.bind_ok]; exact q2,I2.unwish,by rw [e2]; exact e1⟩) fun _ _ z=>z.elim
 cases d with
 | non=>rw [Rep] at p1; subst p1; exact ⟨false,rfl,rfl,rfl⟩
 | bl b=>rw [Rep] at p1; subst p1; exact ⟨b,rfl,rfl,rfl⟩
 | int i=>rw [Rep] at p1; subst p1; exact ⟨_,rfl,rfl,rfl⟩
 | str x =>
  rw [Rep] at p1; subst p1
  by_cases hz:x.length<=sizeLine
  ·exact ⟨_,⟨hz,rfl⟩,by simp only [truthD,if_pos hz],rfl⟩
  ·simp only [truthD,if_neg hz] at hd; exact (hd rfl).elim
 | tup ds =>
  rw [Rep] at p1;obtain ⟨b,xs,rfl,w1,w2⟩:=p1;exact ⟨!ds.isEmpty,.inr (.inl ⟨xs,w1,by rw [w2.isEmpty]⟩),rfl,rfl⟩
 | lst ds =>
  rw [Rep] at p1;obtain ⟨b,xs,rfl,w1,w2⟩:=p1;exact ⟨!ds.isEmpty,.inl ⟨xs,w1,by rw [w2.isEmpty]⟩,rfl,rfl⟩
 | exc c=>exact (hd rfl).elim
 | excf c f d=>exact (hd rfl).elim
 | dct=>exact (hd rfl).elim
 | obj c fs ds=>exact (hd rfl).elim
theorem bF' (ha:PTD X a ta):PTD X (.UnaryOp .Not a pos) (fun δ=>(ta δ).bind fun c=>.ok (!c)):=by
 intro pins s σ G H δ I R hs
 try dsimp only at hs ⊢
 exact isTrue_not (ha.use I R (az' hs) (fun d s1 H1 q I1 e1 b1=>⟨H1,by rw [q]; rfl,I1,e1⟩) fun e s1 q=>q.same fun x z=>aB' z)
noncomputable def andT (ta tb:DS->Res Bool):DS->Res Bool:=fun δ=>(ta δ).bind fun c=>if c=true then tb δ else .ok false
noncomputable def orT (ta tb:DS->Res Bool):DS->Res Bool:=fun δ=>(ta δ).bind fun c=>if c=true then .ok true else tb δ
theorem dB' (ha:PTD X a ta):PWD X (.BoolOp .And [a] pos) ta:=by
 intro wh pins s σ G H δ I R hs
 try dsimp only at hs ⊢
 refine isTrue_and (ha.use I R hs (fun c s1 H1 q I1 e1 b1=>?_) fun e s1 q=>q)
 cases c with
 | true=>exact isTrue_and_nil ⟨H1,q,I1,e1⟩
 | false=>exact ⟨H1,q,I1,e1⟩
theorem bc' (ha:PTD X a ta):PWD X (.BoolOp .Or [a] pos) ta:=by
 intro wh pins s σ G H δ I R hs
 try dsimp only at hs ⊢
 refine isTrue_or (ha.use I R hs (fun c s1 H1 q I1 e1 b1=>?_) fun e s1 q=>q)
 cases c with
 | false=>exact isTrue_or_nil ⟨H1,q,I1,e1⟩
 | true=>exact ⟨H1,q,I1,e1⟩
theorem eQ' (ha:PTD X a ta) (hb:PWD X (.BoolOp .And (b :: rest) pos) tb):PWD X (.BoolOp .And (a :: b :: rest) pos) (andT ta tb):=by
 intro wh pins s σ G H δ I R hs
 try dsimp only at hs ⊢
 have hs':(ta δ).bind (fun c=>if c=true then tb δ else .ok false)≠.stuck:=hs
 refine isTrue_and (ha.use I R (az' hs') (fun c s1 H1 q I1 e1 b1=>?_) fun e s1 q=>q.same fun x z=>aB' z);have hc:=aD' hs' q;have ev:andT ta tb δ=if c=true then tb δ else .ok false:=by unfold andT; rw [q]; rfl
 cases c with
 | false=>exact ⟨H1,ev,I1,e1⟩
 | true =>
  rw [if_pos rfl] at ev hc;exact hb.use wh I1 (R.mono e1) hc (fun d s2 H2 q2 I2 e2 b2=>⟨H2,ev.trans q2,I2,e1.trans e2⟩) fun e s2 q2=>q2.back e1 b1 fun x z=>ev.trans z
theorem aZ' (ha:PTD X a ta) (hb:PWD X (.BoolOp .Or (b :: rest) pos) tb):PWD X (.BoolOp .Or (a :: b :: rest) pos) (orT ta tb):=by
 intro wh pins s σ G H δ I R hs
 try dsimp only at hs ⊢
 have hs':(ta δ).bind (fun c=>if c=true then .ok true else tb δ)≠.stuck:=hs
 refine isTrue_or (ha.use I R (az' hs') (fun c s1 H1 q I1 e1 b1=>?_) fun e s1 q=>q.same fun x z=>aB' z);have hc:=aD' hs' q;have ev:orT ta tb δ=if c=true then .ok true else tb δ:=by unfold orT; rw [q]; rfl
 cases c with
 | true=>exact ⟨H1,ev,I1,e1⟩
 | false =>
  rw [if_neg Bool.false_ne_true] at ev hc;exact hb.use wh I1 (R.mono e1) hc (fun d s2 H2 q2 I2 e2 b2=>⟨H2,ev.trans q2,I2,e1.trans e2⟩) fun e s2 q2=>q2.back e1 b1 fun x z=>ev.trans z
noncomputable def orV (fa fb:DS->Res D):DS->Res D:=fun δ=>(fa δ).bind fun x=>(boolD x).bind fun c=>if c=true then .ok (.bl true) else fb δ
theorem lv' {op} (h:PD X a fa):PD X (.BoolOp op [a] pos) fa:=fun pins s σ G H δ I R hs=>BoolOp_one (h pins s σ G H δ I R hs)
theorem mt' {fb:DS->Res D} (ha:PD X a fa) (hb:PD X (.BoolOp .Or (b :: rest) pos) fb):PD X (.BoolOp .Or (a :: b :: rest) pos) (orV fa fb):=by
 intro pins s σ G H δ I R hs
 try dsimp only at hs ⊢
 have hs':(fa δ).bind (fun x=>(boolD x).bind fun c=>if c=true then .ok (.bl true) else fb δ)≠.stuck:=hs
 refine BoolOp_or (ha.use I R (az' hs') (fun d u s1 v H1 q I1 r1 e1 b1 p1=>?_) fun e s1 q=>q.same fun x z=>aB' z);have h2:=aD' hs' q;obtain ⟨k,rfl⟩:=fk' (az' h2);rw [Rep] at p1;subst p1
 cases r1
 have ev:orV fa fb δ=if k=true then .ok (.bl true) else fb δ:=by unfold orV; rw [q]; rfl
 refine wpAny_truthy_bool ?_
 cases k with
 | true=>exact ⟨_,.bl true,H1,ev,I1,rfl,e1,by rw [Rep]⟩
 | false =>
  rw [if_neg Bool.false_ne_true] at ev;exact hb.use I1 (R.mono e1) (fun z=>hs (ev.trans z)) (fun d2 u2 s2 v2 H2 q2 I2 r2 e2 b2 p2=>⟨d2,v2,H2,ev.trans q2,I2,r2,e1.trans e2,p2⟩) fun e s2 q2=>q2.back e1 b1 fun x z=>ev.trans z
noncomputable def ifD (tc:DS->Res Bool) (fa fb:DS->Res D):DS->Res D:=fun δ=>(tc δ).bind fun c=>if c=true then fa δ else fb δ
theorem cA' {c:Expr} {tc:DS->Res Bool} {fb:DS->Res D} (hc:PTD X c tc) (ha:PD X a fa) (hb:PD X b fb):PD X (.IfExp c a b pos) (ifD tc fa fb):=by
 intro pins s σ G H δ I R hs
 try dsimp only at hs ⊢
 have hs':(tc δ).bind (fun c=>if c=true then fa δ else fb δ)≠.stuck:=hs
 refine wpAny_IfExp (hc.use I R (az' hs') (fun k s1 H1 q I1 e1 b1=>?_) fun e s1 q=>q.same fun x z=>aB' z);have ev:ifD tc fa fb δ=if k=true then fa δ else fb δ:=by unfold ifD; rw [q]; rfl
 cases k with
 | true =>
  rw [if_pos rfl] at ev;exact ha.use I1 (R.mono e1) (fun z=>hs (ev.trans z)) (fun d2 u2 s2 v2 H2 q2 I2 r2 e2 b2 p2=>⟨d2,v2,H2,ev.trans q2,I2,r2,e1.trans e2,p2⟩) fun e s2 q2=>q2.back e1 b1 fun x z=>ev.trans z
 | false =>
  rw [if_neg Bool.false_ne_true] at ev;exact hb.use I1 (R.mono e1) (fun z=>hs (ev.trans z)) (fun d2 u2 s2 v2 H2 q2 I2 r2 e2 b2 p2=>⟨d2,v2,H2,ev.trans q2,I2,r2,e1.trans e2,p2⟩) fun e s2 q2=>q2.back e1 b1 fun x z=>ev.trans z
theorem mu' {op:UnaryOp} {g:D->Res D} (ho:∀(E:Value->Shared->Prop) (pins:List (Addr×Obj)) (s:Shared) (σ:St) (H:Hp) (x:V) (v:Value) (d r:D),Inv X pins σ H s->RelV x v->Rep X.K H d x->g d=.ok r->wpAny (model X.prog X.w) X.A (unaryOp op v) (EPost X pins σ H (.ok r)) E s)
  (hg:∀x,NoErr (g x)) (ha:PD X a fa):PD X (.UnaryOp op a pos) (fun δ=>(fa δ).bind g):=by
 intro pins s σ G H δ I R hs
 try dsimp only at hs ⊢
 refine UnaryOp_ (ha.use I R (az' hs) (fun d u s1 v H1 q I1 r1 e1 b1 p1=>?_) fun e s1 q=>q.same fun x z=>aB' z);have h2:=aD' hs q
 cases qg:g d with
 | stuck=>exact (h2 qg).elim
 | err z=>exact (hg d z qg).elim
 | ok r=>exact thn (ho _ pins s1 σ H1 v u d r I1 r1 p1 qg) fun w s2 p=>p.from e1 (by rw [q,Res.bind_ok,qg])
end
end DL
namespace DL
open PySem PySem.Spec PyProof.Rows L2
noncomputable def intBits' (i:Int):Nat:=Builtin.Int.intBits i
noncomputable def addD:D->D->Res D
 | .int i,.int j=>.ok (.int (i + j))
 | .str x,.str y=>if x.length + y.length<=sizeLine then .ok (.str (x ++ y)) else .stuck
 | .tup xs,.tup ys=>if xs.length + ys.length<=sizeLine then .ok (.tup (xs ++ ys)) else .stuck
 | .lst xs,.lst ys=>if xs.length + ys.length<=sizeLine then .ok (.lst (xs ++ ys)) else .stuck
 | _,_=>.stuck
noncomputable def subD:D->D->Res D
 | .int i,.int j=>.ok (.int (i - j))
 | _,_=>.stuck
noncomputable def mulD:D->D->Res D
 | .int i,.int j=>if (intBits' i<=2 ^ 20/\intBits' j<=2 ^ 20)\/intBits' i<=64\/intBits' j<=64 then .ok (.int (i * j)) else .stuck
 | _,_=>.stuck
noncomputable def fdivD:D->D->Res D
 | .int i,.int j=>if j≠0/\Builtin.divisionGoesByPylong i j=false then .ok (.int (Int.fdiv i j)) else .stuck
 | _,_=>.stuck
noncomputable def modD:D->D->Res D
 | .int i,.int j=>if j≠0 then .ok (.int (Int.fmod i j)) else .stuck
 | _,_=>.stuck
noncomputable def powD:D->D->Res D
 | .int i,.int j=>if 0<=j/\j<=1000000/\i.natAbs < 2 ^ 64 then .ok (.int (i ^ j.toNat)) else .stuck
 | _,_=>.stuck
noncomputable def cmpD (p:Int->Int->Bool):D->D->Res D
 | .int i,.int j=>.ok (.bl (p i j))
 | _,_=>.stuck
theorem au' {α:Type} {c:Prop} [Decidable c] {r r':Res α} (h:NoErr r) (h':NoErr r'):NoErr (if c then r else r'):=by
 intro x; by_cases hc:c
 ·rw [if_pos hc]; exact h x
 ·rw [if_neg hc]; exact h' x
theorem ah' {α:Type} {a:α}:NoErr (Res.ok a):=fun _ h=>nomatch h
theorem ad' {α:Type}:NoErr (Res.stuck:Res α):=fun _ h=>nomatch h
theorem ar' (x y:D):NoErr (addD x y):=by cases x <;> cases y <;> first | exact ad' | exact ah' | exact au' ah' ad'
theorem bS' (x y:D):NoErr (subD x y):=by cases x <;> cases y <;> first | exact ad' | exact ah' | exact au' ah' ad'
theorem lw' (x y:D):NoErr (mulD x y):=by cases x <;> cases y <;> first | exact ad' | exact ah' | exact au' ah' ad'
theorem bG' (x y:D):NoErr (fdivD x y):=by cases x <;> cases y <;> first | exact ad' | exact ah' | exact au' ah' ad'
theorem bm' (x y:D):NoErr (modD x y):=by cases x <;> cases y <;> first | exact ad' | exact ah' | exact au' ah' ad'
theorem gD' (x y:D):NoErr (powD x y):=by cases x <;> cases y <;> first | exact ad' | exact ah' | exact au' ah' ad'
theorem br' (p:Int->Int->Bool) (x y:D):NoErr (cmpD p x y):=by cases x <;> cases y <;> first | exact ad' | exact ah' | exact au' ah' ad'
section
variable {X:Cx} {a b:Expr} {fa fb:DS->Res D} {pos:Pos}
theorem repI {K:PySem.W.Frag} {H:Hp} {i:Int} {v:V} (h:Rep K H (.int i) v):v=.int i:=by rw [Rep] at h; exact h
theorem repS {K:PySem.W.Frag} {H:Hp} {i:Str} {v:V} (h:Rep K H (.str i) v):v=.str i:=by rw [Rep] at h; exact h
theorem repB {K:PySem.W.Frag} {H:Hp} {i:Bool} {v:V} (h:Rep K H (.bl i) v):v=.bl i:=by rw [Rep] at h; exact h
theorem repT {K:PySem.W.Frag} {H:Hp} {ds:List D} {v:V} (h:Rep K H (.tup ds) v):∃a xs,v=.ref a/\SqT K H a xs/\Reps K H ds xs:=by rw [Rep] at h; exact h
theorem repL {K:PySem.W.Frag} {H:Hp} {ds:List D} {v:V} (h:Rep K H (.lst ds) v):∃a xs,v=.ref a/\SqL K H a xs/\Reps K H ds xs:=by rw [Rep] at h; exact h
theorem mkI {K:PySem.W.Frag} {H:Hp} {i:Int}:Rep K H (.int i) (.int i):=by rw [Rep]
theorem mkS {K:PySem.W.Frag} {H:Hp} {i:Str}:Rep K H (.str i) (.str i):=by rw [Rep]
theorem mkB {K:PySem.W.Frag} {H:Hp} {i:Bool}:Rep K H (.bl i) (.bl i):=by rw [Rep]
theorem mkN {K:PySem.W.Frag} {H:Hp}:Rep K H .non .non:=by rw [Rep]
theorem mkT {K:PySem.W.Frag} {H:Hp} {a:Addr} {xs:List V} {ds:List D} (h:SqT K H a xs) (r:Reps K H ds xs):Rep K H (.tup ds) (.ref a):=by rw [Rep]; exact ⟨a,xs,rfl,h,r⟩
theorem mkL {K:PySem.W.Frag} {H:Hp} {a:Addr} {xs:List V} {ds:List D} (h:SqL K H a xs) (r:Reps K H ds xs):Rep K H (.lst ds) (.ref a):=by rw [Rep]; exact ⟨a,xs,rfl,h,r⟩
theorem ap' {H:Hp} {p:Addr} (h:H p=none) (o:HO):Same H (upd H p o):=fun b u q=>by rw [ai' (aF' q h)]; exact q
theorem jU' {f:Value->Value->Sem Value} {C:Int->Int->Prop} [∀i j,Decidable (C i j)] {h:Int->Int->D} {k:Int->Int->V} {g:D->D->Res D} (ho:∀E,OpR (X.wish E) f (rI C k)) (hk:∀H i j,Rep X.K H (h i j) (k i j))
  (hg:∀x y d,g x y=.ok d->∃i j,x=.int i/\y=.int j/\C i j/\d=h i j):OpD X f g :=
 .of ho fun H x y a b d Q p1 p2 e q=>by
  obtain ⟨i,j,rfl,rfl,c,rfl⟩:=hg a b d e;exact ⟨i,j,repI p1,repI p2,c,q _ H (Same.refl H) (hk H i j)⟩
theorem jw' {f:Value->Value->Sem Value} {h:Int->Int->D} {k:Int->Int->V} {g:D->D->Res D} (ho:∀E,OpR (X.wish E) f (rI0 k)) (hk:∀H i j,Rep X.K H (h i j) (k i j))
  (hg:∀x y d,g x y=.ok d->∃i j,x=.int i/\y=.int j/\d=h i j):OpD X f g :=
 .of ho fun H x y a b d Q p1 p2 e q=>by
  obtain ⟨i,j,rfl,rfl,rfl⟩:=hg a b d e;exact ⟨i,j,repI p1,repI p2,q _ H (Same.refl H) (hk H i j)⟩
theorem bT':OpD X (binaryOp .Sub) subD:=jw' (fun _=>lk') (fun _ _ _=>mkI) fun x y d e=>by
 cases x <;> cases y <;> first | (simp [subD] at e; done) | (simp only [subD,Res.ok.injEq] at e; exact ⟨_,_,rfl,rfl,e.symm⟩)
theorem gE' {p:Int->Int->Bool} {op:CmpOp} (ho:∀E,OpR (X.wish E) (compareOp op) (rI0 fun i j=>.bl (p i j))):OpD X (compareOp op) (cmpD p):=jw' ho (fun _ _ _=>mkB) fun x y d e=>by
 cases x <;> cases y <;> first | (simp [cmpD] at e; done) | (simp only [cmpD,Res.ok.injEq] at e; exact ⟨_,_,rfl,rfl,e.symm⟩)
theorem gF':OpD X (compareOp .Lt) (cmpD fun i j=>decide (i < j)):=gE' fun _=>ml'
theorem gG':OpD X (compareOp .Gt) (cmpD fun i j=>decide (j < i)):=gE' fun _=>mm'
theorem mv':OpD X (compareOp .GtE) (cmpD fun i j=>decide (j<=i)):=gE' fun _=>mn'
theorem jV':OpR X (binaryOp .Mult) (rI (fun i j=>(intBits' i<=2 ^ 20/\intBits' j<=2 ^ 20)\/intBits' i<=64\/intBits' j<=64) fun i j=>.int (i * j)):=opI fun _ _ _ _ _ _ _ hc q=>mul_int q (by
 rcases hc with hc | hc | hc
 ·exact PySem.IntMulOk.of_bits hc.1 hc.2
 ·exact PySem.IntMulOk.of_left hc
 ·exact PySem.IntMulOk.of_right hc)
theorem lx':OpD X (binaryOp .Mult) mulD:=jU' (h:=fun i j=>.int (i * j)) (fun _=>jV') (fun _ _ _=>mkI) fun x y d e=>by
 cases x <;> cases y <;> first | (simp [mulD] at e; done) | skip
 rename_i i j;simp only [mulD] at e
 split at e
 ·rename_i c; cases e; exact ⟨_,_,rfl,rfl,c,rfl⟩
 ·cases e
theorem io':OpR X (binaryOp .FloorDiv) (rI (fun i j=>j≠0/\Builtin.divisionGoesByPylong i j=false) fun i j=>.int (i.fdiv j)):=opI fun _ _ _ _ _ _ _ hc q=>floordiv_int hc.1 q (.inl hc.2)
theorem bH':OpD X (binaryOp .FloorDiv) fdivD:=jU' (h:=fun i j=>.int (i.fdiv j)) (fun _=>io') (fun _ _ _=>mkI) fun x y d e=>by
 cases x <;> cases y <;> first | (simp [fdivD] at e; done) | skip
 rename_i i j;simp only [fdivD] at e
 split at e
 ·rename_i c; cases e; exact ⟨_,_,rfl,rfl,c,rfl⟩
 ·cases e
theorem bn':OpD X (binaryOp .Mod) modD:=jU' (h:=fun i j=>.int (i.fmod j)) (fun _=>jM') (fun _ _ _=>mkI) fun x y d e=>by
 cases x <;> cases y <;> first | (simp [modD] at e; done) | skip
 rename_i i j;simp only [modD] at e
 split at e
 ·rename_i c; cases e; exact ⟨_,_,rfl,rfl,c,rfl⟩
 ·cases e
theorem gH':OpD X (binaryOp .Pow) powD:=.of (fun _=>ll') fun H x y a b d Q p1 p2 e q=>by
 cases a <;> cases b <;> first | (simp [powD] at e; done) | skip
 rename_i i j;simp only [powD] at e
 split at e
 ·rename_i c; cases e; exact ⟨i,j,repI p1,repI p2,c,q _ H (Same.refl H) mkI⟩
 ·cases e
theorem ip' (E:Value->Shared->Prop):OpR (X.wish E) (binaryOp .Add) (rCatT X.K):=jQ'
noncomputable def rCatN (K:PySem.W.Frag):R2:=fun x y H Q=>∃a b ys,x=.ref a/\y=.ref b/\SqT K H a []/\SqT K H b ys/\Q (.ref b) H
theorem jW':OpR X (binaryOp .Add) (rCatN X.K):=by
 intro pins s σ H x y v u Q I rx ry h;obtain ⟨a,b,ys,rfl,rfl,h1,h2,q⟩:=h
 cases rx
 cases ry
 obtain ⟨its,r,ht,_⟩:=I.tuple h1;obtain ⟨its2,r2,ht2,_⟩:=I.tuple h2
 cases r
 obtain ⟨⟨cls,dd,data,sl⟩,ho,hc,n,hd⟩:=id ht;obtain ⟨⟨cls2,dd2,data2,sl2⟩,ho2,hc2,n2,hd2⟩:=id ht2;simp only at hc hd hc2 hd2;subst hc hd hc2 hd2;exact concat_meets ⟨_,ho,rfl⟩ ⟨_,ho2,rfl⟩ noFill_tuple_add seq_tuple_add PySem.F.slot_tuple_add PySem.F.entry_tuple_add (PySem.F.args_tuple_add_2 _ _) (tuple_addW0 a b _ its2.toArray n n2 dd dd2 sl sl2 rfl) ⟨ho,ho2,.ref b,H,I,rfl,q⟩
theorem iq' (E:Value->Shared->Prop):OpR (X.wish E) (binaryOp .Add) (rCatN X.K):=jW'
noncomputable def rCatL (K:PySem.W.Frag):R2:=fun x y H Q=>∃a b xs ys,x=.ref a/\y=.ref b/\SqL K H a xs/\SqL K H b ys/\xs.length + ys.length<=sizeLine/\∀p,H p=none->Q (.ref p) (upd H p (.lst (xs ++ ys)))
theorem jX':OpR X (binaryOp .Add) (rCatL X.K):=by
 intro pins s σ H x y v u Q I rx ry h;obtain ⟨a,b,xs,ys,rfl,rfl,h1,h2,hz,q⟩:=h
 cases rx
 cases ry
 obtain ⟨its,r,⟨⟨cls,dd,data,sl⟩,n,ho,hc,hdd,hd⟩,_⟩:=I.list h1;obtain ⟨its2,r2,⟨⟨cls2,dd2,data2,sl2⟩,n2,ho2,hc2,hdd2,hd2⟩,_⟩:=I.list h2;simp only at hc hd hc2 hd2;subst hc hd hc2 hd2;have l1:=r.length;have l2:=r2.length;refine concat_meets ⟨_,ho,rfl⟩ ⟨_,ho2,rfl⟩ noFill_list_add seq_list_add PySem.F.slot_list_add PySem.F.entry_list_add (PySem.F.args_list_add_2 _ _) (list_addW a b its.toArray its2.toArray n n2 dd dd2 sl sl2 (by simp only [List.size_toArray]; omega)) ⟨ho,ho2,?_⟩;have ea:its.toArray ++ its2.toArray=(its ++ its2).toArray:=by simp
 rw [ea];refine ⟨.ref s.heap.objs.size,_,I.laid (t':=s.toks) (o:=.lst (xs ++ ys)) (fun b ob q=>Heap.get?_push_of_some _ q) (Nat.le_refl _) ?_,rfl,q _ (I.hok.fresh (Nat.le_refl _))⟩;exact ⟨by rw [List.length_append]; omega,its ++ its2,0,r.append r2,Heap.get?_push_size _ rfl⟩
theorem ir' (E:Value->Shared->Prop):OpR (X.wish E) (binaryOp .Add) (rCatL X.K):=jX'
theorem as':OpD X (binaryOp .Add) addD:=.of (fun E=>op_add.or (op_add_str.or ((ip' E).or ((ir' E).or (iq' E))))) fun H x y a b d Q p1 p2 e q=>by
 cases a <;> cases b <;> first | (simp [addD] at e; done) | skip
 ·rename_i i j;simp only [addD,Res.ok.injEq] at e;subst e;exact .inl ⟨i,j,repI p1,repI p2,q _ H (Same.refl H) mkI⟩
 ·rename_i i j;simp only [addD] at e
  split at e
  ·rename_i c; cases e; exact .inr (.inl ⟨i,j,repS p1,repS p2,c,q _ H (Same.refl H) mkS⟩)
  ·cases e
 ·rename_i xs ys;simp only [addD] at e
  split at e
  ·rename_i c
   cases e
   obtain ⟨p,us,rfl,s1,t1⟩:=repT p1;obtain ⟨p',ws,rfl,s2,t2⟩:=repT p2
   by_cases hn:us=[]
   ·subst hn;have hx:xs=[]:=by
     have:=t1.length; exact List.eq_nil_of_length_eq_zero this.symm
    subst hx;exact .inr (.inr (.inr (.inr ⟨p,p',ws,rfl,rfl,s1,s2,q _ H (Same.refl H) (mkT s2 t2)⟩)))
   refine .inr (.inr (.inl ⟨p,p',us,ws,rfl,rfl,s1,s2,hn,?_,fun z=>?_,fun _ z hz=>?_⟩))
   ·rw [t1.length,t2.length]; exact c
   ·have hy:ys=[]:=by
     have:=t2.length; rw [z] at this; exact List.eq_nil_of_length_eq_zero this.symm
    subst hy;exact q _ H (Same.refl H) (mkT s1 (by simpa using t1))
   ·exact q _ _ (ap' hz _) (mkT (SqT.of aj') ((t1.append t2).mono (ap' hz _)))
  ·cases e
 ·rename_i xs ys;simp only [addD] at e
  split at e
  ·rename_i c
   cases e
   obtain ⟨p,us,rfl,s1,t1⟩:=repL p1;obtain ⟨p',ws,rfl,s2,t2⟩:=repL p2;exact .inr (.inr (.inr (.inl ⟨p,p',us,ws,rfl,rfl,s1,s2,by rw [t1.length,t2.length]; exact c,fun z hz=>q _ _ (ap' hz _) (mkL (SqL.of aj') ((t1.append t2).mono (ap' hz _)))⟩)))
  ·cases e
end
noncomputable def APost (X:Cx) (pins:List (Addr×Obj)) (σ:St) (H:Hp) (r:Res (List D)) (us:List Value) (s1:Shared):Prop:=∃ds vs H1,r=.ok ds/\Inv X pins σ H1 s1/\Vals vs us/\Same H H1/\Reps X.K H1 ds vs
noncomputable def PAD (X:Cx) (es:List Expr) (f:DS->Res (List D)):Prop :=
 ∀(pos:Pos) (pins:List (Addr×Obj)) (s:Shared) (σ:St) (G H:Hp) (δ:DS),Inv X pins σ H s->RepSt X.K G H σ δ->f δ≠.stuck ->
  wpAny (model X.prog X.w) X.A (spliced (backTo pos (starEach es X.env))) (APost X pins σ H (f δ)) (XPost X pins σ H s.heap (f δ)) s
noncomputable def consD (f:DS->Res D) (fs:DS->Res (List D)):DS->Res (List D):=fun δ=>(f δ).bind fun d=>(fs δ).bind fun ds=>.ok (d :: ds)
section
variable {X:Cx} {e:Expr} {es:List Expr} {f:DS->Res D} {fs:DS->Res (List D)} {pos:Pos}
theorem PAD.use {pins:List (Addr×Obj)} {s:Shared} {σ:St} {G H:Hp} {δ:DS} (h:PAD X es fs) (I:Inv X pins σ H s) (R:RepSt X.K G H σ δ) (hs:fs δ≠.stuck) {P:List Value->Shared->Prop} {E:Value->Shared->Prop}
  (k:∀ds us s1 vs H1,fs δ=.ok ds->Inv X pins σ H1 s1->Vals vs us->Same H H1->Back H s.heap s1.heap->Reps X.K H1 ds vs->P us s1) (kx:∀e s1,XPost X pins σ H s.heap (fs δ) e s1->E e s1) :
  wpAny (model X.prog X.w) X.A (spliced (backTo pos (starEach es X.env))) P E s:=by
 refine wpAny_mono (h pos (pins ++ allP X H s.heap) s σ G H δ I.all R hs) (fun us s1 ⟨ds,vs,H1,q1,q2,q3,q4,q5⟩=>k ds us s1 vs H1 q1 q2.unpinned q3 q4 (I.backTo q2) q5) fun e s1 ⟨x,a,C,H1,q1,q2,q3,q4,q5,q6⟩=>kx e s1 ⟨x,a,C,H1,q1,q2,q3.unpinned,q4,q5,q6⟩
theorem ac':PAD X [] (fun _=>.ok []):=fun pos pins s σ G H δ I R _=>Calls.spliced_nil ⟨[],[],H,rfl,I,.nil,Same.refl H,Reps.nil⟩
theorem aa' (ha:PD X e f) (hr:PAD X es fs) (hs:starEach (e :: es) X.env=(false,eval e X.env) :: starEach es X.env:=by rfl):PAD X (e :: es) (consD f fs):=by
 intro pos pins s σ G H δ I R hn;have hn':(f δ).bind (fun d=>(fs δ).bind fun ds=>.ok (d :: ds))≠.stuck:=hn;rw [hs];show wpAny _ _ (spliced ((false,eval e X.env) :: backTo pos (starEach es X.env))) _ _ s;refine Calls.spliced_cons (ha.use I R (az' hn') (fun d u s1 v H1 q I1 r1 e1 b1 p1=>?_) fun e s1 q=>q.same fun x z=>aB' z);have hn2:=aD' hn' q;refine hr.use I1 (R.mono e1) (az' hn2) (fun ds us s2 vs H2 q2 I2 r2 e2 b2 p2=>⟨d :: ds,v :: vs,H2,by unfold consD; rw [q,Res.bind_ok,q2]; rfl,I2,.cons r1 r2,e1.trans e2,Reps.cons (p1.mono e2) p2⟩) fun e s2 q2=>q2.back e1 b1 fun x z=>by unfold consD; rw [q,Res.bind_ok,z]; rfl
noncomputable def tupD (r:Res (List D)):Res D:=r.bind fun ds=>if ds.length<=sizeLine then .ok (.tup ds) else .stuck
noncomputable def lstD (r:Res (List D)):Res D:=r.bind fun ds=>if ds.length<=sizeLine then .ok (.lst ds) else .stuck
theorem gI' {x1} (h:PAD X es fs):PD X (.Tuple es x1 pos) (fun δ=>tupD (fs δ)):=by
 intro pins s σ G H δ I R hs
 try dsimp only at hs ⊢
 have hs':(fs δ).bind (fun ds=>if ds.length<=sizeLine then Res.ok (D.tup ds) else .stuck)≠.stuck:=hs
 refine wpAny_Tuple_spliced (h.use I R (az' hs') (fun ds us s1 vs H1 q I1 r1 e1 b1 p1=>?_) fun e s1 q=>q.same fun x z=>aB' z);have h2:=aD' hs' q;have hz:ds.length<=sizeLine:=by
  by_cases c:ds.length<=sizeLine
  ·exact c
  ·rw [if_neg c] at h2; exact (h2 rfl).elim
 refine ⟨by rw [<- r1.length,p1.length]; exact hz,?_⟩;have hf:H1 s1.heap.objs.size=none:=I1.hok.fresh (Nat.le_refl _);refine ⟨.tup ds,.ref s1.heap.objs.size,upd H1 s1.heap.objs.size (.tup vs),by unfold tupD; rw [q,Res.bind_ok,if_pos hz],I1.laid (t':=s1.toks) (fun b u e=>Heap.get?_push_of_some _ e) (Nat.le_refl _) ?_,rfl,e1.trans (ap' hf _),mkT (SqT.of aj') (p1.mono (ap' hf _))⟩;exact ⟨by rw [p1.length]; exact hz,us,r1,⟨_,Heap.get?_push_size _ rfl,rfl,_,rfl⟩⟩
theorem ay' (h:PAD X es fs):PD X (.List es pos) (fun δ=>lstD (fs δ)):=by
 intro pins s σ G H δ I R hs
 try dsimp only at hs ⊢
 have hs':(fs δ).bind (fun ds=>if ds.length<=sizeLine then Res.ok (D.lst ds) else .stuck)≠.stuck:=hs
 refine wpAny_List_spliced (h.use I R (az' hs') (fun ds us s1 vs H1 q I1 r1 e1 b1 p1=>?_) fun e s1 q=>q.same fun x z=>aB' z);have h2:=aD' hs' q;have hz:ds.length<=sizeLine:=by
  by_cases c:ds.length<=sizeLine
  ·exact c
  ·rw [if_neg c] at h2; exact (h2 rfl).elim
 refine ⟨by rw [<- r1.length,p1.length]; exact hz,?_⟩;have hf:H1 s1.heap.objs.size=none:=I1.hok.fresh (Nat.le_refl _);refine ⟨.lst ds,.ref s1.heap.objs.size,upd H1 s1.heap.objs.size (.lst vs),by unfold lstD; rw [q,Res.bind_ok,if_pos hz],I1.laid (t':=s1.toks) (fun b u e=>Heap.get?_push_of_some _ e) (Nat.le_refl _) ?_,rfl,e1.trans (ap' hf _),mkL (SqL.of aj') (p1.mono (ap' hf _))⟩;exact ⟨by rw [p1.length]; exact hz,us,0,r1,Heap.get?_push_size _ rfl⟩
noncomputable def ixD:D->D->Res D
 | .tup ds,.int i=>match atI ds i with | some d=>.ok d | none=>.stuck
 | .lst ds,.int i=>match atI ds i with | some d=>.ok d | none=>.stuck
 | .str z,.int i=>if z.length<=sizeLine then (match atI z.cps.toList i with | some c=>.ok (.str ⟨#[c]⟩) | none=>.stuck) else .stuck
 | _,_=>.stuck
theorem mw' (x y:D):NoErr (ixD x y):=by
 cases x <;> cases y <;> first | exact ad' | skip
 ·simp only [ixD]; split <;> first | (split <;> first | exact ah' | exact ad') | exact ad'
 ·simp only [ixD]; split <;> first | exact ah' | exact ad'
 ·simp only [ixD]; split <;> first | exact ah' | exact ad'
theorem gJ' {K:PySem.W.Frag} {H:Hp} {ds:List D} {vs:List V} {i:Int} {d:D} (r:Reps K H ds vs) (e:atI ds i=some d):∃v,atI vs i=some v/\Rep K H d v:=by
 unfold atI at e ⊢;rw [r.length]
 cases q:ixN ds.length i with
 | none=>rw [q] at e; cases e
 | some j =>
  rw [q] at e;exact r.get e
theorem av' {o i:Expr} {fo fi:DS->Res D} (ho:PD X o fo) (hi:PD X i fi) (hp:PlainIx i:=by intro _ _; rfl):PD X (.Subscript o i pos) (two fo fi ixD):=by
 intro pins s σ G H δ I R hs
 try dsimp only at hs ⊢
 refine Subscript_ (gB' ho hi I R hs (fun x y v u s2 vx vy H2 q I2 r1 r2 e2 p1 p2=>?_) fun _ _ q=>q);have hd:ixD x y≠.stuck:=fun z=>hs (q.trans z)
 cases qg:ixD x y with
 | stuck=>exact (hd qg).elim
 | err z=>exact (mw' x y z qg).elim
 | ok d =>
  refine wpAny_mono (ls' (X:=X.wish fun _ _=>False) o i pins s2 σ H2 vx vy v u (fun z H'=>H'=H2/\Rep X.K H2 d z) (I2.wish _) r1 r2 ?_ (hp _ _)) (fun w s3 q3=>?_) fun _ _ z=>z.elim
  rotate_left
  ·obtain ⟨z,H3,I3,r3,e3,p3⟩:=q3;subst e3;exact ⟨d,z,H3,q.trans qg,I3.unwish,r3,e2,p3⟩
  cases x with
  | tup ds =>
   cases y with
   | int k =>
    simp only [ixD] at qg
    split at qg
    ·rename_i d' e
     cases qg
     obtain ⟨b,xs,rfl,w1,w2⟩:=repT p1;obtain ⟨z,z1,z2⟩:=gJ' w2 e;exact .inr (.inl ⟨b,xs,k,z,rfl,repI p2,w1,z1,rfl,z2⟩)
    ·cases qg
   | _=>cases qg
  | lst ds =>
   cases y with
   | int k =>
    simp only [ixD] at qg
    split at qg
    ·rename_i d' e
     cases qg
     obtain ⟨b,xs,rfl,w1,w2⟩:=repL p1;obtain ⟨z,z1,z2⟩:=gJ' w2 e;exact .inl ⟨b,xs,k,z,rfl,repI p2,w1,z1,rfl,z2⟩
    ·cases qg
   | _=>cases qg
  | str z =>
   cases y with
   | int k =>
    simp only [ixD] at qg
    split at qg
    ·rename_i hz
     split at qg
     ·rename_i c e
      cases qg
      exact .inr (.inr ⟨z,k,c,repS p1,repI p2,hz,e,rfl,mkS⟩)
     ·cases qg
    ·cases qg
   | _=>cases qg
  | _=>cases qg
end
noncomputable def CallD (X:Cx) (f:Value) (g:List D->Res D):Prop :=
 ∀(E:Value->Shared->Prop) (pins:List (Addr×Obj)) (s:Shared) (σ:St) (H:Hp) (xs:List V) (us:List Value) (ds:List D) (d:D),Inv X pins σ H s->Vals xs us->Reps X.K H ds xs->g ds=.ok d ->
  wpAny (model X.prog X.w) X.A (call f us) (EPost X pins σ H (.ok d)) E s
theorem CallD.of {X:Cx} {f:Value} {r:List V->Hp->VK->Prop} {g:List D->Res D} (hc:∀E,CallR (X.wish E) f r) (h:∀(H:Hp) (xs:List V) (ds:List D) (d:D) (Q:VK),Reps X.K H ds xs->g ds=.ok d->(∀z H',Same H H'->Rep X.K H' d z->Q z H')->r xs H Q):CallD X f g :=
 fun E pins s σ H xs us ds d I r1 p e=>thn (hc E pins s σ H xs us (fun z H'=>Same H H'/\Rep X.K H' d z) (I.wish _) r1 (h H xs ds d _ p e fun z H' a b=>⟨a,b⟩)) fun w s1 ⟨z,H1,I1,r3,e1,p3⟩=>⟨d,z,H1,rfl,I1.unwish,r3,e1,p3⟩
section
variable {X:Cx} {e:Expr} {es:List Expr} {fs:DS->Res (List D)} {x:Str} {p pos:Pos} {id T:String} {g:List D->Res D}
theorem eh' {pins:List (Addr×Obj)} {s:Shared} {σ:St} {G H:Hp} {δ:DS} {f:Value} (hc:CallD X f g) (hg:∀ds,NoErr (g ds)) (ha:PAD X es fs) (I:Inv X pins σ H s) (R:RepSt X.K G H σ δ) (hs:(fs δ).bind g≠.stuck) :
  wpAny (model X.prog X.w) X.A (spliced (backTo pos (starEach es X.env))) (fun us s1=>wpAny (model X.prog X.w) X.A (call f us) (EPost X pins σ H ((fs δ).bind g)) (XPost X pins σ H s.heap ((fs δ).bind g)) s1) (XPost X pins σ H s.heap ((fs δ).bind g)) s:=by
 refine ha.use I R (az' hs) (fun ds us s1 vs H1 q I1 r1 e1 b1 p1=>?_) fun e s1 q=>q.same fun x z=>aB' z;have h2:=aD' hs q
 cases qg:g ds with
 | stuck=>exact (h2 qg).elim
 | err z=>exact (hg ds z qg).elim
 | ok d=>exact thn (hc _ pins s1 σ H1 vs us ds d I1 r1 p1 qg) fun w s2 p=>p.from e1 (by rw [q,Res.bind_ok,qg])
theorem aq' (hc:CallD X (.builtin id) g) (hne:∀ds,NoErr (g ds)) (hg:Gl X x) (hm:X.mg x=none) (hv:bootBuiltins x=some (.builtin id)) (ha:PAD X (e :: es) fs) (hn:x≠"__name__":=by decide) (hdb:(x == ("__debug__" : Str))=false:=by decide)
  (he:starEach (e :: es) X.env=(false,eval e X.env) :: starEach es X.env:=by rfl) (hpl:(backTo pos (starEach es X.env)).any (·.1)=false:=by rfl):PD X (.Call (.Name x p) (e :: es) [] pos) (fun δ=>(fs δ).bind g):=by
 intro pins s σ G H δ I R hs
 try dsimp only at hs ⊢
 refine wpAny_Call_Name_kw (bR' I hg hm hv ?_ hn hdb);exact PyProof.Rows.callWith_builtin1 (eh' hc hne ha I R hs) he hpl
theorem aX' (hc:CallD X (.type T) g) (hne:∀ds,NoErr (g ds)) (hg:Gl X x) (hm:X.mg x=none) (hv:bootBuiltins x=some (.type T)) (ha:PAD X (e :: es) fs) (hn:x≠"__name__":=by decide) (hdb:(x == ("__debug__" : Str))=false:=by decide)
  (he:starEach (e :: es) X.env=(false,eval e X.env) :: starEach es X.env:=by rfl) (hpl:(backTo pos (starEach es X.env)).any (·.1)=false:=by rfl):PD X (.Call (.Name x p) (e :: es) [] pos) (fun δ=>(fs δ).bind g):=by
 intro pins s σ G H δ I R hs
 try dsimp only at hs ⊢
 refine wpAny_Call_Name_kw (bR' I hg hm hv ?_ hn hdb);exact PyProof.Rows.callWith_type1 (eh' hc hne ha I R hs) he hpl
end
noncomputable def absG:List D->Res D
 | [.int i]=>.ok (.int (if i < 0 then -i else i))
 | _=>.stuck
theorem gK' {X:Cx}:CallD X (.builtin "abs") absG:=.of (fun _=>ig') fun H xs ds d Q r e q=>by
 unfold absG at e
 split at e
 ·rename_i i
  cases e
  obtain ⟨v,vs,rfl,p1,t⟩:=r.cons_of
  cases t.nil_of
  exact ⟨i,by rw [repI p1],q _ H (Same.refl H) mkI⟩
 ·cases e
theorem gL' (ds:List D):NoErr (absG ds):=by
 unfold absG
 split
 ·exact ah'
 ·exact ad'
noncomputable def lenG:List D->Res D
 | [.tup ds]=>.ok (.int ds.length)
 | [.lst ds]=>.ok (.int ds.length)
 | [.str z]=>if z.length<=sizeLine then .ok (.int z.length) else .stuck
 | _=>.stuck
theorem aO' (ds:List D):NoErr (lenG ds):=by
 unfold lenG
 split <;> first | exact ah' | exact ad' | exact au' ah' ad'
theorem gM' {X:Cx} (E:Value->Shared->Prop):CallR (X.wish E) (.builtin "len") (fun xs H Q=>∃x n,xs=[x]/\LenV X.K x H n/\Q (.int n) H):=ih'
theorem aP' {X:Cx}:CallD X (.builtin "len") lenG:=.of gM' fun H xs ds d Q r e q=>by
 unfold lenG at e
 split at e
 ·rename_i es
  cases e
  obtain ⟨v,vs,rfl,p1,t⟩:=r.cons_of
  cases t.nil_of
  obtain ⟨a,ys,rfl,w1,w2⟩:=repT p1;exact ⟨_,es.length,rfl,.inr ⟨ys,w1,w2.length.symm⟩,q _ H (Same.refl H) mkI⟩
 ·rename_i es
  cases e
  obtain ⟨v,vs,rfl,p1,t⟩:=r.cons_of
  cases t.nil_of
  obtain ⟨a,ys,rfl,w1,w2⟩:=repL p1;exact ⟨_,es.length,rfl,.inl ⟨ys,w1,w2.length.symm⟩,q _ H (Same.refl H) mkI⟩
 ·rename_i z
  split at e
  ·rename_i hz
   cases e
   obtain ⟨v,vs,rfl,p1,t⟩:=r.cons_of
   cases t.nil_of
   cases repS p1
   exact ⟨_,z.length,rfl,⟨hz,rfl⟩,q _ H (Same.refl H) mkI⟩
  ·cases e
 ·cases e
inductive Out where
 | stuck
 | nxt (δ:DS)
 | ret (d:D)
 | brk (δ:DS)
 | cnt (δ:DS)
 | err (x:Exn) (δ:DS)
noncomputable def Out.seq (o:Out) (g:DS->Out):Out:=match o with
 | .nxt δ=>g δ
 | o=>o
noncomputable def SPost (X:Cx) (pins:List (Addr×Obj)) (G H:Hp) (o:Out) (fl:Flow) (s1:Shared):Prop:=match fl with
 | .next=>∃δ' σ' H',o=.nxt δ'/\Inv X pins σ' H' s1/\TK H H'/\RepSt X.K G H' σ' δ'
 | .brk=>∃δ' σ' H',o=.brk δ'/\Inv X pins σ' H' s1/\TK H H'/\RepSt X.K G H' σ' δ'
 | .cont=>∃δ' σ' H',o=.cnt δ'/\Inv X pins σ' H' s1/\TK H H'/\RepSt X.K G H' σ' δ'
 | .ret u=>∃d v σ' H',o=.ret d/\Inv X pins σ' H' s1/\TK H H'/\Same G H'/\RelV v u/\Rep X.K H' d v
noncomputable def SX (X:Cx) (pins:List (Addr×Obj)) (G H:Hp) (h0:Heap) (o:Out) (e:Value) (s1:Shared):Prop :=
 ∃x δ' a C σ' H',o=.err x δ'/\e=.ref a/\Inv X pins σ' H' s1/\TK H H'/\RepSt X.K G H' σ' δ'/\PySem.W.nsIn X.K mainGlobals x.cls=some (some (.ref C))/\FlyX X.K x h0 H' s1.heap a C
noncomputable def PSD (X:Cx) (st:Stmt) (f:DS->Out):Prop :=
 ∀(pins:List (Addr×Obj)) (s:Shared) (σ:St) (G H:Hp) (δ:DS),Inv X pins σ H s->RepSt X.K G H σ δ->f δ≠.stuck ->
  wpAny (model X.prog X.w) X.A (exec st X.env) (SPost X pins G H (f δ)) (SX X pins G H s.heap (f δ)) s
noncomputable def PSDs (X:Cx) (st:List Stmt) (f:DS->Out):Prop :=
 ∀(pins:List (Addr×Obj)) (s:Shared) (σ:St) (G H:Hp) (δ:DS),Inv X pins σ H s->RepSt X.K G H σ δ->f δ≠.stuck ->
  wpAny (model X.prog X.w) X.A (execs st X.env) (SPost X pins G H (f δ)) (SX X pins G H s.heap (f δ)) s
noncomputable def onD (r:Res D) (δ:DS) (k:D->Out):Out:=match r with
 | .stuck=>.stuck
 | .ok d=>k d
 | .err x=>.err x δ
noncomputable def onT (r:Res Bool) (δ:DS) (k:Bool->Out):Out:=match r with
 | .stuck=>.stuck
 | .ok d=>k d
 | .err x=>.err x δ
theorem is' {r:Res D} {δ:DS} {k:D->Out} (h:onD r δ k≠.stuck):r≠.stuck:=fun q=>h (by rw [q]; rfl)
theorem mx' {r:Res Bool} {δ:DS} {k:Bool->Out} (h:onT r δ k≠.stuck):r≠.stuck:=fun q=>h (by rw [q]; rfl)
section
variable {X:Cx} {pins:List (Addr×Obj)} {G H H1:Hp} {h0 h1:Heap} {s1:Shared} {fl:Flow} {o o':Out} {e:Value}
theorem SPost.from (p:SPost X pins G H1 o fl s1) (t:TK H H1) (q:o=o'):SPost X pins G H o' fl s1:=by
 subst q
 cases fl with
 | next=>obtain ⟨δ',σ',H',q1,q2,q3,q4⟩:=p; exact ⟨δ',σ',H',q1,q2,t.trans q3,q4⟩
 | brk=>obtain ⟨δ',σ',H',q1,q2,q3,q4⟩:=p; exact ⟨δ',σ',H',q1,q2,t.trans q3,q4⟩
 | cont=>obtain ⟨δ',σ',H',q1,q2,q3,q4⟩:=p; exact ⟨δ',σ',H',q1,q2,t.trans q3,q4⟩
 | ret u=>obtain ⟨d,v,σ',H',q1,q2,q3,q4,q5,q6⟩:=p; exact ⟨d,v,σ',H',q1,q2,t.trans q3,q4,q5,q6⟩
theorem SX.from (p:SX X pins G H1 h1 o e s1) (t:TK H H1) (b:Back H h0 h1) (q:o=o'):SX X pins G H h0 o' e s1:=by
 subst q;obtain ⟨x,δ',a,C,σ',H',q1,q2,q3,q4,q5,q6,q7⟩:=p;exact ⟨x,δ',a,C,σ',H',q1,q2,q3,t.trans q4,q5,q6,q7.back t q4 b⟩
theorem XPost.sx {α:Type} {σ:St} {δ:DS} {r:Res α} (p:XPost X pins σ H h0 r e s1) (R:RepSt X.K G H σ δ) (q:∀x,r=.err x->o=.err x δ):SX X pins G H h0 o e s1:=by
 obtain ⟨x,a,C,H1,q1,q2,q3,q4,q5,q6⟩:=p;exact ⟨x,δ,a,C,σ,H1,q x q1,q2,q3,q4.tk,R.mono q4,q5,q6⟩
theorem jY' {t:Sem Flow} {s:Shared} {σ:St} (h:∀pins,Inv X pins σ H s->wpAny (model X.prog X.w) X.A t (SPost X pins G H o) (SX X pins G H s.heap o) s) (I:Inv X pins σ H s) {P:Flow->Shared->Prop} {E:Value->Shared->Prop}
  (k:∀fl s1,SPost X pins G H o fl s1->Back H s.heap s1.heap->P fl s1) (kx:∀e s1,SX X pins G H s.heap o e s1->E e s1):wpAny (model X.prog X.w) X.A t P E s:=by
 refine wpAny_mono (h (pins ++ allP X H s.heap) I.all) (fun fl s1 p=>?_) fun e s1 ⟨x,δ',a,C,σ',H',q1,q2,q3,q4,q5,q6,q7⟩=>kx e s1 ⟨x,δ',a,C,σ',H',q1,q2,q3.unpinned,q4,q5,q6,q7⟩
 cases fl with
 | next=>obtain ⟨δ',σ',H',q1,q2,q3,q4⟩:=p; exact k .next s1 ⟨δ',σ',H',q1,q2.unpinned,q3,q4⟩ (I.backTo q2)
 | brk=>obtain ⟨δ',σ',H',q1,q2,q3,q4⟩:=p; exact k .brk s1 ⟨δ',σ',H',q1,q2.unpinned,q3,q4⟩ (I.backTo q2)
 | cont=>obtain ⟨δ',σ',H',q1,q2,q3,q4⟩:=p; exact k .cont s1 ⟨δ',σ',H',q1,q2.unpinned,q3,q4⟩ (I.backTo q2)
 | ret u=>obtain ⟨d,v,σ',H',q1,q2,q3,q4,q5,q6⟩:=p; exact k (.ret u) s1 ⟨d,v,σ',H',q1,q2.unpinned,q3,q4,q5,q6⟩ (I.backTo q2)
end
section
variable {X:Cx} {st:Stmt} {rest:List Stmt} {f g:DS->Out} {e:Expr} {fe:DS->Res D} {pos:Pos}
theorem aw':PSDs X [] Out.nxt:=fun pins s σ G H δ I R _=>wpAny_execs_nil ⟨δ,σ,H,rfl,I,TK.refl H,R⟩
noncomputable def seqD (f g:DS->Out):DS->Out:=fun δ=>(f δ).seq g
theorem ae' (h1:PSD X st f) (h2:PSDs X rest g):PSDs X (st :: rest) (seqD f g):=by
 intro pins s σ G H δ I R hs
 try dsimp only at hs ⊢
 have hf:f δ≠.stuck:=fun q=>hs (by unfold seqD; rw [q]; rfl);refine wpAny_execs_cons (jY' (fun pins I=>h1 pins s σ G H δ I R hf) I (fun fl s1 p b=>?_) fun e s1 p=>?_)
 ·cases fl with
  | next =>
   obtain ⟨δ',σ',H',q1,q2,q3,q4⟩:=p;have ev:seqD f g δ=g δ':=by unfold seqD; rw [q1]; rfl
   exact wpAny_mono (h2 pins s1 σ' G H' δ' q2 q4 fun z=>hs (ev.trans z)) (fun fl s2 p2=>p2.from q3 ev.symm) fun e s2 p2=>p2.from q3 b ev.symm
  | brk=>obtain ⟨δ',σ',H',q1,q2,q3,q4⟩:=p; exact ⟨δ',σ',H',by unfold seqD; rw [q1]; rfl,q2,q3,q4⟩
  | cont=>obtain ⟨δ',σ',H',q1,q2,q3,q4⟩:=p; exact ⟨δ',σ',H',by unfold seqD; rw [q1]; rfl,q2,q3,q4⟩
  | ret u=>obtain ⟨d,v,σ',H',q1,q2⟩:=p; exact ⟨d,v,σ',H',by unfold seqD; rw [q1]; rfl,q2⟩
 ·obtain ⟨x,δ',a,C,σ',H',q1,q2⟩:=p;exact ⟨x,δ',a,C,σ',H',by unfold seqD; rw [q1]; rfl,q2⟩
theorem ag' (h1:PSD X st f):PSDs X [st] f:=by
 intro pins s σ G H δ I R hs
 try dsimp only at hs ⊢
 refine wpAny_execs_cons (wpAny_mono (h1 pins s σ G H δ I R hs) (fun fl s1 p=>?_) fun e s1 p=>p)
 cases fl with
 | next=>exact wpAny_execs_nil p
 | brk=>exact p
 | cont=>exact p
 | ret u=>exact p
theorem cK':PSD X st (fun _=>.stuck):=fun pins s σ G H δ I R h=>(h rfl).elim
noncomputable def NOut (X:Cx) (G H:Hp) (o:Out) (E:Ends):Prop:=match o with
 | .stuck=>False
 | .nxt δ=>∀σ' H',TK H H'->RepSt X.K G H' σ' δ->E.nx σ' H'
 | .ret d=>∀v H',TK H H'->Same G H'->Rep X.K H' d v->E.rt v H'
 | .brk δ=>∀σ' H',TK H H'->RepSt X.K G H' σ' δ->E.bk σ' H'
 | .cnt δ=>∀σ' H',TK H H'->RepSt X.K G H' σ' δ->E.ct σ' H'
 | .err _ _=>False
noncomputable def sD (X:Cx) (f:DS->Out):TS:=fun E σ H=>∃G δ,RepSt X.K G H σ δ/\NOut X G H (f δ) E
theorem NOut.tk {X:Cx} {G H H1:Hp} {o:Out} {E:Ends} (h:NOut X G H o E) (t:TK H H1):NOut X G H1 o E:=by
 cases o with
 | stuck=>exact h
 | nxt δ=>exact fun σ' H' t' r=>h σ' H' (t.trans t') r
 | ret d=>exact fun v H' t' r=>h v H' (t.trans t') r
 | brk δ=>exact fun σ' H' t' r=>h σ' H' (t.trans t') r
 | cnt δ=>exact fun σ' H' t' r=>h σ' H' (t.trans t') r
 | err x δ=>exact h
theorem gN' {pins:List (Addr×Obj)} {G H:Hp} {o:Out} {E:Ends} {fl:Flow} {s1:Shared} {W:Value->Shared->Prop} (h:NOut X G H o E) (p:SPost X pins G H o fl s1):SP (X.wish W) pins E fl s1:=by
 cases fl with
 | next=>obtain ⟨δ',σ',H',q1,q2,q3,q4⟩:=p; subst q1; exact ⟨σ',H',q2.wish _,h σ' H' q3 q4⟩
 | brk=>obtain ⟨δ',σ',H',q1,q2,q3,q4⟩:=p; subst q1; exact ⟨σ',H',q2.wish _,h σ' H' q3 q4⟩
 | cont=>obtain ⟨δ',σ',H',q1,q2,q3,q4⟩:=p; subst q1; exact ⟨σ',H',q2.wish _,h σ' H' q3 q4⟩
 | ret u=>obtain ⟨d,v,σ',H',q1,q2,q3,q4,q5,q6⟩:=p; subst q1; exact ⟨v,σ',H',q2.wish _,q5,h v H' q3 q4 q6⟩
theorem NOut.ns {G H:Hp} {o:Out} {E:Ends} (h:NOut X G H o E):o≠.stuck:=fun q=>by subst q; exact h
theorem NOut.sx {pins:List (Addr×Obj)} {G H:Hp} {h0:Heap} {o:Out} {E:Ends} {e:Value} {s1:Shared} (h:NOut X G H o E) (p:SX X pins G H h0 o e s1):False:=by
 obtain ⟨x,δ',_,_,_,_,q,_⟩:=p; subst q; exact h
theorem PSDs.ps (h:PSDs X rest f):PSs X.nox rest (sD X f):=by
 intro pins s σ H E I ⟨G,δ,R,n⟩;exact wpAny_mono (h pins s σ G H δ I.unwish R n.ns) (fun fl s1 p=>gN' n p) fun e s1 p=>n.sx p
theorem PSD.ps (h:PSD X st f):PS X.nox st (sD X f):=by
 intro pins s σ H E I ⟨G,δ,R,n⟩;exact wpAny_mono (h pins s σ G H δ I.unwish R n.ns) (fun fl s1 p=>gN' n p) fun e s1 p=>n.sx p
theorem PTD.pt {c:Expr} {tc:DS->Res Bool} (h:PTD X c tc):PT X.nox c (fun σ H Q=>∃G δ d,RepSt X.K G H σ δ/\tc δ=.ok d/\∀H',Same H H'->Q d H'):=by
 intro pins s σ H Q I ⟨G,δ,d,R,q,n⟩;refine wpAny_mono (h pins s σ G H δ I.unwish R (by rw [q]; intro z; cases z)) (fun b s1 ⟨H1,q1,I1,e1⟩=>?_) fun e s1 p=>?_
 ·rw [q] at q1; cases q1;exact ⟨H1,I1.wish _,n H1 e1⟩
 ·rw [q] at p; exact p.none
theorem PD.pe {fe:DS->Res D} (h:PD X e fe):PE X.nox e (fun σ H Q=>∃G δ d,RepSt X.K G H σ δ/\fe δ=.ok d/\∀v H',Same H H'->Rep X.K H' d v->Q v H'):=by
 intro pins s σ H Q I ⟨G,δ,d,R,q,n⟩;refine wpAny_mono (h pins s σ G H δ I.unwish R (by rw [q]; intro z; cases z)) (fun b s1 ⟨d',v,H1,q1,I1,r1,e1,p1⟩=>?_) fun e s1 p=>?_
 ·rw [q] at q1; cases q1;exact ⟨v,H1,I1.wish _,r1,n v H1 e1 p1⟩
 ·rw [q] at p; exact p.none
theorem PAD.pa {es:List Expr} {fs:DS->Res (List D)} (h:PAD X es fs):PA X.nox es (fun σ H Q=>∃G δ ds,RepSt X.K G H σ δ/\fs δ=.ok ds/\∀vs H',Same H H'->Reps X.K H' ds vs->Q vs H'):=by
 intro pos pins s σ H Q I ⟨G,δ,d,R,q,n⟩;refine wpAny_mono (h pos pins s σ G H δ I.unwish R (by rw [q]; intro z; cases z)) (fun b s1 ⟨d',v,H1,q1,I1,r1,e1,p1⟩=>?_) fun e s1 p=>?_
 ·rw [q] at q1; cases q1;exact ⟨v,H1,I1.wish _,r1,n v H1 e1 p1⟩
 ·rw [q] at p; exact p.none
theorem gO' (hne:∀δ x δ',f δ≠.err x δ') (h:PS X.nox st (sD X f)):PSD X st f:=by
 intro pins s σ G H δ I R hs
 try dsimp only at hs ⊢
 let E:Ends:={ nx:=fun σ' H'=>∃δ',f δ=.nxt δ'/\TK H H'/\RepSt X.K G H' σ' δ',rt:=fun v H'=>∃d,f δ=.ret d/\TK H H'/\Same G H'/\Rep X.K H' d v,bk:=fun σ' H'=>∃δ',f δ=.brk δ'/\TK H H'/\RepSt X.K G H' σ' δ',ct:=fun σ' H'=>∃δ',f δ=.cnt δ'/\TK H H'/\RepSt X.K G H' σ' δ' }
 have n:NOut X G H (f δ) E:=by
  cases q:f δ with
  | stuck=>exact (hs q).elim
  | nxt δ'=>exact fun σ' H' t r=>⟨δ',q,t,r⟩
  | brk δ'=>exact fun σ' H' t r=>⟨δ',q,t,r⟩
  | cnt δ'=>exact fun σ' H' t r=>⟨δ',q,t,r⟩
  | ret d=>exact fun v H' t g r=>⟨d,q,t,g,r⟩
  | err x δ'=>exact (hne δ x δ' q).elim
 refine wpAny_mono (h pins s σ H E (I.wish _) ⟨G,δ,R,n⟩) (fun fl s1 p=>?_) fun e s1 p=>p.elim
 cases fl with
 | next=>obtain ⟨σ',H',q2,δ',q1,q3,q4⟩:=p; exact ⟨δ',σ',H',q1,q2.unwish,q3,q4⟩
 | brk=>obtain ⟨σ',H',q2,δ',q1,q3,q4⟩:=p; exact ⟨δ',σ',H',q1,q2.unwish,q3,q4⟩
 | cont=>obtain ⟨σ',H',q2,δ',q1,q3,q4⟩:=p; exact ⟨δ',σ',H',q1,q2.unwish,q3,q4⟩
 | ret u=>obtain ⟨v,σ',H',q2,q5,d,q1,q3,q4,q6⟩:=p; exact ⟨d,v,σ',H',q1,q2.unwish,q3,q4,q5,q6⟩
theorem ak' (he:PD X e fe):PSD X (.Return (some e) pos) (fun δ=>onD (fe δ) δ Out.ret):=by
 intro pins s σ G H δ I R hs
 try dsimp only at hs ⊢
 refine wpAny_Return_some (he.use I R (is' hs) (fun d u s1 v H1 q I1 r1 e1 b1 p1=>⟨d,v,σ,H1,by rw [q]; rfl,I1,e1.tk,R.same.trans e1,r1,p1⟩) fun e s1 q=>q.sx R fun x z=>by rw [z]; rfl)
theorem aC' {c:Expr} {a b:List Stmt} {tc:DS->Res Bool} {fa fb:DS->Out} (hc:PTD X c tc) (ha:PSDs X a fa) (hb:PSDs X b fb):PSD X (.If c a b pos) (fun δ=>onT (tc δ) δ fun k=>if k=true then fa δ else fb δ):=by
 intro pins s σ G H δ I R hs
 try dsimp only at hs ⊢
 refine wpAny_If (hc.use I R (mx' hs) (fun k s1 H1 q I1 e1 b1=>?_) fun e s1 q=>q.sx R fun x z=>by rw [z]; rfl)
 cases k with
 | true =>
  have ev:onT (tc δ) δ (fun k=>if k=true then fa δ else fb δ)=fa δ:=by rw [q]; rfl
  exact wpAny_mono (ha pins s1 σ G H1 δ I1 (R.mono e1) fun z=>hs (ev.trans z)) (fun fl s2 p=>p.from e1.tk ev.symm) fun e s2 p=>p.from e1.tk b1 ev.symm
 | false =>
  have ev:onT (tc δ) δ (fun k=>if k=true then fa δ else fb δ)=fb δ:=by rw [q]; rfl
  exact wpAny_mono (hb pins s1 σ G H1 δ I1 (R.mono e1) fun z=>hs (ev.trans z)) (fun fl s2 p=>p.from e1.tk ev.symm) fun e s2 p=>p.from e1.tk b1 ev.symm
noncomputable def setD (i:Nat) (fe:DS->Res D):DS->Out:=fun δ=>onD (fe δ) δ fun d=>.nxt (δ.set i (some (.val d)))
theorem al' (i:Nat) {x:Str} {pos':Pos} (he:PD X e fe) (hN:X.N.Nodup) (hi:X.N[i]? = some x:=by rfl) (hx:Loc X.env.scope x:=by first | exact Or.inl rfl | exact Or.inr rfl) (hw:swapsWith e (some (.Name x pos')) pos.line X.env=pure false:=by rfl)
  (hf:X.fn x=true\/X.env.scope.names.lookup x=some .local:=by first | exact .inl rfl | exact .inr rfl | assumption):PSD X (.Assign [.Name x pos'] e pos) (setD i fe):=by
 intro pins s σ G H δ I R hs
 try dsimp only at hs ⊢
 refine wpAny_Assign_Name (he.use I R (is' hs) (fun d u s1 v H1 q I1 r1 e1 b1 p1=>?_) fun e s1 q=>q.sx R fun x z=>by unfold setD; rw [z]; rfl) hw;exact cz' I1 hN hi hx r1 (fun s2 I2=>⟨_,_,H1,by unfold setD; rw [q]; rfl,I2,e1.tk,(R.mono e1).set i p1⟩) hf
abbrev TGD:=D->DS->Option DS
noncomputable def PGD (X:Cx) (tg:Expr) (t:TGD):Prop :=
 ∀(E:Value->Shared->Prop) (pins:List (Addr×Obj)) (s:Shared) (σ:St) (G H:Hp) (δ δ':DS) (d:D) (v:V) (u:Value),Inv X pins σ H s->RelV v u->RepSt X.K G H σ δ->Rep X.K H d v->t d δ=some δ' ->
  wpAny (model X.prog X.w) X.A (assign tg X.env u) (fun _ s1=>∃σ',Inv X pins σ' H s1/\RepSt X.K G H σ' δ') E s
theorem aV' (i:Nat) {x:Str} (hN:X.N.Nodup) (hi:X.N[i]? = some x:=by rfl) (hx:Loc X.env.scope x:=by first | exact Or.inl rfl | exact Or.inr rfl) (hf:X.fn x=true\/X.env.scope.names.lookup x=some .local:=by first | exact .inl rfl | exact .inr rfl | assumption) :
  PGD X (.Name x pos) (fun d δ=>some (δ.set i (some (.val d)))):=by
 intro E pins s σ G H δ δ' d v u I r R p e
 cases e
 exact thn (gm' (X:=X.wish E) hN hi hx hf pins s σ H v u (fun σ' H'=>σ'=σ.set i (some v)/\H'=H) (I.wish _) r ⟨rfl,rfl⟩) fun _ s1 ⟨σ',H',I',e1,e2⟩=>by
  subst e1 e2;exact ⟨_,I'.unwish,R.set i p⟩
noncomputable def namesD:List Nat->List D->DS->Option DS
 | [],[],δ=>some δ
 | i :: is,d :: ds,δ=>namesD is ds (δ.set i (some (.val d)))
 | _,_,_=>none
theorem dk':∀{is:List Nat} {ds:List D} {δ δ':DS},namesD is ds δ=some δ'->ds.length=is.length
 | [],[],_,_,_=>rfl
 | [],_ :: _,_,_,h=>by simp [namesD] at h
 | _ :: _,[],_,_,h=>by simp [namesD] at h
 | i :: is,d :: ds,δ,δ',h=>by
  have:=dk' (is:=is) (ds:=ds) (by simpa [namesD] using h);simp [this]
noncomputable def gsD (X:Cx) (is:List Nat):TGs:=fun vs σ H Q=>∃G δ ds δ',RepSt X.K G H σ δ/\Reps X.K H ds vs/\namesD is ds δ=some δ'/\∀σ',RepSt X.K G H σ' δ'->Q σ' H
theorem ei':PGs X [] (gsD X []):=by
 intro pins s σ H vs us Q I r h;obtain ⟨G,δ,ds,δ',R,p,e,q⟩:=h
 cases ds with
 | nil =>
  cases e
  exact jL' pins s σ H vs us Q I r ⟨p.nil_of,q σ R⟩
 | cons d ds=>cases e
theorem bU' (i:Nat) {is:List Nat} {x:Str} {es:List Expr} (hN:X.N.Nodup) (h2:PGs X es (gsD X is)) (hi:X.N[i]? = some x:=by rfl) (hx:Loc X.env.scope x:=by first | exact Or.inl rfl | exact Or.inr rfl)
  (hf:X.fn x=true\/X.env.scope.names.lookup x=some .local:=by first | exact .inl rfl | exact .inr rfl | assumption) (hs:(assignEach (.Name x pos :: es) X.env).map (·.2)=assign (.Name x pos) X.env :: (assignEach es X.env).map (·.2):=by rfl) :
  PGs X (.Name x pos :: es) (gsD X (i :: is)):=by
 intro pins s σ H vs us Q I r h;obtain ⟨G,δ,ds,δ',R,p,e,q⟩:=h
 cases ds with
 | nil=>cases e
 | cons d ds =>
  obtain ⟨v,ws,rfl,p1,p2⟩:=p.cons_of;exact id' (gm' hN hi hx hf) h2 hs pins s σ H _ us Q I r ⟨v,ws,rfl,G,_,ds,δ',R.set i p1,p2,e,q⟩
noncomputable def tupTgt (is:List Nat):TGD:=fun d δ=>match d with
 | .tup ds=>namesD is ds δ
 | _=>none
theorem jZ' {es:List Expr} {k:Nat} {is:List Nat} (hc:X.calm=true) (h:∀E,PGs (X.wish E) es (gsD X is)) (hn:(assignEach es X.env).length=is.length:=by rfl) (hst:(assignEach es X.env).findIdx? (·.1)=none:=by rfl):PGD X (.Tuple es k pos) (tupTgt is):=by
 intro E pins s σ G H δ δ' d v u I r R p e
 cases d with
 | tup ds =>
  obtain ⟨a,xs,rfl,w1,w2⟩:=repT p;exact thn (lj' (X:=X.wish E) hc (h E) hn hst pins s σ H _ u (fun σ' H'=>H'=H/\RepSt X.K G H σ' δ') (I.wish _) r ⟨a,xs,rfl,w1,by rw [w2.length]; exact dk' e,G,δ,ds,δ',R,w2,e,fun σ' R'=>⟨rfl,R'⟩⟩) fun _ s1 ⟨σ',H',I',e1,e2⟩=>by
   subst e1;exact ⟨σ',I'.unwish,e2⟩
 | _=>cases e
end
noncomputable def whileD (c:DS->Res Bool) (b:DS->Out):Nat->DS->Out
 | 0,_=>.stuck
 | n + 1,δ=>match c δ with
  | .ok true=>(match b δ with
   | .nxt δ'=>whileD c b n δ'
   | .cnt δ'=>whileD c b n δ'
   | .brk δ'=>.nxt δ'
   | .ret d=>.ret d
   | _=>.stuck)
  | .ok false=>.nxt δ
  | _=>.stuck
theorem ej' (c:DS->Res Bool) (b:DS->Out):∀(n:Nat) (δ:DS) (x:Exn) (δ':DS),whileD c b n δ≠.err x δ'
 | 0,_,_,_,h=>by simp [whileD] at h
 | n + 1,δ,x,δ',h=>by
  rw [whileD] at h
  split at h
  ·split at h <;> first | exact ej' c b n _ x δ' h | cases h
  ·cases h
  ·cases h
theorem ek' {X:Cx} {c:Expr} {body:List Stmt} {tc:DS->Res Bool} {fb:DS->Out} {pos:Pos} (fuel:DS->Nat) (hc:PTD X c tc) (hb:PSDs X body fb) :
  PSD X (.While c body [] pos) (fun δ=>whileD tc fb (fuel δ) δ):=by
 refine gO' (fun δ=>ej' tc fb (fuel δ) δ) fun pins s σ H E I h=>?_;obtain ⟨G,δ,R,h⟩:=h;refine ie' PassesOwn.never hc.pt hb.ps pins s σ H E I ⟨fun m σ' H'=>∃δ',RepSt X.K G H' σ' δ'/\NOut X G H' (whileD tc fb m δ') E,⟨fuel δ,δ,R,h⟩,?_⟩
 rintro m σ1 H1 ⟨δ1,R1,h1⟩
 cases m with
 | zero=>exact h1.elim
 | succ m =>
  rw [whileD] at h1
  cases q:tc δ1 with
  | stuck=>simp only [q] at h1; exact h1.elim
  | err x=>simp only [q] at h1; exact h1.elim
  | ok k =>
   refine ⟨G,δ1,k,R1,q,fun H2 e2=>?_⟩
   cases k with
   | false =>
    simp only [q] at h1;rw [if_neg Bool.false_ne_true];exact h1 σ1 H2 e2.tk (R1.mono e2)
   | true =>
    simp only [q] at h1;rw [if_pos rfl];refine ⟨fun σ' H'=>∃δ',RepSt X.K G H' σ' δ'/\NOut X G H' (whileD tc fb m δ') E,fun σ' H' z=>⟨m,Nat.lt_succ_self m,z⟩,G,δ1,R1.mono e2,?_⟩
    cases z:fb δ1 with
    | stuck=>rw [z] at h1; exact h1
    | err x δ'=>rw [z] at h1; exact h1
    | nxt δ'=>rw [z] at h1; exact fun σ' H' t r=>⟨δ',r,h1.tk (e2.tk.trans t)⟩
    | cnt δ'=>rw [z] at h1; exact fun σ' H' t r=>⟨δ',r,h1.tk (e2.tk.trans t)⟩
    | brk δ'=>rw [z] at h1; exact fun σ' H' t r=>h1 σ' H' (e2.tk.trans t) r
    | ret d=>rw [z] at h1; exact fun v H' t g r=>h1 v H' (e2.tk.trans t) g r
noncomputable def forD (t:TGD) (b:DS->Out):List D->DS->Out
 | [],δ=>.nxt δ
 | d :: ds,δ=>match t d δ with
  | none=>.stuck
  | some δ1=>match b δ1 with
   | .nxt δ'=>forD t b ds δ'
   | .cnt δ'=>forD t b ds δ'
   | .brk δ'=>.nxt δ'
   | .ret d=>.ret d
   | _=>.stuck
theorem eR' (t:TGD) (b:DS->Out):∀(ds:List D) (δ:DS) (x:Exn) (δ':DS),forD t b ds δ≠.err x δ'
 | [],_,_,_,h=>by simp [forD] at h
 | d :: ds,δ,x,δ',h=>by
  rw [forD] at h
  split at h
  ·cases h
  ·split at h <;> first | exact eR' t b ds _ x δ' h | cases h
noncomputable def rangeD (lo:Int):Nat->List D
 | 0=>[]
 | n + 1=>.int lo :: rangeD (lo + 1) n
theorem eS' (lo:Int) (n i:Nat) (h:i < n):(rangeD lo n).drop i=.int (lo + i) :: (rangeD lo n).drop (i + 1):=by
 induction i generalizing lo n with
 | zero =>
  cases n with
  | zero=>omega
  | succ n=>simp [rangeD]
 | succ i ih =>
  cases n with
  | zero=>omega
  | succ n =>
   have q:=ih (lo + 1) n (by omega);simp only [rangeD,List.drop_succ_cons];rw [q];have:lo + 1 + (i:Int)=lo + ((i + 1:Nat):Int):=by omega
   rw [this]
theorem bV' (lo:Int) (n:Nat):(rangeD lo n).length=n:=by
 induction n generalizing lo with
 | zero=>rfl
 | succ n ih=>simp [rangeD,ih]
noncomputable def gD (X:Cx) (t:TGD):TG:=fun v σ H Q=>∃G δ d δ',RepSt X.K G H σ δ/\Rep X.K H d v/\t d δ=some δ'/\∀σ',RepSt X.K G H σ' δ'->Q σ' H
noncomputable def onL (r:Res (List D)) (k:List D->Out):Out:=match r with
 | .ok d=>k d
 | _=>.stuck
theorem jx' {r:Res (List D)} {k:List D->Out} (h:∀ds x δ',k ds≠.err x δ') (x:Exn) (δ':DS):onL r k≠.err x δ':=by
 cases r with
 | ok d=>exact h d x δ'
 | stuck=>intro z; cases z
 | err _=>intro z; cases z
section
variable {X:Cx} {tg iter:Expr} {body:List Stmt} {t:TGD} {fb:DS->Out} {pos:Pos} {G H:Hp} {E:Ends}
theorem PGD.pg (h:PGD X tg t):PG X.nox tg (gD X t):=by
 intro pins s σ H v u Q I r hq;obtain ⟨G,δ,d,δ',R,p,e,q⟩:=hq;exact thn (h _ pins s σ G H δ δ' d v u I.unwish r R p e) fun _ s1 ⟨σ',I',R'⟩=>⟨σ',H,I'.wish _,q σ' R'⟩
theorem fl' {ds:List D} {d:D} {δ:DS} {v:V} {σ:St} {N:St->Hp->Prop} (R:RepSt X.K G H σ δ) (p:Rep X.K H d v) (h:NOut X G H (forD t fb (d :: ds) δ) E)
  (hN:∀δ' σ' H',TK H H'->RepSt X.K G H' σ' δ'->NOut X G H' (forD t fb ds δ') E->N σ' H'):gD X t v σ H fun σ2 H2=>sD X fb { E with nx:=N,ct:=N,bk:=E.nx } σ2 H2:=by
 rw [forD] at h
 cases z:t d δ with
 | none=>rw [z] at h; exact h.elim
 | some δ1 =>
  rw [z] at h;refine ⟨G,δ,d,δ1,R,p,z,fun σ' R'=>⟨G,δ1,R',?_⟩⟩;simp only at h
  cases q:fb δ1 with
  | stuck=>rw [q] at h; exact h
  | err x δ'=>rw [q] at h; exact h
  | nxt δ'=>rw [q] at h; exact fun σ2 H2 t2 r2=>hN δ' σ2 H2 t2 r2 (h.tk t2)
  | cnt δ'=>rw [q] at h; exact fun σ2 H2 t2 r2=>hN δ' σ2 H2 t2 r2 (h.tk t2)
  | brk δ'=>rw [q] at h; exact fun σ2 H2 t2 r2=>h σ2 H2 t2 r2
  | ret d=>rw [q] at h; exact fun v H2 t2 g r2=>h v H2 t2 g r2
noncomputable def rng1:List D->Res (List D)
 | [.int j]=>if -(2 ^ 62)<=j/\j < 2 ^ 62 then .ok (rangeD 0 j.toNat) else .stuck
 | _=>.stuck
end
theorem dd' (o:Obj) (f):(o.mapFields f).dict=o.dict:=by
 obtain ⟨c,d,dt,sl⟩:=o; cases dt <;> rfl
noncomputable def FlyT (h0:Heap) (H:Hp) (h:Heap) (e:Addr) (cls:Value×Option Addr) (fl:Value):Prop :=
 NoRec h0 e/\H e=none/\∃oe vs a0 T oT ts,h.get? e=some oe/\(oe.cls=cls.1/\oe.dict=cls.2)/\oe.data=.fields vs/\vs[0]? = some a0/\vs[1]? = some (.ref T)/\NoRec h0 T/\H T=none/\T≠e/\h.get? T=some oT/\oT.data=.fields ts/\ts[3]? = some fl
theorem FlyT.fly {h0:Heap} {H:Hp} {h:Heap} {e:Addr} {cls:Value×Option Addr} (f:FlyT h0 H h e cls .none):Fly h0 H h e cls:=by
 obtain ⟨n,he,oe,vs,a0,T,oT,ts,q1,q2,q3,q4,q5,q6⟩:=f;exact ⟨n,he,oe,vs,a0,q1,q2,q3,q4,.inr ⟨T,oT,ts,q5,q6⟩⟩
noncomputable def InEx (h:Heap) (e b:Addr):Prop:=b=e\/∃oe vs,h.get? e=some oe/\oe.data=.fields vs/\vs[1]? = some (.ref b)
structure KF (e:Addr) (fs:List Addr) (h h':Heap):Prop where
 keep:∀b o,h.get? b=some o->b∉fs->¬InEx h e b->h'.get? b=some o
 slot:∀b o,h.get? b=some o->b∈fs->¬InEx h e b->∃sl,h'.get? b=some { o with slots:=sl }
 there:∀b o,h.get? b=some o->∃o',h'.get? b=some o'
theorem Fly.ex {h0 h:Heap} {H:Hp} {e b:Addr} {cls:Value×Option Addr} (f:Fly h0 H h e cls) (x:InEx h e b):NoRec h0 b/\H b=none/\∃o vs,h.get? b=some o/\o.data=.fields vs:=by
 obtain ⟨n,he,oe,vs,a0,q1,q2,q3,q4,q5⟩:=f;rcases x with rfl | ⟨oe',vs',w1,w2,w3⟩
 ·exact ⟨n,he,oe,vs,q1,q3⟩
 ·rw [q1] at w1; cases w1;rw [q3] at w2; cases w2;rcases q5 with q5 | ⟨T,oT,ts,z1,z2,z3,z4,z5,z6,z7⟩
  ·rw [q5] at w3; cases w3
  ·rw [z1] at w3; cases w3;exact ⟨z2,z3,oT,ts,z5,z6⟩
theorem FlyT.ex {h0 h:Heap} {H:Hp} {e b:Addr} {cls:Value×Option Addr} {fl:Value} (f:FlyT h0 H h e cls fl) (x:InEx h e b):NoRec h0 b/\H b=none/\∃o vs,h.get? b=some o/\o.data=.fields vs:=by
 obtain ⟨n,he,oe,vs,a0,T,oT,ts,q1,q2,q3,q4,z1,z2,z3,z4,z5,z6,z7⟩:=f;rcases x with rfl | ⟨oe',vs',w1,w2,w3⟩
 ·exact ⟨n,he,oe,vs,q1,q3⟩
 ·rw [q1] at w1; cases w1;rw [q3] at w2; cases w2;rw [z1] at w3; cases w3;exact ⟨z2,z3,oT,ts,z5,z6⟩
section
variable {M:Model} {A:Around} {E:Value->Shared->Prop} {s:Shared} {base h0:Heap} {H:Hp} {env:Env} {outer:List Env} {L e:Addr} {Q:Unit->Shared->Prop}
theorem el' {oe:Obj} {vs:Array Value} {head a0:Value} {hadNext:Bool}
  (hfr:A.frames=some (env :: outer)) (hl:s.heap.FunFrames base (env :: outer)) (hf:env.frame=some L) (hz:h0.objs.size<=s.heap.objs.size) (hn:∀b,s.heap.objs.size<=b->H b=none)
  (nr:NoRec h0 e) (hH:H e=none) (he:s.heap.get? e=some oe) (hd:oe.data=.fields vs) (hsz:1 < vs.size) (h0':vs[0]? = some a0)
  (h:∀h',(∀b o,b≠e->s.heap.get? b=some o->b∉(env :: outer).filterMap (·.frame)->h'.get? b=some o)->(∀b o,b≠e->s.heap.get? b=some o->∃sl,h'.get? b=some { o with slots:=sl })->FlyT h0 H h' e (oe.cls,oe.dict) (rawInt L)->(∀b,InEx h' e b->b=e\/s.heap.objs.size<=b)->Q () { s with heap:=h' }) :
  wpAny M A (do let a <- frameOf env; let pl <- entryPlaceOf L hadNext; let b <- EntryCells.newEntry head a .none (rawInt L) .none pl; setField (.ref e) 1 b) Q E s:=by
 have hene:e∉(env :: outer).filterMap (·.frame):=fun hm=>by
  obtain ⟨_,o,ho,hnf⟩:=hl.mem hm;rw [he] at ho; injection ho with ho; subst ho; exact hnf vs hd
 refine wpAny_bind (wpAny_frameOf_fun hfr hl hf fun h₁ hs₁=>?_);refine wpAny_bind (wpAny_entryPlaceOf fun pl hpl=>?_);unfold EntryCells.newEntry newFields;refine wpAny_bind (wpAny_newObj_type ?_ (hpl.sizeOk5 _ _ _ _ _));have he₁:h₁.get? e=some oe:=(hs₁.2.1 e hene).trans he;generalize hob:({ cls:=.type "traceback",dict:=none,data:=.fields ([head,.ref L,.none,rawInt L,.none] ++ (if pl.isEmpty then List.replicate 6 Value.none else pl)).toArray }:Obj)=ob
 have hobd:ob.data=.fields ([head,.ref L,.none,rawInt L,.none] ++ (if pl.isEmpty then List.replicate 6 Value.none else pl)).toArray:=by rw [<- hob]
 have hobf:ob.isFreed=false:=Obj.isFreed_of_fields hobd;have he₂:=Heap.get?_push_of_some (h:=h₁) ob he₁;refine wpAny_setField he₂ hd hsz ?_;have hTe:h₁.objs.size≠e:=Nat.ne_of_gt (Heap.lt_size he₁);have hd₃:=Obj.data_mapFields hd (·.setIfInBounds 1 (Value.ref h₁.objs.size));have he₃:=Heap.get?_update_self (Obj.mapFields (·.setIfInBounds 1 (Value.ref h₁.objs.size))) he₂ (Obj.isFreed_of_fields hd₃);have hT₃:=(Heap.get?_update_other (h₁.push ob) (Obj.mapFields (·.setIfInBounds 1 (Value.ref h₁.objs.size))) (Ne.symm hTe)).trans (Heap.get?_push_size h₁ hobf);have keep:∀b o,b≠e->h₁.get? b=some o->((h₁.push ob).update e (Obj.mapFields (·.setIfInBounds 1 (Value.ref h₁.objs.size)))).get? b=some o:=fun b o hbe hb=>by
  rw [Heap.get?_update_other _ _ (Ne.symm hbe)];exact Heap.get?_push_of_some _ hb
 refine h _ (fun b o hbe hb hbf=>keep b o hbe ((hs₁.2.1 b hbf).trans hb)) (fun b o hbe hb=>?_) ⟨nr,hH,_,_,a0,h₁.objs.size,_,_,he₃,⟨Obj.cls_mapFields _ _,dd' _ _⟩,hd₃,?_,?_,?_,?_,hTe,hT₃,hobd,?_⟩ fun b hx=>?_
 ·obtain ⟨sl,hs⟩:=hs₁.2.2 b o hb;exact ⟨sl,keep b _ hbe hs⟩
 ·rw [Array.getElem?_setIfInBounds_ne (by decide)]; exact h0'
 ·simp [hsz]
 ·intro o vs' ho;have:=Heap.lt_size ho;rw [hs₁.1] at this;exact absurd this (Nat.not_lt.mpr hz)
 ·exact hn _ (by rw [hs₁.1]; exact Nat.le_refl _)
 ·simp
 ·rcases hx with z | ⟨oe',vs',w1,w2,w3⟩
  ·exact .inl z
  ·rw [he₃] at w1; cases w1;rw [hd₃] at w2; cases w2;have w4:(vs.setIfInBounds 1 (Value.ref h₁.objs.size))[1]? = some (.ref h₁.objs.size):=by simp [hsz]
   rw [w4] at w3; cases w3;exact .inr (by rw [hs₁.1]; exact Nat.le_refl _)
theorem fm' {cls:Value×Option Addr} {fl:Value} (f:FlyT h0 H s.heap e cls fl) (h:∀h',(∀b o,s.heap.get? b=some o->¬InEx s.heap e b->h'.get? b=some o)->(∀b o,s.heap.get? b=some o->∃o',h'.get? b=some o')->FlyT h0 H h' e cls .none->(∀b,InEx h' e b->InEx s.heap e b)->Q () { s with heap:=h' }):wpAny M A (setFlight (.ref e) none) Q E s:=by
 obtain ⟨nr,hH,oe,vs,a0,T,oT,ts,he,hc,hd,h0',h1,nT,hT,hTe,gT,dT,h3⟩:=f;have hsz:=(Array.getElem?_eq_some_iff.mp h3).1;refine wpAny_setFlight_none he hd h1 gT dT hsz ?_;have other:∀b,b≠T->(s.heap.update T (Obj.mapFields (·.setIfInBounds 3 Value.none))).get? b=s.heap.get? b:=fun b hb=>Heap.get?_update_other _ _ (Ne.symm hb);have hd₃:=Obj.data_mapFields dT (·.setIfInBounds 3 Value.none);have hT₃:=Heap.get?_update_self (Obj.mapFields (·.setIfInBounds 3 Value.none)) gT (Obj.isFreed_of_fields hd₃);refine h _ (fun b o hb hk=>(other b ?_).trans hb) (fun b o hb=>?_) ⟨nr,hH,oe,vs,a0,T,_,_,(other e (Ne.symm hTe)).trans he,hc,hd,h0',h1,nT,hT,hTe,hT₃,hd₃,by simp [hsz]⟩ fun b hx=>?_
 ·rintro rfl
  exact hk (.inr ⟨oe,vs,he,hd,h1⟩)
 ·by_cases hbT:b=T
  ·subst hbT; exact ⟨_,hT₃⟩
  ·exact ⟨o,(other b hbT).trans hb⟩
 ·rcases hx with z | ⟨oe',vs',w1,w2,w3⟩
  ·exact .inl z
  ·exact .inr ⟨oe',vs',(other e (Ne.symm hTe)).symm.trans w1,w2,w3⟩
theorem em' {cls:Value×Option Addr} (hfr:A.frames=some (env :: outer)) (hl:s.heap.FunFrames base (env :: outer)) (hf:env.frame=some L) (hz:h0.objs.size<=s.heap.objs.size) (hn:∀b,s.heap.objs.size<=b->H b=none)
  (fl:Fly h0 H s.heap e cls) (h:∀h',KF e ((env :: outer).filterMap (·.frame)) s.heap h'->FlyT h0 H h' e cls .none->(∀b,InEx h' e b->b=e\/s.heap.objs.size<=b)->Q () { s with heap:=h' }):wpAny M A (noteFrame (.ref e) env) (fun _ s'=>wpAny M A (setFlight (.ref e) none) Q E s') E s:=by
 have hex:=fun {b}=>fl.ex (b:=b);obtain ⟨nr,hH,oe,vs,a0,he,⟨hc,hdd⟩,hd,h0',q⟩:=fl;obtain ⟨c1,c2⟩:=cls;dsimp only at hc hdd;subst hc hdd;unfold noteFrame;simp only [hf];have fin:∀(hm:Heap),(∀b o,s.heap.get? b=some o->¬InEx s.heap e b->hm.get? b=some o)->(∀b o,b≠e->s.heap.get? b=some o->∃o',hm.get? b=some o') ->
   ∀h1,(∀b o,b≠e->hm.get? b=some o->b∉(env :: outer).filterMap (·.frame)->h1.get? b=some o)->(∀b o,b≠e->hm.get? b=some o->∃sl,h1.get? b=some { o with slots:=sl })->FlyT h0 H h1 e (oe.cls,oe.dict) (rawInt L)->(∀b,InEx h1 e b->b=e\/s.heap.objs.size<=b) ->
   wpAny M A (setFlight (.ref e) none) Q E { s with heap:=h1 }:=by
  intro hm k1 k2 h1 k4 k5 f1 k6;have nx:∀b o,s.heap.get? b=some o->b≠e->¬InEx h1 e b:=fun b o hb hbe hx=>by
   rcases k6 b hx with z | z
   ·exact hbe z
   ·exact absurd (Heap.lt_size hb) (Nat.not_lt.mpr z)
  refine fm' (s:={ s with heap:=h1 }) f1 fun h2 k7 k8 f2 k9=>h h2 ⟨fun b o hb hbf hx=>?_,fun b o hb hbf hx=>?_,fun b o hb=>?_⟩ f2 fun b hx=>k6 b (k9 b hx)
  ·have hbe:b≠e:=fun z=>hx (.inl z);exact k7 b o (k4 b o hbe (k1 b o hb hx) hbf) (nx b o hb hbe)
  ·have hbe:b≠e:=fun z=>hx (.inl z);obtain ⟨sl,q1⟩:=k5 b o hbe (k1 b o hb hx);exact ⟨sl,k7 b _ q1 (nx b o hb hbe)⟩
  ·by_cases hbe:b=e
   ·subst hbe;obtain ⟨_,_,oe',_,_,_,_,_,q1,_⟩:=f1;exact k8 b oe' q1
   ·obtain ⟨o',q1⟩:=k2 b o hbe hb;obtain ⟨sl,q2⟩:=k5 b o' hbe q1;exact k8 b _ q2
 rcases q with h1 | ⟨T,oT,ts,h1,nT,hT,hTe,gT,dT,h3⟩
 ·refine wpAny_bind (wpAny_field he hd h1 ?_);rw [if_neg (by decide)];exact el' hfr hl hf hz hn nr hH he hd (Array.getElem?_eq_some_iff.mp h1).1 h0' fun h1 k4 k5 f1 k6=>fin s.heap (fun b o hb _=>hb) (fun b o _ hb=>⟨o,hb⟩) h1 k4 k5 f1 k6
 ·refine wpAny_bind (wpAny_field he hd h1 ?_);rw [if_pos (show (Value.ref T != Value.none)=true from by simp)]
  refine wpAny_bind (wpAny_field gT dT h3 ?_);rw [if_neg (show ¬((Value.none == rawInt L)=true) from by simp [rawInt])]
  refine wpAny_bind (wpAny_setField gT dT (Array.getElem?_eq_some_iff.mp h3).1 ?_);have other:∀b,b≠T->(s.heap.update T (Obj.mapFields (·.setIfInBounds 3 Value.none))).get? b=s.heap.get? b:=fun b hb=>Heap.get?_update_other _ _ (Ne.symm hb);have noRecord:∀b o,s.heap.get? b=some o->(∀vs,o.data≠.fields vs)->b≠T:=fun b o hb hnf q=>by
   rw [q,gT] at hb; injection hb with hb; subst hb; exact hnf ts dT
  have hsize:(s.heap.update T (Obj.mapFields (·.setIfInBounds 3 Value.none))).objs.size=s.heap.objs.size:=by simp [Heap.update]
  have hl':(s.heap.update T (Obj.mapFields (·.setIfInBounds 3 Value.none))).FunFrames base (env :: outer):=hl.of_keeps fun b o hb hnf=>⟨o,(other b (noRecord b o hb hnf)).trans hb,rfl⟩;refine el' (s:={ s with heap:=s.heap.update T (Obj.mapFields (·.setIfInBounds 3 Value.none)) }) hfr hl' hf (by rw [hsize]; exact hz) (fun b hb=>hn b (by rw [hsize] at hb; exact hb)) nr hH ((other e (Ne.symm hTe)).trans he) hd (Array.getElem?_eq_some_iff.mp h1).1 h0' fun h1' k4 k5 f1 k6=>fin _ (fun b o hb hx=>(other b fun z=>?_).trans hb) (fun b o hbe hb=>?_) h1' k4 k5 f1 (by rw [hsize] at k6; exact k6)
  ·subst z; exact hx (.inr ⟨oe,vs,he,hd,h1⟩)
  ·by_cases hbT:b=T
   ·subst hbT; exact ⟨_,Heap.get?_update_self _ gT (Obj.isFreed_of_fields (Obj.data_mapFields dT (·.setIfInBounds 3 Value.none)))⟩
   ·exact ⟨o,(other b hbT).trans hb⟩
end
theorem KF.plain {e:Addr} {fs:List Addr} {h h':Heap} (k:KF e fs h h') {b:Addr} {o:Obj} (q:h.get? b=some o) (n:¬InEx h e b):∃sl,h'.get? b=some { o with slots:=sl }:=by
 by_cases hb:b∈fs
 ·exact k.slot b o q hb n
 ·exact ⟨o.slots,k.keep b o q hb n⟩
theorem _root_.L2.Inv.kf {X:Cx} {pins:List (Addr×Obj)} {σ:St} {H:Hp} {s:Shared} {h':Heap} {t':Nat} {a:Addr} (I:Inv X pins σ H s) (k:KF a (frs X.stack) s.heap h')
  (hr:∀b,InEx s.heap a b->(∀o vs,X.s₀.heap.get? b=some o->X.H₀ b=none->b∉X.fs->b∉X.ex->o.data≠.fields vs)/\H b=none/\(∃o vs,s.heap.get? b=some o/\o.data=.fields vs)/\∀p∈X.pn ++ pins,p.1≠b):Inv X pins σ H { s with heap:=h',toks:=t' }:=by
 have old:∀b,b < X.s₀.heap.objs.size->b∉X.fs->b∉frs X.stack:=fun b hb hf hs=>by
  rcases List.mem_cons.mp (I.stkSub b hs) with z | z
  ·subst z; exact absurd hb (Nat.not_lt.mpr I.ok.above)
  ·exact hf z
 have insub:∀b,b∈X.fs->b∈frs X.stack:=fun b hb=>by
  rcases I.ok.stk with z | ⟨z,hf⟩
  ·rw [z]; exact hb
  ·rw [z]; unfold frs; rw [List.filterMap_cons,hf]; exact List.mem_cons_of_mem _ hb
 have norec:∀b o,s.heap.get? b=some o->(∀vs,o.data≠.fields vs)->¬InEx s.heap a b:=fun b o hb hd hx=>by
  obtain ⟨_,_,⟨o',vs,e1,e2⟩,_⟩:=hr b hx;rw [hb] at e1; cases e1;exact hd vs e2
 have cellk:∀{c:Addr} {v:Option Value},s.heap.IsCell c v->h'.IsCell c v:=fun {c v} ⟨o,e,d⟩=>by
  obtain ⟨sl,e1⟩:=k.plain e (norec c o e fun vs z=>by rw [d] at z; cases z);exact ⟨_,e1,d⟩
 refine ⟨I.ok,I.os,I.bare,⟨fun b o e n hb hx=>?_,fun b o e n hb hx=>?_,I.base.free,fun b o e hx=>?_,I.base.tups,I.base.frzs,I.base.tbls⟩,?_,fun x c e=>?_,I.free,I.freeC,fun p hpp=>?_,fun b u q=>?_,I.len⟩
 ·have q:=I.base.keep b o e n hb hx;refine k.keep b o q (old b (Heap.lt_size e) hb) fun z=>?_;obtain ⟨n1,_,⟨o',vs,e1,e2⟩,_⟩:=hr b z;rw [q] at e1; cases e1;exact n1 o vs e n hb hx e2
 ·obtain ⟨sl,q⟩:=I.base.slot b o e n hb hx;obtain ⟨_,o',ho,hd⟩:=I.funs.mem hb;rw [q] at ho; cases ho;obtain ⟨sl2,q2⟩:=k.slot b _ q (insub b hb) (norec b _ q hd);exact ⟨sl2,q2⟩
 ·obtain ⟨o',q⟩:=I.base.there b o e hx;exact k.there b o' q
 ·obtain ⟨m,⟨o,es,ep,ho,hd,r⟩,hl⟩:=I.loc;obtain ⟨sl,e1⟩:=k.plain ho (norec _ o ho fun vs z=>by rw [hd] at z; cases z);refine ⟨m,⟨_,es,ep,e1,hd,r⟩,fun i x v h1 h2 h3=>?_⟩;obtain ⟨u,r1,l⟩:=hl i x v h1 h2 h3;refine ⟨u,r1,?_⟩;rcases l with l | ⟨l1,c,l2,l3⟩
  ·exact .inl l
  ·exact .inr ⟨l1,c,l2,cellk l3⟩
 ·obtain ⟨v,q⟩:=I.cell x c e;exact ⟨v,cellk q⟩
 ·obtain ⟨e,n,ne,nf,d⟩:=I.pin p hpp;refine ⟨k.keep p.1 p.2 e (fun z=>?_) (fun z=>(hr p.1 z).2.2.2 p hpp rfl),n,ne,nf,d⟩;rcases List.mem_cons.mp (I.stkSub _ z) with w | w
  ·exact ne w
  ·exact nf w
 ·refine (I.hok b u q).stay (fun c v hc e=>?_) (fun _ z=>z) fun _ _ z=>z;have hH:H c≠none:=by
   rcases hc with rfl | hc
   ·rw [q]; intro z; cases z
   ·rw [hc]; intro z; cases z
  exact k.keep c v e (fun z=>hH (I.stkFree c z)) fun z=>hH (hr c z).2.1
noncomputable def CX1 (P:Program) (w:World):CXT:=fun outer H s E e s'=>∃a Cv H',e=.ref a/\s'.os=s.os/\AllBare s'.gens/\Un (frs outer) [] H H' s.heap s'.heap/\HOk P w H' s'.heap/\∃dd,Fly s.heap H' s'.heap a (Cv,dd)/\E Cv dd H'
noncomputable def spD (K:PySem.W.Frag) (F:List D->Res D):Sp:=fun vs H Q E=>∃ds,Reps K H ds vs/\match F ds with
 | .stuck=>False
 | .ok d=>∀v H',Same H H'->Rep K H' d v->Q v H'
 | .err x=>∀C H' dd,PySem.W.nsIn K mainGlobals x.cls=some (some (.ref C))->Same H H'->Pay K H' x dd->E (.ref C) dd H'
section
variable {X:Cx} {k:Nat} {f:Addr} {fd:FuncData} {ps:List Str} {F:List D->Res D} {x:Str} {p pos:Pos} {e:Expr} {es:List Expr} {fs:DS->Res (List D)}
theorem ka' (Fn:FnOk X.prog X.w X.K X.mg X.base (CX1 X.prog X.w) k f fd ps (spD X.K F)) (hr:Room k X.A) (hg:Gl X x) (hm:X.mg x=some (.ref f)) (hk:PySem.W.keepIn X.K (.ref f)=true) (hb:Binds X.K fd ps []) (ha:PAD X (e :: es) fs)
  (hdb:(x == ("__debug__" : Str))=false:=by decide) (he:starEach (e :: es) X.env=(false,eval e X.env) :: starEach es X.env:=by rfl) (hpl:(backTo pos (starEach es X.env)).any (·.1)=false:=by rfl) :
  PD X (.Call (.Name x p) (e :: es) [] pos) (fun δ=>(fs δ).bind F):=by
 intro pins s σ G H δ I R hs
 try dsimp only at hs ⊢
 refine wpAny_Call_Name_kw (bh' I hg hm ?_ hdb);refine PySem.W.callWith_K (h₀:=X.base) I.ok.mod.kin hk (ha.use I R (az' hs) (fun ds us s1 vs H1 q I1 r1 e1 b1 p1=>⟨I1.kIn,?_⟩) fun e s1 q=>q.same fun x z=>aB' z) he hpl;have h2:=aD' hs q;have ev:(fs δ).bind F=F ds:=by rw [q]; rfl
 cases qg:F ds with
 | stuck=>exact (h2 qg).elim
 | ok d =>
  have hsp:spD X.K F vs H1 (fun v H'=>Same H1 H'/\Rep X.K H' d v) (fun _ _ _=>False):=⟨ds,p1,by rw [qg]; exact fun v H' a b=>⟨a,b⟩⟩;have hl:us.length=ps.length:=by rw [<- r1.length]; exact Fn.len _ _ _ _ hsp
  refine wpAny_call (codeAny_mono (Fn.run X.A X.stack s1 H1 ⟨us,[]⟩ us vs _ _ hr I1.env0 (by simpa using hb s1 us I1.kIn (by simpa using hl)) r1 hsp) fun r s' hq=>?_)
  cases r with
  | error e=>obtain ⟨_,_,_,_,_,_,_,_,_,_,z⟩:=hq; exact z.elim
  | ok fl =>
   cases fl with
   | ret u =>
    obtain ⟨v,H',I',r',e',p'⟩:=I1.after hq;exact ⟨d,v,H',ev.trans qg,I',r',e1.trans e',p'⟩
   | next=>exact False.elim hq
   | brk=>exact False.elim hq
   | cont=>exact False.elim hq
 | err z =>
  have hsp:spD X.K F vs H1 (fun v H'=>False) (fun Cv dd H'=>∃C,Cv=.ref C/\PySem.W.nsIn X.K mainGlobals z.cls=some (some (.ref C))/\Same H1 H'/\Pay X.K H' z dd):=⟨ds,p1,by rw [qg]; exact fun C H' dd a b c=>⟨C,rfl,a,b,c⟩⟩;have hl:us.length=ps.length:=by rw [<- r1.length]; exact Fn.len _ _ _ _ hsp
  refine wpAny_call (codeAny_mono (Fn.run X.A X.stack s1 H1 ⟨us,[]⟩ us vs _ _ hr I1.env0 (by simpa using hb s1 us I1.kIn (by simpa using hl)) r1 hsp) fun r s' hq=>?_)
  cases r with
  | error e =>
   obtain ⟨a,Cv,H',rfl,os,bare,un,hok,dd,fly,C,rfl,hC,sm,pay⟩:=hq;exact ⟨z,a,C,H',ev.trans qg,rfl,I1.call' (ch:=[]) os un hok bare (fun b z=>absurd z (by simp)),e1.trans sm,hC,dd,pay,fly.back e1.tk sm.tk b1⟩
  | ok fl =>
   cases fl with
   | ret u =>
    obtain ⟨v,H',_,_,_,_,_,z⟩:=hq;exact z.elim
   | next=>exact False.elim hq
   | brk=>exact False.elim hq
   | cont=>exact False.elim hq
end
noncomputable def startD (n N:Nat) (ds:List D):DS:=ds.map (fun d=>some (.arg d)) ++ List.replicate (N - n) none
noncomputable def outD:Out->Res D
 | .ret d=>.ok d
 | .nxt _=>.ok .non
 | .err x _=>.err x
 | _=>.stuck
noncomputable def fnD (n N:Nat) (body:DS->Out):List D->Res D:=fun ds=>if ds.length=n then outD (body (startD n N ds)) else .stuck
theorem cL' {K:PySem.W.Frag} {H:Hp} {ds:List D} {vs:List V} (N:List Str) (r:Reps K H ds vs):RepSt K H H (start N vs) (startD ds.length N.length ds):=by
 have hl:=r.length;refine ⟨Same.refl H,?_,fun i sv e=>?_,fun i j as es v hij e1 e2=>?_⟩
 ·unfold L2.start startD;simp [hl]
 ·unfold startD at e
  by_cases hi:i < ds.length
  ·rw [List.getElem?_append_left (by simpa using hi),List.getElem?_map] at e
   cases q:ds[i]? with
   | none=>rw [q] at e; cases e
   | some d =>
    rw [q] at e;simp only [Option.map_some,Option.some.injEq] at e;subst e;obtain ⟨v,e1,e2⟩:=r.get q;refine ⟨v,?_,e2⟩;unfold L2.start;rw [List.getElem?_append_left (by simpa [hl] using hi),List.getElem?_map,e1];rfl
  ·rw [List.getElem?_append_right (by simpa using hi),List.getElem?_replicate] at e
   split at e <;> cases e
 ·exfalso;unfold startD at e1
  by_cases hi:i < ds.length
  ·rw [List.getElem?_append_left (by simpa using hi),List.getElem?_map] at e1
   cases q:ds[i]? with
   | none=>rw [q] at e1; cases e1
   | some d=>rw [q] at e1; cases e1
  ·rw [List.getElem?_append_right (by simpa using hi),List.getElem?_replicate] at e1
   split at e1 <;> cases e1
section
variable {P:Program} {w:World} {K:PySem.W.Frag} {mg:Str->Option Value} {base:Heap}
theorem gP' {N:List Str} {qual:Str} {scope:Scope} {f:Addr} {cdv:Value} {A:Around} {outer:List Env} {s:Shared} {H:Hp} {E:XK} {pins:List (Addr×Obj)} {σ':St} {H':Hp} {s':Shared} {a:Addr} {Cv:Value}
  (I:Inv (cxOf (CX1 P w) P w K mg base N qual scope f cdv A outer s H E) pins σ' H' s') {dd:Option Addr} (fl:Fly s.heap H' s'.heap a (Cv,dd)) (hE:E Cv dd H') :
  (cxOf (CX1 P w) P w K mg base N qual scope f cdv A outer s H E).xe (.ref a) s':=by
 show wpAny (model P w) (A.deeper (envOfC qual scope s.heap.objs.size f cdv)) (leaving (envOfC qual scope s.heap.objs.size f cdv) (.ref a)) (fun _ s''=>CX1 P w outer H s E (.ref a) s'') _ s';have hz:s.heap.objs.size<=s'.heap.objs.size:=I.sz;have hn:∀b,s'.heap.objs.size<=b->H' b=none:=fun b hb=>I.hok.fresh hb;unfold leaving;refine wpAny_bind (em' (base:=base) I.ok.frames I.stack rfl hz hn fl fun h2 k2 f2 _=>?_);have I0:Inv (cxOf (CX1 P w) P w K mg base N qual scope f cdv A outer s H E) [] σ' H' s':=I.pins_of fun p hp=>absurd hp (by simp);have J:=I0.kf (h':=h2) (t':=s'.toks) k2 fun b hx=>by
  obtain ⟨n1,n2,n3⟩:=fl.ex hx;exact ⟨fun o vs e _ _ _=>n1 o vs e,n2,n3,fun p hp=>absurd (show p∈([]:List (Addr×Obj)) ++ [] from hp) (by simp)⟩
 exact ⟨a,Cv,H',rfl,I.os,I.bare,J.base,J.hok,dd,f2.fly,hE⟩
noncomputable def tB (X:Cx) (f:DS->Out):TS:=fun D σ H=>∃G δ,RepSt X.K G H σ δ/\f δ≠.stuck/\(∀pins fl s1,SPost X pins G H (f δ) fl s1->SP X pins D fl s1)/\∀pins s2 e s1,Inv X pins σ H s2->SX X pins G H s2.heap (f δ) e s1->X.xe e s1
theorem PSDs.tb {X:Cx} {st:List Stmt} {f:DS->Out} (h:PSDs X st f):PSs X st (tB X f):=by
 intro pins s σ H D I ⟨G,δ,R,n,k1,k2⟩;exact wpAny_mono (h pins s σ G H δ I R n) (fun fl s1 p=>k1 pins fl s1 p) fun e s1 p=>k2 pins s e s1 I p
theorem kb' {x qual:Str} {st:Stmt} {f:Addr} {fd:FuncData} {N ps:List Str} {k:Nat} {body:DS->Out} (F:Fun K x qual st f fd) (S:FnScope N ps (defScope st))
  (hb:∀(cdv:Value) (A:Around) (outer:List Env) (s:Shared) (H:Hp) (E:XK),Room k (A.deeper (envOfC qual (defScope st) s.heap.objs.size f cdv))->PSDs (cxOf (CX1 P w) P w K mg base N qual (defScope st) f cdv A outer s H E) (defBody st) body) :
  FnOk P w K mg base (CX1 P w) (k + 1) f fd ps (spD K (fnD ps.length N.length body)):=by
 obtain ⟨oc,od,kV,doc,pm,an,cdv,ct,osl,rfl,lk,hcd⟩:=F.ex;refine gv' lk hcd S (fun vs H Q E ⟨ds,r,h⟩=>?_) fun A outer s H vs Q E hr hsp=>?_
 ·rw [r.length];unfold fnD at h
  by_cases c:ds.length=ps.length
  ·exact c
  ·rw [if_neg c] at h; exact h.elim
 ·obtain ⟨ds,r,h⟩:=hsp;have c:ds.length=ps.length:=by
   unfold fnD at h
   by_cases c:ds.length=ps.length
   ·exact c
   ·rw [if_neg c] at h; exact h.elim
  have ev:fnD ps.length N.length body ds=outD (body (startD ds.length N.length ds)):=by unfold fnD; rw [if_pos c,c]
  rw [ev] at h;refine ⟨_,(hb cdv A outer s H E hr).tb,H,startD ds.length N.length ds,cL' N r,fun z=>?_,fun pins fl s1 p=>?_,fun pins s2 e s1 I p=>?_⟩
  ·rw [z] at h; exact h
  ·cases fl with
   | next =>
    obtain ⟨δ',σ',H',q1,q2,q3,q4⟩:=p;rw [q1] at h;exact ⟨σ',H',q2,h .non H' q4.same mkN⟩
   | brk=>obtain ⟨δ',σ',H',q1,_⟩:=p; rw [q1] at h; exact h.elim
   | cont=>obtain ⟨δ',σ',H',q1,_⟩:=p; rw [q1] at h; exact h.elim
   | ret u =>
    obtain ⟨d,v,σ',H',q1,q2,q3,q4,q5,q6⟩:=p;rw [q1] at h;exact ⟨v,σ',H',q2,q5,h v H' q4 q6⟩
  ·obtain ⟨x,δ',a,C,σ',H',q1,rfl,q3,q4,q5,q6,dd,pay,q7⟩:=p;rw [q1] at h;refine gP' q3 ?_ (h C H' dd q6 q5.same pay);refine q7.back (h0:=s.heap) (H0:=H) (H1:=H) (TK.refl H) q4 fun e n z o vs ho hd=>?_
   by_cases hf:e∈frs outer
   ·obtain ⟨_,o',ho',hd'⟩:=I.ok.funs.mem hf;have ho2:s.heap.get? e=some o':=ho';rw [ho] at ho2
    cases ho2
    exact hd' vs hd
   ·exact z o vs (I.base.keep e o ho n hf (by intro z; exact absurd z (by show e∉([]:List Addr); simp))) hd
end
theorem kc' {K:PySem.W.Frag} {h₀:Heap} {mg:Str->Option Value} {x:Str} {C:Addr} {bmB:List Value} {newId:String} (X:K.In h₀) (hm:mg x=some (.ref C)) (q:PySem.W.excIn K C bmB newId=true):OwnCls x C bmB newId mg h₀:=by
 refine ⟨hm,?_⟩;unfold PySem.W.excIn at q
 split at q
 ·rename_i dd cd sl ho
  split at q
  ·rename_i C' bm k0 k1 k2 k3 n k5 hm hs;simp only [Bool.and_eq_true,beq_iff_eq,Bool.not_eq_true'] at q;obtain ⟨⟨⟨⟨⟨rfl,rfl⟩,hdel⟩,ht⟩,hok⟩,hni⟩:=q;obtain ⟨nm,bs,mro,ns,qn,hd,sn,sub,ab,col,del⟩:=cd;dsimp only at hm hdel hok hni;subst hm hdel;have hsl:sl = #[k0,k1,k2,k3,some (.builtin n),k5]:=by
    obtain ⟨l⟩:=sl;simp only at hs;rw [hs]
   subst hsl;exact ⟨bm,ns,nm,qn,bs,hd,sn,sub,ab,col,dd,k0,k1,k2,k3,k5,_,X _ _ ho,.of_isNs (PySem.W.isNs_of_in X hok),PySem.W.nsMap_none_of_in X hok hni,PySem.W.tail_of_in X ht⟩
  ·cases q
 ·cases q
noncomputable def raiseD (x:Str) (fs:DS->Res (List D)):DS->Out:=fun δ=>match fs δ with
 | .ok _=>.err ⟨x,none⟩ δ
 | .err y=>.err y δ
 | .stuck=>.stuck
section
variable {X:Cx} {e:Expr} {es:List Expr} {fs:DS->Res (List D)} {np cpos pos:Pos} {x:Str} {C:Addr} {B newId initId:String} {bmB:List Value}
theorem en' (hc:X.calm=true) (FB:ExcBaseFacts B newId initId bmB) (hx:PySem.W.nsIn X.K mainGlobals x=some (some (.ref C))) (q:PySem.W.excIn X.K C bmB newId=true) (hg:Gl X x) (hm:X.mg x=some (.ref C)) (ha:PAD X (e :: es) fs) (hsz:(e :: es).length<=100)
  (hdb:(x == ("__debug__" : Str))=false:=by decide) (he:starEach (e :: es) X.env=(false,eval e X.env) :: starEach es X.env:=by rfl) (hplain:(backTo cpos (starEach es X.env)).any (·.1)=false:=by rfl) (hlen:∀δ ds,fs δ=.ok ds->ds.length<=sizeLine) :
  PSD X (.Raise (some (.Call (.Name x np) (e :: es) [] cpos)) none pos) (raiseD x fs):=by
 intro pins s σ G H δ I R hs
 try dsimp only at hs ⊢
 have hs':fs δ≠.stuck:=fun z=>hs (by unfold raiseD; rw [z]);obtain ⟨tl,N,nm,qn,bs,hdct,sn,sub,ab,col,dd,k0,k1,k2,k3,k5,mN,hC,hN,hni,T⟩:=(kc' I.ok.mod.kin hm q).obj;refine wpAny_Raise_call_subT (C:=C) (nm:=nm) (q:=qn) (N:=N) (bs:=bs) (bm:=tl) (hdct:=hdct) (sn:=sn) (sub:=sub) (ab:=ab) (col:=col) (dd:=dd) (k0:=k0) (k1:=k1) (k2:=k2) (k3:=k3) (k5:=k5)
  FB (mN:=mN) (T.hasType FB.hasBase) (I.ok.hd hc) (by rw [he]; show (false || (backTo cpos (starEach es X.env)).any (·.1))=false; rw [hplain]; rfl) hni (bh' I hg hm ⟨rfl,?_⟩ hdb)
 have ha':=fun {P:List Value->Shared->Prop} {E:Value->Shared->Prop} k kx=>PAD.use (pos:=cpos) (P:=P) (E:=E) ha I R hs' k kx;rw [he] at ha' ⊢;refine Calls.evalArgs_plain (ha' (fun ds us s1 vs H1 q1 I1 r1 e1 b1 p1=>⟨rfl,?_,I1.bk _ _ hC,hN.keeps I1.bk,T.keeps I1.bk,fun h' a hme=>?_⟩) fun e s1 p=>?_)
 ·rw [<- r1.length,p1.length]; exact hlen δ ds q1
 ·obtain ⟨t,ht,ht2,ht3⟩:=hme.there;have hn:H1 a=none:=by
   cases z:H1 a with
   | none=>rfl
   | some u =>
    obtain ⟨ob,q⟩:=obj_some (I1.hok a u z);rw [hme.new] at q; cases q
  refine ⟨⟨x,none⟩,δ,a,C,σ,H1,by unfold raiseD; rw [q1],rfl,I1.kept (t':=s1.toks) hme.keeps,e1.tk,R.mono e1,hx,?_⟩;refine ⟨none,rfl,b1 a (e1.free hn) (fun o vs ho=>by rw [hme.new] at ho; cases ho),hn,_,_,_,ht,⟨rfl,rfl⟩,rfl,rfl,.inl rfl⟩
 ·exact p.sx R fun x z=>by unfold raiseD; rw [z]
end
theorem _root_.L2.Inv.goes {X:Cx} {pins:List (Addr×Obj)} {σ:St} {H:Hp} {s:Shared} {M:Model} {A:Around} {E:Value->Shared->Prop} {Q:Unit->Shared->Prop} {i:Nat} {n:Str} {pos:Pos}
  (I:Inv X pins σ H s) (hN:X.N.Nodup) (hi:X.N[i]? = some n) (hk:X.env.scope.names.lookup n=some .local) (h:∀s',Inv X pins (σ.set i none) H s'->Q () s'):wpAny M A (do bindName X.env n .none; unbindBehindTheSuite X.env n pos) Q E s:=by
 obtain ⟨m,hn,hl⟩:=id I.loc;have hcls:(X.env.scope.kind == .class || (X.env.scope.kind == .module && X.env.locals != X.env.globals))=false:=by rw [I.ok.kind]; rfl
 have cne:=I.cne;refine wpAny_nameGoes_keeps hk hn hcls fun h' v hn' hs=>h _ ?_;obtain ⟨oL,_,_,hoL,_⟩:=id hn;have tracked:HOk X.prog X.w H h':=fun b ob e=>by
  refine (I.hok b ob e).stay (fun c w' hc q=>(hs.2 c ?_).trans q) (fun _ q=>q) fun _ _ q=>q
  rintro rfl
  rcases hc with rfl | hc
  ·rw [I.free] at e; cases e
  ·rw [I.free] at hc; cases hc
 refine ⟨I.ok,I.os,I.bare,⟨fun b o e n hb hx=>?_,fun b o e n hb hx=>?_,I.base.free,fun b o e hx=>?_,I.base.tups,I.base.frzs,I.base.tbls⟩,⟨_,hn',fun j y v' e1 e2 e3=>?_⟩,fun y c e=>?_,I.free,I.freeC,fun p hp=>?_,tracked,by simpa using I.len⟩
 ·exact (hs.2 b (Nat.ne_of_lt (Nat.lt_of_lt_of_le (Heap.lt_size e) I.ok.above))).trans (I.base.keep b o e n hb hx)
 ·obtain ⟨sl,e1⟩:=I.base.slot b o e n hb hx;exact ⟨sl,(hs.2 b (Nat.ne_of_lt (Nat.lt_of_lt_of_le (Heap.lt_size e) I.ok.above))).trans e1⟩
 ·obtain ⟨o',e1⟩:=I.base.there b o e hx;exact ⟨o',(hs.2 b (Nat.ne_of_lt (Nat.lt_of_lt_of_le (Heap.lt_size e) I.ok.above))).trans e1⟩
 ·by_cases hj:j=i
  ·subst hj;rw [List.getElem?_set] at e2
   split at e2
   ·split at e2 <;> cases e2
   ·rename_i z; exact absurd rfl z
  ·rw [List.getElem?_set_ne (Ne.symm hj)] at e2;obtain ⟨u',r',q⟩:=hl j y v' e1 e2 e3;refine ⟨u',r',?_⟩;rcases q with ⟨k,e⟩ | ⟨k,c,e,z⟩
   ·refine .inl ⟨k,?_⟩;have:y≠n:=fun e=>hj (dv' hN e1 (e ▸ hi));simp [this,e]
   ·exact .inr ⟨k,c,e,z.sameBut hs (cne y c e)⟩
 ·obtain ⟨w',z⟩:=I.cell y c e;exact ⟨w',z.sameBut hs (cne y c e)⟩
 ·obtain ⟨e,n,ne,nf,d⟩:=I.pin p hp;exact ⟨(hs.2 p.1 ne).trans e,n,ne,nf,d⟩
theorem RepSt.clear {K:PySem.W.Frag} {G H:Hp} {σ:St} {δ:DS} (R:RepSt K G H σ δ) (i:Nat):RepSt K G H (σ.set i none) (δ.set i none) where
 same:=R.same
 len:=by simpa using R.len
 at_:=fun j sv e=>by
  by_cases hj:i=j
  ·subst hj;rw [List.getElem?_set] at e
   split at e
   ·split at e <;> cases e
   ·rename_i z; exact absurd rfl z
  ·rw [List.getElem?_set_ne hj] at e;obtain ⟨u,e1,e2⟩:=R.at_ j sv e;exact ⟨u,by rw [List.getElem?_set_ne hj]; exact e1,e2⟩
 sep:=fun j k ds es u hjk e1 e2 e3=>by
  have n1:i≠j:=by
   rintro rfl
   rw [List.getElem?_set] at e1
   split at e1
   ·split at e1 <;> cases e1
   ·omega
  have n2:i≠k:=by
   rintro rfl
   rw [List.getElem?_set] at e2
   split at e2
   ·split at e2 <;> cases e2
   ·omega
  rw [List.getElem?_set_ne n1] at e1 e3;rw [List.getElem?_set_ne n2] at e2;rw [List.getElem?_set_ne n2];exact R.sep j k ds es u hjk e1 e2 e3
abbrev _root_.L2.Cx.marked (X:Cx) (a:Addr):Cx:={ X with A:=X.A.mark (some (.ref a)),calm:=false }
theorem _root_.L2.Inv.marked {X:Cx} {pins:List (Addr×Obj)} {σ:St} {H:Hp} {s:Shared} (I:Inv X pins σ H s) (a:Addr):Inv (X.marked a) pins σ H s :=
 ⟨⟨I.ok.mod,I.ok.kind,I.ok.glob,I.ok.blt,I.ok.above,I.ok.inj,I.ok.has,I.ok.cab,fun z=>(by cases z),I.ok.frames,I.ok.stk,I.ok.exf,I.ok.bs,I.ok.bsz,I.ok.noex,I.ok.exfs,I.ok.funs,I.ok.frf⟩,I.os,I.bare,I.base,I.loc,I.cell,I.free,I.freeC,I.pin,I.hok,I.len⟩
theorem _root_.L2.Inv.unmarked {X:Cx} {pins:List (Addr×Obj)} {σ:St} {H:Hp} {s:Shared} {a:Addr} (ok:X.Ok) (I:Inv (X.marked a) pins σ H s):Inv X pins σ H s :=
 ⟨ok,I.os,I.bare,I.base,I.loc,I.cell,I.free,I.freeC,I.pin,I.hok,I.len⟩
theorem _root_.L2.Inv.track {X:Cx} {pins:List (Addr×Obj)} {σ:St} {H:Hp} {s:Shared} {a:Addr} {o:HO} (I:Inv X pins σ H s) (hn:H a=none) (h0:∀ob,X.s₀.heap.get? a=some ob->X.H₀ a=none->a∈X.ex) (hl:a≠X.env.locals) (hc:∀x c,X.env.cells.lookup x=some c->c≠a) (hp:∀p∈X.pn ++ pins,p.1≠a)
  (new:ObjOk X.prog X.w (upd H a o) s.heap a o):Inv X pins σ (upd H a o) s:=by
 refine ⟨I.ok,I.os,I.bare,⟨I.base.keep,I.base.slot,fun b ob e n hx=>?_,I.base.there,fun b xs e=>?_,fun b ob u e=>?_,fun b ps e=>?_⟩,I.loc,I.cell,?_,fun x c e=>?_,fun p hpp=>?_,fun b u q=>?_,I.len⟩
 ·rw [ai' (fun z=>?_)]
  ·exact I.base.free b ob e n hx
  ·subst z;exact hx (h0 ob e n)
 ·rw [ai' (aF' (I.base.tups b xs e) hn)]; exact I.base.tups b xs e
 ·rw [ai' (aF' (I.base.frzs b ob u e) hn)]; exact I.base.frzs b ob u e
 ·obtain ⟨more,q⟩:=I.base.tbls b ps e;exact ⟨more,by rw [ai' (aF' q hn)]; exact q⟩
 ·rw [ai' (Ne.symm hl)]; exact I.free
 ·rw [ai' (hc x c e)]; exact I.freeC x c e
 ·obtain ⟨e,n,ne,nf,d⟩:=I.pin p hpp;exact ⟨e,by rw [ai' (hp p hpp)]; exact n,ne,nf,d⟩
 ·by_cases hb:b=a
  ·subst hb; rw [aj'] at q; cases q; exact new
  ·rw [ai' hb] at q;refine (I.hok b u q).stay (fun c v _ e=>e) (fun c z=>?_) fun c xs z=>?_
   ·rw [ai' (aF' z hn)]; exact z
   ·rw [ai' (aF' z hn)]; exact z
noncomputable def Exn.toD (x:Exn):D:=match x.pay with
 | none=>.exc x.cls
 | some (f,d)=>.excf x.cls f d
noncomputable def tryD (i:Nat) (sub:Str->Option Bool) (fb fsu:DS->Out):DS->Out:=fun δ=>match fb δ with
 | .err x δ'=>(match sub x.cls with
  | some true=>(match fsu (δ'.set i (some (.val x.toD))) with
   | .nxt δ2=>.nxt (δ2.set i none)
   | .ret d=>.ret d
   | _=>.stuck)
  | _=>.stuck)
 | o=>o
noncomputable def noObjs (h:Heap):Heap:={ h with objs:=#[] }
theorem dl' (h:Heap) (b:Addr):NoRec (noObjs h) b:=fun o vs e=>absurd (Heap.lt_size e) (Nat.not_lt_zero _)
section
variable {X:Cx} {body suite:List Stmt} {b₀:Stmt} {fb fsu:DS->Out} {sub:Str->Option Bool} {n c:Str} {C':Addr} {cp hpos pos:Pos}
theorem kd' (i:Nat) (hcalm:X.calm=true) (hst:X.stack=X.env :: X.outer/\X.env.frame=some X.env.locals) (hN:X.N.Nodup) (hcn:Gl X c) (hcm:X.mg c=some (.ref C'))
  (hsub:∀x C,PySem.W.nsIn X.K mainGlobals x=some (some (.ref C))->sub x=some true->PySem.W.exmOne X.K (.ref C) (.ref C')=some true) (hb:PSDs X body fb) (hsu:∀a,PSDs (X.marked a) (b₀ :: suite) fsu)
  (hi:X.N[i]? = some n:=by rfl) (hk:X.env.scope.names.lookup n=some .local:=by rfl) (hdb:(c == ("__debug__" : Str))=false:=by decide) :
  PSD X (.Try body [.ExceptHandler (some (.Name c cp)) (some n) (b₀ :: suite) hpos] [] [] pos) (tryD i sub fb fsu):=by
 intro pins s σ G H δ I R hs;have hfb:fb δ≠.stuck:=fun z=>hs (by unfold tryD; rw [z]);refine wpAny_Try_except (jY' (fun pins I=>hb pins s σ G H δ I R hfb) I (fun fl s1 p b=>?_) fun e s1 p=>?_)
 ·cases fl with
  | next=>obtain ⟨δ',σ',H',q1,q2⟩:=p; exact wpAny_execs_nil ⟨δ',σ',H',by unfold tryD; rw [q1],q2⟩
  | brk=>obtain ⟨δ',σ',H',q1,q2⟩:=p; exact ⟨δ',σ',H',by unfold tryD; rw [q1],q2⟩
  | cont=>obtain ⟨δ',σ',H',q1,q2⟩:=p; exact ⟨δ',σ',H',by unfold tryD; rw [q1],q2⟩
  | ret u=>obtain ⟨d,v,σ',H',q1,q2⟩:=p; exact ⟨d,v,σ',H',by unfold tryD; rw [q1],q2⟩
 ·obtain ⟨x,δ',a,C,σ',H',q1,rfl,I1,tk1,R1,hC,dd,pay,fly⟩:=p;have hsx:sub x.cls=some true:=by
   cases z:sub x.cls with
   | none=>exact (hs (by unfold tryD; rw [q1]; simp only [z])).elim
   | some k =>
    cases k with
    | true=>rfl
    | false=>exact (hs (by unfold tryD; rw [q1]; simp only [z])).elim
  have ev:tryD i sub fb fsu δ=(match fsu (δ'.set i (some (.val x.toD))) with
   | .nxt δ2=>.nxt (δ2.set i none)
   | .ret d=>.ret d
   | _=>.stuck):=by unfold tryD; rw [q1]; simp only [hsx]
  have hfs:fsu (δ'.set i (some (.val x.toD)))≠.stuck:=fun z=>hs (by rw [ev,z]);have flyE:Fly (noObjs s.heap) H' s1.heap a (.ref C,dd):=by
   obtain ⟨_,w2,oe,vs,a0,w3,w4,w5,w6,w7⟩:=fly;refine ⟨dl' _ _,w2,oe,vs,a0,w3,w4,w5,w6,?_⟩;rcases w7 with w7 | ⟨T,oT,ts,z1,z2,z3⟩
   ·exact .inl w7
   ·exact .inr ⟨T,oT,ts,z1,dl' _ _,z3⟩
  have own:∀b,InEx s1.heap a b->(∀o,X.s₀.heap.get? b=some o->X.H₀ b=none->b∈X.ex)/\H' b=none/\(∃o vs,s1.heap.get? b=some o/\o.data=.fields vs)/\∀p∈X.pn ++ pins,p.1≠b:=fun b hx=>by
   obtain ⟨n1,n2,o1,vs1,g1,d1⟩:=fly.ex hx;refine ⟨fun o e n=>?_,n2,⟨o1,vs1,g1,d1⟩,fun p hp z=>?_⟩
   ·by_cases hxx:b∈X.ex
    ·exact hxx
    ·exfalso
     by_cases hf:b∈X.fs
     ·exact I1.fs_rec hf g1 d1
     ·have k1:=I1.base.keep b o e n hf hxx;have k0:=I.base.keep b o e n hf hxx;rw [g1] at k1; cases k1;exact n1 o1 vs1 k0 d1
   ·subst z;have k1:=(I1.pin p hp).1;have k0:=(I.pin p hp).1;rw [g1] at k1;rw [<- Option.some.inj k1] at k0;exact n1 o1 vs1 k0 d1
  have hfr:X.A.frames=some (X.env :: X.outer):=by rw [I.ok.frames,hst.1]
  have hfun:s1.heap.FunFrames X.base (X.env :: X.outer):=by have:=I1.stack; rw [hst.1] at this; exact this
  have hfs':(X.env :: X.outer).filterMap (·.frame)=frs X.stack:=by rw [hst.1]; rfl
  refine em' (base:=X.base) hfr hfun hst.2 (Nat.zero_le _) (fun b hb=>I1.hok.fresh hb) flyE fun h2 k2 f2 new2=>?_;rw [hfs'] at k2;have J:=I1.kf (t':=s1.toks) k2 fun b hx=>by
   obtain ⟨w1,w2⟩:=own b hx;exact ⟨fun o vs e n _ hxx=>absurd (w1 o e n) hxx,w2⟩
  have own2:∀b,InEx h2 a b->(∀o,X.s₀.heap.get? b=some o->X.H₀ b=none->b∈X.ex)/\H' b=none/\(∃o vs,h2.get? b=some o/\o.data=.fields vs)/\∀p∈X.pn ++ pins,p.1≠b:=fun b hx=>by
   obtain ⟨_,n2,n3⟩:=f2.ex hx;rcases new2 b hx with z | z
   ·subst z;obtain ⟨w1,_,_,w4⟩:=own b (.inl rfl);exact ⟨w1,n2,n3,w4⟩
   ·refine ⟨fun o e _=>absurd (Nat.lt_of_lt_of_le (Heap.lt_size e) (Nat.le_trans I1.sz z)) (Nat.lt_irrefl _),n2,n3,fun p hp w=>?_⟩;have:=Heap.lt_size (I1.pin p hp).1;rw [w] at this;exact absurd this (Nat.not_lt.mpr z)
  have exf2:=f2;obtain ⟨_,hHa,oe,vs,a0,T,oT,ts,ge,⟨ce,dde⟩,de,rest⟩:=exf2;have Jm:=J.marked a;refine wpAny_handleBy_cons (codeAny_handlers_test (bh' (X:=X.marked a) Jm hcn hcm ?_ hdb)) (by intro q; cases q);have LT:PySem.W.Looks (model X.prog X.w) h2 (typeOf (.ref a)) (.ref C):=by
   have ce:oe.cls=.ref C:=ce;rw [<- ce];exact (PySem.W.Looks.ld ge).andThen .now
  refine PySem.W.exm_one J.kIn LT (hsub x.cls C hC hsx) _ _ _ _ (fun _ _ e=>e) ?_;refine codeAny_handlers_suite_as ?_;refine fm' (s:={ s1 with heap:=h2,toks:=s1.toks }) f2 fun h3 k3 k3' f3 in3=>?_
  have J3:Inv (X.marked a) pins σ' H' { s1 with heap:=h3,toks:=s1.toks }:=by
   have q:=L2.Inv.kf (X:=X.marked a) (s:={ s1 with heap:=h2,toks:=s1.toks }) (h':=h3) (t':=s1.toks) (a:=a) Jm ⟨fun b o hb _ hx=>k3 b o hb hx,fun b o hb _ hx=>⟨o.slots,k3 b o hb hx⟩,k3'⟩ fun b hx=>by
    obtain ⟨w1,w2⟩:=own2 b hx;exact ⟨fun o vs e n _ hxx=>absurd (w1 o e n) hxx,w2⟩
   exact q
  obtain ⟨_,_,oe3,vs3,_,_,_,_,ge3,⟨ce3,dde3⟩,de3,_⟩:=f3;have hHa':H' a=none:=hHa;have J4:=J3.track (o:=.ext (excAt a C dd)) hHa' (own a (.inl rfl)).1 (fun z=>by
    have g:h3.get? (X.marked a).env.locals=some oe3:=by rw [<- z]; exact ge3
    exact J3.locals_dict g de3) (fun y c' e z=>by
    obtain ⟨v,o,g,d⟩:=J3.cell y _ e;have g':h3.get? a=some o:=by rw [<- z]; exact g
    rw [ge3] at g'; cases g';rw [de3] at d; cases d) (own a (.inl rfl)).2.2.2
   ⟨⟨oe3,vs3,ge3,ce3,dde3,de3⟩,⟨oe3,ge3⟩,fun ha hb ⟨o,vs,g,q⟩ k=>⟨o,vs,k o g,q⟩⟩
  have sm:=ap' hHa' (.ext (excAt a C dd));refine cz' (X:=X.marked a) J4 hN hi (Or.inl hk) (v:=.ref a) (u:=.ref a) rfl (fun s4 I4=>?_) (Or.inr hk);have R4:RepSt X.K G (upd H' a (.ext (excAt a C dd))) (σ'.set i (some (.ref a))) (δ'.set i (some (.val x.toD))) :=
   (R1.mono sm).set i (by
    unfold Exn.toD;unfold Pay at pay
    cases z:x.pay with
    | none =>
     rw [z] at pay;have pay:dd=none:=pay;subst pay;rw [Rep]; exact ⟨a,C,rfl,hC,aj'⟩
    | some fd =>
     obtain ⟨f,d⟩:=fd;rw [z] at pay;obtain ⟨dx,u,rfl,w1,w2⟩:=pay;rw [Rep]; exact ⟨a,C,dx,u,rfl,hC,aj',sm _ _ w1,w2.mono sm⟩)
  refine wpAny_mono (hsu a pins s4 _ G _ _ I4 R4 hfs) (fun fl s5 p=>?_) fun e s5 p=>?_
  ·cases fl with
   | next =>
    obtain ⟨δ2,σ2,H2,q2,I5,t5,R5⟩:=p;refine (I5.unmarked I.ok).goes hN hi hk fun s6 I6=>?_;exact ⟨δ2.set i none,_,H2,by rw [ev,q2],I6,tk1.trans (sm.tk.trans t5),R5.clear i⟩
   | brk=>obtain ⟨δ2,σ2,H2,q2,_⟩:=p; exact (hs (by rw [ev,q2])).elim
   | cont=>obtain ⟨δ2,σ2,H2,q2,_⟩:=p; exact (hs (by rw [ev,q2])).elim
   | ret u =>
    obtain ⟨d,v,σ2,H2,q2,I5,t5,g5,r5,p5⟩:=p;refine (I5.unmarked I.ok).goes hN hi hk fun s6 I6=>?_;exact ⟨d,v,_,H2,by rw [ev,q2],I6,tk1.trans (sm.tk.trans t5),g5,r5,p5⟩
  ·obtain ⟨y,δ2,_,_,_,_,q2,_⟩:=p;exact (hs (by rw [ev,q2])).elim
end
noncomputable def compX (X:Cx) (N':List Str) (scope:Scope) (cl:List (Str×Addr)) (C:Addr) (s:Shared) (H:Hp) (fp:List Addr):Cx where
 prog:=X.prog
 w:=X.w
 K:=X.K
 mg:=X.mg
 base:=X.base
 A:=X.A
 N:=N'
 s₀:=s
 H₀:=H
 env:=compEnvC scope cl C X.env
 outer:=X.stack
 stack:=X.stack
 ex:=fp
 fn:=fun _=>false
 calm:=X.calm
 pn:=[]
 xe:=fun _ _=>False
section
variable {X:Cx} {N':List Str} {scope:Scope} {cl:List (Str×Addr)} {C:Addr} {s:Shared} {H:Hp} {fp:List Addr} {pins:List (Addr×Obj)} {σ:St}
theorem iu' (I:Inv X pins σ H s) (hk:scope.kind=.function) (hC:s.heap.objs.size<=C) (hc:∀x c,cl.lookup x=some c->X.env.cells.lookup x=some c)
  (has:∀x,((relabel scope X.env).names.lookup x=some .cell\/(relabel scope X.env).names.lookup x=some .free)->∃c,cl.lookup x=some c) (hf:∀b∈fp,FpOk X pins H b/\b < s.heap.objs.size):(compX X N' scope cl C s H fp).Ok where
 mod:=I.ok.mod
 kind:=hk
 glob:=I.ok.glob
 blt:=I.ok.blt
 above:=hC
 inj:=fun x y c h1 h2=>I.ok.inj x y c (hc x c h1) (hc y c h2)
 has:=has
 cab:=fun x c h=>by cases h
 hd:=I.ok.hd
 frames:=I.ok.frames
 stk:=.inl rfl
 exf:=fun b hb=>⟨Nat.ne_of_lt (Nat.lt_of_lt_of_le (hf b hb).2 hC),fun x c h=>(hf b hb).1.2.2.2.2.1 x c (hc x c h)⟩
 bs:=I.bs
 bsz:=Nat.le_trans I.ok.bsz I.sz
 noex:=fun b o e hb=>by
  obtain ⟨_,h1,h2,h3,_⟩:=(hf b hb).1;rcases h3 with z | z
  ·exact I.ok.noex b o e z
  ·exact absurd (Nat.lt_of_lt_of_le (Heap.lt_size e) (Nat.le_trans I.ok.bsz z)) (Nat.lt_irrefl _)
 exfs:=fun b hb z=>by
  obtain ⟨_,h1,h2,_⟩:=(hf b hb).1;rcases List.mem_cons.mp (I.stkSub b z) with w | w
  ·exact h1 w
  ·exact h2 w
 funs:=I.stack
 frf:=I.stkFree
end
noncomputable def Yields (K:PySem.W.Frag) (J:It) (H:Hp) (ds:List D):Prop :=
 ∀H',Same H H'->(∀i d,ds[i]? = some d->J.go i H'/\∀x H'',J.yld i H' x H''->Same H' H''/\Rep K H'' d x)/\J.stop ds.length H'
noncomputable def IPost (X:Cx) (pins:List (Addr×Obj)) (σ:St) (H:Hp) (tg:Expr) (r:Res (List D)) (itv:Value) (s2:Shared):Prop :=
 ∃(ds:List D) (it:Addr) (fp:List Addr) (tn:Nat->Heap->Prop) (J:It) (H':Hp),r=.ok ds/\itv=.ref it/\Inv X pins σ H' s2/\Turn X.prog X.w X.K tg J fp it tn/\tn 0 s2.heap/\(∀b∈fp,FpOk X pins H' b)/\Same H H'/\Yields X.K J H' ds
noncomputable def PID (X:Cx) (tg iter:Expr) (f:DS->Res (List D)):Prop :=
 ∀(pins:List (Addr×Obj)) (s:Shared) (σ:St) (G H:Hp) (δ:DS),Inv X pins σ H s->RepSt X.K G H σ δ->f δ≠.stuck ->
  wpAny (model X.prog X.w) X.A (eval iter X.env) (fun v s1=>wpAny (model X.prog X.w) X.A (pyIter v) (IPost X pins σ H tg (f δ)) (XPost X pins σ H s.heap (f δ)) s1) (XPost X pins σ H s.heap (f δ)) s
noncomputable def signsD (x:Str):List D:=x.cps.toList.map fun c=>.str ⟨#[c]⟩
noncomputable def Its (x:Str):It :=
 ⟨fun i _=>i < x.cps.size,fun i H v H'=>H'=H/\∃c,x.cps[i]? = some c/\v=.str ⟨#[c]⟩,fun i _=>x.cps.size<=i⟩
theorem fS' {P:Program} {w:World} {K:PySem.W.Frag} {tg:Expr} (x:Str) (t:Tok) (it:Addr):Turn P w K tg (Its x) [it] it (fun i h=>h.IsStrIter it "str_ascii_iterator" x t i) where
 mem:=by simp
 obj:=fun i h st b hb=>by
  have e:b=it:=by simpa using hb
  subst e;obtain ⟨o,e,c,d⟩:=st;exact ⟨o,e,fun v z=>by rw [d] at z; cases z⟩
 keep:=fun i h h' st k=>by
  obtain ⟨o,e,c,d⟩:=st;exact ⟨o,k it (by simp) o e,c,d⟩
 item:=by
  intro X hP hw hK hc i pins s σ H E I hf st hg;subst hP hw hK;have hx:x.cps[i]? = some x.cps[i]:=Array.getElem?_eq_getElem hg;obtain ⟨f0,f1,f2,f3,f4,f5⟩:=hf it (by simp);refine wpAny_pyNext_ascii_item st hx fun h' st' sb=>?_;have I1:Inv X pins σ H { s with heap:=h',toks:=s.toks + 1 }:=I.turned (t':=s.toks + 1) (fun b o hb e=>(sb.2 b hb).trans e) f0 f1 f3 f4 f5
  obtain ⟨o,e,c,d⟩:=id st';exact ⟨_,rfl,gn' (s:={ s with heap:=h',toks:=s.toks + 1 }) e c d (by decide) ⟨.str ⟨#[x.cps[i]]⟩,H,I1,⟨_,rfl⟩,⟨rfl,_,hx,rfl⟩,st',fun b hb=>(hf b hb).1⟩⟩
 done:=by
  intro X hP hw hK hc i pins s σ H E I hf st hg;subst hP hw hK;obtain ⟨f0,f1,f2,f3,f4,f5⟩:=hf it (by simp);exact wpAny_pyNext_ascii_end (I.ok.hd hc) st (Array.getElem?_eq_none hg) fun h' eb=>⟨rfl,I.turned (t':=s.toks) (fun b o hb e=>eb b o hb e) f0 f1 f3 f4 f5⟩
 self:=fun _ _ _ _ _ st h=>wpAny_pyIter_striter_ascii st h
theorem fT' {K:PySem.W.Frag} {H:Hp} {x:Str}:Yields K (Its x) H (signsD x):=by
 intro H' e;refine ⟨fun i d hd=>?_,by unfold signsD; simp [Its]⟩;unfold signsD at hd;rw [List.getElem?_map] at hd
 cases z:x.cps.toList[i]? with
 | none=>rw [z] at hd; cases hd
 | some c =>
  rw [z] at hd
  cases hd
  have hl:i < x.cps.size:=by
   have:=List.getElem?_eq_some_iff.mp z;obtain ⟨q,_⟩:=this;simpa using q
  have hc:x.cps[i]? = some c:=by simpa using z
  refine ⟨hl,fun v H'' y=>?_⟩;obtain ⟨rfl,c',h1,rfl⟩:=y;rw [hc] at h1
  cases h1
  exact ⟨Same.refl _,by rw [Rep]⟩
noncomputable def seqItems:D->Res (List D)
 | .tup ds=>.ok ds
 | .lst ds=>.ok ds
 | .str x=>if x.cps.all (· < 128)=true then .ok (signsD x) else .stuck
 | _=>.stuck
theorem eT' {K:PySem.W.Frag} {H:Hp} {a:Addr} {xs:List V} {ds:List D} {X:Cx} {pins:List (Addr×Obj)} {σ:St} {s:Shared} (hq:SqL K H a xs) (r:Reps K H ds xs):Yields K (Itl K a) H ds:=by
 intro H' e;have hq':=e.seq hq;have r':=r.mono e;refine ⟨fun i d hd=>?_,xs,hq',by rw [r.length]; exact Nat.le_refl _⟩;obtain ⟨v,e1,e2⟩:=r'.get hd;refine ⟨⟨xs,v,hq',e1⟩,fun x H'' y=>?_⟩;obtain ⟨rfl,y⟩:=y;have:=y xs hq';rw [e1] at this
 cases this
 exact ⟨Same.refl _,e2⟩
theorem fU' {K:PySem.W.Frag} {H:Hp} {a:Addr} {xs:List V} {ds:List D} (hq:SqT K H a xs) (r:Reps K H ds xs):Yields K (Itt K a) H ds:=by
 intro H' e;have hq':=fi' e hq;have r':=r.mono e;refine ⟨fun i d hd=>?_,xs,hq',by rw [r.length]; exact Nat.le_refl _⟩;obtain ⟨v,e1,e2⟩:=r'.get hd;refine ⟨⟨xs,v,hq',e1⟩,fun x H'' y=>?_⟩;obtain ⟨rfl,y⟩:=y;have:=y xs hq';rw [e1] at this
 cases this
 exact ⟨Same.refl _,e2⟩
theorem bI' {X:Cx} {tg iter:Expr} {f:DS->Res D} (h:PD X iter f):PID X tg iter (fun δ=>(f δ).bind seqItems):=by
 intro pins s σ G H δ I R hs
 try dsimp only at hs ⊢
 refine h.use I R (az' hs) (fun d u s1 v H1 q I1 r1 e1 b1 p1=>?_) fun e s1 q=>q.same fun x z=>aB' z;have h2:=aD' hs q
 cases d with
 | lst ds =>
  obtain ⟨a,xs,rfl,hq,r⟩:=repL p1
  cases r1
  obtain ⟨its,rv,p,hz⟩:=I1.list hq;refine wpAny_pyIter_list p.isList ?_;refine ⟨ds,s1.heap.objs.size,[s1.heap.objs.size],_,_,H1,by rw [q]; rfl,rfl,I1.kept (t':=s1.toks) fun b o e=>Heap.get?_push_of_some _ e,go' a _,⟨_,Heap.get?_push_size _ rfl,rfl,rfl⟩,fun b hb=>?_,e1,eT' (X:=X) (pins:=pins) (σ:=σ) (s:=s1) hq r⟩;have e:b=s1.heap.objs.size:=by simpa using hb
  subst e;exact I1.fpOk (Nat.le_refl _) (I1.hok.fresh (Nat.le_refl _))
 | tup ds =>
  obtain ⟨a,xs,rfl,hq,r⟩:=repT p1
  cases r1
  obtain ⟨its,rv,p,hz⟩:=I1.tuple hq;refine wpAny_pyIter_tuple p ?_;refine ⟨ds,s1.heap.objs.size,[s1.heap.objs.size],_,_,H1,by rw [q]; rfl,rfl,I1.kept (t':=s1.toks) fun b o e=>Heap.get?_push_of_some _ e,fJ' a _,⟨_,Heap.get?_push_size _ rfl,rfl,rfl⟩,fun b hb=>?_,e1,fU' hq r⟩;have e:b=s1.heap.objs.size:=by simpa using hb
  subst e;exact I1.fpOk (Nat.le_refl _) (I1.hok.fresh (Nat.le_refl _))
 | str x =>
  rw [repS p1] at r1;obtain ⟨t,rfl⟩:=r1;have ha:x.cps.all (· < 128)=true:=by
   cases z:x.cps.all (· < 128) with
   | true=>rfl
   | false =>
    have h3:(if (x.cps.all fun c=>decide (c < 128))=true then Res.ok (signsD x) else Res.stuck)≠.stuck:=h2
    rw [z] at h3; exact (h3 rfl).elim
  refine wpAny_pyIter_ascii ha ?_;refine ⟨signsD x,s1.heap.objs.size,[s1.heap.objs.size],_,_,H1,by rw [q]; unfold seqItems; rw [Res.bind_ok]; simp only [ha,if_true],rfl,I1.kept (t':=s1.toks) fun b o e=>Heap.get?_push_of_some _ e,fS' x t _,⟨_,Heap.get?_push_size _ rfl,rfl,rfl⟩,fun b hb=>?_,e1,fT'⟩;have e:b=s1.heap.objs.size:=by simpa using hb
  subst e;exact I1.fpOk (Nat.le_refl _) (I1.hok.fresh (Nat.le_refl _))
 | _=>exact (h2 rfl).elim
noncomputable def frz1:Option SV->Option SV
 | some sv=>some (.arg sv.view)
 | none=>none
noncomputable def compS (m:Nat) (fr:List Nat) (δ:DS):DS:=List.replicate m none ++ fr.map fun i=>(δ[i]?).elim none frz1
noncomputable def mapR (g:D->Res D):List D->Res (List D)
 | []=>.ok []
 | d :: ds=>(g d).bind fun x=>(mapR g ds).bind fun xs=>.ok (x :: xs)
noncomputable def eltD (t:TGD) (fe:DS->Res D) (δ':DS) (d:D):Res D:=match t d δ' with
 | some δ1=>(match fe δ1 with | .ok x=>.ok x | _=>.stuck)
 | none=>.stuck
noncomputable def compD (m:Nat) (fr:List Nat) (t:TGD) (fe:DS->Res D) (fi:DS->Res (List D)):DS->Res D:=fun δ=>(fi δ).bind fun ds=>lstD (mapR (eltD t fe (compS m fr δ)) ds)
noncomputable def KeepsT (m:Nat) (t:TGD):Prop:=∀d δ δ1,t d δ=some δ1->δ1.length=δ.length/\∀i,m<=i->δ1[i]? = δ[i]?
theorem RepSt.weak {K:PySem.W.Frag} {G H:Hp} {σ:St} {δ δ1:DS} {m:Nat} (R:RepSt K G H σ δ1) (hl:δ1.length=δ.length) (hm:∀i,m<=i->δ1[i]? = δ[i]?) (hn:∀i,i < m->∀sv,δ[i]?≠some (some sv)):RepSt K G H σ δ where
 same:=R.same
 len:=R.len.trans hl
 at_:=fun i sv e=>by
  by_cases h:i < m
  ·exact (hn i h sv e).elim
  ·exact R.at_ i sv (by rw [hm i (by omega)]; exact e)
 sep:=fun i j ds es v hij e1 e2 e3=>by
  by_cases h1:i < m
  ·exact (hn i h1 _ e1).elim
  ·by_cases h2:j < m
   ·exact (hn j h2 _ e2).elim
   ·exact R.sep i j ds es v hij (by rw [hm i (by omega)]; exact e1) (by rw [hm j (by omega)]; exact e2) e3
theorem cM' {m:Nat} {fr:List Nat} {δ:DS} (i:Nat) (h:i < m) (sv:SV):(compS m fr δ)[i]?≠some (some sv):=by
 unfold compS;rw [List.getElem?_append_left (by simpa using h),List.getElem?_replicate,if_pos h];intro z; cases z
noncomputable def compV (m:Nat) (fr:List Nat) (σ:St):St:=List.replicate m none ++ fr.map fun i=>(σ[i]?).elim none id
theorem iv' {K:PySem.W.Frag} {G H:Hp} {σ:St} {δ:DS} (m:Nat) (fr:List Nat) (R:RepSt K G H σ δ):RepSt K H H (compV m fr σ) (compS m fr δ) where
 same:=Same.refl H
 len:=by simp [compV,compS]
 at_:=fun i sv e=>by
  by_cases h:i < m
  ·exact (cM' i h sv e).elim
  ·unfold compS at e;unfold compV;rw [List.getElem?_append_right (by simpa using h),List.getElem?_map] at e;rw [List.getElem?_append_right (by simpa using h),List.getElem?_map];simp only [List.length_replicate] at e ⊢
   cases q:fr[i - m]? with
   | none=>rw [q] at e; cases e
   | some k =>
    rw [q] at e;simp only [Option.map_some,Option.some.injEq] at e
    cases q2:δ[k]? with
    | none=>rw [q2] at e; cases e
    | some o =>
     rw [q2] at e
     cases o with
     | none=>cases e
     | some sv' =>
      simp only [Option.elim_some,frz1,Option.some.injEq] at e;subst e;obtain ⟨v,e1,e2⟩:=R.view q2;exact ⟨v,by simp [e1],e2⟩
 sep:=fun i j ds es v hij e1 e2 e3=>by
  exfalso
  by_cases h:i < m
  ·exact (cM' i h _ e1).elim
  ·unfold compS at e1;rw [List.getElem?_append_right (by simpa using h),List.getElem?_map] at e1;simp only [List.length_replicate] at e1
   cases q:fr[i - m]? with
   | none=>rw [q] at e1; cases e1
   | some k =>
    rw [q] at e1;simp only [Option.map_some,Option.some.injEq] at e1
    cases q2:δ[k]? with
    | none=>rw [q2] at e1; cases e1
    | some o =>
     rw [q2] at e1
     cases o with
     | none=>cases e1
     | some sv'=>simp [frz1] at e1
theorem dC' {g:D->Res D}:∀{ds rs:List D},mapR g ds=.ok rs->rs.length=ds.length
 | [],rs,h=>by simp only [mapR,Res.ok.injEq] at h; subst h; rfl
 | d :: ds,rs,h=>by
  simp only [mapR] at h
  cases q:g d with
  | stuck=>rw [q] at h; cases h
  | err x=>rw [q] at h; cases h
  | ok x =>
   rw [q,Res.bind_ok] at h
   cases q2:mapR g ds with
   | stuck=>rw [q2] at h; cases h
   | err x=>rw [q2] at h; cases h
   | ok xs =>
    rw [q2,Res.bind_ok] at h
    cases h
    simp [dC' q2]
theorem fn' {g:D->Res D}:∀{ds rs:List D} {i:Nat} {d:D},mapR g ds=.ok rs->ds[i]? = some d->∃r,g d=.ok r/\rs[i]? = some r
 | [],rs,i,d,h,e=>by simp at e
 | d' :: ds,rs,i,d,h,e=>by
  simp only [mapR] at h
  cases q:g d' with
  | stuck=>rw [q] at h; cases h
  | err x=>rw [q] at h; cases h
  | ok x =>
   rw [q,Res.bind_ok] at h
   cases q2:mapR g ds with
   | stuck=>rw [q2] at h; cases h
   | err x=>rw [q2] at h; cases h
   | ok xs =>
    rw [q2,Res.bind_ok] at h
    cases h
    cases i with
    | zero=>simp at e; subst e; exact ⟨x,q,by simp⟩
    | succ i =>
     simp at e;obtain ⟨r,e1,e2⟩:=fn' q2 e;exact ⟨r,e1,by simpa using e2⟩
theorem eU' {g:D->Res D} (hg:∀d,NoErr (g d)):∀ds,NoErr (mapR g ds)
 | []=>ah'
 | d :: ds=>by
  intro x h;simp only [mapR] at h
  cases q:g d with
  | stuck=>rw [q] at h; cases h
  | err y=>exact hg d y q
  | ok y =>
   rw [q,Res.bind_ok] at h
   cases q2:mapR g ds with
   | stuck=>rw [q2] at h; cases h
   | err z=>exact eU' hg ds z q2
   | ok xs=>rw [q2,Res.bind_ok] at h; cases h
theorem ke' {t:TGD} {fe:DS->Res D} {δ':DS} (d:D):NoErr (eltD t fe δ' d):=by
 intro x h;unfold eltD at h
 split at h
 ·split at h <;> cases h
 ·cases h
noncomputable def condM (cs:List Expr) (env:Env):Sem Bool:=match cs with
 | c :: _=>isTrue c env (eval c env)
 | []=>pure true
theorem eV' (elt target iter:Expr) (cs:List Expr) (scope:Scope) (pos:Pos) (it acc:Value) (env:Env) (hcs:cs.length<=1) :
  compTurn (.ListComp elt [⟨target,iter,cs,0⟩] scope pos) 0 it acc env=(standAt iter.pos >>= fun _=>pyNext it >>= fun r=>match r with
   | none=>pure (.done .next)
   | some v=>letOwnedTupleGo target it v >>= fun _=>assign target env v >>= fun _ =>
    condM cs env >>= fun ok=>(if ok=true then (eval elt env >>= fun x=>call (.builtin "list.append") [acc,x] >>= fun _=>pure ()) else pure ()) >>= fun _ =>
     again (.compLoop (.ListComp elt [⟨target,iter,cs,0⟩] scope pos) 0 it acc env)):=by
 match cs,hcs with
 | [],_=>rfl
 | [c],_ =>
  rw [compTurn_list];simp only [List.forIn_cons,List.forIn_nil,if_true,bind_assoc,pure_bind]
  congr 1
  funext _
  congr 1
  funext r
  cases r with
  | none=>rfl
  | some v =>
   dsimp only
   congr 1
   funext _
   congr 1
   funext _
   congr 1
   funext ok
   cases ok with
   | false=>rfl
   | true=>simp only [if_true,bind_assoc,pure_bind]
noncomputable def eltI (t:TGD) (fc:DS->Res Bool) (fe:DS->Res D) (δ':DS) (d:D):Res D:=match t d δ' with
 | some δ1=>(match fc δ1 with
  | .ok true=>(match fe δ1 with | .ok x=>.ok (.tup [x]) | _=>.stuck)
  | .ok false=>.ok (.tup [])
  | _=>.stuck)
 | none=>.stuck
noncomputable def unI:D->List D
 | .tup xs=>xs
 | _=>[]
noncomputable def compK (t:TGD) (fc:DS->Res Bool) (fe:DS->Res D) (δ':DS) (ds:List D):Res D:=if ds.length<=sizeLine then (mapR (eltI t fc fe δ') ds).bind (fun rs=>Res.ok (D.lst (rs.flatMap unI))) else .stuck
noncomputable def compI (m:Nat) (fr:List Nat) (t:TGD) (fc:DS->Res Bool) (fe:DS->Res D) (fi:DS->Res (List D)):DS->Res D:=fun δ=>(fi δ).bind (compK t fc fe (compS m fr δ))
theorem gQ' {t:TGD} {fc:DS->Res Bool} {fe:DS->Res D} {δ':DS} {d r:D} (h:eltI t fc fe δ' d=.ok r):∃δ1,t d δ'=some δ1/\((∃x,fc δ1=.ok true/\fe δ1=.ok x/\r=.tup [x])\/(fc δ1=.ok false/\r=.tup [])):=by
 unfold eltI at h
 split at h
 ·rename_i δ1 e
  split at h
  ·rename_i q
   split at h
   ·rename_i x q2
    cases h
    exact ⟨δ1,e,.inl ⟨x,q,q2,rfl⟩⟩
   ·cases h
  ·rename_i q
   cases h
   exact ⟨δ1,e,.inr ⟨q,rfl⟩⟩
  ·cases h
 ·cases h
theorem kf' {t:TGD} {fc:DS->Res Bool} {fe:DS->Res D} {δ':DS} (d:D):NoErr (eltI t fc fe δ' d):=by
 intro x h;unfold eltI at h
 split at h
 ·split at h
  ·split at h <;> cases h
  ·cases h
  ·cases h
 ·cases h
theorem gR' {t:TGD} {fc:DS->Res Bool} {fe:DS->Res D} {δ':DS}:∀{ds rs:List D},mapR (eltI t fc fe δ') ds=.ok rs->(rs.flatMap unI).length<=ds.length
 | [],rs,h=>by simp only [mapR,Res.ok.injEq] at h; subst h; exact Nat.le_refl _
 | d :: ds,rs,h=>by
  simp only [mapR] at h
  cases q:eltI t fc fe δ' d with
  | stuck=>rw [q] at h; cases h
  | err x=>rw [q] at h; cases h
  | ok x =>
   rw [q,Res.bind_ok] at h
   cases q2:mapR (eltI t fc fe δ') ds with
   | stuck=>rw [q2] at h; cases h
   | err x=>rw [q2] at h; cases h
   | ok xs =>
    rw [q2,Res.bind_ok] at h
    cases h
    have ih:=gR' q2;obtain ⟨δ1,_,w⟩:=gQ' q;have hx:(unI x).length<=1:=by rcases w with ⟨y,_,_,rfl⟩ | ⟨_,rfl⟩ <;> simp [unI]
    rw [List.flatMap_cons,List.length_append,List.length_cons];omega
noncomputable def CTD (X:Cx) (cs:List Expr) (f:DS->Res Bool):Prop :=
 ∀(pins:List (Addr×Obj)) (s:Shared) (σ:St) (G H:Hp) (δ:DS),Inv X pins σ H s->RepSt X.K G H σ δ->f δ≠.stuck ->
  wpAny (model X.prog X.w) X.A (condM cs X.env) (TPost X pins σ H (f δ)) (XPost X pins σ H s.heap (f δ)) s
section
variable {X:Cx} {m:Nat} {fr:List Nat} {N':List Str} {scope:Scope} {cl:List (Str×Addr)} {tg iter elt:Expr} {cs:List Expr} {pos:Pos} {t:TGD} {fc:DS->Res Bool} {fe:DS->Res D} {fi:DS->Res (List D)}
theorem fV' {C:Addr} {s3:Shared} {H2:Hp} {fp:List Addr} {it:Addr} {tn:Nat->Heap->Prop} {J:It} {ds rs:List D} {δ':DS} {acc:Addr} {RR:Result->Shared->Prop} (hcalm:X.calm=true)
  (T:Turn X.prog X.w X.K tg J fp it tn) (Y:Yields X.K J H2 ds) (hR:mapR (eltI t fc fe δ') ds=.ok rs) (hz:ds.length<=sizeLine) (hkt:KeepsT m t) (hlow:∀i,i < m->∀sv,δ'[i]?≠some (some sv))
  (ht:PGD (compX X N' scope cl C s3 H2 (acc :: fp)) tg t) (hcs:cs.length<=1) (hc:CTD (compX X N' scope cl C s3 H2 (acc :: fp)) cs fc) (he:PD (compX X N' scope cl C s3 H2 (acc :: fp)) elt fe)
  (hacc:acc∉fp) (hfp:∀b∈acc :: fp,b≠C/\b∉frs X.stack/\∀x c,cl.lookup x=some c->c≠b)
  (fin:∀s' σ' H' ys its,Inv (compX X N' scope cl C s3 H2 (acc :: fp)) [] σ' H' s'->Same H2 H'->H' acc=none->(∀b∈fp,H' b=none)->s'.heap.PlainList acc its->Vals ys its.toList->Reps X.K H' (rs.flatMap unI) ys->RR (.ok .next) s')
  {s4:Shared} {σ0:St} {its0:Array Value} (I4:Inv (compX X N' scope cl C s3 H2 (acc :: fp)) [] σ0 H2 s4) (R4:RepSt X.K H2 H2 σ0 δ') (st4:tn 0 s4.heap) (f4:∀b∈acc :: fp,H2 b=none) (p4:s4.heap.PlainList acc #[]) :
  codeAny (model X.prog X.w) X.A (.compLoop (.ListComp elt [⟨tg,iter,cs,0⟩] scope pos) 0 (.ref it) (.ref acc) (compEnvC scope cl C X.env)) RR s4:=by
 let X':=compX X N' scope cl C s3 H2 (acc :: fp)
 have fpok:∀{H':Hp} {pn:List (Addr×Obj)},(∀b∈fp,H' b=none)->(∀b∈fp,∀p∈pn,p.1≠b)->∀b∈fp,FpOk X' pn H' b:=fun hn hp b hb =>
  ⟨hn b hb,(hfp b (List.mem_cons_of_mem _ hb)).1,(hfp b (List.mem_cons_of_mem _ hb)).2.1,.inl (List.mem_cons_of_mem _ hb),(hfp b (List.mem_cons_of_mem _ hb)).2.2,fun p hpp=>hp b hb p (by simpa [X',compX] using hpp)⟩
 refine codeAny_loop rfl (fun n s=>∃i σ' H' ys its,n=ds.length - i/\i<=ds.length/\Inv X' [] σ' H' s/\Same H2 H'/\RepSt X.K H2 H' σ' δ'/\tn i s.heap/\H' acc=none/\(∀b∈fp,H' b=none)/\s.heap.PlainList acc its/\Vals ys its.toList/\Reps X.K H' ((rs.take i).flatMap unI) ys/\ys.length<=i) (fun n s hI=>?_) ds.length
  ⟨0,σ0,H2,[],#[],by simp,Nat.zero_le _,I4,Same.refl _,R4,st4,f4 acc (by simp),fun b hb=>f4 b (List.mem_cons_of_mem _ hb),p4,.nil,by simpa using Reps.nil,Nat.le_refl _⟩
 obtain ⟨i,σ1,H1,ys,its,rfl,hi,I1,e1,R1,st1,ha1,fr1,p1,v1,r1,hyl⟩:=hI;show wpAny _ _ ((compTurn (.ListComp elt [⟨tg,iter,cs,0⟩] scope pos) 0 (.ref it) (.ref acc) (compEnvC scope cl C X.env)).onRaise (fun x=>do noteFrame x (compEnvC scope cl C X.env); theTreesLotGoes x)) _ _ s
 refine wpAny_noted ?_;rw [eV' _ _ _ _ _ _ _ _ _ hcs];refine wpAny_bind (wpAny_standAt (wpAny_bind ?_));have pk:∀{b:Addr} {o:Obj},True:=trivial
 by_cases hlt:i < ds.length
 ·obtain ⟨d,hd⟩:∃d,ds[i]? = some d:=⟨ds[i],by simp [hlt]⟩;obtain ⟨go,yl⟩:=(Y H1 e1).1 i d hd;obtain ⟨r,hg,hr⟩:=fn' hR hd;obtain ⟨δ1,ht1,hf1⟩:=gQ' hg;obtain ⟨na,oa⟩:=p1;have pin1:Inv X' [(acc,({ cls:=.type "list",data:=.seq its na }:Obj))] σ1 H1 s:=I1.pins_of fun p hp=>by
   have:p=(acc,({ cls:=.type "list",data:=.seq its na }:Obj)):=by simpa using hp
   subst this;exact ⟨oa,ha1,(hfp acc (by simp)).1,(hfp acc (by simp)).2.1,fun v z=>(by cases z)⟩
  refine wpAny_mono (T.item X' rfl rfl rfl hcalm i _ s σ1 H1 _ pin1 (fpok fr1 fun b hb p hp z=>by
   have:p=(acc,({ cls:=.type "list",data:=.seq its na }:Obj)):=by simpa using hp
   subst this; exact hacc (by rw [show acc=b from z]; exact hb)) st1 go) (fun rv s5 ⟨u,hrv,h5⟩=>?_) fun _ _ z=>z
  subst hrv;refine wpAny_bind (wpAny_mono h5 (fun _ s6 ⟨x,H6,I6,rx,y6,st6,fr6⟩=>?_) fun _ _ z=>z);obtain ⟨e6,px⟩:=yl x H6 y6;have I6':=I6.pinned (fpok fr6 fun b hb p hp z=>by
   have:p=(acc,({ cls:=.type "list",data:=.seq its na }:Obj)):=by simpa using hp
   subst this; exact hacc (by rw [show acc=b from z]; exact hb)) (T.obj _ _ st6)
  have R6:=R1.mono e6;refine wpAny_bind (wpAny_mono (ht _ _ s6 σ1 H2 H6 δ' δ1 d x u I6' rx R6 px ht1) (fun _ s7 ⟨σ7,I7,R7⟩=>?_) fun _ _ z=>z);obtain ⟨hl1,hm1⟩:=hkt d δ' δ1 ht1;have R7':RepSt X.K H2 H6 σ7 δ':=R7.weak hl1 hm1 hlow;have e9:(rs.take (i + 1)).flatMap unI=(rs.take i).flatMap unI ++ unI r:=by rw [List.take_succ,hr]; simp
  have hfc:fc δ1≠.stuck:=by rcases hf1 with ⟨x,q,_⟩ | ⟨q,_⟩ <;> (rw [q]; intro z; cases z)
  have hfe:∀y,fc δ1≠.err y:=by rcases hf1 with ⟨x,q,_⟩ | ⟨q,_⟩ <;> (intro y; rw [q]; intro z; cases z)
  refine wpAny_bind (jT' (f:=fc) (δ:=δ1) (fun pins I=>hc pins _ _ _ _ _ I R7 hfc) I7 (fun k sk Hk qk Ik ek bk=>?_) fun e s8 q=>by obtain ⟨y,_,_,_,z,_⟩:=q; exact (hfe y z).elim);have oak:=(Ik.pin (acc,({ cls:=.type "list",data:=.seq its na }:Obj)) (by simp)).1;have hak:=(Ik.pin (acc,({ cls:=.type "list",data:=.seq its na }:Obj)) (by simp)).2.1;have fpk:∀b∈fp,∀o,s6.heap.get? b=some o->sk.heap.get? b=some o/\Hk b=none:=fun b hb o e=>by
   have q:=Ik.pin (b,o) (List.mem_append_right _ (List.mem_append_right _ (bw' hb e)));exact ⟨q.1,q.2.1⟩
  cases k with
  | false =>
   have hu:unI r=[]:=by
    rcases hf1 with ⟨x,q,_⟩ | ⟨q,rfl⟩
    ·rw [q] at qk; cases qk
    ·rfl
   have Ik':Inv X' [] σ7 Hk sk:=Ik.pins_of fun p hp=>absurd hp (by simp);refine wpAny_bind (wpAny_pure (wpAny_pure ⟨rfl,ds.length - (i + 1),by omega,i + 1,σ7,Hk,ys,its,rfl,hlt,Ik',e1.trans (e6.trans ek),R7'.mono ek,?_,hak,fun b hb=>?_,⟨na,oak⟩,v1,?_,by omega⟩))
   ·refine T.keep _ _ _ st6 fun b hb o e=>(fpk b hb o e).1
   ·obtain ⟨o,e,_⟩:=T.obj _ _ st6 b hb;exact (fpk b hb o e).2
   ·rw [e9,hu,List.append_nil]; exact r1.mono (e6.trans ek)
  | true =>
   obtain ⟨xk,hfx,hrx⟩:∃x,fe δ1=.ok x/\r=.tup [x]:=by
    rcases hf1 with ⟨x,_,q2,q3⟩ | ⟨q,_⟩
    ·exact ⟨x,q2,q3⟩
    ·rw [q] at qk; cases qk
   subst hrx;refine wpAny_bind (wpAny_bind (he.use Ik (R7.mono ek) (by rw [hfx]; intro z; cases z) (fun d8 u8 s8 v8 H8 q8 I8 r8 e8 b8 p8=>?_) fun e s8 q=>by rw [hfx] at q; exact q.none.elim));rw [hfx] at q8; cases q8;have oa8:=(I8.pin (acc,({ cls:=.type "list",data:=.seq its na }:Obj)) (by simp)).1;have ha8:=(I8.pin (acc,({ cls:=.type "list",data:=.seq its na }:Obj)) (by simp)).2.1;have hsz:its.size<=i:=by have:=v1.length; simp only [Array.length_toList] at this; omega
   refine wpAny_bind (wpAny_list_append_plain (show s8.heap.PlainList acc its from ⟨na,oa8⟩) (fun h9 p9 sb9=>?_) (by omega))
   have I8':Inv X' [] σ7 H8 s8:=I8.pins_of fun p hp=>absurd hp (by simp);have fp8:∀b∈fp,∀o,s6.heap.get? b=some o->s8.heap.get? b=some o/\H8 b=none:=fun b hb o e=>by
    have q:=I8.pin (b,o) (List.mem_append_right _ (List.mem_append_right _ (bw' hb e)));exact ⟨q.1,q.2.1⟩
   have nacc:∀b,H8 b≠none->b≠acc:=fun b hb z=>hb (by rw [z]; exact ha8);have I9:Inv X' [] σ7 H8 { s8 with heap:=h9 }:=I8'.call' (ch:=[acc]) rfl
    ⟨fun b o e n hb hx=>(sb9.2 b (by simpa using hx)).trans e,fun b o e n hb hx=>⟨o.slots,(sb9.2 b (by simpa using hx)).trans e⟩,fun b o e n _=>n,fun b o e hx=>⟨o,(sb9.2 b (by simpa using hx)).trans e⟩,fun b xs e=>e,fun b o u e=>e,fun b ps e=>⟨#[],by simpa using e⟩⟩
    (fun b u q=>(I8'.hok b u q).stay (fun c v hc e=>(sb9.2 c (by
     rcases hc with rfl | hc
     ·exact nacc c (by rw [q]; intro z; cases z)
     ·exact nacc c (by rw [hc]; intro z; cases z))).trans e) (fun _ z=>z) fun _ _ z=>z) I8'.bare
    fun b hb=>by
     have e:b=acc:=by simpa using hb
     subst e;exact ⟨.inl (by show b∈b :: fp; simp),(hfp b (by simp)).1,fun x c e=>(hfp b (by simp)).2.2 x c e,fun p hp=>absurd hp (by show p∉([]:List (Addr×Obj)) ++ []; simp)⟩
   refine wpAny_pure (wpAny_pure ⟨rfl,ds.length - (i + 1),by omega,i + 1,σ7,H8,ys ++ [v8],its.push u8,rfl,hlt,I9,e1.trans (e6.trans (ek.trans e8)),R7'.mono (ek.trans e8),?_,ha8,fun b hb=>?_,p9,?_,?_,by rw [List.length_append]; show _ + 1<=_; omega⟩)
   ·refine T.keep _ _ _ st6 fun b hb o e=>(sb9.2 b (fun z=>hacc (by rw [<- z]; exact hb))).trans (fp8 b hb o e).1
   ·obtain ⟨o,e,_⟩:=T.obj _ _ st6 b hb;exact (fp8 b hb o e).2
   ·rw [Array.toList_push]; exact v1.append (.cons r8 .nil)
   ·rw [e9];exact (r1.mono (e6.trans (ek.trans e8))).append (Reps.cons p8 Reps.nil)
 ·have e:i=ds.length:=by omega
  subst e;obtain ⟨na,oa⟩:=p1;have pin1:Inv X' [(acc,({ cls:=.type "list",data:=.seq its na }:Obj))] σ1 H1 s:=I1.pins_of fun p hp=>by
   have:p=(acc,({ cls:=.type "list",data:=.seq its na }:Obj)):=by simpa using hp
   subst this;exact ⟨oa,ha1,(hfp acc (by simp)).1,(hfp acc (by simp)).2.1,fun v z=>(by cases z)⟩
  refine wpAny_mono (T.done X' rfl rfl rfl hcalm ds.length _ s σ1 H1 _ pin1 (fpok fr1 fun b hb p hp z=>by
   have:p=(acc,({ cls:=.type "list",data:=.seq its na }:Obj)):=by simpa using hp
   subst this; exact hacc (by rw [show acc=b from z]; exact hb)) st1 (Y H1 e1).2) (fun rv s5 ⟨hrv,I5⟩=>?_) fun _ _ z=>z
  subst hrv;refine wpAny_pure ?_;have h:=dC' hR;rw [<- h,List.take_length] at r1;have oa5:=(I5.pin (acc,({ cls:=.type "list",data:=.seq its na }:Obj)) (by simp)).1;exact fin s5 σ1 H1 ys its (I5.pins_of fun p hp=>absurd hp (by simp)) e1 ha1 fr1 ⟨na,oa5⟩ v1 r1
end
theorem _root_.L2.Inv.but {X:Cx} {pins:List (Addr×Obj)} {σ:St} {H:Hp} {s:Shared} {C:Addr} {h':Heap} {t':Nat} (J:Inv X pins σ H s) (hC:H C=none) (hC0:X.s₀.heap.objs.size<=C) (hCl:C≠X.env.locals) (hCc:∀x c,X.env.cells.lookup x=some c->c≠C)
  (hCp:∀p∈X.pn ++ pins,p.1≠C) (hs:Heap.SameBut C s.heap h'):Inv X pins σ H { s with heap:=h',toks:=t' }:=by
 have nC:∀b,H b≠none->b≠C:=fun b hb z=>hb (by rw [z]; exact hC);refine J.call' (ch:=[C]) (s':={ s with heap:=h',toks:=t' }) rfl
   ⟨fun b o e n hb hx=>(hs.2 b (by simpa using hx)).trans e,fun b o e n hb hx=>⟨o.slots,(hs.2 b (by simpa using hx)).trans e⟩,fun b o e n _=>n,fun b o e hx=>⟨o,(hs.2 b (by simpa using hx)).trans e⟩,fun b xs e=>e,fun b o u e=>e,fun b ps e=>⟨#[],by simpa using e⟩⟩
   (fun b u q=>(J.hok b u q).stay (fun c v hc e=>(hs.2 c (by
    rcases hc with rfl | hc
    ·exact nC c (by rw [q]; intro z; cases z)
    ·exact nC c (by rw [hc]; intro z; cases z))).trans e) (fun _ z=>z) fun _ _ z=>z) J.bare
   fun b hb=>by
    have e:b=C:=by simpa using hb
    subst e;exact ⟨.inr hC0,hCl,hCc,hCp⟩
section
variable {X:Cx} {m:Nat} {fr:List Nat} {N':List Str} {scope:Scope} {cl:List (Str×Addr)} {tg iter elt:Expr} {cs:List Expr} {fc:DS->Res Bool} {pos:Pos} {t:TGD} {fe:DS->Res D} {fi:DS->Res (List D)}
structure Around' (X:Cx) (m:Nat) (fr:List Nat) (N':List Str) (scope:Scope) (cl:List (Str×Addr)):Prop where
 clos:closureFor scope X.env=pure cl
 nocell:∀y∈scope.names,y.2≠.cell
 kind:scope.kind=.function
 names:∀x∈scope.names,x.2=.local->scope.names.lookup x.1=some .local
 sub:∀x c,cl.lookup x=some c->X.env.cells.lookup x=some c
 has:∀x,((relabel scope X.env).names.lookup x=some .cell\/(relabel scope X.env).names.lookup x=some .free)->∃c,cl.lookup x=some c
 len:N'.length=m + fr.length
 free:∀j i,fr[j]? = some i->∃x c,N'[m + j]? = some x/\X.N[i]? = some x/\Vis X.env.scope x/\(X.env.kindOf x=some .cell\/X.env.kindOf x=some .free)/\cl.lookup x=some c/\((compEnvC scope cl 0 X.env).kindOf x=some .cell\/(compEnvC scope cl 0 X.env).kindOf x=some .free)
theorem gS' (W:Around' X m fr N' scope cl) (hcalm:X.calm=true) (hkt:KeepsT m t) (hi:PID X tg iter fi) (ht:∀C s H fp,PGD (compX X N' scope cl C s H fp) tg t) (hcs:cs.length<=1) (hc:∀C s H fp,CTD (compX X N' scope cl C s H fp) cs fc) (he:∀C s H fp,PD (compX X N' scope cl C s H fp) elt fe)
  {pins:List (Addr×Obj)} {s:Shared} {σ:St} {G H:Hp} {δ:DS} (I:Inv X pins σ H s) (R:RepSt X.K G H σ δ) (hs:compI m fr t fc fe fi δ≠.stuck) {E:Value->Shared->Prop} (hE:∀e s1,XPost X pins σ H s.heap (compI m fr t fc fe fi δ) e s1->E e s1)
  {RR:Value->Addr->Result->Shared->Prop}
  (fin:∀a C s' H' ds xs mC,compI m fr t fc fe fi δ=.ok (.lst ds)->Inv X pins σ H' s'->Same H H'->H a=none->H' a=some (.lst xs)->Reps X.K H' ds xs->s'.heap.Ns C mC->H' C=none->C≠a->X.s₀.heap.objs.size<=C->C∉X.fs->C≠X.env.locals->(∀x c,X.env.cells.lookup x=some c->c≠C)->(∀p∈X.pn ++ pins,p.1≠C)->RR (.ref a) C (.ok .next) s') :
  wpAny (model X.prog X.w) X.A (eval iter X.env) (fun x s₁=>wpAny (model X.prog X.w) X.A (pyIter x) (fun itv s₂=>wpAny (model X.prog X.w) X.A (newList []) (fun acc s₃ =>
   wpAny (model X.prog X.w) X.A (newFunctionEnv scope X.env.globals cl [] X.env.qual none .none (some X.env)) (fun cenv s₄ =>
    codeAny (model X.prog X.w) X.A (.compStart (.ListComp elt [⟨tg,iter,cs,0⟩] scope pos) 0 itv acc { cenv with scope:=relabel scope X.env }) (RR acc cenv.locals) s₄) E s₃) E s₂) E s₁) E s:=by
 have hs':(fi δ).bind (compK t fc fe (compS m fr δ))≠.stuck:=hs;refine wpAny_mono (hi pins s σ G H δ I R (az' hs')) (fun v s1 h1=>wpAny_mono h1 (fun itv s2 h2=>?_) fun e s2 q=>hE e s2 (q.same fun x z=>aB' z)) fun e s2 q=>hE e s2 (q.same fun x z=>aB' z);obtain ⟨ds,it,fp,tn,J,H2,q,rfl,I2,T,st2,f2,e2,Y⟩:=h2;have h3:compK t fc fe (compS m fr δ) ds≠.stuck:=aD' hs' q;have hz':ds.length<=sizeLine:=by
  by_cases z:ds.length<=sizeLine
  ·exact z
  ·exact (h3 (by unfold compK; rw [if_neg z])).elim
 have h4:(mapR (eltI t fc fe (compS m fr δ)) ds).bind (fun rs=>Res.ok (D.lst (rs.flatMap unI)))≠.stuck:=by unfold compK at h3; rw [if_pos hz'] at h3; exact h3
 have hm:mapR (eltI t fc fe (compS m fr δ)) ds≠.stuck:=az' h4
 cases hR:mapR (eltI t fc fe (compS m fr δ)) ds with
 | stuck=>exact (hm hR).elim
 | err x=>exact (eU' (fun d=>kf' d) ds x hR).elim
 | ok rs =>
 have hz:(rs.flatMap unI).length<=sizeLine:=Nat.le_trans (gR' hR) hz';have ev:compI m fr t fc fe fi δ=.ok (.lst (rs.flatMap unI)):=by unfold compI; rw [q,Res.bind_ok]; unfold compK; rw [if_pos hz',hR]; rfl
 have R2:=R.mono e2;refine wpAny_newObj_type (wpAny_newFunctionEnv W.nocell (by intro y hy; simp at hy) (fun h₁ hns₁ hsb₁=>?_) W.kind);dsimp only at hns₁ hsb₁ ⊢;generalize hA:s2.heap.objs.size=acc at *;generalize hH3:s2.heap.push { cls:=.type "list",dict:=none,data:=.seq ([]:List Value).toArray }=h3' at hns₁ hsb₁ ⊢;have hC:h3'.objs.size=acc + 1:=by rw [<- hH3,Heap.size_push,hA]
 generalize hCC:h3'.objs.size=C at *;have k3:∀b o,s2.heap.get? b=some o->h3'.get? b=some o:=fun b o e=>by rw [<- hH3]; exact Heap.get?_push_of_some _ e
 have a3:h3'.get? acc=some { cls:=.type "list",dict:=none,data:=.seq ([]:List Value).toArray }:=by rw [<- hH3,<- hA]; exact Heap.get?_push_size _ rfl
 have k4:∀b o,h3'.get? b=some o->h₁.get? b=some o:=fun b o e=>hsb₁.extBut b o (fun z=>by have:=Heap.lt_size e; rw [hCC,z] at this; exact Nat.lt_irrefl _ this) (Heap.get?_push_of_some _ e);have hacc2:H2 acc=none:=I2.hok.fresh (by rw [hA]; exact Nat.le_refl _);have I3:Inv X pins σ H2 { s2 with heap:=h3',toks:=s2.toks }:=I2.kept k3
 have fp2:∀b∈fp,b < acc:=fun b hb=>by
  obtain ⟨o,e,_⟩:=T.obj _ _ st2 b hb;have:=Heap.lt_size e;rw [hA] at this; exact this
 have f3:∀b∈acc :: fp,FpOk X pins H2 b/\b < ({ s2 with heap:=h3',toks:=s2.toks }:Shared).heap.objs.size:=fun b hb=>by
  rcases List.mem_cons.mp hb with z | z
  ·subst z;exact ⟨I2.fpOk (by rw [hA]; exact Nat.le_refl _) hacc2,by show _ < h3'.objs.size; rw [hCC,hC]; exact Nat.lt_succ_self _⟩
  ·exact ⟨f2 b z,by show _ < h3'.objs.size; rw [hCC,hC]; exact Nat.lt_succ_of_lt (fp2 b z)⟩
 have hacc:acc∉fp:=fun z=>Nat.lt_irrefl _ (fp2 acc z);have okX:(compX X N' scope cl C { s2 with heap:=h3',toks:=s2.toks } H2 (acc :: fp)).Ok:=iu' I3 W.kind (by show h3'.objs.size<=C; rw [hCC]; exact Nat.le_refl _) W.sub W.has f3
 have hC2:H2 C=none:=I2.hok.fresh (by rw [hA,hC]; exact Nat.le_succ _);have hcells:∀x c,cl.lookup x=some c->∃v,h₁.IsCell c v:=fun x c e=>by
  obtain ⟨v,o,g,d⟩:=I2.cell x c (W.sub x c e);exact ⟨v,o,k4 _ _ (k3 _ _ g),d⟩
 have hos:s2.os=({ s2 with heap:=h3',toks:=s2.toks }:Shared).os:=rfl
 have I4:∀tk,Inv (compX X N' scope cl C { s2 with heap:=h3',toks:=s2.toks } H2 (acc :: fp)) [] (compV m fr σ) H2 { s2 with heap:=h₁,toks:=tk }:=fun tk=>by
  refine ⟨okX,rfl,I2.bare,Un.kept k4,⟨_,hns₁,fun i x v e1 e2 e3=>?_⟩,hcells,hC2,fun x c e=>I2.freeC x c (W.sub x c e),fun p hp=>absurd hp (by show p∉([]:List (Addr×Obj)) ++ []; simp),I3.hok.kept k4,by show _=N'.length; rw [W.len]; simp [compV]⟩;unfold compV at e2
  by_cases hm':i < m
  ·rw [List.getElem?_append_left (by simpa using hm'),List.getElem?_replicate,if_pos hm'] at e2
   cases e2
  ·rw [List.getElem?_append_right (by simpa using hm'),List.getElem?_map] at e2;simp only [List.length_replicate] at e2
   cases qf:fr[i - m]? with
   | none=>rw [qf] at e2; cases e2
   | some k =>
    rw [qf] at e2;simp only [Option.map_some,Option.some.injEq] at e2;have e2':σ[k]? = some (some v):=by
     cases qk:σ[k]? with
     | none=>rw [qk] at e2; cases e2
     | some w=>rw [qk] at e2; simp only [Option.elim_some,id] at e2; rw [e2]
    obtain ⟨x',c,w1,w2,w3,w4,w5,w6⟩:=W.free (i - m) k qf;have hx:x'=x:=by
     have:m + (i - m)=i:=by omega
     rw [this] at w1;have e1':N'[i]? = some x:=e1;rw [e1'] at w1; cases w1; rfl
    subst hx;obtain ⟨m0,hn0,hl0⟩:=I2.loc;obtain ⟨u,r,l⟩:=hl0 k x' v w2 e2' w3;refine ⟨u,r,?_⟩;rcases l with ⟨l1,_⟩ | ⟨l1,c',l2,o,g,d⟩
    ·rcases w4 with z | z <;> (rw [z] at l1; cases l1)
    ·have hcc:c'=c:=by
      have:=W.sub x' c w5;rw [l2] at this; cases this; rfl
     subst hcc;exact .inr ⟨w6,c',w5,o,k4 _ _ (k3 _ _ g),d⟩
 have R4:=iv' m fr R2;have st4:tn 0 h₁:=T.keep 0 _ _ st2 fun b hb o e=>k4 _ _ (k3 _ _ e);have hfp:∀b∈acc :: fp,b≠C/\b∉frs X.stack/\∀x c,cl.lookup x=some c->c≠b:=fun b hb=>by
  obtain ⟨⟨g1,g2,g3,g4,g5,g6⟩,g7⟩:=f3 b hb;refine ⟨Nat.ne_of_lt (by rw [<- hCC]; exact g7),fun z=>?_,fun x c e=>g5 x c (W.sub x c e)⟩;rcases List.mem_cons.mp (I2.stkSub b z) with w | w
  ·exact g2 w
  ·exact g3 w
 have hCs:s2.heap.objs.size<=C:=by rw [hA,hC]; exact Nat.le_succ _
 have loop:∀tk,codeAny (model X.prog X.w) X.A (.compLoop (.ListComp elt [⟨tg,iter,cs,0⟩] scope pos) 0 (.ref it) (.ref acc) (compEnvC scope cl C X.env)) (RR (.ref acc) C) { s2 with heap:=h₁,toks:=tk }:=fun tk=>by
  refine fV' (m:=m) (its0:=#[]) hcalm T Y hR hz' hkt (fun i h sv=>cM' i h sv) (ht C _ H2 (acc :: fp)) hcs (hc C _ H2 (acc :: fp)) (he C _ H2 (acc :: fp)) hacc hfp ?_ (I4 tk) R4 st4 (fun b hb=>(f3 b hb).1.1) ⟨0,k4 _ _ a3⟩;intro s' σ' H' ys its J e' ha' hf' p' v' r';have K1:Inv X pins σ H' s':=I3.call' (ch:=acc :: fp) J.os J.base J.hok J.bare fun b hb=>by
   obtain ⟨⟨g1,g2,g3,g4,g5,g6⟩,g7⟩:=f3 b hb;exact ⟨g4,g2,g5,g6⟩
  obtain ⟨⟨g1,g2,g3,g4,g5,g6⟩,g7⟩:=f3 acc (by simp);obtain ⟨n',o'⟩:=p';have K2:=K1.track (o:=.lst ys) ha' (fun ob e _=>absurd (Nat.lt_of_lt_of_le (Heap.lt_size e) (by rw [<- hA]; exact I2.sz)) (Nat.lt_irrefl _)) g2 g5 g6
   ⟨by rw [r'.length]; exact hz,its.toList,n',v',by simpa using o'⟩
  obtain ⟨mC,hmC,_⟩:=J.loc;have sm:=ap' ha' (.lst ys);have hCa:C≠acc:=by omega
  refine fin acc C s' (upd H' acc (.lst ys)) (rs.flatMap unI) ys mC ev K2 (e2.trans (e'.trans sm)) (e2.free hacc2) aj' (r'.mono sm) hmC (by rw [ai' hCa]; exact J.free) hCa (Nat.le_trans I2.sz hCs) (I2.nofs hCs) (Nat.ne_of_gt (Nat.lt_of_lt_of_le I2.lt hCs)) (fun x c e z=>?_) fun p hp z=>?_
  ·obtain ⟨v,q⟩:=I2.cell x c e;exact absurd (Nat.lt_of_lt_of_le q.lt (by rw [z]; exact hCs)) (Nat.lt_irrefl _)
  ·exact absurd (Nat.lt_of_lt_of_le (Heap.lt_size (I2.pin p hp).1) (by rw [z]; exact hCs)) (Nat.lt_irrefl _)
 exact codeAny_compStart_list (loop _) (T.self X.A 0 _ _ _ st4 (loop _))
theorem compI_true {δ:DS}:compI m fr t (fun _=>.ok true) fe fi δ=compD m fr t fe fi δ:=by
 have el:∀(δ':DS) (d:D),eltI t (fun _=>.ok true) fe δ' d=(eltD t fe δ' d).bind fun x=>.ok (.tup [x]):=fun δ' d=>by
  unfold eltI eltD
  cases t d δ' with
  | none=>rfl
  | some δ1=>cases h:fe δ1 <;> simp only [h] <;> rfl
 have mr:∀(δ':DS) (ds:List D),mapR (eltI t (fun _=>.ok true) fe δ') ds=(mapR (eltD t fe δ') ds).bind fun rs=>.ok (rs.map fun x=>.tup [x]):=fun δ' ds=>by
  induction ds with
  | nil=>rfl
  | cons d ds ih =>
   simp only [mapR,el,ih]
   cases eltD t fe δ' d with
   | stuck=>rfl
   | err x=>rfl
   | ok x=>cases mapR (eltD t fe δ') ds <;> rfl
 have un:∀rs:List D,(rs.map fun x=>D.tup [x]).flatMap unI=rs:=fun rs=>by
  induction rs with
  | nil=>rfl
  | cons r rs ih=>rw [List.map_cons,List.flatMap_cons,ih]; rfl
 unfold compI compD
 cases fi δ with
 | stuck=>rfl
 | err x=>rfl
 | ok ds =>
  show compK t (fun _=>.ok true) fe (compS m fr δ) ds=lstD (mapR (eltD t fe (compS m fr δ)) ds);unfold compK lstD;rw [mr]
  cases hR:mapR (eltD t fe (compS m fr δ)) ds with
  | stuck=>split <;> rfl
  | err x=>exact (eU' (fun d=>ke' d) ds x hR).elim
  | ok rs =>
   have h:=dC' hR;show (if ds.length<=sizeLine then Res.ok (D.lst ((rs.map fun x=>D.tup [x]).flatMap unI)) else .stuck)=if rs.length<=sizeLine then Res.ok (D.lst rs) else .stuck
   rw [un,h]
theorem dD' (W:Around' X m fr N' scope cl) (hcalm:X.calm=true) (hkt:KeepsT m t) (hi:PID X tg iter fi) (ht:∀C s H fp,PGD (compX X N' scope cl C s H fp) tg t) (he:∀C s H fp,PD (compX X N' scope cl C s H fp) elt fe)
  {pins:List (Addr×Obj)} {s:Shared} {σ:St} {G H:Hp} {δ:DS} (I:Inv X pins σ H s) (R:RepSt X.K G H σ δ) (hs:compD m fr t fe fi δ≠.stuck) {E:Value->Shared->Prop} (hE:∀e s1,XPost X pins σ H s.heap (compD m fr t fe fi δ) e s1->E e s1)
  {RR:Value->Addr->Result->Shared->Prop}
  (fin:∀a C s' H' ds xs mC,compD m fr t fe fi δ=.ok (.lst ds)->Inv X pins σ H' s'->Same H H'->H a=none->H' a=some (.lst xs)->Reps X.K H' ds xs->s'.heap.Ns C mC->H' C=none->C≠a->X.s₀.heap.objs.size<=C->C∉X.fs->C≠X.env.locals->(∀x c,X.env.cells.lookup x=some c->c≠C)->(∀p∈X.pn ++ pins,p.1≠C)->RR (.ref a) C (.ok .next) s') :
  wpAny (model X.prog X.w) X.A (eval iter X.env) (fun x s₁=>wpAny (model X.prog X.w) X.A (pyIter x) (fun itv s₂=>wpAny (model X.prog X.w) X.A (newList []) (fun acc s₃ =>
   wpAny (model X.prog X.w) X.A (newFunctionEnv scope X.env.globals cl [] X.env.qual none .none (some X.env)) (fun cenv s₄ =>
    codeAny (model X.prog X.w) X.A (.compStart (.ListComp elt [⟨tg,iter,[],0⟩] scope pos) 0 itv acc { cenv with scope:=relabel scope X.env }) (RR acc cenv.locals) s₄) E s₃) E s₂) E s₁) E s:=by
 have e:compD m fr t fe fi δ=compI m fr t (fun _=>.ok true) fe fi δ:=compI_true.symm;rw [e] at hs hE;exact gS' (cs:=[]) W hcalm hkt hi ht (Nat.zero_le 1) (fun C s H fp pins s' σ G H' δ I R _=>wpAny_pure ⟨H',rfl,I,Same.refl _⟩) he I R hs hE fun a C s' H' ds xs mC ev=>fin a C s' H' ds xs mC (e.trans ev)
theorem dE' (W:Around' X m fr N' scope cl) (hcalm:X.calm=true) (hkt:KeepsT m t) (hi:PID X tg iter fi) (ht:∀C s H fp,PGD (compX X N' scope cl C s H fp) tg t) (he:∀C s H fp,PD (compX X N' scope cl C s H fp) elt fe)
  (hf:∀x,foldedSetIterable iter X.env x=pure x:=by intro _; rfl):PD X (.ListComp elt [⟨tg,iter,[],0⟩] scope pos) (compD m fr t fe fi):=by
 intro pins s σ G H δ I R hs;rw [eval_ListComp];refine wpAny_comprehension_free (use:=none) rfl hf W.clos W.kind W.names (dD' W hcalm hkt hi ht he I R hs (fun _ _ q=>q) (RR:=fun acc C=>compPost _ _ _ none _ acc C) ?_);intro a C s' H' ds xs mC ev J e' ha hx hr hns hC hCa hC0 hCf hCl hCc hCp;refine ⟨mC,hns,fun h' hs'=>?_⟩;exact ⟨.lst ds,.ref a,H',ev,J.but (t':=s'.toks) hC hC0 hCl hCc hCp hs',rfl,e',mkL (SqL.of hx) hr⟩
theorem bJ' (i:Nat) {y:Str} {py spos:Pos} (W:Around' X m fr N' scope cl) (hcalm:X.calm=true) (hkt:KeepsT m t) (hi:PID X tg iter fi) (ht:∀C s H fp,PGD (compX X N' scope cl C s H fp) tg t) (he:∀C s H fp,PD (compX X N' scope cl C s H fp) elt fe)
  (hN:X.N.Nodup) (hsw:swapsWith (.ListComp elt [⟨tg,iter,[],0⟩] scope pos) (some (.Name y py)) spos.line X.env=pure true:=by rfl) (hy:X.N[i]? = some y:=by rfl) (hx:Loc X.env.scope y:=by first | exact Or.inl rfl | exact Or.inr rfl)
  (hfn:X.fn y=true\/X.env.scope.names.lookup y=some .local:=by first | exact .inl rfl | exact .inr rfl | assumption) (hf:∀x,foldedSetIterable iter X.env x=pure x:=by intro _; rfl) :
  PSD X (.Assign [.Name y py] (.ListComp elt [⟨tg,iter,[],0⟩] scope pos) spos) (setD i (compD m fr t fe fi)):=by
 intro pins s σ G H δ I R hs;have hs':compD m fr t fe fi δ≠.stuck:=is' hs;rw [exec_Assign_Name_used _ _ _ _ hsw];refine wpAny_bind (wpAny_standAt (wpAny_bind ?_));show wpAny _ X.A (do let _ <- comprehension (.ListComp elt [⟨tg,iter,[],0⟩] scope pos) scope X.env _ (newList []) false (eval iter X.env) (some (assign (.Name y py) X.env))) _ _ s
 refine wpAny_bind (wpAny_mono (wpAny_comprehension_free (use:=some (assign (.Name y py) X.env)) (Q:=fun _ s'=>SPost X pins G H (setD i (compD m fr t fe fi) δ) .next s') rfl hf W.clos W.kind W.names
  (dD' W hcalm hkt hi ht he I R hs' (fun e s1 q=>q.sx R fun x z=>by unfold setD; rw [z]; rfl) (RR:=fun acc C=>compPost _ _ _ (some (assign (.Name y py) X.env)) _ acc C) ?_)) (fun _ s' hq=>wpAny_pure (wpAny_pure hq)) fun _ _ e=>e)
 intro a C s' H' ds xs mC ev J e' ha hx' hr hns hC hCa hC0 hCf hCl hCc hCp;show wpAny _ X.A (assign (.Name y py) X.env (.ref a)) _ _ _;refine wpAny_assign_Name (cC' J hN hy hx (v:=.ref a) (u:=.ref a) rfl (fun s2 I2 ⟨b,sb,hb⟩=>?_) hfn);have hbC:C≠b:=by
  rcases hb with z | z
  ·rw [z]; exact hCl
  ·exact fun w=>hCc _ _ z w.symm
 refine ⟨mC,hns.sameBut sb hbC,fun h' hs'=>?_⟩;refine ⟨_,_,H',by unfold setD; rw [ev]; rfl,I2.but (t':=s2.toks) hC hC0 hCl hCc hCp hs',e'.tk,(R.mono e').set i (mkL (SqL.of hx') hr)⟩
end
mutual
noncomputable def toP:D->PyData
 | .non=>.none
 | .bl b=>.bool b
 | .int i=>.int i
 | .str x=>.str x
 | .tup ds=>.tuple (toPs ds)
 | .lst ds=>.list (toPs ds)
 | _=>.none
noncomputable def toPs:List D->List PyData
 | []=>[]
 | d :: ds=>toP d :: toPs ds
end
noncomputable def okD:Nat->D->Bool
 | _,.non=>true
 | _,.bl _=>true
 | _,.int _=>true
 | _,.str x=>PyData.strOk x
 | n + 1,.tup ds=>ds.all (okD n)
 | n + 1,.lst ds=>ds.all (okD n)
 | _,_=>false
theorem ch':∀(n:Nat) (d:D),okD n d=true->(toP d).canLay0=true/\(toP d).depth<=n:=by
 intro n;have all:∀n,(∀d,okD n d=true->(toP d).canLay0=true/\(toP d).depth<=n)->∀ds:List D,(∀d∈ds,okD n d=true)->PyData.canLayAll0 (toPs ds)=true/\PyData.depthAll (toPs ds)<=n:=by
  intro n ih ds
  induction ds with
  | nil=>intro _; simp [toPs,PyData.canLayAll0,PyData.depthAll]
  | cons d ds hi =>
   intro h;have q1:=ih d (h d (.head _));have q2:=hi fun x hx=>h x (.tail _ hx);simp only [toPs,PyData.canLayAll0,PyData.depthAll,Bool.and_eq_true];exact ⟨⟨q1.1,q2.1⟩,by omega⟩
 induction n with
 | zero =>
  intro d h
  cases d <;> simp_all [okD,toP,PyData.canLay0,PyData.depth]
 | succ n ih =>
  intro d h
  cases d with
  | tup ds =>
   have:=all n ih ds (by simpa [okD] using h);simp only [toP,PyData.canLay0,PyData.depth];exact ⟨this.1,by omega⟩
  | lst ds =>
   have:=all n ih ds (by simpa [okD] using h);simp only [toP,PyData.canLay0,PyData.depth];exact ⟨this.1,by omega⟩
  | _=>simp_all [okD,toP,PyData.canLay0,PyData.depth]
section
variable {X:Cx} {pins:List (Addr×Obj)} {σ:St} {H:Hp} {s:Shared}
mutual
theorem aW' (I:Inv X pins σ H s):∀(n:Nat) {d:D} {v:V} {u:Value},okD n d=true->Rep X.K H d v->RelV v u->∃as,Reads s.heap u (toP d) as
 | n,.non,v,u,_,p,r=>by rw [Rep] at p; subst p; cases r; rw [toP]; exact ⟨_,Reads.none⟩
 | n,.bl b,v,u,_,p,r=>by rw [Rep] at p; subst p; cases r; rw [toP]; exact ⟨_,Reads.bool b⟩
 | n,.int i,v,u,_,p,r=>by rw [Rep] at p; subst p; obtain ⟨t,rfl⟩:=r; rw [toP]; exact ⟨_,Reads.int i t⟩
 | n,.str x,v,u,_,p,r=>by rw [Rep] at p; subst p; obtain ⟨t,rfl⟩:=r; rw [toP]; exact ⟨_,Reads.str x t⟩
 | n + 1,.tup ds,v,u,h,p,r=>by
  obtain ⟨a,xs,rfl,hq,rs⟩:=repT p
  cases r
  obtain ⟨its,rv,⟨o,g,c,k,d⟩,hz⟩:=I.tuple hq;obtain ⟨as,q⟩:=cN' I n (by simpa [okD] using h) rs rv;rw [toP];exact ⟨as,reads_tuple_at g c d (by simpa using q)⟩
 | n + 1,.lst ds,v,u,h,p,r=>by
  obtain ⟨a,xs,rfl,hq,rs⟩:=repL p
  cases r
  obtain ⟨its,rv,⟨o,k,g,c,_,d⟩,hz⟩:=I.list hq;obtain ⟨as,q⟩:=cN' I n (by simpa [okD] using h) rs rv;rw [toP];exact ⟨_,reads_list_at g c d (by simpa using q)⟩
 | 0,.tup ds,v,u,h,p,r=>by simp [okD] at h
 | 0,.lst ds,v,u,h,p,r=>by simp [okD] at h
 | n,.exc c,v,u,h,p,r=>by cases n <;> simp [okD] at h
 | n,.excf c f d,v,u,h,p,r=>by cases n <;> simp [okD] at h
 | n,.dct,v,u,h,p,r=>by cases n <;> simp [okD] at h
 | n,.obj c fs ds,v,u,h,p,r=>by cases n <;> simp [okD] at h
theorem cN' (I:Inv X pins σ H s):∀(n:Nat) {ds:List D} {vs:List V} {us:List Value},(∀d∈ds,okD n d=true)->Reps X.K H ds vs->Vals vs us->∃as,ReadsAll s.heap us (toPs ds) as
 | n,[],vs,us,_,p,r=>by
  cases p.nil_of
  cases r
  rw [toPs];exact ⟨_,ReadsAll.nil⟩
 | n,d :: ds,vs,us,h,p,r=>by
  obtain ⟨v,ws,rfl,p1,p2⟩:=p.cons_of
  cases r with
  | cons r1 r2 =>
   obtain ⟨as,q⟩:=aW' I n (h d (.head _)) p1 r1;obtain ⟨bs,q2⟩:=cN' I n (fun x hx=>h x (.tail _ hx)) p2 r2;rw [toPs];exact ⟨_,ReadsAll.cons q q2⟩
end
end
noncomputable def eqD (a b:D):Res D:=if okD 8 a=true/\okD 8 b=true then .ok (.bl (PyData.eqv (toP a) (toP b))) else .stuck
noncomputable def neD (a b:D):Res D:=if okD 8 a=true/\okD 8 b=true then .ok (.bl (!PyData.eqv (toP a) (toP b))) else .stuck
theorem aY' (x y:D):NoErr (eqD x y):=au' ah' ad'
theorem bC' (x y:D):NoErr (neD x y):=au' ah' ad'
theorem bW' {d:D} (h:okD 8 d=true):SeqAt.shaped (toP d)=true:=by
 have:=ch' 8 d h;unfold SeqAt.shaped;rw [this.1,Bool.true_and];exact decide_eq_true (Nat.le_trans this.2 (by decide))
theorem bK' {X:Cx} (hu:X.A.units + 64 < cLine):OpD X (compareOp .Eq) eqD:=by
 intro E pins s σ H x y v u a b d I r1 r2 p1 p2 e;unfold eqD at e
 split at e
 ·rename_i c
  cases e
  obtain ⟨as,ra⟩:=aW' I 8 c.1 p1 r1;obtain ⟨bs,rb⟩:=aW' I 8 c.2 p2 r2;exact SeqAt.compareEq_shaped ra rb (bW' c.1) (bW' c.2) hu ⟨_,.bl _,H,rfl,I,rfl,Same.refl H,mkB⟩
 ·cases e
theorem de' {X:Cx} (hu:X.A.units + 64 < cLine):OpD X (compareOp .NotEq) neD:=by
 intro E pins s σ H x y v u a b d I r1 r2 p1 p2 e;unfold neD at e
 split at e
 ·rename_i c
  cases e
  obtain ⟨as,ra⟩:=aW' I 8 c.1 p1 r1;obtain ⟨bs,rb⟩:=aW' I 8 c.2 p2 r2;exact SeqAt.compareNe_shaped ra rb (bW' c.1) (bW' c.2) hu ⟨_,.bl _,H,rfl,I,rfl,Same.refl H,mkB⟩
 ·cases e
noncomputable def tyName:D->String
 | .non=>"NoneType"
 | .bl _=>"bool"
 | .int _=>"int"
 | .str _=>"str"
 | .tup _=>"tuple"
 | .lst _=>"list"
 | .dct=>"dict"
 | _=>""
theorem ly' {K:PySem.W.Frag} {prog:Program} {w:World} {A:Around} {s:Shared} {x D:Addr} {ox:Obj} {tk:Tok} {R:Result->Shared->Prop}
  (hdct:PySem.W.hasDictIn K D=true) (ha:PySem.W.findIn K (.ref D) "__class__" = some (some (.builtin "object.__class__")))
  (hn:PySem.W.specialIn K (.builtin "object.__class__") "__get__" = some (some (.builtin "getset_descriptor.__get__"))) (htk:PySem.W.takesIn K (.builtin "object.__class__")=some true) (hm:PySem.W.mroIn K D (.type "object")=some true) (hB:PySem.W.mroIn K D (.type "BaseException")=some true)
  {od:Option Obj} (X:K.In s.heap) (I:PySem.W.InstAt s.heap x ox D od) (h:R (.ok (.ret (.ref D))) s) :
  codeAny (model prog w) A (.call (.builtin "BaseException.__getattribute__") ⟨[.ref x,.str "__class__" tk],[]⟩) R s:=by
 have hf:PySem.W.findObj K D od "__class__" = some (.bind (.builtin "getset_descriptor.__get__") (.builtin "object.__class__")):=by
  obtain ⟨cd,hc,_⟩:=PySem.W.any_some hdct;unfold PySem.W.findObj;rw [hc,Option.bind_some,ha,Option.bind_some];simp [hn,htk]
 have hk:builtinKind "BaseException.__getattribute__" = some .slot:=by decide +kernel
 have hsplit:splitId "BaseException.__getattribute__" = some ("BaseException", "__getattribute__"):=by decide +kernel
 have L0:=I.type (M:=model prog w);have L1:=PySem.W.looks_find (M:=model prog w) X I hf;have L2:=PySem.W.looks_mroIn (M:=model prog w) X hB;have har:=F.args_bexc_ga (.ref x) (.str "__class__" tk);refine codeAny_call_builtin (by decide +kernel) F.entry_bexc_ga ?_;simp only [checkBuiltinCall,hk,hsplit];refine wpAny_bind ?_;unfold isInstance;refine wpAny_bind (L0.at (L2.at ?_));simp only [Bool.not_true,Bool.false_eq_true,if_false]
 repeat (first | with_reducible refine wpAny_pure ?_ | with_reducible refine wpAny_bind ?_ | wp_step)
 obtain ⟨hh,g,dr,t,os⟩:=s;refine wpAny_loadPart I.at_ (wpAny_pure ?_);rw [I.cls];refine wpAny_bind (L1.at ?_);show wpAny _ _ (Builtin.ObjectAttr.bindTo _ _ _ _) _ _ _;unfold Builtin.ObjectAttr.bindTo;refine wpAny_bind (wpAny_holding (wpAny_call (PySem.W.class_get (s:=⟨hh,g,dr,t,os⟩) (ox:=ox) (od:=od) X I hm ?_)));exact wpAny_pure h
theorem eo' {K:PySem.W.Frag} {prog:Program} {w:World} {A:Around} {E:Value->Shared->Prop} {s:Shared} {x D:Addr} {ox:Obj} {Q:Option Value->Shared->Prop}
  (hga:PySem.W.findIn K (.ref D) "__getattribute__" = some (some (.builtin "BaseException.__getattribute__"))) (hgk:PySem.W.findIn K (.ref D) "__getattr__" = some none)
  (hdct:PySem.W.hasDictIn K D=true) (ha:PySem.W.findIn K (.ref D) "__class__" = some (some (.builtin "object.__class__")))
  (hn:PySem.W.specialIn K (.builtin "object.__class__") "__get__" = some (some (.builtin "getset_descriptor.__get__"))) (htk:PySem.W.takesIn K (.builtin "object.__class__")=some true) (hm:PySem.W.mroIn K D (.type "object")=some true) (hB:PySem.W.mroIn K D (.type "BaseException")=some true)
  {od:Option Obj} (X:K.In s.heap) (I:PySem.W.InstAt s.heap x ox D od) (h:Q (some (.ref D)) { s with toks:=s.toks + 1 }):wpAny (model prog w) A (getAttr? (.ref x) "__class__") Q E s:=by
 obtain ⟨hh,g,d,t,os⟩:=s;have L0:=I.type (M:=model prog w);have L1:=PySem.W.looks_findIn (M:=model prog w) X hga;have Lk:=PySem.W.looks_findIn (M:=model prog w) X hgk;unfold getAttr? getAttrBy? getAttrBy;refine wpAny_bind (wpAny_mkText (wpAny_bind (wpAny_attempt (wpAny_holding (wpAny_bind (L0.at (wpAny_bind (L1.at ?_))))))));show wpAny _ _ (getAttrByItsOwn _ _ _ _ _ _) _ _ _;unfold getAttrByItsOwn hookBefore;refine wpAny_bind (Lk.at ?_);refine wpAny_bind (wpAny_attempt (wpAny_holding ?_));show wpAny _ _ (boundAndCalled _ _ _) _ _ _;unfold boundAndCalled;rw [PySem.F.attrBase_ValueError.ga.bind];refine wpAny_bind (wpAny_pure (wpAny_call (ly' (s:=⟨hh,g,d,t + 1,os⟩) hdct ha hn htk hm hB X I ?_)));exact PySem.W.handed_on rfl (wpAny_pure h)
structure ExcCls (K:PySem.W.Frag) (C:Addr):Prop where
 hga:PySem.W.findIn K (.ref C) "__getattribute__" = some (some (.builtin "BaseException.__getattribute__"))
 hgk:PySem.W.findIn K (.ref C) "__getattr__" = some none
 hdct:PySem.W.hasDictIn K C=true
 ha:PySem.W.findIn K (.ref C) "__class__" = some (some (.builtin "object.__class__"))
 hn:PySem.W.specialIn K (.builtin "object.__class__") "__get__" = some (some (.builtin "getset_descriptor.__get__"))
 htk:PySem.W.takesIn K (.builtin "object.__class__")=some true
 hm:PySem.W.mroIn K C (.type "object")=some true
 hB:PySem.W.mroIn K C (.type "BaseException")=some true
theorem fo' {K:PySem.W.Frag} {a C:Addr} {dd:Option Addr} (W:ExcCls K C):PySem.W.KitX K (.ref a) (.ref C) (fun h=>excAt a C dd h/\match dd with | none=>True | some dx=>∃o,h.get? dx=some o) where
 ty:=fun M h _ ⟨⟨o,vs,g,c,_⟩,_⟩=>by rw [<- c]; exact (PySem.W.Looks.ld g).andThen .now
 it:=fun _ _ X _=>by
  obtain ⟨cdD,hcD,_⟩:=PySem.W.any_some W.hdct;unfold PySem.W.clsIn at hcD
  split at hcD
  ·rename_i c' d' cd' sl' ho;intro A' Q' E' s' k q;unfold isType loadHead;exact wpAny_bind (wpAny_loadPart (k _ _ (X _ _ ho)) (wpAny_pure q))
  ·cases hcD
 ne:=fun h tp dd its n sl X htp=>by
  obtain ⟨cdD,hcD,_⟩:=PySem.W.any_some W.hdct;refine Bool.eq_false_iff.mpr fun q=>?_;have e:C=tp:=Value.ref.inj (beq_iff_eq.mp q);subst e;unfold PySem.W.clsIn at hcD
  split at hcD
  ·rename_i c' d' cd' sl' ho;have z:=(X _ _ ho).symm.trans htp
   cases z
  ·cases hcD
 ca:=fun X ⟨⟨o,vs,g,c,d,hd⟩,w⟩ k=>by
  cases dd with
  | none=>exact eo' (od:=none) W.hga W.hgk W.hdct W.ha W.hn W.htk W.hm W.hB X ⟨g,c,by unfold PySem.W.notCls; rw [hd],by rw [d]; trivial⟩ k
  | some dx =>
   obtain ⟨od,ho⟩:=w;exact eo' (od:=some od) W.hga W.hgk W.hdct W.ha W.hn W.htk W.hm W.hB X ⟨g,c,by unfold PySem.W.notCls; rw [hd],by rw [d]; exact ho⟩ k
structure ObCls (K:PySem.W.Frag) (C:Addr):Prop where
 cl:Cls K C
 ha:PySem.W.findIn K (.ref C) "__class__" = some (some (.builtin "object.__class__"))
 hn:PySem.W.specialIn K (.builtin "object.__class__") "__get__" = some (some (.builtin "getset_descriptor.__get__"))
 htk:PySem.W.takesIn K (.builtin "object.__class__")=some true
 hm:PySem.W.mroIn K C (.type "object")=some true
noncomputable def IsOk (K:PySem.W.Frag) (cv:Value) (b:Bool):D->Prop
 | .obj n _ _=>∀C,PySem.W.nsIn K mainGlobals n=some (some (.ref C))->ObCls K C/\PySem.W.kitOne K (.ref C) cv=some b
 | .exc n=>∀C,PySem.W.nsIn K mainGlobals n=some (some (.ref C))->ExcCls K C/\PySem.W.kitOne K (.ref C) cv=some b
 | .excf n _ _=>∀C,PySem.W.nsIn K mainGlobals n=some (some (.ref C))->ExcCls K C/\PySem.W.kitOne K (.ref C) cv=some b
 | d=>PySem.W.kitOne K (.type (tyName d)) cv=some b
theorem iw' {X:Cx} {pins:List (Addr×Obj)} {σ:St} {H:Hp} {s:Shared} {A:Around} {E:Value->Shared->Prop} {Q:Value->Shared->Prop} {cv u:Value} {v:V} {d:D} {b:Bool} (I:Inv X pins σ H s) (p:Rep X.K H d v) (r:RelV v u) (ok:IsOk X.K cv b d)
  (h:∀tk,Q (.bool b) { s with toks:=tk }):wpAny (model X.prog X.w) A (call (.builtin "isinstance") [u,cv]) Q E s:=by
 cases d with
 | non=>rw [Rep] at p; subst p; exact bq' I r .non ok h
 | bl k=>rw [Rep] at p; subst p; exact bq' I r (.bl k) ok h
 | int k=>rw [Rep] at p; subst p; exact bq' I r (.int k) ok h
 | str k=>rw [Rep] at p; subst p; exact bq' I r (.str k) ok h
 | tup ds =>
  obtain ⟨a,xs,rfl,hq,_⟩:=repT p
  cases r
  obtain ⟨its,_,⟨o,g,c,_⟩,_⟩:=I.tuple hq;exact PySem.W.kia_one PySem.W.kitx_tuple I.kIn ⟨o,g,c⟩ ok (fun z=>nomatch z) h
 | lst ds =>
  obtain ⟨a,xs,rfl,hq,_⟩:=repL p
  cases r
  obtain ⟨its,_,⟨o,_,g,c,_⟩,_⟩:=I.list hq;exact PySem.W.kia_one PySem.W.kitx_list I.kIn ⟨o,g,c⟩ ok (fun z=>nomatch z) h
 | exc n =>
  rw [Rep] at p;obtain ⟨a,C,rfl,hC,hH⟩:=p
  cases r
  obtain ⟨W,ok⟩:=ok C hC;exact PySem.W.kia_one (fo' (dd:=none) W) I.kIn ⟨(I.hok a _ hH).1,trivial⟩ ok (fun z=>nomatch z) h
 | excf n f d =>
  rw [Rep] at p;obtain ⟨a,C,dx,w,rfl,hC,hH,hx,_⟩:=p
  cases r
  obtain ⟨W,ok⟩:=ok C hC;obtain ⟨mA,⟨o,_,_,g,_⟩,_⟩:=I.hok dx _ hx;exact PySem.W.kia_one (fo' (dd:=some dx) W) I.kIn ⟨(I.hok a _ hH).1,o,g⟩ ok (fun z=>nomatch z) h
 | dct =>
  rw [Rep] at p;obtain ⟨a,rfl,hH⟩:=p
  cases r
  exact PySem.W.kia_one PySem.W.kitx_dict I.kIn (I.hok a _ hH).1 ok (fun z=>nomatch z) h
 | obj n fs ds =>
  rw [Rep] at p;obtain ⟨a,C,dx,us,rfl,hC,hH,_⟩:=p;obtain ⟨W,ok⟩:=ok C hC;exact bq' I r (.ins hH W.cl W.ha W.hn W.htk W.hm) ok h
theorem ix':bootBuiltins "isinstance" = some (.builtin "isinstance"):=by decide +kernel
noncomputable def isG (isF:D->Option Bool) (d:D):Res D:=match isF d with | some b=>.ok (.bl b) | none=>.stuck
section
variable {X:Cx} {e:Expr} {f:DS->Res D} {c:Str} {p cp pos:Pos} {cv:Value} {isF:D->Option Bool}
theorem at' (hI:∀d b,isF d=some b->IsOk X.K cv b d) (ha:PD X e f) (hc:∀(pins:List (Addr×Obj)) (σ:St) (H:Hp) (s:Shared) (E:Value->Shared->Prop) (Q:Value->Shared->Prop),Inv X pins σ H s->Q cv s->wpAny (model X.prog X.w) X.A (eval (.Name c cp) X.env) Q E s)
  (hg:Gl X "isinstance") (hm:X.mg "isinstance" = none) (he:starEach [e,.Name c cp] X.env=(false,eval e X.env) :: starEach [.Name c cp] X.env:=by rfl) (he2:starEach [.Name c cp] X.env=[(false,eval (.Name c cp) X.env)]:=by rfl) :
  PD X (.Call (.Name "isinstance" p) [e,.Name c cp] [] pos) (fun δ=>(f δ).bind (isG isF)):=by
 intro pins s σ G H δ I R hs
 try dsimp only at hs ⊢
 refine wpAny_Call_Name_kw (bR' I hg hm (u:=.builtin "isinstance") ix' ?_ (by decide) (by decide));refine PyProof.Rows.callWith_builtin1 ?_ he (by rw [he2]; rfl);rw [he];show wpAny _ _ (spliced ((false,eval e X.env) :: backTo pos (starEach [.Name c cp] X.env))) _ _ s;refine Calls.spliced_cons (ha.use I R (az' hs) (fun d u s1 v H1 q I1 r1 e1 b1 p1=>?_) fun e s1 q=>q.same fun x z=>aB' z);rw [he2];show wpAny _ _ (spliced ((false,eval (.Name c cp) X.env) :: backTo pos [])) _ _ s1;refine Calls.spliced_cons (hc pins σ H1 s1 _ _ I1 (Calls.spliced_nil ?_));have h2:=aD' hs q
 cases z:isF d with
 | none=>exact (h2 (by unfold isG; rw [z])).elim
 | some b=>exact iw' I1 p1 r1 (hI d b z) fun tk=>⟨.bl b,.bl b,H1,by rw [q,Res.bind_ok]; unfold isG; rw [z],I1.tok tk,rfl,e1,mkB⟩
theorem gT' {T:String} (hg:Gl X c) (hm:X.mg c=none) (hv:bootBuiltins c=some (.type T)) (hn:c≠"__name__":=by decide) (hd:(c == ("__debug__" : Str))=false:=by decide) (pins:List (Addr×Obj)) (σ:St) (H:Hp) (s:Shared) (E:Value->Shared->Prop) (Q:Value->Shared->Prop) (I:Inv X pins σ H s) (h:Q (.type T) s) :
  wpAny (model X.prog X.w) X.A (eval (.Name c cp) X.env) Q E s:=bR' I hg hm hv h hn hd
theorem aA' {C:Addr} (hg:Gl X c) (hm:X.mg c=some (.ref C)) (hd:(c == ("__debug__" : Str))=false:=by decide) (pins:List (Addr×Obj)) (σ:St) (H:Hp) (s:Shared) (E:Value->Shared->Prop) (Q:Value->Shared->Prop) (I:Inv X pins σ H s) (h:Q (.ref C) s) :
  wpAny (model X.prog X.w) X.A (eval (.Name c cp) X.env) Q E s:=bh' I hg hm h hd
end
end DL
namespace DL
open PySem PySem.Spec PyProof.Rows L2
noncomputable def bools:List D->Option (List Bool)
 | []=>some []
 | .bl b :: ds=>(bools ds).map (b :: ·)
 | _=>none
theorem eq':∀{ds:List D} {bs:List Bool} {i:Nat} {d:D},bools ds=some bs->ds[i]? = some d->∃b,d=.bl b/\bs[i]? = some b
 | [],_,_,_,_,e=>by simp at e
 | .bl b :: ds,bs,i,d,h,e=>by
  simp only [bools] at h
  cases q:bools ds with
  | none=>rw [q] at h; cases h
  | some cs =>
   rw [q] at h;simp only [Option.map_some,Option.some.injEq] at h;subst h
   cases i with
   | zero=>simp at e; subst e; exact ⟨b,rfl,by simp⟩
   | succ i =>
    simp at e;obtain ⟨b',e1,e2⟩:=eq' q e;exact ⟨b',e1,by simpa using e2⟩
 | .non :: ds,bs,i,d,h,e=>by simp [bools] at h
 | .int _ :: ds,bs,i,d,h,e=>by simp [bools] at h
 | .str _ :: ds,bs,i,d,h,e=>by simp [bools] at h
 | .tup _ :: ds,bs,i,d,h,e=>by simp [bools] at h
 | .lst _ :: ds,bs,i,d,h,e=>by simp [bools] at h
 | .exc _ :: ds,bs,i,d,h,e=>by simp [bools] at h
 | .excf _ _ _ :: ds,bs,i,d,h,e=>by simp [bools] at h
 | .dct :: ds,bs,i,d,h,e=>by simp [bools] at h
 | .obj _ _ _ :: ds,bs,i,d,h,e=>by simp [bools] at h
theorem er':∀{ds:List D} {bs:List Bool},bools ds=some bs->bs.length=ds.length
 | [],bs,h=>by simp [bools] at h; subst h; rfl
 | .bl b :: ds,bs,h=>by
  simp only [bools] at h
  cases q:bools ds with
  | none=>rw [q] at h; cases h
  | some cs =>
   rw [q] at h;simp only [Option.map_some,Option.some.injEq] at h;subst h;simp [er' q]
 | .non :: ds,bs,h=>by simp [bools] at h
 | .int _ :: ds,bs,h=>by simp [bools] at h
 | .str _ :: ds,bs,h=>by simp [bools] at h
 | .tup _ :: ds,bs,h=>by simp [bools] at h
 | .lst _ :: ds,bs,h=>by simp [bools] at h
 | .exc _ :: ds,bs,h=>by simp [bools] at h
 | .excf _ _ _ :: ds,bs,h=>by simp [bools] at h
 | .dct :: ds,bs,h=>by simp [bools] at h
 | .obj _ _ _ :: ds,bs,h=>by simp [bools] at h
theorem range_all (bs:List Bool):(List.range bs.length).all (fun i=>bs.getD i true)=bs.all id:=by
 rw [Bool.eq_iff_iff];simp only [List.all_eq_true,List.mem_range,id]
 constructor
 ·intro h b hb;obtain ⟨i,hi,rfl⟩:=List.mem_iff_getElem.mp hb;have:=h i hi;simpa [List.getD,hi] using this
 ·intro h i hi;have:=h bs[i] (List.getElem_mem hi);simpa [List.getD,hi] using this
noncomputable def allG:List D->Res D
 | [.lst ds]=>match bools ds with | some bs=>.ok (.bl (bs.all id)) | none=>.stuck
 | _=>.stuck
theorem eW' (ds:List D):NoErr (allG ds):=by
 unfold allG
 split
 ·split
  ·exact ah'
  ·exact ad'
 ·exact ad'
theorem gU' {X:Cx} {pins:List (Addr×Obj)} {s:Shared} {σ:St} {H:Hp} {a:Addr} {xs:List V} {ds:List D} {bs:List Bool} {its:List Value} (rv:Vals xs its) (r:Reps X.K H ds xs) (hb:bools ds=some bs) {A:Around} :
  TruthOf X.prog X.w A (fun i v=>its.toArray[i]? = some v) (fun i=>bs.getD i true):=by
 intro i v s Q E hP hQ;have hP':its[i]? = some v:=by simpa using hP
 have hl:i < xs.length:=by rw [rv.length]; exact (List.getElem?_eq_some_iff.mp hP').1
 obtain ⟨d,e1,e2⟩:=r.get' (i:=i) (v:=xs[i]) (by simp [hl]);obtain ⟨b,rfl,e3⟩:=eq' hb e1;obtain ⟨u,e4,e5⟩:=rv.get (i:=i) (x:=xs[i]) (by simp [hl]);rw [hP'] at e4; cases e4;rw [repB e2] at e5
 cases e5
 refine wpAny_truthy_bool ?_;simpa [List.getD,e3] using hQ
theorem gV' {X:Cx} (hcalm:X.calm=true):CallD X (.builtin "all") allG:=by
 intro E pins s σ H xs us ds d I r p e;unfold allG at e
 split at e
 ·rename_i es
  split at e
  ·rename_i bs hb
   cases e
   obtain ⟨v,vs,rfl,p1,t⟩:=p.cons_of
   cases t.nil_of
   obtain ⟨u,rfl,rx⟩:=vals1 r;obtain ⟨a,ys,rfl,hq,rs⟩:=repL p1
   cases rx
   obtain ⟨its,rv,pl,hz⟩:=I.list hq;refine call_all_walk (wpAny_pyIter_list pl.isList ?_);have hax:a≠s.heap.objs.size:=by
    obtain ⟨o,_,g,_⟩:=pl;exact Nat.ne_of_lt (Heap.lt_size g)
   have hn:its.toArray.size=bs.length:=by rw [List.size_toArray,<- rv.length,rs.length,er' hb]
   refine ⟨_,_,_,_,_,_,fun i=>bs.getD i true,rfl,Walks.list (A:=X.A.in1) (show X.A.in1.handled=none from I.ok.hd hcalm) s.heap.objs.size a hax its.toArray,⟨⟨_,Heap.get?_push_size _ rfl,rfl,rfl⟩,(let ⟨o,g,r⟩:=pl.isList; ⟨o,Heap.get?_push_of_some _ g,r⟩)⟩,gU' (X:=X) (pins:=pins) (s:=s) (σ:=σ) (H:=H) (a:=a) rv rs hb,fun h' tk hk=>?_⟩
   rw [hn,range_all];have k:∀b o,s.heap.get? b=some o->h'.get? b=some o:=fun b o e=>hk b o (by
    intro z;have:b=s.heap.objs.size:=by simpa using z
    exact absurd (Heap.lt_size e) (by rw [this]; exact Nat.lt_irrefl _)) (Heap.get?_push_of_some _ e)
   exact ⟨_,.bl _,H,rfl,I.kept (t':=tk) k,rfl,Same.refl H,mkB⟩
  ·cases e
 ·cases e
noncomputable def MtD (X:Cx) (id:String) (g:D->List D->Res D):Prop :=
 ∀(E:Value->Shared->Prop) (pins:List (Addr×Obj)) (s:Shared) (σ:St) (H:Hp) (x:V) (xs:List V) (v:Value) (us:List Value) (a:D) (ds:List D) (d:D),Inv X pins σ H s->RelV x v->Vals xs us->Rep X.K H a x->Reps X.K H ds xs->g a ds=.ok d ->
  wpAny (model X.prog X.w) X.A (call (.builtin id) (v :: us)) (EPost X pins σ H (.ok d)) E s
noncomputable def tyD (T:String):D->Prop
 | .str _=>T = "str"
 | .int _=>T = "int"
 | .lst _=>T = "list"
 | _=>False
noncomputable def tyB (T:String):D->Bool
 | .str _=>T == "str"
 | .int _=>T == "int"
 | .lst _=>T == "list"
 | _=>false
theorem lz' {T:String} {d:D} (h:tyB T d=true):tyD T d:=by
 cases d <;> first | exact beq_iff_eq.mp h | cases h
noncomputable def methD (T:String) (g:D->List D->Res D) (fo:DS->Res D) (fs:DS->Res (List D)):DS->Res D:=fun δ=>(fo δ).bind fun d=>if tyB T d=true then (fs δ).bind fun ds=>g d ds else .stuck
section
variable {X:Cx} {o e:Expr} {es:List Expr} {fo:DS->Res D} {fs:DS->Res (List D)} {name:Str} {apos cpos:Pos} {T id:String} {g:D->List D->Res D}
theorem lA' {H:Hp} {d:D} {v:V} (ty:tyD T d) (p:Rep X.K H d v):tyV X.K T v H:=by
 cases d with
 | str z=>rw [Rep] at p; subst p; exact ty
 | int z=>rw [Rep] at p; subst p; exact ty
 | lst ds=>obtain ⟨a,xs,rfl,hq,_⟩:=repL p; exact .inl ⟨ty,xs,hq⟩
 | _=>exact ty.elim
theorem ci' (pa:PlainAttrs T) (slot:Slot T name id) (hty:typeOf (.builtin id)=pure (.type "method_descriptor")) (hm:MtD X id g) (hne:∀d ds,NoErr (g d ds)) (ho:PD X o fo) (ha:PAD X (e :: es) fs)
  (hbase:attributeBase o name X.env (eval o X.env)=eval o X.env:=by rfl)
  (hfew:((backTo cpos (starEach (e :: es) X.env)).all (fun x=>!x.1) && (backToKw cpos (keywordEach [] X.env)).all (fun x=>x.1.isSome)
   && decide ((e :: es).length + ([]:List Keyword).length + (if ([]:List Keyword).isEmpty then 0 else 1) < 30))=true:=by rfl)
  (hline:(apos.endLine == cpos.line)=true:=by rfl) (hse:starEach (e :: es) X.env=(false,eval e X.env) :: starEach es X.env:=by rfl) (hplain:(backTo cpos (starEach es X.env)).any (·.1)=false:=by rfl) :
  PD X (.Call (.Attribute o name apos) (e :: es) [] cpos) (methD T g fo fs):=by
 intro pins s σ G H δ I R hs;unfold methD at hs ⊢;refine wpAny_Call_method_late hbase hfew hline rfl (ho.use I R (az' hs) (fun d u s1 v H1 q I1 r1 e1 b1 p1=>?_) fun e s1 q=>q.same fun x z=>aB' z);have h2:=aD' hs q;have hB:tyB T d=true:=by
  cases z:tyB T d with
  | true=>rfl
  | false=>rw [if_neg (by rw [z]; exact Bool.false_ne_true)] at h2; exact (h2 rfl).elim
 rw [if_pos hB] at h2;have ev:((fo δ).bind fun d=>if tyB T d=true then (fs δ).bind fun ds=>g d ds else .stuck)=(fs δ).bind fun ds=>g d ds:=by rw [q,Res.bind_ok,if_pos hB]
 rw [ev];have h3:tyD T d:=lz' hB;obtain ⟨h1,h4⟩:=gx' I1 r1 (lA' h3 p1);refine ⟨T,id,pa,slot,hty,h1,h4,?_⟩;have hA:=fun {P:List Value->Shared->Prop} {E:Value->Shared->Prop} k kx=>PAD.use (pos:=cpos) (P:=P) (E:=E) ha I1 (R.mono e1) (az' h2) k kx;rw [hse] at hA ⊢;refine Calls.callWith_builtin (by show (false || (backTo cpos (starEach es X.env)).any (·.1))=false; rw [hplain] <;> rfl) (Calls.evalArgs_plain ?_)
 refine hA (fun ds us s2 vs H2 q2 I2 r2 e2 b2 p2=>?_) fun e s2 q2=>q2.back e1 b1 fun x z=>by rw [z]; rfl
 have h5:=aD' h2 q2
 cases qg:g d ds with
 | stuck=>exact (h5 qg).elim
 | err z=>exact (hne d ds z qg).elim
 | ok r=>exact thn (hm _ pins s2 σ H2 v vs u us d ds r I2 r1 r2 (p1.mono e2) p2 qg) fun w s3 p=>p.from (e1.trans e2) (by rw [q2,Res.bind_ok,qg])
end
noncomputable def bindF {α:Type} (f:DS->Res α) (g:α->Res D):DS->Res D:=fun δ=>(f δ).bind g
noncomputable def bindL (f:DS->Res D) (g:D->Res (List D)):DS->Res (List D):=fun δ=>(f δ).bind g
noncomputable def bindT (f:DS->Res D) (g:D->Res Bool):DS->Res Bool:=fun δ=>(f δ).bind g
noncomputable def notT (t:DS->Res Bool):DS->Res Bool:=fun δ=>(t δ).bind fun c=>.ok (!c)
noncomputable def tupF (f:DS->Res (List D)):DS->Res D:=fun δ=>tupD (f δ)
noncomputable def lstF (f:DS->Res (List D)):DS->Res D:=fun δ=>lstD (f δ)
noncomputable def negG:D->Res D
 | .int i=>.ok (.int (-i))
 | _=>.stuck
noncomputable def negF (f:DS->Res D):DS->Res D:=fun δ=>(f δ).bind negG
noncomputable def retD (f:DS->Res D):DS->Out:=fun δ=>onD (f δ) δ Out.ret
noncomputable def ifS (t:DS->Res Bool) (a b:DS->Out):DS->Out:=fun δ=>onT (t δ) δ fun k=>if k=true then a δ else b δ
noncomputable def whileF (fuel:DS->Nat) (c:DS->Res Bool) (b:DS->Out):DS->Out:=fun δ=>whileD c b (fuel δ) δ
noncomputable def tgtN (i:Nat):TGD:=fun d δ=>some (δ.set i (some (.val d)))
noncomputable def forR (r:List D->Res (List D)) (t:TGD) (a:DS->Res (List D)) (b:DS->Out):DS->Out:=fun δ=>onL ((a δ).bind r) fun ds=>forD t b ds δ
theorem kg' {X:Cx} {a:Expr} {fa:DS->Res D} {pos:Pos} (ha:PD X a fa):PD X (.UnaryOp .USub a pos) (negF fa) :=
 mu' (g:=negG) (fun E pins s σ H x v d r I r1 p1 e=>by
  cases d with
  | int i =>
   simp only [negG,Res.ok.injEq] at e;subst e;exact wpAny_mono (lm' (X:=X.wish fun _ _=>False) pins s σ H x v (fun z H'=>z=.int (-i)/\H'=H) (I.wish _) r1 ⟨i,repI p1,rfl,rfl⟩) (fun u s1 ⟨z,H1,I1,r2,e1,e2⟩=>by
    subst e1 e2;exact ⟨_,_,_,rfl,I1.unwish,r2,Same.refl _,mkI⟩) fun _ _ z=>z.elim
  | _=>simp [negG] at e) (fun x=>by cases x <;> first | exact ad' | exact ah') ha
theorem aT' {m i:Nat} (h:i < m):KeepsT m (tgtN i):=by
 intro d δ δ1 e;simp only [tgtN,Option.some.injEq] at e;subst e;exact ⟨by simp,fun j hj=>by rw [List.getElem?_set_ne (by omega)]⟩
theorem et' {f:DS->Res D} {δ:DS} {ds:List D} (h:consD f (fun _=>.ok []) δ=.ok ds):ds.length<=sizeLine:=by
 unfold consD at h
 cases q:f δ with
 | stuck=>rw [q] at h; cases h
 | err x=>rw [q] at h; cases h
 | ok d=>rw [q] at h; cases h; show 1<=sizeLine; decide
theorem fW' {scope:Scope} {env:Env} (hf:∀y∈scope.names,y.2≠.free):relabel scope env=scope:=by
 unfold relabel;have:(scope.names.map fun x=>match x with | (n,k)=>if (k == .free && env.scope.kind == .function && env.kindOf n == some .cell)=true then (n,NameKind.cell) else (n,k))=scope.names:=by
  refine map_eq_self fun x hx=>?_;obtain ⟨n,k⟩:=x;have:(k == NameKind.free)=false:=by simpa using hf _ hx
  simp [this]
 show { scope with names:=_ }=scope
 rw [this]
theorem cj' {X:Cx} {m:Nat} {N':List Str} {scope:Scope} (hf:∀y∈scope.names,y.2≠.free:=by decide +kernel) (hc:∀y∈scope.names,y.2≠.cell:=by decide +kernel) (hk:scope.kind=.function:=by rfl)
  (hn:∀x∈scope.names,x.2=.local->scope.names.lookup x.1=some .local:=by decide +kernel) (hl:N'.length=m:=by rfl):Around' X m [] N' scope [] where
 clos:=closureFor_none hf
 nocell:=hc
 kind:=hk
 names:=hn
 sub:=fun x c h=>by simp at h
 has:=fun x h=>by
  exfalso;rw [fW' hf] at h;rcases h with h | h
  ·exact hc _ (PySem.mem_of_lookup h) rfl
  ·exact hf _ (PySem.mem_of_lookup h) rfl
 len:=by simpa using hl
 free:=fun j i h=>by simp at h
noncomputable def startsG:D->List D->Res D
 | .str x,[.str y]=>.ok (.bl (Txt.startswith x y))
 | _,_=>.stuck
noncomputable def splitG:D->List D->Res D
 | .str x,[.str y]=>if (y.length == 0)=false/\x.length + 2<=sizeLine then .ok (.lst ((Txt.split x y).map .str)) else .stuck
 | _,_=>.stuck
noncomputable def zfillG:D->List D->Res D
 | .str x,[.int i]=>if PadOk i=true then .ok (.str (Txt.zfill x i)) else .stuck
 | _,_=>.stuck
theorem eu' (d:D) (ds:List D):NoErr (startsG d ds):=by
 unfold startsG; split <;> first | exact ah' | exact ad'
theorem fp' (d:D) (ds:List D):NoErr (splitG d ds):=by
 unfold splitG; split <;> first | exact ad' | exact au' ah' ad'
theorem iy' (d:D) (ds:List D):NoErr (zfillG d ds):=by
 unfold zfillG; split <;> first | exact ad' | exact au' ah' ad'
theorem mkS' {K:PySem.W.Frag} {H:Hp} {i:Str}:Rep K H (.str i) (.str i):=by rw [Rep]
theorem mkB' {K:PySem.W.Frag} {H:Hp} {i:Bool}:Rep K H (.bl i) (.bl i):=by rw [Rep]
theorem ev' {X:Cx}:MtD X "str.startswith" startsG:=by
 intro E pins s σ H x xs v us a ds d I r1 r2 p1 p2 e;unfold startsG at e
 split at e
 ·rename_i x y
  cases e
  rw [repS p1] at r1;obtain ⟨t,rfl⟩:=r1;obtain ⟨v2,vs,rfl,p3,t3⟩:=p2.cons_of
  cases t3.nil_of
  obtain ⟨u,rfl,r3⟩:=vals1 r2;rw [repS p3] at r3;obtain ⟨t',rfl⟩:=r3;exact PySem.SC.startswith ⟨_,.bl _,H,rfl,I,rfl,Same.refl H,mkB'⟩
 ·cases e
theorem iz' {X:Cx}:MtD X "str.zfill" zfillG:=by
 intro E pins s σ H x xs v us a ds d I r1 r2 p1 p2 e;unfold zfillG at e
 split at e
 ·rename_i x y
  split at e
  ·rename_i hp
   cases e
   rw [repS p1] at r1;obtain ⟨t,rfl⟩:=r1;obtain ⟨v2,vs,rfl,p3,t3⟩:=p2.cons_of
   cases t3.nil_of
   obtain ⟨u,rfl,r3⟩:=vals1 r2;rw [repI p3] at r3;obtain ⟨t',rfl⟩:=r3;exact PySem.SC.zfill hp fun t' k=>⟨_,.str _,H,rfl,I.tok _,⟨_,rfl⟩,Same.refl H,mkS'⟩
  ·cases e
 ·cases e
theorem cO' {x y:Str} (h:x.length + 2<=sizeLine):(Builtin.Str.partsBetween x (Builtin.Str.occurrences x y 0 x.length (x.length + 1)) y.length).length<=sizeLine:=by
 have m:=StrLaws.occ_length_le x y 0 x.length (x.length + 1);rw [length_partsBetween];omega
noncomputable def SplitTo (x y:Str) (R:Result->Shared->Prop) (s:Shared):Prop :=
 ∀l k,l.map (·.1)=Txt.split x y->R (.ok (.ret (.ref s.heap.objs.size))) { s with heap:=s.heap.push { cls:=.type "list",data:=.seq (strValues l).toArray },toks:=k }
theorem eX' {x y:Str} {t u:Tok} (hy:(y.length == 0)=false) (hsz:x.length + 2<=sizeLine):Meets (Builtin.«str.split» ⟨[.str x t,.str y u],[]⟩) (fun _ R s=>SplitTo x y R s):=by
 intro prog w A R s h
 by_cases c1:(decide (x.length < y.length) || decide (Builtin.Str.strKind x < Builtin.Str.strKind y))=true
 ·exact meets_str_split_cannot_occur x y t u c1 prog w A R s (h [(x,t)] s.toks (by unfold Txt.split; rw [if_pos c1]; rfl))
 ·have n1:=eq_false_of_ne_true c1
  by_cases c2:(Builtin.Str.occurrences x y 0 x.length (x.length + 1)).isEmpty=true
  ·exact meets_str_split_not_found x y t u n1 hy c2 prog w A R s (h [(x,t)] s.toks (by unfold Txt.split; rw [if_neg c1,if_pos c2]; rfl))
  ·refine meets_str_split_sep x y t u n1 hy (eq_false_of_ne_true c2) (Nat.le_trans (Nat.le_add_right _ 2) hsz) (cO' hsz) prog w A R s ?_;have q:=h (numbered s.toks (Builtin.Str.partsBetween x (Builtin.Str.occurrences x y 0 x.length (x.length + 1)) y.length)) (s.toks + (Builtin.Str.partsBetween x (Builtin.Str.occurrences x y 0 x.length (x.length + 1)) y.length).length) (by rw [numbered_texts]; unfold Txt.split; rw [if_neg c1,if_neg c2]);rw [<- strsFrom_eq] at q;exact q
theorem fX' {prog:Program} {w:World} {A:Around} {E:Value->Shared->Prop} {s:Shared} {x y:Str} {t u:Tok} {Q:Value->Shared->Prop} (hy:(y.length == 0)=false)
  (h:∀l k,l.map (·.1)=Txt.split x y->Q (.ref s.heap.objs.size) { s with heap:=s.heap.push { cls:=.type "list",data:=.seq (strValues l).toArray },toks:=k })
  (hsz:x.length + 2<=sizeLine):wpAny (model prog w) A (call (.builtin "str.split") [.str x t,.str y u]) Q E s :=
 call_meets F.slot_str_split (typeIs_str _ _ _) F.entry_str_split (F.args_str_split_2 _ _) (eX' hy hsz) h
theorem gW' {x y:Str} (h:x.length + 2<=sizeLine):(Txt.split x y).length<=sizeLine:=by
 unfold Txt.split
 split
 ·show 1<=sizeLine; decide
 ·split
  ·show 1<=sizeLine; decide
  ·exact cO' h
theorem ew':∀l:List (Str×Tok),Vals (l.map fun p=>V.str p.1) (strValues l)
 | []=>.nil
 | p :: l=>.cons ⟨_,rfl⟩ (ew' l)
theorem ey' {K:PySem.W.Frag} {H:Hp}:∀xs:List Str,Reps K H (xs.map .str) (xs.map .str)
 | []=>Reps.nil
 | x :: xs=>Reps.cons mkS' (ey' xs)
theorem fq' {X:Cx}:MtD X "str.split" splitG:=by
 intro E pins s σ H x xs v us a ds d I r1 r2 p1 p2 e;unfold splitG at e
 split at e
 ·rename_i x y
  split at e
  ·rename_i hp
   cases e
   rw [repS p1] at r1;obtain ⟨t,rfl⟩:=r1;obtain ⟨v2,vs,rfl,p3,t3⟩:=p2.cons_of
   cases t3.nil_of
   obtain ⟨u,rfl,r3⟩:=vals1 r2;rw [repS p3] at r3;obtain ⟨t',rfl⟩:=r3;refine fX' hp.1 (fun l k hl=>?_) hp.2;have hf:H s.heap.objs.size=none:=I.hok.fresh (Nat.le_refl _);have hz:((Txt.split x y).map V.str).length<=sizeLine:=by rw [List.length_map]; exact gW' hp.2
   refine ⟨_,.ref s.heap.objs.size,upd H s.heap.objs.size (.lst ((Txt.split x y).map V.str)),rfl,I.laid (t':=k) (fun b u e=>Heap.get?_push_of_some _ e) (Nat.le_refl _) ?_,rfl,ap' hf _,mkL (SqL.of aj') (ey' _)⟩;refine ⟨hz,strValues l,0,?_,Heap.get?_push_size _ rfl⟩;rw [<- hl,List.map_map]; exact ew' l
  ·cases e
 ·cases e
noncomputable def inD:D->D->Res D
 | .str x,.str y=>.ok (.bl (!(Builtin.Str.occurrences y x 0 y.length 1).isEmpty))
 | _,_=>.stuck
noncomputable def isNoneD:D->D->Res D
 | .exc _,.non=>.ok (.bl false)
 | .non,.non=>.ok (.bl true)
 | .int _,.non=>.ok (.bl false)
 | .bl _,.non=>.ok (.bl false)
 | .str _,.non=>.ok (.bl false)
 | .tup _,.non=>.ok (.bl false)
 | .lst _,.non=>.ok (.bl false)
 | _,_=>.stuck
theorem gX' (x y:D):NoErr (isNoneD x y):=by cases x <;> cases y <;> first | exact ad' | exact ah'
noncomputable def strG:List D->Res D
 | [.int i]=>if i.natAbs.log2 < 1920 then .ok (.str (toString i)) else .stuck
 | _=>.stuck
noncomputable def intG:List D->Res D
 | [.int i]=>.ok (.int i)
 | [.bl k]=>.ok (.int (if k then 1 else 0))
 | [.str x]=>if x.length<=640 then (match PySem.intText? x with | some n=>.ok (.int n) | none=>.stuck) else .stuck
 | _=>.stuck
theorem ne_str (ds:List D):NoErr (strG ds):=by
 unfold strG; split <;> first | exact ad' | exact au' ah' ad'
theorem ne_int (ds:List D):NoErr (intG ds):=by
 unfold intG
 split <;> first | exact ah' | exact ad' | skip
 refine au' ?_ ad'
 split <;> first | exact ah' | exact ad'
section
variable {X:Cx}
theorem my':OpD X (compareOp .In) inD:=.of (fun _=>gq') fun H x y a b d Q p1 p2 e q=>by
 unfold inD at e
 split at e
 ·rename_i i j
  cases e
  exact ⟨i,j,repS p1,repS p2,q _ H (Same.refl H) mkB'⟩
 ·cases e
theorem gY' {K:PySem.W.Frag} {H:Hp} {a b d:D} {x y:V} (p1:Rep K H a x) (p2:Rep K H b y) (e:isNoneD a b=.ok d):y=.non/\d=.bl (decide (x=.non)):=by
 cases b <;> (try (cases a <;> cases e))
 all_goals (rw [Rep] at p2; subst p2)
 all_goals (refine ⟨rfl,?_⟩)
 ·rw [Rep] at p1; subst p1; rfl
 ·rw [Rep] at p1; subst p1; rfl
 ·rw [Rep] at p1; subst p1; rfl
 ·rw [Rep] at p1; subst p1; rfl
 ·obtain ⟨_,_,rfl,_⟩:=repT p1; rfl
 ·obtain ⟨_,_,rfl,_⟩:=repL p1; rfl
 ·rw [Rep] at p1; obtain ⟨_,_,rfl,_⟩:=p1; rfl
theorem fr':CallD X (.type "str") strG:=.of (fun _=>dX') fun H xs ds d Q r e q=>by
 unfold strG at e
 split at e
 ·rename_i i
  split at e
  ·rename_i hz
   cases e
   obtain ⟨v,vs,rfl,p1,t⟩:=r.cons_of
   cases t.nil_of
   exact ⟨i,by rw [repI p1],hz,q _ H (Same.refl H) mkS'⟩
  ·cases e
 ·cases e
theorem jy':CallD X (.type "int") intG:=by
 intro E pins s σ H xs us ds d I r p e;unfold intG at e
 split at e
 ·rename_i i
  cases e
  obtain ⟨v,vs,rfl,p1,t⟩:=p.cons_of
  cases t.nil_of
  rw [repI p1] at r;obtain ⟨u,rfl,t,rfl⟩:=vals1 r;exact call_int_int ⟨_,.int i,H,rfl,I,⟨_,rfl⟩,Same.refl H,mkI⟩
 ·rename_i k
  cases e
  obtain ⟨v,vs,rfl,p1,t⟩:=p.cons_of
  cases t.nil_of
  rw [Rep] at p1;subst p1;obtain ⟨u,rfl,r1⟩:=vals1 r
  cases r1
  exact call_int_bool ⟨_,.int (if k then 1 else 0),H,rfl,I.tok _,⟨_,rfl⟩,Same.refl H,mkI⟩
 ·rename_i x
  split at e
  ·rename_i hl
   split at e
   ·rename_i n hn
    cases e
    obtain ⟨v,vs,rfl,p1,t⟩:=p.cons_of
    cases t.nil_of
    rw [repS p1] at r;obtain ⟨u,rfl,t,rfl⟩:=vals1 r;exact PySem.W.KIN.call_text hn hl ⟨_,.int n,H,rfl,I.tok _,⟨_,rfl⟩,Same.refl H,mkI⟩
   ·cases e
  ·cases e
 ·cases e
end
noncomputable def thaw1:SV->SV
 | .val d=>.val d
 | .arg d=>.val d
 | .own ds=>.val (.lst ds)
noncomputable def thaw2:SV->SV
 | .val d=>.val d
 | .arg d=>.val d
 | .own ds=>.own ds
noncomputable def thaw (δ:DS):DS:=δ.map (Option.map thaw1)
noncomputable def thawO:Out->Out
 | .nxt δ=>.nxt (δ.map (Option.map thaw2))
 | .brk δ=>.brk (δ.map (Option.map thaw2))
 | .cnt δ=>.cnt (δ.map (Option.map thaw2))
 | .ret d=>.ret d
 | .err x δ=>.err x δ
 | .stuck=>.stuck
theorem RepSt.thaw {K:PySem.W.Frag} {G H:Hp} {σ:St} {δ:DS} (R:RepSt K G H σ δ):RepSt K H H σ (thaw δ) where
 same:=Same.refl H
 len:=by unfold DL.thaw; rw [List.length_map]; exact R.len
 at_:=fun i sv h=>by
  unfold DL.thaw at h;rw [List.getElem?_map] at h
  cases z:δ[i]? with
  | none=>rw [z] at h; cases h
  | some o =>
   cases o with
   | none=>rw [z] at h; cases h
   | some sv0 =>
    rw [z] at h
    cases h
    obtain ⟨v,e1,e2⟩:=R.view z;refine ⟨v,e1,?_⟩
    cases sv0 <;> exact e2
 sep:=fun i j ds es v _ h=>by
  unfold DL.thaw at h;rw [List.getElem?_map] at h
  cases z:δ[i]? with
  | none=>rw [z] at h; cases h
  | some o =>
   cases o with
   | none=>rw [z] at h; cases h
   | some sv0=>rw [z] at h; cases sv0 <;> cases h
theorem RepSt.thaw2 {K:PySem.W.Frag} {G G' H:Hp} {σ:St} {δ:DS} (R:RepSt K G' H σ δ) (e:Same G G'):RepSt K G H σ (δ.map (Option.map thaw2)) where
 same:=e.trans R.same
 len:=by rw [List.length_map]; exact R.len
 at_:=fun i sv h=>by
  rw [List.getElem?_map] at h
  cases z:δ[i]? with
  | none=>rw [z] at h; cases h
  | some o =>
   cases o with
   | none=>rw [z] at h; cases h
   | some sv0 =>
    rw [z] at h
    cases h
    cases sv0 with
    | val d=>exact R.at_ i _ z
    | arg d =>
     obtain ⟨v,e1,e2⟩:=R.at_ i _ z;exact ⟨v,e1,Rep.mono R.same e2⟩
    | own ds =>
     obtain ⟨v,e1,a,xs,q1,q2,q3,q4⟩:=R.at_ i _ z;exact ⟨v,e1,a,xs,q1,q2,q3,e.free q4⟩
 sep:=fun i j ds es v hij h1 h2 h3=>by
  have get:∀(k:Nat) (fs:List D),(δ.map (Option.map DL.thaw2))[k]? = some (some (.own fs))->δ[k]? = some (some (.own fs)):=fun k fs h=>by
   rw [List.getElem?_map] at h
   cases z:δ[k]? with
   | none=>rw [z] at h; cases h
   | some o =>
    cases o with
    | none=>rw [z] at h; cases h
    | some sv0 =>
     rw [z] at h
     cases sv0 <;> cases h
     rfl
  exact R.sep i j ds es v hij (get i ds h1) (get j es h2) h3
theorem NOut.thaw {X:Cx} {G H:Hp} {o:Out} {E:Ends} (e:Same G H) (h:NOut X G H (thawO o) E):NOut X H H o E:=by
 cases o with
 | stuck=>exact h
 | nxt δ=>exact fun σ' H' t r=>h σ' H' t (r.thaw2 e)
 | brk δ=>exact fun σ' H' t r=>h σ' H' t (r.thaw2 e)
 | cnt δ=>exact fun σ' H' t r=>h σ' H' t (r.thaw2 e)
 | ret d=>exact fun v H' t g r=>h v H' t (e.trans g) r
 | err x δ=>exact h
theorem PID.pi {X:Cx} {tg iter:Expr} {f:DS->Res (List D)} (h:PID X tg iter f):PI X.nox tg iter (fun σ H R=>∃G δ ds,RepSt X.K G H σ δ/\f δ=.ok ds/\∀J H',Same H H'->Yields X.K J H' ds->R J H'):=by
 intro pins s σ H R I ⟨G,δ,ds,RR,q,n⟩;refine wpAny_mono (h pins s σ G H δ I.unwish RR (by rw [q]; intro z; cases z)) (fun v s1 p=>?_) fun e s1 p=>?_
 ·refine wpAny_mono p (fun itv s2 ⟨ds',it,fp,tn,J,H',q1,q2,I2,T,t0,hf,e2,y⟩=>?_) fun e s2 p=>?_
  ·rw [q] at q1; cases q1;exact ⟨it,fp,tn,J,H',q2,I2.wish _,T,t0,hf,n J H' e2 y⟩
  ·rw [q] at p; exact p.none
 ·rw [q] at p; exact p.none
noncomputable def forS (t:TGD) (fi:DS->Res (List D)) (b:DS->Out):DS->Out:=fun δ=>onL (fi δ) fun ds=>thawO (forD t b ds (thaw δ))
section
variable {X:Cx} {tg iter:Expr} {body:List Stmt} {t:TGD} {fb:DS->Out} {pos:Pos}
theorem fY' {J:It} {ds:List D} {H0:Hp} {E:Ends} (y:Yields X.K J H0 ds) {δ:DS} {σ:St} (R:RepSt X.K H0 H0 σ δ) (h:NOut X H0 H0 (forD t fb ds δ) E) :
  ∃W:Nat->Nat->St->Hp->Prop,(∃m,W 0 m σ H0)/\∀i m σ H,W i m σ H ->
   (J.stop i H/\E.nx σ H)\/(J.go i H/\∃N:St->Hp->Prop,(∀σ' H',N σ' H'->∃m',m' < m/\W (i + 1) m' σ' H')/\∀x H',J.yld i H x H'->gD X t x σ H' fun σ2 H2=>sD X fb { E with nx:=N,ct:=N,bk:=E.nx } σ2 H2):=by
 refine ⟨fun i m σ H=>i + m=ds.length/\∃δ',RepSt X.K H0 H σ δ'/\NOut X H0 H (forD t fb (ds.drop i) δ') E,⟨ds.length,by omega,δ,R,by simpa using h⟩,?_⟩
 rintro i m σ1 H1 ⟨hm,δ1,R1,h1⟩
 obtain ⟨y1,y2⟩:=y H1 R1.same
 by_cases hi:i < ds.length
 ·right
  have hd:ds[i]? = some ds[i]:=List.getElem?_eq_getElem hi;obtain ⟨go,yl⟩:=y1 i ds[i] hd;refine ⟨go,fun σ' H'=>(i + 1) + (m - 1)=ds.length/\∃δ',RepSt X.K H0 H' σ' δ'/\NOut X H0 H' (forD t fb (ds.drop (i + 1)) δ') E,fun σ' H' n=>⟨m - 1,by omega,n⟩,fun x H' yx=>?_⟩;obtain ⟨e,p⟩:=yl x H' yx;rw [List.drop_eq_getElem_cons hi] at h1;exact fl' (R1.mono e) p (h1.tk e.tk) fun δ' σ' H'' _ r z=>⟨by omega,δ',r,z⟩
 ·left
  have e:i=ds.length:=by omega
  subst e;rw [List.drop_eq_nil_of_le (Nat.le_refl _)] at h1;exact ⟨y2,h1 σ1 H1 (TK.refl H1) R1⟩
theorem iA' {o:Out} (h:∀x δ',o≠.err x δ') (x:Exn) (δ':DS):thawO o≠.err x δ':=by
 cases o with
 | err y δ=>exact (h y δ rfl).elim
 | _=>intro z; cases z
theorem kh' {fi:DS->Res (List D)} (hc:X.calm=true) (hi:PID X tg iter fi) (hg:PGD X tg t) (hb:PSDs X body fb) (hf:∀x,foldedSetIterable iter X.env x=pure x:=by intro _; rfl) :
  PSD X (.For tg iter body [] pos) (forS t fi fb):=by
 refine gO' (fun δ=>jx' fun ds=>iA' (eR' t fb ds (thaw δ))) fun pins s σ H E I h=>?_;obtain ⟨G,δ,R,h⟩:=h;refine jt' (X:=X.nox) PassesOwn.never hc hi.pi hg.pg hb.ps hf pins s σ H E I ?_;unfold forS at h
 cases q:fi δ with
 | stuck=>simp only [q] at h; exact h.elim
 | err x=>simp only [q] at h; exact h.elim
 | ok ds =>
  simp only [q] at h;refine ⟨G,δ,ds,R,q,fun J H1 e1 y=>?_⟩;have R1:=(R.mono e1);exact fY' y R1.thaw (NOut.thaw R1.same (h.tk e1.tk))
end
section
open HT
variable {prog:Program} {w:World} {A:Around} {E:Value->Shared->Prop} {s:Shared}
theorem gZ' {t sl:Addr} {items:Array Value} {vl vu:Value} {lo hi:Option Int} {Q:Value->Shared->Prop} (ht:IsTup s.heap t items) (hs:s.heap.IsSliceOf sl vl vu .none) (pl:IsPart vl lo) (pu:IsPart vu hi)
  (hw:sIx items.size 0 lo=0/\sIx items.size items.size hi=items.size) (h:Q (.ref t) s):wpAny (model prog w) A (getItem (.ref t) (.ref sl)) Q E s:=by
 obtain ⟨os,hos,hcs,hds⟩:=id hs;unfold getItem;refine wpAny_holding (wpAny_bind (wpAny_sequenceKey ht.typeIs (by decide) ?_));refine wpAny_bind (wpAny_callSpecial?_slot (name:=Str.ofString "__getitem__") ht.typeIs PyProof.Rows.slot_tuple_getitem (wpAny_call_entry PyProof.Rows.slot_tuple_getitem ht.typeIs entry_tuple_getitem ?_ (args_tuple_getitem _ _)));show wpAny _ _ (Builtin.Tuple.tupleItemsOf (.ref t) >>= _) _ _ s;refine wpAny_bind (tupleItemsOf_ ht (wpAny_bind (wpAny_typeOf ⟨os,hos,hcs⟩ ?_)));rw [if_pos (by decide)];refine wpAny_bind (bl' hs pl pu ?_);obtain ⟨w1,w2⟩:=hw;have hc:(((sIx items.size 0 lo:Nat):Int) == 0 && (1:Int) == 1 && (sIx items.size items.size hi - sIx items.size 0 lo) == items.size)=true:=by
  rw [w1,w2]; simp
 show wpAny _ _ (if (((sIx items.size 0 lo:Nat):Int) == 0 && (1:Int) == 1 && (sIx items.size items.size hi - sIx items.size 0 lo) == items.size)=true then _ else _) _ _ s
 rw [if_pos hc];refine wpAny_bind (m:=Builtin.Tuple.tupleIsExact _) (wpAny_bind (wpAny_typeOf ht.typeIs (wpAny_pure ?_)));rw [if_pos (by decide)];exact wpAny_bind (wpAny_rule (wpAny_pure ⟨_,rfl,wpAny_pure h⟩))
end
noncomputable def rSlW (K:PySem.W.Frag):V->Option Int->Option Int->Hp->VK->Prop:=fun x lo hi H Q=>∃a xs,x=.ref a/\SqT K H a xs/\(HT.sIx xs.length 0 lo=0/\HT.sIx xs.length xs.length hi=xs.length)/\Q (.ref a) H
theorem iB' {X:Cx}:SlR X (rSlW X.K):=by
 intro pins s σ H x v vl vu lo hi sl Q I rx hs pl pu h;obtain ⟨a,xs,rfl,hx,hw,q⟩:=h
 cases rx
 obtain ⟨its,r,ht,hz⟩:=I.tuple hx;have hlen:its.toArray.size=xs.length:=by rw [List.size_toArray]; exact r.length.symm
 exact ⟨"tuple",_,PyProof.Rows.slot_tuple_getitem.lookup,ht.typeIs,gZ' ht hs pl pu (by rw [hlen]; exact hw) ⟨.ref a,H,I,rfl,q⟩⟩
noncomputable def OPost (X:Cx) (pins:List (Addr×Obj)) (σ:St) (H:Hp) (r:Res (Option Int)) (u:Value) (s1:Shared):Prop:=∃o H1,r=.ok o/\Inv X pins σ H1 s1/\IsPart u o/\Same H H1
noncomputable def POD (X:Cx) (e:Option Expr) (f:DS->Res (Option Int)):Prop :=
 ∀(pins:List (Addr×Obj)) (s:Shared) (σ:St) (G H:Hp) (δ:DS),Inv X pins σ H s->RepSt X.K G H σ δ->f δ≠.stuck ->
  wpAny (model X.prog X.w) X.A (evalPart e X.env) (OPost X pins σ H (f δ)) (XPost X pins σ H s.heap (f δ)) s
noncomputable def partG:D->Res (Option Int)
 | .int i=>.ok (some i)
 | _=>.stuck
noncomputable def noPart:DS->Res (Option Int):=fun _=>.ok none
noncomputable def partF (f:DS->Res D):DS->Res (Option Int):=fun δ=>(f δ).bind partG
noncomputable def cutL (ds:List D) (lo hi:Option Int):List D:=(ds.drop (HT.sIx ds.length 0 lo)).take (HT.sIx ds.length ds.length hi - HT.sIx ds.length 0 lo)
noncomputable def cutD (d:D) (lo hi:Option Int):Res D:=match d with
 | .str z=>if z.length<=sizeLine then .ok (.str (Txt.slice z lo hi)) else .stuck
 | .lst ds=>.ok (.lst (cutL ds lo hi))
 | .tup ds=>.ok (.tup (cutL ds lo hi))
 | _=>.stuck
noncomputable def sliceF (fe:DS->Res D) (fl fu:DS->Res (Option Int)):DS->Res D:=fun δ=>(fe δ).bind fun d=>(fl δ).bind fun l=>(fu δ).bind fun u=>cutD d l u
theorem lB' (d:D) (lo hi:Option Int):NoErr (cutD d lo hi):=by
 unfold cutD; split <;> first | exact ah' | exact ad' | exact au' ah' ad'
theorem Reps.take' {K:PySem.W.Frag} {H:Hp}:∀(n:Nat) {ds:List D} {vs:List V},Reps K H ds vs->Reps K H (ds.take n) (vs.take n)
 | 0,_,_,_=>by simp only [List.take_zero]; exact Reps.nil
 | n + 1,[],_,h=>by cases h.nil_of; exact Reps.nil
 | n + 1,d :: ds,_,h=>by
  obtain ⟨v,vs,rfl,r,q⟩:=h.cons_of;exact Reps.cons r (Reps.take' n q)
theorem Reps.cut {K:PySem.W.Frag} {H:Hp} {ds:List D} {vs:List V} (h:Reps K H ds vs) (lo hi:Option Int):Reps K H (cutL ds lo hi) (cutV vs lo hi):=by
 unfold cutL cutV;rw [h.length];exact Reps.take' _ (Reps.drop _ h)
section
variable {X:Cx} {e:Expr} {fe:DS->Res D} {lo hi:Option Expr} {fl fu:DS->Res (Option Int)} {pos p2:Pos}
theorem aQ':POD X none noPart:=by
 intro pins s σ G H δ I R _;rw [evalPart_none];exact wpAny_pure ⟨none,H,rfl,I,.none,Same.refl H⟩
theorem aE' (h:PD X e fe):POD X (some e) (partF fe):=by
 intro pins s σ G H δ I R hs;unfold partF at hs ⊢;rw [evalPart_some];refine h.use I R (az' hs) (fun d u s1 v H1 q I1 r1 e1 b1 p1=>?_) fun e s1 q=>q.same fun x z=>aB' z;have h2:=aD' hs q
 cases d with
 | int i =>
  rw [repI p1] at r1;obtain ⟨t,rfl⟩:=r1;exact ⟨some i,H1,by rw [q]; rfl,I1,.int i t,e1⟩
 | _=>exact (h2 rfl).elim
theorem POD.use {pins:List (Addr×Obj)} {s:Shared} {σ:St} {G H:Hp} {δ:DS} (h:POD X lo fl) (I:Inv X pins σ H s) (R:RepSt X.K G H σ δ) (hs:fl δ≠.stuck) {P E:Value->Shared->Prop}
  (k:∀o u s1 H1,fl δ=.ok o->Inv X pins σ H1 s1->IsPart u o->Same H H1->Back H s.heap s1.heap->P u s1)
  (kx:∀e s1,XPost X pins σ H s.heap (fl δ) e s1->E e s1):wpAny (model X.prog X.w) X.A (evalPart lo X.env) P E s:=by
 refine wpAny_mono (h (pins ++ allP X H s.heap) s σ G H δ I.all R hs) (fun u s1 ⟨o,H1,q1,q2,q3,q4⟩=>k o u s1 H1 q1 q2.unpinned q3 q4 (I.backTo q2)) fun e s1 ⟨x,a,C,H1,q1,q2,q3,q4,q5,q6⟩=>kx e s1 ⟨x,a,C,H1,q1,q2,q3.unpinned,q4,q5,q6⟩
noncomputable def rSlS:V->Option Int->Option Int->Hp->VK->Prop:=fun x lo hi H Q=>∃z,x=.str z/\z.length<=sizeLine/\Q (.str (Txt.slice z lo hi)) H
theorem sl_str:SlR X rSlS:=by
 intro pins s σ H x v vl vu lo hi sl Q I rx hs pl pu h;obtain ⟨z,rfl,hz,q⟩:=h;obtain ⟨t,rfl⟩:=rx;refine ⟨"str",_,PySem.F.slot_str_getitem.lookup,typeIs_str _ _ _,?_⟩;have hl:∃l:Option (Int×Tok),vl=partValue l/\l.map (·.1)=lo:=by
  cases pl with
  | none=>exact ⟨none,rfl,rfl⟩
  | int i t=>exact ⟨some (i,t),rfl,rfl⟩
 have hu:∃u:Option (Int×Tok),vu=partValue u/\u.map (·.1)=hi:=by
  cases pu with
  | none=>exact ⟨none,rfl,rfl⟩
  | int i t=>exact ⟨some (i,t),rfl,rfl⟩
 obtain ⟨l,rfl,rfl⟩:=hl;obtain ⟨u,rfl,rfl⟩:=hu;refine wpAny_getItem_str_slice (l:=l) (u:=u) (st:=none) hs rfl ?_;exact post_val_or_str ⟨Nat.le_trans (Txt.slice_le z _ _) hz,fun t' k=>⟨.str _,H,I.tok _,⟨_,rfl⟩,q⟩⟩
theorem lC' {H:Hp} {d r:D} {v:V} {lo hi:Option Int} (p:Rep X.K H d v) (e:cutD d lo hi=.ok r):(fun x lo hi H Q=>rSlS x lo hi H Q\/rSlL X.K x lo hi H Q\/rSlT X.K x lo hi H Q\/rSlW X.K x lo hi H Q) v lo hi H (fun z H'=>Same H H'/\Rep X.K H' r z):=by
 unfold cutD at e
 split at e
 ·rename_i z
  split at e
  ·rename_i hz
   cases e
   exact .inl ⟨z,repS p,hz,Same.refl H,mkS'⟩
  ·cases e
 ·rename_i ds
  cases e
  obtain ⟨a,xs,rfl,hq,rr⟩:=repL p;exact .inr (.inl ⟨a,xs,rfl,hq,fun p hp=>⟨ap' hp _,mkL (SqL.of aj') ((rr.cut _ _).mono (ap' hp _))⟩⟩)
 ·rename_i ds
  cases e
  obtain ⟨a,xs,rfl,hq,rr⟩:=repT p
  by_cases hw:HT.sIx ds.length 0 lo=0/\HT.sIx ds.length ds.length hi=ds.length
  ·have ec:cutL ds lo hi=ds:=by unfold cutL; rw [hw.1,hw.2]; simp
   exact .inr (.inr (.inr ⟨a,xs,rfl,hq,by rw [rr.length]; exact hw,Same.refl H,by rw [ec]; exact mkT hq rr⟩))
  ·exact .inr (.inr (.inl ⟨a,xs,rfl,hq,by rw [rr.length]; exact hw,fun p hp=>⟨ap' hp _,mkT (SqT.of aj') ((rr.cut _ _).mono (ap' hp _))⟩⟩))
 ·cases e
theorem aJ' (he:PD X e fe) (hl:POD X lo fl) (hu:POD X hi fu):PD X (.Subscript e (.Slice lo hi none p2) pos) (sliceF fe fl fu):=by
 intro pins s σ G H δ I R hs;unfold sliceF at hs ⊢;refine Subscript_ (he.use I R (az' hs) (fun d v s1 x H1 q I1 r1 e1 b1 p1=>?_) fun e s1 q=>q.same fun x z=>aB' z);have h2:=aD' hs q;rw [q,Res.bind_ok];refine wpAny_Slice (hl.use I1 (R.mono e1) (az' h2) (fun l vl s2 H2 q2 I2 pl e2 b2=>?_) fun e s2 p=>p.back e1 b1 fun x z=>aB' z);have h3:=aD' h2 q2;rw [q2,Res.bind_ok];refine hu.use I2 ((R.mono e1).mono e2) (az' h3) (fun u vu s3 H3 q3 I3 pu e3 b3=>?_) fun e s3 p=>(p.back e2 b2 (r':=(fu δ).bind fun u=>cutD d l u) fun x z=>aB' z).back e1 b1 fun x z=>z;have h4:=aD' h3 q3;rw [q3,Res.bind_ok,evalPart_none];refine wpAny_pure ?_;have I4:Inv X pins σ H3 { s3 with heap:=s3.heap.push { cls:=.type "slice",data:=.fields #[vl,vu,.none] } }:=I3.kept (t':=s3.toks) fun b ob q=>Heap.get?_push_of_some _ q
 cases qg:cutD d l u with
 | stuck=>exact (h4 qg).elim
 | err z=>exact (lB' d l u z qg).elim
 | ok r =>
  obtain ⟨T,id,hT,ht,hg⟩:=(sl_str.or (sl_list.or (sl_tup.or iB')):SlR X.nox _) pins { s3 with heap:=s3.heap.push { cls:=.type "slice",data:=.fields #[vl,vu,.none] } } σ H3 x v vl vu l u s3.heap.objs.size _ (I4.wish _) r1 (Heap.IsSliceOf.new ..) pl pu (lC' (X:=X) ((p1.mono e2).mono e3) qg)
  show wpAny (model X.prog X.w) X.A (subscriptTail e (.Slice lo hi none p2) v (.ref s3.heap.objs.size)) _ _ { s3 with heap:=s3.heap.push { cls:=.type "slice",data:=.fields #[vl,vu,.none] } }
  refine wpAny_mono (tail_any (ops:=[.ref s3.heap.objs.size,v]) ht hT hg (by with_unfolding_all rfl)) (fun w s4 q4=>?_) fun _ _ z=>z.elim;obtain ⟨z,H4,I5,r5,e5,p5⟩:=q4;exact ⟨r,z,H4,rfl,I5.unwish,r5,((e1.trans e2).trans e3).trans e5,p5⟩
end
mutual
noncomputable def flatD:D->Bool
 | .tup ds=>flatDs ds
 | .lst _=>false
 | .excf _ _ _=>false
 | .obj _ _ _=>false
 | _=>true
noncomputable def flatDs:List D->Bool
 | []=>true
 | d :: ds=>flatD d && flatDs ds
end
mutual
theorem Rep.lset {K:PySem.W.Frag} {H:Hp} {a:Addr} {xs ys:List V} (hH:H a=some (.lst xs)):∀{d:D} {v:V},flatD d=true->Rep K H d v->Rep K (upd H a (.lst ys)) d v
 | .non,v,_,h=>by rw [Rep] at h ⊢; exact h
 | .bl _,v,_,h=>by rw [Rep] at h ⊢; exact h
 | .int _,v,_,h=>by rw [Rep] at h ⊢; exact h
 | .str _,v,_,h=>by rw [Rep] at h ⊢; exact h
 | .lst _,v,hf,_=>by rw [flatD] at hf; cases hf
 | .tup ds,v,hf,h=>by
  obtain ⟨b,zs,rfl,hq,r⟩:=repT h;rw [flatD] at hf;refine mkT ?_ (Reps.lset hH hf r);rcases hq with (hq | ⟨o,hq⟩) | hq
  ·exact .inl (.inl (by rw [ai' (fun z=>by subst z; rw [hH] at hq; cases hq)]; exact hq))
  ·exact .inl (.inr ⟨o,by rw [ai' (fun z=>by subst z; rw [hH] at hq; cases hq)]; exact hq⟩)
  ·exact .inr hq
 | .exc n,v,_,h=>by
  rw [Rep] at h ⊢;obtain ⟨b,C,rfl,hC,hb⟩:=h;exact ⟨b,C,rfl,hC,by rw [ai' (fun z=>by subst z; rw [hH] at hb; cases hb)]; exact hb⟩
 | .excf n f d,v,hf,h=>by rw [flatD] at hf; cases hf
 | .obj n f d,v,hf,h=>by rw [flatD] at hf; cases hf
 | .dct,v,_,h=>by
  rw [Rep] at h ⊢;obtain ⟨b,rfl,hb⟩:=h;exact ⟨b,rfl,by rw [ai' (fun z=>by subst z; rw [hH] at hb; cases hb)]; exact hb⟩
theorem Reps.lset {K:PySem.W.Frag} {H:Hp} {a:Addr} {xs ys:List V} (hH:H a=some (.lst xs)):∀{ds:List D} {vs:List V},flatDs ds=true->Reps K H ds vs->Reps K (upd H a (.lst ys)) ds vs
 | [],_,_,h=>by cases h.nil_of; exact Reps.nil
 | d :: ds,_,hf,h=>by
  rw [flatDs,Bool.and_eq_true] at hf;obtain ⟨v,vs,rfl,r,q⟩:=h.cons_of;exact Reps.cons (Rep.lset hH hf.1 r) (Reps.lset hH hf.2 q)
end
noncomputable def keepSV:SV->Option SV
 | .val d=>if flatD d=true then some (.val d) else none
 | .arg d=>some (.arg d)
 | .own ds=>if flatDs ds=true then some (.own ds) else none
noncomputable def appS (i:Nat) (ds:List D) (d:D) (δ:DS):DS:=(δ.map fun o=>o.bind keepSV).set i (some (.own (ds ++ [d])))
theorem bX' {δ:DS} {j:Nat} {sv:SV} (h:(δ.map fun o=>o.bind keepSV)[j]? = some (some sv)):∃sv0,δ[j]? = some (some sv0)/\keepSV sv0=some sv:=by
 rw [List.getElem?_map] at h
 cases z:δ[j]? with
 | none=>rw [z] at h; cases h
 | some o =>
  cases o with
  | none=>rw [z] at h; cases h
  | some sv0=>rw [z] at h; exact ⟨sv0,rfl,by simpa using h⟩
theorem dF' {sv:SV} {ds:List D} (h:keepSV sv=some (.own ds)):sv=.own ds/\flatDs ds=true:=by
 cases sv with
 | val d=>simp only [keepSV] at h; split at h <;> cases h
 | arg d=>cases h
 | own es =>
  simp only [keepSV] at h
  split at h
  ·rename_i c; cases h; exact ⟨rfl,c⟩
  ·cases h
theorem RepSt.app {K:PySem.W.Frag} {G H:Hp} {σ:St} {δ:DS} {i:Nat} {ds:List D} {d:D} {a:Addr} {xs:List V} {v:V} (R:RepSt K G H σ δ) (hδ:δ[i]? = some (some (.own ds))) (hσ:σ[i]? = some (some (.ref a))) (hH:H a=some (.lst xs)) (r:Reps K H ds xs) (hG:G a=none) (hf:flatDs ds=true) (hd:flatD d=true) (p:Rep K H d v) :
  RepSt K G (upd H a (.lst (xs ++ [v]))) σ (appS i ds d δ) where
 same:=fun b o e=>by
  have hb:b≠a:=fun z=>by subst z; rw [hG] at e; cases e
  rw [ai' hb]; exact R.same b o e
 len:=by unfold appS; rw [List.length_set,List.length_map]; exact R.len
 at_:=fun j sv h=>by
  unfold appS at h;have hl:i < δ.length:=(List.getElem?_eq_some_iff.mp hδ).1
  by_cases hj:i=j
  ·subst hj;rw [List.getElem?_set_self (by rw [List.length_map]; exact hl)] at h
   cases h
   exact ⟨.ref a,hσ,a,xs ++ [v],rfl,aj',(Reps.lset hH hf r).append (Reps.cons (Rep.lset hH hd p) Reps.nil),hG⟩
  ·rw [List.getElem?_set_ne hj] at h;obtain ⟨sv0,q1,q2⟩:=bX' h;obtain ⟨u,e1,e2⟩:=R.at_ j sv0 q1;refine ⟨u,e1,?_⟩
   cases sv0 with
   | val d' =>
    simp only [keepSV] at q2
    split at q2
    ·rename_i c; cases q2; exact Rep.lset hH c e2
    ·cases q2
   | arg d'=>cases q2; exact e2
   | own es =>
    simp only [keepSV] at q2
    split at q2
    ·rename_i c
     cases q2
     obtain ⟨b,ys,rfl,w2,w3,w4⟩:=e2;have hb:b≠a:=fun z=>by subst z; exact R.sep i j ds es (.ref b) hj hδ q1 hσ e1
     exact ⟨b,ys,rfl,by rw [ai' hb]; exact w2,Reps.lset hH c w3,w4⟩
    ·cases q2
 sep:=fun j k es fs u hjk h1 h2 h3=>by
  have get:∀(m:Nat) (gs:List D),(appS i ds d δ)[m]? = some (some (.own gs))->∃gs',δ[m]? = some (some (.own gs')):=fun m gs h=>by
   unfold appS at h
   by_cases hm:i=m
   ·subst hm; exact ⟨ds,hδ⟩
   ·rw [List.getElem?_set_ne hm] at h;obtain ⟨sv0,q1,q2⟩:=bX' h;obtain ⟨rfl,_⟩:=dF' q2;exact ⟨gs,q1⟩
  obtain ⟨es',g1⟩:=get j es h1;obtain ⟨fs',g2⟩:=get k fs h2;exact R.sep j k es' fs' u hjk g1 g2 h3
noncomputable def ownD (i:Nat) (fs:DS->Res (List D)):DS->Out:=fun δ=>match fs δ with
 | .ok ds=>if ds.length<=sizeLine then .nxt (δ.set i (some (.own ds))) else .stuck
 | .err x=>.err x δ
 | .stuck=>.stuck
noncomputable def appD (i:Nat) (fe:DS->Res D):DS->Out:=fun δ=>match δ[i]? with
 | some (some (.own ds))=>onD (fe δ) δ fun d=>if flatDs ds=true/\flatD d=true/\ds.length < sizeLine then .nxt (appS i ds d δ) else .stuck
 | _=>.stuck
section
variable {X:Cx} {e:Expr} {es:List Expr} {fe:DS->Res D} {fs:DS->Res (List D)} {x:Str} {pos pos' lp np apos cpos:Pos}
theorem he' (i:Nat) (ha:PAD X es fs) (hN:X.N.Nodup) (hi:X.N[i]? = some x:=by rfl) (hx:Loc X.env.scope x:=by first | exact Or.inl rfl | exact Or.inr rfl) (hw:swapsWith (.List es lp) (some (.Name x pos')) pos.line X.env=pure false:=by rfl)
  (hf:X.fn x=true\/X.env.scope.names.lookup x=some .local:=by first | exact .inl rfl | exact .inr rfl | assumption):PSD X (.Assign [.Name x pos'] (.List es lp) pos) (ownD i fs):=by
 intro pins s σ G H δ I R hs;have hs':fs δ≠.stuck:=fun z=>hs (by unfold ownD; rw [z]);refine wpAny_Assign_Name (wpAny_List_spliced (ha.use I R hs' (fun ds us s1 vs H1 q I1 r1 e1 b1 p1=>?_) fun e s1 q=>q.sx R fun x z=>by unfold ownD; rw [z])) hw;have ev:ownD i fs δ=if ds.length<=sizeLine then .nxt (δ.set i (some (.own ds))) else .stuck:=by unfold ownD; rw [q]
 have hz:ds.length<=sizeLine:=by
  by_cases c:ds.length<=sizeLine
  ·exact c
  ·rw [ev,if_neg c] at hs; exact (hs rfl).elim
 rw [if_pos hz] at ev;refine ⟨by rw [<- r1.length,p1.length]; exact hz,?_⟩;have hf':H1 s1.heap.objs.size=none:=I1.hok.fresh (Nat.le_refl _);have I2:Inv X pins σ (upd H1 s1.heap.objs.size (.lst vs)) { s1 with heap:=s1.heap.push { cls:=.type "list",data:=.seq us.toArray } }:=I1.laid (t':=s1.toks) (fun b u e=>Heap.get?_push_of_some _ e) (Nat.le_refl _) ⟨by rw [p1.length]; exact hz,us,0,r1,Heap.get?_push_size _ rfl⟩
 exact cz' I2 hN hi hx (v:=.ref s1.heap.objs.size) rfl (fun s2 I3=>⟨_,_,_,ev,I3,(e1.trans (ap' hf' _)).tk,(R.mono e1).setOwn (ap' hf' _) i hf' aj' (p1.mono (ap' hf' _))⟩) hf
theorem dm' (i:Nat) (he:PD X e fe) (hN:X.N[i]? = some x:=by rfl) (hv:Vis X.env.scope x:=by first | exact Or.inl rfl | exact Or.inr (Or.inl rfl) | exact Or.inr (Or.inr rfl)) (hd:(x == ("__debug__" : Str))=false:=by decide)
  (hcd:(x == ("__classdict__" : Str))=false:=by decide) (hbase:attributeBase (.Name x np) "append" X.env (eval (.Name x np) X.env)=eval (.Name x np) X.env:=by rfl)
  (hfew:((backTo cpos (starEach [e] X.env)).all (fun x=>!x.1) && (backToKw cpos (keywordEach [] X.env)).all (fun x=>x.1.isSome)
   && decide (([e]:List Expr).length + ([]:List Keyword).length + (if ([]:List Keyword).isEmpty then 0 else 1) < 30))=true:=by rfl)
  (hline:(apos.endLine == cpos.line)=true:=by rfl) (hse:starEach [e] X.env=[(false,eval e X.env)]:=by rfl)
  (hw:swapsWith (.Call (.Attribute (.Name x np) "append" apos) [e] [] cpos) none pos.line X.env=pure false:=by rfl) :
  PSD X (.Expr (.Call (.Attribute (.Name x np) "append" apos) [e] [] cpos) pos) (appD i fe):=by
 intro pins s σ G H δ I R hs;unfold appD at hs ⊢
 split at hs
 ·rename_i ds hδ;obtain ⟨v,hσ,a,xs,rfl,hH,r,hG⟩:=R.at_ i _ hδ;refine wpAny_Expr_any ?_ I.quiet hw;refine wpAny_Call_method_late hbase hfew hline rfl (wpAny_mono (fh' (X:=X.wish fun _ _=>False) hN hv hd hcd (pins ++ allP X H s.heap) s σ H (fun v' H'=>v'=.ref a/\H'=H) (I.all.wish _) ⟨.ref a,hσ,rfl,rfl⟩) (fun u s1 q=>?_) fun _ _ z=>z.elim);obtain ⟨v',H',I1,r1,rfl,rfl⟩:=q;have b0:=I.backTo I1.unwish;have I1':=I1.unwish.unpinned;obtain ⟨h1,h4⟩:=gx' (T:="list") I1' r1 (.inl ⟨rfl,xs,SqL.of hH⟩)
  cases r1
  refine ⟨"list", "list.append",PySem.F.plainAttrs_list,PySem.F.slot_list_append,PySem.F.type_list_append,h1,h4,?_⟩;have hs':fe δ≠.stuck:=is' hs;rw [hse];refine Calls.callWith_builtin (by rfl) (Calls.evalArgs_plain ?_);show wpAny _ _ (spliced ((false,eval e X.env) :: backTo cpos [])) _ _ _;refine Calls.spliced_cons (he.use I1' R hs' (fun d u s2 w H2 q I2 r2 e2 b2 p2=>?_) fun e s1 q=>(q.back (Same.refl _) b0 (r':=fe δ) fun x z=>z).sx R fun x z=>by rw [z]; rfl);refine wpAny_pure ?_;have ev:(onD (fe δ) δ fun d=>if flatDs ds=true/\flatD d=true/\ds.length < sizeLine then Out.nxt (appS i ds d δ) else Out.stuck)=if flatDs ds=true/\flatD d=true/\ds.length < sizeLine then Out.nxt (appS i ds d δ) else Out.stuck:=by rw [q]; rfl
  have hc:flatDs ds=true/\flatD d=true/\ds.length < sizeLine:=by
   by_cases c:flatDs ds=true/\flatD d=true/\ds.length < sizeLine
   ·exact c
   ·rw [ev,if_neg c] at hs; exact (hs rfl).elim
  rw [ev,if_pos hc];have hH2:=e2 a _ hH;refine wpAny_mono (ef' (X:=X.wish fun _ _=>False) pins s2 σ H2 (.ref a) [w] (.ref a) [u] (fun _ H3=>H3=upd H2 a (.lst (xs ++ [w]))) (I2.wish _) rfl (.cons r2 .nil) ⟨a,xs,w,rfl,rfl,hH2,by rw [r.length]; exact hc.2.2,rfl⟩) (fun v s3 q3=>?_) fun _ _ z=>z.elim;obtain ⟨z,H3,I3,r3,rfl⟩:=q3;refine ⟨_,σ,_,rfl,I3.unwish,⟨fun b ys h=>?_,fun b o u h=>?_,fun b h=>?_⟩,(R.mono e2).app hδ hσ hH2 (r.mono e2) hG hc.1 hc.2.1 p2⟩
  ·have hb:b≠a:=fun z=>by subst z; rw [hH] at h; cases h
   rw [ai' hb]; exact e2 b _ h
  ·have hb:b≠a:=fun z=>by subst z; rw [hH] at h; cases h
   rw [ai' hb]; exact e2 b _ h
  ·by_cases hb:b=a
   ·subst hb; rw [aj'] at h; cases h
   ·rw [ai' hb] at h; exact e2.free h
 ·exact (hs rfl).elim
end
end DL
namespace DL
open PySem PySem.Spec PyProof.Rows L2
theorem hg':typeLookup (.type "list_reverseiterator") "__len__" = pure none:=by rw [typeLookup_type,builtinLookup_eq_fast]; kernel_rfl
theorem iC':typeLookup (.type "list_reverseiterator") "__length_hint__" = pure (some (.builtin "list_reverseiterator.__length_hint__")):=by rw [typeLookup_type,builtinLookup_eq_fast]; kernel_rfl
theorem ki':splitId "list_reverseiterator.__length_hint__" = some ("list_reverseiterator", "__length_hint__"):=by decide +kernel
theorem kj':isSubtype (.type "list_reverseiterator") (.type "list_reverseiterator")=pure true:=by rw [isSubtype_type]; kernel_rfl
theorem kk' {M:Model} {A:Around} {Q:Bool->Shared->Prop} {E:Value->Shared->Prop} {s:Shared} {I:Addr} (hT:s.TypeIs (.ref I) "list_reverseiterator") (h:Q false s):wpAny M A (Builtin.List.listLengthHint (.ref I)) Q E s:=by
 unfold Builtin.List.listLengthHint;refine wpAny_bind (wpAny_specialOf hT hg' ?_);show wpAny _ _ (specialOf (Value.ref I) _ >>= _) _ _ _;refine wpAny_bind (wpAny_specialOf hT iC' ?_);simp only [ki'];exact wpAny_bind (wpAny_isInstance (b:=true) hT kj' (wpAny_pure h))
section
variable {prog:Program} {w:World} {A:Around} {E:Value->Shared->Prop} {s:Shared} {I:Addr} {fp wr:List Addr} {G:Array GenState->Array GenState->Prop} {n:Nat} {P:Nat->Value->Prop} {St:Nat->Shared->Prop}
theorem eY' {Q:List Value->Shared->Prop} (W:WalksS prog w A.in1 I fp wr G n P St) (hT:∀i s,St i s->s.TypeIs (.ref I) "list_reverseiterator") (h0:St 0 s) (hlt:∀b∈fp,b < s.heap.objs.size) (hI:I∈fp) (hn:n<=sizeLine)
  (hQ:∀s' acc,Moved wr G s s'->ItemsOf P acc n->Q acc.toList s'):wpAny (model prog w) A (collect (.ref I)) Q E s:=by
 let S:=s.heap.objs.size
 let o0:Obj:={ cls:=.type "list",data:=.seq ([]:List Value).toArray }
 let h1:=s.heap.push o0
 have hS:S∉fp:=fun z=>absurd (hlt S z) (Nat.lt_irrefl _);have hne:S≠I:=fun z=>hS (by rw [z]; exact hI);have st1:St 0 { s with heap:=h1 }:=W.frame 0 s h1 s.toks h0 (Nat.le_refl _) fun b _ o e=>Heap.get?_push_of_some _ e
 have g1:h1.get? S=some o0:=Heap.get?_push_size _ rfl;have same:Builtin.List.listSameRef (.ref S) (.ref I)=false:=by simp [Builtin.List.listSameRef,hne]
 unfold collect;refine wpAny_bind (m:=runValue _) (wpAny_runValue (codeAny_builtin F.entry_proto_collect (Around.under_plainId F.plain_proto_collect _ ▸ ?_)));refine wpAny_bind (m:=newList []) (wpAny_newObj_type (wpAny_pure ⟨plainId_quiet F.plain_list_iadd _,codeAny_builtin F.entry_list_iadd (Around.under_plainId F.plain_list_iadd _ ▸ ?_)⟩));show wpAny _ A.in1 (Builtin.List.listExtendWith (.ref S) (.ref I) (.ref S)) _ _ { s with heap:=h1 }
 unfold Builtin.List.listExtendWith;refine wpAny_bind (wpAny_typeOf (hT 0 _ st1) ?_);simp only [same];refine wpAny_bind (W.self 0 _ _ _ st1 (wpAny_bind (wpAny_holding (kk' (hT 0 _ st1) ?_))));refine wpAny_pure ⟨plainId_quiet F.plain_extend_loop _,codeAny_extend_loopS W hn S hS _ n 0 _ _ _ rfl (Nat.zero_le _) st1 g1 (ItemsOf.nil P) fun s' acc c m g' it=>?_⟩;exact wpAny_bind (m:=load S) (wpAny_load g' (wpAny_pure (hQ s' acc (Moved.drop_new (o:=o0) (tk:=s.toks) m (Nat.le_refl _)) it)))
end
theorem fZ' (x:Str):∀(M:List (Str×Tok)),Builtin.Str.tooLong ((M.map (·.1)).toArray.foldl (· + ·.length + x.length) 0)=false->Gives (joinTail x (strValues M)) (joinMade x M)
 | [],h=>gives_joinTail x [] h
 | [p],h=>gives_joinTail x [p] h
 | p :: q :: r,h=>gives_joinTail x (p :: q :: r) h
theorem iD' {L:List (Str×Tok)} {acc:Array Value} (h:ItemsOf (fun i v=>(strValues L).toArray[(strValues L).toArray.size - 1 - i]? = some v) acc (strValues L).toArray.size):acc.toList=strValues L.reverse:=by
 obtain ⟨h1,h2⟩:=h;have hs:(strValues L).length=L.length:=by unfold strValues; simp
 have hr:strValues L.reverse=(strValues L).reverse:=by unfold strValues; rw [List.map_reverse]
 rw [hr];refine List.ext_getElem? fun i=>?_
 by_cases c:i < acc.size
 ·have q:=h2 i acc[i] (Array.getElem?_eq_getElem c);simp only [List.size_toArray,List.getElem?_toArray] at q h1;rw [List.getElem?_reverse (by omega),q];simp [c]
 ·simp only [List.size_toArray] at h1;rw [List.getElem?_eq_none (by simpa using Nat.le_of_not_lt c),List.getElem?_eq_none (by simp; omega)]
section
variable {prog:Program} {w:World} {A:Around} {E:Value->Shared->Prop} {s:Shared} {x:Str} {t:Tok} {Q:Value->Shared->Prop}
theorem dG' {l I:Addr} {L:List (Str×Tok)} (hh:A.handled=none) (hl:s.heap.IsList l (strValues L).toArray) (hi:s.heap.IsRevIter I l (((strValues L).toArray.size:Int) - 1)) (hne:l≠I) (hz:L.length<=sizeLine) (hok:JoinOk x (L.reverse.map (·.1))=true)
  (hq:∀s' t' k,Moved [I] (fun a b=>b=a) s s'->Q (.str (Txt.join x (L.reverse.map (·.1))) t') { s' with toks:=k }):wpAny (model prog w) A (call (.builtin "str.join") [.str x t,.ref I]) Q E s:=by
 have W:=(Walks.listRev (prog:=prog) (w:=w) (A:=A.in1.in1) hh I l hne (strValues L).toArray).toS;have st0:0<=(strValues L).toArray.size/\s.heap.IsRevIter I l (((strValues L).toArray.size:Int) - 1 - ((0:Nat):Int))/\s.heap.IsList l (strValues L).toArray:=⟨Nat.zero_le _,by simpa using hi,hl⟩;obtain ⟨oI,gI,_⟩:=id hi;obtain ⟨ol,gl,_⟩:=id hl;refine wpAny_call (codeAny_call_builtin F.slot_str_join.plain F.entry_str_join (F.slot_str_join.check _ _ _ _ _ _ _ _ (typeIs_str _ _ _) (F.args_str_join_2 _ _) ?_));rw [join_tree_other];refine wpAny_bind (wpAny_typeOf hi.typeIs ?_);rw [if_neg (by decide)];refine wpAny_bind (wpAny_tryCatch (W.of_in1.self 0 s _ _ st0 (wpAny_bind (eY' W (fun i s st=>st.2.1.typeIs) st0 (fun b hb=>?_) (by simp) (by simpa [strValues] using hz) fun s' acc m it=>?_))))
 ·rcases List.mem_cons.mp hb with rfl | hb
  ·exact Heap.lt_size gI
  ·rw [List.mem_singleton.mp hb]; exact Heap.lt_size gl
 ·rw [iD' it];have ok':=hok;unfold JoinOk at ok';rw [Bool.not_eq_true'] at ok';exact fZ' x L.reverse ok' prog w A (wants Q E) s' (post_join L.reverse ⟨joinFit_length ok',fun t' k=>hq s' t' k m⟩)
end
noncomputable def strsOf:List D->Option (List Str)
 | []=>some []
 | .str x :: ds=>(strsOf ds).map (x :: ·)
 | _=>none
theorem bY':∀{ds:List D} {xs:List Str},strsOf ds=some xs->ds=xs.map .str
 | [],xs,h=>by cases h; rfl
 | .str x :: ds,xs,h=>by
  simp only [strsOf] at h
  cases z:strsOf ds with
  | none=>rw [z] at h; cases h
  | some ys=>rw [z] at h; cases h; rw [bY' z]; rfl
 | .non :: _,_,h=>nomatch h
 | .bl _ :: _,_,h=>nomatch h
 | .int _ :: _,_,h=>nomatch h
 | .tup _ :: _,_,h=>nomatch h
 | .lst _ :: _,_,h=>nomatch h
 | .exc _ :: _,_,h=>nomatch h
 | .excf _ _ _ :: _,_,h=>nomatch h
 | .dct :: _,_,h=>nomatch h
 | .obj _ _ _ :: _,_,h=>nomatch h
theorem ba' {K:PySem.W.Frag} {H:Hp}:∀{xs:List Str} {vs:List V},Reps K H (xs.map .str) vs->vs=xs.map .str
 | [],_,h=>by rw [h.nil_of]; rfl
 | x :: xs,_,h=>by
  obtain ⟨v,vs,rfl,r,q⟩:=h.cons_of;rw [repS r,ba' q]; rfl
theorem cx':∀{xs:List Str} {us:List Value},Vals (xs.map V.str) us->∃L:List (Str×Tok),us=strValues L/\L.map (·.1)=xs
 | [],_,h=>by cases h; exact ⟨[],rfl,rfl⟩
 | x :: xs,_,h=>by
  cases h with
  | cons r q =>
   obtain ⟨t,rfl⟩:=r;obtain ⟨L,rfl,rfl⟩:=cx' q;exact ⟨(x,t) :: L,rfl,rfl⟩
noncomputable def joinRevG (sep:Str):D->Res D
 | .lst ds=>match strsOf ds with
  | some xs=>if JoinOk sep xs.reverse=true/\xs.length<=sizeLine then .ok (.str (Txt.join sep xs.reverse)) else .stuck
  | none=>.stuck
 | _=>.stuck
theorem boot_reversed:bootBuiltins "reversed" = some (.type "reversed"):=by decide +kernel
section
variable {X:Cx} {e:Expr} {fe:DS->Res D} {sep:Str} {p0 apos np rp cpos:Pos}
theorem ga' {j} (hc:X.calm=true) (hg:Gl X "reversed") (hm:X.mg "reversed" = none) (he:PD X e fe)
  (hbase:attributeBase (.Constant (.str sep) j p0) "join" X.env (eval (.Constant (.str sep) j p0) X.env)=eval (.Constant (.str sep) j p0) X.env:=by rfl)
  (hfew:((backTo cpos (starEach [.Call (.Name "reversed" np) [e] [] rp] X.env)).all (fun x=>!x.1) && (backToKw cpos (keywordEach [] X.env)).all (fun x=>x.1.isSome)
   && decide (([.Call (.Name "reversed" np) [e] [] rp]:List Expr).length + ([]:List Keyword).length + (if ([]:List Keyword).isEmpty then 0 else 1) < 30))=true:=by rfl)
  (hline:(apos.endLine == cpos.line)=true:=by rfl) (hse:starEach [.Call (.Name "reversed" np) [e] [] rp] X.env=[(false,eval (.Call (.Name "reversed" np) [e] [] rp) X.env)]:=by rfl)
  (hs1:starEach [e] X.env=[(false,eval e X.env)]:=by rfl) :
  PD X (.Call (.Attribute (.Constant (.str sep) j p0) "join" apos) [.Call (.Name "reversed" np) [e] [] rp] [] cpos) (fun δ=>(fe δ).bind (joinRevG sep)):=by
 intro pins s σ G H δ I R hs;refine wpAny_Call_method_late hbase hfew hline rfl ((am' (X:=X) (x:=sep)).use I R (by intro z; cases z) (fun d0 u0 s1 v0 H1 q0 I1 r1 e1 b1 p1=>?_) fun e s1 q=>q.none.elim)
 cases q0
 rw [repS p1] at r1;obtain ⟨t0,rfl⟩:=r1;refine ⟨"str", "str.join",PySem.F.plainAttrs_str,PySem.F.slot_str_join,PySem.F.type_str_join,typeIs_str _ _ _,(fun a z=>by cases z),?_⟩;rw [hse];refine Calls.callWith_builtin (by rfl) (Calls.evalArgs_plain ?_);show wpAny _ _ (spliced ((false,eval (.Call (.Name "reversed" np) [e] [] rp) X.env) :: backTo cpos [])) _ _ _;refine Calls.spliced_cons ?_;refine wpAny_Call_Name_kw (bR' I1 hg hm boot_reversed ?_ (by decide) (by decide));have hs':(fe δ).bind (joinRevG sep)≠.stuck:=hs;refine PyProof.Rows.callWith_type1 ?_ hs1 (by rfl);rw [hs1];show wpAny _ _ (spliced ((false,eval e X.env) :: backTo rp [])) _ _ _;refine Calls.spliced_cons (he.use I1 (R.mono e1) (az' hs') (fun d u s2 v H2 q I2 r2 e2 b2 p2=>?_) fun e s2 q=>q.back e1 b1 fun x z=>aB' z);refine wpAny_pure ?_;have h2:=aD' hs' q;show wpAny _ _ (call (.type "reversed") [u]) _ _ s2
 cases d with
 | lst ds =>
  have h3:(match strsOf ds with
   | some xs=>if JoinOk sep xs.reverse=true/\xs.length<=sizeLine then Res.ok (D.str (Txt.join sep xs.reverse)) else .stuck
   | none=>.stuck)≠.stuck:=h2
  cases z:strsOf ds with
  | none=>rw [z] at h3; exact (h3 rfl).elim
  | some xs =>
   rw [z] at h3;have hk:JoinOk sep xs.reverse=true/\xs.length<=sizeLine:=by
    by_cases c:JoinOk sep xs.reverse=true/\xs.length<=sizeLine
    ·exact c
    ·simp only [if_neg c] at h3; exact (h3 rfl).elim
   have ev:(fe δ).bind (joinRevG sep)=.ok (.str (Txt.join sep xs.reverse)):=by
    rw [q,Res.bind_ok];show (match strsOf ds with
     | some xs=>if JoinOk sep xs.reverse=true/\xs.length<=sizeLine then Res.ok (D.str (Txt.join sep xs.reverse)) else .stuck
     | none=>.stuck)=_
    rw [z];exact if_pos hk
   obtain ⟨a,vs,rfl,hq,rr⟩:=repL p2
   cases r2
   rw [bY' z] at rr;obtain ⟨its,rv,p,hz⟩:=I2.list hq;rw [ba' rr] at rv;obtain ⟨L,rfl,hL⟩:=cx' rv;have pl:=p.isList;obtain ⟨oa,ga,_⟩:=id pl;refine PySem.call_reversed_list pl ?_;refine wpAny_pure ?_;have I3:Inv X pins σ H2 { s2 with heap:=s2.heap.push (revObj a (((strValues L).toArray.size:Int) - 1)) }:=I2.kept (t':=s2.toks) fun b ob q=>Heap.get?_push_of_some _ q
   have hne:a≠s2.heap.objs.size:=Nat.ne_of_lt (Heap.lt_size ga);obtain ⟨f0,f1,f2,f3,f4,f5⟩:=I2.fpOk (Nat.le_refl s2.heap.objs.size) (I2.hok.fresh (Nat.le_refl _));refine dG' (l:=a) (I:=s2.heap.objs.size) (L:=L) (I.ok.hd hc) (pl.at fun o e=>Heap.get?_push_of_some _ e) ⟨_,Heap.get?_push_size _ rfl,rfl,rfl⟩ hne (by rw [<- hL,List.length_map] at hk; exact hk.2) (by rw [List.map_reverse,hL]; exact hk.1) fun s' t' k m=>?_;rw [List.map_reverse,hL];refine ⟨_,.str _,H2,ev,?_,⟨_,rfl⟩,e1.trans e2,mkS'⟩;obtain ⟨h',g',d',tk',os'⟩:=s';obtain ⟨m1,m2,m3,m4,m5⟩:=m;dsimp only at m1 m2 m3 m4 m5;subst m2 m3 m4;exact I3.turned (t':=k) (fun b o hb e=>m1 b o (by simpa using hb) e) f0 f1 f3 f4 f5
 | _=>exact (h2 rfl).elim
end
noncomputable def closL (cells:List (Str×Addr)):List (Str×NameKind)->List (Str×Addr)->List (Str×Addr)
 | [],acc=>acc
 | y :: r,acc=>if (y.2 == NameKind.free)=true then closL cells r ((y.1,(cells.lookup y.1).getD 0) :: acc) else closL cells r acc
theorem gb' {scope:Scope} {env:Env} (h:∀y∈scope.names,y.2=.free->∃c,env.cells.lookup y.1=some c):closureFor scope env=pure (closL env.cells scope.names []):=by
 unfold closureFor;generalize scope.names=ns at h;show (forIn ns ([]:List (Str×Addr)) _ >>= fun r=>pure r)=_;have key:∀(ns:List (Str×NameKind)) (acc:List (Str×Addr)),(∀y∈ns,y.2=.free->∃c,env.cells.lookup y.1=some c) ->
   (forIn ns acc (fun (x:Str×NameKind) (cs:List (Str×Addr))=>(match x with
    | (name,kind)=>if (kind == NameKind.free)=true then do
      let c <- cellOf env name
      pure (ForInStep.yield ((name,c) :: cs))
     else pure (ForInStep.yield cs):Sem _)))=pure (closL env.cells ns acc):=by
  intro ns
  induction ns with
  | nil=>intro acc _; rfl
  | cons y r ih =>
   intro acc hy;obtain ⟨n,k⟩:=y;rw [List.forIn_cons]
   by_cases c:(k == NameKind.free)=true
   ·obtain ⟨a,ha⟩:=hy (n,k) (by simp) (by simpa using c);have ha':env.cells.lookup n=some a:=ha;simp only [c,if_true,closL,ha',Option.getD_some];have:cellOf env n=pure a:=by unfold cellOf; rw [ha']
    rw [this];exact ih _ fun z hz=>hy z (List.mem_cons_of_mem _ hz)
   ·simp only [c,if_false,closL];exact ih _ fun z hz=>hy z (List.mem_cons_of_mem _ hz)
 exact congrArg (fun z=>z >>= fun r=>pure r) (key ns [] h)
theorem cP' {cells:List (Str×Addr)}:∀(ns:List (Str×NameKind)) (acc:List (Str×Addr)),(∀y∈ns,y.2=.free->∃c,cells.lookup y.1=some c)->(∀x c,acc.lookup x=some c->cells.lookup x=some c) ->
  ∀x c,(closL cells ns acc).lookup x=some c->cells.lookup x=some c
 | [],acc,_,ha,x,c,h=>ha x c h
 | y :: r,acc,hn,ha,x,c,h=>by
  unfold closL at h
  split at h
  ·rename_i q;refine cP' r _ (fun z hz=>hn z (List.mem_cons_of_mem _ hz)) (fun x' c' h'=>?_) x c h;obtain ⟨a,e⟩:=hn y (by simp) (by simpa using q);rw [List.lookup_cons] at h'
   split at h'
   ·rename_i q2;have:x'=y.1:=by simpa using q2
    subst this;rw [e] at h' ⊢;simpa using h'
   ·exact ha x' c' h'
  ·exact cP' r _ (fun z hz=>hn z (List.mem_cons_of_mem _ hz)) ha x c h
theorem bZ' {cells:List (Str×Addr)} {x:Str}:∀(ns:List (Str×NameKind)) (acc:List (Str×Addr)),((x,NameKind.free)∈ns\/∃c,acc.lookup x=some c)->∃c,(closL cells ns acc).lookup x=some c
 | [],acc,h=>by
  rcases h with h | h
  ·cases h
  ·exact h
 | y :: r,acc,h=>by
  unfold closL
  split
  ·rename_i q;refine bZ' r _ ?_;rcases h with h | ⟨c,h⟩
   ·rcases List.mem_cons.mp h with z | z
    ·subst z;exact .inr ⟨(cells.lookup x).getD 0,by rw [List.lookup_cons]; simp⟩
    ·exact .inl z
   ·refine .inr ?_;rw [List.lookup_cons]
    split
    ·exact ⟨_,rfl⟩
    ·exact ⟨c,h⟩
  ·rename_i q;refine bZ' r _ ?_;rcases h with h | h
   ·rcases List.mem_cons.mp h with z | z
    ·subst z; exact (q rfl).elim
    ·exact .inl z
   ·exact .inr h
theorem lookup_map2 {f:Str×NameKind->Str×NameKind} (hf:∀y,(f y).1=y.1) (x:Str):∀(ns:List (Str×NameKind)),(ns.map f).lookup x=(ns.lookup x).map fun k=>(f (x,k)).2
 | []=>rfl
 | y :: r=>by
  obtain ⟨n,k⟩:=y;rw [List.map_cons,show f (n,k)=(n,(f (n,k)).2) from Prod.ext (hf _) rfl,List.lookup_cons,List.lookup_cons,lookup_map2 hf x r]
  by_cases c:x=n
  ·subst c; simp
  ·have:(x == n)=false:=by simpa using c
   simp [this]
theorem bD' {scope:Scope} {env:Env} (x:Str):(relabel scope env).names.lookup x=(scope.names.lookup x).map fun k=>if (k == .free && env.scope.kind == .function && env.kindOf x == some .cell)=true then NameKind.cell else k:=by
 show List.lookup x (List.map _ scope.names)=_;rw [lookup_map2 (fun y=>by obtain ⟨n,k⟩:=y; dsimp only; split <;> rfl)]
 cases scope.names.lookup x with
 | none=>rfl
 | some k =>
  simp only [Option.map_some]
  split <;> rfl
theorem kl' {X:Cx} {m:Nat} {fr:List Nat} {N':List Str} {scope:Scope} {n:Nat} (sc:Scope) (N:List Str) (hsc:X.env.scope=sc) (hcl:X.env.cells=cellsFrom n sc.names []) (hN:X.N=N)
  (hf:∀y∈scope.names,y.2=.free->sc.names.lookup y.1=some .cell) (hc:∀y∈scope.names,y.2≠.cell) (hk:scope.kind=.function) (hks:sc.kind=.function)
  (hn:∀x∈scope.names,x.2=.local->scope.names.lookup x.1=some .local) (hl:N'.length=m + fr.length)
  (hfr:∀j,j < fr.length->∃x,N'[m + j]? = some x/\N[fr.getD j 0]? = some x/\scope.names.lookup x=some .free/\sc.names.lookup x=some .cell):Around' X m fr N' scope (closL X.env.cells scope.names []):=by
 have hs:∀y∈scope.names,y.2=.free->∃c,X.env.cells.lookup y.1=some c:=fun y hy e=>by
  rw [hcl]; exact dx' (hf y hy e)
 have hfree:∀x k,scope.names.lookup x=some k->k≠.cell:=fun x k h=>hc _ (PySem.mem_of_lookup h);refine { clos:=gb' hs,nocell:=hc,kind:=hk,names:=hn,sub:=cP' _ _ hs (fun x c h=>by simp at h),has:=fun x h=>?_,len:=hl,free:=fun j i h=>?_ }
 ·rw [bD'] at h
  cases q:scope.names.lookup x with
  | none=>rw [q] at h; rcases h with h | h <;> cases h
  | some k =>
   rw [q] at h;have:k=.free:=by
    have h2:=hfree x k q
    cases k <;> first | rfl | exact (h2 rfl).elim | (rcases h with h | h <;> simp at h)
   subst this;exact bZ' _ _ (.inl (PySem.mem_of_lookup q))
 ·have hj:j < fr.length:=by
   rcases Nat.lt_or_ge j fr.length with z | z
   ·exact z
   ·rw [List.getElem?_eq_none z] at h; cases h
  obtain ⟨x,e1,e2,e3,e4⟩:=hfr j hj;have hi:fr.getD j 0=i:=by rw [List.getD_eq_getElem?_getD,h]; rfl
  rw [hi] at e2;obtain ⟨c,e5⟩:=bZ' (cells:=X.env.cells) scope.names [] (.inl (PySem.mem_of_lookup e3));refine ⟨x,c,e1,by rw [hN]; exact e2,by rw [hsc]; exact .inr (.inl e4),.inl (by unfold Env.kindOf; rw [hsc]; exact e4),e5,.inl ?_⟩;show (relabel scope X.env).names.lookup x=_;rw [bD',e3];have:X.env.kindOf x=some .cell:=by unfold Env.kindOf; rw [hsc]; exact e4
  simp [this,hsc,hks]
noncomputable def frOk (sc scope:Scope) (N N':List Str) (m:Nat) (fr:List Nat):Bool :=
 scope.names.all (fun y=>decide (y.2≠.cell) && (!(decide (y.2=.free)) || decide (sc.names.lookup y.1=some .cell)) && (!(decide (y.2=.local)) || decide (scope.names.lookup y.1=some .local))) &&
 decide (N'.length=m + fr.length) && (List.range fr.length).all fun j=>match N'[m + j]? with
  | some x=>decide (N[fr.getD j 0]? = some x) && decide (scope.names.lookup x=some .free) && decide (sc.names.lookup x=some .cell)
  | none=>false
theorem hh' {X:Cx} {m:Nat} {fr:List Nat} {N':List Str} {scope:Scope} {n:Nat} (sc:Scope) (N:List Str) (hsc:X.env.scope=sc) (hcl:X.env.cells=cellsFrom n sc.names []) (hN:X.N=N) (hk:scope.kind=.function) (hks:sc.kind=.function)
  (h:frOk sc scope N N' m fr=true):Around' X m fr N' scope (closL X.env.cells scope.names []):=by
 unfold frOk at h;simp only [Bool.and_eq_true,List.all_eq_true,decide_eq_true_eq] at h;obtain ⟨⟨h1,h2⟩,h3⟩:=h;refine kl' sc N hsc hcl hN (fun y hy e=>?_) (fun y hy=>(h1 y hy).1.1) hk hks (fun y hy e=>?_) h2 fun j hj=>?_
 ·have:=(h1 y hy).1.2;simpa [e] using this
 ·have:=(h1 y hy).2;simpa [e] using this
 ·have:=h3 j (by simpa using hj)
  split at this
  ·rename_i x q;simp only [Bool.and_eq_true,decide_eq_true_eq] at this;exact ⟨x,q,this.1.1,this.1.2,this.2⟩
  ·cases this
theorem ez' {K:PySem.W.Frag} {H:Hp} {lo:Int} {n:Nat}:Yields K (Itr lo n) H (rangeD lo n):=by
 intro H' e;refine ⟨fun i d hd=>?_,by rw [bV']; exact Nat.le_refl _⟩;have hi:i < n:=by
  rcases Nat.lt_or_ge i (rangeD lo n).length with z | z
  ·rwa [bV'] at z
  ·rw [List.getElem?_eq_none z] at hd; cases hd
 refine ⟨hi,fun x H'' y=>?_⟩;obtain ⟨rfl,rfl⟩:=y;have e1:(rangeD lo n)[i]? = some (.int (lo + i)):=by
  have:=eS' lo n i hi;have h2:((rangeD lo n).drop i)[0]? = some (.int (lo + i)):=by rw [this]; rfl
  simpa using h2
 rw [e1] at hd
 cases hd
 exact ⟨Same.refl _,mkI⟩
theorem iE' {X:Cx} {tg:Expr} {pins:List (Addr×Obj)} {σ:St} {H H1:Hp} {lo:Int} {n:Nat} {r:Res (List D)} (e:Same H H1) (hr:r=.ok (rangeD lo n)) {itv:Value} {s2:Shared} (p:PIE X pins σ tg (fun J H'=>J=Itr lo n/\H'=H1) itv s2):IPost X pins σ H tg r itv s2:=by
 obtain ⟨it,fp,tn,J,H',q1,q2,q3,q4,q5,rfl,rfl⟩:=p;exact ⟨_,it,fp,tn,_,_,hr,q1,q2,q3,q4,q5,e,ez'⟩
theorem gc' {X:Cx} {tg a:Expr} {fa:DS->Res (List D)} {p pos:Pos} (hg:Gl X "range") (hm:X.mg "range" = none) (ha:PAD X [a] fa) (hs:starEach [a] X.env=[(false,eval a X.env)]:=by rfl) :
  PID X tg (.Call (.Name "range" p) [a] [] pos) (fun δ=>(fa δ).bind rng1):=by
 intro pins s σ G H δ I R hn
 try dsimp only at hn ⊢
 refine Call_ (bR' I hg hm boot_range (PyProof.Rows.callWith_type1 (ha.use I R (az' hn) (fun ds us s1 vs H1 q I1 r1 e1 b1 p1=>?_) fun e s1 q=>q.same fun x z=>aB' z) hs rfl));have h2:=aD' hn q;unfold rng1 at h2
 split at h2
 ·rename_i j;obtain ⟨v,ws,rfl,w1,w2⟩:=p1.cons_of
  cases w2.nil_of
  cases repI w1
  split at h2
  ·rename_i hj
   cases r1 with
   | cons r rr =>
    cases rr
    obtain ⟨t,rfl⟩:=r;refine call_range_1 ?_;refine wpAny_mono (if' (R:=fun J H'=>J=Itr 0 j.toNat/\H'=H1) I1 (by omega) (by omega) hj.1 hj.2 ⟨by simp,rfl⟩) (fun itv s2 z=>iE' e1 (by rw [q,Res.bind_ok]; unfold rng1; simp only [hj,and_self,if_true]) z) fun _ _ z=>z
  ·exact (h2 rfl).elim
 ·exact (h2 rfl).elim
noncomputable def bindRg (f:DS->Res (List D)) (g:List D->Res (List D)):DS->Res (List D):=fun δ=>(f δ).bind g
section
variable {prog:Program} {w:World} {A:Around} {E:Value->Shared->Prop} {s:Shared}
structure ZipT (h:Heap) (z TI TO i1 i2 t1 t2:Addr) (f0:Value) (i:Nat):Prop where
 zip:IsZip h z TI TO f0
 ti:IsPair h TI (.ref i1) (.ref i2)
 to:∃a b,IsPair h TO a b
 j1:h.IsTupleIter i1 t1 i
 j2:h.IsTupleIter i2 t2 i
end
section
variable {prog:Program} {w:World} {A:Around} {E:Value->Shared->Prop} {s:Shared}
end
theorem _root_.L2.Inv.butL {X:Cx} {pins:List (Addr×Obj)} {σ:St} {H:Hp} {s:Shared} {fp:List Addr} {h':Heap} {t':Nat} (J:Inv X pins σ H s) (hf:∀b∈fp,FpOk X pins H b) (hk:∀b o,b∉fp->s.heap.get? b=some o->h'.get? b=some o) :
  Inv X pins σ H { s with heap:=h',toks:=t' }:=by
 have nC:∀b,H b≠none->b∉fp:=fun b hb z=>hb (hf b z).1;refine J.call' (ch:=fp) (s':={ s with heap:=h',toks:=t' }) rfl
   ⟨fun b o e n hb hx=>hk b o hx e,fun b o e n hb hx=>⟨o.slots,hk b o hx e⟩,fun b o e n _=>n,fun b o e hx=>⟨o,hk b o hx e⟩,fun b xs e=>e,fun b o u e=>e,fun b ps e=>⟨#[],by simpa using e⟩⟩
   (fun b u q=>(J.hok b u q).stay (fun c v hc e=>hk c v (by
    rcases hc with rfl | hc
    ·exact nC c (by rw [q]; intro z; cases z)
    ·exact nC c (by rw [hc]; intro z; cases z)) e) (fun _ z=>z) fun _ _ z=>z) J.bare
   fun b hb=>by
    obtain ⟨f0,f1,f2,f3,f4,f5⟩:=hf b hb;exact ⟨f3,f1,f4,f5⟩
theorem hi' {m i j:Nat} (h:i < m) (h':j < m):KeepsT m (tupTgt [i,j]):=by
 intro d δ δ1 e
 cases d with
 | tup ds =>
  match ds,e with
  | [x,y],e =>
   simp only [tupTgt,namesD,Option.some.injEq] at e;subst e;exact ⟨by simp,fun k hk=>by rw [List.getElem?_set_ne (by omega),List.getElem?_set_ne (by omega)]⟩
  | [],e=>simp [tupTgt,namesD] at e
  | [x],e=>simp [tupTgt,namesD] at e
  | _ :: _ :: _ :: _,e=>simp [tupTgt,namesD] at e
 | _=>simp [tupTgt] at e
section
variable {X:Cx} {e:Expr} {fe:DS->Res D} {pos:Pos} {op:Operator} {g:D->D->Res D}
end
theorem ck':fillsNumberSlot (.type "tuple") "mul" = pure false:=by first | exact noFill_tuple_mul | (unfold fillsNumberSlot; kernel_rfl)
theorem dH':seqRepeat? (.type "tuple")=pure (some (.builtin "tuple.__mul__")):=by first | exact repeat_tuple | (unfold seqRepeat?; kernel_rfl)
section
variable {prog:Program} {w:World} {A:Around} {E:Value->Shared->Prop} {s:Shared}
theorem iF' {t:Addr} {items:Array Value} {k:Int} {tok:Tok} {Q:Value->Shared->Prop} (ht:IsTup s.heap t items) (h:Q .notImplemented s):wpAny (model prog w) A (call (.builtin "int.__rmul__") [.int k tok,.ref t]) Q E s:=by
 obtain ⟨o,g,hc,n,hd⟩:=id ht;refine wpAny_call (codeAny_call_builtin F.slot_int_rmul.plain F.entry_int_rmul (F.slot_int_rmul.check _ _ _ _ _ _ _ _ (typeIs_int s k tok) (F.args_int_rmul_2 _ _) ?_));refine wpAny_bind (m:=slotArgs _ _ _) (wpAny_pure ?_);refine wpAny_bind (m:=Builtin.Int.intOfSelf _) (wpAny_bind (m:=asInt? _) (wpAny_pure (wpAny_pure ?_)));refine wpAny_bind (m:=asInt? _) (wpAny_bind (m:=load _) (wpAny_load g ?_));simp only [hd];refine wpAny_pure ?_;exact wpAny_bind (wpAny_rule (wpAny_pure h))
theorem km' {t:Addr} {items:Array Value} {k:Nat} {tok:Tok} {Q:Value->Shared->Prop} (ht:IsTup s.heap t items) (hne:items.isEmpty=false) (hk:items.size * k<=1000) (h1:k=1->Q (.ref t) s)
  (h2:k≠1->Q (.ref s.heap.objs.size) { s with heap:=s.heap.push { cls:=.type "tuple",data:=.seq (List.replicate k items.toList).flatten.toArray } }):wpAny (model prog w) A (call (.builtin "tuple.__mul__") [.ref t,.int k tok]) Q E s:=by
 refine wpAny_call (codeAny_call_builtin F.slot_tuple_mul.plain F.entry_tuple_mul (F.slot_tuple_mul.check _ _ _ _ _ _ _ _ ht.typeIs (F.args_tuple_mul_2 _ _) ?_));refine wpAny_bind (m:=asIndex _) (wpAny_bind (m:=asInt? _) (wpAny_pure (wpAny_pure ?_)));have p1:1<=items.size:=by
  rcases Nat.eq_zero_or_pos items.size with z | z
  ·rw [Array.isEmpty_eq_false_iff,<- Array.size_pos_iff] at hne; omega
  ·exact z
 have kk:k<=1000:=Nat.le_trans (Nat.le_mul_of_pos_left k p1) hk;have hfit:(decide ((k:Int) < -2 ^ 63) || decide ((k:Int)>=2 ^ 63))=false:=by
  rw [Bool.or_eq_false_iff];exact ⟨decide_eq_false (by omega),decide_eq_false (by omega)⟩
 dsimp only;rw [hfit,if_neg Bool.false_ne_true];refine wpAny_bind (tupleItemsOf_ ht ?_)
 by_cases c:k=1
 ·have hc:(items.isEmpty || ((k:Nat):Int) == 1)=true:=by rw [c]; simp
  rw [if_pos hc];refine wpAny_bind (m:=Builtin.Tuple.tupleIsExact _) (wpAny_bind (wpAny_typeOf ht.typeIs (wpAny_pure ?_)));rw [if_pos (by decide)];exact wpAny_bind (wpAny_rule (wpAny_pure (h1 c)))
 ·have hc:¬((items.isEmpty || ((k:Nat):Int) == 1)=true):=by
   rw [hne]; simp; omega
  rw [if_neg hc];have q:=h2 c
  by_cases z:k=0
  ·have hz:(decide (((k:Nat):Int)<=0) || items.isEmpty)=true:=by rw [z]; simp
   rw [if_pos hz];rw [z] at q;exact wpAny_bind (m:=Builtin.Tuple.tupleExact _) (wpAny_newObj_type (wpAny_pure q) (show 0<=sizeLine from Nat.zero_le _))
  ·have hz:¬((decide (((k:Nat):Int)<=0) || items.isEmpty)=true):=by
    rw [hne]; simp; omega
   rw [if_neg hz];have e0:((items.size:Int) * (k:Int))=((items.size * k:Nat):Int):=by simp
   have hs:(1000:Nat)<=sizeLine:=by decide
   have hm:¬((items.size:Int) * (k:Int) > (2 ^ 63 - 1) / 8):=by
    rw [e0];have:((2:Int) ^ 63 - 1) / 8=1152921504606846975:=by decide
    omega
   rw [if_neg hm];have ht2:¬(Builtin.Tuple.tupleTooMany ((items.size:Int) * (k:Int))=true):=by
    unfold Builtin.Tuple.tupleTooMany;rw [e0]; simp only [decide_eq_true_eq]; omega
   rw [if_neg ht2];have hf:List.foldl (fun x1 x2=>x1 ++ x2) #[] (List.replicate ((k:Nat):Int).toNat items)=(List.replicate k items.toList).flatten.toArray:=by
    have:=foldl_rep items.toList k [];rw [List.nil_append] at this;rw [Int.toNat_natCast];simpa using this
   rw [hf];exact wpAny_bind (m:=Builtin.Tuple.tupleExact _) (wpAny_newObj_type (wpAny_pure q) (by show _<=sizeLine; rw [List.size_toArray,len_rep,Array.length_toList,Nat.mul_comm]; omega))
end
noncomputable def rRepT (K:PySem.W.Frag):R2:=fun x y H Q=>∃a k xs,x=.ref a/\y=.int ((k:Nat):Int)/\SqT K H a xs/\xs≠[]/\xs.length * k<=1000/\(k=1->Q (.ref a) H)/\(k≠1->∀p,H p=none->Q (.ref p) (upd H p (.tup (List.replicate k xs).flatten)))
theorem kn' {X:Cx}:OpR X (binaryOp .Mult) (rRepT X.K):=by
 intro pins s σ H x y v u Q I rx ry h;obtain ⟨a,k,xs,rfl,rfl,hq,hne,hz,q1,q2⟩:=h
 cases rx
 obtain ⟨t,rfl⟩:=ry;obtain ⟨its,r,ht,hzz⟩:=I.tuple hq;have hl:=r.length;refine wpAny_binaryOp_repeat_ref (T:="tuple") (U:="int") (by decide) ht.typeIs (fun s'=>typeIs_int s' k t) ck' F.fills_int_mul F.slot_int_rmul dH' F.slot_int_index.lookup
  (iF' ht ⟨rfl,ht.typeIs,?_⟩)
 refine km' ht ?_ (by rw [List.size_toArray,<- hl]; exact hz) (fun e=>⟨.ref a,H,I,rfl,q1 e⟩) fun e=>?_
 ·cases its with
  | nil=>exact (hne (List.eq_nil_of_length_eq_zero hl)).elim
  | cons b l=>simp
 ·have hb:(List.replicate k xs).flatten.length<=sizeLine:=by
   rw [len_rep,Nat.mul_comm]; exact Nat.le_trans hz (by decide)
  exact ⟨.ref s.heap.objs.size,_,I.laid (t':=s.toks) (o:=.tup (List.replicate k xs).flatten) (fun b ob q=>Heap.get?_push_of_some _ q) (Nat.le_refl _) ⟨hb,_,r.rep k,IsTup.new _ _⟩,rfl,q2 e _ (I.hok.fresh (Nat.le_refl _))⟩
theorem Reps.rep {K:PySem.W.Frag} {H:Hp} {ds:List D} {vs:List V} (h:Reps K H ds vs):∀k:Nat,Reps K H (List.replicate k ds).flatten (List.replicate k vs).flatten
 | 0=>Reps.nil
 | k + 1=>by
  rw [List.replicate_succ,List.replicate_succ,List.flatten_cons,List.flatten_cons];exact h.append (Reps.rep h k)
noncomputable def repD (ds:List D) (k:Int):Res D:=if ds.isEmpty=false/\0<=k/\ds.length * k.toNat<=1000 then .ok (.tup (List.replicate k.toNat ds).flatten) else .stuck
noncomputable def mulE:D->D->Res D
 | .tup ds,.int k=>repD ds k
 | a,b=>mulD a b
theorem dI' (x y:D):NoErr (mulE x y):=by
 unfold mulE
 split
 ·unfold repD; exact au' ah' ad'
 ·exact lw' _ _
theorem iG' {X:Cx} (E:Value->Shared->Prop):OpR (X.wish E) (binaryOp .Mult) (rRepT X.K):=kn'
theorem dJ' {X:Cx}:OpD X (binaryOp .Mult) mulE:=by
 intro E pins s σ H x y v u a b d I r1 r2 p1 p2 e;unfold mulE at e
 split at e
 ·rename_i ds k;unfold repD at e
  split at e
  ·rename_i c
   cases e
   obtain ⟨p,us,rfl,s1,t1⟩:=repT p1;have hy:=repI p2;subst hy;have hk:((k.toNat:Nat):Int)=k:=by omega
   refine thn (iG' E pins s σ H (.ref p) (.int k) v u (fun z H'=>Same H H'/\Rep X.K H' (.tup (List.replicate k.toNat ds).flatten) z) (I.wish _) r1 r2 ⟨p,k.toNat,us,rfl,by rw [hk],s1,?_,by rw [t1.length]; exact c.2.2,fun e1=>⟨Same.refl H,?_⟩,fun _ z hz=>⟨ap' hz _,mkT (SqT.of aj') ((t1.rep _).mono (ap' hz _))⟩⟩) fun w s2 ⟨z,H1,I1,r3,e1,p3⟩=>⟨_,z,H1,rfl,I1.unwish,r3,e1,p3⟩
   ·intro z; rw [z] at t1; have:=t1.isEmpty; rw [c.1] at this; cases this
   ·rw [e1,List.replicate_one,List.flatten_cons,List.flatten_nil,List.append_nil]; exact mkT s1 t1
  ·cases e
 ·exact lx' E pins s σ H x y v u a b d I r1 r2 p1 p2 e
noncomputable def intsOf:List D->Option (List Int)
 | []=>some []
 | .int i :: ds=>(intsOf ds).map (i :: ·)
 | _=>none
theorem ca':∀{ds:List D} {ns:List Int},intsOf ds=some ns->ds=ns.map .int
 | [],ns,h=>by cases h; rfl
 | d :: ds,ns,h=>by
  cases d <;> first | (simp [intsOf] at h; done) | skip
  rename_i i;simp only [intsOf] at h
  cases q:intsOf ds with
  | none=>rw [q] at h; cases h
  | some ms=>rw [q] at h; cases h; rw [ca' q]; rfl
theorem ft' {K:PySem.W.Frag} {H:Hp} {ns:List Int} {xs:List V} {its:List Value} (r:Reps K H (ns.map .int) xs) (rv:Vals xs its) {i:Nat} {v:Value} (h:its[i]? = some v):∃t,v=.int (ns.getD i 0) t:=by
 have hl:i < xs.length:=by rw [rv.length]; exact (List.getElem?_eq_some_iff.mp h).1
 obtain ⟨d,e1,e2⟩:=r.get' (i:=i) (v:=xs[i]) (by simp [hl]);obtain ⟨u,e4,e5⟩:=rv.get (i:=i) (x:=xs[i]) (by simp [hl]);rw [h] at e4; cases e4;rw [List.getElem?_map] at e1
 cases q:ns[i]? with
 | none=>rw [q] at e1; cases e1
 | some n =>
  rw [q] at e1
  cases e1
  rw [repI e2] at e5;obtain ⟨t,rfl⟩:=e5;exact ⟨t,by rw [List.getD_eq_getElem?_getD,q]; rfl⟩
theorem hj' {X:Cx} {x:Str} {pos:Pos} {v:Int} (hg:Gl X x) (hm:∃t:Tok,X.mg x=some (.int v t)) (hdb:(x == ("__debug__" : Str))=false:=by decide):PD X (.Name x pos) (fun _=>.ok (.int v)):=by
 obtain ⟨t,h⟩:=hm;exact eP' (v:=.int v) hg h ⟨t,rfl⟩ (fun _=>mkI) hdb
theorem hr' {X:Cx} {x:Str} {pos:Pos} {v:Str} (hg:Gl X x) (hm:∃t:Tok,X.mg x=some (.str v t)) (hdb:(x == ("__debug__" : Str))=false:=by decide):PD X (.Name x pos) (fun _=>.ok (.str v)):=by
 obtain ⟨t,h⟩:=hm;exact eP' (v:=.str v) hg h ⟨t,rfl⟩ (fun _=>mkS) hdb
noncomputable def minG:List D->Res D
 | [.int i,.int j]=>.ok (.int (if j < i then j else i))
 | _=>.stuck
theorem lD' (ds:List D):NoErr (minG ds):=by
 unfold minG; split
 ·exact ah'
 ·exact ad'
section
variable {X:Cx}
theorem lE' (hc:X.calm=true):CallD X (.builtin "min") minG:=.of (fun E=>gr' (X:=X.wish E) hc) fun H xs ds d Q r e q=>by
 unfold minG at e
 split at e
 ·cases e
  obtain ⟨v,vs,rfl,p1,t⟩:=r.cons_of;obtain ⟨v2,vs2,rfl,p2,t2⟩:=t.cons_of
  cases t2.nil_of
  exact ⟨_,_,by rw [repI p1,repI p2],q _ H (Same.refl H) mkI⟩
 ·cases e
end
structure FunV (K:PySem.W.Frag) (x qual:Str) (st:Stmt) (f:Addr) (fd:FuncData):Prop where
 ex:∃(oc:Value) (od:Option Addr) (dV kV doc pm:Value) (an:Option Addr) (cdv ct:Value) (osl:Array (Option Value)),
  fd=PySem.W.fnOf x qual (defArgs st) (defBody st) (defScope st) dV kV doc pm an cdv ct/\K.lookup f=some ⟨oc,od,.func fd,osl⟩/\PySem.W.codeIn K cdv qual=true
 kp:PySem.W.keepIn K (.ref f)=true
section
variable {P:Program} {w:World} {K:PySem.W.Frag} {mg:Str->Option Value} {base:Heap}
theorem FunV.binds {x qual:Str} {st:Stmt} {f:Addr} {fd:FuncData} {ps:List Str} (F:FunV K x qual st f fd)
  (h:∀(dV kV doc pm:Value) (an:Option Addr) (cdv ct:Value) (us:List Value),us.length=ps.length->bindArgs (PySem.W.fnOf x qual (defArgs st) (defBody st) (defScope st) dV kV doc pm an cdv ct) ⟨us,[]⟩=pure (ps.zip us)):Binds K fd ps []:=by
 obtain ⟨oc,od,dV,kV,doc,pm,an,cdv,ct,osl,rfl,lk,hcd⟩:=F.ex;exact .all (h dV kV doc pm an cdv ct)
end
noncomputable def Ite (K:PySem.W.Frag) (l:Addr):It :=
  ⟨fun i H=>∃xs v,SqL K H l xs/\xs[i]? = some v,
   fun i H x H'=>∃T,H T=none/\x=.ref T/\∃v,(∀xs,SqL K H l xs->xs[i]? = some v)/\H'=upd H T (.tup [.int (i:Int),v]),
   fun i H=>∃xs,SqL K H l xs/\xs.length<=i⟩
theorem ht' {P:Program} {w:World} {K:PySem.W.Frag} {elts:List Expr} {x1:Nat} {pos:Pos} {e it l:Addr} (hei:e≠it) :
  Turn P w K (.Tuple elts x1 pos) (Ite K l) [e,it] e (fun i h=>(∃old,IsEnum h e it ((i:Nat):Int) old)/\h.IsListIter it l i) where
 mem:=by simp
 obj:=fun i h st b hb=>by
  obtain ⟨⟨old,g1⟩,⟨o,g2,_,d2⟩⟩:=st;simp only [List.mem_cons,List.not_mem_nil,or_false] at hb;rcases hb with rfl | rfl
  ·exact ⟨_,g1,fun v q=>by cases q⟩
  ·exact ⟨_,g2,fun v q=>by rw [d2] at q; cases q⟩
 keep:=fun i h h' st k=>by
  obtain ⟨⟨old,g1⟩,⟨o,g2,r2⟩⟩:=st;exact ⟨⟨old,k e (by simp) _ g1⟩,⟨o,k it (by simp) _ g2,r2⟩⟩
 item:=by
  intro X hP hw hK hc i pins s σ H E I hf st hg;subst hP hw hK;obtain ⟨xs,v,hq,hx⟩:=hg;obtain ⟨its,rv,p,hz⟩:=I.list hq;obtain ⟨u,hu,ru⟩:=rv.get hx;obtain ⟨⟨old,g1⟩,g2⟩:=st;refine wpAny_pyNext_enum_item g1 g2 p.isList (x:=u) (by simpa using hu) hei fun h' eo it' gT sz kk=>?_;refine ⟨_,rfl,wpAny_letOwnedTupleGo_enum eo fun h'' ge'' sb=>?_⟩;have fT:FpOk X pins H s.heap.objs.size:=I.fpOk (Nat.le_refl _) (I.hok.fresh (Nat.le_refl _));have el:e < s.heap.objs.size:=Heap.lt_size g1;obtain ⟨oi,gi,ri⟩:=id g2;have il:it < s.heap.objs.size:=Heap.lt_size gi;have ze:s.heap.objs.size≠e:=Nat.ne_of_gt el;have kk2:∀b o,b∉[e,it]->s.heap.get? b=some o->h''.get? b=some o:=fun b o n q=>by
   simp only [List.mem_cons,List.not_mem_nil,or_false,not_or] at n;exact (sb.2 b n.1).trans (kk b o n.1 n.2 q)
  have I1:Inv X pins σ H { s with heap:=h'',toks:=s.toks + 1 }:=I.butL (t':=s.toks + 1) hf kk2
  have gT2:h''.get? s.heap.objs.size=some { cls:=Value.type "tuple",data:=Data.seq #[.int i s.toks,u] }:=(sb.2 _ ze).trans gT;obtain ⟨f0,f1,f2,f3,f4,f5⟩:=fT;have I2:Inv X pins σ (upd H s.heap.objs.size (.tup [.int (i:Int),v])) { s with heap:=h'',toks:=s.toks + 1 }:=I1.track f0 (fun ob q _=>absurd (Nat.lt_of_lt_of_le (Heap.lt_size q) I.sz) (Nat.lt_irrefl _)) f1 f4 f5
   ⟨show 2<=sizeLine by decide,[.int i s.toks,u],.cons ⟨_,rfl⟩ (.cons ru .nil),⟨_,gT2,rfl,_,rfl⟩⟩
  refine ⟨.ref s.heap.objs.size,_,I2,rfl,⟨_,f0,rfl,v,fun xs' h=>by rw [I.list_inj h hq]; exact hx,rfl⟩,⟨⟨u,?_⟩,?_⟩,fun b hb=>?_⟩
  ·have:(((i + 1:Nat)):Int)=(i:Int) + 1:=by omega
   rw [this]; exact ge''
  ·obtain ⟨o',g',r'⟩:=it';exact ⟨o',(sb.2 _ (Ne.symm hei)).trans g',r'⟩
  ·have hb2:b≠s.heap.objs.size:=fun q=>by
    simp only [List.mem_cons,List.not_mem_nil,or_false] at hb;rcases hb with rfl | rfl
    ·rw [q] at el; exact Nat.lt_irrefl _ el
    ·rw [q] at il; exact Nat.lt_irrefl _ il
   rw [ai' hb2]; exact (hf b hb).1
 done:=by
  intro X hP hw hK hc i pins s σ H E I hf st hg;subst hP hw hK;obtain ⟨xs,hq,hx⟩:=hg;obtain ⟨its,rv,p,hz⟩:=I.list hq;have l1:=rv.length;obtain ⟨⟨old,g1⟩,g2⟩:=st;refine wpAny_pyNext_enum_end (I.ok.hd hc) g1 g2 p.isList (by simp; omega) fun h' kk=>⟨rfl,I.butL (t':=s.toks) hf fun b o n q=>kk b o (fun z=>n (by simp [z])) q⟩
 self:=fun _ _ _ _ _ st h=>by
  obtain ⟨⟨old,g1⟩,_⟩:=st;exact wpAny_pyIter_enum g1 h
noncomputable def enumD (xs:List D):List D:=xs.zipIdx.map fun p=>D.tup [.int ((p.2:Nat):Int),p.1]
theorem hu' (xs:List D) (i:Nat):(enumD xs)[i]? = xs[i]?.map fun x=>D.tup [.int ((i:Nat):Int),x]:=by
 unfold enumD;rw [List.getElem?_map,List.getElem?_zipIdx]
 cases xs[i]? <;> simp
noncomputable def enumG:List D->Res (List D)
 | [.lst xs]=>.ok (enumD xs)
 | _=>.stuck
theorem eZ' {K:PySem.W.Frag} {H:Hp} {l:Addr} {xs:List V} {ds:List D} (h1:SqL K H l xs) (r1:Reps K H ds xs):Yields K (Ite K l) H (enumD ds):=by
 intro H' e;have q1:=e.seq h1;have p1:=r1.mono e;refine ⟨fun i d hd=>?_,xs,q1,?_⟩
 ·rw [hu'] at hd
  cases z1:ds[i]? with
  | none=>rw [z1] at hd; simp at hd
  | some x =>
   rw [z1] at hd;simp only [Option.map_some,Option.some.injEq] at hd;subst hd;obtain ⟨v,e1,s1⟩:=p1.get z1;refine ⟨⟨xs,v,q1,e1⟩,fun a H'' yl=>?_⟩;obtain ⟨T,hT,rfl,v',k1,rfl⟩:=yl;have w1:=k1 xs q1;rw [e1] at w1
   cases w1
   have sm:=ap' hT (.tup [.int (i:Int),v]);exact ⟨sm,mkT (SqT.of aj') (.cons mkI (.cons (s1.mono sm) .nil))⟩
 ·unfold enumD;rw [List.length_map,List.length_zipIdx,r1.length];exact Nat.le_refl _
theorem iH' {X:Cx} {a:Expr} {fa:DS->Res (List D)} {p pos tp:Pos} {elts:List Expr} {x1:Nat} (hg:Gl X "enumerate") (hm:X.mg "enumerate" = none) (ha:PAD X [a] fa) (hs:starEach [a] X.env=[(false,eval a X.env)]:=by rfl) :
  PID X (.Tuple elts x1 tp) (.Call (.Name "enumerate" p) [a] [] pos) (fun δ=>(fa δ).bind enumG):=by
 intro pins s σ G H δ I R hn
 try dsimp only at hn ⊢
 refine Call_ (bR' I hg hm boot_enumerate (PyProof.Rows.callWith_type1 (ha.use I R (az' hn) (fun ds us s1 vs H1 q I1 r1 e1 b1 p1=>?_) fun e s1 q=>q.same fun x z=>aB' z) (by rw [hs]; rfl) rfl));have h2:=aD' hn q;unfold enumG at h2
 split at h2
 ·rename_i ds1;obtain ⟨v,ws,rfl,w1,w2⟩:=p1.cons_of
  cases w2.nil_of
  obtain ⟨t1,xs,rfl,s1',t1'⟩:=repL w1
  cases r1 with
  | cons ra rr =>
   cases rr
   cases ra
   obtain ⟨its1,rv1,pp1,hz1⟩:=I1.list s1';refine call_enumerate_list pp1.isList fun h' Z Zi sz kk=>?_;have I2:Inv X pins σ H1 { s1 with heap:=h' }:=I1.kept (t':=s1.toks) kk
   refine wpAny_pyIter_enum Z ?_;refine ⟨_,s1.heap.objs.size + 1,[s1.heap.objs.size + 1,s1.heap.objs.size],_,_,H1,by rw [q]; rfl,rfl,I2,ht' (Nat.succ_ne_self _),⟨⟨.none,Z⟩,Zi⟩,fun b hb=>?_,e1,eZ' s1' t1'⟩;have ge:s1.heap.objs.size<=b:=by
    simp only [List.mem_cons,List.not_mem_nil,or_false] at hb;rcases hb with rfl | rfl
    ·exact Nat.le_succ _
    ·exact Nat.le_refl _
   exact I1.fpOk ge (I1.hok.fresh ge)
 ·exact (h2 rfl).elim
noncomputable def ownC (i:Nat) (f:DS->Res D):DS->Out:=fun δ=>match f δ with
 | .ok (.lst ds)=>.nxt (δ.set i (some (.own ds)))
 | .ok _=>.stuck
 | .err x=>.err x δ
 | .stuck=>.stuck
section
variable {X:Cx} {m:Nat} {fr:List Nat} {N':List Str} {scope:Scope} {cl:List (Str×Addr)} {tg iter elt:Expr} {pos:Pos} {t:TGD} {fe:DS->Res D} {fi:DS->Res (List D)}
theorem fa' (i:Nat) {y:Str} {py spos:Pos} (W:Around' X m fr N' scope cl) (hcalm:X.calm=true) (hkt:KeepsT m t) (hi:PID X tg iter fi) (ht:∀C s H fp,PGD (compX X N' scope cl C s H fp) tg t) (he:∀C s H fp,PD (compX X N' scope cl C s H fp) elt fe)
  (hN:X.N.Nodup) (hsw:swapsWith (.ListComp elt [⟨tg,iter,[],0⟩] scope pos) (some (.Name y py)) spos.line X.env=pure true:=by rfl) (hy:X.N[i]? = some y:=by rfl) (hx:Loc X.env.scope y:=by first | exact Or.inl rfl | exact Or.inr rfl)
  (hfn:X.fn y=true\/X.env.scope.names.lookup y=some .local:=by first | exact .inl rfl | exact .inr rfl | assumption) (hf:∀x,foldedSetIterable iter X.env x=pure x:=by intro _; rfl) :
  PSD X (.Assign [.Name y py] (.ListComp elt [⟨tg,iter,[],0⟩] scope pos) spos) (ownC i (compD m fr t fe fi)):=by
 intro pins s σ G H δ I R hs;have hs':compD m fr t fe fi δ≠.stuck:=fun z=>hs (by unfold ownC; rw [z]);rw [exec_Assign_Name_used _ _ _ _ hsw];refine wpAny_bind (wpAny_standAt (wpAny_bind ?_));show wpAny _ X.A (do let _ <- comprehension (.ListComp elt [⟨tg,iter,[],0⟩] scope pos) scope X.env _ (newList []) false (eval iter X.env) (some (assign (.Name y py) X.env))) _ _ s
 refine wpAny_bind (wpAny_mono (wpAny_comprehension_free (use:=some (assign (.Name y py) X.env)) (Q:=fun _ s'=>SPost X pins G H (ownC i (compD m fr t fe fi) δ) .next s') rfl hf W.clos W.kind W.names
  (dD' W hcalm hkt hi ht he I R hs' (fun e s1 q=>q.sx R fun x z=>by unfold ownC; rw [z]) (RR:=fun acc C=>compPost _ _ _ (some (assign (.Name y py) X.env)) _ acc C) ?_)) (fun _ s' hq=>wpAny_pure (wpAny_pure hq)) fun _ _ e=>e)
 intro a C s' H' ds xs mC ev J e' ha hx' hr hns hC hCa hC0 hCf hCl hCc hCp;show wpAny _ X.A (assign (.Name y py) X.env (.ref a)) _ _ _;refine wpAny_assign_Name (cC' J hN hy hx (v:=.ref a) (u:=.ref a) rfl (fun s2 I2 ⟨b,sb,hb⟩=>?_) hfn);have hbC:C≠b:=by
  rcases hb with z | z
  ·rw [z]; exact hCl
  ·exact fun w=>hCc _ _ z w.symm
 refine ⟨mC,hns.sameBut sb hbC,fun h' hs'=>?_⟩;refine ⟨_,_,H',by unfold ownC; rw [ev],I2.but (t':=s2.toks) hC hC0 hCl hCc hCp hs',e'.tk,R.setOwn e' i ha hx' hr⟩
end
section
variable {X:Cx} {e ix:Expr} {fe fi:DS->Res D} {x:Str} {pos np sp:Pos}
end
noncomputable def notInD:D->D->Res D
 | .int i,.tup ds=>(match intsOf ds with | some ns=>.ok (.bl (!ns.contains i)) | none=>.stuck)
 | .int i,.lst ds=>(match intsOf ds with | some ns=>.ok (.bl (!ns.contains i)) | none=>.stuck)
 | _,_=>.stuck
theorem iI' (x y:D):NoErr (notInD x y):=by
 unfold notInD
 split
 ·split
  ·exact ah'
  ·exact ad'
 ·split
  ·exact ah'
  ·exact ad'
 ·exact ad'
theorem cl' {K:PySem.W.Frag} {H:Hp}:∀{ns:List Int} {xs:List V},Reps K H (ns.map .int) xs->xs=ns.map V.int
 | [],_,h=>h.nil_of
 | n :: ns,_,h=>by
  obtain ⟨v,vs,rfl,p,t⟩:=h.cons_of;rw [repI p,cl' t]; rfl
theorem fu' (i:Int) (ns:List Int):inV (.int i) (ns.map V.int)=ns.contains i:=by
 unfold inV
 induction ns with
 | nil=>rfl
 | cons n ns ih =>
  rw [List.map_cons,List.any_cons,ih,List.contains_cons]
  congr 1
  show (n == i)=(i == n);exact Bool.eq_iff_iff.mpr ⟨fun h=>beq_iff_eq.mpr (beq_iff_eq.mp h).symm,fun h=>beq_iff_eq.mpr (beq_iff_eq.mp h).symm⟩
theorem bs' (ns:List Int):(ns.map V.int).all flatV=true:=by
 induction ns with
 | nil=>rfl
 | cons n ns ih=>rw [List.map_cons,List.all_cons,ih]; rfl
section
variable {X:Cx}
theorem iJ':OpD X (compareOp .NotIn) notInD:=OpD.of (r:=rIn X.K true) (fun E=>cw' (X:=X.wish E)) fun H x y a b d Q p1 p2 e q=>by
 unfold notInD at e
 split at e
 ·rename_i i ds
  split at e
  ·rename_i ns hn
   cases e
   have:=ca' hn;subst this;obtain ⟨t,xs,rfl,hq,r⟩:=repT p2;have:=cl' r;subst this;rw [repI p1];refine ⟨t,_,rfl,.inr hq,rfl,bs' ns,?_⟩;rw [if_pos rfl,fu'];exact q _ H (Same.refl H) mkB
  ·cases e
 ·rename_i i ds
  split at e
  ·rename_i ns hn
   cases e
   have:=ca' hn;subst this;obtain ⟨t,xs,rfl,hq,r⟩:=repL p2;have:=cl' r;subst this;rw [repI p1];refine ⟨t,_,rfl,.inl hq,rfl,bs' ns,?_⟩;rw [if_pos rfl,fu'];exact q _ H (Same.refl H) mkB
  ·cases e
 ·cases e
end
section
variable {X:Cx} {a b:Expr} {fa fb:DS->Res D} {x:Str} {pos pos' bp:Pos}
end
noncomputable def inA:D->D->Res D
 | .str x,.str y=>.ok (.bl (!(Builtin.Str.occurrences y x 0 y.length 1).isEmpty))
 | x,.lst ds=>if okD 8 x=true/\okD 8 (.lst ds)=true then .ok (.bl ((toPs ds).any fun y=>PyData.eqv y (toP x))) else .stuck
 | x,.tup ds=>if okD 8 x=true/\okD 8 (.tup ds)=true then .ok (.bl ((toPs ds).any fun y=>PyData.eqv y (toP x))) else .stuck
 | _,_=>.stuck
theorem fv' (x y:D):NoErr (inA x y):=by
 unfold inA
 split
 ·exact ah'
 ·exact au' ah' ad'
 ·exact au' ah' ad'
 ·exact ad'
theorem fw' {X:Cx} (hu:X.A.units + 64 < cLine):OpD X (compareOp .In) inA:=by
 intro E pins s σ H x y v u a b d I r1 r2 p1 p2 e;unfold inA at e
 split at e
 ·exact my' E pins s σ H x y v u _ _ d I r1 r2 p1 p2 e
 ·split at e
  ·rename_i c
   cases e
   obtain ⟨as,ra⟩:=aW' I 8 c.1 p1 r1;obtain ⟨bs,rb⟩:=aW' I 8 c.2 p2 r2;have l1:=ch' 8 _ c.1;have l2:=ch' 8 _ c.2;refine PySem.SeqAt.in_list_reads rb ra l2.1 l1.1 ?_ ⟨_,.bl _,H,rfl,I,rfl,Same.refl H,mkB⟩;exact Nat.lt_of_le_of_lt (Nat.add_le_add_left (Nat.le_trans (Nat.min_le_right _ _) l1.2) _) (by omega)
  ·cases e
 ·split at e
  ·rename_i c
   cases e
   obtain ⟨as,ra⟩:=aW' I 8 c.1 p1 r1;obtain ⟨bs,rb⟩:=aW' I 8 c.2 p2 r2;have l1:=ch' 8 _ c.1;have l2:=ch' 8 _ c.2;refine PySem.SeqAt.in_tuple_reads rb ra l2.1 l1.1 ?_ ⟨_,.bl _,H,rfl,I,rfl,Same.refl H,mkB⟩;exact Nat.lt_of_le_of_lt (Nat.add_le_add_left (Nat.le_trans (Nat.min_le_right _ _) l1.2) _) (by omega)
  ·cases e
 ·cases e
section
variable {X:Cx} {e:Expr} {fe:DS->Res D} {lo hi:Option Expr} {st:Expr} {fl fu fs:DS->Res (Option Int)} {pos p2:Pos}
end
section
variable {X:Cx} {tg:Expr}
end
section
variable {X:Cx} {tg:Expr} {t:TGD} {body:List Stmt} {fb:DS->Out} {pos:Pos} {G H:Hp} {E:Ends}
end
section
variable {X:Cx} {e:Expr} {fe:DS->Res D} {lo hi:Option Expr} {st:Expr} {fl fu fs:DS->Res (Option Int)} {pos p2:Pos}
end
section
variable {X:Cx} {tg iter:Expr} {body:List Stmt} {t:TGD} {fb:DS->Out} {pos:Pos}
end
theorem bd' {X:Cx} {x:Str} {j} {pos:Pos} {es:List Expr} {fs:DS->Res (List D)} (h:PAD X es fs):PAD X (.Constant (.str x) j pos :: es) (consD (fun _=>.ok (.str x)) fs):=aa' am' h
section
variable {X:Cx} {e:Expr} {es:List Expr} {fs:DS->Res (List D)} {F:List D->Res D} {k:Nat} {f:Addr} {fd:FuncData} {ps:List Str} {x:Str} {p pos:Pos}
end
noncomputable def mnL (ns:List Int):Int:=ns.getD (argBest (fun i j=>decide (ns.getD i 0 < ns.getD j 0)) (ns.length - 1)) 0
noncomputable def minT:List D->Res D
 | [.tup ds]=>match intsOf ds with | some ns=>if 0 < ns.length then .ok (.int (mnL ns)) else .stuck | none=>.stuck
 | x=>minG x
theorem ko' (ds:List D):NoErr (minT ds):=by
 unfold minT
 split
 ·split
  ·exact au' ah' ad'
  ·exact ad'
 ·exact lD' _
theorem kp' {X:Cx} (hcalm:X.calm=true):CallD X (.builtin "min") minT:=by
 intro E pins s σ H xs us ds d I r p e;unfold minT at e
 split at e
 ·rename_i es
  split at e
  ·rename_i ns hb
   split at e
   ·rename_i hpos
    cases e
    obtain ⟨v,vs,rfl,p1,t⟩:=p.cons_of
    cases t.nil_of
    obtain ⟨u,rfl,rx⟩:=vals1 r;obtain ⟨a,ys,rfl,hq,rs⟩:=repT p1
    cases rx
    obtain ⟨its,rv,pl,hz⟩:=I.tuple hq;rw [ca' hb] at rs;refine call_min_walk (wpAny_pyIter_tuple (show s.heap.IsTuple a its.toArray from pl) ?_)
    obtain ⟨o,g,oc⟩:=id pl;have hax:a≠s.heap.objs.size:=Nat.ne_of_lt (Heap.lt_size g);have hn:its.toArray.size=ns.length:=by rw [List.size_toArray,<- rv.length,rs.length,List.length_map]
    refine ⟨_,_,_,_,_,_,_,rfl,Walks.tuple (A:=X.A.in1) (show X.A.in1.handled=none from I.ok.hd hcalm) s.heap.objs.size a hax its.toArray,⟨⟨_,Heap.get?_push_size _ rfl,rfl,rfl⟩,⟨o,Heap.get?_push_of_some _ g,oc⟩⟩,fun b hb=>?_,by rw [hn]; exact hpos,CmpOf.ints_lt (fun i=>ns.getD i 0) (fun i v hP=>ft' rs rv (i:=i) (v:=v) (by simpa using hP)),fun v h' tk hP hk=>?_⟩
    ·show b < (s.heap.push _).objs.size;rw [Heap.size_push];rcases List.mem_cons.mp hb with z | z
     ·rw [z]; exact Nat.lt_succ_self _
     ·rw [List.mem_singleton.mp z]; exact Nat.lt_succ_of_lt (Heap.lt_size g)
    ·rw [hn] at hP;obtain ⟨tk',rfl⟩:=ft' rs rv (v:=v) (by simpa using hP);have k:∀b o,s.heap.get? b=some o->h'.get? b=some o:=fun b o e=>hk b o (by
      intro z;have:b=s.heap.objs.size:=by simpa using z
      exact absurd (Heap.lt_size e) (by rw [this]; exact Nat.lt_irrefl _)) (Heap.get?_push_of_some _ e)
     exact ⟨_,.int _,H,rfl,I.kept (t':=tk) k,⟨_,rfl⟩,Same.refl H,mkI⟩
   ·cases e
  ·cases e
 ·exact lE' hcalm E pins s σ H xs us ds d I r p e
noncomputable def Okf (P:Program) (w:World) (K:PySem.W.Frag) (mg:Str->Option Value) (base:Heap) (k:Nat) (x:Str) (F:List D->Res D):Prop :=
 ∃(f:Addr) (fd:FuncData) (ps:List Str),FnOk P w K mg base (CX1 P w) k f fd ps (spD K F)/\mg x=some (.ref f)/\PySem.W.keepIn K (.ref f)=true/\Binds K fd ps []
noncomputable def Ent (K:PySem.W.Frag) (mg:Str->Option Value) (x:Str) (st:Stmt) (ps:List Str):Prop :=
 ∃(f:Addr) (fd:FuncData),mg x=some (.ref f)/\Fun K x x st f fd/\Binds K fd ps []
noncomputable def Lk (K:PySem.W.Frag) (x:Str) (st:Stmt):Prop :=
 ∃(f:Addr) (fd:FuncData),PySem.W.nsIn K mainGlobals x=some (some (.ref f))/\Fun K x x st f fd
section
variable {K:PySem.W.Frag} {x:Str} {st:Stmt}
theorem lk_mk {f:Addr} {oc:Value} {od an:Option Addr} {osl:Array (Option Value)} {kV doc pm cdv ct:Value} (n:PySem.W.nsIn K mainGlobals x=some (some (.ref f))) (l:K.lookup f=some ⟨oc,od,.func (PySem.W.fnOf x x (defArgs st) (defBody st) (defScope st) .none kV doc pm an cdv ct),osl⟩)
  (c:PySem.W.codeIn K cdv x=true) (k:PySem.W.keepIn K (.ref f)=true):Lk K x st:=⟨f,_,n,gA' l c k⟩
variable {h:Heap} {mg:Str->Option Value}
theorem ent1 (X:K.In h) (G:h.Ns mainGlobals mg) (L:Lk K x st) {p:Str} (hb:∀(kV doc pm:Value) (an:Option Addr) (cdv ct a:Value),bindArgs (PySem.W.fnOf x x (defArgs st) (defBody st) (defScope st) .none kV doc pm an cdv ct) ⟨[a],[]⟩=pure [(p,a)]:=by intros; rfl):Ent K mg x st [p]:=by
 obtain ⟨f,fd,n,F⟩:=L;exact ⟨f,fd,PySem.W.mg_of X G n,F,F.binds fun _ _ _ _ _ _ us hl=>match us,hl with | [_],_=>hb _ _ _ _ _ _ _⟩
theorem ent2 (X:K.In h) (G:h.Ns mainGlobals mg) (L:Lk K x st) {p q:Str} (hb:∀(kV doc pm:Value) (an:Option Addr) (cdv ct a b:Value),bindArgs (PySem.W.fnOf x x (defArgs st) (defBody st) (defScope st) .none kV doc pm an cdv ct) ⟨[a,b],[]⟩=pure [(p,a),(q,b)]:=by intros; rfl):Ent K mg x st [p,q]:=by
 obtain ⟨f,fd,n,F⟩:=L;exact ⟨f,fd,PySem.W.mg_of X G n,F,F.binds fun _ _ _ _ _ _ us hl=>match us,hl with | [_,_],_=>hb _ _ _ _ _ _ _ _⟩
variable (P:Program) (w:World) (base:Heap)
theorem fnO {N ps:List Str} (k:Nat) (body:DS->Out) (F:Ent K mg x st ps) (S:FnScope N ps (defScope st))
  (hb:∀(f:Addr) (cdv:Value) (A:Around) (outer:List Env) (s:Shared) (H:Hp) (E:XK),Room k (A.deeper (envOfC x (defScope st) s.heap.objs.size f cdv))->PSDs (cxOf (CX1 P w) P w K mg base N x (defScope st) f cdv A outer s H E) (defBody st) body) :
  Okf P w K mg base (k + 1) x (fnD ps.length N.length body):=by
 obtain ⟨f,fd,m,F,B⟩:=F;exact ⟨f,fd,ps,kb' F S (hb f),m,F.kp,B⟩
end
theorem cl {X:Cx} {j k:Nat} {F:List D->Res D} {x:Str} {p pos:Pos} {e:Expr} {es:List Expr} {fs:DS->Res (List D)} (Fn:Okf X.prog X.w X.K X.mg X.base j x F) (hr:Room k X.A) (ha:PAD X (e :: es) fs)
  (hj:j<=k:=by first | decide | omega) (hg:Gl X x:=by exact rfl) (hdb:(x == ("__debug__" : Str))=false:=by decide) (he:starEach (e :: es) X.env=(false,eval e X.env) :: starEach es X.env:=by rfl) (hpl:(backTo pos (starEach es X.env)).any (·.1)=false:=by rfl) :
  PD X (.Call (.Name x p) (e :: es) [] pos) (fun δ=>(fs δ).bind F):=by
 obtain ⟨f,fd,ps,a,b,c,d⟩:=Fn;exact ka' (a.mono hj) hr hg b c d ha hdb he hpl
section
variable {X:Cx}
end
mutual
noncomputable def flatN (n:Nat):D->Bool
 | .tup ds=>flatNs n ds
 | .lst ds=>(ds.length != n) && flatNs n ds
 | .excf _ _ _=>false
 | .obj _ _ _=>false
 | _=>true
noncomputable def flatNs (n:Nat):List D->Bool
 | []=>true
 | d :: ds=>flatN n d && flatNs n ds
end
mutual
theorem Rep.lsetN {K:PySem.W.Frag} {H:Hp} {a:Addr} {xs ys:List V} {n:Nat} (hH:H a=some (.lst xs)) (hn:xs.length=n):∀{d:D} {v:V},flatN n d=true->Rep K H d v->Rep K (upd H a (.lst ys)) d v
 | .non,v,_,h=>by rw [Rep] at h ⊢; exact h
 | .bl _,v,_,h=>by rw [Rep] at h ⊢; exact h
 | .int _,v,_,h=>by rw [Rep] at h ⊢; exact h
 | .str _,v,_,h=>by rw [Rep] at h ⊢; exact h
 | .lst ds,v,hf,h=>by
  obtain ⟨b,zs,rfl,hq,r⟩:=repL h;rw [flatN,Bool.and_eq_true,bne_iff_ne] at hf;refine mkL ?_ (Reps.lsetN hH hn hf.2 r);rcases hq with (hq | ⟨o,hq⟩) | hq
  ·refine .inl (.inl ?_);rw [ai' (fun z=>by subst z; rw [hH] at hq; cases hq; exact hf.1 (r.length.symm.trans hn))]; exact hq
  ·exact .inl (.inr ⟨o,by rw [ai' (fun z=>by subst z; rw [hH] at hq; cases hq)]; exact hq⟩)
  ·exact .inr hq
 | .tup ds,v,hf,h=>by
  obtain ⟨b,zs,rfl,hq,r⟩:=repT h;rw [flatN] at hf;refine mkT ?_ (Reps.lsetN hH hn hf r);rcases hq with (hq | ⟨o,hq⟩) | hq
  ·exact .inl (.inl (by rw [ai' (fun z=>by subst z; rw [hH] at hq; cases hq)]; exact hq))
  ·exact .inl (.inr ⟨o,by rw [ai' (fun z=>by subst z; rw [hH] at hq; cases hq)]; exact hq⟩)
  ·exact .inr hq
 | .exc n,v,_,h=>by
  rw [Rep] at h ⊢;obtain ⟨b,C,rfl,hC,hb⟩:=h;exact ⟨b,C,rfl,hC,by rw [ai' (fun z=>by subst z; rw [hH] at hb; cases hb)]; exact hb⟩
 | .excf n f d,v,hf,h=>by rw [flatN] at hf; cases hf
 | .obj n f d,v,hf,h=>by rw [flatN] at hf; cases hf
 | .dct,v,_,h=>by
  rw [Rep] at h ⊢;obtain ⟨b,rfl,hb⟩:=h;exact ⟨b,rfl,by rw [ai' (fun z=>by subst z; rw [hH] at hb; cases hb)]; exact hb⟩
theorem Reps.lsetN {K:PySem.W.Frag} {H:Hp} {a:Addr} {xs ys:List V} {n:Nat} (hH:H a=some (.lst xs)) (hn:xs.length=n):∀{ds:List D} {vs:List V},flatNs n ds=true->Reps K H ds vs->Reps K (upd H a (.lst ys)) ds vs
 | [],_,_,h=>by cases h.nil_of; exact Reps.nil
 | d :: ds,_,hf,h=>by
  rw [flatNs,Bool.and_eq_true] at hf;obtain ⟨v,vs,rfl,r,q⟩:=h.cons_of;exact Reps.cons (Rep.lsetN hH hn hf.1 r) (Reps.lsetN hH hn hf.2 q)
end
section
variable {X:Cx} {e:Expr} {es:List Expr} {fe:DS->Res D} {fs:DS->Res (List D)} {x:Str} {pos pos' lp np apos cpos:Pos}
end
noncomputable def listG:List D->Res D
 | [.lst ds]=>.ok (.lst ds)
 | [.tup ds]=>.ok (.lst ds)
 | _=>.stuck
theorem iK' (ds:List D):NoErr (listG ds):=by
 unfold listG
 split <;> first | exact ah' | exact ad'
theorem dn' {X:Cx} (E:Value->Shared->Prop):CallR (X.wish E) (.type "list") (fun xs H Q=>∃p ys,xs=[.ref p]/\(SqL X.K H p ys\/SqT X.K H p ys)/\∀l,H l=none->Q (.ref l) (upd H l (.lst ys))):=ee'
theorem kq' {X:Cx}:CallD X (.type "list") listG:=.of dn' fun H xs ds d Q r e q=>by
 unfold listG at e
 split at e
 ·rename_i es
  cases e
  obtain ⟨v,vs,rfl,p1,t⟩:=r.cons_of
  cases t.nil_of
  obtain ⟨a,ys,rfl,w1,w2⟩:=repL p1;exact ⟨a,ys,rfl,.inl w1,fun l hl=>q _ _ (ap' hl _) (mkL (SqL.of aj') (w2.mono (ap' hl _)))⟩
 ·rename_i es
  cases e
  obtain ⟨v,vs,rfl,p1,t⟩:=r.cons_of
  cases t.nil_of
  obtain ⟨a,ys,rfl,w1,w2⟩:=repT p1;exact ⟨a,ys,rfl,.inr w1,fun l hl=>q _ _ (ap' hl _) (mkL (SqL.of aj') (w2.mono (ap' hl _)))⟩
 ·cases e
end DL
namespace DL
open PySem PySem.Spec PyProof.Rows L2
section
variable {K:PySem.W.Frag} {prog:Program} {w:World} {A:Around} {s:Shared} {x D:Addr} {ox od:Obj} {name:Str} {v:Value}
end
section
variable {X:Cx} {e:Expr} {f:DS->Res D} {name:Str} {pos:Pos} {isA:Str->Bool}
end
section
variable {X:Cx} {m:Nat} {fr:List Nat} {N':List Str} {scope:Scope} {cl:List (Str×Addr)} {tg iter elt c:Expr} {pos:Pos} {t:TGD} {fc:DS->Res Bool} {fe:DS->Res D} {fi:DS->Res (List D)}
end
noncomputable def newExc (h:Heap) (C:Addr) (rest:List Value):Heap:=(h.push { cls:=.type "tuple",data:=.seq rest.toArray }).push { cls:=.ref C,data:=.fields #[.ref h.objs.size,.none,.none,.none,.bool false,.none] }
section
variable {prog:Program} {w:World} {A:Around} {R:Result->Shared->Prop} {h:Heap} {g:Array GenState} {d:Drawn} {t:Nat} {os:OsState}
variable {nm q:Str} {C N:Addr} {bs bm bmB:List Value} {hdct:Bool} {sn:List Str} {sub:List Value} {ab:Bool} {col:Option Bool} {dd:Option Addr} {k0 k1 k2 k3 k5:Option Value} {B newId initId:String}
theorem iL' (F:ExcBaseFacts B newId initId bmB) (T:OwnTail h bmB bm) {rest:List Value} {init:Value}
    (hC:h.get? C=some (excClassObj nm q C N bs bm hdct sn sub ab col dd k0 k1 k2 k3 k5 newId))
    (hi:PySem.W.Looks (model prog w) h (typeLookup (.ref C) "__init__") (some init)) (hb:∀self,PySem.W.Looks (model prog w) h (bindSpecial init self) (init,[self])) (hrest:rest.length<=sizeLine)
    (hq:codeAny (model prog w) (A.under (.builtin "type.__call__" ⟨.ref C :: rest,[]⟩)) (.call init ⟨.ref (h.objs.size + 1) :: rest,[]⟩) (PySem.W.InitBack (h.objs.size + 1) R) ⟨newExc h C rest,g,d,t,os⟩) :
    codeAny (model prog w) A (.call (.ref C) ⟨rest,[]⟩) R ⟨h,g,d,t,os⟩:=by
  have f1:=tc_lookup;have f2:=tc_bind (.ref C);have hT:(⟨h,g,d,t,os⟩:Shared).TypeIs (.ref C) "type":=⟨_,hC,rfl⟩;refine codeAny_of_tree ?_;show wpAny _ _ (callAny (.ref C) _) _ _ _
  repeat (any_goals (first | assumption | with_reducible refine wpAny_loadPart_at hC ?_ | wp_step))
  refine ⟨rfl,?_⟩;refine codeAny_call_builtin_at (Code.quiet_builtin _ (by decide +kernel)) entry_typeCall (wpAny_check_type_call_sub hC ?_)
  repeat (first | with_reducible refine wpAny_loadPart_at hC ?_ | with_reducible refine wpAny_madeBy_exc hC ?_ | wp_step)
  refine codeAny_call_builtin_code (Code.quiet_builtin _ F.quiet) (wpAny_check_new_subT F T hC ?_);refine codeAny_exc_new_subT F T hC ?_ hrest;show wpAny _ _ _ _ _ _;have hC₁:=Heap.get?_push_of_some { cls:=.ref C,data:=.fields #[.ref h.objs.size,.none,.none,.none,.bool false,.none] }
    (Heap.get?_push_of_some { cls:=.type "tuple",data:=.seq rest.toArray } hC)
  have hget:((h.push { cls:=.type "tuple",data:=.seq rest.toArray }).push
      { cls:=.ref C,data:=.fields #[.ref h.objs.size,.none,.none,.none,.bool false,.none] }).get? (h.objs.size + 1)=some
      { cls:=.ref C,data:=.fields #[.ref h.objs.size,.none,.none,.none,.bool false,.none] }:=by heap_get
  have hcC:(Value.ref C :: bm).contains (.ref C)=true:=by simp
  have k:∀b o,h.get? b=some o->(newExc h C rest).get? b=some o:=fun b o e=>Heap.get?_push_of_some _ (Heap.get?_push_of_some _ e);have i1:=hi.keeps k;have b1:=(hb (.ref (h.objs.size + 1))).keeps k;unfold newExc at i1 b1;unfold isInstance
  repeat (first | with_reducible refine wpAny_loadPart_at hget ?_ | wp_step)
  refine wpAny_isSubtype_exc hC₁ ?_;rw [hcC];rw [if_neg (by decide)];unfold callSpecial? specialOf
  repeat (first | with_reducible refine wpAny_loadPart_at hget ?_ | wp_step)
  refine i1.here ?_;refine wpAny_holding (wpAny_bind (b1.here ?_));refine wpAny_bind (wpAny_call (codeAny_mono hq fun r s' z=>?_));rcases r with e | (v | _ | _ | _) <;> first | exact z | exact z.elim | skip
  obtain ⟨rfl,z⟩:=z;exact wpAny_pure (wpAny_pure z)
end
abbrev excO (C:Addr) (dd:Option Addr) (t0:Addr):Obj:={ cls:=.ref C,dict:=dd,data:=.fields #[.ref t0,.none,.none,.none,.bool false,.none] }
noncomputable def excF (a C:Addr) (dd:Option Addr) (h:Heap):Prop:=∃t0,h.get? a=some (excO C dd t0)
section
open Builtin Builtin.ObjectAttr
variable {prog:Program} {w:World} {A:Around} {E:Value->Shared->Prop} {h:Heap} {g:Array GenState} {d:Drawn} {t:Nat} {os:OsState} {K:PySem.W.Frag}
variable {nm q:Str} {C N x:Addr} {bs bm bmB:List Value} {sn:List Str} {sub:List Value} {ab:Bool} {col:Option Bool} {dd:Option Addr} {k0 k1 k2 k3 k5:Option Value} {B newId initId:String} {name:Str} {v:Value} {t0:Addr}
end
abbrev VM:List Value:=[.type "ValueError",.type "Exception",.type "BaseException",.type "object"]
section
variable {prog:Program} {w:World} {A:Around} {E:Value->Shared->Prop} {h:Heap} {g:Array GenState} {d:Drawn} {t:Nat} {os:OsState}
variable {nm q:Str} {C N x:Addr} {bs bm bmB:List Value} {hdct:Bool} {sn:List Str} {sub:List Value} {ab:Bool} {col:Option Bool} {dd:Option Addr} {k0 k1 k2 k3 k5:Option Value} {B newId initId:String} {t0:Addr}
end
noncomputable def XCls (K:PySem.W.Frag) (C:Addr):Prop:=∃(nm q:Str) (N:Addr) (bs bm:List Value) (sn:List Str) (sub:List Value) (ab:Bool) (col:Option Bool) (dd:Option Addr) (k0 k1 k2 k3 k5:Option Value),
 K.lookup C=some (excClassObj nm q C N bs bm true sn sub ab col dd k0 k1 k2 k3 k5 "ValueError.__new__")/\∀h,K.In h->OwnTail h VM bm
structure XI (K:PySem.W.Frag) (C Y f:Addr) (fld:Str):Prop where
 cls:XCls K C
 set:PySem.W.findIn K (.ref C) "__setattr__" = some (some (.builtin "object.__setattr__"))
 no:PySem.W.findIn K (.ref C) fld=some none
 init:PySem.W.findIn K (.ref C) "__init__" = some (some (.ref f))
 fn:PySem.W.typeIn K (.ref f)=some (.type "function")
 y1:PySem.W.specialIn K (.ref Y) "__getattribute__" = some (some (.builtin "type.__getattribute__"))
 y2:PySem.W.readsIn K Y (.type "type")=true
 y3:PySem.W.findCls K (.ref Y) (.type "type") "__init__" = some (.val (.builtin "ValueError.__init__"))
theorem lF' {H:Hp} {a:Addr} {o:HO} (h:H a=some o):upd H a o=H:=by
 funext b
 unfold upd
 split
 ·rename_i e; rw [e,h]
 ·rfl
theorem iM' {P:Program} {w:World} {H:Hp} {h:Heap} {e C:Addr} {dd:Option Addr} (x:excF e C dd h):ObjOk P w H h e (.ext (excF e C dd)):=by
 obtain ⟨t0,x⟩:=x;exact ⟨⟨t0,x⟩,⟨_,x⟩,fun h1 h2 ⟨t1,y⟩ k=>⟨t1,k _ y⟩⟩
section
variable {X:Cx} {C Y f:Addr} {fld y:Str} {np apos pos pos':Pos} {a:Expr} {es:List Expr} {ta:TA}
end
noncomputable def spI (C:Addr) (fld:Str) (okv:V->Prop):Sp:=fun vs H Q _=>∃e v,vs=[.ref e,v]/\okv v/\H e=some (.ext (excF e C none))/\∀dx,H dx=none->Q .non (upd (upd H e (.ext (excF e C (some dx)))) dx (.xd [(fld,v)]))
section
variable {M:Model} {A:Around} {E:Value->Shared->Prop} {env:Env}
variable {nm q:Str} {C N:Addr} {bs bm:List Value} {hdct:Bool} {sn:List Str} {sub:List Value} {ab:Bool} {col:Option Bool} {dd:Option Addr} {k0 k1 k2 k3 k5:Option Value} {newId:String}
theorem gd' {s:Shared} {x:Sem Value} {Q:Flow->Shared->Prop} (hbase:bm.contains (.type "BaseException")=true) (hh:A.handled=none)
  (h:wpAny M A x (fun v s₁=>∃e d' t,v=.ref e/\s₁.heap.get? C=some (excClassObj nm q C N bs bm hdct sn sub ab col dd k0 k1 k2 k3 k5 newId) /\
   s₁.heap.get? e=some (excO C d' t)/\E (.ref e) s₁) E s) :
  wpAny M A (raiseStmt env (some x) none) Q E s:=by
 have hcB:(Value.ref C :: bm).contains (.type "BaseException")=true:=by rw [List.contains_cons,hbase,Bool.or_true]
 unfold raiseStmt;refine wpAny_bind (wpAny_mono h (fun v s₁ h₁=>?_) fun _ _ x=>x);obtain ⟨e,d',t,rfl,hC,he,hE⟩:=h₁;obtain ⟨hp,g,d,tk,os⟩:=s₁
 repeat (first | with_reducible refine wpAny_loadPart_at he ?_ | with_reducible refine wpAny_loadPart_at hC ?_ | (with_reducible refine wpAny_isSubtype_exc hC ?_; rw [hcB]) | wp_step)
 exact wpAny_raiseNew_none hh hE
end
theorem _root_.L2.Inv.untrack {X:Cx} {pins:List (Addr×Obj)} {σ:St} {H:Hp} {s:Shared} {a:Addr} {φ:Heap->Prop} (I:Inv X pins σ H s) (h:H a=some (.ext φ)):Inv X pins σ (fun b=>if b=a then none else H b) s:=by
 have ne:∀{b:Addr} {o:HO},H b=some o->(∀ψ,o≠.ext ψ)->(if b=a then none else H b)=some o:=fun {b o} e n=>by
  rw [if_neg fun z=>?_]
  ·exact e
  ·subst z; rw [h] at e; cases e; exact n _ rfl
 have non:∀{b:Addr},H b=none->(if b=a then none else H b)=none:=fun {b} e=>by split <;> first | rfl | exact e
 refine ⟨I.ok,I.os,I.bare,⟨I.base.keep,I.base.slot,fun b ob e n hx=>non (I.base.free b ob e n hx),I.base.there,fun b xs e=>ne (I.base.tups b xs e) (fun _ z=>nomatch z),fun b ob u e=>ne (I.base.frzs b ob u e) (fun _ z=>nomatch z),fun b ps e=>?_⟩,I.loc,I.cell,non I.free,fun x c e=>non (I.freeC x c e),fun p hp=>?_,fun b u q=>?_,I.len⟩
 ·obtain ⟨more,q⟩:=I.base.tbls b ps e;exact ⟨more,ne q (fun _ z=>nomatch z)⟩
 ·obtain ⟨e,n,r⟩:=I.pin p hp;exact ⟨e,non n,r⟩
 ·have q':H b=some u:=by
   by_cases z:b=a
   ·simp only [if_pos z] at q; cases q
   ·simp only [if_neg z] at q; exact q
  exact (I.hok b u q').stay (fun c v _ e=>e) (fun c z=>ne z (fun _ w=>nomatch w)) fun c xs z=>ne z (fun _ w=>nomatch w)
noncomputable def raiseF (x fld:Str) (fe:DS->Res D):DS->Out:=fun δ=>match fe δ with
 | .ok d=>.err ⟨x,some (fld,d)⟩ δ
 | .err y=>.err y δ
 | .stuck=>.stuck
section
variable {X:Cx} {e:Expr} {fe:DS->Res D} {np cpos pos:Pos} {x fld:Str} {C Y f:Addr} {fd:FuncData} {k:Nat} {okv:V->Prop}
theorem ge' (hc:X.calm=true) (Z:XI X.K C Y f fld) (Fn:FnOk X.prog X.w X.K X.mg X.base (CX1 X.prog X.w) k f fd ["self",fld] (spI C fld okv)) (hb:Binds X.K fd ["self",fld] []) (hr:Room (k + 1) X.A)
  (hx:PySem.W.nsIn X.K mainGlobals x=some (some (.ref C))) (hg:Gl X x) (hm:X.mg x=some (.ref C)) (ha:PD X e fe) (hok:∀(δ:DS) (d:D) (H:Hp) (v:V),fe δ=.ok d->Rep X.K H d v->okv v)
  (hdb:(x == ("__debug__" : Str))=false:=by decide) (he:starEach [e] X.env=[(false,eval e X.env)]:=by rfl) :
  PSD X (.Raise (some (.Call (.Name x np) [e] [] cpos)) none pos) (raiseF x fld fe):=by
 intro pins s σ G H δ I R hs;have hs':fe δ≠.stuck:=fun z=>hs (by unfold raiseF; rw [z]);obtain ⟨nm,q,N,bs,bm,sn,sub,ab,col,dd,k0,k1,k2,k3,k5,lk,T⟩:=Z.cls;have T0:=T _ I.kIn;rw [arm_exec_Raise];have core:wpAny (model X.prog X.w) X.A (eval (.Call (.Name x np) [e] [] cpos) X.env) (fun v s₁=>∃e d' t,v=.ref e/\s₁.heap.get? C=some (excClassObj nm q C N bs bm true sn sub ab col dd k0 k1 k2 k3 k5 "ValueError.__new__") /\
   s₁.heap.get? e=some (excO C d' t)/\SX X pins G H s.heap (raiseF x fld fe δ) (.ref e) s₁) (SX X pins G H s.heap (raiseF x fld fe δ)) s:=by
  refine wpAny_Call_ofName (bh' I hg hm ?_ hdb);unfold callWith;rw [he];refine wpAny_bind (wpAny_holding (Calls.evalArgs_plain (Calls.spliced_cons (ha.use I R hs' (fun d v s1 u H1 q1 I1 r1 e1 b1 p1=>Calls.spliced_nil (wpAny_bind (wpAny_standAt ?_))) fun e s1 q=>q.sx R fun x z=>by unfold raiseF; rw [z]))));have T1:=T _ I1.kIn;obtain ⟨hh,g,dr,tk,os⟩:=s1;have hC:=I1.kIn _ _ lk;refine wpAny_bind (wpAny_keeperOf_exc hC ?_);simp only [List.append_nil,List.nil_append];have hne:=I1.hok.fresh (Nat.le_succ hh.objs.size);have kk:∀b o,hh.get? b=some o->(newExc hh C [v]).get? b=some o:=fun b o e=>Heap.get?_push_of_some _ (Heap.get?_push_of_some _ e);have ge:(newExc hh C [v]).get? (hh.objs.size + 1)=some (excO C none hh.objs.size):=by unfold newExc; heap_get
  have I2:=I1.laid (a:=hh.objs.size + 1) (o:=.ext (excF (hh.objs.size + 1) C none)) (h':=newExc hh C [v]) (t':=tk) kk (Nat.le_succ _) (iM' ⟨_,ge⟩);have r2:Vals [V.ref (hh.objs.size + 1),u] [Value.ref (hh.objs.size + 1),v]:=.cons rfl (.cons r1 .nil);refine wpAny_bind (wpAny_call (iL' PySem.F.excBase_ValueError T1 hC (PySem.W.looks_findIn I1.kIn Z.init) (fun self=>PySem.W.bind_fn I1.kIn self Z.fn) (by simp [sizeLine_eq]) (codeAny_mono (Fn.run _ X.stack _ _ ⟨[Value.ref (hh.objs.size + 1),v],[]⟩ [Value.ref (hh.objs.size + 1),v] _ (fun w H'=>w=.non/\∃dx,upd H1 (hh.objs.size + 1) (.ext (excF (hh.objs.size + 1) C none)) dx=none/\H'=upd (upd (upd H1 (hh.objs.size + 1) (.ext (excF (hh.objs.size + 1) C none))) (hh.objs.size + 1) (.ext (excF (hh.objs.size + 1) C (some dx)))) dx (.xd [(fld,u)])) (fun _ _ _=>False) (hr.make C [v] [])
   (I2.env0.make C [v] []) (hb _ [Value.ref (hh.objs.size + 1),v] I2.kIn rfl) r2 ⟨_,_,rfl,hok δ d H1 u q1 p1,aj',fun dx hd=>⟨rfl,dx,hd,rfl⟩⟩) fun r s' hq'=>?_)))
  cases r with
  | error e =>
   obtain ⟨_,_,_,_,_,_,_,_,_,_,z⟩:=hq';exact z.elim
  | ok fl =>
   cases fl with
   | ret u' =>
    obtain ⟨vv,H',I3,rv,ev,dx,hd,eH⟩:=I2.after hq';subst ev;refine ⟨rv,?_⟩;have hdx:dx≠hh.objs.size + 1:=fun z=>by subst z; rw [aj'] at hd; cases hd
    have hd1:H1 dx=none:=by rw [ai' hdx] at hd; exact hd
    have hHe:H' (hh.objs.size + 1)=some (.ext (excF (hh.objs.size + 1) C (some dx))):=by rw [eH,ai' (Ne.symm hdx),aj']
    obtain ⟨⟨t0,hx3⟩,_,_⟩:=I3.hok _ _ hHe;have I4:=I3.untrack hHe;have eq:(fun b=>if b=hh.objs.size + 1 then none else H' b)=upd H1 dx (.xd [(fld,u)]):=by
     funext b
     by_cases z:b=hh.objs.size + 1
     ·rw [if_pos z,z,ai' (Ne.symm hdx),hne]
     ·rw [if_neg z,eH]
      by_cases y:b=dx
      ·rw [y,aj',aj']
      ·rw [ai' y,ai' z,ai' z,ai' y]
    rw [eq] at I4;have sm:=ap' hd1 (.xd [(fld,u)]);refine wpAny_bind (wpAny_holding (wpAny_point (wpAny_pure ⟨hh.objs.size + 1,some dx,t0,rfl,I3.kIn _ _ lk,hx3,?_⟩)));refine ⟨⟨x,some (fld,d)⟩,δ,_,C,σ,_,by unfold raiseF; rw [q1],rfl,I4,(e1.trans sm).tk,R.mono (e1.trans sm),hx,some dx,⟨dx,u,rfl,aj',p1.mono sm⟩,?_⟩;refine ⟨b1 _ (e1.free hne) (fun o vs ho=>?_),by rw [ai' (Ne.symm hdx)]; exact hne,_,_,_,hx3,⟨rfl,rfl⟩,rfl,rfl,.inl rfl⟩;exact absurd (Heap.lt_size ho) (by show ¬hh.objs.size + 1 < hh.objs.size; omega)
   | next=>exact False.elim hq'
   | brk=>exact False.elim hq'
   | cont=>exact False.elim hq'
 refine wpAny_bind (wpAny_standAt (gd' (T0.hasType PySem.F.excBase_ValueError.hasBase) (I.ok.hd hc) (wpAny_bind (wpAny_mono core (fun v s₃ h₃=>wpAny_bind (wpAny_standAt (wpAny_pure h₃))) fun _ _ x=>x))))
end
noncomputable def clsDef (s:Stmt) (j:Nat):Stmt:=match s with
 | .ClassDef _ _ _ body _ _ _ _ _ _ _=>body.getD j (.Pass ⟨0,0,0,0⟩)
 | _=>.Pass ⟨0,0,0,0⟩
noncomputable def Oki (P:Program) (w:World) (K:PySem.W.Frag) (mg:Str->Option Value) (base:Heap) (C:Addr) (fld:Str) (okv:V->Prop):Prop :=
 ∃(Y f:Addr) (fd:FuncData),XI K C Y f fld/\FnOk P w K mg base (CX1 P w) 1 f fd ["self",fld] (spI C fld okv)/\Binds K fd ["self",fld] []
theorem rz {X:Cx} {e:Expr} {fe:DS->Res D} {np cpos pos:Pos} {x fld:Str} {C:Addr} {k:Nat} {okv:V->Prop} (O:Oki X.prog X.w X.K X.mg X.base C fld okv) (hr:Room k X.A) (hc:X.calm=true) (hx:PySem.W.nsIn X.K mainGlobals x=some (some (.ref C))) (hg:Gl X x) (hm:X.mg x=some (.ref C)) (ha:PD X e fe)
  (hok:∀(δ:DS) (d:D) (H:Hp) (v:V),fe δ=.ok d->Rep X.K H d v->okv v) (hk:2<=k:=by first | decide | omega)
  (hdb:(x == ("__debug__" : Str))=false:=by decide) (he:starEach [e] X.env=[(false,eval e X.env)]:=by rfl) :
  PSD X (.Raise (some (.Call (.Name x np) [e] [] cpos)) none pos) (raiseF x fld fe):=by
 obtain ⟨Y,f,fd,Z,F,B⟩:=O;exact ge' hc Z F B (hr.mono hk) hx hg hm ha hok hdb he
mutual
theorem Rep.frz {K:PySem.W.Frag} {H:Hp} {a:Addr} {xs:List V} {ob:Obj} (hH:H a=some (.lst xs)):∀{d:D} {v:V},Rep K H d v->Rep K (upd H a (.frz ob (.lst xs))) d v
 | .non,_,h=>by rw [Rep] at h ⊢; exact h
 | .bl _,_,h=>by rw [Rep] at h ⊢; exact h
 | .int _,_,h=>by rw [Rep] at h ⊢; exact h
 | .str _,_,h=>by rw [Rep] at h ⊢; exact h
 | .tup ds,_,h=>by
  rw [Rep] at h ⊢;obtain ⟨b,ys,e1,e2,e3⟩:=h;refine ⟨b,ys,e1,?_,Reps.frz hH e3⟩;rcases e2 with (h | ⟨o,h⟩) | h
  ·exact .inl (.inl (by rw [ai' (fun z=>by subst z; rw [hH] at h; cases h)]; exact h))
  ·exact .inl (.inr ⟨o,by rw [ai' (fun z=>by subst z; rw [hH] at h; cases h)]; exact h⟩)
  ·exact .inr h
 | .lst ds,_,h=>by
  rw [Rep] at h ⊢;obtain ⟨b,ys,e1,e2,e3⟩:=h;refine ⟨b,ys,e1,?_,Reps.frz hH e3⟩
  by_cases z:b=a
  ·subst z;rcases e2 with (h | ⟨o,h⟩) | h
   ·rw [hH] at h; cases h; exact .inl (.inr ⟨ob,aj'⟩)
   ·rw [hH] at h; cases h
   ·exact .inr h
  ·rcases e2 with (h | ⟨o,h⟩) | h
   ·exact .inl (.inl (by rw [ai' z]; exact h))
   ·exact .inl (.inr ⟨o,by rw [ai' z]; exact h⟩)
   ·exact .inr h
 | .exc _,_,h=>by
  rw [Rep] at h ⊢;obtain ⟨b,C,e1,e2,e3⟩:=h;exact ⟨b,C,e1,e2,by rw [ai' (fun z=>by subst z; rw [hH] at e3; cases e3)]; exact e3⟩
 | .excf _ _ d,_,h=>by
  rw [Rep] at h ⊢;obtain ⟨b,C,dx,u,e1,e2,e3,e4,e5⟩:=h;exact ⟨b,C,dx,u,e1,e2,by rw [ai' (fun z=>by subst z; rw [hH] at e3; cases e3)]; exact e3,by rw [ai' (fun z=>by subst z; rw [hH] at e4; cases e4)]; exact e4,Rep.frz hH e5⟩
 | .dct,_,h=>by
  rw [Rep] at h ⊢;obtain ⟨b,e1,e2⟩:=h;exact ⟨b,e1,by rw [ai' (fun z=>by subst z; rw [hH] at e2; cases e2)]; exact e2⟩
 | .obj _ _ ds,_,h=>by
  rw [Rep] at h ⊢;obtain ⟨b,C,dx,us,e1,e2,e3,e4,e5⟩:=h;exact ⟨b,C,dx,us,e1,e2,by rw [ai' (fun z=>by subst z; rw [hH] at e3; cases e3)]; exact e3,e4,Reps.frz hH e5⟩
theorem Reps.frz {K:PySem.W.Frag} {H:Hp} {a:Addr} {xs:List V} {ob:Obj} (hH:H a=some (.lst xs)):∀{ds:List D} {vs:List V},Reps K H ds vs->Reps K (upd H a (.frz ob (.lst xs))) ds vs
 | [],_,h=>by rw [Reps] at h ⊢; exact h
 | d :: ds,_,h=>by
  rw [Reps] at h ⊢;obtain ⟨v,vs,e1,e2,e3⟩:=h;exact ⟨v,vs,e1,Rep.frz hH e2,Reps.frz hH e3⟩
end
noncomputable def LPost (X:Cx) (pins:List (Addr×Obj)) (σ:St) (H:Hp) (r:Res D) (u:Value) (s1:Shared):Prop :=
 ∃ds a xs H1,r=.ok (.lst ds)/\Inv X pins σ H1 s1/\u=.ref a/\Same H H1/\H a=none/\H1 a=some (.lst xs)/\Reps X.K H1 ds xs
noncomputable def PDL (X:Cx) (e:Expr) (f:DS->Res D):Prop :=
 ∀(pins:List (Addr×Obj)) (s:Shared) (σ:St) (G H:Hp) (δ:DS),Inv X pins σ H s->RepSt X.K G H σ δ->f δ≠.stuck ->
  wpAny (model X.prog X.w) X.A (eval e X.env) (LPost X pins σ H (f δ)) (XPost X pins σ H s.heap (f δ)) s
theorem PDL.pd {X:Cx} {e:Expr} {f:DS->Res D} (h:PDL X e f):PD X e f:=fun pins s σ G H δ I R hs =>
 wpAny_mono (h pins s σ G H δ I R hs) (fun u s1 ⟨ds,a,xs,H1,q1,q2,q3,q4,q5,q6,q7⟩=>⟨_,.ref a,H1,q1,q2,by rw [q3]; rfl,q4,mkL (SqL.of q6) q7⟩) fun _ _ z=>z
theorem Reps.reverse {K:PySem.W.Frag} {H:Hp}:∀{ds:List D} {vs:List V},Reps K H ds vs->Reps K H ds.reverse vs.reverse
 | [],_,h=>by rw [h.nil_of]; exact Reps.nil
 | d :: ds,_,h=>by
  obtain ⟨v,vs,rfl,r,t⟩:=h.cons_of;rw [List.reverse_cons,List.reverse_cons];exact (Reps.reverse t).append (Reps.cons r Reps.nil)
section
variable {X:Cx} {e:Expr} {fe:DS->Res D} {st:Expr} {fs:DS->Res (Option Int)} {pos p2:Pos}
end
end DL
namespace DL
open PySem PySem.Spec PyProof.Rows L2
section
variable {X:Cx} {tg iter:Expr} {body:List Stmt} {t:TGD} {fb:DS->Out} {pos:Pos}
variable {x:Str} {np p cp tp:Pos} {elts:List Expr} {x1:Nat}
end
section
variable {X:Cx} {body:List Stmt} {t:TGD} {fb:DS->Out} {pos:Pos} {x:Str} {np p cp tp:Pos} {elts:List Expr} {x1:Nat}
end
section
variable {X:Cx} {x y:Str} {pos pos' np apos cpos:Pos}
end
end DL
namespace DL
open PySem PySem.Spec PyProof.Rows L2
open AutoSeq1 (wpAny_loadPart')
end DL
namespace DL
open PySem PySem.Spec PyProof.Rows L2
section
variable {X:Cx} {e:Expr} {fe:DS->Res D} {x y:Str} {pos np apos cpos np2 apos2 cpos2:Pos}
end
abbrev okSm:V->Prop:=fun v=>∃k:Int,v=.int k/\0<=k/\k<=3
noncomputable def Al (X:Cx) (G:Hp) (x:Exn):Prop:=∀(pins:List (Addr×Obj)) (σ:St) (H:Hp) (s2:Shared) (δ':DS) (e:Value) (s1:Shared),Same G H->Inv X pins σ H s2->SX X pins G H s2.heap (.err x δ') e s1->X.xe e s1
noncomputable def NOX (X:Cx) (G H:Hp) (o:Out) (E:Ends):Prop:=match o with
 | .err x _=>Al X G x
 | o=>NOut X G H o E
theorem NOX.tk {X:Cx} {G H H1:Hp} {o:Out} {E:Ends} (h:NOX X G H o E) (t:TK H H1):NOX X G H1 o E:=by
 cases o with
 | stuck=>exact h
 | nxt δ=>exact fun σ' H' t' r=>h σ' H' (t.trans t') r
 | ret d=>exact fun v H' t' r=>h v H' (t.trans t') r
 | brk δ=>exact fun σ' H' t' r=>h σ' H' (t.trans t') r
 | cnt δ=>exact fun σ' H' t' r=>h σ' H' (t.trans t') r
 | err x δ=>exact h
section
variable {X:Cx} {G H:Hp} {E:Ends} {st:Stmt} {rest:List Stmt} {f g:DS->Out}
end
section
variable {X:Cx} {tg iter:Expr} {body:List Stmt} {t:TGD} {fb:DS->Out} {pos:Pos} {G H:Hp} {E:Ends}
theorem PAD.pax {es:List Expr} {fs:DS->Res (List D)} (h:PAD X es fs):PA X es (fun σ H Q=>∃G δ ds,RepSt X.K G H σ δ/\fs δ=.ok ds/\∀vs H',Same H H'->Reps X.K H' ds vs->Q vs H'):=by
 intro pos pins s σ H Q I ⟨G,δ,d,R,q,n⟩;refine wpAny_mono (h pos pins s σ G H δ I R (by rw [q]; intro z; cases z)) (fun b s1 ⟨d',v,H1,q1,I1,r1,e1,p1⟩=>?_) fun e s1 p=>?_
 ·rw [q] at q1; cases q1;exact ⟨v,H1,I1,r1,n v H1 e1 p1⟩
 ·rw [q] at p; exact p.none.elim
end
section
variable {P:Program} {w:World} {K:PySem.W.Frag} {mg:Str->Option Value} {base:Heap}
end
noncomputable def spL (K:PySem.W.Frag) (F:List D->Res D):Sp:=fun vs H Q _=>∃ds es,Reps K H ds vs/\F ds=.ok (.lst es)/\∀a xs H',Same H H'->H a=none->H' a=some (.lst xs)->Reps K H' es xs->Q (.ref a) H'
noncomputable def LSP (X:Cx) (pins:List (Addr×Obj)) (G H:Hp) (o:Out) (fl:Flow) (s1:Shared):Prop:=match fl with
 | .ret u=>∃ds a xs σ' H',o=.ret (.lst ds)/\Inv X pins σ' H' s1/\TK H H'/\Same G H'/\u=.ref a/\G a=none/\H' a=some (.lst xs)/\Reps X.K H' ds xs
 | _=>False
noncomputable def PSL (X:Cx) (st:List Stmt) (f:DS->Out):Prop :=
 ∀(pins:List (Addr×Obj)) (s:Shared) (σ:St) (G H:Hp) (δ:DS),Inv X pins σ H s->RepSt X.K G H σ δ->(∃ds,f δ=.ret (.lst ds)) ->
  wpAny (model X.prog X.w) X.A (execs st X.env) (LSP X pins G H (f δ)) (fun _ _=>False) s
section
variable {X:Cx} {st:Stmt} {rest:List Stmt} {f g:DS->Out} {pos pos':Pos}
end
section
variable {P:Program} {w:World} {K:PySem.W.Frag} {mg:Str->Option Value} {base:Heap}
theorem mz' {x qual:Str} {st:Stmt} {f:Addr} {fd:FuncData} {N ps:List Str} {k:Nat} {body:DS->Out} (F:Fun K x qual st f fd) (S:FnScope N ps (defScope st))
  (hb:∀(cdv:Value) (A:Around) (outer:List Env) (s:Shared) (H:Hp) (E:XK),Room k (A.deeper (envOfC qual (defScope st) s.heap.objs.size f cdv))->PSL (cxOf (CX1 P w) P w K mg base N qual (defScope st) f cdv A outer s H E) (defBody st) body) :
  FnOk P w K mg base (CX1 P w) (k + 1) f fd ps (spL K (fnD ps.length N.length body)):=by
 obtain ⟨oc,od,kV,doc,pm,an,cdv,ct,osl,rfl,lk,hcd⟩:=F.ex;have key:∀{ds es:List D},fnD ps.length N.length body ds=.ok (.lst es)->ds.length=ps.length/\body (startD ds.length N.length ds)=.ret (.lst es):=fun {ds es} h=>by
  unfold fnD at h
  by_cases c:ds.length=ps.length
  ·rw [if_pos c,<- c] at h;refine ⟨c,?_⟩
   cases q:body (startD ds.length N.length ds) with
   | ret d=>rw [q] at h; cases h; rfl
   | _=>rw [q] at h; cases h
  ·rw [if_neg c] at h; cases h
 refine gv' lk hcd S (fun vs H Q E ⟨ds,es,r,h,_⟩=>by rw [r.length]; exact (key h).1) fun A outer s H vs Q E hr ⟨ds,es,r,h,hQ⟩=>?_;obtain ⟨c,h⟩:=key h;refine ⟨fun D σ H2=>∃G δ,RepSt K G H2 σ δ/\(∃ds,body δ=.ret (.lst ds))/\∀pins fl s1,LSP (cxOf (CX1 P w) P w K mg base N qual (defScope st) f cdv A outer s H E) pins G H2 (body δ) fl s1->SP (cxOf (CX1 P w) P w K mg base N qual (defScope st) f cdv A outer s H E) pins D fl s1,?_,H,startD ds.length N.length ds,cL' N r,⟨_,h⟩,fun pins fl s1 p=>?_⟩
 ·intro pins s2 σ H2 D I ⟨G,δ,R,n,k1⟩;exact wpAny_mono (hb cdv A outer s H E hr pins s2 σ G H2 δ I R n) (fun fl s1 p=>k1 pins fl s1 p) fun _ _ z=>z.elim
 ·cases fl with
  | ret u =>
   obtain ⟨es',a,xs,σ',H',q1,q2,q3,q4,q5,q6,q7,q8⟩:=p;rw [h] at q1; cases q1;exact ⟨.ref a,σ',H',q2,q5,hQ a xs H' q4 q6 q7 q8⟩
  | _=>exact p.elim
end
noncomputable def giveL (F:List D->Res D):List D->Res D:=fun ds=>match F ds with
 | .ok (.lst es)=>.ok (.lst es)
 | _=>.stuck
section
variable {prog:Program} {w:World} {A:Around} {E:Value->Shared->Prop} {s:Shared} {I:Addr} {fp wr:List Addr} {G:Array GenState->Array GenState->Prop} {n:Nat} {P:Nat->Value->Prop} {St:Nat->Shared->Prop}
end
theorem do' {K:PySem.W.Frag} {H:Hp} {f:Str} {d:D}:∀{fs:List Str} {ds:List D} {us:List V},Reps K H ds us->(fs.zip ds).lookup f=some d->∃v,(fs.zip us).lookup f=some v/\Rep K H d v
 | [],_,_,_,h=>by simp at h
 | _ :: _,[],_,_,h=>by simp at h
 | g :: fs,d' :: ds,us,r,h=>by
  obtain ⟨v,vs,rfl,r1,r2⟩:=r.cons_of;rw [List.zip_cons_cons,List.lookup_cons] at h ⊢
  cases e:f == g with
  | true=>rw [e] at h; cases h; exact ⟨v,rfl,r1⟩
  | false=>rw [e] at h; exact do' r2 h
theorem dK' {m:Str}:∀{fs:List Str} {us:List V},fs.contains m=false->(fs.zip us).lookup m=none
 | [],_,_=>by simp
 | _ :: _,[],_=>by simp
 | g :: fs,u :: us,h=>by
  rw [List.contains_cons,Bool.or_eq_false_iff] at h;rw [List.zip_cons_cons,List.lookup_cons,h.1];exact dK' h.2
theorem repO {K:PySem.W.Frag} {H:Hp} {c:Str} {fs:List Str} {ds:List D} {v:V} (h:Rep K H (.obj c fs ds) v):∃a C dx us,v=.ref a/\PySem.W.nsIn K mainGlobals c=some (some (.ref C))/\H a=some (.ins C dx (fs.zip us))/\fs.length=us.length/\Reps K H ds us:=by
 rw [Rep] at h; exact h
noncomputable def OcF (K:PySem.W.Frag) (isO:Str->Bool) (f:Str):Prop:=∀c,isO c=true->∀C,PySem.W.nsIn K mainGlobals c=some (some (.ref C))->Cls K C/\NoAttr K C f
noncomputable def OcM (K:PySem.W.Frag) (isO:Str->Bool) (m:Str) (g:Addr):Prop:=∀c,isO c=true->∀C,PySem.W.nsIn K mainGlobals c=some (some (.ref C))->Cls K C/\Meth K C m g
noncomputable def fldG (isO:Str->Bool) (f:Str):D->Res D
 | .obj c fs ds=>if isO c=true then (match (fs.zip ds).lookup f with | some d=>.ok d | none=>.stuck) else .stuck
 | _=>.stuck
noncomputable def methO (isO:Str->Bool) (m:Str) (F:List D->Res D):D->Res D
 | .obj c fs ds=>if isO c=true/\fs.contains m=false then F [.obj c fs ds] else .stuck
 | _=>.stuck
section
variable {X:Cx} {e:Expr} {fe:DS->Res D} {f m:Str} {pos apos:Pos} {isO:Str->Bool} {F:List D->Res D}
theorem jz' (hO:OcF X.K isO f) (he:PD X e fe) (hb:attributeBase e f X.env (eval e X.env)=eval e X.env:=by rfl):PD X (.Attribute e f pos) (fun δ=>(fe δ).bind (fldG isO f)):=by
 intro pins s σ G H δ I R hs
 try dsimp only at hs ⊢
 refine jP' hb (he.use I R (az' hs) (fun d u s1 v H1 q I1 r1 e1 b1 p1=>?_) fun e s1 q=>q.same fun x z=>aB' z);have hd:=aD' hs q
 cases d with
 | obj c fs ds =>
  have hc:isO c=true:=by
   by_cases z:isO c=true
   ·exact z
   ·exact absurd (if_neg z) hd
  have hd':(match (fs.zip ds).lookup f with | some d=>Res.ok d | none=>.stuck)≠.stuck:=fun z=>hd ((if_pos hc).trans z)
  cases l:(fs.zip ds).lookup f with
  | none=>rw [l] at hd'; exact (hd' rfl).elim
  | some d =>
   obtain ⟨a,C,dx,us,rfl,hC,hH,hl,rr⟩:=repO p1
   cases r1
   obtain ⟨cl,no⟩:=hO c hc C hC;obtain ⟨v,lv,rv⟩:=do' rr l
   refine fM' I1 hH cl no lv fun u' s2 I2 ru=>⟨d,v,H1,?_,I2,ru,e1,rv⟩;rw [q,Res.bind_ok];show (if isO c=true then _ else _)=_
   rw [if_pos hc,l]
 | _=>exact absurd rfl hd
theorem mA' {k:Nat} {f:Addr} {fd:FuncData} {ps:List Str} {pins:List (Addr×Obj)} {σ:St} {H:Hp} {s:Shared} {ds:List D} {vs:List V} {us:List Value} (Fn:FnOk X.prog X.w X.K X.mg X.base (CX1 X.prog X.w) k f fd ps (spD X.K F)) (hr:Room k X.A) (hb:Binds X.K fd ps []) (I1:Inv X pins σ H s) (p1:Reps X.K H ds vs) (r1:Vals vs us) (h2:F ds≠.stuck) :
  wpAny (model X.prog X.w) X.A (call (.ref f) us) (fun u s1=>∃d v H',F ds=.ok d/\Inv X pins σ H' s1/\RelV v u/\Same H H'/\Rep X.K H' d v) (XPost X pins σ H s.heap (F ds)) s:=by
 cases qg:F ds with
 | stuck=>exact (h2 qg).elim
 | ok d =>
  have hsp:spD X.K F vs H (fun v H'=>Same H H'/\Rep X.K H' d v) (fun _ _ _=>False):=⟨ds,p1,by rw [qg]; exact fun v H' a b=>⟨a,b⟩⟩;have hl:us.length=ps.length:=by rw [<- r1.length]; exact Fn.len _ _ _ _ hsp
  refine wpAny_call (codeAny_mono (Fn.run X.A X.stack s H ⟨us,[]⟩ us vs _ _ hr I1.env0 (by simpa using hb s us I1.kIn (by simpa using hl)) r1 hsp) fun r s' hq=>?_)
  cases r with
  | error e=>obtain ⟨_,_,_,_,_,_,_,_,_,_,z⟩:=hq; exact z.elim
  | ok fl =>
   cases fl with
   | ret u =>
    obtain ⟨v,H',I',r',e',p'⟩:=I1.after hq;exact ⟨d,v,H',rfl,I',r',e',p'⟩
   | next=>exact False.elim hq
   | brk=>exact False.elim hq
   | cont=>exact False.elim hq
 | err z =>
  have hsp:spD X.K F vs H (fun v H'=>False) (fun Cv dd H'=>∃C,Cv=.ref C/\PySem.W.nsIn X.K mainGlobals z.cls=some (some (.ref C))/\Same H H'/\Pay X.K H' z dd):=⟨ds,p1,by rw [qg]; exact fun C H' dd a b c=>⟨C,rfl,a,b,c⟩⟩;have hl:us.length=ps.length:=by rw [<- r1.length]; exact Fn.len _ _ _ _ hsp
  refine wpAny_call (codeAny_mono (Fn.run X.A X.stack s H ⟨us,[]⟩ us vs _ _ hr I1.env0 (by simpa using hb s us I1.kIn (by simpa using hl)) r1 hsp) fun r s' hq=>?_)
  cases r with
  | error e =>
   obtain ⟨a,Cv,H',rfl,os,bare,un,hok,dd,fly,C,rfl,hC,sm,pay⟩:=hq;exact ⟨z,a,C,H',rfl,rfl,I1.call' (ch:=[]) os un hok bare (fun b z=>absurd z (by simp)),sm,hC,dd,pay,fly⟩
  | ok fl =>
   cases fl with
   | ret u =>
    obtain ⟨v,H',_,_,_,_,_,z⟩:=hq;exact z.elim
   | next=>exact False.elim hq
   | brk=>exact False.elim hq
   | cont=>exact False.elim hq
end
noncomputable def Okm (P:Program) (w:World) (K:PySem.W.Frag) (mg:Str->Option Value) (base:Heap) (k:Nat) (isO:Str->Bool) (m:Str) (F:List D->Res D):Prop :=
 ∃(f:Addr) (fd:FuncData) (ps:List Str),FnOk P w K mg base (CX1 P w) k f fd ps (spD K F)/\Binds K fd ps []/\OcM K isO m f
noncomputable def Okml (P:Program) (w:World) (K:PySem.W.Frag) (mg:Str->Option Value) (base:Heap) (k:Nat) (isO:Str->Bool) (m:Str) (F:List D->Res D):Prop :=
 ∃(f:Addr) (fd:FuncData) (ps:List Str),FnOk P w K mg base (CX1 P w) k f fd ps (spL K F)/\Binds K fd ps []/\OcM K isO m f
section
variable {X:Cx} {o:Expr} {fo:DS->Res D} {m:Str} {pos apos:Pos} {isO:Str->Bool} {F:List D->Res D} {j k:Nat}
theorem fx' {isO:Str->Bool} {m:Str} {F:List D->Res D} {d:D} (h:methO isO m F d≠.stuck):∃c fs ds,d=.obj c fs ds/\isO c=true/\fs.contains m=false/\methO isO m F d=F [d]:=by
 cases d with
 | obj c fs ds =>
  by_cases z:isO c=true/\fs.contains m=false
  ·exact ⟨c,fs,ds,rfl,z.1,z.2,if_pos z⟩
  ·exact absurd (if_neg z) h
 | _=>exact absurd rfl h
theorem clm {pl:Sem Bool} (Fn:Okm X.prog X.w X.K X.mg X.base j isO m F) (hr:Room k X.A) (he:PD X o fo) (hj:j<=k:=by first | decide | omega)
  (ht:eval (.Call (.Attribute o m apos) [] [] pos) X.env=(do
   let ov <- eval o X.env
   standAt apos.atName
   let (f,first) <- holding [ov] (getMethod ov m pl)
   callWith pos f first (backTo pos (starEach [] X.env)) (backToKw pos (keywordEach [] X.env))):=by rfl) :
  PD X (.Call (.Attribute o m apos) [] [] pos) (fun δ=>(fo δ).bind (methO isO m F)):=by
 obtain ⟨f,fd,ps,Fn,hb,M⟩:=Fn;intro pins s σ G H δ I R hs
 try dsimp only at hs ⊢
 refine PySem.W.methodCall_KW (pl:=pl) (he.use I R (az' hs) (fun d u s1 v H1 q I1 r1 e1 b1 p1=>?_) fun e s1 q=>q.same fun x z=>aB' z) ht;have hd:=aD' hs q;obtain ⟨c,fs,ds,rfl,hc,hm,ev⟩:=fx' hd;have p1':=p1;obtain ⟨a,C,dx,us,rfl,hC,hH,hl,rr⟩:=repO p1
 cases r1
 obtain ⟨cl,mt⟩:=M c hc C hC;have ev2:(fo δ).bind (methO isO m F)=F [.obj c fs ds]:=by rw [q,Res.bind_ok,ev]
 refine di' I1 hH cl mt (dK' hm) (PySem.W.callWith_K0 (first:=[.ref a]) I1.kIn mt.kp ?_)
 refine wpAny_mono (mA' (Fn.mono hj) hr hb I1 (Reps.cons p1' .nil) (.cons rfl .nil) (by rw [<- ev]; exact hd)) (fun u s2 ⟨d,v,H',w1,w2,w3,w4,w5⟩=>⟨d,v,H',ev2.trans w1,w2,w3,e1.trans w4,w5⟩) fun e s2 z=>?_;exact z.back e1 b1 fun x w=>ev2.trans w
theorem clml {pl:Sem Bool} (Fn:Okml X.prog X.w X.K X.mg X.base j isO m F) (hr:Room k X.A) (he:PD X o fo) (hj:j<=k:=by first | decide | omega)
  (ht:eval (.Call (.Attribute o m apos) [] [] pos) X.env=(do
   let ov <- eval o X.env
   standAt apos.atName
   let (f,first) <- holding [ov] (getMethod ov m pl)
   callWith pos f first (backTo pos (starEach [] X.env)) (backToKw pos (keywordEach [] X.env))):=by rfl) :
  PDL X (.Call (.Attribute o m apos) [] [] pos) (fun δ=>(fo δ).bind (methO isO m (giveL F))):=by
 obtain ⟨f,fd,ps,Fn,hb,M⟩:=Fn;have Fn:=Fn.mono hj;intro pins s σ G H δ I R hs
 try dsimp only at hs ⊢
 refine PySem.W.methodCall_KW (pl:=pl) (he.use I R (az' hs) (fun d u s1 v H1 q I1 r1 e1 b1 p1=>?_) fun e s1 q=>q.same fun x z=>aB' z) ht;have hd:=aD' hs q;obtain ⟨c,fs,ds,rfl,hc,hm,ev⟩:=fx' hd;have p1':=p1;obtain ⟨a,C,dx,us,rfl,hC,hH,hl,rr⟩:=repO p1
 cases r1
 obtain ⟨cl,mt⟩:=M c hc C hC;refine di' I1 hH cl mt (dK' hm) (PySem.W.callWith_K0 (first:=[.ref a]) I1.kIn mt.kp ?_)
 rw [ev] at hd;unfold giveL at hd
 split at hd
 ·rename_i es' qg;have ev2:(fo δ).bind (methO isO m (giveL F))=.ok (.lst es'):=by rw [q,Res.bind_ok,ev]; unfold giveL; rw [qg]
  have hsp:spL X.K F [.ref a] H1 (fun v H'=>∃a xs,v=.ref a/\Same H1 H'/\H1 a=none/\H' a=some (.lst xs)/\Reps X.K H' es' xs) (fun _ _ _=>False):=⟨_,es',Reps.cons p1' .nil,qg,fun a xs H' a1 a2 a3 a4=>⟨a,xs,rfl,a1,a2,a3,a4⟩⟩;have hl':[Value.ref a].length=ps.length:=Fn.len _ _ _ _ hsp;refine wpAny_call (codeAny_mono (Fn.run X.A X.stack s1 H1 ⟨[.ref a],[]⟩ [.ref a] [.ref a] _ _ hr I1.env0 (by simpa using hb s1 [.ref a] I1.kIn (by simpa using hl')) (.cons rfl .nil) hsp) fun r s' hq=>?_)
  cases r with
  | error e=>obtain ⟨_,_,_,_,_,_,_,_,_,_,z⟩:=hq; exact z.elim
  | ok fl =>
   cases fl with
   | ret u =>
    obtain ⟨v,H',I',r',b,xs,rfl,e',h1,h3,h4⟩:=I1.after hq;exact ⟨es',b,xs,H',ev2,I',r',e1.trans e',e1.free h1,h3,h4⟩
   | next=>exact False.elim hq
   | brk=>exact False.elim hq
   | cont=>exact False.elim hq
 ·exact (hd rfl).elim
theorem iN' {e:Expr} {fe:DS->Res D} (he:PDL X e fe):PSL X [.Return (some e) pos] (retD fe):=by
 intro pins s σ G H δ I R ⟨ds,ee⟩;have q:fe δ=.ok (.lst ds):=by
  unfold retD at ee
  cases z:fe δ with
  | ok d=>rw [z] at ee; cases ee; rfl
  | stuck=>rw [z] at ee; cases ee
  | err x=>rw [z] at ee; cases ee
 refine wpAny_execs_cons (wpAny_Return_some (wpAny_mono (he pins s σ G H δ I R (by rw [q]; intro z; cases z)) (fun u s1 ⟨ds',a,xs,H1,q1,q2,q3,q4,q5,q6,q7⟩=>?_) fun e s1 z=>?_))
 ·rw [q] at q1; cases q1;exact ⟨ds,a,xs,σ,H1,ee,q2,q4.tk,R.same.trans q4,q3,R.same.free q5,q6,q7⟩
 ·rw [q] at z; exact z.none.elim
end
noncomputable def spN (K:PySem.W.Frag) (C:Addr) (fs:List Str) (g:List D->Res (List D)):Sp:=fun vs H Q _=>∃a dx ds us es,vs=.ref a :: us/\H a=some (.ins C dx [])/\Reps K H ds us/\g ds=.ok es /\
 ∀H' ws,(∀b o,b≠a->H b=some o->H' b=some o)->H' a=some (.ins C dx (fs.zip ws))->fs.length=ws.length->Reps K H' es ws->Q .non H'
noncomputable def newO (x:Str) (fs:List Str) (g:List D->Res (List D)):List D->Res D:=fun ds=>match g ds with
 | .ok es=>.ok (.obj x fs es)
 | _=>.stuck
noncomputable def Okn (P:Program) (w:World) (K:PySem.W.Frag) (mg:Str->Option Value) (base:Heap) (k:Nat) (x:Str) (fs:List Str) (g:List D->Res (List D)):Prop :=
 ∃(C f:Addr) (fd:FuncData) (ps:List Str),Mk K C f/\FnOk P w K mg base (CX1 P w) k f fd ps (spN K C fs g)/\Binds K fd ps []/\mg x=some (.ref C)/\PySem.W.nsIn K mainGlobals x=some (some (.ref C))
theorem kr' {X:Cx}:Passes (CX1 X.prog X.w) X (fun _ _ _=>False):=fun _ _ _ _ _ _ _ h=>by
 obtain ⟨_,_,_,_,_,_,_,_,_,_,z⟩:=h; exact z.elim
theorem cln {X:Cx} {j k:Nat} {fs:List Str} {g:List D->Res (List D)} {x:Str} {p pos:Pos} {e:Expr} {es:List Expr} {fa:DS->Res (List D)} (Fn:Okn X.prog X.w X.K X.mg X.base j x fs g) (hr:Room k X.A) (ha:PAD X (e :: es) fa)
  (hj:j + 1<=k:=by first | decide | omega) (hg:Gl X x:=by exact rfl) (hdb:(x == ("__debug__" : Str))=false:=by decide) (he:starEach (e :: es) X.env=(false,eval e X.env) :: starEach es X.env:=by rfl) (hpl:(backTo pos (starEach es X.env)).any (·.1)=false:=by rfl) :
  PD X (.Call (.Name x p) (e :: es) [] pos) (fun δ=>(fa δ).bind (newO x fs g)):=by
 obtain ⟨C,f,fd,ps,M,Fn,hb,hm,hn⟩:=Fn;intro pins s σ G H δ I R hs
 try dsimp only at hs ⊢
 refine wpAny_Call_Name_kw (bh' I hg hm ?_ hdb);refine PySem.W.callWith_K (h₀:=X.base) I.ok.mod.kin M.kp (ha.use I R (az' hs) (fun ds us s1 vs H1 q I1 r1 e1 b1 p1=>⟨I1.kIn,?_⟩) fun e s1 q=>q.same fun x z=>aB' z) he hpl;have h2:=aD' hs q;unfold newO at h2
 split at h2
 ·rename_i es' qg;have ev:(fa δ).bind (newO x fs g)=.ok (.obj x fs es'):=by rw [q,Res.bind_ok]; unfold newO; rw [qg]
  refine wpAny_mono (ik' (X:=X.wish fun _ _=>False) (E:=fun _ _ _=>False) (dvs:=[]) (Q:=fun v H'=>Same H1 H'/\Rep X.K H' (.obj x fs es') v) M Fn (hr.mono hj) hb .nil (fun _ _ _ _ _ _ _ h=>by obtain ⟨_,_,_,_,_,_,_,_,_,_,z⟩:=h; exact z.elim) (I1.wish _) r1 fun a dx na nd ne=>?_) (fun u s2 ⟨v,H',I2,rv,sm,rp⟩=>⟨_,v,H',ev,I2.unwish,rv,e1.trans sm,rp⟩) fun _ _ z=>z.elim;have sm:Same H1 (upd (upd H1 dx (.own a)) a (.ins C dx [])):=fun b o h=>by
   have b1:b≠a:=fun z=>by subst z; rw [na] at h; cases h
   have b2:b≠dx:=fun z=>by subst z; rw [nd] at h; cases h
   rw [ai' b1,ai' b2]; exact h
  refine ⟨a,dx,ds,vs,es',by simp,aj',p1.mono sm,qg,fun H' ws k1 k2 k3 k4=>⟨rfl,fun b o h=>?_,?_⟩⟩
  ·have b1:b≠a:=fun z=>by subst z; rw [na] at h; cases h
   exact k1 b o b1 (sm b o h)
  ·rw [Rep]; exact ⟨a,C,dx,ws,rfl,hn,k2,k3,k4⟩
 ·exact (h2 rfl).elim
noncomputable def spB (K:PySem.W.Frag) (f1 f2 f3:Str):Sp:=fun vs H Q _=>∃a C dx w o n,vs=[.ref a,w,o,n]/\H a=some (.ins C dx [])/\Cls K C/\NoAttr K C f1/\NoAttr K C f2/\NoAttr K C f3/\Q .non (upd H a (.ins C dx [(f1,w),(f2,o),(f3,n)]))
section
variable {P:Program} {w:World} {K:PySem.W.Frag} {mg:Str->Option Value} {base:Heap}
theorem du' {H:Hp} {a:Addr} {o o':HO}:upd (upd H a o) a o'=upd H a o':=by
 funext b; unfold upd; split <;> rfl
theorem ks' {x qual:Str} {st:Stmt} {f:Addr} {fd:FuncData} {p1 p2 p3:Str} {k:Nat} (F:Fun K x qual st f fd) (S:FnScope ["self",p1,p2,p3] ["self",p1,p2,p3] (defScope st)) {f1 f2 f3:Str} (h12:f1≠f2) (h13:f1≠f3) (h23:f2≠f3)
  (hb:∀(cdv:Value) (A:Around) (outer:List Env) (s:Shared) (H:Hp) (E:XK),PSs (cxOf (CX1 P w) P w K mg base ["self",p1,p2,p3] qual (defScope st) f cdv A outer s H E) (defBody st) (tSeq (sFld K (tVar 0) (tVar 1) f1) (tSeq (sFld K (tVar 0) (tVar 2) f2) (sFld K (tVar 0) (tVar 3) f3)))) :
  FnOk P w K mg base (CX1 P w) (k + 1) f fd ["self",p1,p2,p3] (spB K f1 f2 f3):=by
 obtain ⟨oc,od,kV,doc,pm,an,cdv,ct,osl,rfl,lk,hcd⟩:=F.ex;refine gv' lk hcd S (fun vs H Q E ⟨a,C,dx,w1,o,n,h,_⟩=>by rw [h]; rfl) fun A outer s H vs Q E hr ⟨a,C,dx,w1,o,n,h,hH,cl,n1,n2,n3,hQ⟩=>⟨_,hb cdv A outer s H E,?_⟩;subst h;refine ⟨w1,rfl,.ref a,rfl,a,C,dx,[],rfl,hH,cl,n1,by decide,?_⟩;refine ⟨o,rfl,.ref a,rfl,a,C,dx,_,rfl,aj',cl,n2,show 1 < 1000 by decide,?_⟩;refine ⟨n,rfl,.ref a,rfl,a,C,dx,_,rfl,aj',cl,n3,?_,?_⟩
 ·simp only [putF,if_neg h12]; exact (show 2 < 1000 by decide)
 ·simp only [du',putF,if_neg h12,if_neg h13,if_neg h23];exact hQ
end
structure BI (K:PySem.W.Frag) (B fB:Addr):Prop where
 y1:PySem.W.specialIn K (.ref B) "__getattribute__" = some (some (.builtin "type.__getattribute__"))
 y2:PySem.W.readsIn K B (.type "type")=true
 y3:PySem.W.findCls K (.ref B) (.type "type") "__init__" = some (.val (.ref fB))
 kp:PySem.W.keepIn K (.ref fB)=true
section
variable {X:Cx} {B fB:Addr} {y:Str} {np apos pos:Pos} {a:Expr} {es:List Expr} {ta:TA}
theorem iO' {pl:Sem Bool} {j k:Nat} {fd:FuncData} {ps:List Str} {sp:Sp} (Z:BI X.K B fB) (Fn:FnOk X.prog X.w X.K X.mg X.base (CX1 X.prog X.w) j fB fd ps sp) (hr:Room k X.A) (hj:j<=k) (hb:Binds X.K fd ps []) (hg:Gl X y) (hm:X.mg y=some (.ref B)) (ha:PA X (a :: es) ta) (hdb:(y == ("__debug__" : Str))=false:=by decide)
  (hst:starEach (a :: es) X.env=(false,eval a X.env) :: starEach es X.env:=by rfl) (hpl:(backTo pos (starEach es X.env)).any (·.1)=false:=by rfl)
  (ht:eval (.Call (.Attribute (.Name y np) "__init__" apos) (a :: es) [] pos) X.env=(do
   let ov <- eval (.Name y np) X.env
   standAt apos.atName
   let (f,first) <- holding [ov] (getMethod ov "__init__" pl)
   callWith pos f first (backTo pos (starEach (a :: es) X.env)) (backToKw pos (keywordEach [] X.env))):=by rfl) :
  PE X (.Call (.Attribute (.Name y np) "__init__" apos) (a :: es) [] pos) (fun σ H Q=>ta σ H fun vs H1=>sp vs H1 Q (fun _ _ _=>False)):=by
 intro pins s σ H Q I h;refine PySem.W.methodCall_KW (pl:=pl) (bh' I hg hm ?_ hdb) ht;refine PySem.W.method_cls I.kIn Z.y1 (PySem.W.cls_value I.kIn Z.y2 Z.y3 rfl ?_);refine PySem.W.callWith_K (h₀:=X.base) I.ok.mod.kin Z.kp (thn (ha pos pins _ σ H _ (I.tok _) h) fun us s1 ⟨vs,H1,I1,r,q⟩=>⟨I1.kIn,?_⟩) hst hpl;exact lp' (dvs:=[]) (Fn.mono hj) hr hb .nil kr' I1 r (by simpa using q)
end
mutual
noncomputable def noO:D->Bool
 | .tup ds=>noOs ds
 | .lst ds=>noOs ds
 | .obj _ _ _=>false
 | .excf _ _ _=>false
 | _=>true
noncomputable def noOs:List D->Bool
 | []=>true
 | d :: ds=>noO d && noOs ds
end
mutual
theorem Rep.oset {K:PySem.W.Frag} {H:Hp} {a C dx:Addr} {xs:List (Str×V)} {o:HO} (hH:H a=some (.ins C dx xs)):∀{d:D} {v:V},noO d=true->Rep K H d v->Rep K (upd H a o) d v
 | .non,v,_,h=>by rw [Rep] at h ⊢; exact h
 | .bl _,v,_,h=>by rw [Rep] at h ⊢; exact h
 | .int _,v,_,h=>by rw [Rep] at h ⊢; exact h
 | .str _,v,_,h=>by rw [Rep] at h ⊢; exact h
 | .lst ds,v,hf,h=>by
  obtain ⟨b,zs,rfl,hq,r⟩:=repL h;rw [Rep];refine ⟨b,zs,rfl,?_,Reps.oset hH (by rw [noO] at hf; exact hf) r⟩;rcases hq with (hq | ⟨o,hq⟩) | hq
  ·exact .inl (.inl (by rw [ai' (fun z=>by subst z; rw [hH] at hq; cases hq)]; exact hq))
  ·exact .inl (.inr ⟨o,by rw [ai' (fun z=>by subst z; rw [hH] at hq; cases hq)]; exact hq⟩)
  ·exact .inr hq
 | .tup ds,v,hf,h=>by
  obtain ⟨b,zs,rfl,hq,r⟩:=repT h;rw [Rep];refine ⟨b,zs,rfl,?_,Reps.oset hH (by rw [noO] at hf; exact hf) r⟩;rcases hq with (hq | ⟨o,hq⟩) | hq
  ·exact .inl (.inl (by rw [ai' (fun z=>by subst z; rw [hH] at hq; cases hq)]; exact hq))
  ·exact .inl (.inr ⟨o,by rw [ai' (fun z=>by subst z; rw [hH] at hq; cases hq)]; exact hq⟩)
  ·exact .inr hq
 | .exc n,v,_,h=>by
  rw [Rep] at h ⊢;obtain ⟨b,C,rfl,hC,hb⟩:=h;exact ⟨b,C,rfl,hC,by rw [ai' (fun z=>by subst z; rw [hH] at hb; cases hb)]; exact hb⟩
 | .excf n f d,v,hf,h=>by rw [noO] at hf; cases hf
 | .obj n f d,v,hf,h=>by rw [noO] at hf; cases hf
 | .dct,v,_,h=>by
  rw [Rep] at h ⊢;obtain ⟨b,rfl,hb⟩:=h;exact ⟨b,rfl,by rw [ai' (fun z=>by subst z; rw [hH] at hb; cases hb)]; exact hb⟩
theorem Reps.oset {K:PySem.W.Frag} {H:Hp} {a C dx:Addr} {xs:List (Str×V)} {o:HO} (hH:H a=some (.ins C dx xs)):∀{ds:List D} {vs:List V},noOs ds=true->Reps K H ds vs->Reps K (upd H a o) ds vs
 | [],_,_,h=>by cases h.nil_of; exact Reps.nil
 | d :: ds,_,hf,h=>by
  rw [noOs,Bool.and_eq_true] at hf;obtain ⟨v,vs,rfl,r1,r2⟩:=h.cons_of;exact Reps.cons (Rep.oset hH hf.1 r1) (Reps.oset hH hf.2 r2)
end
noncomputable def tFl (K:PySem.W.Frag):List (Str×Nat)->TS
 | []=>tNext
 | (f,i) :: r=>tSeq (sFld K (tVar 0) (tVar i) f) (tFl K r)
theorem cB' {f:Str} {v:V}:∀{fs:List (Str×V)},(fs.map (·.1)).contains f=false->putF f v fs=fs ++ [(f,v)]
 | [],_=>rfl
 | (g,x) :: r,h=>by
  rw [List.map_cons,List.contains_cons,Bool.or_eq_false_iff] at h;have ne:¬g=f:=fun z=>by subst z; simp at h
  rw [putF,if_neg ne,cB' h.2]; rfl
noncomputable def pick (σ:St):List (Str×Nat)->Option (List V)
 | []=>some []
 | (_,i) :: r=>match σ[i]? with
  | some (some v)=>(pick σ r).map (v :: ·)
  | _=>none
theorem hw' {K:PySem.W.Frag} {D:Ends} {σ:St} {a C dx:Addr} (cl:Cls K C) (h0:σ[0]? = some (some (.ref a))):∀(l:List (Str×Nat)) (bs:List (Str×V)) (ws:List V) (H:Hp),H a=some (.ins C dx bs)->pick σ l=some ws->(∀p∈l,NoAttr K C p.1)->bs.length + l.length<=900->(bs.map (·.1) ++ l.map (·.1)).Nodup ->
  D.nx σ (upd H a (.ins C dx (bs ++ (l.map (·.1)).zip ws)))->tFl K l D σ H
 | [],bs,ws,H,hH,hp,_,_,_,h=>by
  cases hp
  rw [List.map_nil,List.zip_nil_left,List.append_nil,lF' hH] at h;exact h
 | (f,i) :: r,bs,ws,H,hH,hp,hn,hl,nd,h=>by
  unfold pick at hp
  split at hp
  ·rename_i v hv
   cases z:pick σ r with
   | none=>rw [z] at hp; cases hp
   | some us =>
    rw [z] at hp
    cases hp
    have nf:(bs.map (·.1)).contains f=false:=by
     rw [List.map_cons,List.nodup_append] at nd
     by_cases c:f∈bs.map (·.1)
     ·exact absurd rfl (nd.2.2 f c f (by simp))
     ·simpa using c
    refine ⟨v,hv,.ref a,h0,a,C,dx,bs,rfl,hH,cl,hn (f,i) (by simp),by rw [List.length_cons] at hl; omega,?_⟩;refine hw' cl h0 r (putF f v bs) us _ aj' z (fun p hp=>hn p (by simp [hp])) (by rw [cB' nf,List.length_append]; rw [List.length_cons] at hl; show _ + 1 + _<=_; omega) ?_ ?_
    ·rw [cB' nf,List.map_append,List.append_assoc];simpa using nd
    ·rw [du',cB' nf,List.append_assoc];exact h
  ·cases hp
noncomputable def gI (n:Nat) (fa:DS->Res (List D)) (ix:List Nat):List D->Res (List D):=fun ds=>match fa (none :: ds.map fun d=>some (.arg d)) with
 | .ok as=>if ds.length=n/\as.length=3/\noOs (as ++ ix.filterMap fun i=>ds[i]?)=true/\(∀i∈ix,i < ds.length) then .ok (as ++ ix.filterMap fun i=>ds[i]?) else .stuck
 | _=>.stuck
theorem eA' {K:PySem.W.Frag} {H:Hp} {ds:List D} {us:List V} {v0:V} (r:Reps K H ds us):∀(l:List (Str×Nat)),(∀p∈l,p.2 < ds.length)->∃ws,pick ((v0 :: us).map some ++ []) (l.map fun p=>(p.1,p.2 + 1))=some ws/\Reps K H (l.filterMap fun p=>ds[p.2]?) ws/\ws.length=l.length
 | [],_=>⟨[],rfl,Reps.nil,rfl⟩
 | (f,i) :: l,h=>by
  obtain ⟨ws,e,rr,hl⟩:=eA' r l fun p hp=>h p (by simp [hp]);have hi:i < ds.length:=h (f,i) (by simp);obtain ⟨v,ev,rv⟩:=r.get (List.getElem?_eq_getElem hi);refine ⟨v :: ws,?_,?_,by simp [hl]⟩
  ·have:((v0 :: us).map some ++ [])[i + 1]? = some (some v):=by simp [ev]
   show (match ((v0 :: us).map some ++ [])[i + 1]? with | some (some v)=>(pick ((v0 :: us).map some ++ []) (l.map fun p:Str×Nat=>(p.1,p.2 + 1))).map (v :: ·) | _=>none)=_
   rw [this,e]; rfl
  ·rw [List.filterMap_cons,List.getElem?_eq_getElem hi];exact Reps.cons rv rr
section
variable {P:Program} {w:World} {K:PySem.W.Frag} {mg:Str->Option Value} {base:Heap}
theorem lG' {qual:Str} {st:Stmt} {f C:Addr} {fd:FuncData} {qs:List Str} {f1 f2 f3:Str} {k:Nat} {fa:DS->Res (List D)} {l:List (Str×Nat)} (F:Fun K "__init__" qual st f fd) (S:FnScope ("self" :: qs) ("self" :: qs) (defScope st)) (cl:Cls K C) (n1:NoAttr K C f1) (n2:NoAttr K C f2) (n3:NoAttr K C f3) (nl:∀p∈l,NoAttr K C p.1) (nd:([f1,f2,f3] ++ l.map (·.1)).Nodup) (hl:l.length<=100)
  (hb:∀(cdv:Value) (A:Around) (outer:List Env) (s:Shared) (H:Hp) (E:XK),Room k (A.deeper (envOfC qual (defScope st) s.heap.objs.size f cdv))->PSs (cxOf (CX1 P w) P w K mg base ("self" :: qs) qual (defScope st) f cdv A outer s H E) (defBody st)
   (tSeq (tDrop fun σ H Q=>tCons (tVar 0) (fun σ H Q=>∃G δ ds,RepSt K G H σ δ/\fa δ=.ok ds/\∀vs H',Same H H'->Reps K H' ds vs->Q vs H') σ H fun vs H1=>spB K f1 f2 f3 vs H1 Q (fun _ _ _=>False)) (tFl K (l.map fun p=>(p.1,p.2 + 1))))) :
  FnOk P w K mg base (CX1 P w) (k + 1) f fd ("self" :: qs) (spN K C ([f1,f2,f3] ++ l.map (·.1)) (gI qs.length fa (l.map (·.2)))):=by
 have key:∀{ds es:List D},gI qs.length fa (l.map (·.2)) ds=.ok es->∃as,fa (none :: ds.map fun d=>some (.arg d))=.ok as/\ds.length=qs.length/\as.length=3/\noOs es=true/\(∀p∈l,p.2 < ds.length)/\es=as ++ l.filterMap fun p=>ds[p.2]?:=fun {ds es} h=>by
  unfold gI at h
  split at h
  ·rename_i as q
   split at h
   ·rename_i c
    cases h
    refine ⟨as,q,c.1,c.2.1,c.2.2.1,fun p hp=>c.2.2.2 _ (List.mem_map.mpr ⟨p,hp,rfl⟩),by rw [List.filterMap_map]; rfl⟩
   ·cases h
  ·cases h
 obtain ⟨oc,od,kV,doc,pm,an,cdv,ct,osl,rfl,lk,hcd⟩:=F.ex;refine gv' lk hcd S (fun vs H Q E ⟨a,dx,ds,us,es,e,hH,r,h,_⟩=>by
  obtain ⟨as,_,h2,_⟩:=key h;rw [e,List.length_cons,List.length_cons,r.length,h2]) fun A outer s H vs Q E hr ⟨a,dx,ds,us,es,e,hH,r,h,hQ⟩=>⟨_,hb cdv A outer s H E hr,?_⟩
 obtain ⟨as,q,h2,h3,ho,hi,rfl⟩:=key h;subst e;have σe:start ("self" :: qs) (V.ref a :: us)=(V.ref a :: us).map some ++ []:=by
  unfold L2.start;rw [List.length_cons,List.length_cons,r.length,h2,Nat.sub_self]; rfl
 rw [σe];obtain ⟨ws,pe,pr,pl⟩:=eA' (v0:=V.ref a) r l hi;refine ⟨.ref a,rfl,H,none :: ds.map fun d=>some (.arg d),as,⟨Same.refl H,by simp [r.length],fun i sv z=>?_,fun i j x y v _ z=>?_⟩,q,fun vs' H1 sm rv=>?_⟩
 ·cases i with
  | zero=>cases z
  | succ i =>
   rw [List.getElem?_cons_succ,List.getElem?_map] at z
   cases d:ds[i]? with
   | none=>rw [d] at z; cases z
   | some d' =>
    rw [d] at z; cases z;obtain ⟨v,e1,e2⟩:=r.get d;exact ⟨v,by simp [e1],e2⟩
 ·cases i with
  | zero=>cases z
  | succ i =>
   rw [List.getElem?_cons_succ,List.getElem?_map] at z
   cases d:ds[i]? with
   | none=>rw [d] at z; cases z
   | some d'=>rw [d] at z; cases z
 ·have l3:=rv.length;rw [h3] at l3
  match vs',l3 with
  | [v1,v2,v3],_ =>
   refine ⟨a,C,dx,v1,v2,v3,rfl,sm a _ hH,cl,n1,n2,n3,?_⟩;refine hw' cl rfl _ _ ws _ aj' pe (fun p hp=>?_) (by simp; omega) ?_ ?_
   ·obtain ⟨p',hp',rfl⟩:=List.mem_map.mp hp;exact nl p' hp'
   ·simpa [Function.comp_def] using nd
   ·rw [du'];have ez:([(f1,v1),(f2,v2),(f3,v3)] ++ ((l.map fun p=>(p.1,p.2 + 1)).map (·.1)).zip ws)=([f1,f2,f3] ++ l.map (·.1)).zip ([v1,v2,v3] ++ ws):=by
     simp [Function.comp_def]
    rw [ez];refine hQ _ ([v1,v2,v3] ++ ws) (fun b o hb hh=>by rw [ai' hb]; exact sm b o hh) aj' (by simp [pl]) ?_;exact Reps.oset (sm a _ hH) ho (rv.append (pr.mono sm))
end
end DL
namespace DL
open PySem PySem.Spec PyProof.Rows L2
noncomputable def LkA (K:PySem.W.Frag) (f:Addr) (x qual:Str) (st:Stmt):Prop:=∃fd:FuncData,Fun K x qual st f fd
section
variable {K:PySem.W.Frag} {f:Addr} {x qual:Str} {st:Stmt}
theorem lka_mk {oc:Value} {od an:Option Addr} {osl:Array (Option Value)} {kV doc pm cdv ct:Value} (l:K.lookup f=some ⟨oc,od,.func (PySem.W.fnOf x qual (defArgs st) (defBody st) (defScope st) .none kV doc pm an cdv ct),osl⟩)
  (c:PySem.W.codeIn K cdv qual=true) (k:PySem.W.keepIn K (.ref f)=true):LkA K f x qual st:=⟨_,gA' l c k⟩
noncomputable def EntM (K:PySem.W.Frag) (isO:Str->Bool) (m qual:Str) (st:Stmt) (ps:List Str):Prop:=∃(f:Addr) (fd:FuncData),Fun K m qual st f fd/\Binds K fd ps []/\OcM K isO m f
theorem entm {isO:Str->Bool} (L:LkA K f x qual st) (M:OcM K isO x f) {p:Str} (hb:∀(kV doc pm:Value) (an:Option Addr) (cdv ct a:Value),bindArgs (PySem.W.fnOf x qual (defArgs st) (defBody st) (defScope st) .none kV doc pm an cdv ct) ⟨[a],[]⟩=pure [(p,a)]:=by intros; rfl):EntM K isO x qual st [p]:=by
 obtain ⟨fd,F⟩:=L;exact ⟨f,fd,F,F.binds fun _ _ _ _ _ _ us hl=>match us,hl with | [_],_=>hb _ _ _ _ _ _ _,M⟩
end
theorem fnM (P:Program) (w:World) {K:PySem.W.Frag} {mg:Str->Option Value} (base:Heap) {isO:Str->Bool} {m qual:Str} {st:Stmt} {N ps:List Str} (k:Nat) (body:DS->Out) (F:EntM K isO m qual st ps) (S:FnScope N ps (defScope st))
  (hb:∀(f:Addr) (cdv:Value) (A:Around) (outer:List Env) (s:Shared) (H:Hp) (E:XK),Room k (A.deeper (envOfC qual (defScope st) s.heap.objs.size f cdv))->PSDs (cxOf (CX1 P w) P w K mg base N qual (defScope st) f cdv A outer s H E) (defBody st) body) :
  Okm P w K mg base (k + 1) isO m (fnD ps.length N.length body):=by
 obtain ⟨f,fd,F,B,M⟩:=F;exact ⟨f,fd,ps,kb' F S (hb f),B,M⟩
theorem fnML (P:Program) (w:World) {K:PySem.W.Frag} {mg:Str->Option Value} (base:Heap) {isO:Str->Bool} {m qual:Str} {st:Stmt} {N ps:List Str} (k:Nat) (body:DS->Out) (F:EntM K isO m qual st ps) (S:FnScope N ps (defScope st))
  (hb:∀(f:Addr) (cdv:Value) (A:Around) (outer:List Env) (s:Shared) (H:Hp) (E:XK),Room k (A.deeper (envOfC qual (defScope st) s.heap.objs.size f cdv))->PSL (cxOf (CX1 P w) P w K mg base N qual (defScope st) f cdv A outer s H E) (defBody st) body) :
  Okml P w K mg base (k + 1) isO m (fnD ps.length N.length body):=by
 obtain ⟨f,fd,F,B,M⟩:=F;exact ⟨f,fd,ps,mz' F S (hb f),B,M⟩
noncomputable def Okb (P:Program) (w:World) (K:PySem.W.Frag) (mg:Str->Option Value) (base:Heap) (k:Nat) (y f1 f2 f3:Str):Prop :=
 ∃(B fB:Addr) (fd:FuncData) (ps:List Str),BI K B fB/\FnOk P w K mg base (CX1 P w) k fB fd ps (spB K f1 f2 f3)/\Binds K fd ps []/\mg y=some (.ref B)
theorem lH' {P:Program} {w:World} {K:PySem.W.Frag} {mg:Str->Option Value} {base:Heap} {k:Nat} {B fB:Addr} {y qual:Str} {st:Stmt} {p1 p2 p3 f1 f2 f3:Str} (Z:BI K B fB) (L:LkA K fB "__init__" qual st) (hm:mg y=some (.ref B)) (S:FnScope ["self",p1,p2,p3] ["self",p1,p2,p3] (defScope st)) (h12:f1≠f2) (h13:f1≠f3) (h23:f2≠f3)
  (hb:∀(cdv:Value) (A:Around) (outer:List Env) (s:Shared) (H:Hp) (E:XK),PSs (cxOf (CX1 P w) P w K mg base ["self",p1,p2,p3] qual (defScope st) fB cdv A outer s H E) (defBody st) (tSeq (sFld K (tVar 0) (tVar 1) f1) (tSeq (sFld K (tVar 0) (tVar 2) f2) (sFld K (tVar 0) (tVar 3) f3))))
  (hbi:∀(kV doc pm:Value) (an:Option Addr) (cdv ct a b c d:Value),bindArgs (PySem.W.fnOf "__init__" qual (defArgs st) (defBody st) (defScope st) .none kV doc pm an cdv ct) ⟨[a,b,c,d],[]⟩=pure [(("self" : Str),a),(p1,b),(p2,c),(p3,d)]:=by intros; rfl):Okb P w K mg base (k + 1) y f1 f2 f3:=by
 obtain ⟨fd,F⟩:=L;exact ⟨B,fB,fd,_,Z,ks' F S h12 h13 h23 hb,F.binds fun _ _ _ _ _ _ us hl=>match us,hl with | [_,_,_,_],_=>hbi _ _ _ _ _ _ _ _ _ _,hm⟩
section
variable {X:Cx} {y f1 f2 f3:Str} {np apos pos:Pos} {a:Expr} {es:List Expr} {ta:TA}
theorem pe_b {pl:Sem Bool} {j k:Nat} (Fn:Okb X.prog X.w X.K X.mg X.base j y f1 f2 f3) (hr:Room k X.A) (ha:PA X (a :: es) ta) (hj:j<=k:=by first | decide | omega) (hg:Gl X y:=by exact rfl) (hdb:(y == ("__debug__" : Str))=false:=by decide)
  (hst:starEach (a :: es) X.env=(false,eval a X.env) :: starEach es X.env:=by rfl) (hpl:(backTo pos (starEach es X.env)).any (·.1)=false:=by rfl)
  (ht:eval (.Call (.Attribute (.Name y np) "__init__" apos) (a :: es) [] pos) X.env=(do
   let ov <- eval (.Name y np) X.env
   standAt apos.atName
   let (f,first) <- holding [ov] (getMethod ov "__init__" pl)
   callWith pos f first (backTo pos (starEach (a :: es) X.env)) (backToKw pos (keywordEach [] X.env))):=by rfl) :
  PE X (.Call (.Attribute (.Name y np) "__init__" apos) (a :: es) [] pos) (fun σ H Q=>ta σ H fun vs H1=>spB X.K f1 f2 f3 vs H1 Q (fun _ _ _=>False)):=by
 obtain ⟨B,fB,fd,ps,Z,Fn,hb,hm⟩:=Fn;exact iO' Z Fn hr hj hb hg hm ha hdb hst hpl ht
end
noncomputable def EntN (K:PySem.W.Frag) (mg:Str->Option Value) (c qual:Str) (st:Stmt) (ps fs:List Str):Prop :=
 ∃(C f:Addr) (fd:FuncData),Mk K C f/\Fun K "__init__" qual st f fd/\Binds K fd ps []/\mg c=some (.ref C)/\PySem.W.nsIn K mainGlobals c=some (some (.ref C))/\Cls K C/\∀g∈fs,NoAttr K C g
theorem entn {K:PySem.W.Frag} {mg:Str->Option Value} {c qual:Str} {st:Stmt} {ps fs:List Str} {C f:Addr} (M:Mk K C f) (L:LkA K f "__init__" qual st) (hm:mg c=some (.ref C)) (hn:PySem.W.nsIn K mainGlobals c=some (some (.ref C))) (cl:Cls K C) (na:∀g∈fs,NoAttr K C g)
  (hb:∀(kV doc pm:Value) (an:Option Addr) (cdv ct:Value) (us:List Value),us.length=ps.length->bindArgs (PySem.W.fnOf "__init__" qual (defArgs st) (defBody st) (defScope st) .none kV doc pm an cdv ct) ⟨us,[]⟩=pure (ps.zip us)):EntN K mg c qual st ps fs:=by
 obtain ⟨fd,F⟩:=L;exact ⟨C,f,fd,M,F,F.binds fun kV doc pm an cdv ct us hl=>hb kV doc pm an cdv ct us hl,hm,hn,cl,na⟩
theorem dp' {P:Program} {w:World} {K:PySem.W.Frag} {mg:Str->Option Value} {base:Heap} {c qual:Str} {st:Stmt} {qs:List Str} {f1 f2 f3:Str} (k:Nat) (fa:DS->Res (List D)) (l:List (Str×Nat)) (F:EntN K mg c qual st ("self" :: qs) ([f1,f2,f3] ++ l.map (·.1))) (S:FnScope ("self" :: qs) ("self" :: qs) (defScope st)) (nd:([f1,f2,f3] ++ l.map (·.1)).Nodup) (hl:l.length<=100)
  (hb:∀(f:Addr) (cdv:Value) (A:Around) (outer:List Env) (s:Shared) (H:Hp) (E:XK),Room k (A.deeper (envOfC qual (defScope st) s.heap.objs.size f cdv))->PSs (cxOf (CX1 P w) P w K mg base ("self" :: qs) qual (defScope st) f cdv A outer s H E) (defBody st)
   (tSeq (tDrop fun σ H Q=>tCons (tVar 0) (fun σ H Q=>∃G δ ds,RepSt K G H σ δ/\fa δ=.ok ds/\∀vs H',Same H H'->Reps K H' ds vs->Q vs H') σ H fun vs H1=>spB K f1 f2 f3 vs H1 Q (fun _ _ _=>False)) (tFl K (l.map fun p=>(p.1,p.2 + 1))))) :
  Okn P w K mg base (k + 1) c ([f1,f2,f3] ++ l.map (·.1)) (gI qs.length fa (l.map (·.2))):=by
 obtain ⟨C,f,fd,M,F,B,hm,hn,cl,na⟩:=F;exact ⟨C,f,fd,_,M,lG' F S cl (na _ (by simp)) (na _ (by simp)) (na _ (by simp)) (fun p hp=>na _ (by simp only [List.mem_append,List.mem_map]; exact .inr ⟨p,hp,rfl⟩)) nd hl (hb f),B,hm,hn⟩
theorem iP' {X:Cx} {e:Expr} {fs:DS->Res (List D)} {p pos:Pos} (hg:Gl X "list") (hm:X.mg "list" = none) (ha:PAD X [e] fs) (he:starEach [e] X.env=(false,eval e X.env) :: starEach [] X.env:=by rfl) (hpl:(backTo pos (starEach [] X.env)).any (·.1)=false:=by rfl) :
  PDL X (.Call (.Name "list" p) [e] [] pos) (fun δ=>(fs δ).bind listG):=by
 intro pins s σ G H δ I R hs
 try dsimp only at hs ⊢
 refine wpAny_Call_Name_kw (bR' I hg hm boot_list (PyProof.Rows.callWith_type1 (ha.use I R (az' hs) (fun ds us s1 vs H1 q I1 r1 e1 b1 p1=>?_) fun e s1 q=>q.same fun x z=>aB' z) he hpl) (by decide) (by decide));have h2:=aD' hs q;have fin:∀{b:Addr} {ys:List V} {es:List D},vs=[.ref b]->(SqL X.K H1 b ys\/SqT X.K H1 b ys)->Reps X.K H1 es ys->listG ds=.ok (.lst es)->wpAny (model X.prog X.w) X.A (call (.type "list") us) (LPost X pins σ H ((fs δ).bind listG)) (XPost X pins σ H s.heap ((fs δ).bind listG)) s1:=fun {b ys es} ev sq rr hl=>by
  subst ev;refine wpAny_mono (dn' (X:=X) (fun _ _=>False) pins s1 σ H1 _ us (fun v H'=>∃l,v=.ref l/\H1 l=none/\H'=upd H1 l (.lst ys)) (I1.wish _) r1 ⟨b,ys,rfl,sq,fun l hl=>⟨l,rfl,hl,rfl⟩⟩) (fun u s2 ⟨v,H',I2,rv,l,ev,hl',eH⟩=>?_) fun _ _ z=>z.elim;subst ev eH;refine ⟨es,l,ys,_,by rw [q,Res.bind_ok,hl],I2.unwish,rv,e1.trans (ap' hl' _),e1.free hl',aj',rr.mono (ap' hl' _)⟩
 unfold listG at h2
 split at h2
 ·rename_i es;obtain ⟨v,vs',rfl,w1,t⟩:=p1.cons_of
  cases t.nil_of
  obtain ⟨a,ys,rfl,x1,x2⟩:=repL w1;exact fin rfl (.inl x1) x2 rfl
 ·rename_i es;obtain ⟨v,vs',rfl,w1,t⟩:=p1.cons_of
  cases t.nil_of
  obtain ⟨a,ys,rfl,x1,x2⟩:=repT w1;exact fin rfl (.inr x1) x2 rfl
 ·exact (h2 rfl).elim
noncomputable def tryNo (fb:DS->Out):DS->Out:=fun δ=>match fb δ with
 | .err _ _=>.stuck
 | o=>o
section
variable {X:Cx} {body:List Stmt} {h0:ExceptHandler} {hs:List ExceptHandler} {fb:DS->Out} {pos:Pos}
theorem hy' (hb:PSDs X body fb):PSD X (.Try body (h0 :: hs) [] [] pos) (tryNo fb):=by
 intro pins s σ G H δ I R hn;have hfb:fb δ≠.stuck:=fun z=>hn (by unfold tryNo; rw [z]);refine wpAny_Try_except (jY' (fun pins I=>hb pins s σ G H δ I R hfb) I (fun fl s1 p b=>?_) fun e s1 p=>?_)
 ·cases fl with
  | next=>obtain ⟨δ',σ',H',q1,q2⟩:=p; exact wpAny_execs_nil ⟨δ',σ',H',by unfold tryNo; rw [q1],q2⟩
  | brk=>obtain ⟨δ',σ',H',q1,q2⟩:=p; exact ⟨δ',σ',H',by unfold tryNo; rw [q1],q2⟩
  | cont=>obtain ⟨δ',σ',H',q1,q2⟩:=p; exact ⟨δ',σ',H',by unfold tryNo; rw [q1],q2⟩
  | ret u=>obtain ⟨d,v,σ',H',q1,q2⟩:=p; exact ⟨d,v,σ',H',by unfold tryNo; rw [q1],q2⟩
 ·obtain ⟨x,δ',a,C,σ',H',q1,_⟩:=p;exact (hn (by unfold tryNo; rw [q1])).elim
end
noncomputable def GTK (K:PySem.W.Frag) (x:Str) (ss:List Str):Prop:=∃a,PySem.W.nsIn K mainGlobals x=some (some (.ref a))/\∀H,Rep K H (.tup (ss.map .str)) (.ref a)
theorem jA' {K:PySem.W.Frag} {x:Str} {a:Addr} {od:Option Addr} {its:List Value} {n:Nat} {sl:Array (Option Value)} {ss:List Str} (h:PySem.W.nsIn K mainGlobals x=some (some (.ref a))) (l:K.lookup a=some ⟨.type "tuple",od,.seq its.toArray n,sl⟩) (hz:its.length<=100) (r:Vals (ss.map .str) its):GTK K x ss:=by
 refine ⟨a,h,fun H=>?_⟩;rw [Rep];refine ⟨a,_,rfl,.inr ⟨_,_,n,l,rfl,rfl,?_,by simpa using r⟩,?_⟩
 ·rw [List.size_toArray]; exact Nat.le_trans hz (by decide)
 ·clear r l hz
  induction ss with
  | nil=>exact Reps.nil
  | cons s ss ih=>exact Reps.cons (by rw [Rep]) ih
theorem gtk1 {K:PySem.W.Frag} {x:Str} {a:Addr} {od:Option Addr} {n:Nat} {t:Tok} {sl:Array (Option Value)} {s:Str} (h:PySem.W.nsIn K mainGlobals x=some (some (.ref a))) (l:K.lookup a=some ⟨.type "tuple",od,.seq #[.str s t] n,sl⟩):GTK K x [s]:=jA' (its:=[.str s t]) h l (by simp) (.cons ⟨t,rfl⟩ .nil)
theorem gtk2 {K:PySem.W.Frag} {x:Str} {a:Addr} {od:Option Addr} {n:Nat} {t t':Tok} {sl:Array (Option Value)} {s s':Str} (h:PySem.W.nsIn K mainGlobals x=some (some (.ref a))) (l:K.lookup a=some ⟨.type "tuple",od,.seq #[.str s t,.str s' t'] n,sl⟩):GTK K x [s,s']:=jA' (its:=[.str s t,.str s' t']) h l (by simp) (.cons ⟨t,rfl⟩ (.cons ⟨t',rfl⟩ .nil))
noncomputable def GT (K:PySem.W.Frag) (mg:Str->Option Value) (x:Str) (ss:List Str):Prop:=∃a,mg x=some (.ref a)/\∀H,Rep K H (.tup (ss.map .str)) (.ref a)
theorem iQ' {K:PySem.W.Frag} {mg:Str->Option Value} {h:Heap} {x:Str} {ss:List Str} (X:K.In h) (G:h.Ns mainGlobals mg) (g:GTK K x ss):GT K mg x ss:=by
 obtain ⟨a,n,r⟩:=g;exact ⟨a,PySem.W.mg_of X G n,r⟩
theorem bi' {X:Cx} {x:Str} {pos:Pos} {ss:List Str} (hg:Gl X x) (hm:GT X.K X.mg x ss) (hdb:(x == ("__debug__" : Str))=false:=by decide):PD X (.Name x pos) (fun _=>.ok (.tup (ss.map .str))):=by
 obtain ⟨a,h,r⟩:=hm;exact eP' (v:=.ref a) hg h rfl r hdb
noncomputable def joinG:D->List D->Res D
 | .str x,[.lst ds]=>(match strsOf ds with
  | some ys=>if (ys.map (·.length)).sum + ys.length * x.length<=16777216 then .ok (.str (Txt.join x ys)) else .stuck
  | none=>.stuck)
 | _,_=>.stuck
theorem kt' (d:D) (ds:List D):NoErr (joinG d ds):=by
 unfold joinG
 split
 ·split
  ·exact au' ah' ad'
  ·exact ad'
 ·exact ad'
theorem fy':∀{xs:List Str} {us:List Value},Vals (xs.map V.str) us->StrsAre us xs
 | [],_,h=>by cases h; exact .nil
 | x :: xs,_,h=>by
  cases h with
  | cons r q =>
   obtain ⟨t,rfl⟩:=r;exact .cons _ _ (fy' q)
theorem ku' {X:Cx}:MtD X "str.join" joinG:=by
 intro E pins s σ H x xs v us a ds d I r1 r2 p1 p2 e;unfold joinG at e
 split at e
 ·rename_i x es
  split at e
  ·rename_i ys hy
   split at e
   ·rename_i hp
    cases e
    rw [repS p1] at r1;obtain ⟨t,rfl⟩:=r1;obtain ⟨v2,vs,rfl,p3,t3⟩:=p2.cons_of
    cases t3.nil_of
    obtain ⟨u,rfl,r3⟩:=vals1 r2;obtain ⟨l,zs,rfl,hq,rr⟩:=repL p3
    cases r3
    rw [bY' hy] at rr;obtain ⟨its,rv,pl,hz⟩:=I.list hq;rw [ba' rr] at rv;exact join_list pl.isList (by simpa using fy' rv) hp fun t' k=>⟨_,.str _,H,rfl,I.tok _,⟨_,rfl⟩,Same.refl H,mkS'⟩
   ·cases e
  ·cases e
 ·cases e
noncomputable def notInS:D->D->Res D
 | .str x,.tup ds=>(match strsOf ds with | some xs=>.ok (.bl (!xs.contains x)) | none=>.stuck)
 | x,y=>notInD x y
theorem hA' (x y:D):NoErr (notInS x y):=by
 unfold notInS
 split
 ·split
  ·exact ah'
  ·exact ad'
 ·exact iI' _ _
theorem iR' (i:Str) (ns:List Str):inV (.str i) (ns.map V.str)=ns.contains i:=by
 unfold inV
 induction ns with
 | nil=>rfl
 | cons n ns ih =>
  rw [List.map_cons,List.any_cons,ih,List.contains_cons]
  congr 1
  show (n == i)=(i == n);exact Bool.eq_iff_iff.mpr ⟨fun h=>beq_iff_eq.mpr (beq_iff_eq.mp h).symm,fun h=>beq_iff_eq.mpr (beq_iff_eq.mp h).symm⟩
theorem hB' (ns:List Str):(ns.map V.str).all flatV=true:=by
 induction ns with
 | nil=>rfl
 | cons n ns ih=>rw [List.map_cons,List.all_cons,ih]; rfl
noncomputable def notInT:D->D->Res D
 | .str x,.tup ds=>(match strsOf ds with | some xs=>.ok (.bl (!xs.contains x)) | none=>.stuck)
 | _,_=>.stuck
theorem hC' {X:Cx}:OpD X (compareOp .NotIn) notInT:=OpD.of (r:=rIn X.K true) (fun E=>cw' (X:=X.wish E)) fun H x y a b d Q p1 p2 e q=>by
 unfold notInT at e
 split at e
 ·rename_i i ds
  split at e
  ·rename_i ns hn
   cases e
   rw [bY' hn] at p2;obtain ⟨t,xs,rfl,hq,r⟩:=repT p2;have:=ba' r;subst this;rw [repS p1];refine ⟨t,_,rfl,.inr hq,rfl,hB' ns,?_⟩;rw [if_pos rfl,iR'];exact q _ H (Same.refl H) mkB
  ·cases e
 ·cases e
theorem hD' {X:Cx}:OpD X (compareOp .NotIn) notInS:=by
 intro E pins s σ H x y v u a b d I r1 r2 p1 p2 e;unfold notInS at e
 split at e
 ·exact hC' E pins s σ H x y v u _ _ d I r1 r2 p1 p2 e
 ·exact iJ' E pins s σ H x y v u _ _ d I r1 r2 p1 p2 e
noncomputable def Itp (lo c:Int) (n:Nat):It:=⟨fun i _=>i < n,fun i H x H'=>H'=H/\x=.int (lo + (i:Nat) * c),fun i _=>n<=i⟩
theorem iS' {P:Program} {w:World} {K:PySem.W.Frag} {tg:Expr} (it:Addr) (lo c:Int) (n:Nat):Turn P w K tg (Itp lo c n) [it] it (fun i h=>IsRangeIter h it (lo + (i:Nat) * c) ((n:Int) - (i:Nat)) c) where
 mem:=by simp
 obj:=fun i h st b hb=>by
  have e:b=it:=by simpa using hb
  subst e;exact ⟨_,st,fun v z=>by
   have z':Data.fields _=Data.cell v:=z
   cases z'⟩
 keep:=fun i h h' st k=>k it (by simp) _ st
 item:=by
  intro X hP hw hK hc i pins s σ H E I hf st hg;subst hP hw hK;obtain ⟨f0,f1,f2,f3,f4,f5⟩:=hf it (by simp);have W:=Walks.range (prog:=X.prog) (w:=X.w) (I.ok.hd hc) it lo c n;refine W.item i s _ _ hg st fun v h' tk hv st' kk=>?_;obtain ⟨t,rfl⟩:=hv;have I1:Inv X pins σ H { s with heap:=h',toks:=tk }:=I.turned (fun b o hb e=>kk b o (by simpa using hb) e) f0 f1 f3 f4 f5
  exact ⟨_,rfl,gn' (s:={ s with heap:=h',toks:=tk }) (n:="range_iterator") st' rfl rfl (by decide) ⟨.int (lo + (i:Nat) * c),H,I1,⟨t,rfl⟩,⟨rfl,rfl⟩,st',fun b hb=>(hf b hb).1⟩⟩
 done:=by
  intro X hP hw hK hc i pins s σ H E I hf st hg;subst hP hw hK;obtain ⟨f0,f1,f2,f3,f4,f5⟩:=hf it (by simp);exact wpAny_pyNext_range_end (I.ok.hd hc) st (by have:n<=i:=hg; omega) fun h' eb=>⟨rfl,I.turned (t':=s.toks) (fun b o hb e=>eb b o hb e) f0 f1 f3 f4 f5⟩
 self:=fun _ _ _ _ _ st h=>wpAny_pyIter_rangeiter st h
section
variable {X:Cx} {tg:Expr}
theorem lI' {pins:List (Addr×Obj)} {σ:St} {H:Hp} {s:Shared} {R:It->Hp->Prop} {E:Value->Shared->Prop} {lo hi c:Int} {n:Nat} {t u v:Tok} {tk:Nat} (I:Inv X pins σ H s) (sm:Builtin.Range.small lo hi c=true) (hn:Builtin.Range.rangeSize lo hi c=n)
  (q:R (Itp lo c n) H):wpAny (model X.prog X.w) X.A (pyIter (.ref s.heap.objs.size)) (PIE X pins σ tg R) E { s with heap:=s.heap.push { cls:=.type "range",data:=.fields #[.int lo t,.int hi u,.int c v] },toks:=tk }:=by
 refine wpAny_pyIter_range (IsRange.new ..) sm ?_;have I1:Inv X pins σ H { s with heap:=s.heap.push { cls:=.type "range",data:=.fields #[.int lo t,.int hi u,.int c v] },toks:=tk }:=I.kept fun b o e=>Heap.get?_push_of_some _ e
 refine ⟨(s.heap.push { cls:=.type "range",data:=.fields #[.int lo t,.int hi u,.int c v] }).objs.size,[(s.heap.push { cls:=.type "range",data:=.fields #[.int lo t,.int hi u,.int c v] }).objs.size],_,_,H,rfl,
  I1.kept (t':=tk) fun b o e=>Heap.get?_push_of_some _ e,iS' _ lo c n,?_,fun b hb=>?_,q⟩
 ·have e1:lo + ((0:Nat):Int) * c=lo:=by simp
  have e2:(n:Int) - ((0:Nat):Int)=Builtin.Range.rangeSize lo hi c:=by rw [hn]; omega
  show IsRangeIter _ _ (lo + ((0:Nat):Int) * c) ((n:Int) - ((0:Nat):Int)) c;rw [e1,e2];exact Heap.get?_push_size _ rfl
 ·have e:b=(s.heap.push { cls:=.type "range",data:=.fields #[.int lo t,.int hi u,.int c v] }).objs.size:=by simpa using hb
  subst e;exact I1.fpOk (Nat.le_refl _) (I1.hok.fresh (Nat.le_refl _))
noncomputable def iStp (ta:TA):TI:=fun σ H R=>ta σ H fun vs H1=>∃(i j c:Int) (n:Nat),vs=[.int i,.int j,.int c]/\0 < c/\c < 1000/\Builtin.Range.small i j c=true/\Builtin.Range.rangeSize i j c=n/\R (Itp i c n) H1
theorem lJ' {a b c:Expr} {ta:TA} {p pos:Pos} (hg:Gl X "range") (hm:X.mg "range" = none) (ha:PA X [a,b,c] ta) (hs:starEach [a,b,c] X.env=[(false,eval a X.env),(false,eval b X.env),(false,eval c X.env)]:=by rfl) (hs2:starEach [b,c] X.env=[(false,eval b X.env),(false,eval c X.env)]:=by rfl) :
  PI X tg (.Call (.Name "range" p) [a,b,c] [] pos) (iStp ta):=by
 intro pins s σ H R I h;refine Call_ (bR' I hg hm boot_range (PyProof.Rows.callWith_type1 (thn (ha pos pins s σ H _ I h) fun us s1 ⟨vs,H1,I1,r1,q1⟩=>?_) (by rw [hs,hs2]) (by rw [hs2]; rfl)));obtain ⟨i,j,c,n,e,c0,c1,sm,hn,q⟩:=q1;subst e
 cases r1 with
 | cons r rr =>
  cases rr with
  | cons r' rr =>
   cases rr with
   | cons r2 rr =>
    cases rr
    obtain ⟨t,rfl⟩:=r;obtain ⟨t',rfl⟩:=r';obtain ⟨t2,rfl⟩:=r2;refine call_range_3 (by omega) (lI' I1 sm hn q) (.inl (PyProof.noPylong_of_log2 ?_));have:c.natAbs < 2 ^ 10:=by omega
    exact Nat.lt_of_lt_of_le ((Nat.log2_lt (by omega)).mpr this) (by decide)
end
noncomputable def stpD (lo c:Int):Nat->List D
 | 0=>[]
 | n + 1=>.int lo :: stpD (lo + c) c n
theorem bL' (c:Int):∀(n:Nat) (lo:Int),(stpD lo c n).length=n
 | 0,_=>rfl
 | n + 1,lo=>by rw [stpD,List.length_cons,bL']
theorem eB' (c:Int):∀(n i:Nat) (lo:Int),i < n->(stpD lo c n).drop i=.int (lo + (i:Nat) * c) :: (stpD lo c n).drop (i + 1)
 | 0,_,_,h=>absurd h (Nat.not_lt_zero _)
 | n + 1,0,lo,_=>by rw [stpD]; simp
 | n + 1,i + 1,lo,h=>by
  rw [stpD,List.drop_succ_cons,List.drop_succ_cons,eB' c n i (lo + c) (by omega)]
  congr 2
  rw [Int.natCast_succ,Int.add_mul]; omega
noncomputable def rngS:List D->Res (List D)
 | [.int i,.int j,.int c]=>if 0 < c/\c < 1000/\Builtin.Range.small i j c=true/\0<=Builtin.Range.rangeSize i j c then .ok (stpD i c (Builtin.Range.rangeSize i j c).toNat) else .stuck
 | _=>.stuck
section
variable {X:Cx} {tg:Expr} {t:TGD} {body:List Stmt} {fb:DS->Out} {pos:Pos} {G H:Hp} {E:Ends}
theorem kv' {lo c:Int} {n:Nat} {g:TG} {tb:TS} {D:Ends} {σ:St} {H:Hp} (Pv:Nat->St->Hp->Prop) (h0:Pv 0 σ H)
  (hs:∀i σ H,i < n->Pv i σ H->g (.int (lo + (i:Nat) * c)) σ H fun σ2 H2=>tb { D with nx:=Pv (i + 1),ct:=Pv (i + 1),bk:=D.nx } σ2 H2) (hd:∀σ H,Pv n σ H->D.nx σ H) :
  ∃W:Nat->Nat->St->Hp->Prop,(∃m,W 0 m σ H)/\∀i m σ H,W i m σ H ->
   ((Itp lo c n).stop i H/\D.nx σ H)\/((Itp lo c n).go i H/\∃N:St->Hp->Prop,(∀σ' H',N σ' H'->∃m',m' < m/\W (i + 1) m' σ' H')/\∀x H',(Itp lo c n).yld i H x H'->g x σ H' fun σ2 H2=>tb { D with nx:=N,ct:=N,bk:=D.nx } σ2 H2):=by
 refine ⟨fun i m σ H=>m=n - i/\i<=n/\Pv i σ H,⟨n,by simp,Nat.zero_le _,h0⟩,?_⟩
 rintro i m σ H ⟨rfl,hi,p⟩
 by_cases hlt:i < n
 ·refine .inr ⟨hlt,Pv (i + 1),fun σ' H' p'=>⟨n - (i + 1),by omega,rfl,hlt,p'⟩,fun x H' y=>?_⟩;obtain ⟨e,y⟩:=y;subst e y;exact hs i σ _ hlt p
 ·have e:i=n:=by omega
  subst e;exact .inl ⟨Nat.le_refl _,hd _ _ p⟩
theorem kw' {lo c:Int} {n:Nat} {δ:DS} {σ:St} (R:RepSt X.K G H σ δ) (h:NOut X G H (forD t fb (stpD lo c n) δ) E) :
  ∃W:Nat->Nat->St->Hp->Prop,(∃m,W 0 m σ H)/\∀i m σ H,W i m σ H ->
   ((Itp lo c n).stop i H/\E.nx σ H)\/((Itp lo c n).go i H/\∃N:St->Hp->Prop,(∀σ' H',N σ' H'->∃m',m' < m/\W (i + 1) m' σ' H')/\∀x H',(Itp lo c n).yld i H x H'->gD X t x σ H' fun σ2 H2=>sD X fb { E with nx:=N,ct:=N,bk:=E.nx } σ2 H2):=by
 refine kv' (fun i σ' H'=>∃δ',RepSt X.K G H' σ' δ'/\NOut X G H' (forD t fb ((stpD lo c n).drop i) δ') E) ⟨δ,R,by simpa using h⟩ ?_ ?_
 ·rintro i σ1 H1 hi ⟨δ1,R1,h1⟩
  rw [eB' c n i lo hi] at h1;exact fl' R1 mkI h1 fun δ' σ' H' _ r z=>⟨δ',r,z⟩
 ·rintro σ1 H1 ⟨δ1,R1,h1⟩
  rw [List.drop_eq_nil_of_le (by rw [bL']; exact Nat.le_refl _)] at h1;exact h1 σ1 H1 (TK.refl H1) R1
theorem df' {a b c:Expr} {fa:DS->Res (List D)} {p ps:Pos} (hc:X.calm=true) (hgl:Gl X "range") (hm:X.mg "range" = none) (ha:PAD X [a,b,c] fa) (hg:PGD X tg t) (hb:PSDs X body fb)
  (hs:starEach [a,b,c] X.env=[(false,eval a X.env),(false,eval b X.env),(false,eval c X.env)]:=by rfl) (hs2:starEach [b,c] X.env=[(false,eval b X.env),(false,eval c X.env)]:=by rfl) (hf:∀x,foldedSetIterable (.Call (.Name "range" p) [a,b,c] [] ps) X.env x=pure x:=by intro _; rfl) :
  PSD X (.For tg (.Call (.Name "range" p) [a,b,c] [] ps) body [] pos) (fun δ=>onL ((fa δ).bind rngS) fun ds=>forD t fb ds δ):=by
 refine gO' (fun δ=>jx' fun ds=>eR' t fb ds δ) fun pins s σ H E I h=>?_;obtain ⟨G,δ,R,h⟩:=h;refine jt' (X:=X.nox) PassesOwn.never hc (lJ' (X:=X.nox) hgl hm ha.pa hs hs2) hg.pg hb.ps hf pins s σ H E I ?_
 cases q:fa δ with
 | stuck=>simp only [q] at h; exact h.elim
 | err x=>simp only [q] at h; exact h.elim
 | ok ds =>
  simp only [q,Res.bind_ok] at h;refine ⟨G,δ,ds,R,q,fun vs H1 e1 p1=>?_⟩;unfold rngS at h
  split at h
  ·rename_i i j k;obtain ⟨v,ws,rfl,w1,w2⟩:=p1.cons_of;obtain ⟨v',ws',rfl,w3,w4⟩:=w2.cons_of;obtain ⟨v2,ws2,rfl,w5,w6⟩:=w4.cons_of
   cases w6.nil_of
   cases repI w1
   cases repI w3
   cases repI w5
   split at h
   ·rename_i hj;exact ⟨i,j,k,_,rfl,hj.1,hj.2.1,hj.2.2.1,(Int.toNat_of_nonneg hj.2.2.2).symm,kw' (R.mono e1) (h.tk e1.tk)⟩
   ·exact h.elim
  ·exact h.elim
end
noncomputable def isNoneO:D->D->Res D
 | .obj _ _ _,.non=>.ok (.bl false)
 | a,b=>isNoneD a b
theorem bx' (x y:D):NoErr (isNoneO x y):=by
 unfold isNoneO
 split <;> first | exact ah' | exact gX' _ _
theorem gf' {K:PySem.W.Frag} {H:Hp} {a b d:D} {x y:V} (p1:Rep K H a x) (p2:Rep K H b y) (e:isNoneO a b=.ok d):y=.non/\d=.bl (decide (x=.non)):=by
 cases a with
 | obj c fs ds =>
  cases b with
  | non=>cases e; rw [Rep] at p1; rw [Rep] at p2; subst p2; obtain ⟨_,_,_,_,rfl,_⟩:=p1; exact ⟨rfl,rfl⟩
  | _=>cases e
 | _=>exact gY' p1 p2 e
theorem dL' {X:Cx}:OpD X (compareOp .Is) isNoneO:=.of (fun _=>ln') fun H x y a b d Q p1 p2 e q=>by
 obtain ⟨h1,rfl⟩:=gf' p1 p2 e;exact ⟨h1,q _ H (Same.refl H) mkB'⟩
noncomputable def hid (H:Hp) (a:Addr):Hp:=fun b=>if b=a then none else H b
theorem dM' {H:Hp} {a:Addr}:hid H a a=none:=if_pos rfl
theorem aS' {H:Hp} {a b:Addr} (h:b≠a):hid H a b=H b:=if_neg h
theorem dN' {H:Hp} {a b:Addr} (h:H b=none):hid H a b=none:=by
 by_cases z:b=a
 ·subst z; exact dM'
 ·rw [aS' z]; exact h
section
variable {X:Cx} {pins:List (Addr×Obj)} {σ:St} {H H1:Hp} {s s1:Shared} {a:Addr} {xs:List V} {o:Obj}
theorem _root_.L2.Inv.lnofs (I:Inv X pins σ H s) (h:H a=some (.lst xs)):a∉X.fs:=fun hb=>by
 have hx:a∉X.ex:=fun z=>I.ok.exfs a z hb;obtain ⟨_,ob,e,_⟩:=I.ok.funs.mem hb;have:=I.base.free a ob e (I.ok.frf a hb) hx;rw [h] at this; cases this
theorem _root_.L2.Inv.hide (I:Inv X pins σ H s) (h:H a=some (.lst xs)):∃o,s.heap.get? a=some o/\Inv X ((a,o) :: pins) σ (hid H a) s:=by
 obtain ⟨hz,its,n,r,ho⟩:=I.hok a _ h;have ne:∀{b:Addr} {o:HO},H b=some o->(∀ys,o≠.lst ys)->hid H a b=some o:=fun {b o} e n=>by
  rw [aS' fun z=>?_]
  ·exact e
  ·subst z; rw [h] at e; cases e; exact n _ rfl
 refine ⟨_,ho,I.ok,I.os,I.bare,⟨I.base.keep,I.base.slot,fun b ob e n hx=>dN' (I.base.free b ob e n hx),I.base.there,fun b xs e=>ne (I.base.tups b xs e) (fun _ z=>nomatch z),fun b ob u e=>ne (I.base.frzs b ob u e) (fun _ z=>nomatch z),fun b ps e=>?_⟩,I.loc,I.cell,dN' I.free,fun x c e=>dN' (I.freeC x c e),fun p hp=>?_,fun b u q=>?_,I.len⟩
 ·obtain ⟨more,q⟩:=I.base.tbls b ps e;exact ⟨more,ne q (fun _ z=>nomatch z)⟩
 ·have hp':p=(a,{ cls:=.type "list",data:=.seq its.toArray n })\/p∈X.pn ++ pins:=by
   rcases List.mem_append.mp hp with q | q
   ·exact .inr (List.mem_append.mpr (.inl q))
   ·rcases List.mem_cons.mp q with q | q
    ·exact .inl q
    ·exact .inr (List.mem_append.mpr (.inr q))
  rcases hp' with rfl | hp'
  ·exact ⟨ho,dM',(fun z=>by have q:=I.free; rw [<- z] at q; exact absurd (h.symm.trans q) (fun w=>nomatch w)),I.lnofs h,fun v z=>nomatch z⟩
  ·obtain ⟨e,n,r⟩:=I.pin p hp';exact ⟨e,dN' n,r⟩
 ·by_cases z:b=a
  ·subst z; rw [dM'] at q; cases q
  ·rw [aS' z] at q;exact (I.hok b u q).stay (fun c v _ e=>e) (fun c z=>ne z (fun _ w=>nomatch w)) fun c xs z=>ne z (fun _ w=>nomatch w)
theorem _root_.L2.Inv.seen (I0:Inv X pins σ H s) (h:H a=some (.lst xs)) (ho:s.heap.get? a=some o) (I:Inv X ((a,o) :: pins) σ H1 s1):H1 a=none/\Inv X pins σ (upd H1 a (.lst xs)) s1:=by
 obtain ⟨p1,p2,p3,p4,p5⟩:=I.pin (a,o) (by simp);have p2:H1 a=none:=p2;have ne:∀{b:Addr} {o:HO},H1 b=some o->upd H1 a (.lst xs) b=some o:=fun {b o} e=>by
  rw [ai' fun z=>?_]
  ·exact e
  ·subst z; rw [p2] at e; cases e
 have non:∀{b:Addr},H b=none->H1 b=none->upd H1 a (.lst xs) b=none:=fun {b} e0 e=>by
  rw [ai' fun z=>?_]
  ·exact e
  ·subst z; rw [h] at e0; cases e0
 refine ⟨p2,I.ok,I.os,I.bare,⟨I.base.keep,I.base.slot,fun b ob e n hx=>non (I0.base.free b ob e n hx) (I.base.free b ob e n hx),I.base.there,fun b xs e=>ne (I.base.tups b xs e),fun b ob u e=>ne (I.base.frzs b ob u e),fun b ps e=>?_⟩,I.loc,I.cell,non I0.free I.free,fun x c e=>non (I0.freeC x c e) (I.freeC x c e),fun p hp=>?_,fun b u q=>?_,I.len⟩
 ·obtain ⟨more,q⟩:=I.base.tbls b ps e;exact ⟨more,ne q⟩
 ·have hp':p∈X.pn ++ ((a,o) :: pins):=by
   rcases List.mem_append.mp hp with q | q
   ·exact List.mem_append.mpr (.inl q)
   ·exact List.mem_append.mpr (.inr (List.mem_cons_of_mem _ q))
  obtain ⟨e,n,r⟩:=I.pin p hp';exact ⟨e,non (I0.pin p hp).2.1 n,r⟩
 ·by_cases z:b=a
  ·subst z;rw [aj'] at q
   cases q
   obtain ⟨hz,its,n,r,ho'⟩:=I0.hok b _ h;exact ⟨hz,its,n,r,by rw [show s1.heap.get? b=some o from p1,<- ho,ho']⟩
  ·rw [ai' z] at q;exact (I.hok b u q).stay (fun c v _ e=>e) (fun c z=>ne z) fun c xs z=>ne z
end
noncomputable def scal:D->Bool
 | .non=>true
 | .bl _=>true
 | .int _=>true
 | .str _=>true
 | _=>false
noncomputable def headS:List D->Bool
 | []=>true
 | d :: _=>scal d
mutual
noncomputable def shD:D->Bool
 | .tup ds=>shDs ds
 | .lst ds=>headS ds && shDs ds
 | .excf _ _ _=>false
 | .obj _ _ _=>false
 | _=>true
noncomputable def shDs:List D->Bool
 | []=>true
 | d :: ds=>shD d && shDs ds
end
theorem iT' {K:PySem.W.Frag} {H:Hp} {d:D} {c:Addr} (h:scal d=true) (r:Rep K H d (.ref c)):False:=by
 cases d <;> first | (rw [Rep] at r; cases r; done) | (cases h; done)
mutual
theorem Rep.hideS {K:PySem.W.Frag} {H:Hp} {a c:Addr} {ys:List V} (hH:H a=some (.lst (.ref c :: ys))):∀{d:D} {v:V},shD d=true->Rep K H d v->Rep K (hid H a) d v
 | .non,v,_,h=>by rw [Rep] at h ⊢; exact h
 | .bl _,v,_,h=>by rw [Rep] at h ⊢; exact h
 | .int _,v,_,h=>by rw [Rep] at h ⊢; exact h
 | .str _,v,_,h=>by rw [Rep] at h ⊢; exact h
 | .lst ds,v,hf,h=>by
  obtain ⟨b,zs,rfl,hq,r⟩:=repL h;rw [shD,Bool.and_eq_true] at hf;refine mkL ?_ (Reps.hideS hH hf.2 r);rcases hq with (hq | ⟨o,hq⟩) | hq
  ·refine .inl (.inl ?_);rw [aS' (fun z=>?_)]
   ·exact hq
   ·subst z;rw [hH] at hq
    cases hq
    cases ds with
    | nil=>cases r.nil_of
    | cons d ds =>
     obtain ⟨v,vs,e,r1,_⟩:=r.cons_of
     cases e
     exact iT' hf.1 r1
  ·exact .inl (.inr ⟨o,by rw [aS' (fun z=>by subst z; rw [hH] at hq; cases hq)]; exact hq⟩)
  ·exact .inr hq
 | .tup ds,v,hf,h=>by
  obtain ⟨b,zs,rfl,hq,r⟩:=repT h;rw [shD] at hf;refine mkT ?_ (Reps.hideS hH hf r);rcases hq with (hq | ⟨o,hq⟩) | hq
  ·exact .inl (.inl (by rw [aS' (fun z=>by subst z; rw [hH] at hq; cases hq)]; exact hq))
  ·exact .inl (.inr ⟨o,by rw [aS' (fun z=>by subst z; rw [hH] at hq; cases hq)]; exact hq⟩)
  ·exact .inr hq
 | .exc n,v,_,h=>by
  rw [Rep] at h ⊢;obtain ⟨b,C,rfl,hC,hb⟩:=h;exact ⟨b,C,rfl,hC,by rw [aS' (fun z=>by subst z; rw [hH] at hb; cases hb)]; exact hb⟩
 | .excf n f d,v,hf,h=>by rw [shD] at hf; cases hf
 | .obj n f d,v,hf,h=>by rw [shD] at hf; cases hf
 | .dct,v,_,h=>by
  rw [Rep] at h ⊢;obtain ⟨b,rfl,hb⟩:=h;exact ⟨b,rfl,by rw [aS' (fun z=>by subst z; rw [hH] at hb; cases hb)]; exact hb⟩
theorem Reps.hideS {K:PySem.W.Frag} {H:Hp} {a c:Addr} {ys:List V} (hH:H a=some (.lst (.ref c :: ys))):∀{ds:List D} {vs:List V},shDs ds=true->Reps K H ds vs->Reps K (hid H a) ds vs
 | [],_,_,h=>by cases h.nil_of; exact Reps.nil
 | d :: ds,_,hf,h=>by
  rw [shDs,Bool.and_eq_true] at hf;obtain ⟨v,vs,rfl,r,q⟩:=h.cons_of;exact Reps.cons (Rep.hideS hH hf.1 r) (Reps.hideS hH hf.2 q)
end
mutual
theorem Rep.hideF {K:PySem.W.Frag} {H:Hp} {a:Addr} {xs:List V} (hH:H a=some (.lst xs)):∀{d:D} {v:V},flatD d=true->Rep K H d v->Rep K (hid H a) d v
 | .non,v,_,h=>by rw [Rep] at h ⊢; exact h
 | .bl _,v,_,h=>by rw [Rep] at h ⊢; exact h
 | .int _,v,_,h=>by rw [Rep] at h ⊢; exact h
 | .str _,v,_,h=>by rw [Rep] at h ⊢; exact h
 | .lst _,v,hf,_=>by rw [flatD] at hf; cases hf
 | .tup ds,v,hf,h=>by
  obtain ⟨b,zs,rfl,hq,r⟩:=repT h;rw [flatD] at hf;refine mkT ?_ (Reps.hideF hH hf r);rcases hq with (hq | ⟨o,hq⟩) | hq
  ·exact .inl (.inl (by rw [aS' (fun z=>by subst z; rw [hH] at hq; cases hq)]; exact hq))
  ·exact .inl (.inr ⟨o,by rw [aS' (fun z=>by subst z; rw [hH] at hq; cases hq)]; exact hq⟩)
  ·exact .inr hq
 | .exc n,v,_,h=>by
  rw [Rep] at h ⊢;obtain ⟨b,C,rfl,hC,hb⟩:=h;exact ⟨b,C,rfl,hC,by rw [aS' (fun z=>by subst z; rw [hH] at hb; cases hb)]; exact hb⟩
 | .excf n f d,v,hf,h=>by rw [flatD] at hf; cases hf
 | .obj n f d,v,hf,h=>by rw [flatD] at hf; cases hf
 | .dct,v,_,h=>by
  rw [Rep] at h ⊢;obtain ⟨b,rfl,hb⟩:=h;exact ⟨b,rfl,by rw [aS' (fun z=>by subst z; rw [hH] at hb; cases hb)]; exact hb⟩
theorem Reps.hideF {K:PySem.W.Frag} {H:Hp} {a:Addr} {xs:List V} (hH:H a=some (.lst xs)):∀{ds:List D} {vs:List V},flatDs ds=true->Reps K H ds vs->Reps K (hid H a) ds vs
 | [],_,_,h=>by cases h.nil_of; exact Reps.nil
 | d :: ds,_,hf,h=>by
  rw [flatDs,Bool.and_eq_true] at hf;obtain ⟨v,vs,rfl,r,q⟩:=h.cons_of;exact Reps.cons (Rep.hideF hH hf.1 r) (Reps.hideF hH hf.2 q)
end
noncomputable def headL:List D->Bool
 | []=>true
 | .lst _ :: _=>true
 | _=>false
theorem Reps.hideL {K:PySem.W.Frag} {H:Hp} {a:Addr} {xs:List V} {ds:List D} (hH:H a=some (.lst xs)) (h1:headL ds=true) (h2:shDs ds=true) (r:Reps K H ds xs):Reps K (hid H a) ds xs:=by
 cases ds with
 | nil=>cases r.nil_of; exact Reps.nil
 | cons d ds =>
  cases d with
  | lst es =>
   obtain ⟨v,vs,e,r1,_⟩:=r.cons_of;obtain ⟨b,zs,e2,_,_⟩:=repL r1;subst e2;subst e;exact Reps.hideS hH h2 r
  | _=>cases h1
noncomputable def keepH (i:Nat) (δ:DS):DS:=(δ.map fun o=>o.bind keepSV).set i none
theorem RepSt.hide {K:PySem.W.Frag} {G H:Hp} {σ:St} {δ:DS} {i:Nat} {ds:List D} {a:Addr} {xs:List V} (R:RepSt K G H σ δ) (hδ:δ[i]? = some (some (.own ds))) (hσ:σ[i]? = some (some (.ref a))) (hH:H a=some (.lst xs)) (hG:G a=none) :
  RepSt K G (hid H a) σ (keepH i δ) where
 same:=fun b o e=>by
  have hb:b≠a:=fun z=>by subst z; rw [hG] at e; cases e
  rw [aS' hb]; exact R.same b o e
 len:=by unfold keepH; rw [List.length_set,List.length_map]; exact R.len
 at_:=fun j sv h=>by
  unfold keepH at h;have hl:i < δ.length:=(List.getElem?_eq_some_iff.mp hδ).1
  by_cases hj:i=j
  ·subst hj;rw [List.getElem?_set_self (by rw [List.length_map]; exact hl)] at h
   cases h
  ·rw [List.getElem?_set_ne hj] at h;obtain ⟨sv0,q1,q2⟩:=bX' h;obtain ⟨u,e1,e2⟩:=R.at_ j sv0 q1;refine ⟨u,e1,?_⟩
   cases sv0 with
   | val d' =>
    simp only [keepSV] at q2
    split at q2
    ·rename_i c; cases q2; exact Rep.hideF hH c e2
    ·cases q2
   | arg d'=>cases q2; exact e2
   | own es =>
    simp only [keepSV] at q2
    split at q2
    ·rename_i c
     cases q2
     obtain ⟨b,ys,rfl,w2,w3,w4⟩:=e2;have hb:b≠a:=fun z=>by subst z; exact R.sep i j ds es (.ref b) hj hδ q1 hσ e1
     exact ⟨b,ys,rfl,by rw [aS' hb]; exact w2,Reps.hideF hH c w3,w4⟩
    ·cases q2
 sep:=fun j k es fs u hjk h1 h2 h3=>by
  have get:∀(m:Nat) (gs:List D),(keepH i δ)[m]? = some (some (.own gs))->δ[m]? = some (some (.own gs)):=fun m gs h=>by
   unfold keepH at h
   by_cases hm:i=m
   ·subst hm;rw [List.getElem?_set_self (by rw [List.length_map]; exact (List.getElem?_eq_some_iff.mp hδ).1)] at h
    cases h
   ·rw [List.getElem?_set_ne hm] at h;obtain ⟨sv0,q1,q2⟩:=bX' h;obtain ⟨rfl,_⟩:=dF' q2;exact q1
  exact R.sep j k es fs u hjk (get j es h1) (get k fs h2) h3
theorem RepSt.back {K:PySem.W.Frag} {G H H3:Hp} {σ:St} {δ:DS} {i:Nat} {ds es:List D} {a:Addr} {ys:List V} (R0:RepSt K G H σ δ) (R:RepSt K G H3 σ (keepH i δ)) (hδ:δ[i]? = some (some (.own ds))) (hσ:σ[i]? = some (some (.ref a))) (hH:H3 a=some (.lst ys)) (r:Reps K H3 es ys) (hG:G a=none) :
  RepSt K G H3 σ ((keepH i δ).set i (some (.own es))) where
 same:=R.same
 len:=by rw [List.length_set]; exact R.len
 at_:=fun j sv h=>by
  by_cases hj:i=j
  ·subst hj;have hl:i < (keepH i δ).length:=by rw [<- R.len,R0.len]; exact (List.getElem?_eq_some_iff.mp hδ).1
   rw [List.getElem?_set_self hl] at h
   cases h
   exact ⟨.ref a,hσ,a,ys,rfl,hH,r,hG⟩
  ·rw [List.getElem?_set_ne hj] at h;exact R.at_ j sv h
 sep:=fun j k fs gs u hjk h1 h2 h3=>by
  have get:∀(m:Nat) (gs:List D),((keepH i δ).set i (some (.own es)))[m]? = some (some (.own gs))->∃gs',δ[m]? = some (some (.own gs')):=fun m gs h=>by
   by_cases hm:i=m
   ·subst hm; exact ⟨ds,hδ⟩
   ·rw [List.getElem?_set_ne hm] at h;unfold keepH at h;rw [List.getElem?_set_ne hm] at h;obtain ⟨sv0,q1,q2⟩:=bX' h;obtain ⟨rfl,_⟩:=dF' q2;exact ⟨gs,q1⟩
  obtain ⟨fs',g1⟩:=get j fs h1;obtain ⟨gs',g2⟩:=get k gs h2;exact R0.sep j k fs' gs' u hjk g1 g2 h3
noncomputable def appU (i:Nat) (fe:DS->Res D):DS->Out:=fun δ=>match δ[i]? with
 | some (some (.own ds))=>(match fe (keepH i δ) with
  | .ok d=>if headL ds=true/\shDs ds=true/\ds.length < sizeLine then .nxt ((keepH i δ).set i (some (.own (ds ++ [d])))) else .stuck
  | _=>.stuck)
 | _=>.stuck
section
variable {X:Cx} {e:Expr} {fe:DS->Res D} {x:Str} {pos np apos cpos:Pos}
theorem iU' (i:Nat) (he:PD X e fe) (hN:X.N[i]? = some x:=by rfl) (hv:Vis X.env.scope x:=by first | exact Or.inl rfl | exact Or.inr (Or.inl rfl) | exact Or.inr (Or.inr rfl)) (hd:(x == ("__debug__" : Str))=false:=by decide)
  (hcd:(x == ("__classdict__" : Str))=false:=by decide) (hbase:attributeBase (.Name x np) "append" X.env (eval (.Name x np) X.env)=eval (.Name x np) X.env:=by rfl)
  (hfew:((backTo cpos (starEach [e] X.env)).all (fun x=>!x.1) && (backToKw cpos (keywordEach [] X.env)).all (fun x=>x.1.isSome)
   && decide (([e]:List Expr).length + ([]:List Keyword).length + (if ([]:List Keyword).isEmpty then 0 else 1) < 30))=true:=by rfl)
  (hline:(apos.endLine == cpos.line)=true:=by rfl) (hse:starEach [e] X.env=[(false,eval e X.env)]:=by rfl)
  (hw:swapsWith (.Call (.Attribute (.Name x np) "append" apos) [e] [] cpos) none pos.line X.env=pure false:=by rfl) :
  PSD X (.Expr (.Call (.Attribute (.Name x np) "append" apos) [e] [] cpos) pos) (appU i fe):=by
 intro pins s σ G H δ I R hs;unfold appU at hs ⊢
 split at hs
 ·rename_i ds hδ;obtain ⟨v,hσ,a,xs,rfl,hH,r,hG⟩:=R.at_ i _ hδ
  split at hs
  ·rename_i d hfe
   split at hs
   ·rename_i hc;refine wpAny_Expr_any ?_ I.quiet hw;refine wpAny_Call_method_late hbase hfew hline rfl (wpAny_mono (fh' (X:=X.wish fun _ _=>False) hN hv hd hcd (pins ++ allP X H s.heap) s σ H (fun v' H'=>v'=.ref a/\H'=H) (I.all.wish _) ⟨.ref a,hσ,rfl,rfl⟩) (fun u s1 q=>?_) fun _ _ z=>z.elim);obtain ⟨v',H',I1,r1,rfl,rfl⟩:=q;have I1':=I1.unwish.unpinned;obtain ⟨h1,h4⟩:=gx' (T:="list") I1' r1 (.inl ⟨rfl,xs,SqL.of hH⟩)
    cases r1
    refine ⟨"list", "list.append",PySem.F.plainAttrs_list,PySem.F.slot_list_append,PySem.F.type_list_append,h1,h4,?_⟩;obtain ⟨o,ho,Ih⟩:=I1'.hide hH;have Rh:=R.hide hδ hσ hH hG;rw [hse];refine Calls.callWith_builtin (by rfl) (Calls.evalArgs_plain ?_);show wpAny _ _ (spliced ((false,eval e X.env) :: backTo cpos [])) _ _ _;refine Calls.spliced_cons (he.use Ih Rh (by rw [hfe]; exact fun z=>nomatch z) (fun d' u s2 w H2 q I2 r2 e2 b2 p2=>?_) fun e s1 q=>by rw [hfe] at q; exact q.none.elim);refine wpAny_pure ?_;rw [hfe] at q
    cases q
    obtain ⟨na,I3⟩:=I1'.seen hH ho I2;refine wpAny_mono (ef' (X:=X.wish fun _ _=>False) pins s2 σ (upd H2 a (.lst xs)) (.ref a) [w] (.ref a) [u] (fun _ H3=>H3=upd (upd H2 a (.lst xs)) a (.lst (xs ++ [w]))) (I3.wish _) rfl (.cons r2 .nil) ⟨a,xs,w,rfl,rfl,aj',by rw [r.length]; exact hc.2.2,rfl⟩) (fun v s3 q3=>?_) fun _ _ z=>z.elim;obtain ⟨z,H3,I4,r3,rfl⟩:=q3;have sm:Same H2 (upd (upd H2 a (.lst xs)) a (.lst (xs ++ [w]))):=fun b o' e=>by
     have hb:b≠a:=fun z=>by subst z; rw [na] at e; cases e
     rw [ai' hb,ai' hb]; exact e
    have rd:Reps X.K (upd (upd H2 a (.lst xs)) a (.lst (xs ++ [w]))) (ds ++ [d]) (xs ++ [w]):=(((Reps.hideL hH hc.1 hc.2.1 r).mono e2).mono sm).append (Reps.cons (p2.mono sm) Reps.nil);refine ⟨_,σ,_,if_pos hc,I4.unwish,⟨fun b ys h=>?_,fun b o u h=>?_,fun b h=>?_⟩,R.back ((Rh.mono e2).mono sm) hδ hσ aj' rd hG⟩
    ·have hb:b≠a:=fun z=>by subst z; rw [hH] at h; cases h
     exact sm b _ (e2 b _ (by rw [aS' hb]; exact h))
    ·have hb:b≠a:=fun z=>by subst z; rw [hH] at h; cases h
     exact sm b _ (e2 b _ (by rw [aS' hb]; exact h))
    ·by_cases hb:b=a
     ·subst hb; rw [aj'] at h; cases h
     ·rw [ai' hb,ai' hb] at h;have:=e2.free h;rw [aS' hb] at this; exact this
   ·exact (hs rfl).elim
  ·exact (hs rfl).elim
 ·exact (hs rfl).elim
end
end DL
namespace DL
open PySem PySem.Spec PyProof.Rows L2
structure RoomM (k:Nat) (A:Around):Prop where
 dp:A.depth + 3 * k + 5 < recursionLimit
 un:A.units + 16 * k + 200 < cLine
theorem RoomM.mono {j k:Nat} {A:Around} (r:RoomM k A) (h:j<=k):RoomM j A:=⟨by have:=r.dp; omega,by have:=r.un; omega⟩
theorem RoomM.deeper {k:Nat} {A:Around} (r:RoomM (k + 1) A) (env:Env):RoomM k (A.deeper env) :=
 ⟨by have:=r.dp; show A.depth + 1 + 3 * k + 5 < _; omega,by have:=r.un; show A.units + 3 + 16 * k + 200 < _; omega⟩
theorem RoomM.units {k:Nat} {A:Around} (r:RoomM k A):A.units + 64 < cLine:=by have:=r.un; omega
theorem _root_.L2.Room.mrk {k:Nat} {A:Around} (r:Room k A) (v:Option Value):RoomM k (A.mark v):=⟨r.dp,r.un⟩
noncomputable def spO (K:PySem.W.Frag) (F:List D->Res D):Sp:=fun vs H Q _=>∃ds d,Reps K H ds vs/\F ds=.ok d/\∀v H',Same H H'->Rep K H' d v->Q v H'
structure FnOkM (P:Program) (w:World) (K:PySem.W.Frag) (mg:Str->Option Value) (base:Heap) (CX:CXT) (k:Nat) (f:Addr) (fd:FuncData) (ps:List Str) (sp:Sp):Prop where
 len:∀vs H Q E,sp vs H Q E->vs.length=ps.length
 run:∀(A:Around) (outer:List Env) (s:Shared) (H:Hp) (args:Args) (us:List Value) (vs:List V) (Q:VK) (E:XK),RoomM k A->Env0 P w K mg base A outer s H->BindsTo s fd args (ps.zip us)->Vals vs us->sp vs H Q E ->
  codeAny (model P w) A (.call (.ref f) args) (CR CX outer P w H s Q E) s
abbrev cxM (CX:CXT) (P:Program) (w:World) (K:PySem.W.Frag) (mg:Str->Option Value) (base:Heap) (N:List Str) (qual:Str) (scope:Scope) (f:Addr) (cd:Value) (A:Around) (outer:List Env) (s:Shared) (H:Hp) (E:XK):Cx :=
  { cxOf CX P w K mg base N qual scope f cd A outer s H E with calm:=false }
theorem gg' {CX:CXT} {P:Program} {w:World} {K:PySem.W.Frag} {mg:Str->Option Value} {base:Heap} {N ps:List Str} {qual:Str} {scope:Scope} {f:Addr} {cd:Value} {A:Around} {outer:List Env} {s s1:Shared} {H:Hp} {E:XK} {us:List Value} {vs:List V}
  (S:FnScope N ps scope) (e0:Env0 P w K mg base A outer s H) (hl:vs.length=ps.length) (r:Vals vs us)
  (x:InCallC s s.heap.objs.size (PySem.bindL (envOfC qual scope s.heap.objs.size f cd).kindOf (ps.zip us) fun _=>none) (cellsFrom (s.heap.objs.size + 1) scope.names []) (bindC (envOfC qual scope s.heap.objs.size f cd).kindOf (ps.zip us) fun _=>none) s1) :
  Inv (cxM CX P w K mg base N qual scope f cd A outer s H E) [] (start N vs) H s1:=by
 have I:=ec' (CX:=CX) (E:=E) (A:={ A with handled:=none }) (qual:=qual) (f:=f) (cd:=cd) S rfl (outer:=outer) (P:=P) (w:=w) (K:=K) (mg:=mg) (base:=base) (H:=H) ⟨e0.frames,e0.mod,e0.bs,e0.bsz,e0.funs,e0.frf,e0.hok,e0.bare⟩ hl r x
 exact ⟨⟨I.ok.mod,I.ok.kind,I.ok.glob,I.ok.blt,I.ok.above,I.ok.inj,I.ok.has,I.ok.cab,fun z=>(by cases z),I.ok.frames,I.ok.stk,I.ok.exf,I.ok.bs,I.ok.bsz,I.ok.noex,I.ok.exfs,I.ok.funs,I.ok.frf⟩,I.os,I.bare,I.base,I.loc,I.cell,I.free,I.freeC,I.pin,I.hok,I.len⟩
theorem lK' {CX:CXT} {P:Program} {w:World} {K:PySem.W.Frag} {mg:Str->Option Value} {base:Heap} {k:Nat} {f:Addr} {name qual:Str} {params:Arguments} {body:List Stmt} {scope:Scope} {dV kV doc pm cdv ct oc:Value} {an od:Option Addr}
  {osl:Array (Option Value)} {N ps:List Str} {sp:Sp} (lk:K.lookup f=some ⟨oc,od,.func (PySem.W.fnOf name qual params body scope dV kV doc pm an cdv ct),osl⟩) (hcd:PySem.W.codeIn K cdv qual=true) (S:FnScope N ps scope)
  (len:∀vs H Q E,sp vs H Q E->vs.length=ps.length)
  (hbody:∀(A:Around) (outer:List Env) (s:Shared) (H:Hp) (vs:List V) (Q:VK) (E:XK),RoomM k (A.deeper (envOfC qual scope s.heap.objs.size f cdv))->sp vs H Q E ->
   ∃t,PSs (cxM CX P w K mg base N qual scope f cdv A outer s H E) body t/\t { nx:=fun _ H'=>Q .non H',rt:=Q } (start N vs) H) :
  FnOkM P w K mg base CX (k + 1) f (PySem.W.fnOf name qual params body scope dV kV doc pm an cdv ct) ps sp:=by
 refine ⟨len,fun A outer s H args us vs Q E hr e0 hb r hsp=>?_⟩;have hl:=len _ _ _ _ hsp;have KX:K.In s.heap:=e0.mod.kin.keeps fun b o e=>(e0.bs b o e).1;have lim:s.heap.NoLimit:=e0.mod.nolimit.keeps fun b o e=>(e0.bs b o e).1;have hkind:∀y∈ps.zip us,scope.names.lookup y.1=some .local\/(scope.names.lookup y.1=some .cell/\((cellsFrom (s.heap.objs.size + 1) scope.names []).lookup y.1).isSome=true):=fun ⟨n,v⟩ hy=>by
  rcases S.par n (List.of_mem_zip hy).1 with q | q
  ·exact .inl q
  ·exact .inr ⟨q,PySem.W.cellsFrom_some _ _ _ (.inl q)⟩
 refine codeAny_call_function (by have:=hr.dp; omega) (KX _ _ lk) rfl S.co S.gen rfl (PySem.W.codeRec_of KX hcd) (hb _ _ _ _ ?_);refine wpAny_newFunctionEnv_cells S.kind hkind fun env he s1 x=>?_;subst he;refine ⟨lim.keeps x.toInCall.keep,codeAny_func ?_⟩;obtain ⟨t,ht,hq⟩:=hbody A outer s H vs Q E (hr.deeper _) hsp;have I:Inv (cxM CX P w K mg base N qual scope f cdv A outer s H E) [] (start N vs) H s1:=gg' S e0 hl r x;refine wpAny_mono (ht [] s1 (start N vs) H _ I hq) (fun fl s' hs=>?_) fun e s' hs=>hs;have fin:∀{σ':St} {H':Hp} {v:V} {u:Value},Inv (cxM CX P w K mg base N qual scope f cdv A outer s H E) [] σ' H' s'->RelV v u->Q v H'->CE outer P w H s Q u s' :=
  fun {σ' H' v u} J rv q=>⟨v,H',J.os,J.bare,J.base,J.hok,rv,q⟩
 cases fl with
 | ret u =>
  obtain ⟨v,σ',H',J,rv,q⟩:=hs;exact fin J rv q
 | next =>
  obtain ⟨σ',H',J,q⟩:=hs;exact fin (v:=V.non) (u:=Value.none) J rfl q
 | brk =>
  obtain ⟨_,_,_,q⟩:=hs;exact False.elim q
 | cont =>
  obtain ⟨_,_,_,q⟩:=hs;exact False.elim q
section
variable {P:Program} {w:World} {K:PySem.W.Frag} {mg:Str->Option Value} {base:Heap}
theorem lL' {x qual:Str} {st:Stmt} {f:Addr} {fd:FuncData} {N ps:List Str} {k:Nat} {body:DS->Out} (F:Fun K x qual st f fd) (S:FnScope N ps (defScope st))
  (hb:∀(cdv:Value) (A:Around) (outer:List Env) (s:Shared) (H:Hp) (E:XK),RoomM k (A.deeper (envOfC qual (defScope st) s.heap.objs.size f cdv))->PSDs (cxM (CX1 P w) P w K mg base N qual (defScope st) f cdv A outer s H E) (defBody st) body) :
  FnOkM P w K mg base (CX1 P w) (k + 1) f fd ps (spO K (fnD ps.length N.length body)):=by
 obtain ⟨oc,od,kV,doc,pm,an,cdv,ct,osl,rfl,lk,hcd⟩:=F.ex;refine lK' lk hcd S (fun vs H Q E ⟨ds,d,r,h,_⟩=>?_) fun A outer s H vs Q E hr hsp=>?_
 ·rw [r.length];unfold fnD at h
  by_cases c:ds.length=ps.length
  ·exact c
  ·rw [if_neg c] at h; cases h
 ·obtain ⟨ds,d,r,h,hq⟩:=hsp;have c:ds.length=ps.length:=by
   unfold fnD at h
   by_cases c:ds.length=ps.length
   ·exact c
   ·rw [if_neg c] at h; cases h
  have ev:fnD ps.length N.length body ds=outD (body (startD ds.length N.length ds)):=by unfold fnD; rw [if_pos c,c]
  rw [ev] at h;refine ⟨_,(hb cdv A outer s H E hr).tb,H,startD ds.length N.length ds,cL' N r,fun z=>?_,fun pins fl s1 p=>?_,fun pins s2 e s1 I p=>?_⟩
  ·rw [z] at h; cases h
  ·cases fl with
   | next =>
    obtain ⟨δ',σ',H',q1,q2,q3,q4⟩:=p;rw [q1] at h
    cases h
    exact ⟨σ',H',q2,hq .non H' q4.same mkN⟩
   | brk=>obtain ⟨δ',σ',H',q1,_⟩:=p; rw [q1] at h; cases h
   | cont=>obtain ⟨δ',σ',H',q1,_⟩:=p; rw [q1] at h; cases h
   | ret u =>
    obtain ⟨d',v,σ',H',q1,q2,q3,q4,q5,q6⟩:=p;rw [q1] at h
    cases h
    exact ⟨v,σ',H',q2,q5,hq v H' q4 q6⟩
  ·obtain ⟨x,δ',a,C,σ',H',q1,_⟩:=p;rw [q1] at h
   cases h
end
noncomputable def Okh (P:Program) (w:World) (K:PySem.W.Frag) (mg:Str->Option Value) (base:Heap) (k:Nat) (x:Str) (F:List D->Res D):Prop :=
 ∃(f:Addr) (fd:FuncData) (ps:List Str),FnOkM P w K mg base (CX1 P w) k f fd ps (spO K F)/\mg x=some (.ref f)/\PySem.W.keepIn K (.ref f)=true/\Binds K fd ps []
theorem fnH (P:Program) (w:World) (base:Heap) {K:PySem.W.Frag} {x:Str} {st:Stmt} {mg:Str->Option Value} {N ps:List Str} (k:Nat) (body:DS->Out) (F:Ent K mg x st ps) (S:FnScope N ps (defScope st))
  (hb:∀(f:Addr) (cdv:Value) (A:Around) (outer:List Env) (s:Shared) (H:Hp) (E:XK),RoomM k (A.deeper (envOfC x (defScope st) s.heap.objs.size f cdv))->PSDs (cxM (CX1 P w) P w K mg base N x (defScope st) f cdv A outer s H E) (defBody st) body) :
  Okh P w K mg base (k + 1) x (fnD ps.length N.length body):=by
 obtain ⟨f,fd,m,F,B⟩:=F;exact ⟨f,fd,ps,lL' F S (hb f),m,F.kp,B⟩
noncomputable def onlyOk (F:List D->Res D):List D->Res D:=fun ds=>match F ds with
 | .ok d=>.ok d
 | _=>.stuck
theorem clh {X:Cx} {j k:Nat} {F:List D->Res D} {x:Str} {p pos:Pos} {e:Expr} {es:List Expr} {fs:DS->Res (List D)} (Fn:Okh X.prog X.w X.K X.mg X.base j x F) (hr:RoomM k X.A) (ha:PAD X (e :: es) fs)
  (hj:j<=k:=by first | decide | omega) (hg:Gl X x:=by exact rfl) (hdb:(x == ("__debug__" : Str))=false:=by decide) (he:starEach (e :: es) X.env=(false,eval e X.env) :: starEach es X.env:=by rfl) (hpl:(backTo pos (starEach es X.env)).any (·.1)=false:=by rfl) :
  PD X (.Call (.Name x p) (e :: es) [] pos) (fun δ=>(fs δ).bind (onlyOk F)):=by
 obtain ⟨f,fd,ps,Fn,hm,hk,hb⟩:=Fn;intro pins s σ G H δ I R hs
 try dsimp only at hs ⊢
 refine wpAny_Call_Name_kw (bh' I hg hm ?_ hdb);refine PySem.W.callWith_K (h₀:=X.base) I.ok.mod.kin hk (ha.use I R (az' hs) (fun ds us s1 vs H1 q I1 r1 e1 b1 p1=>⟨I1.kIn,?_⟩) fun e s1 q=>q.same fun x z=>aB' z) he hpl;have h2:=aD' hs q;have ev:(fs δ).bind (onlyOk F)=onlyOk F ds:=by rw [q]; rfl
 cases qg:F ds with
 | stuck=>exact (h2 (by unfold onlyOk; rw [qg])).elim
 | err z=>exact (h2 (by unfold onlyOk; rw [qg])).elim
 | ok d =>
  have hsp:spO X.K F vs H1 (fun v H'=>Same H1 H'/\Rep X.K H' d v) (fun _ _ _=>False):=⟨ds,d,p1,qg,fun v H' a b=>⟨a,b⟩⟩;have hl:us.length=ps.length:=by rw [<- r1.length]; exact Fn.len _ _ _ _ hsp
  refine wpAny_call (codeAny_mono (Fn.run X.A X.stack s1 H1 ⟨us,[]⟩ us vs _ _ (hr.mono hj) I1.env0 (by simpa using hb s1 us I1.kIn (by simpa using hl)) r1 hsp) fun r s' hq=>?_)
  cases r with
  | error e=>obtain ⟨_,_,_,_,_,_,_,_,_,_,z⟩:=hq; exact z.elim
  | ok fl =>
   cases fl with
   | ret u =>
    obtain ⟨v,H',I',r',e',p'⟩:=I1.after hq;exact ⟨d,v,H',ev.trans (by unfold onlyOk; rw [qg]),I',r',e1.trans e',p'⟩
   | next=>exact False.elim hq
   | brk=>exact False.elim hq
   | cont=>exact False.elim hq
end DL
namespace Mine
noncomputable def cm (a b:Int):Int:=(Int.gcd a b:Nat)
theorem kx' {a b:Int} (ha:0<=a) (hb:0<=b):cm b (Int.fmod a b)=cm a b:=by
 unfold cm;rw [Int.fmod_eq_emod_of_nonneg a hb]
 congr 1
 obtain ⟨x,rfl⟩:=Int.eq_ofNat_of_zero_le ha;obtain ⟨y,rfl⟩:=Int.eq_ofNat_of_zero_le hb;rw [<- Int.natCast_emod];simp only [Int.gcd,Int.natAbs_natCast];rw [Nat.gcd_comm y (x % y),<- Nat.gcd_rec,Nat.gcd_comm]
theorem ky' {a:Int} (ha:0<=a):cm a 0=a:=by
 unfold cm; rw [Int.gcd_zero_right]; omega
theorem lM' (a b:Int):cm (a.natAbs:Int) (b.natAbs:Int)=cm a b:=by
 unfold cm; simp [Int.gcd]
end Mine
namespace DL
open PySem PySem.Spec PyProof.Rows L2
theorem ap_seq (a b:DS->Out) (δ:DS):seqD a b δ=(a δ).seq b:=Eq.trans rfl rfl
theorem bnd_ok {α β:Type} (a:α) (f:α->Res β):(Res.ok a).bind f=f a:=Eq.trans rfl rfl
theorem sq_nxt (δ:DS) (g:DS->Out):(Out.nxt δ).seq g=g δ:=Eq.trans rfl rfl
theorem sq_ret (d:D) (g:DS->Out):(Out.ret d).seq g=.ret d:=Eq.trans rfl rfl
theorem sq_err (x:Exn) (δ:DS) (g:DS->Out):(Out.err x δ).seq g=.err x δ:=Eq.trans rfl rfl
theorem ap_set (i:Nat) (f:DS->Res D) (δ:DS):setD i f δ=onD (f δ) δ fun d=>.nxt (δ.set i (some (.val d))):=Eq.trans rfl rfl
theorem on_ok (d:D) (δ:DS) (k:D->Out):onD (.ok d) δ k=k d:=Eq.trans rfl rfl
theorem on_err (x:Exn) (δ:DS) (k:D->Out):onD (.err x) δ k=.err x δ:=Eq.trans rfl rfl
theorem ont_ok (c:Bool) (δ:DS) (k:Bool->Out):onT (.ok c) δ k=k c:=Eq.trans rfl rfl
theorem onl_ok (ds:List D) (k:List D->Out):onL (.ok ds) k=k ds:=Eq.trans rfl rfl
theorem ap_if (t:DS->Res Bool) (a b:DS->Out) (δ:DS):ifS t a b δ=onT (t δ) δ fun k=>if k=true then a δ else b δ:=Eq.trans rfl rfl
theorem ap_two (fa fb:DS->Res D) (g:D->D->Res D) (δ:DS):two fa fb g δ=(fa δ).bind fun x=>(fb δ).bind fun y=>g x y:=Eq.trans rfl rfl
theorem ap_bF {α:Type} (f:DS->Res α) (g:α->Res D) (δ:DS):bindF f g δ=(f δ).bind g:=Eq.trans rfl rfl
theorem ap_bT (f:DS->Res D) (g:D->Res Bool) (δ:DS):bindT f g δ=(f δ).bind g:=Eq.trans rfl rfl
theorem ap_bL (f:DS->Res D) (g:D->Res (List D)) (δ:DS):bindL f g δ=(f δ).bind g:=Eq.trans rfl rfl
theorem ap_cons (f:DS->Res D) (fs:DS->Res (List D)) (δ:DS):consD f fs δ=(f δ).bind fun d=>(fs δ).bind fun ds=>.ok (d :: ds):=Eq.trans rfl rfl
theorem ap_tup (f:DS->Res (List D)) (δ:DS):tupF f δ=tupD (f δ):=Eq.trans rfl rfl
theorem ap_lst (f:DS->Res (List D)) (δ:DS):lstF f δ=lstD (f δ):=Eq.trans rfl rfl
theorem ap_ret (f:DS->Res D) (δ:DS):retD f δ=onD (f δ) δ Out.ret:=Eq.trans rfl rfl
theorem ap_neg (f:DS->Res D) (δ:DS):negF f δ=(f δ).bind negG:=Eq.trans rfl rfl
theorem neg_ok (i:Int):negG (.int i)=.ok (.int (-i)):=Eq.trans rfl rfl
theorem ap_notT (f:DS->Res Bool) (δ:DS):notT f δ=(f δ).bind fun c=>.ok (!c):=Eq.trans rfl rfl
theorem ap_andT (f g:DS->Res Bool) (δ:DS):andT f g δ=(f δ).bind fun c=>if c=true then g δ else .ok false:=Eq.trans rfl rfl
theorem ap_orT (f g:DS->Res Bool) (δ:DS):orT f g δ=(f δ).bind fun c=>if c=true then .ok true else g δ:=Eq.trans rfl rfl
theorem ap_orV (f g:DS->Res D) (δ:DS):orV f g δ=(f δ).bind fun x=>(boolD x).bind fun c=>if c=true then .ok (.bl true) else g δ:=Eq.trans rfl rfl
theorem ap_ifD (t:DS->Res Bool) (f g:DS->Res D) (δ:DS):ifD t f g δ=(t δ).bind fun c=>if c=true then f δ else g δ:=Eq.trans rfl rfl
theorem ap_for (t:TGD) (fi:DS->Res (List D)) (b:DS->Out) (δ:DS):forS t fi b δ=onL (fi δ) fun ds=>thawO (forD t b ds (thaw δ)):=Eq.trans rfl rfl
theorem ap_forR (r:List D->Res (List D)) (t:TGD) (a:DS->Res (List D)) (b:DS->Out) (δ:DS):forR r t a b δ=onL ((a δ).bind r) fun ds=>forD t b ds δ:=Eq.trans rfl rfl
theorem ap_slice (fe:DS->Res D) (fl fu:DS->Res (Option Int)) (δ:DS):sliceF fe fl fu δ=(fe δ).bind fun d=>(fl δ).bind fun l=>(fu δ).bind fun u=>cutD d l u:=Eq.trans rfl rfl
theorem ap_part (f:DS->Res D) (δ:DS):partF f δ=(f δ).bind partG:=Eq.trans rfl rfl
theorem ap_noPart (δ:DS):noPart δ=.ok none:=Eq.trans rfl rfl
theorem part_int (i:Int):partG (.int i)=.ok (some i):=Eq.trans rfl rfl
theorem out_ret (d:D):outD (.ret d)=.ok d:=Eq.trans rfl rfl
theorem out_err (x:Exn) (δ:DS):outD (.err x δ)=.err x:=Eq.trans rfl rfl
theorem cmp_ok (p:Int->Int->Bool) (i j:Int):cmpD p (.int i) (.int j)=.ok (.bl (p i j)):=Eq.trans rfl rfl
theorem add_ok (i j:Int):addD (.int i) (.int j)=.ok (.int (i + j)):=Eq.trans rfl rfl
theorem sub_ok (i j:Int):subD (.int i) (.int j)=.ok (.int (i - j)):=Eq.trans rfl rfl
theorem bool_ok (b:Bool):boolD (.bl b)=.ok b:=Eq.trans rfl rfl
theorem truth_bl (b:Bool):truthD (.bl b)=.ok b:=Eq.trans rfl rfl
theorem abs_ok (i:Int):absG [.int i]=.ok (.int (i.natAbs:Nat)):=by
 show Res.ok (D.int _)=_
 congr 2
 split <;> omega
theorem len_lst (ds:List D):lenG [.lst ds]=.ok (.int ds.length):=Eq.trans rfl rfl
theorem seq_lst (ds:List D):seqItems (.lst ds)=.ok ds:=Eq.trans rfl rfl
theorem vw_val (d:D):SV.view (.val d)=d:=Eq.trans rfl rfl
theorem vw_arg (d:D):SV.view (.arg d)=d:=Eq.trans rfl rfl
theorem eqI (a b:Int):eqD (.int a) (.int b)=.ok (.bl (decide (a=b))):=Eq.trans rfl rfl
theorem neI (a b:Int):neD (.int a) (.int b)=.ok (.bl (!decide (a=b))):=Eq.trans rfl rfl
theorem modI {a b:Int} (h:b≠0):modD (.int a) (.int b)=.ok (.int (Int.fmod a b)):=by unfold modD; exact if_pos h
theorem mulI {a b:Int} (h:a.natAbs < 2 ^ 1000) (h2:b.natAbs < 2 ^ 1000):mulD (.int a) (.int b)=.ok (.int (a * b)):=by
 unfold mulD;have e:1000<=2 ^ 20:=by decide
 exact if_pos (.inl ⟨Nat.le_trans (intBits_le h) e,Nat.le_trans (intBits_le h2) e⟩)
theorem mulE_i (a b:Int):mulE (.int a) (.int b)=mulD (.int a) (.int b):=Eq.trans rfl rfl
theorem lN' {y:Int} (h:y.natAbs < 2 ^ 8000):y.natAbs.log2 < 9000:=by
 by_cases c:y.natAbs=0
 ·rw [c]; decide
 ·have:=(Nat.log2_lt c).mpr h; omega
theorem iV' {a b:Int} (h:b≠0) (h2:b.natAbs < 2 ^ 8000):fdivD (.int a) (.int b)=.ok (.int (Int.fdiv a b)):=by
 unfold fdivD; exact if_pos ⟨h,PyProof.noPylong_of_log2 (lN' h2)⟩
theorem cN1:((1:Nat):Int)=1:=Eq.trans rfl rfl
theorem cN2:((2:Nat):Int)=2:=Eq.trans rfl rfl
theorem cN4:((4:Nat):Int)=4:=Eq.trans rfl rfl
theorem cN5:((5:Nat):Int)=5:=Eq.trans rfl rfl
theorem sl0 (sv:SV) (r:DS):slotD 0 (some sv :: r)=.ok sv.view:=Eq.trans rfl rfl
theorem sl1 (a0:Option SV) (sv:SV) (r:DS):slotD 1 (a0 :: some sv :: r)=.ok sv.view:=Eq.trans rfl rfl
theorem st1 (a0:Option SV) (y x:Option SV) (r:DS):List.set (a0 :: y :: r) 1 x=a0 :: x :: r:=Eq.trans rfl rfl
theorem sl2 (a0 a1:Option SV) (sv:SV) (r:DS):slotD 2 (a0 :: a1 :: some sv :: r)=.ok sv.view:=Eq.trans rfl rfl
theorem st2 (a0 a1:Option SV) (y x:Option SV) (r:DS):List.set (a0 :: a1 :: y :: r) 2 x=a0 :: a1 :: x :: r:=Eq.trans rfl rfl
theorem sl3 (a0 a1 a2:Option SV) (sv:SV) (r:DS):slotD 3 (a0 :: a1 :: a2 :: some sv :: r)=.ok sv.view:=Eq.trans rfl rfl
theorem st3 (a0 a1 a2:Option SV) (y x:Option SV) (r:DS):List.set (a0 :: a1 :: a2 :: y :: r) 3 x=a0 :: a1 :: a2 :: x :: r:=Eq.trans rfl rfl
theorem sl4 (a0 a1 a2 a3:Option SV) (sv:SV) (r:DS):slotD 4 (a0 :: a1 :: a2 :: a3 :: some sv :: r)=.ok sv.view:=Eq.trans rfl rfl
theorem st4 (a0 a1 a2 a3:Option SV) (y x:Option SV) (r:DS):List.set (a0 :: a1 :: a2 :: a3 :: y :: r) 4 x=a0 :: a1 :: a2 :: a3 :: x :: r:=Eq.trans rfl rfl
theorem sl5 (a0 a1 a2 a3 a4:Option SV) (sv:SV) (r:DS):slotD 5 (a0 :: a1 :: a2 :: a3 :: a4 :: some sv :: r)=.ok sv.view:=Eq.trans rfl rfl
theorem st5 (a0 a1 a2 a3 a4:Option SV) (y x:Option SV) (r:DS):List.set (a0 :: a1 :: a2 :: a3 :: a4 :: y :: r) 5 x=a0 :: a1 :: a2 :: a3 :: a4 :: x :: r:=Eq.trans rfl rfl
theorem sl6 (a0 a1 a2 a3 a4 a5:Option SV) (sv:SV) (r:DS):slotD 6 (a0 :: a1 :: a2 :: a3 :: a4 :: a5 :: some sv :: r)=.ok sv.view:=Eq.trans rfl rfl
theorem st6 (a0 a1 a2 a3 a4 a5:Option SV) (y x:Option SV) (r:DS):List.set (a0 :: a1 :: a2 :: a3 :: a4 :: a5 :: y :: r) 6 x=a0 :: a1 :: a2 :: a3 :: a4 :: a5 :: x :: r:=Eq.trans rfl rfl
theorem sl7 (a0 a1 a2 a3 a4 a5 a6:Option SV) (sv:SV) (r:DS):slotD 7 (a0 :: a1 :: a2 :: a3 :: a4 :: a5 :: a6 :: some sv :: r)=.ok sv.view:=Eq.trans rfl rfl
theorem st7 (a0 a1 a2 a3 a4 a5 a6:Option SV) (y x:Option SV) (r:DS):List.set (a0 :: a1 :: a2 :: a3 :: a4 :: a5 :: a6 :: y :: r) 7 x=a0 :: a1 :: a2 :: a3 :: a4 :: a5 :: a6 :: x :: r:=Eq.trans rfl rfl
theorem sl8 (a0 a1 a2 a3 a4 a5 a6 a7:Option SV) (sv:SV) (r:DS):slotD 8 (a0 :: a1 :: a2 :: a3 :: a4 :: a5 :: a6 :: a7 :: some sv :: r)=.ok sv.view:=Eq.trans rfl rfl
theorem st8 (a0 a1 a2 a3 a4 a5 a6 a7:Option SV) (y x:Option SV) (r:DS):List.set (a0 :: a1 :: a2 :: a3 :: a4 :: a5 :: a6 :: a7 :: y :: r) 8 x=a0 :: a1 :: a2 :: a3 :: a4 :: a5 :: a6 :: a7 :: x :: r:=Eq.trans rfl rfl
theorem sl9 (a0 a1 a2 a3 a4 a5 a6 a7 a8:Option SV) (sv:SV) (r:DS):slotD 9 (a0 :: a1 :: a2 :: a3 :: a4 :: a5 :: a6 :: a7 :: a8 :: some sv :: r)=.ok sv.view:=Eq.trans rfl rfl
theorem st9 (a0 a1 a2 a3 a4 a5 a6 a7 a8:Option SV) (y x:Option SV) (r:DS):List.set (a0 :: a1 :: a2 :: a3 :: a4 :: a5 :: a6 :: a7 :: a8 :: y :: r) 9 x=a0 :: a1 :: a2 :: a3 :: a4 :: a5 :: a6 :: a7 :: a8 :: x :: r:=Eq.trans rfl rfl
theorem lst0:lstD (.ok [])=.ok (.lst []):=Eq.trans rfl rfl
theorem tup1 (x0:D):tupD (.ok [x0])=.ok (.tup [x0]):=Eq.trans rfl rfl
theorem lst1 (x0:D):lstD (.ok [x0])=.ok (.lst [x0]):=Eq.trans rfl rfl
theorem tup2 (x0 x1:D):tupD (.ok [x0,x1])=.ok (.tup [x0,x1]):=Eq.trans rfl rfl
theorem lst2 (x0 x1:D):lstD (.ok [x0,x1])=.ok (.lst [x0,x1]):=Eq.trans rfl rfl
theorem lst3 (x0 x1 x2:D):lstD (.ok [x0,x1,x2])=.ok (.lst [x0,x1,x2]):=Eq.trans rfl rfl
theorem lst4 (x0 x1 x2 x3:D):lstD (.ok [x0,x1,x2,x3])=.ok (.lst [x0,x1,x2,x3]):=Eq.trans rfl rfl
theorem lst5 (x0 x1 x2 x3 x4:D):lstD (.ok [x0,x1,x2,x3,x4])=.ok (.lst [x0,x1,x2,x3,x4]):=Eq.trans rfl rfl
theorem lst8 (x0 x1 x2 x3 x4 x5 x6 x7:D):lstD (.ok [x0,x1,x2,x3,x4,x5,x6,x7])=.ok (.lst [x0,x1,x2,x3,x4,x5,x6,x7]):=Eq.trans rfl rfl
theorem ix_tup (ds:List D) (k:Nat) (d:D) (h:ds[k]? = some d):ixD (.tup ds) (.int (k:Int))=.ok d:=by
 have hk:k < ds.length:=by
  rcases Nat.lt_or_ge k ds.length with z | z
  ·exact z
  ·rw [List.getElem?_eq_none z] at h; cases h
 have e:atI ds (k:Int)=some d:=by
  unfold atI ixN;rw [if_pos (Int.natCast_nonneg k),if_pos (by omega)];simpa using h
 show (match atI ds (k:Int) with | some d=>Res.ok d | none=>.stuck)=_
 rw [e]
theorem ix_tup0 (x0:D) (r:List D):ixD (.tup (x0 :: r)) (.int 0)=.ok x0:=ix_tup _ 0 _ rfl
theorem ix_tup1 (x0 x1:D) (r:List D):ixD (.tup (x0 :: x1 :: r)) (.int 1)=.ok x1:=ix_tup _ 1 _ rfl
theorem cy' (ds:List D) (k:Nat) (d:D) (h:ds[k]? = some d):ixD (.lst ds) (.int (k:Int))=.ok d:=by
 have hk:k < ds.length:=by
  rcases Nat.lt_or_ge k ds.length with z | z
  ·exact z
  ·rw [List.getElem?_eq_none z] at h; cases h
 have e:atI ds (k:Int)=some d:=by
  unfold atI ixN;rw [if_pos (Int.natCast_nonneg k),if_pos (by omega)];simpa using h
 show (match atI ds (k:Int) with | some d=>Res.ok d | none=>.stuck)=_
 rw [e]
theorem ix_lst0 (x0:D) (r:List D):ixD (.lst (x0 :: r)) (.int 0)=.ok x0:=cy' _ 0 _ rfl
theorem ix_lst1 (x0 x1:D) (r:List D):ixD (.lst (x0 :: x1 :: r)) (.int 1)=.ok x1:=cy' _ 1 _ rfl
theorem ix_lst2 (x0 x1 x2:D) (r:List D):ixD (.lst (x0 :: x1 :: x2 :: r)) (.int 2)=.ok x2:=cy' _ 2 _ rfl
theorem ix_lst3 (x0 x1 x2 x3:D) (r:List D):ixD (.lst (x0 :: x1 :: x2 :: x3 :: r)) (.int 3)=.ok x3:=cy' _ 3 _ rfl
theorem ix_lst4 (x0 x1 x2 x3 x4:D) (r:List D):ixD (.lst (x0 :: x1 :: x2 :: x3 :: x4 :: r)) (.int 4)=.ok x4:=cy' _ 4 _ rfl
end DL
namespace Mine
open PySem DL
noncomputable def gN (n:Nat) (ts:List Int):Nat:=ts.foldl (fun s t=>Nat.gcd s t.natAbs) n
structure Nf (ts:List Int) (b:Int):Prop where
 pos:0 < b
 one:gN b.natAbs ts=1
theorem cm' (K t:Int) (h:K≠0):Int.fdiv (K * t) K=t:=Int.mul_fdiv_cancel_left t h
abbrev num (ts:List Int) (b:Int):D:=.tup [.tup (ts.map .int),.int b]
end Mine
namespace Mine
open PySem DL L2
abbrev TI (l:List Int):D:=.tup (l.map .int)
abbrev RT (rs:List (List Int)):D:=.tup (rs.reverse.map TI)
noncomputable def addL (a b:List Int):List Int:=List.zipWith (fun x y=>x + y) a b
noncomputable def frH (x:List Int):List Int:=x.take (x.length / 2)
noncomputable def bhH (x:List Int):List Int:=x.drop (x.length / 2)
noncomputable def pt:List (List Int)->List Int->List Int->List Int
 | [],x,y=>[x.headD 0 * y.headD 0]
 | r :: rs,x,y=>addL (pt rs (frH x) (frH y)) (pt rs (pt rs (bhH x) (bhH y)) r) ++ addL (pt rs (frH x) (bhH y)) (pt rs (bhH x) (frH y))
noncomputable def lt:List (List Int)->List Int->List Int->List Int
 | [],x,y=>[x.headD 0 * y.headD 0]
 | r :: rs,x,y=>addL (lt rs (frH x) (frH y)) (lt rs r (lt rs (bhH x) (bhH y))) ++ addL (lt rs (frH x) (bhH y)) (lt rs (bhH x) (frH y))
noncomputable def Sc:List (List Int)->Prop
 | []=>True
 | r :: rs=>r.length=2 ^ rs.length/\Sc rs
noncomputable def Bd (n:Nat) (l:List Int):Prop:=∀t∈l,t.natAbs < 2 ^ n
theorem Bd.fr {n:Nat} {l:List Int} (h:Bd n l):Bd n (frH l):=fun t ht=>h t (List.mem_of_mem_take ht)
theorem eC':∀(bs:List Bool),bools (bs.map .bl)=some bs
 | []=>rfl
 | b :: bs=>by rw [List.map_cons,bools,eC' bs]; rfl
theorem jB' (bs:List Bool):allG [.lst (bs.map .bl)]=.ok (.bl (bs.all id)):=by
 show (match bools (bs.map .bl) with | some bs=>Res.ok (D.bl (bs.all id)) | none=>.stuck)=_
 rw [eC']
noncomputable def dg (n:Nat):List Nat:=(Nat.toDigits 10 n).map Char.toNat
theorem hE' {d:Nat} (h:d < 10):(Nat.digitChar d).toNat=48 + d:=by
 have:d=0\/d=1\/d=2\/d=3\/d=4\/d=5\/d=6\/d=7\/d=8\/d=9:=by omega
 rcases this with z | z | z | z | z | z | z | z | z | z <;> subst z <;> rfl
theorem eD' {n:Nat} (h:n < 10):dg n=[48 + n]:=by
 unfold dg;rw [Nat.toDigits_of_lt_base h,List.map_cons,List.map_nil,hE' h]
theorem hF' {n:Nat} (h:10<=n):dg n=dg (n / 10) ++ [48 + n % 10]:=by
 unfold dg;rw [Nat.toDigits_of_base_le (by decide) h,List.map_append,List.map_cons,List.map_nil,hE' (Nat.mod_lt n (by decide))]
theorem fz' {P:Nat->Prop} (h1:∀n,n < 10->P n) (h2:∀n,10<=n->P (n / 10)->P n) (n:Nat):P n:=by
 induction n using Nat.strongRecOn with
 | ind n ih =>
  by_cases h:n < 10
  ·exact h1 n h
  ·exact h2 n (by omega) (ih (n / 10) (by omega))
theorem bb' (n:Nat):∀c∈dg n,48<=c/\c<=57:=by
 refine fz' (P:=fun n=>∀c∈dg n,48<=c/\c<=57) (fun n h c hc=>?_) (fun n h ih c hc=>?_) n
 ·rw [eD' h,List.mem_singleton] at hc; omega
 ·rw [hF' h] at hc;rcases List.mem_append.mp hc with z | z
  ·exact ih c z
  ·rw [List.mem_singleton] at z; omega
theorem hG' (n:Nat):dg n≠[]:=by
 by_cases h:n < 10
 ·rw [eD' h]; exact List.cons_ne_nil _ _
 ·rw [hF' (by omega)]; simp
theorem bt' (n:Nat):∀k,1<=k->n < 10 ^ k->(dg n).length<=k:=by
 refine fz' (P:=fun n=>∀k,1<=k->n < 10 ^ k->(dg n).length<=k) (fun n h k hk _=>?_) (fun n h ih k hk hn=>?_) n
 ·rw [eD' h]; exact hk
 ·rw [hF' h,List.length_append,List.length_singleton];have k2:2<=k:=by
   rcases Nat.lt_or_ge k 2 with z | z
   ·have:k=1:=by omega
    subst this; omega
   ·exact z
  have e:10 ^ k=10 ^ (k - 1) * 10:=by rw [<- Nat.pow_succ]; congr 1; omega
  have:=ih (k - 1) (by omega) (by rw [e] at hn; omega);omega
theorem fb' (n:Nat):n≠0->(dg n).head?≠some 48:=by
 refine fz' (P:=fun n=>n≠0->(dg n).head?≠some 48) (fun n h h0=>?_) (fun n h ih h0=>?_) n
 ·rw [eD' h]; simp; omega
 ·have:=ih (by omega);rw [hF' h]
  cases q:dg (n / 10) with
  | nil=>exact (hG' _ q).elim
  | cons a l=>rw [q] at this; simpa using this
theorem hH':dg 0=[48]:=eD' (by decide)
theorem iW' (l:List Nat) (c:Nat):NumText.digitsVal (l ++ [c])=NumText.digitsVal l * 10 + (c - 48):=by
 unfold NumText.digitsVal; rw [List.foldl_append]; rfl
theorem lO' (n:Nat):NumText.digitsVal (dg n)=n:=by
 refine fz' (P:=fun n=>NumText.digitsVal (dg n)=n) (fun n h=>?_) (fun n h ih=>?_) n
 ·rw [eD' h];show 0 * 10 + (48 + n - 48)=n;omega
 ·rw [hF' h,iW',ih]; omega
abbrev sT (l:List Nat):Str:=⟨l.toArray⟩
theorem hI' (n:Nat):Str.ofString (toString ((n:Nat):Int))=sT (dg n):=PyProof.Rows.text_ofNat n
theorem lP' (n:Nat) (h:(dg n).length<=640):intText? (sT (dg n))=some (n:Int):=by
 have e:=intText_digits (x:=sT (dg n)) (fun c hc=>bb' n c (by simpa using hc)) (by simpa using hG' n) (by show (dg n).toArray.size<=4300; rw [List.size_toArray]; omega);rw [e];have:(sT (dg n)).cps.toList=dg n:=by simp
 rw [this,lO']
theorem hJ' (l:List Nat) (c:Nat):Txt.startswith (sT l) (sT [c])=decide (l.head? = some c):=by
 unfold Txt.startswith;have h:=StrLaws.subAt_one (sT l) c 0;have hl:(sT l).cps.toList[0]? = l.head?:=by cases l <;> simp
 rw [hl] at h;rw [Bool.eq_iff_iff,Bool.and_eq_true,decide_eq_true_eq,decide_eq_true_eq];exact h
theorem fc' (c:Nat) (l:List Nat):Txt.slice (sT (c :: l)) (some 1) none=sT l:=by
 have h:=StrLaws.sliceText_from (x:=sT (c :: l)) (i:=1) ⟨by decide,by simp; omega⟩;have h':Txt.slice (sT (c :: l)) (some 1) none=_:=h;rw [h'];simp
theorem aR' (l:List Nat):(sT l).cps.toList=l:=by simp
theorem cQ' {x:Str} {l:List Nat} (h:x.cps.toList=l):x=sT l:=by
 obtain ⟨a⟩:=x;show Str.mk a=Str.mk l.toArray;rw [<- h]
theorem join_list (c:Nat) (x:Str) (rest:List Str):((sT [c]).join (x :: rest)).cps.toList=x.cps.toList ++ rest.flatMap (fun p=>c :: p.cps.toList):=by
 rw [<- StrLaws.glued_cons];have:∀(rest:List Str) (acc:Array Nat),(List.foldl (fun acc p=>acc ++ (sT [c]).cps ++ p.cps) acc rest).toList=acc.toList ++ rest.flatMap (fun p=>c :: p.cps.toList):=by
  intro rest
  induction rest with
  | nil=>intro acc; simp
  | cons p rest ih=>intro acc; rw [List.foldl_cons,ih,List.flatMap_cons]; simp
 exact this rest x.cps
theorem cut1 {c:Nat}:∀{x a r b:List Nat},c∉x->c∉a->x ++ c :: r=a ++ c :: b->x=a/\r=b
 | [],[],r,b,_,_,e=>⟨rfl,by simpa using e⟩
 | [],y :: a,r,b,_,h,e=>by
  have:c=y:=by simpa using (List.cons.inj e).1
  exact (h (by rw [this]; simp)).elim
 | y :: x,[],r,b,h,_,e=>by
  have:y=c:=by simpa using (List.cons.inj e).1
  exact (h (by rw [this]; simp)).elim
 | y :: x,z :: a,r,b,h1,h2,e=>by
  have e':=List.cons.inj e;obtain ⟨q1,q2⟩:=cut1 (x:=x) (a:=a) (fun m=>h1 (List.mem_cons_of_mem _ m)) (fun m=>h2 (List.mem_cons_of_mem _ m)) e'.2;exact ⟨by rw [e'.1,q1],q2⟩
theorem gh' {c:Nat} {l:List Nat} (hl:l≠[]) (h:c∉l):Txt.split (sT l) (sT [c])=[sT l]:=by
 have j:=StrLaws.join_split (sT l) (sT [c]);have f:=StrLaws.split_free (sT l) c
 cases q:Txt.split (sT l) (sT [c]) with
 | nil =>
  rw [q] at j;exfalso;have:(sT l).cps.toList=[]:=by rw [<- j]; rfl
  exact hl (by simpa using this)
 | cons x rest =>
  rw [q] at j;have e:=congrArg (fun z:Str=>z.cps.toList) j;dsimp only at e;rw [join_list,aR'] at e
  cases rest with
  | nil =>
   rw [List.flatMap_nil,List.append_nil] at e;rw [cQ' e]
  | cons p rest =>
   exfalso;rw [List.flatMap_cons] at e;exact h (by rw [<- e]; simp)
theorem hK' {c:Nat} {a b:List Nat} (ha:c∉a) (hb:c∉b):Txt.split (sT (a ++ c :: b)) (sT [c])=[sT a,sT b]:=by
 have j:=StrLaws.join_split (sT (a ++ c :: b)) (sT [c]);have f:=StrLaws.split_free (sT (a ++ c :: b)) c
 cases q:Txt.split (sT (a ++ c :: b)) (sT [c]) with
 | nil =>
  rw [q] at j;exfalso;have:(sT (a ++ c :: b)).cps.toList=[]:=by rw [<- j]; rfl
  rw [aR'] at this;simp at this
 | cons x rest =>
  have fx:c∉x.cps.toList:=f x (by show x∈Txt.split (sT (a ++ c :: b)) (sT [c]); rw [q]; simp);have fr:∀p∈rest,c∉p.cps.toList:=fun p hp=>f p (by show p∈Txt.split (sT (a ++ c :: b)) (sT [c]); rw [q]; exact List.mem_cons_of_mem _ hp);rw [q] at j;have e:=congrArg (fun z:Str=>z.cps.toList) j;dsimp only at e;rw [join_list,aR'] at e
  cases rest with
  | nil =>
   exfalso;rw [List.flatMap_nil,List.append_nil] at e;exact fx (by rw [e]; simp)
  | cons p rest =>
   rw [List.flatMap_cons,List.cons_append] at e;obtain ⟨e1,e2⟩:=cut1 fx ha e
   cases rest with
   | nil =>
    rw [List.flatMap_nil,List.append_nil] at e2;rw [cQ' e1,cQ' e2]
   | cons p2 rest =>
    exfalso;rw [List.flatMap_cons] at e2;exact hb (by rw [<- e2]; simp)
theorem kz' (a b:List Nat):sT a ++ sT b=sT (a ++ b):=by
 refine cQ' ?_;show ((sT a).cps ++ (sT b).cps).toList=_;simp
end Mine
namespace Mine
open Lean.Grind
structure OF where
 C:Type
 fld:Field C
 le:LE C
 lt:LT C
 llt:Std.LawfulOrderLT C
 lin:Std.IsLinearOrder C
 ord:OrderedRing C
instance ofF (F:OF):Field F.C:=F.fld
instance ofLE (F:OF):LE F.C:=F.le
instance ofLT (F:OF):LT F.C:=F.lt
instance ofLLT (F:OF):Std.LawfulOrderLT F.C:=F.llt
instance ofLin (F:OF):Std.IsLinearOrder F.C:=F.lin
instance ofOrd (F:OF):OrderedRing F.C:=F.ord
instance ofNC (F:OF):NatCast F.C:=F.fld.toCommRing.toRing.toSemiring.natCast
instance ofIC (F:OF):IntCast F.C:=F.fld.toCommRing.toRing.intCast
section
variable {F:OF}
theorem mulP {a b:F.C} (h1:0 < a) (h2:0 < b):0 < a * b:=by
 have:=OrderedRing.mul_lt_mul_of_pos_left h1 h2
 grind
theorem cn' {a b:F.C} (h1:0<=a) (h2:0<=b):0<=a * b:=by
 by_cases h:a=0
 ·rw [h,Semiring.zero_mul]; exact Std.le_refl _
 ·by_cases h':b=0
  ·rw [h',Semiring.mul_zero]; exact Std.le_refl _
  ·have:=mulP (a:=a) (b:=b) (by grind) (by grind)
   grind
theorem sqNN (a:F.C):0<=a * a:=by
 by_cases h:0<=a
 ·exact cn' h h
 ·have:=cn' (a:=-a) (b:=-a) (by grind) (by grind)
  grind
theorem eE' {a b c d:F.C} (a0:0<=a) (h1:a < b) (c0:0<=c) (h2:c < d):a * c < b * d:=by
 have q1:=cn' (a:=b - a) (b:=c) (by grind) c0;have q2:=mulP (a:=b) (b:=d - c) (by grind) (by grind)
 grind
theorem sqL {p q:F.C} (h:0 < p) (e:q * q < p * p):0 < p + q:=by
 by_cases c:0 < p + q
 ·exact c
 ·exfalso;have q1:=cn' (a:=-q - p) (b:=-q + p) (by grind) (by grind)
  grind
theorem mul0 {a b:F.C} (h:a * b=0):a=0\/b=0:=by
 by_cases c:a=0
 ·exact .inl c
 ·right; grind
end
open Classical in
noncomputable def sgn {F:OF} (x:F.C):Int:=if x=0 then 0 else if 0 < x then 1 else -1
section
variable {F:OF}
end
structure Ext {R:Type} (r:R) where
 a:R
 b:R
namespace Ext
section
variable {F:OF} {r:F.C}
theorem eqs {x y:Ext r} (h1:x.a=y.a) (h2:x.b=y.b):x=y:=by
 cases x; cases y; cases h1; cases h2; rfl
instance:Add (Ext r):=⟨fun x y=>⟨x.a + y.a,x.b + y.b⟩⟩
instance:Mul (Ext r):=⟨fun x y=>⟨x.a * y.a + x.b * y.b * r,x.a * y.b + x.b * y.a⟩⟩
instance:Neg (Ext r):=⟨fun x=>⟨-x.a,-x.b⟩⟩
instance:Sub (Ext r):=⟨fun x y=>⟨x.a - y.a,x.b - y.b⟩⟩
instance:NatCast (Ext r):=⟨fun n=>⟨(n:F.C),0⟩⟩
instance:IntCast (Ext r):=⟨fun n=>⟨(n:F.C),0⟩⟩
instance (n:Nat):OfNat (Ext r) n:=⟨⟨OfNat.ofNat n,0⟩⟩
instance:SMul Nat (Ext r):=⟨fun n x=>(n:Ext r) * x⟩
instance:SMul Int (Ext r):=⟨fun n x=>(n:Ext r) * x⟩
noncomputable def pw (x:Ext r):Nat->Ext r
 | 0=>1
 | n + 1=>pw x n * x
instance:HPow (Ext r) Nat (Ext r):=⟨pw⟩
theorem bo' (x y:Ext r):(x + y).a=x.a + y.a:=rfl
theorem bp' (x y:Ext r):(x + y).b=x.b + y.b:=rfl
theorem bM' (x y:Ext r):(x * y).a=x.a * y.a + x.b * y.b * r:=rfl
theorem bN' (x y:Ext r):(x * y).b=x.a * y.b + x.b * y.a:=rfl
theorem fd' (x:Ext r):(-x).a=-x.a:=rfl
theorem fe' (x:Ext r):(-x).b=-x.b:=rfl
theorem kA' (x y:Ext r):(x - y).a=x.a - y.a:=rfl
theorem lQ' (x y:Ext r):(x - y).b=x.b - y.b:=rfl
theorem lR' (n:Nat):((n:Ext r)).a=(n:F.C):=rfl
theorem eF' (n:Int):((n:Ext r)).a=(n:F.C):=rfl
theorem gi' (n:Int):((n:Ext r)).b=0:=rfl
theorem of_a (n:Nat):(OfNat.ofNat n:Ext r).a=(OfNat.ofNat n:F.C):=rfl
theorem of_b (n:Nat):(OfNat.ofNat n:Ext r).b=0:=rfl
theorem co':(1:Ext r).a=1:=rfl
theorem dg':(1:Ext r).b=0:=rfl
theorem bf':(0:Ext r).a=0:=rfl
theorem bE':(0:Ext r).b=0:=rfl
instance:Semiring (Ext r) where
 add_zero x:=eqs (by rw [bo',bf'] <;> grind) (by rw [bp',bE'] <;> grind)
 add_comm x y:=eqs (by rw [bo',bo'] <;> grind) (by rw [bp',bp'] <;> grind)
 add_assoc x y z:=eqs (by simp only [bo'] <;> grind) (by simp only [bp'] <;> grind)
 mul_assoc x y z:=eqs (by simp only [bM',bN'] <;> grind) (by simp only [bM',bN'] <;> grind)
 mul_one x:=eqs (by simp only [bM',co',dg'] <;> grind) (by simp only [bN',co',dg'] <;> grind)
 one_mul x:=eqs (by simp only [bM',co',dg'] <;> grind) (by simp only [bN',co',dg'] <;> grind)
 left_distrib x y z:=eqs (by simp only [bM',bo',bp'] <;> grind) (by simp only [bN',bo',bp'] <;> grind)
 right_distrib x y z:=eqs (by simp only [bM',bo',bp'] <;> grind) (by simp only [bN',bo',bp'] <;> grind)
 zero_mul x:=eqs (by simp only [bM',bf',bE'] <;> grind) (by simp only [bN',bf',bE'] <;> grind)
 mul_zero x:=eqs (by simp only [bM',bf',bE'] <;> grind) (by simp only [bN',bf',bE'] <;> grind)
 pow_zero x:=rfl
 pow_succ x n:=rfl
 ofNat_succ n:=eqs (by rw [bo',of_a,of_a,co']; exact Semiring.ofNat_succ (α:=F.C) n) (by rw [bp',of_b,of_b,dg'] <;> grind)
 ofNat_eq_natCast n:=eqs (by rw [of_a,lR']; exact Semiring.ofNat_eq_natCast (α:=F.C) n) rfl
 nsmul_eq_natCast_mul n x:=rfl
instance:Ring (Ext r) where
 neg_add_cancel x:=eqs (by rw [bo',fd',bf'] <;> grind) (by rw [bp',fe',bE'] <;> grind)
 sub_eq_add_neg x y:=eqs (by rw [bo',fd',kA'] <;> grind) (by rw [bp',fe',lQ'] <;> grind)
 neg_zsmul i x:=by
  show ((-i:Int):Ext r) * x=-((i:Ext r) * x);refine eqs ?_ ?_
  ·rw [fd',bM',bM',eF',eF',gi',gi',Ring.intCast_neg (α:=F.C)] <;> grind
  ·rw [fe',bN',bN',eF',eF',gi',gi',Ring.intCast_neg (α:=F.C)] <;> grind
 zsmul_natCast_eq_nsmul n x:=by
  show (((n:Int)):Ext r) * x=(n:Ext r) * x;have e:(((n:Int)):Ext r)=(n:Ext r):=eqs (by rw [eF',lR']; exact Ring.intCast_natCast (α:=F.C) n) rfl;rw [e]
 intCast_ofNat n:=eqs (by rw [eF',of_a]; exact Ring.intCast_ofNat (α:=F.C) n) rfl
 intCast_neg i:=eqs (by rw [eF',fd',eF']; exact Ring.intCast_neg (α:=F.C) i) (by rw [gi',fe',gi'] <;> grind)
instance:CommRing (Ext r) where
 mul_comm x y:=eqs (by rw [bM',bM'] <;> grind) (by rw [bN',bN'] <;> grind)
noncomputable def nrm (x:Ext r):F.C:=x.a * x.a - x.b * x.b * r
theorem kB' (x y:Ext r):nrm (x * y)=nrm x * nrm y:=by unfold nrm; rw [bM',bN']; grind
theorem kC' (hn:∀z:F.C,z * z≠r) {x:Ext r} (h:nrm x=0):x=0:=by
 unfold nrm at h
 by_cases hb:x.b=0
 ·have:x.a=0:=by rcases mul0 (a:=x.a) (b:=x.a) (by grind) with z | z <;> exact z
  exact eqs this hb
 ·exfalso;exact hn (x.a / x.b) (by grind)
instance:Inv (Ext r):=⟨fun x=>⟨x.a / nrm x,-x.b / nrm x⟩⟩
instance:Div (Ext r):=⟨fun x y=>x * y⁻¹⟩
theorem iX' (x:Ext r):(x⁻¹).a=x.a / nrm x:=rfl
theorem iY' (x:Ext r):(x⁻¹).b=-x.b / nrm x:=rfl
noncomputable def zpw (x:Ext r):Int->Ext r
 | .ofNat n=>pw x n
 | .negSucc n=>(pw x (n + 1))⁻¹
instance:HPow (Ext r) Int (Ext r):=⟨zpw⟩
theorem kD':((0:Ext r))⁻¹=0:=eqs (by rw [iX',bf']; grind) (by rw [iY',bE']; grind)
theorem ff' (hn:∀z:F.C,z * z≠r) {x:Ext r} (h:x≠0):x * x⁻¹=1:=by
 have n0:nrm x≠0:=fun z=>h (kC' hn z);refine eqs ?_ ?_
 ·rw [bM',iX',iY',co']; unfold nrm at *; grind
 ·rw [bN',iX',iY',dg']; unfold nrm at *; grind
theorem kE' (hn:∀z:F.C,z * z≠r) (x:Ext r):(x⁻¹)⁻¹=x:=by
 by_cases h:x=0
 ·rw [h,kD',kD']
 ·have e1:=ff' hn h;have h2:x⁻¹≠0:=fun z=>by
   rw [z] at e1;have:(0:Ext r)=1:=by rw [<- e1,Semiring.mul_zero]
   have:=congrArg Ext.a this;rw [bf',co'] at this;exact Field.zero_ne_one this
  have e2:=ff' hn h2
  calc (x⁻¹)⁻¹=(x * x⁻¹) * (x⁻¹)⁻¹:=by rw [e1,Semiring.one_mul]
   _=x * (x⁻¹ * (x⁻¹)⁻¹):=Semiring.mul_assoc ..
   _=x:=by rw [e2,Semiring.mul_one]
theorem inv_1:((1:Ext r))⁻¹=1:=by
 refine eqs ?_ ?_
 ·rw [iX',co']; unfold nrm; rw [co',dg']; grind
 ·rw [iY',dg']; unfold nrm; rw [co',dg']; grind
@[reducible] def fieldE (hn:∀z:F.C,z * z≠r):Field (Ext r) where
 div_eq_mul_inv _ _:=rfl
 zero_ne_one h:=by
  have:=congrArg Ext.a h;rw [bf',co'] at this;exact Field.zero_ne_one this
 inv_zero:=kD'
 mul_inv_cancel:=ff' hn
 zpow_zero _:=rfl
 zpow_succ _ _:=rfl
 zpow_neg x n:=by
  show zpw x (-n)=(zpw x n)⁻¹
  match n with
  | .ofNat 0=>exact inv_1.symm
  | .ofNat (n + 1)=>rfl
  | .negSucc n=>exact (kE' hn _).symm
noncomputable def Pos (x:Ext r):Prop:=(0 < nrm x/\0 < x.a)\/(nrm x < 0/\0 < x.b)
instance:LT (Ext r):=⟨fun x y=>Pos (y - x)⟩
instance:LE (Ext r):=⟨fun x y=>x=y\/Pos (y - x)⟩
theorem hL' (x:Ext r):nrm (-x)=nrm x:=by unfold nrm; rw [fd',fe']; grind
theorem iZ':nrm (0:Ext r)=0:=by unfold nrm; rw [bf',bE']; grind
theorem ja':¬Pos (0:Ext r):=fun h=>by unfold Pos at h; rw [iZ'] at h; grind
theorem hM' {x:Ext r} (h:Pos x):¬Pos (-x):=fun z=>by
 unfold Pos at h z; rw [hL',fd',fe'] at z;rcases h with h | h <;> rcases z with z | z <;> grind
theorem tri (hn:∀z:F.C,z * z≠r) (hr:0 < r) (x:Ext r):x=0\/Pos x\/Pos (-x):=by
 by_cases h:x=0
 ·exact .inl h
 ·right
  have n0:nrm x≠0:=fun z=>h (kC' hn z);unfold Pos;rw [hL',fd',fe']
  by_cases c:0 < nrm x
  ·have:x.a≠0:=fun z=>by
    have:=cn' (sqNN x.b) (Std.le_of_lt hr);unfold nrm at c; rw [z] at c; grind
   by_cases d:0 < x.a
   ·exact .inl (.inl ⟨c,d⟩)
   ·exact .inr (.inl ⟨c,by grind⟩)
  ·have:x.b≠0:=fun z=>by
    have:=sqNN x.a;unfold nrm at c n0; rw [z] at c n0; grind
   by_cases d:0 < x.b
   ·exact .inl (.inr ⟨by grind,d⟩)
   ·exact .inr (.inr ⟨by grind,by grind⟩)
theorem hN' (hr:0 < r) {x y:Ext r} (h1:Pos x) (h2:Pos y):Pos (x * y):=by
 unfold Pos at *;rw [kB',bM',bN'];have rr:=mulP hr hr;have nbb:=cn' (sqNN x.b) (Std.le_of_lt hr);have ndd:=cn' (sqNN y.b) (Std.le_of_lt hr);rcases h1 with ⟨n1,p1⟩ | ⟨n1,p1⟩ <;> rcases h2 with ⟨n2,p2⟩ | ⟨n2,p2⟩
 ·refine .inl ⟨mulP n1 n2,?_⟩;have q:=eE' nbb (show x.b * x.b * r < x.a * x.a by unfold nrm at n1; grind) ndd (show y.b * y.b * r < y.a * y.a by unfold nrm at n2; grind);exact sqL (mulP p1 p2) (by grind)
 ·refine .inr ⟨?_,?_⟩
  ·have:=mulP (a:=nrm x) (b:=-nrm y) n1 (by grind); grind
  ·have q:=eE' nbb (show x.b * x.b * r < x.a * x.a by unfold nrm at n1; grind) (sqNN y.a) (show y.a * y.a < y.b * y.b * r by unfold nrm at n2; grind);refine sqL (mulP p1 p2) ?_
   by_cases c:x.b * y.a * (x.b * y.a) < x.a * y.b * (x.a * y.b)
   ·exact c
   ·have:=cn' (a:=x.b * y.a * (x.b * y.a) - x.a * y.b * (x.a * y.b)) (b:=r) (by grind) (Std.le_of_lt hr)
    grind
 ·refine .inr ⟨?_,?_⟩
  ·have:=mulP (a:=-nrm x) (b:=nrm y) (by grind) n2; grind
  ·have q:=eE' (sqNN x.a) (show x.a * x.a < x.b * x.b * r by unfold nrm at n1; grind) ndd (show y.b * y.b * r < y.a * y.a by unfold nrm at n2; grind);have:0 < x.b * y.a + x.a * y.b:=by
    refine sqL (mulP p1 p2) ?_
    by_cases c:x.a * y.b * (x.a * y.b) < x.b * y.a * (x.b * y.a)
    ·exact c
    ·have:=cn' (a:=x.a * y.b * (x.a * y.b) - x.b * y.a * (x.b * y.a)) (b:=r) (by grind) (Std.le_of_lt hr)
     grind
   grind
 ·refine .inl ⟨?_,?_⟩
  ·have:=mulP (a:=-nrm x) (b:=-nrm y) (by grind) (by grind); grind
  ·have q:=eE' (sqNN x.a) (show x.a * x.a < x.b * x.b * r by unfold nrm at n1; grind) (sqNN y.a) (show y.a * y.a < y.b * y.b * r by unfold nrm at n2; grind);have:0 < x.b * y.b * r + x.a * y.a:=sqL (mulP (mulP p1 p2) hr) (by grind)
   grind
theorem kF' (hn:∀z:F.C,z * z≠r) (hr:0 < r) {x y:Ext r} (h1:Pos x) (h2:Pos y):Pos (x + y):=by
 have rr:=mulP hr hr;have nbb:=cn' (sqNN x.b) (Std.le_of_lt hr);have ndd:=cn' (sqNN y.b) (Std.le_of_lt hr);have mixed:∀x y:Ext r,(0 < nrm x/\0 < x.a)->(nrm y < 0/\0 < y.b)->Pos (x + y):=by
  intro x y ⟨n1,p1⟩ ⟨n2,p2⟩;have nbb:=cn' (sqNN x.b) (Std.le_of_lt hr);have h0:x + y≠0:=fun z=>by
   have za:=congrArg Ext.a z;have zb:=congrArg Ext.b z;rw [bo',bf'] at za;rw [bp',bE'] at zb;have ea:y.a=-x.a:=by grind
   have eb:y.b=-x.b:=by grind
   unfold nrm at n1 n2;rw [ea,eb] at n2
   grind
  have n0:nrm (x + y)≠0:=fun z=>h0 (kC' hn z);unfold Pos
  by_cases c:0 < nrm (x + y)
  ·refine .inl ⟨c,?_⟩;rw [bo']
   by_cases d:0 < x.a + y.a
   ·exact d
   ·exfalso;unfold nrm at n1 n2 c;rw [bo',bp'] at c;have nvv:=cn' (sqNN (x.b + y.b)) (Std.le_of_lt hr);have u0:-(x.a + y.a)≠0:=fun z=>by
     have:x.a + y.a=0:=by grind
     rw [this] at c; grind
    have up:0 < -(x.a + y.a):=by grind
    have q:=eE' nbb (show x.b * x.b * r < x.a * x.a by grind) nvv (show (x.b + y.b) * (x.b + y.b) * r < -(x.a + y.a) * -(x.a + y.a) by grind);have q2:=sqL (p:=x.a * -(x.a + y.a)) (q:=x.b * (x.b + y.b) * r) (mulP p1 up) (by grind)
    grind
  ·refine .inr ⟨by grind,?_⟩;rw [bp']
   by_cases d:0 < x.b + y.b
   ·exact d
   ·exfalso;have c':nrm (x + y) < 0:=by grind
    unfold nrm at n1 n2 c';rw [bo',bp'] at c';have naa:=sqNN (x.a + y.a);have v0:-(x.b + y.b)≠0:=fun z=>by
     have:x.b + y.b=0:=by grind
     rw [this] at c'; grind
    have vp:0 < -(x.b + y.b):=by grind
    have q:=eE' (sqNN y.a) (show y.a * y.a < y.b * y.b * r by grind) naa (show (x.a + y.a) * (x.a + y.a) < (x.b + y.b) * (x.b + y.b) * r by grind);have q2:=sqL (p:=y.b * -(x.b + y.b) * r) (q:=y.a * (x.a + y.a)) (mulP (mulP p2 vp) hr) (by grind)
    grind
 rcases h1 with h1 | h1 <;> rcases h2 with h2 | h2
 ·obtain ⟨n1,p1⟩:=h1;obtain ⟨n2,p2⟩:=h2;refine .inl ⟨?_,by rw [bo']; grind⟩;unfold nrm at *;rw [bo',bp'];have q:=eE' nbb (show x.b * x.b * r < x.a * x.a by grind) ndd (show y.b * y.b * r < y.a * y.a by grind);have q2:=sqL (p:=x.a * y.a) (q:=-(x.b * y.b * r)) (mulP p1 p2) (by grind)
  grind
 ·exact mixed x y h1 h2
 ·have:=mixed y x h2 h1
  rwa [Semiring.add_comm] at this
 ·obtain ⟨n1,p1⟩:=h1;obtain ⟨n2,p2⟩:=h2;refine .inr ⟨?_,by rw [bp']; grind⟩;unfold nrm at *;rw [bo',bp'];have q:=eE' (sqNN x.a) (show x.a * x.a < x.b * x.b * r by grind) (sqNN y.a) (show y.a * y.a < y.b * y.b * r by grind);have q2:=sqL (p:=x.b * y.b * r) (q:=-(x.a * y.a)) (mulP (mulP p1 p2) hr) (by grind)
  grind
theorem fA' {x y:Ext r}:x < y↔Pos (y - x):=Iff.rfl
theorem jC' {x y:Ext r}:x<=y↔x=y\/Pos (y - x):=Iff.rfl
theorem kG' (x y z:Ext r):(y - x) + (z - y)=z - x:=by grind
theorem linE (hn:∀z:F.C,z * z≠r) (hr:0 < r):Std.IsLinearOrder (Ext r) where
 le_refl x:=.inl rfl
 le_trans x y z h1 h2:=by
  rcases h1 with rfl | h1
  ·exact h2
  ·rcases h2 with rfl | h2
   ·exact .inr h1
   ·exact .inr (by have:=kF' hn hr h1 h2; rwa [kG'] at this)
 le_antisymm x y h1 h2:=by
  rcases h1 with rfl | h1
  ·rfl
  ·rcases h2 with rfl | h2
   ·rfl
   ·exact (hM' h1 (by rwa [show -(y - x)=x - y by grind])).elim
 le_total x y:=by
  rcases tri hn hr (y - x) with z | z | z
  ·exact .inl (.inl (by grind))
  ·exact .inl (.inr z)
  ·exact .inr (.inr (by rwa [show -(y - x)=x - y by grind] at z))
theorem lltE:Std.LawfulOrderLT (Ext r) where
 lt_iff x y:=by
  constructor
  ·intro h;refine ⟨.inr h,fun z=>?_⟩;rcases z with rfl | z
   ·rw [fA',show y - y=0 by grind] at h; exact ja' h
   ·exact hM' h (by rwa [show -(y - x)=x - y by grind])
  ·intro ⟨h1,h2⟩;rcases h1 with rfl | h1
   ·exact (h2 (.inl rfl)).elim
   ·exact h1
theorem ordE (hn:∀z:F.C,z * z≠r) (hr:0 < r):@OrderedRing (Ext r) _ _ _ ((linE hn hr).toIsPartialOrder.toIsPreorder) :=
  letI:=(linE hn hr)
  { add_le_left_iff:=fun {a b} c=>by
      rw [jC',jC',show b + c - (a + c)=b - a by grind]
      constructor
      · rintro (rfl | h)
        · exact .inl rfl
        · exact .inr h
      · rintro (h | h)
        · exact .inl (by grind)
        · exact .inr h
    zero_lt_one:=by
      rw [fA'];refine .inl ⟨?_,?_⟩
      · unfold nrm; rw [kA',lQ',co',dg',bf',bE'];have:=OrderedRing.zero_lt_one (R:=F.C)
        grind
      · rw [kA',co',bf']; have:=OrderedRing.zero_lt_one (R:=F.C); grind
    mul_lt_mul_of_pos_left:=fun {a b c} h1 h2=>by
      rw [fA'] at *;have:=hN' hr h2 h1
      rwa [show (c - 0) * (b - a)=c * b - c * a by grind] at this
    mul_lt_mul_of_pos_right:=fun {a b c} h1 h2=>by
      rw [fA'] at *;have:=hN' hr h2 h1
      rwa [show (c - 0) * (b - a)=b * c - a * c by grind] at this }
end
end Ext
noncomputable def extOF (F:OF) (r:F.C) (hr:0 < r) (hn:∀z:F.C,z * z≠r):OF where
 C:=Ext r
 fld:=Ext.fieldE hn
 le:=inferInstance
 lt:=inferInstance
 llt:=Ext.lltE
 lin:=Ext.linE hn hr
 ord:=Ext.ordE hn hr
noncomputable def ratOF:OF where
 C:=Rat
 fld:=inferInstance
 le:=inferInstance
 lt:=inferInstance
 llt:=inferInstance
 lin:=inferInstance
 ord:=inferInstance
end Mine
namespace Mine
open PySem DL L2
open Lean.Grind
noncomputable def exOf {F:OF} (of:List Int->F.C) (r:List Int) (hr:0 < of r) (hn:∀z:F.C,z * z≠of r):List Int->(extOF F (of r) hr hn).C:=fun x=>(⟨of (frH x),of (bhH x)⟩:Ext (of r))
inductive Tow:(rs:List (List Int))->(F:OF)->(List Int->F.C)->Prop
 | nil:Tow [] ratOF (fun x=>(((x.headD 0:Int):Rat)))
 | cons {rs:List (List Int)} {F:OF} {of:List Int->F.C} (T:Tow rs F of) (r:List Int) (hl:r.length=2 ^ rs.length) (hr:0 < of r) (hn:∀z:F.C,z * z≠of r) :
   Tow (r :: rs) (extOF F (of r) hr hn) (exOf of r hr hn)
theorem Tow.sc {rs:List (List Int)} {F:OF} {of:List Int->F.C} (T:Tow rs F of):Sc rs:=by
 induction T with
 | nil=>trivial
 | cons T r hl hr hn ih=>exact ⟨hl,ih⟩
section
variable {rs:List (List Int)} {F:OF} {of:List Int->F.C}
end
noncomputable def Nm {F:OF} (of:List Int->F.C) (k n:Nat) (d:D) (v:F.C):Prop :=
 ∃x b,d=num x b/\Nf x b/\x.length=2 ^ k/\Bd n x/\b.natAbs < 2 ^ n/\v=of x / (b:F.C)
section
variable {rs:List (List Int)} {F:OF} {of:List Int->F.C}
end
abbrev hd0:List Int->ratOF.C:=fun x=>(((x.headD 0:Int):Rat))
section
variable {F:OF} {r:F.C} {hr:0 < r} {hn:∀z:F.C,z * z≠r}
end
end Mine
namespace DL
open PySem PySem.Spec PyProof.Rows L2
end DL
local macro_rules
 | `(tactic| push_cast [$xs,*]) => `(tactic| simp only [DL.ap_seq, DL.sq_nxt, DL.sq_ret, DL.sq_err, DL.ap_set, DL.on_ok, DL.on_err, DL.ont_ok, DL.onl_ok, DL.ap_if, DL.ap_two, DL.ap_bF, DL.ap_bT, DL.ap_bL, DL.ap_cons, DL.ap_tup, DL.ap_lst, DL.ap_ret, DL.ap_neg, DL.neg_ok, DL.ap_notT, DL.ap_andT, DL.ap_orT, DL.ap_orV, DL.ap_ifD, DL.ap_for, DL.ap_forR, DL.ap_slice, DL.ap_part, DL.ap_noPart, DL.part_int, DL.out_ret, DL.out_err, DL.cmp_ok, DL.add_ok, DL.sub_ok, DL.bool_ok, DL.truth_bl, DL.abs_ok, DL.len_lst, DL.seq_lst, DL.vw_val, DL.vw_arg, DL.eqI, DL.neI, DL.bnd_ok, DL.mulE_i, DL.sl0, DL.sl1, DL.st1, DL.sl2, DL.st2, DL.sl3, DL.st3, DL.sl4, DL.st4, DL.sl5, DL.st5, DL.sl6, DL.st6, DL.sl7, DL.st7, DL.sl8, DL.st8, DL.sl9, DL.st9, DL.lst0, DL.tup1, DL.lst1, DL.tup2, DL.lst2, DL.lst3, DL.lst4, DL.lst5, DL.lst8, DL.ix_tup0, DL.ix_lst0, DL.ix_tup1, DL.ix_lst1, DL.ix_lst2, DL.ix_lst3, DL.ix_lst4, ↓reduceIte, decide_true, decide_false, Bool.not_true, Bool.not_false, Bool.false_eq_true, Int.reduceEq, Int.reduceNe, Int.reduceLT, Int.reduceLE, Nat.reduceAdd, DL.cN1, DL.cN2, DL.cN4, List.length_cons, List.length_nil, $xs,*])
namespace Mine
open PySem DL L2
open Lean.Grind
section
variable {F:OF} {r:F.C} {hr:0 < r} {hn:∀z:F.C,z * z≠r}
end
section
variable {rs:List (List Int)} {F:OF} {of:List Int->F.C}
end
end Mine
set_option maxHeartbeats 4000000
namespace Bk
open PySem PySem.Spec PyProof.Rows L2 DL
noncomputable def is_str:D->Option Bool
 | .non=>some false
 | .bl _=>some false
 | .int _=>some false
 | .str _=>some true
 | .tup _=>some false
 | .lst _=>some false
 | .dct=>some false
 | _=>none
noncomputable def absAt (i:Nat) (δ:DS):Nat:=match δ[i]? with
 | some (some sv)=>(match sv.view with | .int i=>i.natAbs + 1 | _=>0)
 | _=>0
noncomputable def fuel_qE_1:DS->Nat:=absAt 3
noncomputable def b_qE:DS->Out :=
 (seqD (setD 2 (bindF (consD (slotD 0) (fun _=>.ok [])) absG)) (seqD (setD 3 (bindF (consD (slotD 1) (fun _=>.ok [])) absG)) (seqD (whileF fuel_qE_1 (bindT (two (slotD 3) (fun _=>.ok (.int 0)) neD) boolD) (seqD (setD 4 (two (slotD 2) (slotD 3) modD)) (seqD (setD 2 (slotD 3)) (setD 3 (slotD 4))))) (retD (slotD 2)))))
noncomputable def F_qE:List D->Res D:=fnD 2 5 b_qE
end Bk
set_option exponentiation.threshold 300000
namespace Bk
open PySem PySem.Spec PyProof.Rows L2 DL Mine
abbrev lcc:DS->Res Bool:=bindT (two (slotD 1) (fun _=>.ok (.int 0)) neD) boolD
abbrev lcb:DS->Out:=seqD (setD 2 (two (slotD 0) (slotD 1) modD)) (seqD (setD 0 (slotD 1)) (setD 1 (slotD 2)))
abbrev cc:DS->Res Bool:=bindT (two (slotD 3) (fun _=>.ok (.int 0)) neD) boolD
abbrev cb:DS->Out:=(seqD (setD 4 (two (slotD 2) (slotD 3) modD)) (seqD (setD 2 (slotD 3)) (setD 3 (slotD 4))))
theorem cR' (p q:Option SV):∀(n:Nat) (x y:Int) (z:Option SV),0<=x->0<=y->y.toNat < n ->
  ∃z',whileD cc cb n [p,q,some (.val (.int x)),some (.val (.int y)),z]=.nxt [p,q,some (.val (.int (cm x y))),some (.val (.int 0)),z']
 | 0,_,_,_,_,_,h=>absurd h (Nat.not_lt_zero _)
 | n + 1,x,y,z,hx,hy,h=>by
  rw [whileD];have e:cc [p,q,some (.val (.int x)),some (.val (.int y)),z]=.ok (!decide (y=0)):=rfl;rw [e]
  by_cases c:y=0
  ·subst c;exact ⟨z,by rw [ky' hx]; rfl⟩
  ·simp only [c,decide_false,Bool.not_false];have e2:cb [p,q,some (.val (.int x)),some (.val (.int y)),z]=.nxt [p,q,some (.val (.int y)),some (.val (.int (Int.fmod x y))),some (.val (.int (Int.fmod x y)))]:=by
    simp only [cb,ap_seq,sq_nxt,sq_ret,sq_err,ap_set,on_ok,on_err,ont_ok,onl_ok,ap_if,ap_two,ap_bF,ap_bT,ap_bL,ap_cons,ap_tup,ap_lst,ap_ret,ap_neg,neg_ok,ap_notT,ap_andT,ap_orT,ap_orV,ap_ifD,ap_for,ap_forR,ap_slice,ap_part,ap_noPart,part_int,out_ret,out_err,cmp_ok,add_ok,sub_ok,bool_ok,truth_bl,abs_ok,len_lst,seq_lst,vw_val,vw_arg,eqI,neI,bnd_ok,mulE_i,sl0,sl1,st1,sl2,st2,sl3,st3,sl4,st4,sl5,st5,sl6,st6,sl7,st7,sl8,st8,sl9,st9,lst0,tup1,lst1,tup2,lst2,lst3,lst4,lst5,lst8,ix_tup0,ix_lst0,ix_tup1,ix_lst1,ix_lst2,ix_lst3,ix_lst4,↓reduceIte,decide_true,decide_false,Bool.not_true,Bool.not_false,Bool.false_eq_true,Int.reduceEq,Int.reduceNe,Int.reduceLT,Int.reduceLE,Nat.reduceAdd,cN1,cN2,cN4,List.length_cons,List.length_nil,modI c]
   rw [e2];have yp:0 < y:=by omega
   obtain ⟨z',e⟩:=cR' p q n y (Int.fmod x y) (some (.val (.int (Int.fmod x y)))) hy (Int.fmod_nonneg_of_pos x yp) (by have:=Int.fmod_lt_of_pos x yp; omega);refine ⟨z',?_⟩;rw [kx' hx hy] at e;exact e
theorem fB' (a b:Int):F_qE [.int a,.int b]=.ok (.int (cm a b)):=by
 show outD (b_qE [some (.arg (.int a)),some (.arg (.int b)),none,none,none])=_;unfold b_qE;obtain ⟨z',e⟩:=cR' (some (.arg (.int a))) (some (.arg (.int b))) (((b.natAbs:Int)).natAbs + 1) a.natAbs b.natAbs none (by omega) (by omega) (by omega);rw [lM'] at e;push_cast [DL.ap_seq];show outD ((whileD cc cb (((b.natAbs:Int)).natAbs + 1) [some (.arg (.int a)),some (.arg (.int b)),some (.val (.int (a.natAbs:Nat))),some (.val (.int (b.natAbs:Nat))),none]).seq _)=_;rw [e]; rfl
section
variable {rs:List (List Int)} {F:OF} {of:List Int->F.C} {ρ:Nat}
end
section
variable {F:OF}
end
section
variable {rs:List (List Int)} {F:OF} {of:List Int->F.C} {ρ:Nat}
section
variable {r:F.C} {hr:0 < r} {hn:∀z:F.C,z * z≠r}
end
open Classical in
noncomputable def fabs {F:OF} (u:F.C):F.C:=if u < 0 then -u else u
end
noncomputable def Rw {F:OF} (of:List Int->F.C) (k n:Nat) (d:D) (v:F.C):Prop :=
 ∃x b,d=num x b/\0 < b/\x.length=2 ^ k/\Bd n x/\b.natAbs < 2 ^ n/\v=of x / (b:F.C)
section
variable {rs:List (List Int)} {F:OF} {of:List Int->F.C} {ρ:Nat}
theorem _root_.Mine.Nm.rw {k n:Nat} {d:D} {v:F.C} (h:Nm of k n d v):Rw of k n d v:=by
 obtain ⟨x,b,h1,h2,h3,h4,h5,h6⟩:=h;exact ⟨x,b,h1,h2.pos,h3,h4,h5,h6⟩
end
section
variable {rs:List (List Int)} {F:OF} {of:List Int->F.C} {ρ:Nat}
end
end Bk
namespace Bk
open PySem PySem.Spec PyProof.Rows L2 DL
end Bk
namespace Bk
open PySem PySem.Spec PyProof.Rows L2 DL Mine
theorem eG' {fe:DS->Res D} {rest:DS} {g:Int->Int->Int} {n:Nat}:∀(ts:List Int) (k:Nat),k + ts.length<=n->(∀(i:Nat),i < n->∀t∈ts,fe (some (.val (.int (i:Int))) :: some (.val (.int t)) :: rest)=.ok (.int (g (i:Int) t))) ->
  mapR (eltD (tupTgt [0,1]) fe (none :: none :: rest)) (((ts.map D.int).zipIdx k).map fun p=>D.tup [.int ((p.2:Nat):Int),p.1])=.ok (((ts.zipIdx k).map fun p=>g ((p.2:Nat):Int) p.1).map .int)
 | [],_,_,_=>rfl
 | t :: ts,k,hk,h=>by
  have hk':k + (ts.length + 1)<=n:=hk;have e:eltD (tupTgt [0,1]) fe (none :: none :: rest) (.tup [.int (k:Int),.int t])=.ok (.int (g (k:Int) t)):=by
   show (match fe (some (.val (.int (k:Int))) :: some (.val (.int t)) :: rest) with | .ok z=>Res.ok z | _=>.stuck)=_
   rw [h k (by omega) t (by simp)]
  have ih:=eG' (n:=n) (g:=g) ts (k + 1) (by omega) fun i hi u hu=>h i hi u (List.mem_cons_of_mem _ hu);rw [List.map_cons,List.zipIdx_cons,List.map_cons,List.zipIdx_cons,List.map_cons,List.map_cons];show mapR _ (D.tup [.int (k:Int),.int t] :: _)=_;rw [mapR,e,Res.bind_ok,ih,Res.bind_ok]
theorem hQ' {fe:DS->Res D} {fi:DS->Res (List D)} {fr:List Nat} {δ rest:DS} {ts:List Int} {g:Int->Int->Int} (hi:fi δ=.ok (enumD (ts.map .int))) (hr:compS 2 fr δ=none :: none :: rest) (hl:ts.length<=sizeLine)
  (h:∀(i:Nat),i < ts.length->∀t∈ts,fe (some (.val (.int (i:Int))) :: some (.val (.int t)) :: rest)=.ok (.int (g (i:Int) t))):compD 2 fr (tupTgt [0,1]) fe fi δ=.ok (.lst ((ts.zipIdx.map fun p=>g ((p.2:Nat):Int) p.1).map .int)):=by
 unfold compD;rw [hi,Res.bind_ok,hr];have:=eG' (fe:=fe) (rest:=rest) (g:=g) (n:=ts.length) ts 0 (by omega) h;unfold enumD;rw [this];unfold lstD;rw [Res.bind_ok,if_pos (by rw [List.length_map,List.length_map,List.length_zipIdx]; exact hl)]
section
variable {rs:List (List Int)} {F:OF} {of:List Int->F.C} {ρ:Nat}
end
end Bk
namespace Bk
open PySem PySem.Spec PyProof.Rows L2 DL Mine Lean.Grind
section
variable {F:OF} {r:F.C} {hr:0 < r} {hn:∀z:F.C,z * z≠r}
end
section
variable {rs:List (List Int)} {F:OF} {of:List Int->F.C} {ρ:Nat}
noncomputable def hB (ρ:Nat):Nat->Nat->Nat
 | 0,p=>p
 | k + 1,p=>hB ρ k p + hB ρ k ρ + 1
end
section
variable {rs:List (List Int)} {F:OF} {of:List Int->F.C} {ρ:Nat}
end
section
variable {rs:List (List Int)} {F:OF} {of:List Int->F.C} {ρ:Nat}
end
end Bk
namespace K37
open PySem PySem.Spec PyProof.Rows L2 DL Bk Mine
noncomputable def isx (a:Bool):D->Option Bool
 | .exc c=>if c = "NoChange" then some a else none
 | _=>none
theorem aN' {K:PySem.W.Frag} {V:Value} {a:Bool} (hX:IsOk K V a (.exc "NoChange")):∀d c,isx a d=some c->IsOk K V c d:=by
 intro d c h
 cases d <;> simp only [isx] at h <;> try cases h
 split at h
 ·rename_i e; subst e; cases h; exact hX
 ·cases h
abbrev dO':D->Option Bool:=isx false
abbrev cS':D->Option Bool:=isx false
abbrev cT':D->Option Bool:=isx false
abbrev cU':D->Option Bool:=isx false
abbrev cV':D->Option Bool:=isx false
abbrev cW':D->Option Bool:=isx false
abbrev dP':D->Option Bool:=isx false
abbrev cp':D->Option Bool:=isx false
abbrev bO':D->Option Bool:=isx false
abbrev cq':D->Option Bool:=isx false
abbrev cX':D->Option Bool:=isx false
abbrev dQ':D->Option Bool:=isx false
abbrev cY':D->Option Bool:=isx false
abbrev dR':D->Option Bool:=isx false
abbrev cZ':D->Option Bool:=isx false
abbrev da':D->Option Bool:=isx false
abbrev cr':D->Option Bool:=isx false
abbrev bP':D->Option Bool:=isx true
abbrev bu':D->Option Bool:=isx true
abbrev bj':D->Option Bool:=isx true
noncomputable def sub_HallError (c:Str):Option Bool:=if c = "NoChange" then some true else none
noncomputable def top (i:Nat):Stmt:=PySem.Challenge.pw_compasshall_k37_rows_changed.main.body.getD i (.Pass ⟨0,0,0,0⟩)
abbrev st_qE:Stmt:=top 22
abbrev st_qx:Stmt:=top 30
abbrev st_qn:Stmt:=top 32
abbrev st_qz:Stmt:=top 33
abbrev st_qy:Stmt:=top 57
abbrev st_qs:Stmt:=top 59
abbrev st_qt:Stmt:=top 60
abbrev st_qo:Stmt:=clsDef (top 39) 2
abbrev st_qp:Stmt:=clsDef (top 39) 3
abbrev st_qu:Stmt:=top 29
abbrev st_qg:Stmt:=top 31
abbrev st_qv:Stmt:=top 52
abbrev st_qq:Stmt:=top 58
abbrev st_qA:Stmt:=top 63
abbrev st_qh:Stmt:=top 28
abbrev st_qB:Stmt:=top 61
abbrev st_qc:Stmt:=clsDef (top 41) 0
abbrev st_qd:Stmt:=clsDef (top 42) 0
abbrev st_qe:Stmt:=clsDef (top 44) 0
abbrev st_qa:Stmt:=clsDef (top 45) 0
abbrev st_qk:Stmt:=top 49
abbrev st_ql:Stmt:=top 51
abbrev st_qb:Stmt:=top 53
abbrev st_qf:Stmt:=clsDef (top 40) 0
abbrev st_qr:Stmt:=clsDef (top 43) 0
abbrev st_qi:Stmt:=top 48
abbrev st_qm:Stmt:=top 50
abbrev st_qj:Stmt:=top 47
abbrev st_qC:Stmt:=top 46
abbrev st_qD:Stmt:=top 55
abbrev st_qw:Stmt:=top 62
abbrev cb':Stmt:=top 64
abbrev hR':Stmt:=clsDef (top 39) 0
theorem kH':FnScope ["self", "words", "others", "wanted"] ["self", "words", "others", "wanted"] (defScope hR'):=⟨rfl,rfl,rfl,by decide +kernel,rfl,by decide +kernel,by decide +kernel⟩
noncomputable def isO (c:Str):Bool:=(["FirstPoint", "LineThrough", "RingThrough", "RingBy", "MeetOfLines", "MeetWithRing"]:List Str).contains c
theorem sc_qE:FnScope ["a", "b", "one", "other", "rest"] ["a", "b"] (defScope st_qE):=⟨rfl,rfl,rfl,by decide +kernel,rfl,by decide +kernel,by decide +kernel⟩
theorem sc_qx:FnScope ["part"] ["part"] (defScope st_qx):=⟨rfl,rfl,rfl,by decide +kernel,rfl,by decide +kernel,by decide +kernel⟩
theorem sc_qn:FnScope ["n", "piece", "pieces", "rest"] ["n"] (defScope st_qn):=⟨rfl,rfl,rfl,by decide +kernel,rfl,by decide +kernel,by decide +kernel⟩
theorem sc_qz:FnScope ["word"] ["word"] (defScope st_qz):=⟨rfl,rfl,rfl,by decide +kernel,rfl,by decide +kernel,by decide +kernel⟩
theorem sc_qy:FnScope ["_law_cell_here", "_law_k", "_law_big", "_law_by", "_law_left"] ["_law_cell_here", "_law_k"] (defScope st_qy):=⟨rfl,rfl,rfl,by decide +kernel,rfl,by decide +kernel,by decide +kernel⟩
theorem sc_qs:FnScope ["_law_e", "_law_some"] ["_law_e"] (defScope st_qs):=⟨rfl,rfl,rfl,by decide +kernel,rfl,by decide +kernel,by decide +kernel⟩
theorem sc_qt:FnScope ["_law_word", "_law_some"] ["_law_word"] (defScope st_qt):=⟨rfl,rfl,rfl,by decide +kernel,rfl,by decide +kernel,by decide +kernel⟩
theorem sc_qo:FnScope ["self"] ["self"] (defScope st_qo):=⟨rfl,rfl,rfl,by decide +kernel,rfl,by decide +kernel,by decide +kernel⟩
theorem sc_qp:FnScope ["self"] ["self"] (defScope st_qp):=⟨rfl,rfl,rfl,by decide +kernel,rfl,by decide +kernel,by decide +kernel⟩
theorem sc_qu:FnScope ["parts"] ["parts"] (defScope st_qu):=⟨rfl,rfl,rfl,by decide +kernel,rfl,by decide +kernel,by decide +kernel⟩
theorem sc_qg:FnScope ["x", "top", "bottom", "ahead", "behind"] ["x"] (defScope st_qg):=⟨rfl,rfl,rfl,by decide +kernel,rfl,by decide +kernel,by decide +kernel⟩
theorem sc_qv:FnScope ["words"] ["words"] (defScope st_qv):=⟨rfl,rfl,rfl,by decide +kernel,rfl,by decide +kernel,by decide +kernel⟩
theorem sc_qq:FnScope ["_law_script", "_law_k"] ["_law_script", "_law_k"] (defScope st_qq):=⟨rfl,rfl,rfl,by decide +kernel,rfl,by decide +kernel,by decide +kernel⟩
theorem sc_qA:FnScope ["_law_rows", "_law_at", "_law_texts"] ["_law_rows", "_law_at"] (defScope st_qA):=⟨rfl,rfl,rfl,by decide +kernel,rfl,by decide +kernel,by decide +kernel⟩
theorem sc_qh:FnScope ["text", "below", "unsigned", "parts", "top", "bottom", "shared"] ["text"] (defScope st_qh):=⟨rfl,rfl,rfl,by decide +kernel,rfl,by decide +kernel,by decide +kernel⟩
theorem sc_qB:FnScope ["_law_cells", "_law_cell_here", "_law_letters", "_law_room", "_law_names", "_law_fraction", "_law_kind", "_law_word", "_law_tail"] ["_law_cells"] (defScope st_qB):=⟨rfl,rfl,rfl,by decide +kernel,rfl,by decide +kernel,by decide +kernel⟩
theorem sc_qc:FnScope ["self", "name", "one", "other"] ["self", "name", "one", "other"] (defScope st_qc):=⟨rfl,rfl,rfl,by decide +kernel,rfl,by decide +kernel,by decide +kernel⟩
theorem sc_qd:FnScope ["self", "name", "one", "other"] ["self", "name", "one", "other"] (defScope st_qd):=⟨rfl,rfl,rfl,by decide +kernel,rfl,by decide +kernel,by decide +kernel⟩
theorem sc_qe:FnScope ["self", "name", "one", "other"] ["self", "name", "one", "other"] (defScope st_qe):=⟨rfl,rfl,rfl,by decide +kernel,rfl,by decide +kernel,by decide +kernel⟩
theorem sc_qa:FnScope ["self", "name", "one", "other", "word"] ["self", "name", "one", "other", "word"] (defScope st_qa):=⟨rfl,rfl,rfl,by decide +kernel,rfl,by decide +kernel,by decide +kernel⟩
theorem sc_qk:FnScope ["words"] ["words"] (defScope st_qk):=⟨rfl,rfl,rfl,by decide +kernel,rfl,by decide +kernel,by decide +kernel⟩
theorem sc_ql:FnScope ["words"] ["words"] (defScope st_ql):=⟨rfl,rfl,rfl,by decide +kernel,rfl,by decide +kernel,by decide +kernel⟩
theorem sc_qb:FnScope ["word"] ["word"] (defScope st_qb):=⟨rfl,rfl,rfl,by decide +kernel,rfl,by decide +kernel,by decide +kernel⟩
theorem sc_qf:FnScope ["self", "name", "x", "y"] ["self", "name", "x", "y"] (defScope st_qf):=⟨rfl,rfl,rfl,by decide +kernel,rfl,by decide +kernel,by decide +kernel⟩
theorem sc_qr:FnScope ["self", "name", "one", "square"] ["self", "name", "one", "square"] (defScope st_qr):=⟨rfl,rfl,rfl,by decide +kernel,rfl,by decide +kernel,by decide +kernel⟩
theorem sc_qi:FnScope ["words", "x", "y"] ["words"] (defScope st_qi):=⟨rfl,rfl,rfl,by decide +kernel,rfl,by decide +kernel,by decide +kernel⟩
theorem sc_qm:FnScope ["words", "square"] ["words"] (defScope st_qm):=⟨rfl,rfl,rfl,by decide +kernel,rfl,by decide +kernel,by decide +kernel⟩
theorem sc_qj:FnScope ["words"] ["words"] (defScope st_qj):=⟨rfl,rfl,rfl,by decide +kernel,rfl,by decide +kernel,by decide +kernel⟩
theorem sc_qC:FnScope ["thing", "step"] ["thing"] (defScope st_qC):=⟨rfl,rfl,rfl,by decide +kernel,rfl,by decide +kernel,by decide +kernel⟩
theorem sc_qD:FnScope ["rows", "at"] ["rows", "at"] (defScope st_qD):=⟨rfl,rfl,rfl,by decide +kernel,rfl,by decide +kernel,by decide +kernel⟩
theorem sc_qw:FnScope ["_law_rows", "_law_at", "_law_said", "_law_e"] ["_law_rows", "_law_at"] (defScope st_qw):=⟨rfl,rfl,rfl,by decide +kernel,rfl,by decide +kernel,by decide +kernel⟩
theorem sc_law:FnScope ["_law_script", "_law_rows", "_law_k", "_law_texts", "_law_mine", "_law_beyond", "_law_at", "_law_due_here", "_law_said", "_law_other"] ["_law_script"] (defScope cb'):=⟨rfl,rfl,rfl,by decide +kernel,rfl,by decide +kernel,by decide +kernel⟩
noncomputable def b_qx:DS->Out :=
 (seqD (ifS (orT (bindT (two (slotD 0) (fun _=>.ok (.str "")) eqD) boolD) (orT (bindT (two (bindF (consD (slotD 0) (fun _=>.ok [])) lenG) (fun _=>.ok (.int 60)) (cmpD fun i j=>decide (j < i))) boolD) (bindT (methD "str" startsG (slotD 0) (consD (fun _=>.ok (.str "0")) (fun _=>.ok []))) truthD))) (retD (fun _=>.ok (.bl false))) Out.nxt) (retD (bindF (consD (compD 1 [] (tgtN 0) (two (slotD 0) (fun _=>.ok (.str "0123456789")) inA) (bindL (slotD 0) seqItems)) (fun _=>.ok [])) allG)))
noncomputable def F_qx:List D->Res D:=fnD 1 1 b_qx
noncomputable def fuel_qn_1:DS->Nat:=absAt 3
noncomputable def b_qn:DS->Out :=
 (seqD (setD 1 (two (fun _=>.ok (.int 10)) (fun _=>.ok (.int 60)) powD)) (seqD (ownD 2 (fun _=>.ok [])) (seqD (setD 3 (slotD 0)) (seqD (whileF fuel_qn_1 (bindT (two (slotD 3) (slotD 1) (cmpD fun i j=>decide (j<=i))) boolD) (seqD (appD 2 (methD "str" zfillG (bindF (consD (two (slotD 3) (slotD 1) modD) (fun _=>.ok [])) strG) (consD (fun _=>.ok (.int 60)) (fun _=>.ok [])))) (setD 3 (two (slotD 3) (slotD 1) fdivD)))) (seqD (appD 2 (bindF (consD (slotD 3) (fun _=>.ok [])) strG)) (retD (bindF (slotD 2) (joinRevG ""))))))))
noncomputable def F_qn:List D->Res D:=fnD 1 4 b_qn
noncomputable def b_qz:DS->Out :=
 (seqD (ifS (orT (bindT (two (slotD 0) (fun _=>.ok (.str "")) eqD) boolD) (bindT (two (bindF (consD (slotD 0) (fun _=>.ok [])) lenG) (fun _=>.ok (.int 6)) (cmpD fun i j=>decide (j < i))) boolD)) (retD (fun _=>.ok (.bl false))) Out.nxt) (retD (bindF (consD (compD 1 [] (tgtN 0) (two (slotD 0) (fun _=>.ok (.str "abcdefghijklmnopqrstuvwxyz")) inA) (bindL (slotD 0) seqItems)) (fun _=>.ok [])) allG)))
noncomputable def F_qz:List D->Res D:=fnD 1 1 b_qz
noncomputable def b_qy:DS->Out :=
 (seqD (setD 2 (fun _=>.ok (.int 170141183460469231731687303715884105727))) (seqD (setD 3 (two (fun _=>.ok (.int 123457890123456789012345678901234567891)) (two (slotD 1) (fun _=>.ok (.int 31415926535897932384626433832795028841)) mulE) addD)) (seqD (setD 4 (two (two (two (slotD 0) (slotD 2) modD) (fun _=>.ok (.int 1)) addD) (slotD 3) mulE)) (retD (two (two (two (slotD 4) (slotD 2) modD) (fun _=>.ok (.int 98767890123456789012345678901234567)) mulE) (slotD 2) modD)))))
noncomputable def F_qy:List D->Res D:=fnD 2 5 b_qy
noncomputable def b_qs:DS->Out :=
 (seqD (setD 1 (lstF (consD (bindF (slotD 0) (isG dO')) (consD (bindF (slotD 0) (isG cS')) (consD (bindF (slotD 0) (isG cT')) (consD (bindF (slotD 0) (isG cU')) (fun _=>.ok []))))))) (seqD (setD 1 (two (slotD 1) (lstF (consD (bindF (slotD 0) (isG cV')) (consD (bindF (slotD 0) (isG cW')) (consD (bindF (slotD 0) (isG dP')) (consD (bindF (slotD 0) (isG cp')) (fun _=>.ok [])))))) addD)) (seqD (setD 1 (two (slotD 1) (lstF (consD (bindF (slotD 0) (isG bO')) (consD (bindF (slotD 0) (isG cq')) (consD (bindF (slotD 0) (isG cX')) (consD (bindF (slotD 0) (isG bP')) (fun _=>.ok [])))))) addD)) (seqD (setD 1 (two (slotD 1) (lstF (consD (bindF (slotD 0) (isG dQ')) (consD (bindF (slotD 0) (isG cY')) (consD (bindF (slotD 0) (isG dR')) (consD (bindF (slotD 0) (isG cZ')) (fun _=>.ok [])))))) addD)) (retD (two (slotD 1) (lstF (consD (bindF (slotD 0) (isG da')) (consD (bindF (slotD 0) (isG cr')) (consD (bindF (slotD 0) (isG bu')) (consD (bindF (slotD 0) (isG bj')) (fun _=>.ok [])))))) addD))))))
noncomputable def F_qs:List D->Res D:=fnD 1 2 b_qs
noncomputable def b_qt:DS->Out :=
 (seqD (setD 1 (lstF (consD (fun _=>.ok (.str "Below")) (consD (fun _=>.ok (.str "NoText")) (consD (fun _=>.ok (.str "NoOver")) (consD (fun _=>.ok (.str "NoRoom")) (consD (fun _=>.ok (.str "NoLine")) (consD (fun _=>.ok (.str "NoRing")) (consD (fun _=>.ok (.str "NoRow")) (consD (fun _=>.ok (.str "TooMany")) (consD (fun _=>.ok (.str "TooGreat")) (consD (fun _=>.ok (.str "NoClaim")) (fun _=>.ok []))))))))))))) (seqD (setD 1 (two (slotD 1) (lstF (consD (fun _=>.ok (.str "NoMove")) (consD (fun _=>.ok (.str "NoChange")) (consD (fun _=>.ok (.str "NoAsk")) (consD (fun _=>.ok (.str "NoMeet")) (consD (fun _=>.ok (.str "Twice")) (consD (fun _=>.ok (.str "NoName")) (consD (fun _=>.ok (.str "NoKind")) (consD (fun _=>.ok (.str "NoCarry")) (fun _=>.ok [])))))))))) addD)) (retD (two (compD 1 [0] (tgtN 0) (two (slotD 1) (slotD 0) eqD) (bindL (slotD 1) seqItems)) (lstF (consD (fun _=>.ok (.bl true)) (consD (fun _=>.ok (.bl true)) (fun _=>.ok [])))) addD))))
noncomputable def F_qt:List D->Res D:=fnD 1 2 b_qt
noncomputable def b_qo:DS->Out :=
 (retD (two (bindF (slotD 0) (fldG isO "words")) (fun _=>.ok (.int 1)) ixD))
noncomputable def F_qo:List D->Res D:=fnD 1 1 b_qo
noncomputable def b_qp:DS->Out :=
 (retD (bindF (consD (bindF (slotD 0) (fldG isO "others")) (fun _=>.ok [])) listG))
noncomputable def F_qp:List D->Res D:=fnD 1 1 b_qp
noncomputable def b_qu:DS->Out :=
 (seqD (ifS (bindT (two (bindF (consD (slotD 0) (fun _=>.ok [])) lenG) (fun _=>.ok (.int 2)) (cmpD fun i j=>decide (j < i))) boolD) (retD (fun _=>.ok (.bl false))) Out.nxt) (seqD (ifS (andT (bindT (two (bindF (consD (slotD 0) (fun _=>.ok [])) lenG) (fun _=>.ok (.int 2)) eqD) boolD) (notT (bindT (bindF (consD (two (slotD 0) (fun _=>.ok (.int 1)) ixD) (fun _=>.ok [])) F_qx) truthD))) (retD (fun _=>.ok (.bl false))) Out.nxt) (retD (orV (two (two (slotD 0) (fun _=>.ok (.int 0)) ixD) (fun _=>.ok (.str "0")) eqD) (bindF (consD (two (slotD 0) (fun _=>.ok (.int 0)) ixD) (fun _=>.ok [])) F_qx)))))
noncomputable def F_qu:List D->Res D:=fnD 1 1 b_qu
noncomputable def b_qg:DS->Out :=
 (seqD (setD 1 (two (two (slotD 0) (fun _=>.ok (.int 0)) ixD) (fun _=>.ok (.int 0)) ixD)) (seqD (setD 2 (two (slotD 0) (fun _=>.ok (.int 1)) ixD)) (seqD (setD 3 (ifD (bindT (two (slotD 1) (fun _=>.ok (.int 0)) (cmpD fun i j=>decide (i < j))) boolD) (fun _=>.ok (.str "-")) (fun _=>.ok (.str "")))) (seqD (setD 4 (ifD (bindT (two (slotD 2) (fun _=>.ok (.int 1)) eqD) boolD) (fun _=>.ok (.str "")) (two (fun _=>.ok (.str "/")) (bindF (consD (slotD 2) (fun _=>.ok [])) F_qn) addD))) (retD (two (two (slotD 3) (bindF (consD (bindF (consD (slotD 1) (fun _=>.ok [])) absG) (fun _=>.ok [])) F_qn) addD) (slotD 4) addD))))))
noncomputable def F_qg:List D->Res D:=fnD 1 5 b_qg
noncomputable def b_qv:DS->Out :=
 (retD (bindF (consD (compD 1 [] (tgtN 0) (bindF (consD (slotD 0) (fun _=>.ok [])) F_qz) (bindL (slotD 0) seqItems)) (fun _=>.ok [])) allG))
noncomputable def F_qv:List D->Res D:=fnD 1 1 b_qv
noncomputable def b_qq:DS->Out :=
 (seqD (ifS (bindT (two (slotD 1) (bindF (consD (slotD 0) (fun _=>.ok [])) lenG) (cmpD fun i j=>decide (i < j))) boolD) (retD (two (slotD 0) (slotD 1) ixD)) Out.nxt) (retD (bindF (consD (fun _=>.ok (.int 0)) (consD (slotD 1) (fun _=>.ok []))) F_qy)))
noncomputable def F_qq:List D->Res D:=fnD 2 2 b_qq
noncomputable def b_qA:DS->Out :=
 (seqD (ifS (orT (bindT (two (slotD 1) (fun _=>.ok (.int 0)) (cmpD fun i j=>decide (i < j))) boolD) (orT (bindT (two (slotD 1) (two (bindF (consD (slotD 0) (fun _=>.ok [])) lenG) (fun _=>.ok (.int 2)) subD) (cmpD fun i j=>decide (j < i))) boolD) (bindT (two (two (two (slotD 0) (slotD 1) ixD) (fun _=>.ok (.int 0)) ixD) (two (two (slotD 0) (two (slotD 1) (fun _=>.ok (.int 1)) addD) ixD) (fun _=>.ok (.int 1)) ixD) inA) boolD))) (retD (bindF (consD (fun _=>.ok (.str "NoChange")) (fun _=>.ok [])) F_qt)) Out.nxt) (seqD (setD 2 (compD 1 [] (tgtN 0) (two (slotD 0) (fun _=>.ok (.int 2)) ixD) (bindL (slotD 0) seqItems))) (retD (two (two (sliceF (slotD 2) noPart (partF (slotD 1))) (lstF (consD (two (slotD 2) (two (slotD 1) (fun _=>.ok (.int 1)) addD) ixD) (consD (two (slotD 2) (slotD 1) ixD) (fun _=>.ok [])))) addD) (sliceF (slotD 2) (partF (two (slotD 1) (fun _=>.ok (.int 2)) addD)) noPart) addD))))
noncomputable def F_qA:List D->Res D:=fnD 2 3 b_qA
noncomputable def b_qh:DS->Out :=
 (seqD (setD 1 (methD "str" startsG (slotD 0) (consD (fun _=>.ok (.str "-")) (fun _=>.ok [])))) (seqD (setD 2 (ifD (bindT (slotD 1) truthD) (sliceF (slotD 0) (partF (fun _=>.ok (.int 1))) noPart) (slotD 0))) (seqD (setD 3 (methD "str" splitG (slotD 2) (consD (fun _=>.ok (.str "/")) (fun _=>.ok [])))) (seqD (ifS (notT (bindT (bindF (consD (slotD 3) (fun _=>.ok [])) F_qu) truthD)) (fun _=>.stuck) Out.nxt) (seqD (setD 4 (bindF (consD (two (slotD 3) (fun _=>.ok (.int 0)) ixD) (fun _=>.ok [])) intG)) (seqD (setD 5 (ifD (bindT (two (bindF (consD (slotD 3) (fun _=>.ok [])) lenG) (fun _=>.ok (.int 2)) eqD) boolD) (bindF (consD (two (slotD 3) (fun _=>.ok (.int 1)) ixD) (fun _=>.ok [])) intG) (fun _=>.ok (.int 1)))) (seqD (setD 6 (bindF (consD (slotD 4) (consD (slotD 5) (fun _=>.ok []))) F_qE)) (seqD (ifS (bindT (slotD 1) truthD) (setD 4 (negF (slotD 4))) Out.nxt) (retD (tupF (consD (tupF (consD (two (slotD 4) (slotD 6) fdivD) (fun _=>.ok []))) (consD (two (slotD 5) (slotD 6) fdivD) (fun _=>.ok [])))))))))))))
noncomputable def F_qh:List D->Res D:=fnD 1 7 b_qh
noncomputable def b_qB:DS->Out :=
 (seqD (setD 1 (bindF (consD (slotD 0) (consD (fun _=>.ok (.int 0)) (fun _=>.ok []))) F_qq)) (seqD (setD 2 (fun _=>.ok (.str "abcdefghijklmnopqrstuvwxyz"))) (seqD (setD 3 (two (lstF (consD (fun _=>.ok (.int 4)) (consD (fun _=>.ok (.int 26)) (fun _=>.ok [])))) (two (two (slotD 1) (fun _=>.ok (.int 7)) fdivD) (fun _=>.ok (.int 2)) modD) ixD)) (seqD (setD 4 (compD 1 [2,3,0] (tgtN 0) (two (slotD 1) (two (two (bindF (consD (slotD 3) (consD (fun _=>.ok (.int 1)) (fun _=>.ok []))) F_qq) (two (lstF (consD (fun _=>.ok (.int 1)) (consD (fun _=>.ok (.int 26)) (consD (fun _=>.ok (.int 676)) (fun _=>.ok []))))) (slotD 0) ixD) fdivD) (slotD 2) modD) ixD) (bindRg (consD (fun _=>.ok (.int 3)) (fun _=>.ok [])) rng1))) (seqD (setD 5 (two (two (bindF (consD (two (two (two (slotD 1) (fun _=>.ok (.int 14)) fdivD) (fun _=>.ok (.int 19)) modD) (fun _=>.ok (.int 9)) subD) (fun _=>.ok [])) strG) (fun _=>.ok (.str "/")) addD) (bindF (consD (two (fun _=>.ok (.int 1)) (two (two (slotD 1) (fun _=>.ok (.int 14)) fdivD) (fun _=>.ok (.int 5)) modD) addD) (fun _=>.ok [])) strG) addD)) (seqD (setD 6 (two (slotD 1) (fun _=>.ok (.int 7)) modD)) (seqD (ifS (bindT (two (slotD 6) (fun _=>.ok (.int 0)) eqD) boolD) (retD (lstF (consD (two (slotD 4) (fun _=>.ok (.int 0)) ixD) (consD (lstF (fun _=>.ok [])) (consD (two (two (two (two (fun _=>.ok (.str "point ")) (two (slotD 4) (fun _=>.ok (.int 0)) ixD) addD) (fun _=>.ok (.str " ")) addD) (slotD 5) addD) (fun _=>.ok (.str " 4/2")) addD) (fun _=>.ok [])))))) Out.nxt) (seqD (ifS (bindT (two (slotD 6) (fun _=>.ok (.int 1)) eqD) boolD) (retD (lstF (consD (two (slotD 4) (fun _=>.ok (.int 0)) ixD) (consD (sliceF (slotD 4) (partF (fun _=>.ok (.int 1))) (partF (fun _=>.ok (.int 2)))) (consD (two (two (two (two (two (fun _=>.ok (.str "ring ")) (two (slotD 4) (fun _=>.ok (.int 0)) ixD) addD) (fun _=>.ok (.str " ")) addD) (two (slotD 4) (fun _=>.ok (.int 1)) ixD) addD) (fun _=>.ok (.str " by ")) addD) (slotD 5) addD) (fun _=>.ok [])))))) Out.nxt) (seqD (setD 7 (two (lstF (consD (fun _=>.ok (.str "line")) (consD (fun _=>.ok (.str "ring")) (consD (fun _=>.ok (.str "meet")) (consD (fun _=>.ok (.str "meet")) (consD (fun _=>.ok (.str "meet")) (fun _=>.ok []))))))) (two (slotD 6) (fun _=>.ok (.int 2)) subD) ixD)) (seqD (setD 8 (two (lstF (consD (fun _=>.ok (.str "")) (consD (fun _=>.ok (.str "")) (consD (fun _=>.ok (.str "")) (consD (fun _=>.ok (.str " first")) (consD (fun _=>.ok (.str " second")) (fun _=>.ok []))))))) (two (slotD 6) (fun _=>.ok (.int 2)) subD) ixD)) (retD (lstF (consD (two (slotD 4) (fun _=>.ok (.int 0)) ixD) (consD (sliceF (slotD 4) (partF (fun _=>.ok (.int 1))) noPart) (consD (two (two (two (slotD 7) (fun _=>.ok (.str " ")) addD) (methD "str" joinG (fun _=>.ok (.str " ")) (consD (slotD 4) (fun _=>.ok []))) addD) (slotD 8) addD) (fun _=>.ok []))))))))))))))))
noncomputable def F_qB:List D->Res D:=fnD 1 9 b_qB
noncomputable def a_new_LineThrough:DS->Res (List D) :=
 (consD (lstF (consD (fun _=>.ok (.str "line")) (consD (slotD 1) (consD (slotD 2) (consD (slotD 3) (fun _=>.ok [])))))) (consD (lstF (consD (slotD 2) (consD (slotD 3) (fun _=>.ok [])))) (consD (lstF (consD (fun _=>.ok (.tup ((["point"]:List Str).map .str))) (consD (fun _=>.ok (.tup ((["point"]:List Str).map .str))) (fun _=>.ok [])))) (fun _=>.ok []))))
noncomputable def F_qc:List D->Res D:=newO "LineThrough" ((["words", "others", "wanted"]:List Str) ++ ([]:List (Str×Nat)).map (·.1)) (gI 3 a_new_LineThrough (([]:List (Str×Nat)).map (·.2)))
noncomputable def a_new_RingThrough:DS->Res (List D) :=
 (consD (lstF (consD (fun _=>.ok (.str "ring")) (consD (slotD 1) (consD (slotD 2) (consD (slotD 3) (fun _=>.ok [])))))) (consD (lstF (consD (slotD 2) (consD (slotD 3) (fun _=>.ok [])))) (consD (lstF (consD (fun _=>.ok (.tup ((["point"]:List Str).map .str))) (consD (fun _=>.ok (.tup ((["point"]:List Str).map .str))) (fun _=>.ok [])))) (fun _=>.ok []))))
noncomputable def F_qd:List D->Res D:=newO "RingThrough" ((["words", "others", "wanted"]:List Str) ++ ([]:List (Str×Nat)).map (·.1)) (gI 3 a_new_RingThrough (([]:List (Str×Nat)).map (·.2)))
noncomputable def a_new_MeetOfLines:DS->Res (List D) :=
 (consD (lstF (consD (fun _=>.ok (.str "meet")) (consD (slotD 1) (consD (slotD 2) (consD (slotD 3) (fun _=>.ok [])))))) (consD (lstF (consD (slotD 2) (consD (slotD 3) (fun _=>.ok [])))) (consD (lstF (consD (fun _=>.ok (.tup ((["line"]:List Str).map .str))) (consD (fun _=>.ok (.tup ((["line"]:List Str).map .str))) (fun _=>.ok [])))) (fun _=>.ok []))))
noncomputable def F_qe:List D->Res D:=newO "MeetOfLines" ((["words", "others", "wanted"]:List Str) ++ ([]:List (Str×Nat)).map (·.1)) (gI 3 a_new_MeetOfLines (([]:List (Str×Nat)).map (·.2)))
noncomputable def a_new_MeetWithRing:DS->Res (List D) :=
 (consD (lstF (consD (fun _=>.ok (.str "meet")) (consD (slotD 1) (consD (slotD 2) (consD (slotD 3) (consD (slotD 4) (fun _=>.ok []))))))) (consD (lstF (consD (slotD 2) (consD (slotD 3) (fun _=>.ok [])))) (consD (lstF (consD (fun _=>.ok (.tup ((["line", "ring"]:List Str).map .str))) (consD (fun _=>.ok (.tup ((["ring"]:List Str).map .str))) (fun _=>.ok [])))) (fun _=>.ok []))))
noncomputable def F_qa:List D->Res D:=newO "MeetWithRing" ((["words", "others", "wanted"]:List Str) ++ ([("word",3)]:List (Str×Nat)).map (·.1)) (gI 4 a_new_MeetWithRing (([("word",3)]:List (Str×Nat)).map (·.2)))
noncomputable def b_qk:DS->Out :=
 (seqD (ifS (orT (bindT (two (bindF (consD (slotD 0) (fun _=>.ok [])) lenG) (fun _=>.ok (.int 4)) neD) boolD) (notT (bindT (bindF (consD (sliceF (slotD 0) (partF (fun _=>.ok (.int 2))) noPart) (fun _=>.ok [])) F_qv) truthD))) (retD (fun _=>.ok .non)) Out.nxt) (retD (bindF (consD (two (slotD 0) (fun _=>.ok (.int 1)) ixD) (consD (two (slotD 0) (fun _=>.ok (.int 2)) ixD) (consD (two (slotD 0) (fun _=>.ok (.int 3)) ixD) (fun _=>.ok [])))) F_qc)))
noncomputable def F_qk:List D->Res D:=fnD 1 1 b_qk
noncomputable def b_ql:DS->Out :=
 (seqD (ifS (andT (bindT (two (bindF (consD (slotD 0) (fun _=>.ok [])) lenG) (fun _=>.ok (.int 4)) eqD) boolD) (bindT (bindF (consD (sliceF (slotD 0) (partF (fun _=>.ok (.int 2))) noPart) (fun _=>.ok [])) F_qv) truthD)) (retD (bindF (consD (two (slotD 0) (fun _=>.ok (.int 1)) ixD) (consD (two (slotD 0) (fun _=>.ok (.int 2)) ixD) (consD (two (slotD 0) (fun _=>.ok (.int 3)) ixD) (fun _=>.ok [])))) F_qe)) Out.nxt) (seqD (ifS (orT (bindT (two (bindF (consD (slotD 0) (fun _=>.ok [])) lenG) (fun _=>.ok (.int 5)) neD) boolD) (orT (notT (bindT (bindF (consD (sliceF (slotD 0) (partF (fun _=>.ok (.int 2))) (partF (fun _=>.ok (.int 4)))) (fun _=>.ok [])) F_qv) truthD)) (bindT (two (two (slotD 0) (fun _=>.ok (.int 4)) ixD) (tupF (consD (fun _=>.ok (.str "first")) (consD (fun _=>.ok (.str "second")) (fun _=>.ok [])))) notInS) boolD))) (retD (fun _=>.ok .non)) Out.nxt) (retD (bindF (consD (two (slotD 0) (fun _=>.ok (.int 1)) ixD) (consD (two (slotD 0) (fun _=>.ok (.int 2)) ixD) (consD (two (slotD 0) (fun _=>.ok (.int 3)) ixD) (consD (two (slotD 0) (fun _=>.ok (.int 4)) ixD) (fun _=>.ok []))))) F_qa))))
noncomputable def F_ql:List D->Res D:=fnD 1 1 b_ql
noncomputable def b_qb:DS->Out :=
 (tryNo (retD (bindF (consD (slotD 0) (fun _=>.ok [])) F_qh)))
noncomputable def F_qb:List D->Res D:=fnD 1 1 b_qb
noncomputable def a_new_FirstPoint:DS->Res (List D) :=
 (consD (lstF (consD (fun _=>.ok (.str "point")) (consD (slotD 1) (consD (bindF (consD (slotD 2) (fun _=>.ok [])) F_qg) (consD (bindF (consD (slotD 3) (fun _=>.ok [])) F_qg) (fun _=>.ok [])))))) (consD (lstF (fun _=>.ok [])) (consD (lstF (fun _=>.ok [])) (fun _=>.ok []))))
noncomputable def F_qf:List D->Res D:=newO "FirstPoint" ((["words", "others", "wanted"]:List Str) ++ ([("x",1),("y",2)]:List (Str×Nat)).map (·.1)) (gI 3 a_new_FirstPoint (([("x",1),("y",2)]:List (Str×Nat)).map (·.2)))
noncomputable def a_new_RingBy:DS->Res (List D) :=
 (consD (lstF (consD (fun _=>.ok (.str "ring")) (consD (slotD 1) (consD (slotD 2) (consD (fun _=>.ok (.str "by")) (consD (bindF (consD (slotD 3) (fun _=>.ok [])) F_qg) (fun _=>.ok []))))))) (consD (lstF (consD (slotD 2) (fun _=>.ok []))) (consD (lstF (consD (fun _=>.ok (.tup ((["point"]:List Str).map .str))) (fun _=>.ok []))) (fun _=>.ok []))))
noncomputable def F_qr:List D->Res D:=newO "RingBy" ((["words", "others", "wanted"]:List Str) ++ ([("square",2)]:List (Str×Nat)).map (·.1)) (gI 3 a_new_RingBy (([("square",2)]:List (Str×Nat)).map (·.2)))
noncomputable def b_qi:DS->Out :=
 (seqD (ifS (bindT (two (bindF (consD (slotD 0) (fun _=>.ok [])) lenG) (fun _=>.ok (.int 4)) neD) boolD) (retD (fun _=>.ok .non)) Out.nxt) (seqD (setD 1 (bindF (consD (two (slotD 0) (fun _=>.ok (.int 2)) ixD) (fun _=>.ok [])) F_qb)) (seqD (setD 2 (bindF (consD (two (slotD 0) (fun _=>.ok (.int 3)) ixD) (fun _=>.ok [])) F_qb)) (seqD (ifS (orT (bindT (two (slotD 1) (fun _=>.ok .non) isNoneO) boolD) (bindT (two (slotD 2) (fun _=>.ok .non) isNoneO) boolD)) (retD (fun _=>.ok .non)) Out.nxt) (retD (bindF (consD (two (slotD 0) (fun _=>.ok (.int 1)) ixD) (consD (slotD 1) (consD (slotD 2) (fun _=>.ok [])))) F_qf))))))
noncomputable def F_qi:List D->Res D:=fnD 1 3 b_qi
noncomputable def b_qm:DS->Out :=
 (seqD (ifS (andT (bindT (two (bindF (consD (slotD 0) (fun _=>.ok [])) lenG) (fun _=>.ok (.int 4)) eqD) boolD) (bindT (bindF (consD (sliceF (slotD 0) (partF (fun _=>.ok (.int 2))) noPart) (fun _=>.ok [])) F_qv) truthD)) (retD (bindF (consD (two (slotD 0) (fun _=>.ok (.int 1)) ixD) (consD (two (slotD 0) (fun _=>.ok (.int 2)) ixD) (consD (two (slotD 0) (fun _=>.ok (.int 3)) ixD) (fun _=>.ok [])))) F_qd)) Out.nxt) (seqD (ifS (orT (bindT (two (bindF (consD (slotD 0) (fun _=>.ok [])) lenG) (fun _=>.ok (.int 5)) neD) boolD) (orT (notT (bindT (bindF (consD (two (slotD 0) (fun _=>.ok (.int 2)) ixD) (fun _=>.ok [])) F_qz) truthD)) (bindT (two (two (slotD 0) (fun _=>.ok (.int 3)) ixD) (fun _=>.ok (.str "by")) neD) boolD))) (retD (fun _=>.ok .non)) Out.nxt) (seqD (setD 1 (bindF (consD (two (slotD 0) (fun _=>.ok (.int 4)) ixD) (fun _=>.ok [])) F_qb)) (seqD (ifS (bindT (two (slotD 1) (fun _=>.ok .non) isNoneO) boolD) (retD (fun _=>.ok .non)) Out.nxt) (retD (bindF (consD (two (slotD 0) (fun _=>.ok (.int 1)) ixD) (consD (two (slotD 0) (fun _=>.ok (.int 2)) ixD) (consD (slotD 1) (fun _=>.ok [])))) F_qr))))))
noncomputable def F_qm:List D->Res D:=fnD 1 2 b_qm
noncomputable def b_qj:DS->Out :=
 (seqD (ifS (orT (bindT (two (bindF (consD (slotD 0) (fun _=>.ok [])) lenG) (fun _=>.ok (.int 4)) (cmpD fun i j=>decide (i < j))) boolD) (notT (bindT (bindF (consD (two (slotD 0) (fun _=>.ok (.int 1)) ixD) (fun _=>.ok [])) F_qz) truthD))) (retD (fun _=>.ok .non)) Out.nxt) (seqD (ifS (bindT (two (two (slotD 0) (fun _=>.ok (.int 0)) ixD) (fun _=>.ok (.str "point")) eqD) boolD) (retD (bindF (consD (slotD 0) (fun _=>.ok [])) F_qi)) Out.nxt) (seqD (ifS (bindT (two (two (slotD 0) (fun _=>.ok (.int 0)) ixD) (fun _=>.ok (.str "line")) eqD) boolD) (retD (bindF (consD (slotD 0) (fun _=>.ok [])) F_qk)) Out.nxt) (seqD (ifS (bindT (two (two (slotD 0) (fun _=>.ok (.int 0)) ixD) (fun _=>.ok (.str "ring")) eqD) boolD) (retD (bindF (consD (slotD 0) (fun _=>.ok [])) F_qm)) Out.nxt) (seqD (ifS (bindT (two (two (slotD 0) (fun _=>.ok (.int 0)) ixD) (fun _=>.ok (.str "meet")) eqD) boolD) (retD (bindF (consD (slotD 0) (fun _=>.ok [])) F_ql)) Out.nxt) (retD (fun _=>.ok .non)))))))
noncomputable def F_qj:List D->Res D:=fnD 1 1 b_qj
noncomputable def b_qC:DS->Out :=
 (seqD (ifS (notT (bindT (bindF (slotD 0) (isG Bk.is_str)) truthD)) (fun _=>.stuck) Out.nxt) (seqD (setD 1 (bindF (consD (methD "str" splitG (slotD 0) (consD (fun _=>.ok (.str " ")) (fun _=>.ok []))) (fun _=>.ok [])) F_qj)) (seqD (ifS (bindT (two (slotD 1) (fun _=>.ok .non) isNoneO) boolD) (fun _=>.stuck) Out.nxt) (retD (slotD 1)))))
noncomputable def F_qC:List D->Res D:=fnD 1 2 b_qC
noncomputable def b_qD:DS->Out :=
 (seqD (ifS (orT (bindT (two (slotD 1) (fun _=>.ok (.int 0)) (cmpD fun i j=>decide (i < j))) boolD) (bindT (two (slotD 1) (two (bindF (consD (slotD 0) (fun _=>.ok [])) lenG) (fun _=>.ok (.int 2)) subD) (cmpD fun i j=>decide (j < i))) boolD)) (raiseD "NoChange" (consD (fun _=>.ok (.str "there are no two rows to change places")) (fun _=>.ok []))) Out.nxt) (seqD (ifS (bindT (two (bindF (bindF (consD (two (slotD 0) (slotD 1) ixD) (fun _=>.ok [])) F_qC) (methO isO "named" F_qo)) (bindF (bindF (consD (two (slotD 0) (two (slotD 1) (fun _=>.ok (.int 1)) addD) ixD) (fun _=>.ok [])) F_qC) (methO isO "needs" (giveL F_qp))) inA) boolD) (raiseD "NoChange" (consD (fun _=>.ok (.str "the later row needs the earlier one")) (fun _=>.ok []))) Out.nxt) (retD (two (two (sliceF (slotD 0) noPart (partF (slotD 1))) (lstF (consD (two (slotD 0) (two (slotD 1) (fun _=>.ok (.int 1)) addD) ixD) (consD (two (slotD 0) (slotD 1) ixD) (fun _=>.ok [])))) addD) (sliceF (slotD 0) (partF (two (slotD 1) (fun _=>.ok (.int 2)) addD)) noPart) addD))))
noncomputable def F_qD:List D->Res D:=fnD 2 2 b_qD
noncomputable def b_qw:DS->Out :=
 (seqD (setD 2 (fun _=>.ok .non)) (seqD (tryD 3 sub_HallError (setD 2 (bindF (consD (slotD 0) (consD (slotD 1) (fun _=>.ok []))) F_qD)) (setD 2 (bindF (consD (slotD 3) (fun _=>.ok [])) (onlyOk F_qs)))) (retD (slotD 2))))
noncomputable def F_qw:List D->Res D:=fnD 2 4 b_qw
noncomputable def b_law:DS->Out :=
 (seqD (ownC 0 (compD 2 [] (tupTgt [0,1]) (bindF (consD (slotD 1) (consD (slotD 0) (fun _=>.ok []))) F_qy) (bindRg (consD (slotD 0) (fun _=>.ok [])) enumG))) (seqD (ownD 1 (fun _=>.ok [])) (seqD (forR (rngS) (tgtN 2) (consD (fun _=>.ok (.int 2)) (consD (bindF (consD (bindF (consD (slotD 0) (fun _=>.ok [])) lenG) (consD (fun _=>.ok (.int 62)) (fun _=>.ok []))) minT) (consD (fun _=>.ok (.int 2)) (fun _=>.ok [])))) (appU 1 (bindF (consD (sliceF (slotD 0) (partF (slotD 2)) (partF (two (slotD 2) (fun _=>.ok (.int 2)) addD))) (fun _=>.ok [])) F_qB))) (seqD (setD 3 (compD 1 [] (tgtN 0) (two (slotD 0) (fun _=>.ok (.int 2)) ixD) (bindL (slotD 1) seqItems))) (seqD (setD 4 (bindF (consD (slotD 3) (fun _=>.ok [])) listG)) (seqD (setD 5 (two (two (bindF (consD (slotD 0) (consD (fun _=>.ok (.int 0)) (fun _=>.ok []))) F_qq) (two (two (fun _=>.ok (.int 2)) (two (fun _=>.ok (.int 10)) (fun _=>.ok (.int 20)) powD) mulE) (fun _=>.ok (.int 1)) addD) modD) (two (fun _=>.ok (.int 10)) (fun _=>.ok (.int 20)) powD) subD)) (seqD (forS (tgtN 6) (bindL (lstF (consD (two (two (bindF (consD (slotD 0) (consD (fun _=>.ok (.int 1)) (fun _=>.ok []))) F_qq) (two (bindF (consD (slotD 1) (fun _=>.ok [])) lenG) (fun _=>.ok (.int 4)) addD) modD) (fun _=>.ok (.int 2)) subD) (consD (fun _=>.ok (.int 0)) (consD (two (bindF (consD (slotD 1) (fun _=>.ok [])) lenG) (fun _=>.ok (.int 2)) subD) (consD (two (bindF (consD (slotD 1) (fun _=>.ok [])) lenG) (fun _=>.ok (.int 1)) subD) (consD (slotD 5) (fun _=>.ok []))))))) seqItems) (seqD (setD 7 (bindF (consD (slotD 1) (consD (slotD 6) (fun _=>.ok []))) F_qA)) (seqD (setD 8 (bindF (consD (slotD 4) (consD (slotD 6) (fun _=>.ok []))) F_qw)) (seqD (ifS (orT (bindT (two (slotD 8) (slotD 7) neD) boolD) (bindT (two (slotD 4) (slotD 3) neD) boolD)) (retD (fun _=>.ok (.bl false))) Out.nxt) (ifS (bindT (two (slotD 7) (bindF (consD (fun _=>.ok (.str "NoChange")) (fun _=>.ok [])) F_qt) neD) boolD) (seqD (setD 9 (two (two (sliceF (slotD 1) noPart (partF (slotD 6))) (lstF (consD (two (slotD 1) (two (slotD 6) (fun _=>.ok (.int 1)) addD) ixD) (consD (two (slotD 1) (slotD 6) ixD) (fun _=>.ok [])))) addD) (sliceF (slotD 1) (partF (two (slotD 6) (fun _=>.ok (.int 2)) addD)) noPart) addD)) (ifS (bindT (two (bindF (consD (slotD 8) (consD (slotD 6) (fun _=>.ok []))) F_qw) (bindF (consD (slotD 9) (consD (slotD 6) (fun _=>.ok []))) F_qA) neD) boolD) (retD (fun _=>.ok (.bl false))) Out.nxt)) Out.nxt))))) (retD (fun _=>.ok (.bl true))))))))))
noncomputable def F_law:List D->Res D:=fnD 1 10 b_law
structure Adr where
 c_HallError:Addr
 c_Below:Addr
 c_NoText:Addr
 c_NoOver:Addr
 c_NoRoom:Addr
 c_NoLine:Addr
 c_NoRing:Addr
 c_NoRow:Addr
 c_TooMany:Addr
 c_TooGreat:Addr
 c_NoClaim:Addr
 c_NoMove:Addr
 c_NoChange:Addr
 c_NoAsk:Addr
 c_NoMeet:Addr
 c_Twice:Addr
 c_NoName:Addr
 c_NoKind:Addr
 c_NoCarry:Addr
 c_Step:Addr
 c_FirstPoint:Addr
 c_LineThrough:Addr
 c_RingThrough:Addr
 c_RingBy:Addr
 c_MeetOfLines:Addr
 c_MeetWithRing:Addr
structure Txt (K:PySem.W.Frag) (mg:Str->Option Value) (a:Adr):Prop where
 m_HallError:mg "HallError" = some (.ref a.c_HallError)
 m_Below:mg "Below" = some (.ref a.c_Below)
 m_NoText:mg "NoText" = some (.ref a.c_NoText)
 m_NoOver:mg "NoOver" = some (.ref a.c_NoOver)
 m_NoRoom:mg "NoRoom" = some (.ref a.c_NoRoom)
 m_NoLine:mg "NoLine" = some (.ref a.c_NoLine)
 m_NoRing:mg "NoRing" = some (.ref a.c_NoRing)
 m_NoRow:mg "NoRow" = some (.ref a.c_NoRow)
 m_TooMany:mg "TooMany" = some (.ref a.c_TooMany)
 m_TooGreat:mg "TooGreat" = some (.ref a.c_TooGreat)
 m_NoClaim:mg "NoClaim" = some (.ref a.c_NoClaim)
 m_NoMove:mg "NoMove" = some (.ref a.c_NoMove)
 m_NoChange:mg "NoChange" = some (.ref a.c_NoChange)
 n_NoChange:PySem.W.nsIn K mainGlobals "NoChange" = some (some (.ref a.c_NoChange))
 x_NoChange:PySem.W.excIn K a.c_NoChange [.type "ValueError",.type "Exception",.type "BaseException",.type "object"] "ValueError.__new__" = true
 m_NoAsk:mg "NoAsk" = some (.ref a.c_NoAsk)
 m_NoMeet:mg "NoMeet" = some (.ref a.c_NoMeet)
 m_Twice:mg "Twice" = some (.ref a.c_Twice)
 m_NoName:mg "NoName" = some (.ref a.c_NoName)
 m_NoKind:mg "NoKind" = some (.ref a.c_NoKind)
 m_NoCarry:mg "NoCarry" = some (.ref a.c_NoCarry)
 m_Step:mg "Step" = some (.ref a.c_Step)
 m_FirstPoint:mg "FirstPoint" = some (.ref a.c_FirstPoint)
 m_LineThrough:mg "LineThrough" = some (.ref a.c_LineThrough)
 m_RingThrough:mg "RingThrough" = some (.ref a.c_RingThrough)
 m_RingBy:mg "RingBy" = some (.ref a.c_RingBy)
 m_MeetOfLines:mg "MeetOfLines" = some (.ref a.c_MeetOfLines)
 m_MeetWithRing:mg "MeetWithRing" = some (.ref a.c_MeetWithRing)
 m_FIGURES:∃t:Tok,mg "FIGURES" = some (.str "0123456789" t)
 m_MOST_FIGURES:∃t:Tok,mg "MOST_FIGURES" = some (.int 60 t)
 m_LETTERS:∃t:Tok,mg "LETTERS" = some (.str "abcdefghijklmnopqrstuvwxyz" t)
 m_MOST_LETTERS:∃t:Tok,mg "MOST_LETTERS" = some (.int 6 t)
 m_POINT:GT K mg "POINT" ["point"]
 m_LINE:GT K mg "LINE" ["line"]
 m_RING:GT K mg "RING" ["ring"]
 m_LINE_OR_RING:GT K mg "LINE_OR_RING" ["line", "ring"]
 s_HallError:∀x C,PySem.W.nsIn K mainGlobals x=some (some (.ref C))->sub_HallError x=some true->PySem.W.exmOne K (.ref C) (.ref a.c_HallError)=some true
 i_ValueError:∀d b,bj' d=some b->IsOk K (.type "ValueError") b d
 i_HallError:∀d b,bu' d=some b->IsOk K (.ref a.c_HallError) b d
 i_NoCarry:∀d b,cr' d=some b->IsOk K (.ref a.c_NoCarry) b d
 i_NoKind:∀d b,da' d=some b->IsOk K (.ref a.c_NoKind) b d
 i_NoName:∀d b,cZ' d=some b->IsOk K (.ref a.c_NoName) b d
 i_Twice:∀d b,dR' d=some b->IsOk K (.ref a.c_Twice) b d
 i_NoMeet:∀d b,cY' d=some b->IsOk K (.ref a.c_NoMeet) b d
 i_NoAsk:∀d b,dQ' d=some b->IsOk K (.ref a.c_NoAsk) b d
 i_NoChange:∀d b,bP' d=some b->IsOk K (.ref a.c_NoChange) b d
 i_NoMove:∀d b,cX' d=some b->IsOk K (.ref a.c_NoMove) b d
 i_NoClaim:∀d b,cq' d=some b->IsOk K (.ref a.c_NoClaim) b d
 i_TooGreat:∀d b,bO' d=some b->IsOk K (.ref a.c_TooGreat) b d
 i_TooMany:∀d b,cp' d=some b->IsOk K (.ref a.c_TooMany) b d
 i_NoRow:∀d b,dP' d=some b->IsOk K (.ref a.c_NoRow) b d
 i_NoRing:∀d b,cW' d=some b->IsOk K (.ref a.c_NoRing) b d
 i_NoLine:∀d b,cV' d=some b->IsOk K (.ref a.c_NoLine) b d
 i_NoRoom:∀d b,cU' d=some b->IsOk K (.ref a.c_NoRoom) b d
 i_NoOver:∀d b,cT' d=some b->IsOk K (.ref a.c_NoOver) b d
 i_NoText:∀d b,cS' d=some b->IsOk K (.ref a.c_NoText) b d
 i_Below:∀d b,dO' d=some b->IsOk K (.ref a.c_Below) b d
 i_str:∀d b,Bk.is_str d=some b->IsOk K (.type "str") b d
 z_ValueError:mg "ValueError" = none
 z_abs:mg "abs" = none
 z_all:mg "all" = none
 z_enumerate:mg "enumerate" = none
 z_int:mg "int" = none
 z_isinstance:mg "isinstance" = none
 z_len:mg "len" = none
 z_list:mg "list" = none
 z_min:mg "min" = none
 z_range:mg "range" = none
 z_reversed:mg "reversed" = none
 z_str:mg "str" = none
 o_words:OcF K isO "words"
 o_others:OcF K isO "others"
section
variable {P:Program} {w:World} {K:PySem.W.Frag} {mg:Str->Option Value} {base:Heap} {a:Adr}
theorem ok_qE (T:Txt K mg a) (F:Ent K mg "common" st_qE ["a", "b"]) :
  Okf P w K mg base 1 "common" F_qE:=by
 have q:=fnO P w base 0 b_qE F sc_qE fun _ _ _ _ _ _ _ hr=>by
  unfold b_qE;exact (ae' (al' 2 (aq' gK' gL' rfl T.z_abs (by decide +kernel) (aa' (ab' 0) ac')) sc_qE.nd) (ae' (al' 3 (aq' gK' gL' rfl T.z_abs (by decide +kernel) (aa' (ab' 1) ac')) sc_qE.nd) (ae' (ek' fuel_qE_1 (an' (de' hr.units) bC' (ab' 3) af' (ax' _)) (ae' (al' 4 (ao' bn' bm' (ab' 2) (ab' 3)) sc_qE.nd) (ae' (al' 2 (ab' 3) sc_qE.nd) (ag' (al' 3 (ab' 4) sc_qE.nd))))) (ag' (ak' (ab' 2))))))
 exact q
theorem ok_qx (T:Txt K mg a) (F:Ent K mg "is_plain" st_qx ["part"]) :
  Okf P w K mg base 1 "is_plain" F_qx:=by
 have q:=fnO P w base 0 b_qx F sc_qx fun _ _ _ _ _ _ _ hr=>by
  unfold b_qx;exact (ae' (aC' (PWD.pt (aZ' (an' (bK' hr.units) aY' (ab' 0) am' (ax' _)) (aZ' (an' gG' (br' _) (aq' aP' aO' rfl T.z_len (by decide +kernel) (aa' (ab' 0) ac')) (hj' rfl T.m_MOST_FIGURES) (ax' _)) (bc' (aH' (ci' PySem.F.plainAttrs_str PySem.F.slot_str_startswith PySem.F.type_str_startswith ev' eu' (ab' 0) (aa' am' ac'))))))) (ag' (ak' dA')) aw') (ag' (ak' (aq' (gV' rfl) eW' rfl T.z_all (by decide +kernel) (aa' (dE' (N':=["letter"]) (m:=1) (fr:=[]) cj' rfl (aT' (by decide)) (bI' (ab' 0)) (fun _ _ _ _=>aV' 0 (show List.Nodup (["letter"]:List Str) by decide +kernel)) (fun _ _ _ _=>(fj' (fw' hr.units) fv' (ab' 0) (hr' rfl T.m_FIGURES) (by with_unfolding_all rfl)))) ac')))))
 exact q
theorem ok_qn (T:Txt K mg a) (F:Ent K mg "figures_of" st_qn ["n"]) :
  Okf P w K mg base 1 "figures_of" F_qn:=by
 have q:=fnO P w base 0 b_qn F sc_qn fun _ _ _ _ _ _ _ hr=>by
  unfold b_qn;exact (ae' (al' 1 (ao' gH' gD' af' af') sc_qn.nd) (ae' (he' 2 ac' sc_qn.nd) (ae' (al' 3 (ab' 0) sc_qn.nd) (ae' (ek' fuel_qn_1 (an' mv' (br' _) (ab' 3) (ab' 1) (ax' _)) (ae' (dm' 2 (ci' PySem.F.plainAttrs_str PySem.F.slot_str_zfill PySem.F.type_str_zfill iz' iy' (aX' fr' ne_str rfl T.z_str (by decide +kernel) (aa' (ao' bn' bm' (ab' 3) (ab' 1)) ac')) (aa' af' ac'))) (ag' (al' 3 (ao' bH' bG' (ab' 3) (ab' 1)) sc_qn.nd)))) (ae' (dm' 2 (aX' fr' ne_str rfl T.z_str (by decide +kernel) (aa' (ab' 3) ac'))) (ag' (ak' (ga' rfl rfl T.z_reversed (ab' 2)))))))))
 exact q
theorem ok_qz (T:Txt K mg a) (F:Ent K mg "is_name" st_qz ["word"]) :
  Okf P w K mg base 1 "is_name" F_qz:=by
 have q:=fnO P w base 0 b_qz F sc_qz fun _ _ _ _ _ _ _ hr=>by
  unfold b_qz;exact (ae' (aC' (PWD.pt (aZ' (an' (bK' hr.units) aY' (ab' 0) am' (ax' _)) (bc' (an' gG' (br' _) (aq' aP' aO' rfl T.z_len (by decide +kernel) (aa' (ab' 0) ac')) (hj' rfl T.m_MOST_LETTERS) (ax' _))))) (ag' (ak' dA')) aw') (ag' (ak' (aq' (gV' rfl) eW' rfl T.z_all (by decide +kernel) (aa' (dE' (N':=["letter"]) (m:=1) (fr:=[]) cj' rfl (aT' (by decide)) (bI' (ab' 0)) (fun _ _ _ _=>aV' 0 (show List.Nodup (["letter"]:List Str) by decide +kernel)) (fun _ _ _ _=>(fj' (fw' hr.units) fv' (ab' 0) (hr' rfl T.m_LETTERS) (by with_unfolding_all rfl)))) ac')))))
 exact q
theorem ok_qy (T:Txt K mg a) (F:Ent K mg "_law_stir" st_qy ["_law_cell_here", "_law_k"]) :
  Okf P w K mg base 1 "_law_stir" F_qy:=by
 have q:=fnO P w base 0 b_qy F sc_qy fun _ _ _ _ _ _ _ hr=>by
  unfold b_qy;exact (ae' (al' 2 af' sc_qy.nd) (ae' (al' 3 (ao' as' ar' af' (ao' dJ' dI' (ab' 1) af')) sc_qy.nd) (ae' (al' 4 (ao' dJ' dI' (ao' as' ar' (ao' bn' bm' (ab' 0) (ab' 2)) af') (ab' 3)) sc_qy.nd) (ag' (ak' (ao' bn' bm' (ao' dJ' dI' (ao' bn' bm' (ab' 4) (ab' 2)) af') (ab' 2)))))))
 exact q
theorem ok_qs (T:Txt K mg a) (F:Ent K mg "_law_which" st_qs ["_law_e"]) :
  Okh P w K mg base 1 "_law_which" F_qs:=by
 have q:=fnH P w base 0 b_qs F sc_qs fun _ _ _ _ _ _ _ hr=>by
  unfold b_qs;exact (ae' (al' 1 (ay' (aa' (at' T.i_Below (ab' 0) (aA' rfl T.m_Below) rfl T.z_isinstance) (aa' (at' T.i_NoText (ab' 0) (aA' rfl T.m_NoText) rfl T.z_isinstance) (aa' (at' T.i_NoOver (ab' 0) (aA' rfl T.m_NoOver) rfl T.z_isinstance) (aa' (at' T.i_NoRoom (ab' 0) (aA' rfl T.m_NoRoom) rfl T.z_isinstance) ac'))))) sc_qs.nd) (ae' (al' 1 (ao' as' ar' (ab' 1) (ay' (aa' (at' T.i_NoLine (ab' 0) (aA' rfl T.m_NoLine) rfl T.z_isinstance) (aa' (at' T.i_NoRing (ab' 0) (aA' rfl T.m_NoRing) rfl T.z_isinstance) (aa' (at' T.i_NoRow (ab' 0) (aA' rfl T.m_NoRow) rfl T.z_isinstance) (aa' (at' T.i_TooMany (ab' 0) (aA' rfl T.m_TooMany) rfl T.z_isinstance) ac')))))) sc_qs.nd) (ae' (al' 1 (ao' as' ar' (ab' 1) (ay' (aa' (at' T.i_TooGreat (ab' 0) (aA' rfl T.m_TooGreat) rfl T.z_isinstance) (aa' (at' T.i_NoClaim (ab' 0) (aA' rfl T.m_NoClaim) rfl T.z_isinstance) (aa' (at' T.i_NoMove (ab' 0) (aA' rfl T.m_NoMove) rfl T.z_isinstance) (aa' (at' T.i_NoChange (ab' 0) (aA' rfl T.m_NoChange) rfl T.z_isinstance) ac')))))) sc_qs.nd) (ae' (al' 1 (ao' as' ar' (ab' 1) (ay' (aa' (at' T.i_NoAsk (ab' 0) (aA' rfl T.m_NoAsk) rfl T.z_isinstance) (aa' (at' T.i_NoMeet (ab' 0) (aA' rfl T.m_NoMeet) rfl T.z_isinstance) (aa' (at' T.i_Twice (ab' 0) (aA' rfl T.m_Twice) rfl T.z_isinstance) (aa' (at' T.i_NoName (ab' 0) (aA' rfl T.m_NoName) rfl T.z_isinstance) ac')))))) sc_qs.nd) (ag' (ak' (ao' as' ar' (ab' 1) (ay' (aa' (at' T.i_NoKind (ab' 0) (aA' rfl T.m_NoKind) rfl T.z_isinstance) (aa' (at' T.i_NoCarry (ab' 0) (aA' rfl T.m_NoCarry) rfl T.z_isinstance) (aa' (at' T.i_HallError (ab' 0) (aA' rfl T.m_HallError) rfl T.z_isinstance) (aa' (at' T.i_ValueError (ab' 0) (gT' rfl T.z_ValueError (by decide +kernel)) rfl T.z_isinstance) ac'))))))))))))
 exact q
theorem ok_qt (T:Txt K mg a) (F:Ent K mg "_law_class" st_qt ["_law_word"]) :
  Okf P w K mg base 1 "_law_class" F_qt:=by
 have q:=fnO P w base 0 b_qt F sc_qt fun _ _ _ _ _ _ _ hr=>by
  unfold b_qt;exact (ae' (al' 1 (ay' (bd' (bd' (bd' (bd' (bd' (bd' (bd' (bd' (bd' (bd' ac'))))))))))) sc_qt.nd) (ae' (al' 1 (ao' as' ar' (ab' 1) (ay' (aa' am' (aa' am' (aa' am' (aa' am' (aa' am' (aa' am' (aa' am' (aa' am' ac')))))))))) sc_qt.nd) (ag' (ak' (ao' as' ar' (dE' (N':=["_law_one", "_law_word"]) (m:=1) (fr:=[0]) (hh' (defScope st_qt) ["_law_word", "_law_some"] rfl rfl rfl rfl rfl (by decide +kernel)) rfl (aT' (by decide)) (bI' (ab' 1)) (fun _ _ _ _=>aV' 0 (show List.Nodup (["_law_one", "_law_word"]:List Str) by decide +kernel)) (fun _ _ _ _=>(fj' (bK' hr.units) aY' (ab' 1) (ab' 0) (ax' _)))) (ay' (aa' dA' (aa' dA' ac'))))))))
 exact q
theorem ok_qo (T:Txt K mg a) (F:EntM K isO "named" "Step.named" st_qo ["self"]) :
  Okm P w K mg base 1 isO "named" F_qo:=by
 have q:=fnM P w (mg:=mg) base 0 b_qo F sc_qo fun _ _ _ _ _ _ _ hr=>by
  unfold b_qo;exact (ag' (ak' (av' (jz' T.o_words (ab' 0)) af')))
 exact q
theorem ok_qp (T:Txt K mg a) (F:EntM K isO "needs" "Step.needs" st_qp ["self"]) :
  Okml P w K mg base 1 isO "needs" F_qp:=by
 have q:=fnML P w (mg:=mg) base 0 b_qp F sc_qp fun _ _ _ _ _ _ _ hr=>by
  unfold b_qp;exact (iN' (iP' rfl T.z_list (aa' (jz' T.o_others (ab' 0)) ac')))
 exact q
theorem ok_qu (T:Txt K mg a) (F:Ent K mg "are_parts" st_qu ["parts"]) (G_qx:Okf P w K mg base 1 "is_plain" F_qx) :
  Okf P w K mg base 2 "are_parts" F_qu:=by
 have q:=fnO P w base 1 b_qu F sc_qu fun _ _ _ _ _ _ _ hr=>by
  unfold b_qu;exact (ae' (aC' (an' gG' (br' _) (aq' aP' aO' rfl T.z_len (by decide +kernel) (aa' (ab' 0) ac')) af' (ax' _)) (ag' (ak' dA')) aw') (ae' (aC' (PWD.pt (eQ' (an' (bK' hr.units) aY' (aq' aP' aO' rfl T.z_len (by decide +kernel) (aa' (ab' 0) ac')) af' (ax' _)) (dB' (bF' (aH' (cl G_qx hr (aa' (av' (ab' 0) af') ac'))))))) (ag' (ak' dA')) aw') (ag' (ak' (mt' (fj' (bK' hr.units) aY' (av' (ab' 0) af') am' (ax' _)) (lv' (cl G_qx hr (aa' (av' (ab' 0) af') ac'))))))))
 exact q
theorem ok_qg (T:Txt K mg a) (F:Ent K mg "fraction_text" st_qg ["x"]) (G_qn:Okf P w K mg base 1 "figures_of" F_qn) :
  Okf P w K mg base 2 "fraction_text" F_qg:=by
 have q:=fnO P w base 1 b_qg F sc_qg fun _ _ _ _ _ _ _ hr=>by
  unfold b_qg;exact (ae' (al' 1 (av' (av' (ab' 0) af') af') sc_qg.nd) (ae' (al' 2 (av' (ab' 0) af') sc_qg.nd) (ae' (al' 3 (cA' (an' gF' (br' _) (ab' 1) af' (ax' _)) am' am') sc_qg.nd) (ae' (al' 4 (cA' (an' (bK' hr.units) aY' (ab' 2) af' (ax' _)) am' (ao' as' ar' am' (cl G_qn hr (aa' (ab' 2) ac')))) sc_qg.nd) (ag' (ak' (ao' as' ar' (ao' as' ar' (ab' 3) (cl G_qn hr (aa' (aq' gK' gL' rfl T.z_abs (by decide +kernel) (aa' (ab' 1) ac')) ac'))) (ab' 4))))))))
 exact q
theorem ok_qv (T:Txt K mg a) (F:Ent K mg "are_names" st_qv ["words"]) (G_qz:Okf P w K mg base 1 "is_name" F_qz) :
  Okf P w K mg base 2 "are_names" F_qv:=by
 have q:=fnO P w base 1 b_qv F sc_qv fun _ _ _ _ _ _ _ hr=>by
  unfold b_qv;exact (ag' (ak' (aq' (gV' rfl) eW' rfl T.z_all (by decide +kernel) (aa' (dE' (N':=["word"]) (m:=1) (fr:=[]) cj' rfl (aT' (by decide)) (bI' (ab' 0)) (fun _ _ _ _=>aV' 0 (show List.Nodup (["word"]:List Str) by decide +kernel)) (fun _ _ _ _=>(cl G_qz hr (aa' (ab' 0) ac')))) ac'))))
 exact q
theorem ok_qq (T:Txt K mg a) (F:Ent K mg "_law_cell" st_qq ["_law_script", "_law_k"]) (G_qy:Okf P w K mg base 1 "_law_stir" F_qy) :
  Okf P w K mg base 2 "_law_cell" F_qq:=by
 have q:=fnO P w base 1 b_qq F sc_qq fun _ _ _ _ _ _ _ hr=>by
  unfold b_qq;exact (ae' (aC' (an' gF' (br' _) (ab' 1) (aq' aP' aO' rfl T.z_len (by decide +kernel) (aa' (ab' 0) ac')) (ax' _)) (ag' (ak' (av' (ab' 0) (ab' 1)))) aw') (ag' (ak' (cl G_qy hr (aa' af' (aa' (ab' 1) ac'))))))
 exact q
theorem ok_qA (T:Txt K mg a) (F:Ent K mg "_law_due" st_qA ["_law_rows", "_law_at"]) (G_qt:Okf P w K mg base 1 "_law_class" F_qt) :
  Okf P w K mg base 2 "_law_due" F_qA:=by
 have q:=fnO P w base 1 b_qA F sc_qA fun _ _ _ _ _ _ _ hr=>by
  unfold b_qA;exact (ae' (aC' (PWD.pt (aZ' (an' gF' (br' _) (ab' 1) af' (ax' _)) (aZ' (an' gG' (br' _) (ab' 1) (ao' bT' bS' (aq' aP' aO' rfl T.z_len (by decide +kernel) (aa' (ab' 0) ac')) af') (ax' _)) (bc' (an' (fw' hr.units) fv' (av' (av' (ab' 0) (ab' 1)) af') (av' (av' (ab' 0) (ao' as' ar' (ab' 1) af')) af') (by with_unfolding_all rfl)))))) (ag' (ak' (cl G_qt hr (aa' am' ac')))) aw') (ae' (bJ' 2 (N':=["_law_row_here"]) (m:=1) (fr:=[]) cj' rfl (aT' (by decide)) (bI' (ab' 0)) (fun _ _ _ _=>aV' 0 (show List.Nodup (["_law_row_here"]:List Str) by decide +kernel)) (fun _ _ _ _=>(av' (ab' 0) af')) sc_qA.nd) (ag' (ak' (ao' as' ar' (ao' as' ar' (aJ' (ab' 2) aQ' (aE' (ab' 1))) (ay' (aa' (av' (ab' 2) (ao' as' ar' (ab' 1) af')) (aa' (av' (ab' 2) (ab' 1)) ac')))) (aJ' (ab' 2) (aE' (ao' as' ar' (ab' 1) af')) aQ'))))))
 exact q
theorem ok_qh (T:Txt K mg a) (F:Ent K mg "fraction_read" st_qh ["text"]) (G_qE:Okf P w K mg base 1 "common" F_qE) (G_qu:Okf P w K mg base 2 "are_parts" F_qu) :
  Okf P w K mg base 3 "fraction_read" F_qh:=by
 have q:=fnO P w base 2 b_qh F sc_qh fun _ _ _ _ _ _ _ hr=>by
  unfold b_qh;exact (ae' (al' 1 (ci' PySem.F.plainAttrs_str PySem.F.slot_str_startswith PySem.F.type_str_startswith ev' eu' (ab' 0) (aa' am' ac')) sc_qh.nd) (ae' (al' 2 (cA' (aH' (ab' 1)) (aJ' (ab' 0) (aE' af') aQ') (ab' 0)) sc_qh.nd) (ae' (al' 3 (ci' PySem.F.plainAttrs_str PySem.F.slot_str_split PySem.F.type_str_split fq' fp' (ab' 2) (aa' am' ac')) sc_qh.nd) (ae' (aC' (bF' (aH' (cl G_qu hr (aa' (ab' 3) ac')))) (ag' cK') aw') (ae' (al' 4 (aX' jy' ne_int rfl T.z_int (by decide +kernel) (aa' (av' (ab' 3) af') ac')) sc_qh.nd) (ae' (al' 5 (cA' (an' (bK' hr.units) aY' (aq' aP' aO' rfl T.z_len (by decide +kernel) (aa' (ab' 3) ac')) af' (ax' _)) (aX' jy' ne_int rfl T.z_int (by decide +kernel) (aa' (av' (ab' 3) af') ac')) af') sc_qh.nd) (ae' (al' 6 (cl G_qE hr (aa' (ab' 4) (aa' (ab' 5) ac'))) sc_qh.nd) (ae' (aC' (aH' (ab' 1)) (ag' (al' 4 (kg' (ab' 4)) sc_qh.nd)) aw') (ag' (ak' (gI' (aa' (gI' (aa' (ao' bH' bG' (ab' 4) (ab' 6)) ac')) (aa' (ao' bH' bG' (ab' 5) (ab' 6)) ac')))))))))))))
 exact q
theorem ok_qB (T:Txt K mg a) (F:Ent K mg "_law_row" st_qB ["_law_cells"]) (G_qq:Okf P w K mg base 2 "_law_cell" F_qq) :
  Okf P w K mg base 3 "_law_row" F_qB:=by
 have q:=fnO P w base 2 b_qB F sc_qB fun _ _ _ _ _ _ _ hr=>by
  unfold b_qB;exact (ae' (al' 1 (cl G_qq hr (aa' (ab' 0) (aa' af' ac'))) sc_qB.nd) (ae' (al' 2 am' sc_qB.nd) (ae' (al' 3 (av' (ay' (aa' af' (aa' af' ac'))) (ao' bn' bm' (ao' bH' bG' (ab' 1) af') af')) sc_qB.nd) (ae' (bJ' 4 (N':=["_law_k", "_law_letters", "_law_room", "_law_cells"]) (m:=1) (fr:=[2,3,0]) (hh' (defScope st_qB) ["_law_cells", "_law_cell_here", "_law_letters", "_law_room", "_law_names", "_law_fraction", "_law_kind", "_law_word", "_law_tail"] rfl rfl rfl rfl rfl (by decide +kernel)) rfl (aT' (by decide)) (gc' rfl T.z_range (aa' af' ac')) (fun _ _ _ _=>aV' 0 (show List.Nodup (["_law_k", "_law_letters", "_law_room", "_law_cells"]:List Str) by decide +kernel)) (fun _ _ _ _=>(av' (ab' 1) (ao' bn' bm' (ao' bH' bG' (cl G_qq hr (aa' (ab' 3) (aa' af' ac'))) (av' (ay' (aa' af' (aa' af' (aa' af' ac')))) (ab' 0))) (ab' 2)))) sc_qB.nd) (ae' (al' 5 (ao' as' ar' (ao' as' ar' (aX' fr' ne_str rfl T.z_str (by decide +kernel) (aa' (ao' bT' bS' (ao' bn' bm' (ao' bH' bG' (ab' 1) af') af') af') ac')) am') (aX' fr' ne_str rfl T.z_str (by decide +kernel) (aa' (ao' as' ar' af' (ao' bn' bm' (ao' bH' bG' (ab' 1) af') af')) ac'))) sc_qB.nd) (ae' (al' 6 (ao' bn' bm' (ab' 1) af') sc_qB.nd) (ae' (aC' (an' (bK' hr.units) aY' (ab' 6) af' (ax' _)) (ag' (ak' (ay' (aa' (av' (ab' 4) af') (aa' (ay' ac') (aa' (ao' as' ar' (ao' as' ar' (ao' as' ar' (ao' as' ar' am' (av' (ab' 4) af')) am') (ab' 5)) am') ac')))))) aw') (ae' (aC' (an' (bK' hr.units) aY' (ab' 6) af' (ax' _)) (ag' (ak' (ay' (aa' (av' (ab' 4) af') (aa' (aJ' (ab' 4) (aE' af') (aE' af')) (aa' (ao' as' ar' (ao' as' ar' (ao' as' ar' (ao' as' ar' (ao' as' ar' am' (av' (ab' 4) af')) am') (av' (ab' 4) af')) am') (ab' 5)) ac')))))) aw') (ae' (al' 7 (av' (ay' (aa' am' (aa' am' (aa' am' (aa' am' (aa' am' ac')))))) (ao' bT' bS' (ab' 6) af')) sc_qB.nd) (ae' (al' 8 (av' (ay' (aa' am' (aa' am' (aa' am' (aa' am' (aa' am' ac')))))) (ao' bT' bS' (ab' 6) af')) sc_qB.nd) (ag' (ak' (ay' (aa' (av' (ab' 4) af') (aa' (aJ' (ab' 4) (aE' af') aQ') (aa' (ao' as' ar' (ao' as' ar' (ao' as' ar' (ab' 7) am') (ci' PySem.F.plainAttrs_str PySem.F.slot_str_join PySem.F.type_str_join ku' kt' am' (aa' (ab' 4) ac'))) (ab' 8)) ac'))))))))))))))))
 exact q
theorem ok_qc (T:Txt K mg a) (F:EntN K mg "LineThrough" "LineThrough.__init__" st_qc ["self", "name", "one", "other"] ((["words", "others", "wanted"]:List Str) ++ ([]:List (Str×Nat)).map (·.1))) (GB:Okb P w K mg base 1 "Step" "words" "others" "wanted") :
  Okn P w K mg base 2 "LineThrough" ((["words", "others", "wanted"]:List Str) ++ ([]:List (Str×Nat)).map (·.1)) (gI 3 a_new_LineThrough (([]:List (Str×Nat)).map (·.2))) :=
 dp' 1 a_new_LineThrough ([]:List (Str×Nat)) F sc_qc (by decide +kernel) (by decide) fun f cdv A outer s H E hr=>aM' (cf' (pe_b GB hr (cg' (pv 0) (PAD.pax (aa' (ay' (aa' am' (aa' (ab' 1) (aa' (ab' 2) (aa' (ab' 3) ac'))))) (aa' (ay' (aa' (ab' 2) (aa' (ab' 3) ac'))) (aa' (ay' (aa' (bi' rfl T.m_POINT) (aa' (bi' rfl T.m_POINT) ac'))) ac'))))))) ce'
theorem ok_qd (T:Txt K mg a) (F:EntN K mg "RingThrough" "RingThrough.__init__" st_qd ["self", "name", "one", "other"] ((["words", "others", "wanted"]:List Str) ++ ([]:List (Str×Nat)).map (·.1))) (GB:Okb P w K mg base 1 "Step" "words" "others" "wanted") :
  Okn P w K mg base 2 "RingThrough" ((["words", "others", "wanted"]:List Str) ++ ([]:List (Str×Nat)).map (·.1)) (gI 3 a_new_RingThrough (([]:List (Str×Nat)).map (·.2))) :=
 dp' 1 a_new_RingThrough ([]:List (Str×Nat)) F sc_qd (by decide +kernel) (by decide) fun f cdv A outer s H E hr=>aM' (cf' (pe_b GB hr (cg' (pv 0) (PAD.pax (aa' (ay' (aa' am' (aa' (ab' 1) (aa' (ab' 2) (aa' (ab' 3) ac'))))) (aa' (ay' (aa' (ab' 2) (aa' (ab' 3) ac'))) (aa' (ay' (aa' (bi' rfl T.m_POINT) (aa' (bi' rfl T.m_POINT) ac'))) ac'))))))) ce'
theorem ok_qe (T:Txt K mg a) (F:EntN K mg "MeetOfLines" "MeetOfLines.__init__" st_qe ["self", "name", "one", "other"] ((["words", "others", "wanted"]:List Str) ++ ([]:List (Str×Nat)).map (·.1))) (GB:Okb P w K mg base 1 "Step" "words" "others" "wanted") :
  Okn P w K mg base 2 "MeetOfLines" ((["words", "others", "wanted"]:List Str) ++ ([]:List (Str×Nat)).map (·.1)) (gI 3 a_new_MeetOfLines (([]:List (Str×Nat)).map (·.2))) :=
 dp' 1 a_new_MeetOfLines ([]:List (Str×Nat)) F sc_qe (by decide +kernel) (by decide) fun f cdv A outer s H E hr=>aM' (cf' (pe_b GB hr (cg' (pv 0) (PAD.pax (aa' (ay' (aa' am' (aa' (ab' 1) (aa' (ab' 2) (aa' (ab' 3) ac'))))) (aa' (ay' (aa' (ab' 2) (aa' (ab' 3) ac'))) (aa' (ay' (aa' (bi' rfl T.m_LINE) (aa' (bi' rfl T.m_LINE) ac'))) ac'))))))) ce'
theorem ok_qa (T:Txt K mg a) (F:EntN K mg "MeetWithRing" "MeetWithRing.__init__" st_qa ["self", "name", "one", "other", "word"] ((["words", "others", "wanted"]:List Str) ++ ([("word",3)]:List (Str×Nat)).map (·.1))) (GB:Okb P w K mg base 1 "Step" "words" "others" "wanted") :
  Okn P w K mg base 2 "MeetWithRing" ((["words", "others", "wanted"]:List Str) ++ ([("word",3)]:List (Str×Nat)).map (·.1)) (gI 4 a_new_MeetWithRing (([("word",3)]:List (Str×Nat)).map (·.2))) :=
 dp' 1 a_new_MeetWithRing ([("word",3)]:List (Str×Nat)) F sc_qa (by decide +kernel) (by decide) fun f cdv A outer s H E hr=>aM' (cf' (pe_b GB hr (cg' (pv 0) (PAD.pax (aa' (ay' (aa' am' (aa' (ab' 1) (aa' (ab' 2) (aa' (ab' 3) (aa' (ab' 4) ac')))))) (aa' (ay' (aa' (ab' 2) (aa' (ab' 3) ac'))) (aa' (ay' (aa' (bi' rfl T.m_LINE_OR_RING) (aa' (bi' rfl T.m_RING) ac'))) ac'))))))) (aM' (cG' (pv 0) (pv 4) rfl) ce')
theorem ok_qk (T:Txt K mg a) (F:Ent K mg "step_of_line" st_qk ["words"]) (G_qc:Okn P w K mg base 2 "LineThrough" ((["words", "others", "wanted"]:List Str) ++ ([]:List (Str×Nat)).map (·.1)) (gI 3 a_new_LineThrough (([]:List (Str×Nat)).map (·.2)))) (G_qv:Okf P w K mg base 2 "are_names" F_qv) :
  Okf P w K mg base 4 "step_of_line" F_qk:=by
 have q:=fnO P w base 3 b_qk F sc_qk fun _ _ _ _ _ _ _ hr=>by
  unfold b_qk;exact (ae' (aC' (PWD.pt (aZ' (an' (de' hr.units) bC' (aq' aP' aO' rfl T.z_len (by decide +kernel) (aa' (ab' 0) ac')) af' (ax' _)) (bc' (bF' (aH' (cl G_qv hr (aa' (aJ' (ab' 0) (aE' af') aQ') ac'))))))) (ag' (ak' be')) aw') (ag' (ak' (cln G_qc hr (aa' (av' (ab' 0) af') (aa' (av' (ab' 0) af') (aa' (av' (ab' 0) af') ac')))))))
 exact q
theorem ok_ql (T:Txt K mg a) (F:Ent K mg "step_of_meet" st_ql ["words"]) (G_qa:Okn P w K mg base 2 "MeetWithRing" ((["words", "others", "wanted"]:List Str) ++ ([("word",3)]:List (Str×Nat)).map (·.1)) (gI 4 a_new_MeetWithRing (([("word",3)]:List (Str×Nat)).map (·.2)))) (G_qv:Okf P w K mg base 2 "are_names" F_qv) (G_qe:Okn P w K mg base 2 "MeetOfLines" ((["words", "others", "wanted"]:List Str) ++ ([]:List (Str×Nat)).map (·.1)) (gI 3 a_new_MeetOfLines (([]:List (Str×Nat)).map (·.2)))) :
  Okf P w K mg base 4 "step_of_meet" F_ql:=by
 have q:=fnO P w base 3 b_ql F sc_ql fun _ _ _ _ _ _ _ hr=>by
  unfold b_ql;exact (ae' (aC' (PWD.pt (eQ' (an' (bK' hr.units) aY' (aq' aP' aO' rfl T.z_len (by decide +kernel) (aa' (ab' 0) ac')) af' (ax' _)) (dB' (aH' (cl G_qv hr (aa' (aJ' (ab' 0) (aE' af') aQ') ac')))))) (ag' (ak' (cln G_qe hr (aa' (av' (ab' 0) af') (aa' (av' (ab' 0) af') (aa' (av' (ab' 0) af') ac')))))) aw') (ae' (aC' (PWD.pt (aZ' (an' (de' hr.units) bC' (aq' aP' aO' rfl T.z_len (by decide +kernel) (aa' (ab' 0) ac')) af' (ax' _)) (aZ' (bF' (aH' (cl G_qv hr (aa' (aJ' (ab' 0) (aE' af') (aE' af')) ac')))) (bc' (an' hD' hA' (av' (ab' 0) af') (gI' (aa' am' (aa' am' ac'))) (by with_unfolding_all rfl)))))) (ag' (ak' be')) aw') (ag' (ak' (cln G_qa hr (aa' (av' (ab' 0) af') (aa' (av' (ab' 0) af') (aa' (av' (ab' 0) af') (aa' (av' (ab' 0) af') ac')))))))))
 exact q
theorem ok_qb (T:Txt K mg a) (F:Ent K mg "fraction_or_none" st_qb ["word"]) (G_qh:Okf P w K mg base 3 "fraction_read" F_qh) :
  Okf P w K mg base 4 "fraction_or_none" F_qb:=by
 have q:=fnO P w base 3 b_qb F sc_qb fun _ _ _ _ _ _ _ hr=>by
  unfold b_qb;exact (ag' (hy' (ag' (ak' (cl G_qh hr (aa' (ab' 0) ac'))))))
 exact q
theorem ok_qf (T:Txt K mg a) (F:EntN K mg "FirstPoint" "FirstPoint.__init__" st_qf ["self", "name", "x", "y"] ((["words", "others", "wanted"]:List Str) ++ ([("x",1),("y",2)]:List (Str×Nat)).map (·.1))) (G_qg:Okf P w K mg base 2 "fraction_text" F_qg) (GB:Okb P w K mg base 1 "Step" "words" "others" "wanted") :
  Okn P w K mg base 3 "FirstPoint" ((["words", "others", "wanted"]:List Str) ++ ([("x",1),("y",2)]:List (Str×Nat)).map (·.1)) (gI 3 a_new_FirstPoint (([("x",1),("y",2)]:List (Str×Nat)).map (·.2))) :=
 dp' 2 a_new_FirstPoint ([("x",1),("y",2)]:List (Str×Nat)) F sc_qf (by decide +kernel) (by decide) fun f cdv A outer s H E hr=>aM' (cf' (pe_b GB hr (cg' (pv 0) (PAD.pax (aa' (ay' (aa' am' (aa' (ab' 1) (aa' (cl G_qg hr (aa' (ab' 2) ac')) (aa' (cl G_qg hr (aa' (ab' 3) ac')) ac'))))) (aa' (ay' ac') (aa' (ay' ac') ac'))))))) (aM' (cG' (pv 0) (pv 2) rfl) (aM' (cG' (pv 0) (pv 3) rfl) ce'))
theorem ok_qr (T:Txt K mg a) (F:EntN K mg "RingBy" "RingBy.__init__" st_qr ["self", "name", "one", "square"] ((["words", "others", "wanted"]:List Str) ++ ([("square",2)]:List (Str×Nat)).map (·.1))) (G_qg:Okf P w K mg base 2 "fraction_text" F_qg) (GB:Okb P w K mg base 1 "Step" "words" "others" "wanted") :
  Okn P w K mg base 3 "RingBy" ((["words", "others", "wanted"]:List Str) ++ ([("square",2)]:List (Str×Nat)).map (·.1)) (gI 3 a_new_RingBy (([("square",2)]:List (Str×Nat)).map (·.2))) :=
 dp' 2 a_new_RingBy ([("square",2)]:List (Str×Nat)) F sc_qr (by decide +kernel) (by decide) fun f cdv A outer s H E hr=>aM' (cf' (pe_b GB hr (cg' (pv 0) (PAD.pax (aa' (ay' (aa' am' (aa' (ab' 1) (aa' (ab' 2) (aa' am' (aa' (cl G_qg hr (aa' (ab' 3) ac')) ac')))))) (aa' (ay' (aa' (ab' 2) ac')) (aa' (ay' (aa' (bi' rfl T.m_POINT) ac')) ac'))))))) (aM' (cG' (pv 0) (pv 3) rfl) ce')
theorem ok_qi (T:Txt K mg a) (F:Ent K mg "step_of_point" st_qi ["words"]) (G_qb:Okf P w K mg base 4 "fraction_or_none" F_qb) (G_qf:Okn P w K mg base 3 "FirstPoint" ((["words", "others", "wanted"]:List Str) ++ ([("x",1),("y",2)]:List (Str×Nat)).map (·.1)) (gI 3 a_new_FirstPoint (([("x",1),("y",2)]:List (Str×Nat)).map (·.2)))) :
  Okf P w K mg base 5 "step_of_point" F_qi:=by
 have q:=fnO P w base 4 b_qi F sc_qi fun _ _ _ _ _ _ _ hr=>by
  unfold b_qi;exact (ae' (aC' (an' (de' hr.units) bC' (aq' aP' aO' rfl T.z_len (by decide +kernel) (aa' (ab' 0) ac')) af' (ax' _)) (ag' (ak' be')) aw') (ae' (al' 1 (cl G_qb hr (aa' (av' (ab' 0) af') ac')) sc_qi.nd) (ae' (al' 2 (cl G_qb hr (aa' (av' (ab' 0) af') ac')) sc_qi.nd) (ae' (aC' (PWD.pt (aZ' (an' dL' bx' (ab' 1) be' (ax' _)) (bc' (an' dL' bx' (ab' 2) be' (ax' _))))) (ag' (ak' be')) aw') (ag' (ak' (cln G_qf hr (aa' (av' (ab' 0) af') (aa' (ab' 1) (aa' (ab' 2) ac'))))))))))
 exact q
theorem ok_qm (T:Txt K mg a) (F:Ent K mg "step_of_ring" st_qm ["words"]) (G_qb:Okf P w K mg base 4 "fraction_or_none" F_qb) (G_qr:Okn P w K mg base 3 "RingBy" ((["words", "others", "wanted"]:List Str) ++ ([("square",2)]:List (Str×Nat)).map (·.1)) (gI 3 a_new_RingBy (([("square",2)]:List (Str×Nat)).map (·.2)))) (G_qv:Okf P w K mg base 2 "are_names" F_qv) (G_qd:Okn P w K mg base 2 "RingThrough" ((["words", "others", "wanted"]:List Str) ++ ([]:List (Str×Nat)).map (·.1)) (gI 3 a_new_RingThrough (([]:List (Str×Nat)).map (·.2)))) (G_qz:Okf P w K mg base 1 "is_name" F_qz) :
  Okf P w K mg base 5 "step_of_ring" F_qm:=by
 have q:=fnO P w base 4 b_qm F sc_qm fun _ _ _ _ _ _ _ hr=>by
  unfold b_qm;exact (ae' (aC' (PWD.pt (eQ' (an' (bK' hr.units) aY' (aq' aP' aO' rfl T.z_len (by decide +kernel) (aa' (ab' 0) ac')) af' (ax' _)) (dB' (aH' (cl G_qv hr (aa' (aJ' (ab' 0) (aE' af') aQ') ac')))))) (ag' (ak' (cln G_qd hr (aa' (av' (ab' 0) af') (aa' (av' (ab' 0) af') (aa' (av' (ab' 0) af') ac')))))) aw') (ae' (aC' (PWD.pt (aZ' (an' (de' hr.units) bC' (aq' aP' aO' rfl T.z_len (by decide +kernel) (aa' (ab' 0) ac')) af' (ax' _)) (aZ' (bF' (aH' (cl G_qz hr (aa' (av' (ab' 0) af') ac')))) (bc' (an' (de' hr.units) bC' (av' (ab' 0) af') am' (ax' _)))))) (ag' (ak' be')) aw') (ae' (al' 1 (cl G_qb hr (aa' (av' (ab' 0) af') ac')) sc_qm.nd) (ae' (aC' (an' dL' bx' (ab' 1) be' (ax' _)) (ag' (ak' be')) aw') (ag' (ak' (cln G_qr hr (aa' (av' (ab' 0) af') (aa' (av' (ab' 0) af') (aa' (ab' 1) ac'))))))))))
 exact q
theorem ok_qj (T:Txt K mg a) (F:Ent K mg "step_of_words" st_qj ["words"]) (G_qi:Okf P w K mg base 5 "step_of_point" F_qi) (G_qk:Okf P w K mg base 4 "step_of_line" F_qk) (G_qm:Okf P w K mg base 5 "step_of_ring" F_qm) (G_ql:Okf P w K mg base 4 "step_of_meet" F_ql) (G_qz:Okf P w K mg base 1 "is_name" F_qz) :
  Okf P w K mg base 6 "step_of_words" F_qj:=by
 have q:=fnO P w base 5 b_qj F sc_qj fun _ _ _ _ _ _ _ hr=>by
  unfold b_qj;exact (ae' (aC' (PWD.pt (aZ' (an' gF' (br' _) (aq' aP' aO' rfl T.z_len (by decide +kernel) (aa' (ab' 0) ac')) af' (ax' _)) (bc' (bF' (aH' (cl G_qz hr (aa' (av' (ab' 0) af') ac'))))))) (ag' (ak' be')) aw') (ae' (aC' (an' (bK' hr.units) aY' (av' (ab' 0) af') am' (ax' _)) (ag' (ak' (cl G_qi hr (aa' (ab' 0) ac')))) aw') (ae' (aC' (an' (bK' hr.units) aY' (av' (ab' 0) af') am' (ax' _)) (ag' (ak' (cl G_qk hr (aa' (ab' 0) ac')))) aw') (ae' (aC' (an' (bK' hr.units) aY' (av' (ab' 0) af') am' (ax' _)) (ag' (ak' (cl G_qm hr (aa' (ab' 0) ac')))) aw') (ae' (aC' (an' (bK' hr.units) aY' (av' (ab' 0) af') am' (ax' _)) (ag' (ak' (cl G_ql hr (aa' (ab' 0) ac')))) aw') (ag' (ak' be')))))))
 exact q
theorem ok_qC (T:Txt K mg a) (F:Ent K mg "step_of" st_qC ["thing"]) (G_qj:Okf P w K mg base 6 "step_of_words" F_qj) :
  Okf P w K mg base 7 "step_of" F_qC:=by
 have q:=fnO P w base 6 b_qC F sc_qC fun _ _ _ _ _ _ _ hr=>by
  unfold b_qC;exact (ae' (aC' (bF' (aH' (at' T.i_str (ab' 0) (gT' rfl T.z_str (by decide +kernel)) rfl T.z_isinstance))) (ag' cK') aw') (ae' (al' 1 (cl G_qj hr (aa' (ci' PySem.F.plainAttrs_str PySem.F.slot_str_split PySem.F.type_str_split fq' fp' (ab' 0) (aa' am' ac')) ac')) sc_qC.nd) (ae' (aC' (an' dL' bx' (ab' 1) be' (ax' _)) (ag' cK') aw') (ag' (ak' (ab' 1))))))
 exact q
theorem ok_qD (T:Txt K mg a) (F:Ent K mg "changed" st_qD ["rows", "at"]) (G_qo:Okm P w K mg base 1 isO "named" F_qo) (G_qp:Okml P w K mg base 1 isO "needs" F_qp) (G_qC:Okf P w K mg base 7 "step_of" F_qC) :
  Okf P w K mg base 8 "changed" F_qD:=by
 have q:=fnO P w base 7 b_qD F sc_qD fun _ _ _ _ _ _ _ hr=>by
  unfold b_qD;exact (ae' (aC' (PWD.pt (aZ' (an' gF' (br' _) (ab' 1) af' (ax' _)) (bc' (an' gG' (br' _) (ab' 1) (ao' bT' bS' (aq' aP' aO' rfl T.z_len (by decide +kernel) (aa' (ab' 0) ac')) af') (ax' _))))) (ag' (en' rfl PySem.F.excBase_ValueError T.n_NoChange T.x_NoChange rfl T.m_NoChange (aa' am' ac') (by decide) (hlen:=fun δ ds h=>et' h))) aw') (ae' (aC' (an' (fw' hr.units) fv' (clm G_qo hr (cl G_qC hr (aa' (av' (ab' 0) (ab' 1)) ac'))) (PDL.pd (clml G_qp hr (cl G_qC hr (aa' (av' (ab' 0) (ao' as' ar' (ab' 1) af')) ac')))) (by with_unfolding_all rfl)) (ag' (en' rfl PySem.F.excBase_ValueError T.n_NoChange T.x_NoChange rfl T.m_NoChange (aa' am' ac') (by decide) (hlen:=fun δ ds h=>et' h))) aw') (ag' (ak' (ao' as' ar' (ao' as' ar' (aJ' (ab' 0) aQ' (aE' (ab' 1))) (ay' (aa' (av' (ab' 0) (ao' as' ar' (ab' 1) af')) (aa' (av' (ab' 0) (ab' 1)) ac')))) (aJ' (ab' 0) (aE' (ao' as' ar' (ab' 1) af')) aQ'))))))
 exact q
theorem ok_qw (T:Txt K mg a) (F:Ent K mg "_law_asked" st_qw ["_law_rows", "_law_at"]) (G_qD:Okf P w K mg base 8 "changed" F_qD) (G_qs:Okh P w K mg base 1 "_law_which" F_qs) :
  Okf P w K mg base 9 "_law_asked" F_qw:=by
 have q:=fnO P w base 8 b_qw F sc_qw fun _ _ _ _ _ _ _ hr=>by
  unfold b_qw;exact (ae' (al' 2 be' sc_qw.nd) (ae' (kd' 3 rfl ⟨rfl,rfl⟩ sc_qw.nd rfl T.m_HallError T.s_HallError (ag' (al' 2 (cl G_qD hr (aa' (ab' 0) (aa' (ab' 1) ac'))) sc_qw.nd)) (fun _=>(ag' (al' 2 (clh G_qs (hr.mrk _) (aa' (ab' 3) ac')) sc_qw.nd)))) (ag' (ak' (ab' 2)))))
 exact q
theorem lS' (T:Txt K mg a) {f:Addr} {fd:FuncData} (F:Fun K "law" "law" cb' f fd) (G_qy:Okf P w K mg base 1 "_law_stir" F_qy) (G_qA:Okf P w K mg base 2 "_law_due" F_qA) (G_qw:Okf P w K mg base 9 "_law_asked" F_qw) (G_qB:Okf P w K mg base 3 "_law_row" F_qB) (G_qq:Okf P w K mg base 2 "_law_cell" F_qq) (G_qt:Okf P w K mg base 1 "_law_class" F_qt) :
  FnOk P w K mg base (CX1 P w) 10 f fd ["_law_script"] (spD K F_law):=by
 exact kb' (P:=P) (w:=w) (base:=base) (N:=["_law_script", "_law_rows", "_law_k", "_law_texts", "_law_mine", "_law_beyond", "_law_at", "_law_due_here", "_law_said", "_law_other"]) (ps:=["_law_script"]) (k:=9) (body:=b_law) F sc_law fun cdv A outer s H E hr=>by
  unfold b_law;exact (ae' (fa' 0 (N':=["_law_k", "_law_cell_here"]) (m:=2) (fr:=[]) cj' rfl (hi' (by decide) (by decide)) (iH' rfl T.z_enumerate (aa' (ab' 0) ac')) (fun _ _ _ _=>jZ' rfl (fun _=>bU' 0 (show List.Nodup (["_law_k", "_law_cell_here"]:List Str) by decide +kernel) (bU' 1 (show List.Nodup (["_law_k", "_law_cell_here"]:List Str) by decide +kernel) ei'))) (fun _ _ _ _=>(cl G_qy hr (aa' (ab' 1) (aa' (ab' 0) ac')))) sc_law.nd) (ae' (he' 1 ac' sc_law.nd) (ae' (df' rfl rfl T.z_range (aa' af' (aa' (aq' (kp' rfl) ko' rfl T.z_min (by decide +kernel) (aa' (aq' aP' aO' rfl T.z_len (by decide +kernel) (aa' (ab' 0) ac')) (aa' af' ac'))) (aa' af' ac'))) (aV' 2 sc_law.nd) (ag' (iU' 1 (cl G_qB hr (aa' (aJ' (ab' 0) (aE' (ab' 2)) (aE' (ao' as' ar' (ab' 2) af'))) ac'))))) (ae' (bJ' 3 (N':=["_law_row_here"]) (m:=1) (fr:=[]) cj' rfl (aT' (by decide)) (bI' (ab' 1)) (fun _ _ _ _=>aV' 0 (show List.Nodup (["_law_row_here"]:List Str) by decide +kernel)) (fun _ _ _ _=>(av' (ab' 0) af')) sc_law.nd) (ae' (al' 4 (aX' kq' iK' rfl T.z_list (by decide +kernel) (aa' (ab' 3) ac')) sc_law.nd) (ae' (al' 5 (ao' bT' bS' (ao' bn' bm' (cl G_qq hr (aa' (ab' 0) (aa' af' ac'))) (ao' as' ar' (ao' dJ' dI' af' (ao' gH' gD' af' af')) af')) (ao' gH' gD' af' af')) sc_law.nd) (ae' (kh' rfl (bI' (ay' (aa' (ao' bT' bS' (ao' bn' bm' (cl G_qq hr (aa' (ab' 0) (aa' af' ac'))) (ao' as' ar' (aq' aP' aO' rfl T.z_len (by decide +kernel) (aa' (ab' 1) ac')) af')) af') (aa' af' (aa' (ao' bT' bS' (aq' aP' aO' rfl T.z_len (by decide +kernel) (aa' (ab' 1) ac')) af') (aa' (ao' bT' bS' (aq' aP' aO' rfl T.z_len (by decide +kernel) (aa' (ab' 1) ac')) af') (aa' (ab' 5) ac'))))))) (aV' 6 sc_law.nd) (ae' (al' 7 (cl G_qA hr (aa' (ab' 1) (aa' (ab' 6) ac'))) sc_law.nd) (ae' (al' 8 (cl G_qw hr (aa' (ab' 4) (aa' (ab' 6) ac'))) sc_law.nd) (ae' (aC' (PWD.pt (aZ' (an' (de' hr.units) bC' (ab' 8) (ab' 7) (ax' _)) (bc' (an' (de' hr.units) bC' (ab' 4) (ab' 3) (ax' _))))) (ag' (ak' dA')) aw') (ag' (aC' (an' (de' hr.units) bC' (ab' 7) (cl G_qt hr (aa' am' ac')) (ax' _)) (ae' (al' 9 (ao' as' ar' (ao' as' ar' (aJ' (ab' 1) aQ' (aE' (ab' 6))) (ay' (aa' (av' (ab' 1) (ao' as' ar' (ab' 6) af')) (aa' (av' (ab' 1) (ab' 6)) ac')))) (aJ' (ab' 1) (aE' (ao' as' ar' (ab' 6) af')) aQ')) sc_law.nd) (ag' (aC' (an' (de' hr.units) bC' (cl G_qw hr (aa' (ab' 8) (aa' (ab' 6) ac'))) (cl G_qA hr (aa' (ab' 9) (aa' (ab' 6) ac'))) (ax' _)) (ag' (ak' dA')) aw'))) aw')))))) (ag' (ak' dA')))))))))
end
end K37
namespace K37
open PySem PySem.Spec PyProof.Rows L2 DL Mine Bk Lean.Grind
theorem db':("-" : Str)=sT [45]:=rfl
theorem cc':("/" : Str)=sT [47]:=rfl
theorem dS':("0" : Str)=sT [48]:=rfl
theorem lit_none:("" : Str)=sT []:=rfl
theorem jb':("0123456789" : Str)=sT [48,49,50,51,52,53,54,55,56,57]:=rfl
theorem dc' {l:List Nat} (h:∀c∈l,c < 128):PyData.strOk (sT l)=true:=by
 unfold PyData.strOk;rw [Array.all_eq_true'];intro c hc;have:=h c (by simpa using hc);exact decide_eq_true (by omega)
theorem lT' {a b:List Nat} (h:sT a=sT b):a=b:=by
 have:=congrArg (fun z:Str=>z.cps.toList) h;simpa using this
theorem bQ' {a b:List Nat} (ha:∀c∈a,c < 128) (hb:∀c∈b,c < 128):eqD (.str (sT a)) (.str (sT b))=.ok (.bl (decide (a=b))):=by
 unfold eqD;rw [if_pos ⟨dc' ha,dc' hb⟩]
 congr 2
 show decide (sT a=sT b)=decide (a=b)
 by_cases h:a=b
 ·rw [h]; simp
 ·have h':¬(sT a=sT b):=fun z=>h (lT' z);rw [decide_eq_false h,decide_eq_false h']
theorem jD' {l:List Nat} (h:l.length<=1000):lenG [.str (sT l)]=.ok (.int (l.length:Nat)):=by
 have e:(sT l).length=l.length:=by show l.toArray.size=_; simp
 show (if (sT l).length<=sizeLine then Res.ok (D.int ((sT l).length:Nat)) else .stuck)=_
 rw [e,if_pos (Nat.le_trans h (by decide))]
theorem kI' (c:Nat):inA (.str (sT [c])) (.str "0123456789")=.ok (.bl (decide (48<=c/\c<=57))):=by
 rw [jb'];show Res.ok (D.bl (!(Builtin.Str.occurrences (sT [48,49,50,51,52,53,54,55,56,57]) (sT [c]) 0 (sT [48,49,50,51,52,53,54,55,56,57]).length 1).isEmpty))=_;rw [show (!(Builtin.Str.occurrences (sT [48,49,50,51,52,53,54,55,56,57]) (sT [c]) 0 (sT [48,49,50,51,52,53,54,55,56,57]).length 1).isEmpty)=_ from StrLaws.found_one (sT [48,49,50,51,52,53,54,55,56,57]) c]
 congr 2
 rw [aR'];have:(c∈[48,49,50,51,52,53,54,55,56,57])↔(48<=c/\c<=57):=by
  simp only [List.mem_cons,List.not_mem_nil,or_false]; omega
 simp only [this]
theorem cs' {fe:DS->Res D} {rest:DS} {g:Nat->D}:∀(l:List Nat),(∀c∈l,fe (some (.val (.str (sT [c]))) :: rest)=.ok (g c))->mapR (eltD (tgtN 0) fe (none :: rest)) (l.map fun c=>.str (sT [c]))=.ok (l.map g)
 | [],_=>rfl
 | t :: ts,h=>by
  have e:eltD (tgtN 0) fe (none :: rest) (.str (sT [t]))=.ok (g t):=by
   show (match fe (some (.val (.str (sT [t]))) :: rest) with | .ok x=>Res.ok x | _=>.stuck)=_
   rw [h t (by simp)]
  rw [List.map_cons,mapR,e,Res.bind_ok,cs' ts (fun u hu=>h u (List.mem_cons_of_mem _ hu)),Res.bind_ok]; rfl
theorem fC' {l:List Nat} (h:∀c∈l,c < 128):seqItems (.str (sT l))=.ok (l.map fun c=>.str (sT [c])):=by
 have e:((sT l).cps.all fun c=>decide (c < 128))=true:=by
  rw [Array.all_eq_true'];intro c hc;exact decide_eq_true (h c (by simpa using hc))
 show (if ((sT l).cps.all fun c=>decide (c < 128))=true then Res.ok (signsD (sT l)) else .stuck)=_
 rw [if_pos e];unfold signsD;rw [aR']
theorem bz' (n:Nat):∀c∈dg n,c < 128:=fun c hc=>by have:=bb' n c hc; omega
theorem w_plain {n:Nat} (h0:n≠0) (h:n < 10 ^ 60):F_qx [.str (sT (dg n))]=.ok (.bl true):=by
 show outD (b_qx [some (.arg (.str (sT (dg n))))])=_;unfold b_qx;have hl:=bt' n 60 (by decide) h;have e1:eqD (.str (sT (dg n))) (.str "")=.ok (.bl false):=by
  rw [lit_none,bQ' (bz' n) (fun c hc=>by cases hc),decide_eq_false (hG' n)]
 have e2:¬((60:Int) < ((dg n).length:Nat)):=by omega
 have me:methD "str" startsG (slotD 0) (consD (fun _=>.ok (.str "0")) (fun _=>.ok [])) [some (.arg (.str (sT (dg n))))]=.ok (.bl false):=by
  show (if tyB "str" (.str (sT (dg n)))=true then startsG (.str (sT (dg n))) [.str "0"] else .stuck)=_
  rw [if_pos (show tyB "str" (.str (sT (dg n)))=true from rfl),dS']
  show Res.ok (D.bl (Txt.startswith (sT (dg n)) (sT [48])))=_;rw [hJ',decide_eq_false (fb' n h0)]
 have cp:compD 1 [] (tgtN 0) (two (slotD 0) (fun _=>.ok (.str "0123456789")) inA) (bindL (slotD 0) seqItems) [some (.arg (.str (sT (dg n))))]=.ok (.lst (((dg n).map fun _=>true).map .bl)):=by
  unfold compD;have hi:bindL (slotD 0) seqItems [some (.arg (.str (sT (dg n))))]=.ok ((dg n).map fun c=>.str (sT [c])):=fC' (bz' n);have hm:=cs' (fe:=two (slotD 0) (fun _=>.ok (.str "0123456789")) inA) (rest:=[]) (g:=fun _=>.bl true) (dg n) (fun c hc=>by
   push_cast [kI',bb' n c hc,and_self])
  rw [hi,bnd_ok];show lstD (mapR (eltD (tgtN 0) (two (slotD 0) (fun _=>.ok (.str "0123456789")) inA) [none]) ((dg n).map fun c=>.str (sT [c])))=_;rw [hm];unfold lstD;rw [bnd_ok,if_pos (by rw [List.length_map]; exact Nat.le_trans hl (by decide)),List.map_map]; rfl
 have al:(((dg n).map fun _=>true).all id)=true:=by simp
 push_cast [e1,jD' (Nat.le_trans hl (by decide)),e2,me,cp,jB',al]
theorem hS' {n:Nat} (h:n < 10 ^ 60):strG [.int (n:Int)]=.ok (.str (sT (dg n))):=by
 have hl:((n:Int).natAbs).log2 < 1920:=by
  rw [Int.natAbs_natCast]
  by_cases c:n=0
  ·rw [c]; decide
  ·have:(10:Nat) ^ 60 < 2 ^ 200:=by decide
   exact Nat.lt_of_lt_of_le ((Nat.log2_lt c).mpr (Nat.lt_trans h this)) (by decide)
 show (if ((n:Int).natAbs).log2 < 1920 then Res.ok (D.str (Str.ofString (toString ((n:Nat):Int)))) else .stuck)=_
 rw [if_pos hl,hI']
theorem join_one (l:List Nat) (h:l.length<=1000):joinRevG "" (.lst [.str (sT l)])=.ok (.str (sT l)):=by
 have hj:JoinOk "" [sT l].reverse=true:=by
  show JoinOk "" [sT l]=true;unfold JoinOk;have e:(sT l).length=l.length:=by show l.toArray.size=_; simp
  have e0:(Str.ofString "").length=0:=rfl;simp [e,e0];unfold Builtin.Str.tooLong;have:1000<=sizeLine:=by decide
  first | exact decide_eq_false (by omega) | (simp; omega)
 show (if JoinOk "" [sT l].reverse=true/\[sT l].length<=sizeLine then Res.ok (D.str (Txt.join "" [sT l].reverse)) else .stuck)=_
 rw [if_pos ⟨hj,show 1<=sizeLine by decide⟩]
 congr 2
theorem bg' {n:Nat} (h:n < 10 ^ 60):F_qn [.int (n:Int)]=.ok (.str (sT (dg n))):=by
 show outD (b_qn [some (.arg (.int n)),none,none,none])=_;unfold b_qn;have p60:powD (.int 10) (.int 60)=.ok (.int (10 ^ 60)):=rfl;have ow:ownD 2 (fun _=>.ok []) [some (.arg (.int n)),some (.val (.int (10 ^ 60))),none,none]=.nxt [some (.arg (.int n)),some (.val (.int (10 ^ 60))),some (.own []),none]:=rfl;have hc:¬((10:Int) ^ 60<=(n:Int)):=by omega
 have wh:whileF fuel_qn_1 (bindT (two (slotD 3) (slotD 1) (cmpD fun i j=>decide (j<=i))) boolD) (seqD (appD 2 (methD "str" zfillG (bindF (consD (two (slotD 3) (slotD 1) modD) (fun _=>.ok [])) strG) (consD (fun _=>.ok (.int 60)) (fun _=>.ok [])))) (setD 3 (two (slotD 3) (slotD 1) fdivD))) [some (.arg (.int n)),some (.val (.int (10 ^ 60))),some (.own []),some (.val (.int n))]=.nxt [some (.arg (.int n)),some (.val (.int (10 ^ 60))),some (.own []),some (.val (.int n))]:=by
  show whileD _ _ (((n:Int)).natAbs + 1) _=_;rw [whileD];have e:bindT (two (slotD 3) (slotD 1) (cmpD fun i j=>decide (j<=i))) boolD [some (.arg (.int n)),some (.val (.int (10 ^ 60))),some (.own []),some (.val (.int n))]=.ok false:=by
   push_cast [hc]
  rw [e]
 have ap:appD 2 (bindF (consD (slotD 3) (fun _=>.ok [])) strG) [some (.arg (.int n)),some (.val (.int (10 ^ 60))),some (.own []),some (.val (.int n))]=.nxt (appS 2 [] (.str (sT (dg n))) [some (.arg (.int n)),some (.val (.int (10 ^ 60))),some (.own []),some (.val (.int n))]):=by
  have e:bindF (consD (slotD 3) (fun _=>.ok [])) strG [some (.arg (.int n)),some (.val (.int (10 ^ 60))),some (.own []),some (.val (.int n))]=.ok (.str (sT (dg n))):=by
   push_cast [hS' h]
  show onD (bindF (consD (slotD 3) (fun _=>.ok [])) strG [some (.arg (.int n)),some (.val (.int (10 ^ 60))),some (.own []),some (.val (.int n))]) _ _=_;rw [e];show (if flatDs []=true/\flatD (.str (sT (dg n)))=true/\([]:List D).length < sizeLine then Out.nxt _ else .stuck)=_
  exact if_pos ⟨rfl,rfl,by decide⟩
 have sl:slotD 2 (appS 2 [] (.str (sT (dg n))) [some (.arg (.int n)),some (.val (.int (10 ^ 60))),some (.own []),some (.val (.int n))])=.ok (.lst [.str (sT (dg n))]):=rfl;have hl:=bt' n 60 (by decide) h;push_cast [p60,ow,wh,ap,sl,join_one (dg n) (by omega)]
theorem jc' {n:Nat} (h:n < 10 ^ 60):F_qu [.lst [.str (sT (dg n))]]=.ok (.bl true):=by
 show outD (b_qu [some (.arg (.lst [.str (sT (dg n))]))])=_;unfold b_qu;have e0:eqD (.str (sT (dg n))) (.str "0")=.ok (.bl (decide (dg n=[48]))):=by
  rw [dS']; exact bQ' (bz' n) (fun c hc=>by rw [List.mem_singleton.mp hc]; decide)
 by_cases z:n=0
 ·have d:dg n=[48]:=by rw [z]; exact hH'
  rw [d] at e0;simp only [decide_true] at e0;push_cast [d,e0]
 ·have d:¬(dg n=[48]):=fun q=>fb' n z (by rw [q]; rfl);push_cast [e0,d,w_plain z h]
theorem jd' {n b:Nat} (h:n < 10 ^ 60) (hb:b < 10 ^ 60) (b0:b≠0):F_qu [.lst [.str (sT (dg n)),.str (sT (dg b))]]=.ok (.bl true):=by
 show outD (b_qu [some (.arg (.lst [.str (sT (dg n)),.str (sT (dg b))]))])=_;unfold b_qu;have e0:eqD (.str (sT (dg n))) (.str "0")=.ok (.bl (decide (dg n=[48]))):=by
  rw [dS']; exact bQ' (bz' n) (fun c hc=>by rw [List.mem_singleton.mp hc]; decide)
 by_cases z:n=0
 ·have d:dg n=[48]:=by rw [z]; exact hH'
  rw [d] at e0;simp only [decide_true] at e0;push_cast [d,e0,w_plain b0 hb]
 ·have d:¬(dg n=[48]):=fun q=>fb' n z (by rw [q]; rfl);push_cast [e0,d,w_plain z h,w_plain b0 hb]
theorem aK' {a b:List Nat} (h:a.length + b.length<=1000):addD (.str (sT a)) (.str (sT b))=.ok (.str (sT (a ++ b))):=by
 have e:∀l:List Nat,(sT l).length=l.length:=fun l=>by show l.toArray.size=_; simp
 show (if (sT a).length + (sT b).length<=sizeLine then Res.ok (D.str (sT a ++ sT b)) else .stuck)=_
 rw [e,e,if_pos (Nat.le_trans h (by decide)),kz']
noncomputable def tailT (b:Nat):List Nat:=if b=1 then [] else 47 :: dg b
noncomputable def signT (t:Int):List Nat:=if t < 0 then [45] else []
theorem kJ' {t:Int} {b:Nat} (ht:t.natAbs < 10 ^ 60) (hb:b < 10 ^ 60):F_qg [num [t] (b:Int)]=.ok (.str (sT (signT t ++ dg t.natAbs ++ tailT b))):=by
 show outD (b_qg [some (.arg (num [t] (b:Int))),none,none,none,none])=_;unfold b_qg signT tailT;have i0:ixD (TI [t]) (.int 0)=.ok (.int t):=ix_tup0 _ _;have l1:=bt' t.natAbs 60 (by decide) ht;have l2:=bt' b 60 (by decide) hb;have a1:=aK' (a:=[47]) (b:=dg b) (by simp; omega)
 by_cases h1:t < 0
 ·by_cases h2:b=1
  ·have h2':((b:Nat):Int)=1:=by omega
   have a2:=aK' (a:=[45]) (b:=dg t.natAbs) (by simp; omega);have a3:=aK' (a:=[45] ++ dg t.natAbs) (b:=[]) (by simp; omega);push_cast [i0,h1,h2',h2,db',lit_none,bg' ht,a2,a3]
  ·have h2':¬(((b:Nat):Int)=1):=by omega
   have a2:=aK' (a:=[45]) (b:=dg t.natAbs) (by simp; omega);have a3:=aK' (a:=[45] ++ dg t.natAbs) (b:=[47] ++ dg b) (by simp; omega);push_cast [i0,h1,h2',h2,db',cc',bg' ht,bg' hb,a1,a2,a3];rfl
 ·by_cases h2:b=1
  ·have h2':((b:Nat):Int)=1:=by omega
   have a2:=aK' (a:=[]) (b:=dg t.natAbs) (by simp; omega);have a3:=aK' (a:=[] ++ dg t.natAbs) (b:=[]) (by simp; omega);push_cast [i0,h1,h2',h2,lit_none,bg' ht,a2,a3]
  ·have h2':¬(((b:Nat):Int)=1):=by omega
   have a2:=aK' (a:=[]) (b:=dg t.natAbs) (by simp; omega);have a3:=aK' (a:=[] ++ dg t.natAbs) (b:=[47] ++ dg b) (by simp; omega);push_cast [i0,h1,h2',h2,lit_none,cc',bg' ht,bg' hb,a1,a2,a3];rfl
theorem dq' {n:Nat} (h:n < 10 ^ 60):intG [.str (sT (dg n))]=.ok (.int (n:Int)):=by
 have hl:=bt' n 60 (by decide) h;have e:(sT (dg n)).length=(dg n).length:=by show (dg n).toArray.size=_; simp
 show (if (sT (dg n)).length<=640 then (match intText? (sT (dg n)) with | some n=>Res.ok (D.int n) | none=>.stuck) else .stuck)=_
 rw [e,if_pos (by omega),lP' n (by omega)]
theorem ct' (n:Nat):(47:Nat)∉dg n:=fun h=>by have:=bb' n 47 h; omega
noncomputable def bodyT (n:Nat) (o:Option Nat):List Nat:=match o with
 | none=>dg n
 | some b=>dg n ++ 47 :: dg b
noncomputable def partsT (n:Nat) (o:Option Nat):List D:=match o with
 | none=>[.str (sT (dg n))]
 | some b=>[.str (sT (dg n)),.str (sT (dg b))]
theorem je' {n:Nat} {o:Option Nat} (h:(bodyT n o).length<=500):splitG (.str (sT (bodyT n o))) [.str "/"]=.ok (.lst (partsT n o)):=by
 have e:(sT (bodyT n o)).length=(bodyT n o).length:=by show (bodyT n o).toArray.size=_; simp
 have hs:502<=sizeLine:=by decide
 rw [cc'];show (if ((sT [47]).length == 0)=false/\(sT (bodyT n o)).length + 2<=sizeLine then Res.ok (D.lst ((Txt.split (sT (bodyT n o)) (sT [47])).map .str)) else .stuck)=_
 rw [if_pos ⟨rfl,by rw [e]; omega⟩]
 cases o with
 | none=>rw [show bodyT n none=dg n from rfl,gh' (hG' n) (ct' n)]; rfl
 | some b=>rw [show bodyT n (some b)=dg n ++ 47 :: dg b from rfl,hK' (ct' n) (ct' b)]; rfl
theorem hT' (n:Nat) (o:Option Nat):(bodyT n o).head?≠some 45:=by
 have h:(dg n).head?≠some 45:=fun z=>by
  have:=bb' n 45 (List.mem_of_mem_head? z); omega
 cases o with
 | none=>exact h
 | some b =>
  show (dg n ++ 47 :: dg b).head?≠some 45
  cases q:dg n with
  | nil=>exact (hG' n q).elim
  | cons a l=>rw [q] at h; simpa using h
noncomputable def fullT (neg:Bool) (n:Nat) (o:Option Nat):List Nat:=if neg=true then 45 :: bodyT n o else bodyT n o
noncomputable def botT:Option Nat->Nat
 | none=>1
 | some b=>b
theorem kK' {neg:Bool} {n:Nat} {o:Option Nat} (hn:n < 10 ^ 60) (hb:botT o < 10 ^ 60) (hb0:botT o≠0) :
  F_qh [.str (sT (fullT neg n o))]=.ok (num [Int.fdiv (if neg=true then -(n:Int) else (n:Int)) (cm n (botT o))] (Int.fdiv (botT o:Int) (cm n (botT o)))):=by
 show outD (b_qh [some (.arg (.str (sT (fullT neg n o)))),none,none,none,none,none,none])=_;unfold b_qh;have l1:=bt' n 60 (by decide) hn;have lb:(bodyT n o).length<=500:=by
  cases o with
  | none=>show (dg n).length<=500; omega
  | some b =>
   have:=bt' b 60 (by decide) hb;show (dg n ++ 47 :: dg b).length<=500;simp; omega
 have sw:methD "str" startsG (slotD 0) (consD (fun _=>.ok (.str "-")) (fun _=>.ok [])) [some (.arg (.str (sT (fullT neg n o)))),none,none,none,none,none,none]=.ok (.bl neg):=by
  show (if tyB "str" (.str (sT (fullT neg n o)))=true then startsG (.str (sT (fullT neg n o))) [.str "-"] else .stuck)=_
  rw [if_pos (show tyB "str" (.str (sT (fullT neg n o)))=true from rfl),db']
  show Res.ok (D.bl (Txt.startswith (sT (fullT neg n o)) (sT [45])))=_;rw [hJ']
  cases neg with
  | true=>rfl
  | false=>rw [decide_eq_false (show (fullT false n o).head?≠some 45 from hT' n o)]
 have un:∀s1:SV,s1.view=.bl neg->ifD (bindT (slotD 1) truthD) (sliceF (slotD 0) (partF (fun _=>.ok (.int 1))) noPart) (slotD 0) [some (.arg (.str (sT (fullT neg n o)))),some s1,none,none,none,none,none]=.ok (.str (sT (bodyT n o))):=fun s1 h1=>by
  cases neg with
  | true =>
   have lf:(sT (fullT true n o)).length<=sizeLine:=by
    show (fullT true n o).toArray.size<=_;rw [List.size_toArray];show (bodyT n o).length + 1<=_;have:501<=sizeLine:=by decide
    omega
   have c:cutD (.str (sT (fullT true n o))) (some 1) none=.ok (.str (sT (bodyT n o))):=by
    show (if (sT (fullT true n o)).length<=sizeLine then Res.ok (D.str (Txt.slice (sT (fullT true n o)) (some 1) none)) else .stuck)=_
    rw [if_pos lf];show Res.ok (D.str (Txt.slice (sT (45 :: bodyT n o)) (some 1) none))=_;rw [fc']
   push_cast [h1,c]
  | false =>
   push_cast [h1];rfl
 have sp:∀s1:SV,methD "str" splitG (slotD 2) (consD (fun _=>.ok (.str "/")) (fun _=>.ok [])) [some (.arg (.str (sT (fullT neg n o)))),some s1,some (.val (.str (sT (bodyT n o)))),none,none,none,none]=.ok (.lst (partsT n o)):=fun s1=>by
  show (if tyB "str" (.str (sT (bodyT n o)))=true then splitG (.str (sT (bodyT n o))) [.str "/"] else .stuck)=_
  rw [if_pos (show tyB "str" (.str (sT (bodyT n o)))=true from rfl),je' lb]
 have g0:0 < cm n (botT o):=by
  unfold cm;have:0 < Int.gcd n (botT o):=Int.gcd_pos_of_ne_zero_right _ (by omega);omega
 have gb:(cm (n:Int) (botT o:Int)).natAbs < 2 ^ 8000:=by
  unfold cm;rw [Int.natAbs_natCast];have h1:Int.gcd n (botT o)<=botT o:=by
   have:=Nat.le_of_dvd (by omega) (Int.gcd_dvd_natAbs_right (n:Int) (botT o:Int));simpa using this
  have h2:(10:Nat) ^ 60 < 2 ^ 200:=by decide
  exact Nat.lt_of_lt_of_le (Nat.lt_of_le_of_lt h1 (Nat.lt_trans hb h2)) (Nat.pow_le_pow_right (by decide) (by decide))
 have fd1:=fun x:Int=>iV' (a:=x) (Int.ne_of_gt g0) gb;have pre:∀f:DS->Out,(seqD (setD 1 (methD "str" startsG (slotD 0) (consD (fun _=>.ok (.str "-")) (fun _=>.ok [])))) (seqD (setD 2 (ifD (bindT (slotD 1) truthD) (sliceF (slotD 0) (partF (fun _=>.ok (.int 1))) noPart) (slotD 0))) (seqD (setD 3 (methD "str" splitG (slotD 2) (consD (fun _=>.ok (.str "/")) (fun _=>.ok [])))) f))) [some (.arg (.str (sT (fullT neg n o)))),none,none,none,none,none,none]=f [some (.arg (.str (sT (fullT neg n o)))),some (.val (.bl neg)),some (.val (.str (sT (bodyT n o)))),some (.val (.lst (partsT n o))),none,none,none]:=fun f=>by
  rw [ap_seq,ap_set,sw,on_ok,sq_nxt];show (seqD (setD 2 (ifD (bindT (slotD 1) truthD) (sliceF (slotD 0) (partF (fun _=>.ok (.int 1))) noPart) (slotD 0))) _) [some (.arg (.str (sT (fullT neg n o)))),some (.val (.bl neg)),none,none,none,none,none]=_;rw [ap_seq,ap_set,un (.val (.bl neg)) rfl,on_ok,sq_nxt];show (seqD (setD 3 (methD "str" splitG (slotD 2) (consD (fun _=>.ok (.str "/")) (fun _=>.ok [])))) f) [some (.arg (.str (sT (fullT neg n o)))),some (.val (.bl neg)),some (.val (.str (sT (bodyT n o)))),none,none,none,none]=_;rw [ap_seq,ap_set,sp (.val (.bl neg)),on_ok,sq_nxt];rfl
 rw [pre]
 cases o with
 | none =>
  have pa:=jc' hn;have b1:((botT none:Nat):Int)=1:=rfl;have cmn:=fB' n 1;rw [b1] at fd1 ⊢;rw [show partsT n none=[.str (sT (dg n))] from rfl]
  cases neg with
  | true=>push_cast [pa,dq' hn,cmn,fd1]; rfl
  | false=>push_cast [pa,dq' hn,cmn,fd1]; rfl
 | some b =>
  have pa:F_qu [.lst [.str (sT (dg n)),.str (sT (dg b))]]=_:=jd' hn hb hb0;have hb':b < 10 ^ 60:=hb;have cmn:=fB' n b;have b1:((botT (some b):Nat):Int)=(b:Int):=rfl;rw [b1] at fd1 ⊢;rw [show partsT n (some b)=[.str (sT (dg n)),.str (sT (dg b))] from rfl]
  cases neg with
  | true=>push_cast [pa,dq' hn,dq' hb',cmn,fd1]; rfl
  | false=>push_cast [pa,dq' hn,dq' hb',cmn,fd1]; rfl
theorem dr':(" " : Str)=sT [32]:=rfl
theorem fD' {c:Nat}:∀{rest ws:List (List Nat)} {x w:List Nat},c∉x->c∉w->(∀p∈rest,c∉p)->(∀p∈ws,c∉p)->x ++ rest.flatMap (fun p=>c :: p)=w ++ ws.flatMap (fun p=>c :: p)->x=w/\rest=ws
 | [],[],x,w,_,_,_,_,e=>⟨by simpa using e,rfl⟩
 | [],q :: ws,x,w,hx,_,_,_,e=>by
  exfalso;rw [List.flatMap_nil,List.append_nil,List.flatMap_cons,List.cons_append] at e;exact hx (by rw [e]; simp)
 | p :: rest,[],x,w,_,hw,_,_,e=>by
  exfalso;rw [List.flatMap_nil,List.append_nil,List.flatMap_cons,List.cons_append] at e;exact hw (by rw [<- e]; simp)
 | p :: rest,q :: ws,x,w,hx,hw,hr,hs,e=>by
  rw [List.flatMap_cons,List.flatMap_cons,List.cons_append,List.cons_append] at e;obtain ⟨e1,e2⟩:=cut1 hx hw e;obtain ⟨e3,e4⟩:=fD' (hr p (by simp)) (hs q (by simp)) (fun r h=>hr r (by simp [h])) (fun r h=>hs r (by simp [h])) e2;exact ⟨e1,by rw [e3,e4]⟩
noncomputable def J:List (List Nat)->List Nat
 | []=>[]
 | w :: r=>w ++ r.flatMap fun p=>32 :: p
abbrev tx (w:List Nat):D:=.str (sT w)
abbrev txs (ws:List (List Nat)):List D:=ws.map tx
theorem kL' {w:List Nat} {r:List (List Nat)} (h:∀p∈w :: r,32∉p) (hne:w≠[]):Txt.split (sT (J (w :: r))) (sT [32])=(w :: r).map sT:=by
 have j:=StrLaws.join_split (sT (J (w :: r))) (sT [32]);have f:=StrLaws.split_free (sT (J (w :: r))) 32
 cases q:Txt.split (sT (J (w :: r))) (sT [32]) with
 | nil =>
  rw [q] at j;exfalso;have:(sT (J (w :: r))).cps.toList=[]:=by rw [<- j]; rfl
  rw [aR'] at this;exact hne (List.append_eq_nil_iff.mp this).1
 | cons x rest =>
  have fx:(32:Nat)∉x.cps.toList:=f x (by show x∈Txt.split (sT (J (w :: r))) (sT [32]); rw [q]; simp);have fr:∀p∈rest.map (fun p:Str=>p.cps.toList),(32:Nat)∉p:=fun p hp=>by
   obtain ⟨p',hp',rfl⟩:=List.mem_map.mp hp;exact f p' (by show p'∈Txt.split (sT (J (w :: r))) (sT [32]); rw [q]; exact List.mem_cons_of_mem _ hp')
  rw [q] at j;have e:=congrArg (fun z:Str=>z.cps.toList) j;dsimp only at e;rw [Mine.join_list,aR'] at e;have e':x.cps.toList ++ (rest.map (fun p:Str=>p.cps.toList)).flatMap (fun p=>32 :: p)=w ++ r.flatMap fun p=>32 :: p:=by
   rw [List.flatMap_map]; exact e
  obtain ⟨e1,e2⟩:=fD' fx (h w (by simp)) fr (fun p hp=>h p (by simp [hp])) e';rw [List.map_cons,cQ' e1,<- e2,List.map_map]
  congr 1
  clear e e' e2 fr j q
  induction rest with
  | nil=>rfl
  | cons p rest ih=>rw [List.map_cons,<- ih]; congr 1
theorem lU' (w:List Nat) (r:List (List Nat)):Txt.join (sT [32]) ((w :: r).map sT)=sT (J (w :: r)):=by
 refine cQ' ?_;have e:=Mine.join_list 32 (sT w) (r.map sT);rw [aR'] at e;rw [eq_of_beq (join_plain_closes (sT [32]) ((w :: r).map sT)),List.map_cons,e,J,List.flatMap_map]
theorem dt':∀ws:List (List Nat),strsOf (txs ws)=some (ws.map sT)
 | []=>rfl
 | w :: ws=>by
  show (strsOf (txs ws)).map (sT w :: ·)=_;rw [dt' ws]; rfl
noncomputable def sumL' (ws:List (List Nat)):Nat:=(ws.map List.length).sum
theorem kM' (l:List Nat):(sT l).length=l.length:=by show l.toArray.size=_; simp
theorem lV':∀ws:List (List Nat),(J ws).length<=sumL' ws + ws.length
 | []=>Nat.zero_le _
 | w :: r=>by
  have:∀r:List (List Nat),(r.flatMap fun p=>32 :: p).length=sumL' r + r.length:=by
   intro r
   induction r with
   | nil=>rfl
   | cons p r ih=>rw [List.flatMap_cons,List.length_append,ih]; simp [sumL']; omega
  rw [J,List.length_append,this];simp [sumL']; omega
theorem kN' {ws:List (List Nat)} (h:∀p∈ws,32∉p) (hne:∃w r,ws=w :: r/\w≠[]) (hl:sumL' ws + ws.length<=1000):splitG (tx (J ws)) [.str " "]=.ok (.lst (txs ws)):=by
 obtain ⟨w,r,rfl,hw⟩:=hne;have l:=lV' (w :: r);rw [dr'];show (if ((sT [32]).length == 0)=false/\(sT (J (w :: r))).length + 2<=sizeLine then Res.ok (D.lst ((Txt.split (sT (J (w :: r))) (sT [32])).map .str)) else .stuck)=_
 rw [if_pos ⟨rfl,Nat.le_trans (show _<=1002 by rw [kM']; omega) (by decide)⟩,kL' h hw,List.map_map]; rfl
theorem lW' {ws:List (List Nat)} (hne:ws≠[]) (hl:sumL' ws + ws.length<=1000):joinG (.str " ") [.lst (txs ws)]=.ok (tx (J ws)):=by
 show (match strsOf (txs ws) with | some ys=>if (ys.map (fun x:Str=>x.length)).sum + ys.length * (" " : Str).length<=16777216 then Res.ok (D.str (Txt.join " " ys)) else .stuck | none=>.stuck)=_
 rw [dt'];dsimp only;have e:((ws.map sT).map (fun x:Str=>x.length)).sum=sumL' ws:=by rw [List.map_map]; unfold sumL'; congr 1
 have e1:(" " : Str).length=1:=rfl;rw [e,e1,List.length_map,if_pos (by omega),dr']
 cases ws with
 | nil=>exact (hne rfl).elim
 | cons w r=>rw [lU']
noncomputable def Nw (w:List Nat):Prop:=w≠[]/\w.length<=6/\∀c∈w,97<=c/\c<=122
theorem kO':("abcdefghijklmnopqrstuvwxyz" : Str)=sT [97,98,99,100,101,102,103,104,105,106,107,108,109,110,111,112,113,114,115,116,117,118,119,120,121,122]:=rfl
theorem lX' (c:Nat):inA (.str (sT [c])) (.str "abcdefghijklmnopqrstuvwxyz")=.ok (.bl (decide (97<=c/\c<=122))):=by
 rw [kO'];show Res.ok (D.bl (!(Builtin.Str.occurrences (sT [97,98,99,100,101,102,103,104,105,106,107,108,109,110,111,112,113,114,115,116,117,118,119,120,121,122]) (sT [c]) 0 (sT [97,98,99,100,101,102,103,104,105,106,107,108,109,110,111,112,113,114,115,116,117,118,119,120,121,122]).length 1).isEmpty))=_;rw [show (!(Builtin.Str.occurrences (sT [97,98,99,100,101,102,103,104,105,106,107,108,109,110,111,112,113,114,115,116,117,118,119,120,121,122]) (sT [c]) 0 (sT [97,98,99,100,101,102,103,104,105,106,107,108,109,110,111,112,113,114,115,116,117,118,119,120,121,122]).length 1).isEmpty)=_ from StrLaws.found_one (sT [97,98,99,100,101,102,103,104,105,106,107,108,109,110,111,112,113,114,115,116,117,118,119,120,121,122]) c]
 congr 2
 rw [aR'];have:(c∈[97,98,99,100,101,102,103,104,105,106,107,108,109,110,111,112,113,114,115,116,117,118,119,120,121,122])↔(97<=c/\c<=122):=by
  simp only [List.mem_cons,List.not_mem_nil,or_false]; omega
 simp only [this]
theorem Nw.small {w:List Nat} (h:Nw w):∀c∈w,c < 128:=fun c hc=>by have:=h.2.2 c hc; omega
theorem Nw.sp {w:List Nat} (h:Nw w):(32:Nat)∉w:=fun hc=>by have:=h.2.2 32 hc; omega
theorem bA' {w:List Nat} (h:Nw w):F_qz [tx w]=.ok (.bl true):=by
 show outD (b_qz [some (.arg (tx w))])=_;unfold b_qz;have e1:eqD (tx w) (.str "")=.ok (.bl false):=by
  rw [lit_none,bQ' h.small (fun c hc=>by cases hc),decide_eq_false h.1]
 have e2:¬((6:Int) < ((w.length:Nat):Int)):=by have:=h.2.1; omega
 have cp:compD 1 [] (tgtN 0) (two (slotD 0) (fun _=>.ok (.str "abcdefghijklmnopqrstuvwxyz")) inA) (bindL (slotD 0) seqItems) [some (.arg (tx w))]=.ok (.lst ((w.map fun _=>true).map .bl)):=by
  unfold compD;have hi:bindL (slotD 0) seqItems [some (.arg (tx w))]=.ok (w.map fun c=>.str (sT [c])):=fC' h.small;have hm:=cs' (fe:=two (slotD 0) (fun _=>.ok (.str "abcdefghijklmnopqrstuvwxyz")) inA) (rest:=[]) (g:=fun _=>.bl true) w (fun c hc=>by
   push_cast [lX',h.2.2 c hc,and_self])
  rw [hi,bnd_ok];show lstD (mapR (eltD (tgtN 0) (two (slotD 0) (fun _=>.ok (.str "abcdefghijklmnopqrstuvwxyz")) inA) [none]) (w.map fun c=>.str (sT [c])))=_;rw [hm];unfold lstD;rw [bnd_ok,if_pos (by rw [List.length_map]; exact Nat.le_trans h.2.1 (by decide)),List.map_map]; rfl
 have al:((w.map fun _=>true).all id)=true:=by simp
 push_cast [e1,jD' (Nat.le_trans h.2.1 (by decide)),e2,cp,jB',al]
theorem bk' {a b:List Nat} (ha:Nw a) (hb:Nw b):F_qv [.lst [tx a,tx b]]=.ok (.bl true):=by
 show outD (b_qv [some (.arg (.lst [tx a,tx b]))])=_;unfold b_qv;have el:∀w,Nw w->eltD (tgtN 0) (bindF (consD (slotD 0) (fun _=>.ok [])) F_qz) [none] (tx w)=.ok (.bl true):=fun w h=>by
  have:=bA' h;show (match bindF (consD (slotD 0) (fun _=>.ok [])) F_qz [some (.val (tx w))] with | .ok z=>Res.ok z | _=>.stuck)=_
  push_cast [this]
 have cc:compD 1 [] (tgtN 0) (bindF (consD (slotD 0) (fun _=>.ok [])) F_qz) (bindL (slotD 0) seqItems) [some (.arg (.lst [tx a,tx b]))]=.ok (.lst [.bl true,.bl true]):=by
  unfold compD;have hi:bindL (slotD 0) seqItems [some (.arg (.lst [tx a,tx b]))]=.ok [tx a,tx b]:=rfl;have hc:compS 1 [] [some (.arg (.lst [tx a,tx b]))]=[none]:=rfl;rw [hi,Res.bind_ok,hc,mapR,el a ha,Res.bind_ok,mapR,el b hb,Res.bind_ok];rfl
 have al:allG [.lst [.bl true,.bl true]]=.ok (.bl true):=rfl;push_cast [cc,al]
abbrev aI':List Nat:=[112,111,105,110,116]
abbrev bv':List Nat:=[108,105,110,101]
abbrev aL':List Nat:=[114,105,110,103]
abbrev aU':List Nat:=[109,101,101,116]
abbrev wBy:List Nat:=[98,121]
abbrev jE':List Nat:=[102,105,114,115,116]
abbrev hU':List Nat:=[115,101,99,111,110,100]
theorem jf':("line" : Str)=sT bv':=rfl
theorem jg':("ring" : Str)=sT aL':=rfl
theorem dT':("meet" : Str)=sT aU':=rfl
structure Ob (o:D) (ws os:List (List Nat)):Prop where
 nm:methO isO "named" F_qo o=.ok (tx (ws.getD 1 []))
 nd:methO isO "needs" (giveL F_qp) o=.ok (.lst (txs os))
 nn:isNoneO o .non=.ok (.bl false)
theorem gj' {c:Str} {ex:List Str} {wd:D} {xs:List D} {w0 w1:List Nat} {r os:List (List Nat)} (hc:isO c=true) (h1:ex.contains "text" = false) (h2:ex.contains "named" = false) (h3:ex.contains "needs" = false)
  (hl:sumL' (w0 :: w1 :: r) + (w0 :: w1 :: r).length<=1000) (ho:os.length<=2):Ob (.obj c ("words" :: "others" :: "wanted" :: ex) (.lst (txs (w0 :: w1 :: r)) :: .lst (txs os) :: wd :: xs)) (w0 :: w1 :: r) os:=by
 have c1:(("words" :: "others" :: "wanted" :: ex:List Str).contains "text")=false:=h1;have c2:(("words" :: "others" :: "wanted" :: ex:List Str).contains "named")=false:=h2;have c3:(("words" :: "others" :: "wanted" :: ex:List Str).contains "needs")=false:=h3;generalize ho':D.obj c ("words" :: "others" :: "wanted" :: ex) (.lst (txs (w0 :: w1 :: r)) :: .lst (txs os) :: wd :: xs)=o;have fw:fldG isO "words" o=.ok (.lst (txs (w0 :: w1 :: r))):=by rw [<- ho']; exact if_pos hc
 have fo:fldG isO "others" o=.ok (.lst (txs os)):=by rw [<- ho']; exact if_pos hc
 have t2:F_qo [o]=.ok (tx ((w0 :: w1 :: r).getD 1 [])):=by
  show outD (b_qo [some (.arg o)])=_;unfold b_qo;have ix:ixD (.lst (txs (w0 :: w1 :: r))) (.int 1)=.ok (tx ((w0 :: w1 :: r).getD 1 [])):=ix_lst1 _ _ _;push_cast [fw,ix]
 have t3:F_qp [o]=.ok (.lst (txs os)):=by
  show outD (b_qp [some (.arg o)])=_;unfold b_qp;have:listG [.lst (txs os)]=.ok (.lst (txs os)):=by
   first | rfl | exact if_pos (by rw [List.length_map]; exact Nat.le_trans ho (by decide))
  push_cast [fo,this]
 refine ⟨?_,?_,?_⟩
 ·rw [<- ho'] at t2 ⊢; exact (if_pos ⟨hc,c2⟩).trans t2
 ·rw [<- ho'] at t3 ⊢; refine (if_pos ⟨hc,c3⟩).trans ?_; show (match F_qp _ with | .ok (.lst es)=>Res.ok (D.lst es) | _=>.stuck)=_; rw [t3]
 ·rw [<- ho']; rfl
theorem cu' {x:Str} {fs:List Str} {n:Nat} {fa:DS->Res (List D)} {ix:List Nat} {ds as:List D} (hf:fa (none :: ds.map fun d=>some (.arg d))=.ok as) (h1:ds.length=n) (h2:as.length=3) (h3:noOs (as ++ ix.filterMap fun i=>ds[i]?)=true) (h4:∀i∈ix,i < ds.length) :
  newO x fs (gI n fa ix) ds=.ok (.obj x fs (as ++ ix.filterMap fun i=>ds[i]?)):=by
 have g:gI n fa ix ds=.ok (as ++ ix.filterMap fun i=>ds[i]?):=by
  unfold gI;rw [hf];exact if_pos ⟨h1,h2,h3,h4⟩
 unfold newO;rw [g]
theorem jh' (n a b:List Nat):F_qc [tx n,tx a,tx b]=.ok (.obj "LineThrough" ["words", "others", "wanted"] [.lst (txs [bv',n,a,b]),.lst (txs [a,b]),.lst [.tup [.str "point"],.tup [.str "point"]]]) :=
 cu' (ix:=[]) (as:=[.lst (txs [bv',n,a,b]),.lst (txs [a,b]),.lst [.tup [.str "point"],.tup [.str "point"]]]) rfl rfl rfl (by simp [noOs,noO]) (fun i h=>by cases h)
theorem ji' (n a b:List Nat):F_qd [tx n,tx a,tx b]=.ok (.obj "RingThrough" ["words", "others", "wanted"] [.lst (txs [aL',n,a,b]),.lst (txs [a,b]),.lst [.tup [.str "point"],.tup [.str "point"]]]) :=
 cu' (ix:=[]) (as:=[.lst (txs [aL',n,a,b]),.lst (txs [a,b]),.lst [.tup [.str "point"],.tup [.str "point"]]]) rfl rfl rfl (by simp [noOs,noO]) (fun i h=>by cases h)
theorem jj' (n a b:List Nat):F_qe [tx n,tx a,tx b]=.ok (.obj "MeetOfLines" ["words", "others", "wanted"] [.lst (txs [aU',n,a,b]),.lst (txs [a,b]),.lst [.tup [.str "line"],.tup [.str "line"]]]) :=
 cu' (ix:=[]) (as:=[.lst (txs [aU',n,a,b]),.lst (txs [a,b]),.lst [.tup [.str "line"],.tup [.str "line"]]]) rfl rfl rfl (by simp [noOs,noO]) (fun i h=>by cases h)
theorem hV' (n a b c:List Nat):F_qa [tx n,tx a,tx b,tx c]=.ok (.obj "MeetWithRing" ["words", "others", "wanted", "word"] [.lst (txs [aU',n,a,b,c]),.lst (txs [a,b]),.lst [.tup [.str "line",.str "ring"],.tup [.str "ring"]],tx c]) :=
 cu' (ix:=[3]) (as:=[.lst (txs [aU',n,a,b,c]),.lst (txs [a,b]),.lst [.tup [.str "line",.str "ring"],.tup [.str "ring"]]]) rfl rfl rfl (by simp [noOs,noO]) (fun i h=>by cases List.mem_singleton.mp h; exact Nat.lt_of_sub_eq_succ rfl)
theorem lY' {n a g:List Nat} {x:D} (hx:F_qg [x]=.ok (tx g)) (hO:noO x=true):F_qr [tx n,tx a,x]=.ok (.obj "RingBy" ["words", "others", "wanted", "square"] [.lst (txs [aL',n,a,wBy,g]),.lst (txs [a]),.lst [.tup [.str "point"]],x]) :=
 cu' (ix:=[2]) (as:=[.lst (txs [aL',n,a,wBy,g]),.lst (txs [a]),.lst [.tup [.str "point"]]]) (by
  show a_new_RingBy [none,some (.arg (tx n)),some (.arg (tx a)),some (.arg x)]=_;unfold a_new_RingBy;push_cast [hx]; rfl) rfl rfl (by simp [noOs,noO,hO]) (fun i h=>by cases List.mem_singleton.mp h; exact Nat.lt_of_sub_eq_succ rfl)
theorem hW' {n f g:List Nat} {x y:D} (hx:F_qg [x]=.ok (tx f)) (hy:F_qg [y]=.ok (tx g)) (hO:noO x=true) (hO':noO y=true):F_qf [tx n,x,y]=.ok (.obj "FirstPoint" ["words", "others", "wanted", "x", "y"] [.lst (txs [aI',n,f,g]),.lst (txs []),.lst [],x,y]) :=
 cu' (ix:=[1,2]) (as:=[.lst (txs [aI',n,f,g]),.lst (txs []),.lst []]) (by
  show a_new_FirstPoint [none,some (.arg (tx n)),some (.arg x),some (.arg y)]=_;unfold a_new_FirstPoint;push_cast [hx,hy]; rfl) rfl rfl (by simp [noOs,noO,hO,hO']) (fun i h=>by
  have:i=1\/i=2:=by simpa using h
  rcases this with rfl | rfl <;> exact Nat.lt_of_sub_eq_succ rfl)
structure Fr (f g:List Nat):Prop where
 rd:∃x,F_qb [tx f]=.ok x/\F_qg [x]=.ok (tx g)/\isNoneO x .non=.ok (.bl false)/\noO x=true
 sp:(32:Nat)∉f
 ln:f.length<=200
 lg:g.length<=200
theorem e_lp:eqD (tx bv') (.str "point")=.ok (.bl false):=(bQ' (a:=bv') (b:=aI') (by decide) (by decide)).trans rfl
theorem e_ll:eqD (tx bv') (.str "line")=.ok (.bl true):=(bQ' (a:=bv') (b:=bv') (by decide) (by decide)).trans rfl
theorem e_rp:eqD (tx aL') (.str "point")=.ok (.bl false):=(bQ' (a:=aL') (b:=aI') (by decide) (by decide)).trans rfl
theorem e_rl:eqD (tx aL') (.str "line")=.ok (.bl false):=(bQ' (a:=aL') (b:=bv') (by decide) (by decide)).trans rfl
theorem e_rr:eqD (tx aL') (.str "ring")=.ok (.bl true):=(bQ' (a:=aL') (b:=aL') (by decide) (by decide)).trans rfl
theorem e_mp:eqD (tx aU') (.str "point")=.ok (.bl false):=(bQ' (a:=aU') (b:=aI') (by decide) (by decide)).trans rfl
theorem e_ml:eqD (tx aU') (.str "line")=.ok (.bl false):=(bQ' (a:=aU') (b:=bv') (by decide) (by decide)).trans rfl
theorem e_mr:eqD (tx aU') (.str "ring")=.ok (.bl false):=(bQ' (a:=aU') (b:=aL') (by decide) (by decide)).trans rfl
theorem e_mm:eqD (tx aU') (.str "meet")=.ok (.bl true):=(bQ' (a:=aU') (b:=aU') (by decide) (by decide)).trans rfl
theorem e_pp:eqD (tx aI') (.str "point")=.ok (.bl true):=(bQ' (a:=aI') (b:=aI') (by decide) (by decide)).trans rfl
theorem mB' {a b:List Nat} (ha:∀c∈a,c < 128) (hb:∀c∈b,c < 128):neD (.str (sT a)) (.str (sT b))=.ok (.bl (!decide (a=b))):=by
 have e:=bQ' ha hb;unfold eqD at e;unfold neD;rw [if_pos ⟨dc' ha,dc' hb⟩] at e ⊢
 cases e':PyData.eqv (toP (.str (sT a))) (toP (.str (sT b))) <;> rw [e'] at e <;> cases e'':decide (a=b) <;> rw [e''] at e <;> first | rfl | cases e
theorem n_by:neD (tx wBy) (.str "by")=.ok (.bl false):=(mB' (a:=wBy) (b:=wBy) (by decide) (by decide)).trans rfl
section
variable {n a b:List Nat} {x y o:D} {r:List D}
theorem n4 (r:List D):¬((((r.length + 1 + 1 + 1 + 1:Nat):Nat):Int) < 4):=by omega
theorem jk' (hn:Nw n) (h:F_qi [.lst (tx aI' :: tx n :: x :: y :: r)]=.ok o):F_qj [.lst (tx aI' :: tx n :: x :: y :: r)]=.ok o:=by
 show outD (b_qj [some (.arg (.lst (tx aI' :: tx n :: x :: y :: r)))])=_;unfold b_qj;push_cast [n4,bA' hn,e_pp,h]
theorem kP' (hn:Nw n) (h:F_qk [.lst (tx bv' :: tx n :: x :: y :: r)]=.ok o):F_qj [.lst (tx bv' :: tx n :: x :: y :: r)]=.ok o:=by
 show outD (b_qj [some (.arg (.lst (tx bv' :: tx n :: x :: y :: r)))])=_;unfold b_qj;push_cast [n4,bA' hn,e_lp,e_ll,h]
theorem hX' (hn:Nw n) (h:F_qm [.lst (tx aL' :: tx n :: x :: y :: r)]=.ok o):F_qj [.lst (tx aL' :: tx n :: x :: y :: r)]=.ok o:=by
 show outD (b_qj [some (.arg (.lst (tx aL' :: tx n :: x :: y :: r)))])=_;unfold b_qj;push_cast [n4,bA' hn,e_rp,e_rl,e_rr,h]
theorem hY' (hn:Nw n) (h:F_ql [.lst (tx aU' :: tx n :: x :: y :: r)]=.ok o):F_qj [.lst (tx aU' :: tx n :: x :: y :: r)]=.ok o:=by
 show outD (b_qj [some (.arg (.lst (tx aU' :: tx n :: x :: y :: r)))])=_;unfold b_qj;push_cast [n4,bA' hn,e_mp,e_ml,e_mr,e_mm,h]
theorem bB' {w:List Nat} {r os vs:List (List Nat)} (h:∀p∈w :: r,32∉p) (hw:w≠[]) (hl:sumL' (w :: r) + (w :: r).length<=1000) (he:F_qj [.lst (txs (w :: r))]=.ok o) (hO:Ob o vs os):∃o,F_qC [tx (J (w :: r))]=.ok o/\Ob o vs os:=by
 refine ⟨o,?_,hO⟩;have sp:=kN' h ⟨w,r,rfl,hw⟩ hl;show outD (b_qC [some (.arg (tx (J (w :: r)))),none])=_;unfold b_qC;have i:isG Bk.is_str (tx (J (w :: r)))=.ok (.bl true):=rfl;have me:methD "str" splitG (slotD 0) (consD (fun _=>.ok (.str " ")) (fun _=>.ok [])) [some (.arg (tx (J (w :: r)))),none]=.ok (.lst (txs (w :: r))):=by
  show (if tyB "str" (tx (J (w :: r)))=true then splitG (tx (J (w :: r))) [.str " "] else .stuck)=_
  rw [if_pos (show tyB "str" (tx (J (w :: r)))=true from rfl),sp]
 push_cast [i,me,he,hO.nn]
end
theorem cN5:((5:Nat):Int)=5:=rfl
theorem Nw.ln {w:List Nat} (h:Nw w):w.length<=6:=h.2.1
section
variable {n a b c f g f' g':List Nat}
theorem cut2 (p q x y:D):cutD (.lst [p,q,x,y]) (some 2) none=.ok (.lst [x,y]):=rfl
theorem mC' (p q x y z:D):cutD (.lst [p,q,x,y,z]) (some 2) (some 4)=.ok (.lst [x,y]):=rfl
theorem ne44:¬((4:Int)≠4):=by decide
theorem s4 {w n a b:List Nat} (hw:w.length<=6) (hn:n.length<=6) (ha:a.length<=200) (hb:b.length<=200):sumL' [w,n,a,b] + [w,n,a,b].length<=1000:=by
 simp [sumL']; omega
theorem s5 {w n a b c:List Nat} (hw:w.length<=6) (hn:n.length<=6) (ha:a.length<=6) (hb:b.length<=6) (hc:c.length<=200):sumL' [w,n,a,b,c] + [w,n,a,b,c].length<=1000:=by
 simp [sumL']; omega
theorem f4 {w n a b:List Nat} (hw:32∉w) (hn:32∉n) (ha:32∉a) (hb:32∉b):∀p∈[w,n,a,b],32∉p:=fun p hp=>by
 simp only [List.mem_cons,List.not_mem_nil,or_false] at hp;rcases hp with rfl | rfl | rfl | rfl <;> assumption
theorem f5 {w n a b c:List Nat} (hw:32∉w) (hn:32∉n) (ha:32∉a) (hb:32∉b) (hc:32∉c):∀p∈[w,n,a,b,c],32∉p:=fun p hp=>by
 simp only [List.mem_cons,List.not_mem_nil,or_false] at hp;rcases hp with rfl | rfl | rfl | rfl | rfl <;> assumption
theorem kQ' (hn:Nw n) (ha:Nw a) (hb:Nw b):∃o,F_qC [tx (J [bv',n,a,b])]=.ok o/\Ob o [bv',n,a,b] [a,b]:=by
 have l:=s4 (w:=bv') (by decide) hn.ln (Nat.le_trans ha.ln (by decide)) (Nat.le_trans hb.ln (by decide));refine bB' (f4 (by decide) hn.sp ha.sp hb.sp) (by decide) l (kP' hn ?_) (gj' (c:="LineThrough") (wd:=.lst [.tup [.str "point"],.tup [.str "point"]]) (ex:=[]) (xs:=[]) rfl rfl rfl rfl l (by simp));show outD (b_qk [some (.arg (.lst [tx bv',tx n,tx a,tx b]))])=_;unfold b_qk;push_cast [cut2,bk' ha hb,jh',cN5,ne44]
theorem kR' (hn:Nw n) (ha:Nw a) (hb:Nw b):∃o,F_qC [tx (J [aL',n,a,b])]=.ok o/\Ob o [aL',n,a,b] [a,b]:=by
 have l:=s4 (w:=aL') (by decide) hn.ln (Nat.le_trans ha.ln (by decide)) (Nat.le_trans hb.ln (by decide));refine bB' (f4 (by decide) hn.sp ha.sp hb.sp) (by decide) l (hX' hn ?_) (gj' (c:="RingThrough") (wd:=.lst [.tup [.str "point"],.tup [.str "point"]]) (ex:=[]) (xs:=[]) rfl rfl rfl rfl l (by simp));show outD (b_qm [some (.arg (.lst [tx aL',tx n,tx a,tx b])),none])=_;unfold b_qm;push_cast [cut2,bk' ha hb,ji',cN5]
theorem kS' (hn:Nw n) (ha:Nw a) (hb:Nw b):∃o,F_qC [tx (J [aU',n,a,b])]=.ok o/\Ob o [aU',n,a,b] [a,b]:=by
 have l:=s4 (w:=aU') (by decide) hn.ln (Nat.le_trans ha.ln (by decide)) (Nat.le_trans hb.ln (by decide));refine bB' (f4 (by decide) hn.sp ha.sp hb.sp) (by decide) l (hY' hn ?_) (gj' (c:="MeetOfLines") (wd:=.lst [.tup [.str "line"],.tup [.str "line"]]) (ex:=[]) (xs:=[]) rfl rfl rfl rfl l (by simp));show outD (b_ql [some (.arg (.lst [tx aU',tx n,tx a,tx b]))])=_;unfold b_ql;push_cast [cut2,bk' ha hb,jj',cN5]
theorem fE' (hn:Nw n) (ha:Nw a) (hb:Nw b) (hc:c=jE'\/c=hU'):∃o,F_qC [tx (J [aU',n,a,b,c])]=.ok o/\Ob o [aU',n,a,b,c] [a,b]:=by
 have lc:c.length<=200:=by rcases hc with rfl | rfl <;> decide
 have sc:(32:Nat)∉c:=by rcases hc with rfl | rfl <;> decide
 have nc:notInS (tx c) (.tup [.str "first",.str "second"])=.ok (.bl false):=by rcases hc with rfl | rfl <;> rfl
 have l:=s5 (w:=aU') (by decide) hn.ln ha.ln hb.ln lc;refine bB' (f5 (by decide) hn.sp ha.sp hb.sp sc) (by decide) l (hY' hn ?_) (gj' (c:="MeetWithRing") (wd:=.lst [.tup [.str "line",.str "ring"],.tup [.str "ring"]]) (ex:=["word"]) (xs:=[tx c]) rfl rfl rfl rfl l (by simp));show outD (b_ql [some (.arg (.lst [tx aU',tx n,tx a,tx b,tx c]))])=_;unfold b_ql;push_cast [mC',bk' ha hb,hV',cN5,nc]
theorem mD' (hn:Nw n) (ha:Nw a) (hf:Fr f g):∃o,F_qC [tx (J [aL',n,a,wBy,f])]=.ok o/\Ob o [aL',n,a,wBy,g] [a]:=by
 have l:=s5 (w:=aL') (b:=wBy) (by decide) hn.ln ha.ln (by decide) hf.ln;have l':=s5 (w:=aL') (b:=wBy) (by decide) hn.ln ha.ln (by decide) hf.lg;obtain ⟨x,h1,h2,h3,h4⟩:=hf.rd;refine bB' (f5 (by decide) hn.sp ha.sp (by decide) hf.sp) (by decide) l (hX' hn ?_) (gj' (c:="RingBy") (wd:=.lst [.tup [.str "point"]]) (ex:=["square"]) (xs:=[x]) rfl rfl rfl rfl l' (by simp));show outD (b_qm [some (.arg (.lst [tx aL',tx n,tx a,tx wBy,tx f])),none])=_;unfold b_qm;push_cast [cN5,bA' ha,n_by,h1,h3,lY' h2 h4]
theorem jl' (hn:Nw n) (hf:Fr f g) (hf':Fr f' g'):∃o,F_qC [tx (J [aI',n,f,f'])]=.ok o/\Ob o [aI',n,g,g'] []:=by
 have l:=s4 (w:=aI') (by decide) hn.ln hf.ln hf'.ln;have l':=s4 (w:=aI') (by decide) hn.ln hf.lg hf'.lg;obtain ⟨x,h1,h2,h3,h4⟩:=hf.rd;obtain ⟨y,k1,k2,k3,k4⟩:=hf'.rd;refine bB' (f4 (by decide) hn.sp hf.sp hf'.sp) (by decide) l (jk' hn ?_) (gj' (c:="FirstPoint") (wd:=.lst []) (ex:=["x", "y"]) (xs:=[x,y]) rfl rfl rfl rfl l' (by simp));show outD (b_qi [some (.arg (.lst [tx aI',tx n,tx f,tx f'])),none,none])=_;unfold b_qi;push_cast [cN5,h1,h3,k1,k3,hW' h2 k2 h4 k4]
end
theorem p200 {n:Nat} (h:n < 10 ^ 60):n < 2 ^ 1000:=Nat.lt_trans h (Nat.lt_of_lt_of_le (show (10:Nat) ^ 60 < 2 ^ 200 by decide) (Nat.pow_le_pow_right (by decide) (by decide)))
theorem jF' (c:Int) {k:Nat} (hk:k<=1000):∃z,F_qy [.int c,.int k]=.ok (.int z):=by
 have m:=fun x=>modI (a:=x) (show (170141183460469231731687303715884105727:Int)≠0 by decide);have a1:=mulI (a:=(k:Int)) (b:=31415926535897932384626433832795028841) (p200 (by omega)) (p200 (by decide));have r0:=Int.fmod_nonneg_of_pos c (b:=170141183460469231731687303715884105727) (by decide);have r1:=Int.fmod_lt_of_pos c (b:=170141183460469231731687303715884105727) (by decide);generalize hC:Int.fmod c 170141183460469231731687303715884105727=C at r0 r1;have a2:=mulI (a:=C + 1) (b:=123457890123456789012345678901234567891 + (k:Int) * 31415926535897932384626433832795028841) (p200 (by omega)) (p200 (by omega));generalize hL:(C + 1) * (123457890123456789012345678901234567891 + (k:Int) * 31415926535897932384626433832795028841)=L at a2;have q0:=Int.fmod_nonneg_of_pos L (b:=170141183460469231731687303715884105727) (by decide);have q1:=Int.fmod_lt_of_pos L (b:=170141183460469231731687303715884105727) (by decide);generalize hM:Int.fmod L 170141183460469231731687303715884105727=M at q0 q1;have a3:=mulI (a:=M) (b:=98767890123456789012345678901234567) (p200 (by omega)) (p200 (by decide));refine ⟨Int.fmod (M * 98767890123456789012345678901234567) 170141183460469231731687303715884105727,?_⟩;show outD (b_qy [some (.arg (.int c)),some (.arg (.int k)),none,none,none])=_;unfold b_qy;push_cast [m,a1,hC,a2,hM,a3]
theorem dU' (ns:List Int) {k:Nat} (hk:k<=1000):∃z,F_qq [.lst (ns.map .int),.int k]=.ok (.int z):=by
 by_cases h:k < ns.length
 ·refine ⟨ns[k],?_⟩;show outD (b_qq [some (.arg (.lst (ns.map .int))),some (.arg (.int k))])=_;unfold b_qq;have h':((k:Int) < (ns.length:Int)):=by omega
  have hz:(ns.map D.int)[k]? = some (.int ns[k]):=by simp [h]
  push_cast [List.length_map,h',cy' _ k _ hz]
 ·obtain ⟨z,e⟩:=jF' 0 hk;refine ⟨z,?_⟩;show outD (b_qq [some (.arg (.lst (ns.map .int))),some (.arg (.int k))])=_;unfold b_qq;have h':¬((k:Int) < (ns.length:Int)):=by omega
  push_cast [List.length_map,h',e]
theorem kT':∀n:Nat,n < 26->ixD (.str "abcdefghijklmnopqrstuvwxyz") (.int (n:Int))=.ok (tx [97 + n])
 | 0,_=>rfl
 | 1,_=>rfl
 | 2,_=>rfl
 | 3,_=>rfl
 | 4,_=>rfl
 | 5,_=>rfl
 | 6,_=>rfl
 | 7,_=>rfl
 | 8,_=>rfl
 | 9,_=>rfl
 | 10,_=>rfl
 | 11,_=>rfl
 | 12,_=>rfl
 | 13,_=>rfl
 | 14,_=>rfl
 | 15,_=>rfl
 | 16,_=>rfl
 | 17,_=>rfl
 | 18,_=>rfl
 | 19,_=>rfl
 | 20,_=>rfl
 | 21,_=>rfl
 | 22,_=>rfl
 | 23,_=>rfl
 | 24,_=>rfl
 | 25,_=>rfl
 | n + 26,h=>absurd h (by omega)
theorem letter {i:Int} (h0:0<=i) (h1:i < 26):∃c,(97<=c/\c<=122)/\ixD (.str "abcdefghijklmnopqrstuvwxyz") (.int i)=.ok (tx [c]):=by
 obtain ⟨n,rfl⟩:=Int.eq_ofNat_of_zero_le h0;exact ⟨97 + n,by omega,kT' n (by omega)⟩
theorem kU' (m:Nat):Str.ofString (toString (Int.negSucc m))=sT (45 :: dg (m + 1)):=by
 have e:toString (Int.negSucc m) = "-" ++ Nat.repr (m + 1):=rfl;have h:=hI' (m + 1);have e2:toString (((m + 1:Nat):Nat):Int)=Nat.repr (m + 1):=rfl;rw [e2,Str.ofString_eq_toList] at h;have h':=congrArg (fun z:Str=>z.cps.toList) h;rw [e,Str.ofString_eq_toList];refine cQ' ?_;simp only [String.toList_append] at h' ⊢;simp at h' ⊢;exact h'
theorem str_int {T:Int} (h:T.natAbs < 10 ^ 60):strG [.int T]=.ok (tx (signT T ++ dg T.natAbs)):=by
 cases T with
 | ofNat n =>
  have h':n < 10 ^ 60:=h;have e:signT (Int.ofNat n) ++ dg (Int.ofNat n).natAbs=dg n:=by unfold signT; rw [if_neg (by simp)]; rfl
  rw [e]; exact hS' h'
 | negSucc m =>
  have h':m + 1 < 10 ^ 60:=h;have e:signT (Int.negSucc m) ++ dg (Int.negSucc m).natAbs=45 :: dg (m + 1):=by unfold signT; rw [if_pos (by omega)]; rfl
  rw [e];have hl:((Int.negSucc m).natAbs).log2 < 1920:=by
   show (m + 1).log2 < 1920;have:(10:Nat) ^ 60 < 2 ^ 200:=by decide
   exact Nat.lt_of_lt_of_le ((Nat.log2_lt (by omega)).mpr (Nat.lt_trans h' this)) (by decide)
  show (if ((Int.negSucc m).natAbs).log2 < 1920 then Res.ok (D.str (Str.ofString (toString (Int.negSucc m)))) else .stuck)=_
  rw [if_pos hl,kU']
noncomputable def lowO (b:Nat):Option Nat:=if b=1 then none else some b
theorem kV' (b:Nat):botT (lowO b)=b:=by unfold lowO; split <;> simp_all [botT]
theorem jm' (n b:Nat):dg n ++ tailT b=bodyT n (lowO b):=by unfold tailT lowO; split <;> simp [bodyT]
noncomputable def vN (neg:Bool) (t:Nat):Int:=if neg=true then -(t:Int) else (t:Int)
theorem jG' (neg:Bool) (t:Nat):(vN neg t).natAbs=t:=by unfold vN; split <;> omega
theorem lZ' {neg:Bool} {t:Nat} (h:neg=true->t≠0) (l:List Nat):signT (vN neg t) ++ l=if neg=true then 45 :: l else l:=by
 unfold signT vN
 cases neg with
 | true=>have:=h rfl; simp only [if_true]; rw [if_pos (by omega)]; rfl
 | false=>simp only [Bool.false_eq_true,if_false]; rw [if_neg (by omega)]; rfl
theorem kW' {neg:Bool} {g t b:Nat} {o:Option Nat} (ht:g * t < 10 ^ 60) (hb:g * b < 10 ^ 60) (hbo:botT o=g * b) (cop:Nat.gcd t b=1) (g0:0 < g) (b0:b≠0) :
  F_qh [tx (fullT neg (g * t) o)]=.ok (num [vN neg t] (b:Int)):=by
 have n0:g * b≠0:=Nat.mul_ne_zero (by omega) b0;have h:=kK' (neg:=neg) (n:=g * t) (o:=o) ht (by rw [hbo]; exact hb) (by rw [hbo]; exact n0);have hcm:cm ((g * t:Nat):Int) ((botT o:Nat):Int)=(g:Int):=by
  rw [hbo]; unfold cm; simp only [Int.gcd,Int.natAbs_natCast]; rw [Nat.gcd_mul_left,cop,Nat.mul_one]
 have gi:(g:Int)≠0:=by omega
 rw [h,hcm,hbo];have e1:Int.fdiv ((g * b:Nat):Int) (g:Int)=(b:Int):=by rw [Int.natCast_mul,cm' _ _ gi]
 have e2:Int.fdiv (if neg=true then -((g * t:Nat):Int) else ((g * t:Nat):Int)) (g:Int)=vN neg t:=by
  unfold vN
  cases neg with
  | true=>simp only [if_true]; rw [Int.natCast_mul,<- Int.mul_neg,cm' _ _ gi]
  | false=>simp only [Bool.false_eq_true,if_false]; rw [Int.natCast_mul,cm' _ _ gi]
 rw [e1,e2]
theorem or_none {f:List Nat} {x:D} (h:F_qh [tx f]=.ok x):F_qb [tx f]=.ok x:=by
 have e:retD (bindF (consD (slotD 0) (fun _=>.ok [])) F_qh) [some (.arg (tx f))]=.ret x:=by push_cast [h]
 show outD (tryNo (retD (bindF (consD (slotD 0) (fun _=>.ok [])) F_qh)) [some (.arg (tx f))])=_;unfold tryNo;rw [e]; rfl
theorem fF' {neg:Bool} {n:Nat} {o:Option Nat} (hn:n < 10 ^ 60) (ho:botT o < 10 ^ 60):(fullT neg n o).length<=200:=by
 have l1:=bt' n 60 (by decide) hn;have lb:(bodyT n o).length<=121:=by
  cases o with
  | none=>show (dg n).length<=121; omega
  | some b =>
   have:=bt' b 60 (by decide) ho;show (dg n ++ 47 :: dg b).length<=121;simp; omega
 unfold fullT; split <;> simp <;> omega
theorem kX' {neg:Bool} {n:Nat} {o:Option Nat}:∀c∈fullT neg n o,45<=c/\c<=57:=fun c hc=>by
 have hb:∀c∈bodyT n o,45<=c/\c<=57:=fun c hc=>by
  cases o with
  | none=>have:=bb' n c hc; omega
  | some b =>
   have hc':c∈dg n ++ 47 :: dg b:=hc;rcases List.mem_append.mp hc' with q | q
   ·have:=bb' n c q; omega
   ·rcases List.mem_cons.mp q with q | q
    ·omega
    ·have:=bb' b c q; omega
 unfold fullT at hc
 split at hc
 ·rcases List.mem_cons.mp hc with q | q
  ·omega
  ·exact hb c q
 ·exact hb c hc
theorem ma' {neg:Bool} {g t b:Nat} {o:Option Nat} (hn:neg=true->t≠0) (ht:g * t < 10 ^ 60) (hb:g * b < 10 ^ 60) (hbo:botT o=g * b) (cop:Nat.gcd t b=1) (g0:0 < g) (b0:b≠0) :
  Fr (fullT neg (g * t) o) (fullT neg t (lowO b)):=by
 have t6:t < 10 ^ 60:=Nat.lt_of_le_of_lt (Nat.le_mul_of_pos_left _ g0) ht;have b6:b < 10 ^ 60:=Nat.lt_of_le_of_lt (Nat.le_mul_of_pos_left _ g0) hb;refine ⟨⟨num [vN neg t] (b:Int),or_none (kW' ht hb hbo cop g0 b0),?_,rfl,rfl⟩,fun h=>by have:=kX' 32 h; omega,fF' ht (by rw [hbo]; exact hb),fF' t6 (by rw [kV']; exact b6)⟩;rw [kJ' (by rw [jG']; exact t6) b6,jG',List.append_assoc,lZ' hn,jm']; rfl
theorem kY' {n:Nat} (h:n < 10 ^ 60):n < 2 ^ 8000:=Nat.lt_of_lt_of_le (p200 h) (Nat.pow_le_pow_right (by decide) (by decide))
theorem low {n B:Nat} (hB:B≠0):∃g t b,0 < g/\n=g * t/\B=g * b/\Nat.gcd t b=1/\b≠0:=by
 have gpos:0 < Nat.gcd n B:=Nat.gcd_pos_of_pos_right _ (by omega);obtain ⟨t,ht⟩:=Nat.gcd_dvd_left n B;obtain ⟨b,hb⟩:=Nat.gcd_dvd_right n B;refine ⟨Nat.gcd n B,t,b,gpos,ht,hb,?_,?_⟩
 ·have h:=Nat.gcd_mul_left (Nat.gcd n B) t b;rw [<- ht,<- hb] at h;exact Nat.eq_of_mul_eq_mul_left gpos (by omega)
 ·intro z; rw [z,Nat.mul_zero] at hb; exact hB hb
structure R3 where
 nm:List Nat
 os:List (List Nat)
 w:List Nat
structure Good (r:R3):Prop where
 n:Nw r.nm
 o:∀w∈r.os,Nw w
 le:r.os.length<=2
 sm:∀c∈r.w,c < 128
 st:∃o ws,F_qC [tx r.w]=.ok o/\Ob o ws r.os/\ws.getD 1 []=r.nm
abbrev rowD (r:R3):D:=.lst [tx r.nm,.lst (txs r.os),tx r.w]
theorem sm_J {ws:List (List Nat)} (h:∀w∈ws,∀c∈w,c < 128):∀c∈J ws,c < 128:=fun c hc=>by
 cases ws with
 | nil=>cases hc
 | cons w r =>
  rw [J] at hc;rcases List.mem_append.mp hc with q | q
  ·exact h w (by simp) c q
  ·obtain ⟨p,hp,hq⟩:=List.mem_flatMap.mp q;rcases List.mem_cons.mp hq with z | z
   ·omega
   ·exact h p (by simp [hp]) c z
theorem gk':("point " : Str)=sT (aI' ++ [32]):=rfl
theorem hZ':("ring " : Str)=sT (aL' ++ [32]):=rfl
theorem kZ':(" by " : Str)=sT ([32] ++ wBy ++ [32]):=rfl
theorem mb':(" 4/2" : Str)=sT ([32] ++ [52,47,50]):=rfl
theorem mE':∃g,Fr [52,47,50] g:=by
 have h:=ma' (neg:=false) (g:=2) (t:=2) (b:=1) (o:=some 2) (fun z=>nomatch z) (by decide) (by decide) rfl rfl (by decide) (by decide);have e:fullT false (2 * 2) (some 2)=[52,47,50]:=by
  show dg 4 ++ 47 :: dg 2=_;rw [eD' (by decide),eD' (by decide)]; rfl
 rw [e] at h;exact ⟨_,h⟩
theorem mc' {T:Int} {B:Nat} (hT:T.natAbs < 10 ^ 60) (hB:B < 10 ^ 60) (hB0:B≠0):∃g,Fr (signT T ++ dg T.natAbs ++ [47] ++ dg B) g:=by
 obtain ⟨g,t,b,g0,ht,hb,cop,b0⟩:=low (n:=T.natAbs) hB0;have hn:decide (T < 0)=true->t≠0:=fun q z=>by rw [z,Nat.mul_zero] at ht; have:=_root_.of_decide_eq_true q; omega
 have h:=ma' (neg:=decide (T < 0)) (o:=some B) hn (by rw [<- ht]; exact hT) (by rw [<- hb]; exact hB) hb cop g0 b0;have e:fullT (decide (T < 0)) (g * t) (some B)=signT T ++ dg T.natAbs ++ [47] ++ dg B:=by
  rw [<- ht]; unfold fullT signT
  by_cases q:T < 0
  ·rw [decide_eq_true q,if_pos rfl,if_pos q]; simp [bodyT]
  ·rw [decide_eq_false q,if_neg Bool.false_ne_true,if_neg q]; simp [bodyT]
 rw [e] at h;exact ⟨_,h⟩
theorem sm_f {T:Int} {B:Nat}:∀c∈signT T ++ dg T.natAbs ++ [47] ++ dg B,c < 128:=fun c hc=>by
 simp only [List.mem_append,List.mem_singleton] at hc;rcases hc with ((q | q) | q) | q
 ·unfold signT at q; split at q
  ·rw [List.mem_singleton.mp q]; decide
  ·cases q
 ·exact bz' _ c q
 ·omega
 ·exact bz' _ c q
abbrev rst (cs:D) (z0 rm kd:Int) (w0 w1 w2 f:List Nat):DS:=[some (.arg cs),some (.val (.int z0)),some (.val (.str "abcdefghijklmnopqrstuvwxyz")),some (.val (.int rm)),some (.val (.lst [tx w0,tx w1,tx w2])),some (.val (tx f)),some (.val (.int kd)),none,none]
theorem mF' (p q x:D):cutD (.lst [p,q,x]) (some 1) (some 2)=.ok (.lst [q]):=rfl
theorem mG' (p q x:D):cutD (.lst [p,q,x]) (some 1) none=.ok (.lst [q,x]):=rfl
section
variable {cs:D} {z0 rm:Int} {w0 w1 w2 f:List Nat}
theorem mH' (h0:Nw w0) {g:List Nat} (hf:Fr f g) (hs:∀c∈f,c < 128):∃r,Good r/\(seqD (ifS (bindT (two (slotD 6) (fun _=>.ok (.int 0)) eqD) boolD) (retD (lstF (consD (two (slotD 4) (fun _=>.ok (.int 0)) ixD) (consD (lstF (fun _=>.ok [])) (consD (two (two (two (two (fun _=>.ok (.str "point ")) (two (slotD 4) (fun _=>.ok (.int 0)) ixD) addD) (fun _=>.ok (.str " ")) addD) (slotD 5) addD) (fun _=>.ok (.str " 4/2")) addD) (fun _=>.ok [])))))) Out.nxt) (seqD (ifS (bindT (two (slotD 6) (fun _=>.ok (.int 1)) eqD) boolD) (retD (lstF (consD (two (slotD 4) (fun _=>.ok (.int 0)) ixD) (consD (sliceF (slotD 4) (partF (fun _=>.ok (.int 1))) (partF (fun _=>.ok (.int 2)))) (consD (two (two (two (two (two (fun _=>.ok (.str "ring ")) (two (slotD 4) (fun _=>.ok (.int 0)) ixD) addD) (fun _=>.ok (.str " ")) addD) (two (slotD 4) (fun _=>.ok (.int 1)) ixD) addD) (fun _=>.ok (.str " by ")) addD) (slotD 5) addD) (fun _=>.ok [])))))) Out.nxt) (seqD (setD 7 (two (lstF (consD (fun _=>.ok (.str "line")) (consD (fun _=>.ok (.str "ring")) (consD (fun _=>.ok (.str "meet")) (consD (fun _=>.ok (.str "meet")) (consD (fun _=>.ok (.str "meet")) (fun _=>.ok []))))))) (two (slotD 6) (fun _=>.ok (.int 2)) subD) ixD)) (seqD (setD 8 (two (lstF (consD (fun _=>.ok (.str "")) (consD (fun _=>.ok (.str "")) (consD (fun _=>.ok (.str "")) (consD (fun _=>.ok (.str " first")) (consD (fun _=>.ok (.str " second")) (fun _=>.ok []))))))) (two (slotD 6) (fun _=>.ok (.int 2)) subD) ixD)) (retD (lstF (consD (two (slotD 4) (fun _=>.ok (.int 0)) ixD) (consD (sliceF (slotD 4) (partF (fun _=>.ok (.int 1))) noPart) (consD (two (two (two (slotD 7) (fun _=>.ok (.str " ")) addD) (methD "str" joinG (fun _=>.ok (.str " ")) (consD (slotD 4) (fun _=>.ok []))) addD) (slotD 8) addD) (fun _=>.ok [])))))))))) (rst cs z0 rm 0 w0 w1 w2 f)=.ret (rowD r):=by
 obtain ⟨g',h'⟩:=mE';obtain ⟨o,e,O⟩:=jl' h0 hf h';refine ⟨⟨w0,[],J [aI',w0,f,[52,47,50]]⟩,⟨h0,fun w hw=>(by cases hw),by simp,sm_J (ws:=[aI',w0,f,[52,47,50]]) fun p hp=>?_,⟨o,_,e,O,rfl⟩⟩,?_⟩
 ·simp only [List.mem_cons,List.not_mem_nil,or_false] at hp;rcases hp with rfl | rfl | rfl | rfl
  ·decide
  ·exact h0.small
  ·exact hs
  ·decide
 ·have l0:=h0.ln;have lf:=hf.ln;have e1:J [aI',w0,f,[52,47,50]]=aI' ++ [32] ++ w0 ++ [32] ++ f ++ ([32] ++ [52,47,50]):=by simp [J]
  have a1:=aK' (a:=aI' ++ [32]) (b:=w0) (by simp; omega);have a2:=aK' (a:=aI' ++ [32] ++ w0) (b:=[32]) (by simp; omega);have a3:=aK' (a:=aI' ++ [32] ++ w0 ++ [32]) (b:=f) (by simp; omega);have a4:=aK' (a:=aI' ++ [32] ++ w0 ++ [32] ++ f) (b:=[32] ++ [52,47,50]) (by simp; omega);unfold rst rowD;dsimp only;rw [e1];push_cast [gk',dr',mb',a1,a2,a3,a4];rfl
theorem mI' (h0:Nw w0) (h1:Nw w1) {g:List Nat} (hf:Fr f g) (hs:∀c∈f,c < 128):∃r,Good r/\(seqD (ifS (bindT (two (slotD 6) (fun _=>.ok (.int 0)) eqD) boolD) (retD (lstF (consD (two (slotD 4) (fun _=>.ok (.int 0)) ixD) (consD (lstF (fun _=>.ok [])) (consD (two (two (two (two (fun _=>.ok (.str "point ")) (two (slotD 4) (fun _=>.ok (.int 0)) ixD) addD) (fun _=>.ok (.str " ")) addD) (slotD 5) addD) (fun _=>.ok (.str " 4/2")) addD) (fun _=>.ok [])))))) Out.nxt) (seqD (ifS (bindT (two (slotD 6) (fun _=>.ok (.int 1)) eqD) boolD) (retD (lstF (consD (two (slotD 4) (fun _=>.ok (.int 0)) ixD) (consD (sliceF (slotD 4) (partF (fun _=>.ok (.int 1))) (partF (fun _=>.ok (.int 2)))) (consD (two (two (two (two (two (fun _=>.ok (.str "ring ")) (two (slotD 4) (fun _=>.ok (.int 0)) ixD) addD) (fun _=>.ok (.str " ")) addD) (two (slotD 4) (fun _=>.ok (.int 1)) ixD) addD) (fun _=>.ok (.str " by ")) addD) (slotD 5) addD) (fun _=>.ok [])))))) Out.nxt) (seqD (setD 7 (two (lstF (consD (fun _=>.ok (.str "line")) (consD (fun _=>.ok (.str "ring")) (consD (fun _=>.ok (.str "meet")) (consD (fun _=>.ok (.str "meet")) (consD (fun _=>.ok (.str "meet")) (fun _=>.ok []))))))) (two (slotD 6) (fun _=>.ok (.int 2)) subD) ixD)) (seqD (setD 8 (two (lstF (consD (fun _=>.ok (.str "")) (consD (fun _=>.ok (.str "")) (consD (fun _=>.ok (.str "")) (consD (fun _=>.ok (.str " first")) (consD (fun _=>.ok (.str " second")) (fun _=>.ok []))))))) (two (slotD 6) (fun _=>.ok (.int 2)) subD) ixD)) (retD (lstF (consD (two (slotD 4) (fun _=>.ok (.int 0)) ixD) (consD (sliceF (slotD 4) (partF (fun _=>.ok (.int 1))) noPart) (consD (two (two (two (slotD 7) (fun _=>.ok (.str " ")) addD) (methD "str" joinG (fun _=>.ok (.str " ")) (consD (slotD 4) (fun _=>.ok []))) addD) (slotD 8) addD) (fun _=>.ok [])))))))))) (rst cs z0 rm 1 w0 w1 w2 f)=.ret (rowD r):=by
 obtain ⟨o,e,O⟩:=mD' h0 h1 hf;refine ⟨⟨w0,[w1],J [aL',w0,w1,wBy,f]⟩,⟨h0,fun w hw=>(by rw [List.mem_singleton.mp hw]; exact h1),by simp,sm_J (ws:=[aL',w0,w1,wBy,f]) fun p hp=>?_,⟨o,_,e,O,rfl⟩⟩,?_⟩
 ·simp only [List.mem_cons,List.not_mem_nil,or_false] at hp;rcases hp with rfl | rfl | rfl | rfl | rfl
  ·decide
  ·exact h0.small
  ·exact h1.small
  ·decide
  ·exact hs
 ·have l0:=h0.ln;have l1:=h1.ln;have lf:=hf.ln;have e1:J [aL',w0,w1,wBy,f]=aL' ++ [32] ++ w0 ++ [32] ++ w1 ++ ([32] ++ wBy ++ [32]) ++ f:=by simp [J]
  have a1:=aK' (a:=aL' ++ [32]) (b:=w0) (by simp; omega);have a2:=aK' (a:=aL' ++ [32] ++ w0) (b:=[32]) (by simp; omega);have a3:=aK' (a:=aL' ++ [32] ++ w0 ++ [32]) (b:=w1) (by simp; omega);have a4:=aK' (a:=aL' ++ [32] ++ w0 ++ [32] ++ w1) (b:=[32] ++ wBy ++ [32]) (by simp; omega);have a5:=aK' (a:=aL' ++ [32] ++ w0 ++ [32] ++ w1 ++ ([32] ++ wBy ++ [32])) (b:=f) (by simp; omega);unfold rst rowD;dsimp only;rw [e1];push_cast [hZ',dr',kZ',a1,a2,a3,a4,a5,mF'];rfl
theorem ia' {kd:Int} {wd tl:List Nat} {x y:Str} (hx:x=sT wd) (hy:y=sT tl) (hk:kd≠0/\kd≠1) (h0:Nw w0) (h1:Nw w1) (h2:Nw w2) (lw:wd.length<=6) (lt':tl.length<=8) (sw:∀c∈wd ++ tl,c < 128)
  (ix:ixD (.lst [.str "line",.str "ring",.str "meet",.str "meet",.str "meet"]) (.int (kd - 2))=.ok (.str x)) (iy:ixD (.lst [.str "",.str "",.str "",.str " first",.str " second"]) (.int (kd - 2))=.ok (.str y))
  (go:∃o ws,F_qC [tx (J [wd,w0,w1,w2] ++ tl)]=.ok o/\Ob o ws [w1,w2]/\ws.getD 1 []=w0):∃r,Good r/\(seqD (ifS (bindT (two (slotD 6) (fun _=>.ok (.int 0)) eqD) boolD) (retD (lstF (consD (two (slotD 4) (fun _=>.ok (.int 0)) ixD) (consD (lstF (fun _=>.ok [])) (consD (two (two (two (two (fun _=>.ok (.str "point ")) (two (slotD 4) (fun _=>.ok (.int 0)) ixD) addD) (fun _=>.ok (.str " ")) addD) (slotD 5) addD) (fun _=>.ok (.str " 4/2")) addD) (fun _=>.ok [])))))) Out.nxt) (seqD (ifS (bindT (two (slotD 6) (fun _=>.ok (.int 1)) eqD) boolD) (retD (lstF (consD (two (slotD 4) (fun _=>.ok (.int 0)) ixD) (consD (sliceF (slotD 4) (partF (fun _=>.ok (.int 1))) (partF (fun _=>.ok (.int 2)))) (consD (two (two (two (two (two (fun _=>.ok (.str "ring ")) (two (slotD 4) (fun _=>.ok (.int 0)) ixD) addD) (fun _=>.ok (.str " ")) addD) (two (slotD 4) (fun _=>.ok (.int 1)) ixD) addD) (fun _=>.ok (.str " by ")) addD) (slotD 5) addD) (fun _=>.ok [])))))) Out.nxt) (seqD (setD 7 (two (lstF (consD (fun _=>.ok (.str "line")) (consD (fun _=>.ok (.str "ring")) (consD (fun _=>.ok (.str "meet")) (consD (fun _=>.ok (.str "meet")) (consD (fun _=>.ok (.str "meet")) (fun _=>.ok []))))))) (two (slotD 6) (fun _=>.ok (.int 2)) subD) ixD)) (seqD (setD 8 (two (lstF (consD (fun _=>.ok (.str "")) (consD (fun _=>.ok (.str "")) (consD (fun _=>.ok (.str "")) (consD (fun _=>.ok (.str " first")) (consD (fun _=>.ok (.str " second")) (fun _=>.ok []))))))) (two (slotD 6) (fun _=>.ok (.int 2)) subD) ixD)) (retD (lstF (consD (two (slotD 4) (fun _=>.ok (.int 0)) ixD) (consD (sliceF (slotD 4) (partF (fun _=>.ok (.int 1))) noPart) (consD (two (two (two (slotD 7) (fun _=>.ok (.str " ")) addD) (methD "str" joinG (fun _=>.ok (.str " ")) (consD (slotD 4) (fun _=>.ok []))) addD) (slotD 8) addD) (fun _=>.ok [])))))))))) (rst cs z0 rm kd w0 w1 w2 f)=.ret (rowD r):=by
 refine ⟨⟨w0,[w1,w2],J [wd,w0,w1,w2] ++ tl⟩,⟨h0,fun w hw=>?_,by simp,fun c hc=>?_,go⟩,?_⟩
 ·simp only [List.mem_cons,List.not_mem_nil,or_false] at hw;rcases hw with rfl | rfl <;> assumption
 ·rcases List.mem_append.mp hc with q | q
  ·refine sm_J (fun p hp=>?_) c q;simp only [List.mem_cons,List.not_mem_nil,or_false] at hp;rcases hp with rfl | rfl | rfl | rfl
   ·exact fun c hc=>sw c (List.mem_append.mpr (.inl hc))
   ·exact h0.small
   ·exact h1.small
   ·exact h2.small
  ·exact sw c (List.mem_append.mpr (.inr q))
 ·have l0:=h0.ln;have l1:=h1.ln;have l2:=h2.ln;have jn:joinG (.str " ") [.lst [tx w0,tx w1,tx w2]]=.ok (tx (J [w0,w1,w2])):=lW' (ws:=[w0,w1,w2]) (by simp) (by simp [sumL']; omega);have e1:J [wd,w0,w1,w2]=wd ++ [32] ++ J [w0,w1,w2]:=by simp [J]
  have lj:(J [w0,w1,w2]).length<=21:=by have:=lV' [w0,w1,w2]; simp [sumL'] at this; omega
  have a1:=aK' (a:=wd) (b:=[32]) (by simp; omega);have a2:=aK' (a:=wd ++ [32]) (b:=J [w0,w1,w2]) (by simp; omega);have a3:=aK' (a:=wd ++ [32] ++ J [w0,w1,w2]) (b:=tl) (by simp; omega);have me:∀s7 s8,methD "str" joinG (fun _=>.ok (.str (sT [32]))) (consD (slotD 4) (fun _=>.ok [])) [some (.arg cs),some (.val (.int z0)),some (.val (.str "abcdefghijklmnopqrstuvwxyz")),some (.val (.int rm)),some (.val (.lst [tx w0,tx w1,tx w2])),some (.val (tx f)),some (.val (.int kd)),some s7,some s8]=.ok (tx (J [w0,w1,w2])):=fun s7 s8=>by
   show (if tyB "str" (.str (sT [32]))=true then joinG (.str (sT [32])) [.lst [tx w0,tx w1,tx w2]] else .stuck)=_
   rw [if_pos (show tyB "str" (.str (sT [32]))=true from rfl),<- dr',jn]
  rw [hx] at ix;rw [hy] at iy;unfold rst rowD;dsimp only;rw [e1];push_cast [hk.1,hk.2,ix,iy,me,mG',a1,a2,a3,dr'];rfl
end
theorem eH' (wd a b c tl:List Nat):J [wd,a,b,c] ++ ([32] ++ tl)=J [wd,a,b,c,tl]:=by simp [J]
theorem mJ' (ns:List Int):∃r,Good r/\F_qB [.lst (ns.map .int)]=.ok (rowD r):=by
 obtain ⟨z0,c0⟩:=dU' ns (k:=0) (by decide);obtain ⟨z1,c1⟩:=dU' ns (k:=1) (by decide);have m7:=fun x=>modI (a:=x) (show (7:Int)≠0 by decide);have m2:=fun x=>modI (a:=x) (show (2:Int)≠0 by decide);have m19:=fun x=>modI (a:=x) (show (19:Int)≠0 by decide);have m5:=fun x=>modI (a:=x) (show (5:Int)≠0 by decide);have d7:=fun x=>iV' (a:=x) (show (7:Int)≠0 by decide) (kY' (by decide));have d14:=fun x=>iV' (a:=x) (show (14:Int)≠0 by decide) (kY' (by decide));generalize D.lst (ns.map .int)=cs at *;have c0:F_qq [cs,.int 0]=_:=c0;have c1:F_qq [cs,.int 1]=_:=c1;have q0:=Int.fmod_nonneg_of_pos (Int.fdiv z0 7) (b:=2) (by decide);have q1:=Int.fmod_lt_of_pos (Int.fdiv z0 7) (b:=2) (by decide);have hrm:∃rm:Int,0 < rm/\rm<=26/\ixD (.lst [.int 4,.int 26]) (.int (Int.fmod (Int.fdiv z0 7) 2))=.ok (.int rm):=by
  have:Int.fmod (Int.fdiv z0 7) 2=0\/Int.fmod (Int.fdiv z0 7) 2=1:=by omega
  rcases this with h | h
  ·exact ⟨4,by decide,by decide,by rw [h]; rfl⟩
  ·exact ⟨26,by decide,by decide,by rw [h]; rfl⟩
 obtain ⟨rm,rm0,rm1,hrm⟩:=hrm;have mr:=fun x=>modI (a:=x) (show rm≠0 by omega);have el:∀(k dv:Int),0 < dv->dv < 1000->ixD (.lst [.int 1,.int 26,.int 676]) (.int k)=.ok (.int dv)->∃w,Nw w/\eltD (tgtN 0) (two (slotD 1) (two (two (bindF (consD (slotD 3) (consD (fun _=>.ok (.int 1)) (fun _=>.ok []))) F_qq) (two (lstF (consD (fun _=>.ok (.int 1)) (consD (fun _=>.ok (.int 26)) (consD (fun _=>.ok (.int 676)) (fun _=>.ok []))))) (slotD 0) ixD) fdivD) (slotD 2) modD) ixD) [none,some (.arg (.str "abcdefghijklmnopqrstuvwxyz")),some (.arg (.int rm)),some (.arg cs)] (.int k)=.ok (tx w):=fun k dv h0 h1 hi=>by
  have dd:=fun x=>iV' (a:=x) (show dv≠0 by omega) (kY' (by omega));have r0:=Int.fmod_nonneg_of_pos (Int.fdiv z1 dv) rm0;have r1:=Int.fmod_lt_of_pos (Int.fdiv z1 dv) rm0;obtain ⟨c,hc,e⟩:=letter r0 (by omega);refine ⟨[c],⟨by simp,by simp,fun x hx=>by rw [List.mem_singleton.mp hx]; exact hc⟩,?_⟩;show (match (two (slotD 1) (two (two (bindF (consD (slotD 3) (consD (fun _=>.ok (.int 1)) (fun _=>.ok []))) F_qq) (two (lstF (consD (fun _=>.ok (.int 1)) (consD (fun _=>.ok (.int 26)) (consD (fun _=>.ok (.int 676)) (fun _=>.ok []))))) (slotD 0) ixD) fdivD) (slotD 2) modD) ixD) [some (.val (.int k)),some (.arg (.str "abcdefghijklmnopqrstuvwxyz")),some (.arg (.int rm)),some (.arg cs)] with | .ok z=>Res.ok z | _=>.stuck)=_
  push_cast [c1,hi,dd,mr,e]
 obtain ⟨w0,h0,e0⟩:=el 0 1 (by decide) (by decide) rfl;obtain ⟨w1,h1,e1⟩:=el 1 26 (by decide) (by decide) rfl;obtain ⟨w2,h2,e2⟩:=el 2 676 (by decide) (by decide) rfl;have cp:(compD 1 [2,3,0] (tgtN 0) (two (slotD 1) (two (two (bindF (consD (slotD 3) (consD (fun _=>.ok (.int 1)) (fun _=>.ok []))) F_qq) (two (lstF (consD (fun _=>.ok (.int 1)) (consD (fun _=>.ok (.int 26)) (consD (fun _=>.ok (.int 676)) (fun _=>.ok []))))) (slotD 0) ixD) fdivD) (slotD 2) modD) ixD) (bindRg (consD (fun _=>.ok (.int 3)) (fun _=>.ok [])) rng1)) [some (.arg cs),some (.val (.int z0)),some (.val (.str "abcdefghijklmnopqrstuvwxyz")),some (.val (.int rm)),none,none,none,none,none]=.ok (.lst [tx w0,tx w1,tx w2]):=by
  unfold compD;have hi:bindRg (consD (fun _=>.ok (.int 3)) (fun _=>.ok [])) rng1 [some (.arg cs),some (.val (.int z0)),some (.val (.str "abcdefghijklmnopqrstuvwxyz")),some (.val (.int rm)),none,none,none,none,none]=.ok [.int 0,.int 1,.int 2]:=rfl;have hc:compS 1 [2,3,0] [some (.arg cs),some (.val (.int z0)),some (.val (.str "abcdefghijklmnopqrstuvwxyz")),some (.val (.int rm)),none,none,none,none,none]=[none,some (.arg (.str "abcdefghijklmnopqrstuvwxyz")),some (.arg (.int rm)),some (.arg cs)]:=rfl;rw [hi,Res.bind_ok,hc,mapR,e0,Res.bind_ok,mapR,e1,Res.bind_ok,mapR,e2,Res.bind_ok];rfl
 have t0:=Int.fmod_nonneg_of_pos (Int.fdiv z0 14) (b:=19) (by decide);have t1:=Int.fmod_lt_of_pos (Int.fdiv z0 14) (b:=19) (by decide);have b0:=Int.fmod_nonneg_of_pos (Int.fdiv z0 14) (b:=5) (by decide);have b1:=Int.fmod_lt_of_pos (Int.fdiv z0 14) (b:=5) (by decide);generalize hT:Int.fmod (Int.fdiv z0 14) 19 - 9=T;obtain ⟨B,hB⟩:=Int.eq_ofNat_of_zero_le (show 0<=1 + Int.fmod (Int.fdiv z0 14) 5 by omega);have hB:1 + Int.fmod (Int.fdiv z0 14) 5=(B:Int):=hB;have T6:T.natAbs < 10 ^ 1:=by omega
 have B6:B < 10 ^ 1:=by omega
 have T60:T.natAbs < 10 ^ 60:=by omega
 have B60:B < 10 ^ 60:=by omega
 obtain ⟨g,hf⟩:=mc' T60 B60 (by omega);have si:=str_int T60;have sb:=hS' B60;have l1:=bt' T.natAbs 1 (by decide) T6;have l2:=bt' B 1 (by decide) B6;have ls:(signT T).length<=1:=by unfold signT; split <;> decide
 have a1:=aK' (a:=signT T ++ dg T.natAbs) (b:=[47]) (by simp; omega);have a2:=aK' (a:=signT T ++ dg T.natAbs ++ [47]) (b:=dg B) (by simp; omega);have hs:∀c∈signT T ++ dg T.natAbs ++ [47] ++ dg B,c < 128:=sm_f;generalize signT T ++ dg T.natAbs ++ [47] ++ dg B=f at hf hs a2;have pre:∀fz:DS->Out,(seqD (setD 1 (bindF (consD (slotD 0) (consD (fun _=>.ok (.int 0)) (fun _=>.ok []))) F_qq)) (seqD (setD 2 (fun _=>.ok (.str "abcdefghijklmnopqrstuvwxyz"))) (seqD (setD 3 (two (lstF (consD (fun _=>.ok (.int 4)) (consD (fun _=>.ok (.int 26)) (fun _=>.ok [])))) (two (two (slotD 1) (fun _=>.ok (.int 7)) fdivD) (fun _=>.ok (.int 2)) modD) ixD)) (seqD (setD 4 (compD 1 [2,3,0] (tgtN 0) (two (slotD 1) (two (two (bindF (consD (slotD 3) (consD (fun _=>.ok (.int 1)) (fun _=>.ok []))) F_qq) (two (lstF (consD (fun _=>.ok (.int 1)) (consD (fun _=>.ok (.int 26)) (consD (fun _=>.ok (.int 676)) (fun _=>.ok []))))) (slotD 0) ixD) fdivD) (slotD 2) modD) ixD) (bindRg (consD (fun _=>.ok (.int 3)) (fun _=>.ok [])) rng1))) (seqD (setD 5 (two (two (bindF (consD (two (two (two (slotD 1) (fun _=>.ok (.int 14)) fdivD) (fun _=>.ok (.int 19)) modD) (fun _=>.ok (.int 9)) subD) (fun _=>.ok [])) strG) (fun _=>.ok (.str "/")) addD) (bindF (consD (two (fun _=>.ok (.int 1)) (two (two (slotD 1) (fun _=>.ok (.int 14)) fdivD) (fun _=>.ok (.int 5)) modD) addD) (fun _=>.ok [])) strG) addD)) (seqD (setD 6 (two (slotD 1) (fun _=>.ok (.int 7)) modD)) fz)))))) [some (.arg cs),none,none,none,none,none,none,none,none]=fz (rst cs z0 rm (Int.fmod z0 7) w0 w1 w2 f):=fun fz=>by
  push_cast [c0,d7,m2,hrm,cp,d14,m19,hT,si,cc',a1,m5,hB,sb,a2,m7]
 have r0:=Int.fmod_nonneg_of_pos z0 (b:=7) (by decide);have r1:=Int.fmod_lt_of_pos z0 (b:=7) (by decide);have sh:F_qB [cs]=outD (b_qB [some (.arg cs),none,none,none,none,none,none,none,none]):=rfl;have fin:(∃r,Good r/\(seqD (ifS (bindT (two (slotD 6) (fun _=>.ok (.int 0)) eqD) boolD) (retD (lstF (consD (two (slotD 4) (fun _=>.ok (.int 0)) ixD) (consD (lstF (fun _=>.ok [])) (consD (two (two (two (two (fun _=>.ok (.str "point ")) (two (slotD 4) (fun _=>.ok (.int 0)) ixD) addD) (fun _=>.ok (.str " ")) addD) (slotD 5) addD) (fun _=>.ok (.str " 4/2")) addD) (fun _=>.ok [])))))) Out.nxt) (seqD (ifS (bindT (two (slotD 6) (fun _=>.ok (.int 1)) eqD) boolD) (retD (lstF (consD (two (slotD 4) (fun _=>.ok (.int 0)) ixD) (consD (sliceF (slotD 4) (partF (fun _=>.ok (.int 1))) (partF (fun _=>.ok (.int 2)))) (consD (two (two (two (two (two (fun _=>.ok (.str "ring ")) (two (slotD 4) (fun _=>.ok (.int 0)) ixD) addD) (fun _=>.ok (.str " ")) addD) (two (slotD 4) (fun _=>.ok (.int 1)) ixD) addD) (fun _=>.ok (.str " by ")) addD) (slotD 5) addD) (fun _=>.ok [])))))) Out.nxt) (seqD (setD 7 (two (lstF (consD (fun _=>.ok (.str "line")) (consD (fun _=>.ok (.str "ring")) (consD (fun _=>.ok (.str "meet")) (consD (fun _=>.ok (.str "meet")) (consD (fun _=>.ok (.str "meet")) (fun _=>.ok []))))))) (two (slotD 6) (fun _=>.ok (.int 2)) subD) ixD)) (seqD (setD 8 (two (lstF (consD (fun _=>.ok (.str "")) (consD (fun _=>.ok (.str "")) (consD (fun _=>.ok (.str "")) (consD (fun _=>.ok (.str " first")) (consD (fun _=>.ok (.str " second")) (fun _=>.ok []))))))) (two (slotD 6) (fun _=>.ok (.int 2)) subD) ixD)) (retD (lstF (consD (two (slotD 4) (fun _=>.ok (.int 0)) ixD) (consD (sliceF (slotD 4) (partF (fun _=>.ok (.int 1))) noPart) (consD (two (two (two (slotD 7) (fun _=>.ok (.str " ")) addD) (methD "str" joinG (fun _=>.ok (.str " ")) (consD (slotD 4) (fun _=>.ok []))) addD) (slotD 8) addD) (fun _=>.ok [])))))))))) (rst cs z0 rm (Int.fmod z0 7) w0 w1 w2 f)=.ret (rowD r))->∃r,Good r/\F_qB [cs]=.ok (rowD r):=by
  rintro ⟨r,G,e⟩
  refine ⟨r,G,?_⟩;rw [sh];unfold b_qB;rw [pre,e]; rfl
 apply fin;generalize Int.fmod z0 7=kd at r0 r1;have:kd=0\/kd=1\/kd=2\/kd=3\/kd=4\/kd=5\/kd=6:=by omega
 rcases this with rfl | rfl | rfl | rfl | rfl | rfl | rfl
 ·exact mH' h0 hf hs
 ·exact mI' h0 h1 hf hs
 ·obtain ⟨o,e,O⟩:=kQ' h0 h1 h2;exact ia' (x:="line") (y:="") (tl:=[]) jf' rfl (by decide) h0 h1 h2 (by decide) (by decide) (by decide) rfl rfl ⟨o,_,by rw [List.append_nil]; exact e,O,rfl⟩
 ·obtain ⟨o,e,O⟩:=kR' h0 h1 h2;exact ia' (x:="ring") (y:="") (tl:=[]) jg' rfl (by decide) h0 h1 h2 (by decide) (by decide) (by decide) rfl rfl ⟨o,_,by rw [List.append_nil]; exact e,O,rfl⟩
 ·obtain ⟨o,e,O⟩:=kS' h0 h1 h2;exact ia' (x:="meet") (y:="") (tl:=[]) dT' rfl (by decide) h0 h1 h2 (by decide) (by decide) (by decide) rfl rfl ⟨o,_,by rw [List.append_nil]; exact e,O,rfl⟩
 ·obtain ⟨o,e,O⟩:=fE' h0 h1 h2 (.inl rfl);exact ia' (x:="meet") (y:=" first") (tl:=[32] ++ jE') dT' rfl (by decide) h0 h1 h2 (by decide) (by decide) (by decide) rfl rfl ⟨o,_,by rw [eH']; exact e,O,rfl⟩
 ·obtain ⟨o,e,O⟩:=fE' h0 h1 h2 (.inr rfl);exact ia' (x:="meet") (y:=" second") (tl:=[32] ++ hU') dT' rfl (by decide) h0 h1 h2 (by decide) (by decide) (by decide) rfl rfl ⟨o,_,by rw [eH']; exact e,O,rfl⟩
abbrev cls:D:=.lst [.bl false,.bl false,.bl false,.bl false,.bl false,.bl false,.bl false,.bl false,.bl false,.bl false,.bl false,.bl true,.bl false,.bl false,.bl false,.bl false,.bl false,.bl false,.bl true,.bl true]
theorem md' (a:Bool):isG (isx a) (.exc "NoChange")=.ok (.bl a):=by
 show (match (if ("NoChange" : Str) = "NoChange" then some a else none) with | some b=>Res.ok (D.bl b) | none=>.stuck)=_
 rw [if_pos rfl]
theorem eI' {a b:List D} (h:a.length + b.length<=1000):addD (.lst a) (.lst b)=.ok (.lst (a ++ b)):=if_pos (Nat.le_trans h (by decide))
theorem la':onlyOk F_qs [.exc "NoChange"]=.ok cls:=by
 have h:F_qs [.exc "NoChange"]=.ok cls:=by
  show outD (b_qs [some (.arg (.exc "NoChange")),none])=_;unfold b_qs;have e:∀(x0 x1 x2 x3:D) (l:List D),l.length<=900->addD (.lst l) (.lst [x0,x1,x2,x3])=.ok (.lst (l ++ [x0,x1,x2,x3])):=fun x0 x1 x2 x3 l h=>eI' (by simp; omega);push_cast [md',dO',cS',cT',cU',cV',cW',dP',cp',bO',cq',cX',bP',dQ',cY',dR',cZ',da',cr',bu',bj',e _ _ _ _ _ (show [D.bl false,.bl false,.bl false,.bl false].length<=900 by decide)];rfl
 unfold onlyOk;rw [h]
theorem me' {a b:Str} (ha:PyData.strOk a=true) (hb:PyData.strOk b=true):eqD (.str a) (.str b)=.ok (.bl (decide (a=b))):=by
 unfold eqD;rw [if_pos ⟨ha,hb⟩]
 congr 2
theorem eJ' {f:D->Res D} {g:Str->Bool}:∀(l:List Str),(∀x∈l,f (.str x)=.ok (.bl (g x)))->mapR f (l.map .str)=.ok (l.map fun x=>.bl (g x))
 | [],_=>rfl
 | x :: l,h=>by
  rw [List.map_cons,mapR,h x (by simp),Res.bind_ok,eJ' l fun y hy=>h y (List.mem_cons_of_mem _ hy),Res.bind_ok]; rfl
abbrev clw:List Str:=["Below", "NoText", "NoOver", "NoRoom", "NoLine", "NoRing", "NoRow", "TooMany", "TooGreat", "NoClaim", "NoMove", "NoChange", "NoAsk", "NoMeet", "Twice", "NoName", "NoKind", "NoCarry"]
theorem cv':F_qt [.str "NoChange"]=.ok cls:=by
 show outD (b_qt [some (.arg (.str "NoChange")),none])=_;unfold b_qt;have ok:∀x∈clw,PyData.strOk x=true:=by decide +kernel
 have mr:=eJ' (f:=eltD (tgtN 0) (two (slotD 1) (slotD 0) eqD) [none,some (.arg (.str "NoChange"))]) (g:=fun x=>decide (("NoChange" : Str)=x)) clw (fun x hx=>by
  show (match two (slotD 1) (slotD 0) eqD [some (.val (.str x)),some (.arg (.str "NoChange"))] with | .ok z=>Res.ok z | _=>.stuck)=_
  have e:=me' (a:="NoChange") (b:=x) (ok _ (by decide +kernel)) (ok x hx);push_cast [e])
 have ev:(clw.map fun x=>D.bl (decide (("NoChange" : Str)=x)))=[.bl false,.bl false,.bl false,.bl false,.bl false,.bl false,.bl false,.bl false,.bl false,.bl false,.bl false,.bl true,.bl false,.bl false,.bl false,.bl false,.bl false,.bl false]:=rfl;have cp:compD 1 [0] (tgtN 0) (two (slotD 1) (slotD 0) eqD) (bindL (slotD 1) seqItems) [some (.arg (.str "NoChange")),some (.val (.lst (clw.map .str)))]=.ok (.lst (clw.map fun x=>D.bl (decide (("NoChange" : Str)=x)))):=by
  unfold compD;have hi:bindL (slotD 1) seqItems [some (.arg (.str "NoChange")),some (.val (.lst (clw.map .str)))]=.ok (clw.map .str):=rfl;have hc:compS 1 [0] [some (.arg (.str "NoChange")),some (.val (.lst (clw.map .str)))]=[none,some (.arg (.str "NoChange"))]:=rfl;rw [hi,Res.bind_ok,hc,mr];rfl
 rw [ev] at cp;have l10:∀(x0 x1 x2 x3 x4 x5 x6 x7 x8 x9:D),lstD (.ok [x0,x1,x2,x3,x4,x5,x6,x7,x8,x9])=.ok (.lst [x0,x1,x2,x3,x4,x5,x6,x7,x8,x9]):=fun _ _ _ _ _ _ _ _ _ _=>rfl;have a1:=eI' (a:=(["Below", "NoText", "NoOver", "NoRoom", "NoLine", "NoRing", "NoRow", "TooMany", "TooGreat", "NoClaim"]:List Str).map D.str) (b:=(["NoMove", "NoChange", "NoAsk", "NoMeet", "Twice", "NoName", "NoKind", "NoCarry"]:List Str).map D.str) (by decide);have a2:=eI' (a:=[.bl false,.bl false,.bl false,.bl false,.bl false,.bl false,.bl false,.bl false,.bl false,.bl false,.bl false,.bl true,.bl false,.bl false,.bl false,.bl false,.bl false,.bl false]) (b:=[.bl true,.bl true]) (by decide);simp only [List.map_cons,List.map_nil,List.cons_append,List.nil_append] at a1 cp a2;push_cast [l10,a1,cp,a2]
section
variable {A B:List D} {x y:D}
theorem cutA:cutD (.lst (A ++ x :: y :: B)) none (some (A.length:Int))=.ok (.lst A):=by
 show Res.ok (D.lst (((A ++ x :: y :: B).drop (HT.sIx _ 0 none)).take (HT.sIx _ _ (some (A.length:Int)) - HT.sIx _ 0 none)))=_;rw [HT.sIx_none,HT.sIx_nat];simp
theorem cutB:cutD (.lst (A ++ x :: y :: B)) (some ((A.length:Int) + 2)) none=.ok (.lst B):=by
 show Res.ok (D.lst (((A ++ x :: y :: B).drop (HT.sIx _ 0 (some ((A.length:Int) + 2)))).take (HT.sIx _ _ none - HT.sIx _ 0 (some ((A.length:Int) + 2)))))=_;rw [show ((A.length:Int) + 2)=((A.length + 2:Nat):Int) by omega,HT.sIx_none,HT.sIx_nat];have e:min (A.length + 2) (A ++ x :: y :: B).length=(A ++ [x,y]).length:=by simp
 rw [e,show A ++ x :: y :: B=(A ++ [x,y]) ++ B by simp,List.drop_left];rw [List.take_of_length_le (by simp; omega)]
theorem ixA:ixD (.lst (A ++ x :: y :: B)) (.int (A.length:Int))=.ok x:=cy' _ A.length _ (by simp)
theorem ixB:ixD (.lst (A ++ x :: y :: B)) (.int ((A.length:Int) + 1))=.ok y:=by
 rw [show ((A.length:Int) + 1)=((A.length + 1:Nat):Int) by omega];exact cy' _ (A.length + 1) _ (by simp)
theorem cat3 (h:(A ++ y :: x :: B).length<=900):addD (.lst A) (.lst [y,x])=.ok (.lst (A ++ [y,x]))/\addD (.lst (A ++ [y,x])) (.lst B)=.ok (.lst (A ++ y :: x :: B)):=by
 refine ⟨eI' (by simp at h ⊢; omega),?_⟩;rw [eI' (by simp at h ⊢; omega)]; simp
end
theorem eK' {R:D} {k:Int} (h:F_qD [R,.int k]=.err ⟨"NoChange",none⟩):F_qw [R,.int k]=.ok cls:=by
 show outD (b_qw [some (.arg R),some (.arg (.int k)),none,none])=_;unfold b_qw;have tr:(tryD 3 sub_HallError (setD 2 (bindF (consD (slotD 0) (consD (slotD 1) (fun _=>.ok []))) F_qD)) (setD 2 (bindF (consD (slotD 3) (fun _=>.ok [])) (onlyOk F_qs)))) [some (.arg R),some (.arg (.int k)),some (.val .non),none]=.nxt [some (.arg R),some (.arg (.int k)),some (.val cls),none]:=by
  have fb:(setD 2 (bindF (consD (slotD 0) (consD (slotD 1) (fun _=>.ok []))) F_qD)) [some (.arg R),some (.arg (.int k)),some (.val .non),none]=.err ⟨"NoChange",none⟩ [some (.arg R),some (.arg (.int k)),some (.val .non),none]:=by
   push_cast [h]
  have su:(setD 2 (bindF (consD (slotD 3) (fun _=>.ok [])) (onlyOk F_qs))) [some (.arg R),some (.arg (.int k)),some (.val .non),some (.val (.exc "NoChange"))]=.nxt [some (.arg R),some (.arg (.int k)),some (.val cls),some (.val (.exc "NoChange"))]:=by
   push_cast [la']
  have sb:sub_HallError "NoChange" = some true:=if_pos rfl;unfold tryD;rw [fb];dsimp only;rw [sb];dsimp only;show (match (setD 2 (bindF (consD (slotD 3) (fun _=>.ok [])) (onlyOk F_qs))) [some (.arg R),some (.arg (.int k)),some (.val .non),some (.val (.exc "NoChange"))] with | .nxt δ2=>Out.nxt (δ2.set 3 none) | .ret d=>.ret d | _=>.stuck)=_
  rw [su]; rfl
 push_cast [tr]
theorem jn' {R d:D} {k:Int} (h:F_qD [R,.int k]=.ok d):F_qw [R,.int k]=.ok d:=by
 show outD (b_qw [some (.arg R),some (.arg (.int k)),none,none])=_;unfold b_qw;have tr:(tryD 3 sub_HallError (setD 2 (bindF (consD (slotD 0) (consD (slotD 1) (fun _=>.ok []))) F_qD)) (setD 2 (bindF (consD (slotD 3) (fun _=>.ok [])) (onlyOk F_qs)))) [some (.arg R),some (.arg (.int k)),some (.val .non),none]=.nxt [some (.arg R),some (.arg (.int k)),some (.val d),none]:=by
  have fb:(setD 2 (bindF (consD (slotD 0) (consD (slotD 1) (fun _=>.ok []))) F_qD)) [some (.arg R),some (.arg (.int k)),some (.val .non),none]=.nxt [some (.arg R),some (.arg (.int k)),some (.val d),none]:=by
   push_cast [h]
  unfold tryD;rw [fb]
 push_cast [tr]
abbrev txtD (r:R3):D:=tx r.w
theorem dV' {d:D} (h:okD 8 d=true):neD d d=.ok (.bl false):=by
 unfold neD;rw [if_pos ⟨h,h⟩,SeqAt.eqv_refl _ (ch' 8 d h).1]; rfl
theorem mf' {os:List (List Nat)} (h:∀w∈os,Nw w):okD 8 (.lst (txs os))=true:=by
 show (txs os).all (okD 7)=true;rw [List.all_eq_true];intro d hd;obtain ⟨w,hw,rfl⟩:=List.mem_map.mp hd;exact dc' (h w hw).small
theorem jo' {Rs:List R3} (h:∀r∈Rs,Good r):okD 8 (.lst (Rs.map txtD))=true:=by
 show (Rs.map txtD).all (okD 7)=true;rw [List.all_eq_true];intro d hd;obtain ⟨r,hr,rfl⟩:=List.mem_map.mp hd;exact dc' (h r hr).sm
theorem mg' {x:List Nat} {os:List (List Nat)} (hx:Nw x) (h:∀w∈os,Nw w):∃m,inA (tx x) (.lst (txs os))=.ok (.bl m) :=
 ⟨_,if_pos ⟨dc' hx.small,mf' h⟩⟩
theorem rz (s:Str) (δ:DS):raiseD "NoChange" (consD (fun _=>.ok (.str s)) (fun _=>.ok [])) δ=.err ⟨"NoChange",none⟩ δ:=rfl
theorem fG' {Rs:List R3} (hl:Rs.length<=900) {δ:DS} {i:Nat} {f:DS->Res (List D)} (hf:f δ=.ok (Rs.map rowD)):compD 1 [] (tgtN 0) (two (slotD 0) (fun _=>.ok (.int 2)) ixD) f δ=.ok (.lst (Rs.map txtD)):=by
 unfold compD;have hm:∀Rs:List R3,mapR (eltD (tgtN 0) (two (slotD 0) (fun _=>.ok (.int 2)) ixD) [none]) (Rs.map rowD)=.ok (Rs.map txtD):=fun Rs=>by
  induction Rs with
  | nil=>rfl
  | cons r Rs ih =>
   have e:eltD (tgtN 0) (two (slotD 0) (fun _=>.ok (.int 2)) ixD) [none] (rowD r)=.ok (txtD r):=rfl;rw [List.map_cons,mapR,e,Res.bind_ok,ih,Res.bind_ok]; rfl
 have hc:compS 1 [] δ=[none]:=rfl;rw [hf,Res.bind_ok,hc,hm];unfold lstD;rw [Res.bind_ok,if_pos (by rw [List.length_map]; exact Nat.le_trans hl (by decide))]
theorem bad {Rs:List R3} {k:Int} (h:k < 0\/(Rs.length:Int) - 2 < k):F_qA [.lst (Rs.map rowD),.int k]=.ok cls/\F_qw [.lst (Rs.map txtD),.int k]=.ok cls:=by
 constructor
 ·show outD (b_qA [some (.arg (.lst (Rs.map rowD))),some (.arg (.int k)),none])=_;unfold b_qA
  by_cases h1:k < 0
  ·push_cast [h1,cv']
  ·have h2:=h.resolve_left h1;push_cast [h1,List.length_map,h2,cv']
 ·refine eK' ?_;show outD (b_qD [some (.arg (.lst (Rs.map txtD))),some (.arg (.int k))])=_;unfold b_qD
  by_cases h1:k < 0
  ·push_cast [h1,rz]
  ·have h2:=h.resolve_left h1;push_cast [h1,List.length_map,h2,rz]
theorem fine {A B:List R3} {x y:R3} (hx:Good x) (hy:Good y) (hl:(A ++ x :: y :: B).length<=100) :
  (F_qA [.lst ((A ++ x :: y :: B).map rowD),.int (A.length:Int)]=.ok cls/\F_qw [.lst ((A ++ x :: y :: B).map txtD),.int (A.length:Int)]=.ok cls) \/
  (F_qA [.lst ((A ++ x :: y :: B).map rowD),.int (A.length:Int)]=.ok (.lst ((A ++ y :: x :: B).map txtD))/\F_qw [.lst ((A ++ x :: y :: B).map txtD),.int (A.length:Int)]=.ok (.lst ((A ++ y :: x :: B).map txtD))):=by
 obtain ⟨m,hm⟩:=mg' hx.n hy.o;obtain ⟨o,ws,e,O,n⟩:=hx.st;obtain ⟨o',ws',e',O',n'⟩:=hy.st;have nm:=O.nm;rw [n] at nm;have nd:=O'.nd;have k0:¬((A.length:Int) < 0):=by omega
 have k1:¬((((A ++ x :: y :: B).length:Nat):Int) - 2 < (A.length:Int)):=by simp; omega
 have tl:(A ++ x :: y :: B).length<=900:=by omega
 have mr:(A ++ x :: y :: B).map rowD=A.map rowD ++ rowD x :: rowD y :: B.map rowD:=by simp
 have mt:(A ++ x :: y :: B).map txtD=A.map txtD ++ txtD x :: txtD y :: B.map txtD:=by simp
 have i1:=ixA (A:=A.map rowD) (B:=B.map rowD) (x:=rowD x) (y:=rowD y);have i2:=ixB (A:=A.map rowD) (B:=B.map rowD) (x:=rowD x) (y:=rowD y);have j1:=ixA (A:=A.map txtD) (B:=B.map txtD) (x:=txtD x) (y:=txtD y);have j2:=ixB (A:=A.map txtD) (B:=B.map txtD) (x:=txtD x) (y:=txtD y);have s1:=cutA (A:=A.map txtD) (B:=B.map txtD) (x:=txtD x) (y:=txtD y);have s2:=cutB (A:=A.map txtD) (B:=B.map txtD) (x:=txtD x) (y:=txtD y);obtain ⟨a1,a2⟩:=cat3 (A:=A.map txtD) (B:=B.map txtD) (x:=txtD x) (y:=txtD y) (by simp at hl ⊢; omega);rw [List.length_map] at i1 i2 j1 j2 s1 s2;rw [<- mr] at i1 i2;rw [<- mt] at j1 j2 s1 s2;rw [show A.map txtD ++ txtD y :: txtD x :: B.map txtD=(A ++ y :: x :: B).map txtD by simp] at a2;have r0:ixD (rowD x) (.int 0)=.ok (tx x.nm):=rfl;have r1:ixD (rowD y) (.int 1)=.ok (.lst (txs y.os)):=rfl;have tx':=fun (z:Option SV)=>fG' (Rs:=A ++ x :: y :: B) tl (δ:=[some (.arg (.lst ((A ++ x :: y :: B).map rowD))),some (.arg (.int (A.length:Int))),z]) (i:=0) (f:=bindL (slotD 0) seqItems) rfl;generalize (A ++ x :: y :: B).map rowD=RD at *;generalize (A ++ x :: y :: B).map txtD=TD at *;generalize ht:(A ++ y :: x :: B).map txtD=TD' at *;have lr:RD.length=(A ++ x :: y :: B).length:=by rw [mr]; simp
 have lt':TD.length=(A ++ x :: y :: B).length:=by rw [mt]; simp
 cases m with
 | true =>
  refine .inl ⟨?_,eK' ?_⟩
  ·show outD (b_qA [some (.arg (.lst RD)),some (.arg (.int (A.length:Int))),none])=_;unfold b_qA;push_cast [k0,lr,k1,i1,i2,r0,r1,hm,cv']
  ·show outD (b_qD [some (.arg (.lst TD)),some (.arg (.int (A.length:Int)))])=_;unfold b_qD;push_cast [k0,lt',k1,j1,j2,e,e',nm,nd,hm,rz]
 | false =>
  refine .inr ⟨?_,jn' ?_⟩
  ·show outD (b_qA [some (.arg (.lst RD)),some (.arg (.int (A.length:Int))),none])=_;unfold b_qA;push_cast [k0,lr,k1,i1,i2,r0,r1,hm,tx',s1,s2,j1,j2,a1,a2]
  ·show outD (b_qD [some (.arg (.lst TD)),some (.arg (.int (A.length:Int)))])=_;unfold b_qD;push_cast [k0,lt',k1,j1,j2,e,e',nm,nd,hm,s1,s2,a1,a2]
theorem mh' {Rs:List R3} (h:∀r∈Rs,Good r) (hne:Rs≠[]):neD (.lst (Rs.map txtD)) cls=.ok (.bl true):=by
 have k:=jo' h;unfold neD;rw [if_pos ⟨k,by decide⟩]
 cases Rs with
 | nil=>exact (hne rfl).elim
 | cons r Rs =>
  congr 2
theorem fg':neD cls cls=.ok (.bl false):=dV' (by decide)
abbrev lst_ (ms:List Int) (Rs:List R3) (z2:Option SV) (b k:Int) (z7 z8 z9:Option SV):DS:=[some (.val (.lst (ms.map .int))),some (.val (.lst (Rs.map rowD))),z2,some (.val (.lst (Rs.map txtD))),some (.val (.lst (Rs.map txtD))),some (.val (.int b)),some (.val (.int k)),z7,z8,z9]
abbrev lwb:DS->Out:=(seqD (setD 7 (bindF (consD (slotD 1) (consD (slotD 6) (fun _=>.ok []))) F_qA)) (seqD (setD 8 (bindF (consD (slotD 4) (consD (slotD 6) (fun _=>.ok []))) F_qw)) (seqD (ifS (orT (bindT (two (slotD 8) (slotD 7) neD) boolD) (bindT (two (slotD 4) (slotD 3) neD) boolD)) (retD (fun _=>.ok (.bl false))) Out.nxt) (ifS (bindT (two (slotD 7) (bindF (consD (fun _=>.ok (.str "NoChange")) (fun _=>.ok [])) F_qt) neD) boolD) (seqD (setD 9 (two (two (sliceF (slotD 1) noPart (partF (slotD 6))) (lstF (consD (two (slotD 1) (two (slotD 6) (fun _=>.ok (.int 1)) addD) ixD) (consD (two (slotD 1) (slotD 6) ixD) (fun _=>.ok [])))) addD) (sliceF (slotD 1) (partF (two (slotD 6) (fun _=>.ok (.int 2)) addD)) noPart) addD)) (ifS (bindT (two (bindF (consD (slotD 8) (consD (slotD 6) (fun _=>.ok []))) F_qw) (bindF (consD (slotD 9) (consD (slotD 6) (fun _=>.ok []))) F_qA) neD) boolD) (retD (fun _=>.ok (.bl false))) Out.nxt)) Out.nxt))))
theorem jp' {ms:List Int} {Rs:List R3} (h:∀r∈Rs,Good r) (hl:Rs.length<=100) (z2 z7 z8 z9:Option SV) (b k:Int):∃z7' z8' z9',lwb (lst_ ms Rs z2 b k z7 z8 z9)=.nxt (lst_ ms Rs z2 b k z7' z8' z9'):=by
 have tt:=dV' (jo' h)
 by_cases hb:k < 0\/(Rs.length:Int) - 2 < k
 ·obtain ⟨e1,e2⟩:=bad hb;refine ⟨some (.val cls),some (.val cls),z9,?_⟩;unfold lwb lst_;have sl:∀(z3 z4 z5 z6 z7 z8 z9:Option SV),slotD 1 [some (.val (.lst (ms.map .int))),some (.val (.lst (Rs.map rowD))),z2,z3,z4,z5,z6,z7,z8,z9]=.ok (.lst (Rs.map rowD)):=fun _ _ _ _ _ _ _=>rfl;push_cast [sl,e1,e2,tt,cv',fg']
 ·have k0:0<=k:=by omega
  obtain ⟨n,rfl⟩:=Int.eq_ofNat_of_zero_le k0;have hn:n + 2<=Rs.length:=by omega
  have hd:∃x y B,Rs.drop n=x :: y :: B:=by
   have:2<=(Rs.drop n).length:=by rw [List.length_drop]; omega
   match hq:Rs.drop n,this with
   | x :: y :: B,_=>exact ⟨x,y,B,rfl⟩
  obtain ⟨x,y,B,hd⟩:=hd;have hR:Rs=Rs.take n ++ x :: y :: B:=by rw [<- hd,List.take_append_drop]
  have hA:(Rs.take n).length=n:=by rw [List.length_take]; omega
  generalize Rs.take n=A at hR hA;subst hA;subst hR;have gx:=h x (by simp);have gy:=h y (by simp);have hl2:(A ++ y :: x :: B).length<=100:=by simp at hl ⊢; omega
  have h2:∀r∈A ++ y :: x :: B,Good r:=fun r hr=>h r (by
   simp only [List.mem_append,List.mem_cons] at hr ⊢;rcases hr with q | q | q | q <;> simp [q])
  have sl:∀(z3 z4 z5 z6 z7 z8 z9:Option SV),slotD 1 [some (.val (.lst (ms.map .int))),some (.val (.lst ((A ++ x :: y :: B).map rowD))),z2,z3,z4,z5,z6,z7,z8,z9]=.ok (.lst ((A ++ x :: y :: B).map rowD)):=fun _ _ _ _ _ _ _=>rfl;rcases fine gx gy hl with ⟨e1,e2⟩ | ⟨e1,e2⟩
  ·refine ⟨some (.val cls),some (.val cls),z9,?_⟩;unfold lwb lst_;push_cast [sl,e1,e2,tt,cv',fg']
  ·have mr:(A ++ x :: y :: B).map rowD=A.map rowD ++ rowD x :: rowD y :: B.map rowD:=by simp
   have i1:=ixA (A:=A.map rowD) (B:=B.map rowD) (x:=rowD x) (y:=rowD y);have i2:=ixB (A:=A.map rowD) (B:=B.map rowD) (x:=rowD x) (y:=rowD y);have s1:=cutA (A:=A.map rowD) (B:=B.map rowD) (x:=rowD x) (y:=rowD y);have s2:=cutB (A:=A.map rowD) (B:=B.map rowD) (x:=rowD x) (y:=rowD y);obtain ⟨a1,a2⟩:=cat3 (A:=A.map rowD) (B:=B.map rowD) (x:=rowD x) (y:=rowD y) (by simp at hl ⊢; omega);rw [List.length_map] at i1 i2 s1 s2;rw [<- mr] at i1 i2 s1 s2;rw [show A.map rowD ++ rowD y :: rowD x :: B.map rowD=(A ++ y :: x :: B).map rowD by simp] at a2;have nc:=mh' h2 (by simp);have t2:=dV' (jo' h2);have t3:=dV' (jo' h);have again:∃d,F_qw [.lst ((A ++ y :: x :: B).map txtD),.int (A.length:Int)]=.ok d/\F_qA [.lst ((A ++ y :: x :: B).map rowD),.int (A.length:Int)]=.ok d/\neD d d=.ok (.bl false):=by
    rcases fine gy gx hl2 with ⟨f1,f2⟩ | ⟨f1,f2⟩
    ·exact ⟨_,f2,f1,fg'⟩
    ·exact ⟨_,f2,f1,t3⟩
   obtain ⟨d,f1,f2,dd⟩:=again;refine ⟨some (.val (.lst ((A ++ y :: x :: B).map txtD))),some (.val (.lst ((A ++ y :: x :: B).map txtD))),some (.val (.lst ((A ++ y :: x :: B).map rowD))),?_⟩;unfold lwb lst_;generalize (A ++ x :: y :: B).map rowD=RD at *;generalize (A ++ x :: y :: B).map txtD=TD at *;generalize (A ++ y :: x :: B).map rowD=RD' at *;generalize (A ++ y :: x :: B).map txtD=TD' at *;push_cast [sl,e1,e2,t2,tt,cv',nc,i1,i2,s1,s2,a1,a2,f1,f2,dd]
theorem fH' {ms:List Int} {Rs:List R3} (h:∀r∈Rs,Good r) (hl:Rs.length<=100) (z2:Option SV) (b:Int):∀(ks:List Int) (z6 z7 z8 z9:Option SV),∃z6' z7' z8' z9',forD (tgtN 6) lwb (ks.map .int) [some (.val (.lst (ms.map .int))),some (.val (.lst (Rs.map rowD))),z2,some (.val (.lst (Rs.map txtD))),some (.val (.lst (Rs.map txtD))),some (.val (.int b)),z6,z7,z8,z9]=.nxt [some (.val (.lst (ms.map .int))),some (.val (.lst (Rs.map rowD))),z2,some (.val (.lst (Rs.map txtD))),some (.val (.lst (Rs.map txtD))),some (.val (.int b)),z6',z7',z8',z9']
 | [],z6,z7,z8,z9=>⟨z6,z7,z8,z9,rfl⟩
 | k :: ks,z6,z7,z8,z9=>by
  obtain ⟨y7,y8,y9,e⟩:=jp' (ms:=ms) h hl z2 z7 z8 z9 b k;obtain ⟨x6,x7,x8,x9,e'⟩:=fH' (ms:=ms) h hl z2 b ks (some (.val (.int k))) y7 y8 y9;refine ⟨x6,x7,x8,x9,?_⟩;rw [List.map_cons,forD];show (match lwb (lst_ ms Rs z2 b k z7 z8 z9) with | .nxt δ'=>forD (tgtN 6) lwb (ks.map .int) δ' | .cnt δ'=>forD (tgtN 6) lwb (ks.map .int) δ' | .brk δ'=>.nxt δ' | .ret d=>.ret d | _=>.stuck)=_
  rw [e];exact e'
theorem bs':∀ms:List Int,flatDs (ms.map .int)=true
 | []=>rfl
 | m :: ms=>by rw [List.map_cons,flatDs,bs' ms]; rfl
theorem jH':∀ws:List (List Nat),shDs (txs ws)=true
 | []=>rfl
 | w :: ws=>by show (shD (tx w) && shDs (txs ws))=true; rw [jH' ws]; rfl
theorem mi':∀ws:List (List Nat),headS (txs ws)=true
 | []=>rfl
 | _ :: _=>rfl
theorem mj' (r:R3):shD (rowD r)=true:=by
 show (headS [tx r.nm,.lst (txs r.os),tx r.w] && (shD (tx r.nm) && (shD (.lst (txs r.os)) && (shD (tx r.w) && shDs []))))=true;have:shD (.lst (txs r.os))=true:=by show (headS (txs r.os) && shDs (txs r.os))=true; rw [mi',jH']; rfl
 rw [this]; rfl
theorem ib':∀Rs:List R3,shDs (Rs.map rowD)=true
 | []=>rfl
 | r :: Rs=>by show (shD (rowD r) && shDs (Rs.map rowD))=true; rw [mj',ib' Rs]; rfl
theorem lb':∀Rs:List R3,headL (Rs.map rowD)=true
 | []=>rfl
 | _ :: _=>rfl
theorem jq' (ms:List Int) (a b:Option Int):∃ns:List Int,cutD (.lst (ms.map .int)) a b=.ok (.lst (ns.map .int)):=by
 refine ⟨(ms.drop (HT.sIx (ms.map D.int).length 0 a)).take (HT.sIx (ms.map D.int).length (ms.map D.int).length b - HT.sIx (ms.map D.int).length 0 a),?_⟩;show Res.ok (D.lst (((ms.map D.int).drop _).take _))=_;rw [List.map_take,List.map_drop]
abbrev ab:DS->Out:=(appU 1 (bindF (consD (sliceF (slotD 0) (partF (slotD 2)) (partF (two (slotD 2) (fun _=>.ok (.int 2)) addD))) (fun _=>.ok [])) F_qB))
theorem jr' (ms:List Int) {Rs:List R3} (h:∀r∈Rs,Good r) (hl:Rs.length<=90) (k:Int):∃r,Good r/\ab [some (.own (ms.map .int)),some (.own (Rs.map rowD)),some (.val (.int k)),none,none,none,none,none,none,none]=.nxt [some (.own (ms.map .int)),some (.own ((Rs ++ [r]).map rowD)),some (.val (.int k)),none,none,none,none,none,none,none]:=by
 obtain ⟨ns,hc⟩:=jq' ms (some k) (some (k + 2));obtain ⟨r,G,e⟩:=mJ' ns;refine ⟨r,G,?_⟩;have kp:keepH 1 [some (.own (ms.map .int)),some (.own (Rs.map rowD)),some (.val (.int k)),none,none,none,none,none,none,none]=[some (.own (ms.map .int)),none,some (.val (.int k)),none,none,none,none,none,none,none]:=by
  have q:keepSV (.own (ms.map .int))=some (.own (ms.map .int)):=by show (if flatDs (ms.map D.int)=true then _ else _)=_; rw [if_pos (bs' ms)]
  show [keepSV (.own (ms.map .int)),none,keepSV (.val (.int k)),none,none,none,none,none,none,none]=_;rw [q]; rfl
 have sl:slotD 0 [some (.own (ms.map .int)),none,some (.val (.int k)),none,none,none,none,none,none,none]=.ok (.lst (ms.map .int)):=rfl;have fe:(bindF (consD (sliceF (slotD 0) (partF (slotD 2)) (partF (two (slotD 2) (fun _=>.ok (.int 2)) addD))) (fun _=>.ok [])) F_qB) [some (.own (ms.map .int)),none,some (.val (.int k)),none,none,none,none,none,none,none]=.ok (rowD r):=by
  push_cast [sl,hc,e]
 unfold ab;show (match (bindF (consD (sliceF (slotD 0) (partF (slotD 2)) (partF (two (slotD 2) (fun _=>.ok (.int 2)) addD))) (fun _=>.ok [])) F_qB) (keepH 1 [some (.own (ms.map .int)),some (.own (Rs.map rowD)),some (.val (.int k)),none,none,none,none,none,none,none]) with
  | .ok d=>if headL (Rs.map rowD)=true/\shDs (Rs.map rowD)=true/\(Rs.map rowD).length < sizeLine then Out.nxt ((keepH 1 [some (.own (ms.map .int)),some (.own (Rs.map rowD)),some (.val (.int k)),none,none,none,none,none,none,none]).set 1 (some (.own (Rs.map rowD ++ [d])))) else .stuck
  | _=>.stuck)=_
 rw [kp,fe];dsimp only;rw [if_pos ⟨lb' Rs,ib' Rs,by rw [List.length_map]; exact Nat.lt_of_le_of_lt hl (by decide)⟩,List.map_append];rfl
theorem eL' (ms:List Int):∀(ds:List D) (Rs:List R3) (z:Option SV),(∀d∈ds,∃k,d=.int k)->(∀r∈Rs,Good r)->Rs.length + ds.length<=90 ->
  ∃(Rs':List R3) (z':Option SV),forD (tgtN 2) ab ds [some (.own (ms.map .int)),some (.own (Rs.map rowD)),z,none,none,none,none,none,none,none]=.nxt [some (.own (ms.map .int)),some (.own (Rs'.map rowD)),z',none,none,none,none,none,none,none]/\(∀r∈Rs',Good r)/\Rs'.length<=90
 | [],Rs,z,_,h,hl=>⟨Rs,z,rfl,h,by simpa using hl⟩
 | d :: ds,Rs,z,hd,h,hl=>by
  rw [List.length_cons] at hl;obtain ⟨k,rfl⟩:=hd d (by simp);obtain ⟨r,G,e⟩:=jr' ms h (by omega) k;obtain ⟨Rs',z',e',h',l'⟩:=eL' ms ds (Rs ++ [r]) (some (.val (.int k))) (fun d hq=>hd d (List.mem_cons_of_mem _ hq)) (fun q hq=>by
   rcases List.mem_append.mp hq with z | z
   ·exact h q z
   ·rw [List.mem_singleton.mp z]; exact G) (by simp; omega)
  refine ⟨Rs',z',?_,h',l'⟩;rw [forD];show (match ab [some (.own (ms.map .int)),some (.own (Rs.map rowD)),some (.val (.int k)),none,none,none,none,none,none,none] with | .nxt δ'=>forD (tgtN 2) ab ds δ' | .cnt δ'=>forD (tgtN 2) ab ds δ' | .brk δ'=>.nxt δ' | .ret d=>.ret d | _=>.stuck)=_
  rw [e];exact e'
theorem fI' (c:Int):∀(n:Nat) (lo:Int),∀d∈stpD lo c n,∃k,d=.int k
 | 0,_,d,h=>by cases h
 | n + 1,lo,d,h=>by
  rw [stpD] at h;rcases List.mem_cons.mp h with q | q
  ·exact ⟨lo,q⟩
  ·exact fI' c n (lo + c) d q
open Classical in
noncomputable def stirF (i t:Int):Int:=if h:∃z,F_qy [.int t,.int i]=.ok (.int z) then h.choose else 0
theorem js' {i t:Int} (h:∃z,F_qy [.int t,.int i]=.ok (.int z)):F_qy [.int t,.int i]=.ok (.int (stirF i t)):=by
 unfold stirF;rw [dif_pos h]; exact h.choose_spec
theorem mK' {j:Int} (h0:0<=j) (h1:j<=62):∃n,n<=40/\rngS [.int 2,.int j,.int 2]=.ok (stpD 2 2 n):=by
 by_cases h:2 < j
 ·have rs:Builtin.Range.rangeSize 2 j 2=(j - 2 - 1) / 2 + 1:=by
   unfold Builtin.Range.rangeSize;rw [if_pos (by decide),if_pos (by omega)]
  refine ⟨_,?_,if_pos ⟨by decide,by decide,?_,?_⟩⟩
  ·rw [rs]; omega
  ·unfold Builtin.Range.small;rw [rs];simp only [Builtin.Range.rangeFitsLong,Bool.and_eq_true,Bool.or_eq_true,decide_eq_true_eq,beq_iff_eq];refine ⟨by omega,.inr ?_⟩;rw [if_pos (by decide),Bool.and_eq_true,decide_eq_true_eq,decide_eq_true_eq];omega
  ·rw [rs]; omega
 ·have rs:Builtin.Range.rangeSize 2 j 2=0:=by
   unfold Builtin.Range.rangeSize;rw [if_pos (by decide),if_neg (by omega)]
  refine ⟨_,?_,if_pos ⟨by decide,by decide,?_,?_⟩⟩
  ·rw [rs]; decide
  ·unfold Builtin.Range.small;rw [rs];simp only [Builtin.Range.rangeFitsLong,Bool.and_eq_true,Bool.or_eq_true,decide_eq_true_eq,beq_iff_eq];refine ⟨by omega,.inl trivial⟩
  ·rw [rs]; decide
theorem mL' (ns:List Int) (hl:ns.length<=63):F_law [.lst (ns.map .int)]=.ok (.bl true):=by
 show outD (b_law [some (.arg (.lst (ns.map .int))),none,none,none,none,none,none,none,none,none])=_;unfold b_law;have hen:bindRg (consD (slotD 0) (fun _=>.ok [])) enumG [some (.arg (.lst (ns.map .int))),none,none,none,none,none,none,none,none,none]=.ok (enumD (ns.map .int)):=rfl;have cc:=hQ' (fe:=(bindF (consD (slotD 1) (consD (slotD 0) (fun _=>.ok []))) F_qy)) (fi:=bindRg (consD (slotD 0) (fun _=>.ok [])) enumG) (fr:=[]) (δ:=[some (.arg (.lst (ns.map .int))),none,none,none,none,none,none,none,none,none]) (rest:=[]) (ts:=ns) (g:=stirF) hen rfl (Nat.le_trans hl (by decide)) (fun i hi t ht=>by
  have h:=js' (jF' t (k:=i) (by omega));push_cast [h])
 have lm:(ns.zipIdx.map fun p=>stirF ((p.2:Nat):Int) p.1).length=ns.length:=by rw [List.length_map,List.length_zipIdx]
 generalize (ns.zipIdx.map fun p=>stirF ((p.2:Nat):Int) p.1)=ms at cc lm;have ow:(ownC 0 (compD 2 [] (tupTgt [0,1]) (bindF (consD (slotD 1) (consD (slotD 0) (fun _=>.ok []))) F_qy) (bindRg (consD (slotD 0) (fun _=>.ok [])) enumG))) [some (.arg (.lst (ns.map .int))),none,none,none,none,none,none,none,none,none]=.nxt [some (.own (ms.map .int)),none,none,none,none,none,none,none,none,none]:=by
  unfold ownC;rw [cc]; rfl
 have ow1:ownD 1 (fun _=>.ok []) [some (.own (ms.map .int)),none,none,none,none,none,none,none,none,none]=.nxt [some (.own (ms.map .int)),some (.own (([]:List R3).map rowD)),none,none,none,none,none,none,none,none]:=rfl;have mn:∀i:Int,minT [.int i,.int 62]=.ok (.int (if 62 < i then 62 else i)):=fun _=>rfl
 obtain ⟨n,n40,rg⟩:=mK' (j:=if (62:Int) < ((ms.length:Nat):Int) then (62:Int) else ((ms.length:Nat):Int)) (by split <;> omega) (by split <;> omega)
 obtain ⟨Rs,z2,lp,hG,l90⟩:=eL' ms (stpD 2 2 n) [] none (fI' 2 n 2) (fun r hr=>by cases hr) (by rw [bL']; simp; omega);unfold ab at lp;have te:=fG' (Rs:=Rs) (by omega) (δ:=[some (.own (ms.map .int)),some (.own (Rs.map rowD)),z2,none,none,none,none,none,none,none]) (i:=0) (f:=bindL (slotD 1) seqItems) rfl;have li:listG [.lst (Rs.map txtD)]=.ok (.lst (Rs.map txtD)):=by
  first | rfl | exact if_pos (by rw [List.length_map]; exact Nat.le_trans l90 (by decide))
 obtain ⟨v0,c0⟩:=dU' ms (k:=0) (by decide);obtain ⟨v1,c1⟩:=dU' ms (k:=1) (by decide);have c0:F_qq [.lst (ms.map .int),.int 0]=_:=c0;have c1:F_qq [.lst (ms.map .int),.int 1]=_:=c1;have p20:powD (.int 10) (.int 20)=.ok (.int (10 ^ 20)):=rfl;have ml:=mulI (a:=2) (b:=10 ^ 20) (p200 (by decide)) (p200 (by decide));have m21:=fun x=>modI (a:=x) (show (2 * 10 ^ 20 + 1:Int)≠0 by decide);have ml4:=fun x=>modI (a:=x) (show (((Rs.length:Nat):Int) + 4)≠0 by omega);have s0:∀(a1 a2 a3 a4 a5 a6 a7 a8 a9:Option SV),slotD 0 [some (.own (ms.map .int)),a1,a2,a3,a4,a5,a6,a7,a8,a9]=.ok (.lst (ms.map .int)):=fun _ _ _ _ _ _ _ _ _=>rfl;have s1:∀(a0 a2 a3 a4 a5 a6 a7 a8 a9:Option SV),slotD 1 [a0,some (.own (Rs.map rowD)),a2,a3,a4,a5,a6,a7,a8,a9]=.ok (.lst (Rs.map rowD)):=fun _ _ _ _ _ _ _ _ _=>rfl;obtain ⟨y6,y7,y8,y9,lp2⟩:=fH' (ms:=ms) hG (by omega) (z2.map thaw1) (Int.fmod v0 (2 * 10 ^ 20 + 1) - 10 ^ 20) [Int.fmod v1 (((Rs.length:Nat):Int) + 4) - 2,0,((Rs.length:Nat):Int) - 2,((Rs.length:Nat):Int) - 1,Int.fmod v0 (2 * 10 ^ 20 + 1) - 10 ^ 20] none none none none;unfold lwb at lp2;simp only [List.map_cons,List.map_nil] at lp2;have th:∀b:Int,thaw [some (.own (ms.map .int)),some (.own (Rs.map rowD)),z2,some (.val (.lst (Rs.map txtD))),some (.val (.lst (Rs.map txtD))),some (.val (.int b)),none,none,none,none]=[some (.val (.lst (ms.map .int))),some (.val (.lst (Rs.map rowD))),z2.map thaw1,some (.val (.lst (Rs.map txtD))),some (.val (.lst (Rs.map txtD))),some (.val (.int b)),none,none,none,none]:=fun _=>rfl;have tO:∀δ,thawO (.nxt δ)=.nxt (δ.map (Option.map thaw2)):=fun _=>rfl;rw [ap_seq,ow,sq_nxt,ap_seq,ow1,sq_nxt];simp only [List.map_nil] at lp ⊢;push_cast [s0,List.length_map,mn,rg,lp,te,li,s1,c0,c1,p20,ml,m21,ml4,th,lp2,tO]
theorem eM' {K:PySem.W.Frag} {H:Hp}:∀ns:List Int,Reps K H (ns.map .int) (ns.map V.int)
 | []=>.nil
 | n :: ns=>.cons mkI (eM' ns)
end K37
namespace K37
open PySem PySem.Spec PyProof.Rows L2 DL
theorem all_mk {l:PySem.W.OpenLaw} {w:World} {K:PySem.W.Frag} {h:Heap} {mg:Str->Option Value} {fa c_HallError c_Below c_NoText c_NoOver c_NoRoom c_NoLine c_NoRing c_NoRow c_TooMany c_TooGreat c_NoClaim c_NoMove c_NoChange c_NoAsk c_NoMeet c_Twice c_NoName c_NoKind c_NoCarry c_Step c_FirstPoint c_LineThrough c_RingThrough c_RingBy c_MeetOfLines c_MeetWithRing f_named f_needs j_LineThrough j_RingThrough j_MeetOfLines j_MeetWithRing j_FirstPoint j_RingBy j_base f_law:Addr} (X:K.In h) (G:h.Ns mainGlobals mg) (hfa:mg "law" = some (.ref fa))
  {t_FIGURES t_MOST_FIGURES t_LETTERS t_MOST_LETTERS:Tok}
  {od_law an_law:Option Addr} {sl_law:Array (Option Value)} {oc_law kV_law dc_law pm_law cd_law ct_law:Value}
  (n_HallError:PySem.W.nsIn K mainGlobals "HallError" = some (some (.ref c_HallError)))
  (n_Below:PySem.W.nsIn K mainGlobals "Below" = some (some (.ref c_Below)))
  (n_NoText:PySem.W.nsIn K mainGlobals "NoText" = some (some (.ref c_NoText)))
  (n_NoOver:PySem.W.nsIn K mainGlobals "NoOver" = some (some (.ref c_NoOver)))
  (n_NoRoom:PySem.W.nsIn K mainGlobals "NoRoom" = some (some (.ref c_NoRoom)))
  (n_NoLine:PySem.W.nsIn K mainGlobals "NoLine" = some (some (.ref c_NoLine)))
  (n_NoRing:PySem.W.nsIn K mainGlobals "NoRing" = some (some (.ref c_NoRing)))
  (n_NoRow:PySem.W.nsIn K mainGlobals "NoRow" = some (some (.ref c_NoRow)))
  (n_TooMany:PySem.W.nsIn K mainGlobals "TooMany" = some (some (.ref c_TooMany)))
  (n_TooGreat:PySem.W.nsIn K mainGlobals "TooGreat" = some (some (.ref c_TooGreat)))
  (n_NoClaim:PySem.W.nsIn K mainGlobals "NoClaim" = some (some (.ref c_NoClaim)))
  (n_NoMove:PySem.W.nsIn K mainGlobals "NoMove" = some (some (.ref c_NoMove)))
  (n_NoChange:PySem.W.nsIn K mainGlobals "NoChange" = some (some (.ref c_NoChange)))
  (x_NoChange:PySem.W.excIn K c_NoChange [.type "ValueError",.type "Exception",.type "BaseException",.type "object"] "ValueError.__new__" = true)
  (n_NoAsk:PySem.W.nsIn K mainGlobals "NoAsk" = some (some (.ref c_NoAsk)))
  (n_NoMeet:PySem.W.nsIn K mainGlobals "NoMeet" = some (some (.ref c_NoMeet)))
  (n_Twice:PySem.W.nsIn K mainGlobals "Twice" = some (some (.ref c_Twice)))
  (n_NoName:PySem.W.nsIn K mainGlobals "NoName" = some (some (.ref c_NoName)))
  (n_NoKind:PySem.W.nsIn K mainGlobals "NoKind" = some (some (.ref c_NoKind)))
  (n_NoCarry:PySem.W.nsIn K mainGlobals "NoCarry" = some (some (.ref c_NoCarry)))
  (n_Step:PySem.W.nsIn K mainGlobals "Step" = some (some (.ref c_Step)))
  (n_FirstPoint:PySem.W.nsIn K mainGlobals "FirstPoint" = some (some (.ref c_FirstPoint)))
  (n_LineThrough:PySem.W.nsIn K mainGlobals "LineThrough" = some (some (.ref c_LineThrough)))
  (n_RingThrough:PySem.W.nsIn K mainGlobals "RingThrough" = some (some (.ref c_RingThrough)))
  (n_RingBy:PySem.W.nsIn K mainGlobals "RingBy" = some (some (.ref c_RingBy)))
  (n_MeetOfLines:PySem.W.nsIn K mainGlobals "MeetOfLines" = some (some (.ref c_MeetOfLines)))
  (n_MeetWithRing:PySem.W.nsIn K mainGlobals "MeetWithRing" = some (some (.ref c_MeetWithRing)))
  (pg_FirstPoint:PySem.W.plainGet K c_FirstPoint Str.empty=true)
  (hd_FirstPoint:PySem.W.hasDictIn K c_FirstPoint=true)
  (po_FirstPoint:PySem.W.plainOver K c_FirstPoint=true)
  (sa_FirstPoint:PySem.W.findIn K (.ref c_FirstPoint) "__setattr__" = some (some (.builtin "object.__setattr__")))
  (ha_FirstPoint:PySem.W.findIn K (.ref c_FirstPoint) "__class__" = some (some (.builtin "object.__class__")))
  (hm_FirstPoint:PySem.W.mroIn K c_FirstPoint (.type "object")=some true)
  (na_FirstPoint_words:PySem.W.findIn K (.ref c_FirstPoint) "words" = some none)
  (na_FirstPoint_others:PySem.W.findIn K (.ref c_FirstPoint) "others" = some none)
  (na_FirstPoint_wanted:PySem.W.findIn K (.ref c_FirstPoint) "wanted" = some none)
  (na_FirstPoint_x:PySem.W.findIn K (.ref c_FirstPoint) "x" = some none)
  (na_FirstPoint_y:PySem.W.findIn K (.ref c_FirstPoint) "y" = some none)
  (mt_FirstPoint_named:PySem.W.findIn K (.ref c_FirstPoint) "named" = some (some (.ref f_named)))
  (mt_FirstPoint_needs:PySem.W.findIn K (.ref c_FirstPoint) "needs" = some (some (.ref f_needs)))
  (pg_LineThrough:PySem.W.plainGet K c_LineThrough Str.empty=true)
  (hd_LineThrough:PySem.W.hasDictIn K c_LineThrough=true)
  (po_LineThrough:PySem.W.plainOver K c_LineThrough=true)
  (sa_LineThrough:PySem.W.findIn K (.ref c_LineThrough) "__setattr__" = some (some (.builtin "object.__setattr__")))
  (ha_LineThrough:PySem.W.findIn K (.ref c_LineThrough) "__class__" = some (some (.builtin "object.__class__")))
  (hm_LineThrough:PySem.W.mroIn K c_LineThrough (.type "object")=some true)
  (na_LineThrough_words:PySem.W.findIn K (.ref c_LineThrough) "words" = some none)
  (na_LineThrough_others:PySem.W.findIn K (.ref c_LineThrough) "others" = some none)
  (na_LineThrough_wanted:PySem.W.findIn K (.ref c_LineThrough) "wanted" = some none)
  (mt_LineThrough_named:PySem.W.findIn K (.ref c_LineThrough) "named" = some (some (.ref f_named)))
  (mt_LineThrough_needs:PySem.W.findIn K (.ref c_LineThrough) "needs" = some (some (.ref f_needs)))
  (pg_RingThrough:PySem.W.plainGet K c_RingThrough Str.empty=true)
  (hd_RingThrough:PySem.W.hasDictIn K c_RingThrough=true)
  (po_RingThrough:PySem.W.plainOver K c_RingThrough=true)
  (sa_RingThrough:PySem.W.findIn K (.ref c_RingThrough) "__setattr__" = some (some (.builtin "object.__setattr__")))
  (ha_RingThrough:PySem.W.findIn K (.ref c_RingThrough) "__class__" = some (some (.builtin "object.__class__")))
  (hm_RingThrough:PySem.W.mroIn K c_RingThrough (.type "object")=some true)
  (na_RingThrough_words:PySem.W.findIn K (.ref c_RingThrough) "words" = some none)
  (na_RingThrough_others:PySem.W.findIn K (.ref c_RingThrough) "others" = some none)
  (na_RingThrough_wanted:PySem.W.findIn K (.ref c_RingThrough) "wanted" = some none)
  (mt_RingThrough_named:PySem.W.findIn K (.ref c_RingThrough) "named" = some (some (.ref f_named)))
  (mt_RingThrough_needs:PySem.W.findIn K (.ref c_RingThrough) "needs" = some (some (.ref f_needs)))
  (pg_RingBy:PySem.W.plainGet K c_RingBy Str.empty=true)
  (hd_RingBy:PySem.W.hasDictIn K c_RingBy=true)
  (po_RingBy:PySem.W.plainOver K c_RingBy=true)
  (sa_RingBy:PySem.W.findIn K (.ref c_RingBy) "__setattr__" = some (some (.builtin "object.__setattr__")))
  (ha_RingBy:PySem.W.findIn K (.ref c_RingBy) "__class__" = some (some (.builtin "object.__class__")))
  (hm_RingBy:PySem.W.mroIn K c_RingBy (.type "object")=some true)
  (na_RingBy_words:PySem.W.findIn K (.ref c_RingBy) "words" = some none)
  (na_RingBy_others:PySem.W.findIn K (.ref c_RingBy) "others" = some none)
  (na_RingBy_wanted:PySem.W.findIn K (.ref c_RingBy) "wanted" = some none)
  (na_RingBy_square:PySem.W.findIn K (.ref c_RingBy) "square" = some none)
  (mt_RingBy_named:PySem.W.findIn K (.ref c_RingBy) "named" = some (some (.ref f_named)))
  (mt_RingBy_needs:PySem.W.findIn K (.ref c_RingBy) "needs" = some (some (.ref f_needs)))
  (pg_MeetOfLines:PySem.W.plainGet K c_MeetOfLines Str.empty=true)
  (hd_MeetOfLines:PySem.W.hasDictIn K c_MeetOfLines=true)
  (po_MeetOfLines:PySem.W.plainOver K c_MeetOfLines=true)
  (sa_MeetOfLines:PySem.W.findIn K (.ref c_MeetOfLines) "__setattr__" = some (some (.builtin "object.__setattr__")))
  (ha_MeetOfLines:PySem.W.findIn K (.ref c_MeetOfLines) "__class__" = some (some (.builtin "object.__class__")))
  (hm_MeetOfLines:PySem.W.mroIn K c_MeetOfLines (.type "object")=some true)
  (na_MeetOfLines_words:PySem.W.findIn K (.ref c_MeetOfLines) "words" = some none)
  (na_MeetOfLines_others:PySem.W.findIn K (.ref c_MeetOfLines) "others" = some none)
  (na_MeetOfLines_wanted:PySem.W.findIn K (.ref c_MeetOfLines) "wanted" = some none)
  (mt_MeetOfLines_named:PySem.W.findIn K (.ref c_MeetOfLines) "named" = some (some (.ref f_named)))
  (mt_MeetOfLines_needs:PySem.W.findIn K (.ref c_MeetOfLines) "needs" = some (some (.ref f_needs)))
  (pg_MeetWithRing:PySem.W.plainGet K c_MeetWithRing Str.empty=true)
  (hd_MeetWithRing:PySem.W.hasDictIn K c_MeetWithRing=true)
  (po_MeetWithRing:PySem.W.plainOver K c_MeetWithRing=true)
  (sa_MeetWithRing:PySem.W.findIn K (.ref c_MeetWithRing) "__setattr__" = some (some (.builtin "object.__setattr__")))
  (ha_MeetWithRing:PySem.W.findIn K (.ref c_MeetWithRing) "__class__" = some (some (.builtin "object.__class__")))
  (hm_MeetWithRing:PySem.W.mroIn K c_MeetWithRing (.type "object")=some true)
  (na_MeetWithRing_words:PySem.W.findIn K (.ref c_MeetWithRing) "words" = some none)
  (na_MeetWithRing_others:PySem.W.findIn K (.ref c_MeetWithRing) "others" = some none)
  (na_MeetWithRing_wanted:PySem.W.findIn K (.ref c_MeetWithRing) "wanted" = some none)
  (na_MeetWithRing_word:PySem.W.findIn K (.ref c_MeetWithRing) "word" = some none)
  (mt_MeetWithRing_named:PySem.W.findIn K (.ref c_MeetWithRing) "named" = some (some (.ref f_named)))
  (mt_MeetWithRing_needs:PySem.W.findIn K (.ref c_MeetWithRing) "needs" = some (some (.ref f_needs)))
  (mk1_LineThrough:PySem.W.makesIn K c_LineThrough=true)
  (mk2_LineThrough:PySem.W.findIn K (.ref c_LineThrough) "__init__" = some (some (.ref j_LineThrough)))
  (mk3_LineThrough:PySem.W.isFn K (.ref j_LineThrough)=true)
  (mk4_LineThrough:PySem.W.keepIn K (.ref c_LineThrough)=true)
  (lka_LineThrough:LkA K j_LineThrough "__init__" "LineThrough.__init__" st_qc)
  (mk1_RingThrough:PySem.W.makesIn K c_RingThrough=true)
  (mk2_RingThrough:PySem.W.findIn K (.ref c_RingThrough) "__init__" = some (some (.ref j_RingThrough)))
  (mk3_RingThrough:PySem.W.isFn K (.ref j_RingThrough)=true)
  (mk4_RingThrough:PySem.W.keepIn K (.ref c_RingThrough)=true)
  (lka_RingThrough:LkA K j_RingThrough "__init__" "RingThrough.__init__" st_qd)
  (mk1_MeetOfLines:PySem.W.makesIn K c_MeetOfLines=true)
  (mk2_MeetOfLines:PySem.W.findIn K (.ref c_MeetOfLines) "__init__" = some (some (.ref j_MeetOfLines)))
  (mk3_MeetOfLines:PySem.W.isFn K (.ref j_MeetOfLines)=true)
  (mk4_MeetOfLines:PySem.W.keepIn K (.ref c_MeetOfLines)=true)
  (lka_MeetOfLines:LkA K j_MeetOfLines "__init__" "MeetOfLines.__init__" st_qe)
  (mk1_MeetWithRing:PySem.W.makesIn K c_MeetWithRing=true)
  (mk2_MeetWithRing:PySem.W.findIn K (.ref c_MeetWithRing) "__init__" = some (some (.ref j_MeetWithRing)))
  (mk3_MeetWithRing:PySem.W.isFn K (.ref j_MeetWithRing)=true)
  (mk4_MeetWithRing:PySem.W.keepIn K (.ref c_MeetWithRing)=true)
  (lka_MeetWithRing:LkA K j_MeetWithRing "__init__" "MeetWithRing.__init__" st_qa)
  (mk1_FirstPoint:PySem.W.makesIn K c_FirstPoint=true)
  (mk2_FirstPoint:PySem.W.findIn K (.ref c_FirstPoint) "__init__" = some (some (.ref j_FirstPoint)))
  (mk3_FirstPoint:PySem.W.isFn K (.ref j_FirstPoint)=true)
  (mk4_FirstPoint:PySem.W.keepIn K (.ref c_FirstPoint)=true)
  (lka_FirstPoint:LkA K j_FirstPoint "__init__" "FirstPoint.__init__" st_qf)
  (mk1_RingBy:PySem.W.makesIn K c_RingBy=true)
  (mk2_RingBy:PySem.W.findIn K (.ref c_RingBy) "__init__" = some (some (.ref j_RingBy)))
  (mk3_RingBy:PySem.W.isFn K (.ref j_RingBy)=true)
  (mk4_RingBy:PySem.W.keepIn K (.ref c_RingBy)=true)
  (lka_RingBy:LkA K j_RingBy "__init__" "RingBy.__init__" st_qr)
  (mf_named:PySem.W.isFn K (.ref f_named)=true)
  (mp_named:PySem.W.keepIn K (.ref f_named)=true)
  (lka_m_named:LkA K f_named "named" "Step.named" st_qo)
  (mf_needs:PySem.W.isFn K (.ref f_needs)=true)
  (mp_needs:PySem.W.keepIn K (.ref f_needs)=true)
  (lka_m_needs:LkA K f_needs "needs" "Step.needs" st_qp)
  (b1:PySem.W.specialIn K (.ref c_Step) "__getattribute__" = some (some (.builtin "type.__getattribute__")))
  (b2:PySem.W.readsIn K c_Step (.type "type")=true)
  (b3:PySem.W.findCls K (.ref c_Step) (.type "type") "__init__" = some (.val (.ref j_base)))
  (b4:PySem.W.keepIn K (.ref j_base)=true)
  (lka_base:LkA K j_base "__init__" "Step.__init__" hR')
  (gt1_POINT:GTK K "POINT" ["point"])
  (gt1_LINE:GTK K "LINE" ["line"])
  (gt1_RING:GTK K "RING" ["ring"])
  (gt2_LINE_OR_RING:GTK K "LINE_OR_RING" ["line", "ring"])
  (l_qE:Lk K "common" st_qE)
  (l_qx:Lk K "is_plain" st_qx)
  (l_qn:Lk K "figures_of" st_qn)
  (l_qz:Lk K "is_name" st_qz)
  (l_qy:Lk K "_law_stir" st_qy)
  (l_qs:Lk K "_law_which" st_qs)
  (l_qt:Lk K "_law_class" st_qt)
  (l_qu:Lk K "are_parts" st_qu)
  (l_qg:Lk K "fraction_text" st_qg)
  (l_qv:Lk K "are_names" st_qv)
  (l_qq:Lk K "_law_cell" st_qq)
  (l_qA:Lk K "_law_due" st_qA)
  (l_qh:Lk K "fraction_read" st_qh)
  (l_qB:Lk K "_law_row" st_qB)
  (l_qk:Lk K "step_of_line" st_qk)
  (l_ql:Lk K "step_of_meet" st_ql)
  (l_qb:Lk K "fraction_or_none" st_qb)
  (l_qi:Lk K "step_of_point" st_qi)
  (l_qm:Lk K "step_of_ring" st_qm)
  (l_qj:Lk K "step_of_words" st_qj)
  (l_qC:Lk K "step_of" st_qC)
  (l_qD:Lk K "changed" st_qD)
  (l_qw:Lk K "_law_asked" st_qw)
  (n_law:PySem.W.nsIn K mainGlobals "law" = some (some (.ref f_law)))
  (l_law:K.lookup f_law=some ⟨oc_law,od_law,.func (PySem.W.fnOf "law" "law" (defArgs cb') (defBody cb') (defScope cb') .none kV_law dc_law pm_law an_law cd_law ct_law),sl_law⟩)
  (c_law:PySem.W.codeIn K cd_law "law" = true)
  (k_law:PySem.W.keepIn K (.ref f_law)=true)
  (n_FIGURES:PySem.W.nsIn K mainGlobals "FIGURES" = some (some (.str "0123456789" t_FIGURES)))
  (n_MOST_FIGURES:PySem.W.nsIn K mainGlobals "MOST_FIGURES" = some (some (.int 60 t_MOST_FIGURES)))
  (n_LETTERS:PySem.W.nsIn K mainGlobals "LETTERS" = some (some (.str "abcdefghijklmnopqrstuvwxyz" t_LETTERS)))
  (n_MOST_LETTERS:PySem.W.nsIn K mainGlobals "MOST_LETTERS" = some (some (.int 6 t_MOST_LETTERS)))
  (z_ValueError:PySem.W.nsIn K mainGlobals "ValueError" = some none)
  (z_abs:PySem.W.nsIn K mainGlobals "abs" = some none)
  (z_all:PySem.W.nsIn K mainGlobals "all" = some none)
  (z_enumerate:PySem.W.nsIn K mainGlobals "enumerate" = some none)
  (z_int:PySem.W.nsIn K mainGlobals "int" = some none)
  (z_isinstance:PySem.W.nsIn K mainGlobals "isinstance" = some none)
  (z_len:PySem.W.nsIn K mainGlobals "len" = some none)
  (z_list:PySem.W.nsIn K mainGlobals "list" = some none)
  (z_min:PySem.W.nsIn K mainGlobals "min" = some none)
  (z_range:PySem.W.nsIn K mainGlobals "range" = some none)
  (z_reversed:PySem.W.nsIn K mainGlobals "reversed" = some none)
  (z_str:PySem.W.nsIn K mainGlobals "str" = some none)
  (e0_NoChange:PySem.W.findIn K (.ref c_NoChange) "__getattribute__" = some (some (.builtin "BaseException.__getattribute__")))
  (e1_NoChange:PySem.W.findIn K (.ref c_NoChange) "__getattr__" = some none)
  (e2_NoChange:PySem.W.hasDictIn K c_NoChange=true)
  (e3_NoChange:PySem.W.findIn K (.ref c_NoChange) "__class__" = some (some (.builtin "object.__class__")))
  (e6_NoChange:PySem.W.mroIn K c_NoChange (.type "object")=some true)
  (e7_NoChange:PySem.W.mroIn K c_NoChange (.type "BaseException")=some true)
  (e4:PySem.W.specialIn K (.builtin "object.__class__") "__get__" = some (some (.builtin "getset_descriptor.__get__")))
  (e5:PySem.W.takesIn K (.builtin "object.__class__")=some true)
  (s_NoChange_HallError:PySem.W.exmOne K (.ref c_NoChange) (.ref c_HallError)=some true)
  (i_int_str:PySem.W.kitOne K (.type "int") (.type "str")=some false)
  (i_bool_str:PySem.W.kitOne K (.type "bool") (.type "str")=some false)
  (i_NoneType_str:PySem.W.kitOne K (.type "NoneType") (.type "str")=some false)
  (i_str_str:PySem.W.kitOne K (.type "str") (.type "str")=some true)
  (i_tuple_str:PySem.W.kitOne K (.type "tuple") (.type "str")=some false)
  (i_list_str:PySem.W.kitOne K (.type "list") (.type "str")=some false)
  (i_dict_str:PySem.W.kitOne K (.type "dict") (.type "str")=some false)
  (i_NoChange_Below:PySem.W.kitOne K (.ref c_NoChange) (.ref c_Below)=some false)
  (i_NoChange_NoText:PySem.W.kitOne K (.ref c_NoChange) (.ref c_NoText)=some false)
  (i_NoChange_NoOver:PySem.W.kitOne K (.ref c_NoChange) (.ref c_NoOver)=some false)
  (i_NoChange_NoRoom:PySem.W.kitOne K (.ref c_NoChange) (.ref c_NoRoom)=some false)
  (i_NoChange_NoLine:PySem.W.kitOne K (.ref c_NoChange) (.ref c_NoLine)=some false)
  (i_NoChange_NoRing:PySem.W.kitOne K (.ref c_NoChange) (.ref c_NoRing)=some false)
  (i_NoChange_NoRow:PySem.W.kitOne K (.ref c_NoChange) (.ref c_NoRow)=some false)
  (i_NoChange_TooMany:PySem.W.kitOne K (.ref c_NoChange) (.ref c_TooMany)=some false)
  (i_NoChange_TooGreat:PySem.W.kitOne K (.ref c_NoChange) (.ref c_TooGreat)=some false)
  (i_NoChange_NoClaim:PySem.W.kitOne K (.ref c_NoChange) (.ref c_NoClaim)=some false)
  (i_NoChange_NoMove:PySem.W.kitOne K (.ref c_NoChange) (.ref c_NoMove)=some false)
  (i_NoChange_NoChange:PySem.W.kitOne K (.ref c_NoChange) (.ref c_NoChange)=some true)
  (i_NoChange_NoAsk:PySem.W.kitOne K (.ref c_NoChange) (.ref c_NoAsk)=some false)
  (i_NoChange_NoMeet:PySem.W.kitOne K (.ref c_NoChange) (.ref c_NoMeet)=some false)
  (i_NoChange_Twice:PySem.W.kitOne K (.ref c_NoChange) (.ref c_Twice)=some false)
  (i_NoChange_NoName:PySem.W.kitOne K (.ref c_NoChange) (.ref c_NoName)=some false)
  (i_NoChange_NoKind:PySem.W.kitOne K (.ref c_NoChange) (.ref c_NoKind)=some false)
  (i_NoChange_NoCarry:PySem.W.kitOne K (.ref c_NoChange) (.ref c_NoCarry)=some false)
  (i_NoChange_HallError:PySem.W.kitOne K (.ref c_NoChange) (.ref c_HallError)=some true)
  (i_NoChange_ValueError:PySem.W.kitOne K (.ref c_NoChange) (.type "ValueError")=some true)
  : ∃fd:FuncData,(∀(s:Shared) (v:Value),BindsTo s fd ⟨[v],[]⟩ [("_law_script",v)])/\∀base:Heap,K.In base->base.Ns mainGlobals mg->FnOk l.prog w K mg base (CX1 l.prog w) 10 fa fd ["_law_script"] (spD K F_law):=by
 have e:=hfa.symm.trans (PySem.W.mg_of X G n_law)
 cases e
 have F_law:=gA' (st:=cb') l_law c_law k_law;have Y_NoChange:∀{V:Value} {b:Bool},PySem.W.kitOne K (.ref c_NoChange) V=some b->IsOk K V b (.exc "NoChange"):=fun h C hC=>by cases n_NoChange.symm.trans hC; exact ⟨⟨e0_NoChange,e1_NoChange,e2_NoChange,e3_NoChange,e4,e5,e6_NoChange,e7_NoChange⟩,h⟩
 have CL_FirstPoint:Cls K c_FirstPoint:=⟨pg_FirstPoint,hd_FirstPoint,po_FirstPoint,sa_FirstPoint⟩;have CL_LineThrough:Cls K c_LineThrough:=⟨pg_LineThrough,hd_LineThrough,po_LineThrough,sa_LineThrough⟩;have CL_RingThrough:Cls K c_RingThrough:=⟨pg_RingThrough,hd_RingThrough,po_RingThrough,sa_RingThrough⟩;have CL_RingBy:Cls K c_RingBy:=⟨pg_RingBy,hd_RingBy,po_RingBy,sa_RingBy⟩;have CL_MeetOfLines:Cls K c_MeetOfLines:=⟨pg_MeetOfLines,hd_MeetOfLines,po_MeetOfLines,sa_MeetOfLines⟩;have CL_MeetWithRing:Cls K c_MeetWithRing:=⟨pg_MeetWithRing,hd_MeetWithRing,po_MeetWithRing,sa_MeetWithRing⟩;have cs:∀{Q:Addr->Prop},Q c_FirstPoint->Q c_LineThrough->Q c_RingThrough->Q c_RingBy->Q c_MeetOfLines->Q c_MeetWithRing->∀c,isO c=true->∀C,PySem.W.nsIn K mainGlobals c=some (some (.ref C))->Q C:=by
  intro Q h_FirstPoint h_LineThrough h_RingThrough h_RingBy h_MeetOfLines h_MeetWithRing c hc C hC;unfold isO at hc;simp only [List.contains_cons,List.contains_nil,Bool.or_false,Bool.or_eq_true,beq_iff_eq] at hc;rcases hc with rfl | rfl | rfl | rfl | rfl | rfl
  ·cases n_FirstPoint.symm.trans hC; exact h_FirstPoint
  ·cases n_LineThrough.symm.trans hC; exact h_LineThrough
  ·cases n_RingThrough.symm.trans hC; exact h_RingThrough
  ·cases n_RingBy.symm.trans hC; exact h_RingBy
  ·cases n_MeetOfLines.symm.trans hC; exact h_MeetOfLines
  ·cases n_MeetWithRing.symm.trans hC; exact h_MeetWithRing
 have T:Txt K mg { c_HallError:=c_HallError,c_Below:=c_Below,c_NoText:=c_NoText,c_NoOver:=c_NoOver,c_NoRoom:=c_NoRoom,c_NoLine:=c_NoLine,c_NoRing:=c_NoRing,c_NoRow:=c_NoRow,c_TooMany:=c_TooMany,c_TooGreat:=c_TooGreat,c_NoClaim:=c_NoClaim,c_NoMove:=c_NoMove,c_NoChange:=c_NoChange,c_NoAsk:=c_NoAsk,c_NoMeet:=c_NoMeet,c_Twice:=c_Twice,c_NoName:=c_NoName,c_NoKind:=c_NoKind,c_NoCarry:=c_NoCarry,c_Step:=c_Step,c_FirstPoint:=c_FirstPoint,c_LineThrough:=c_LineThrough,c_RingThrough:=c_RingThrough,c_RingBy:=c_RingBy,c_MeetOfLines:=c_MeetOfLines,c_MeetWithRing:=c_MeetWithRing }:={
  m_HallError:=PySem.W.mg_of X G n_HallError
  m_Below:=PySem.W.mg_of X G n_Below
  m_NoText:=PySem.W.mg_of X G n_NoText
  m_NoOver:=PySem.W.mg_of X G n_NoOver
  m_NoRoom:=PySem.W.mg_of X G n_NoRoom
  m_NoLine:=PySem.W.mg_of X G n_NoLine
  m_NoRing:=PySem.W.mg_of X G n_NoRing
  m_NoRow:=PySem.W.mg_of X G n_NoRow
  m_TooMany:=PySem.W.mg_of X G n_TooMany
  m_TooGreat:=PySem.W.mg_of X G n_TooGreat
  m_NoClaim:=PySem.W.mg_of X G n_NoClaim
  m_NoMove:=PySem.W.mg_of X G n_NoMove
  m_NoChange:=PySem.W.mg_of X G n_NoChange
  n_NoChange:=n_NoChange
  x_NoChange:=x_NoChange
  m_NoAsk:=PySem.W.mg_of X G n_NoAsk
  m_NoMeet:=PySem.W.mg_of X G n_NoMeet
  m_Twice:=PySem.W.mg_of X G n_Twice
  m_NoName:=PySem.W.mg_of X G n_NoName
  m_NoKind:=PySem.W.mg_of X G n_NoKind
  m_NoCarry:=PySem.W.mg_of X G n_NoCarry
  m_Step:=PySem.W.mg_of X G n_Step
  m_FirstPoint:=PySem.W.mg_of X G n_FirstPoint
  m_LineThrough:=PySem.W.mg_of X G n_LineThrough
  m_RingThrough:=PySem.W.mg_of X G n_RingThrough
  m_RingBy:=PySem.W.mg_of X G n_RingBy
  m_MeetOfLines:=PySem.W.mg_of X G n_MeetOfLines
  m_MeetWithRing:=PySem.W.mg_of X G n_MeetWithRing
  m_FIGURES:=⟨_,PySem.W.mg_of X G n_FIGURES⟩
  m_MOST_FIGURES:=⟨_,PySem.W.mg_of X G n_MOST_FIGURES⟩
  m_LETTERS:=⟨_,PySem.W.mg_of X G n_LETTERS⟩
  m_MOST_LETTERS:=⟨_,PySem.W.mg_of X G n_MOST_LETTERS⟩
  z_ValueError:=PySem.W.mg_none_of X G z_ValueError
  z_abs:=PySem.W.mg_none_of X G z_abs
  z_all:=PySem.W.mg_none_of X G z_all
  z_enumerate:=PySem.W.mg_none_of X G z_enumerate
  z_int:=PySem.W.mg_none_of X G z_int
  z_isinstance:=PySem.W.mg_none_of X G z_isinstance
  z_len:=PySem.W.mg_none_of X G z_len
  z_list:=PySem.W.mg_none_of X G z_list
  z_min:=PySem.W.mg_none_of X G z_min
  z_range:=PySem.W.mg_none_of X G z_range
  z_reversed:=PySem.W.mg_none_of X G z_reversed
  z_str:=PySem.W.mg_none_of X G z_str
  o_words:=cs (Q:=fun C=>Cls K C/\NoAttr K C "words") ⟨CL_FirstPoint,na_FirstPoint_words⟩ ⟨CL_LineThrough,na_LineThrough_words⟩ ⟨CL_RingThrough,na_RingThrough_words⟩ ⟨CL_RingBy,na_RingBy_words⟩ ⟨CL_MeetOfLines,na_MeetOfLines_words⟩ ⟨CL_MeetWithRing,na_MeetWithRing_words⟩
  o_others:=cs (Q:=fun C=>Cls K C/\NoAttr K C "others") ⟨CL_FirstPoint,na_FirstPoint_others⟩ ⟨CL_LineThrough,na_LineThrough_others⟩ ⟨CL_RingThrough,na_RingThrough_others⟩ ⟨CL_RingBy,na_RingBy_others⟩ ⟨CL_MeetOfLines,na_MeetOfLines_others⟩ ⟨CL_MeetWithRing,na_MeetWithRing_others⟩
  m_POINT:=iQ' X G gt1_POINT
  m_LINE:=iQ' X G gt1_LINE
  m_RING:=iQ' X G gt1_RING
  m_LINE_OR_RING:=iQ' X G gt2_LINE_OR_RING
  s_HallError:=by
   intro x C hC hs;unfold sub_HallError at hs
   split at hs
   ·rename_i e; subst e; cases n_NoChange.symm.trans hC; exact s_NoChange_HallError
   cases hs
  i_ValueError:=by
   exact aN' (Y_NoChange i_NoChange_ValueError)
  i_HallError:=by
   exact aN' (Y_NoChange i_NoChange_HallError)
  i_NoCarry:=by
   exact aN' (Y_NoChange i_NoChange_NoCarry)
  i_NoKind:=by
   exact aN' (Y_NoChange i_NoChange_NoKind)
  i_NoName:=by
   exact aN' (Y_NoChange i_NoChange_NoName)
  i_Twice:=by
   exact aN' (Y_NoChange i_NoChange_Twice)
  i_NoMeet:=by
   exact aN' (Y_NoChange i_NoChange_NoMeet)
  i_NoAsk:=by
   exact aN' (Y_NoChange i_NoChange_NoAsk)
  i_NoChange:=by
   exact aN' (Y_NoChange i_NoChange_NoChange)
  i_NoMove:=by
   exact aN' (Y_NoChange i_NoChange_NoMove)
  i_NoClaim:=by
   exact aN' (Y_NoChange i_NoChange_NoClaim)
  i_TooGreat:=by
   exact aN' (Y_NoChange i_NoChange_TooGreat)
  i_TooMany:=by
   exact aN' (Y_NoChange i_NoChange_TooMany)
  i_NoRow:=by
   exact aN' (Y_NoChange i_NoChange_NoRow)
  i_NoRing:=by
   exact aN' (Y_NoChange i_NoChange_NoRing)
  i_NoLine:=by
   exact aN' (Y_NoChange i_NoChange_NoLine)
  i_NoRoom:=by
   exact aN' (Y_NoChange i_NoChange_NoRoom)
  i_NoOver:=by
   exact aN' (Y_NoChange i_NoChange_NoOver)
  i_NoText:=by
   exact aN' (Y_NoChange i_NoChange_NoText)
  i_Below:=by
   exact aN' (Y_NoChange i_NoChange_Below)
  i_str:=by
   intro d b hd
   cases d <;> simp only [Bk.is_str] at hd <;> cases hd <;> first | exact i_int_str | exact i_bool_str | exact i_NoneType_str | exact i_str_str | exact i_tuple_str | exact i_list_str | exact i_dict_str
 }
 refine ⟨PySem.W.fnOf "law" "law" (defArgs cb') (defBody cb') (defScope cb') .none kV_law dc_law pm_law an_law cd_law ct_law,fun s v=>.of_eq rfl,fun base _ _=>?_⟩;have GB:=lH' (P:=l.prog) (w:=w) (base:=base) (k:=0) (f1:="words") (f2:="others") (f3:="wanted") ⟨b1,b2,b3,b4⟩ lka_base (PySem.W.mg_of X G n_Step) kH' (by decide) (by decide) (by decide) fun _ _ _ _ _ _=>aM' (cG' (pv 0) (pv 1) rfl) (aM' (cG' (pv 0) (pv 2) rfl) (jK' (cG' (pv 0) (pv 3) rfl)));have G_qE:=ok_qE (P:=l.prog) (w:=w) (base:=base) T (ent2 X G l_qE);have G_qx:=ok_qx (P:=l.prog) (w:=w) (base:=base) T (ent1 X G l_qx);have G_qn:=ok_qn (P:=l.prog) (w:=w) (base:=base) T (ent1 X G l_qn);have G_qz:=ok_qz (P:=l.prog) (w:=w) (base:=base) T (ent1 X G l_qz);have G_qy:=ok_qy (P:=l.prog) (w:=w) (base:=base) T (ent2 X G l_qy);have G_qs:=ok_qs (P:=l.prog) (w:=w) (base:=base) T (ent1 X G l_qs);have G_qt:=ok_qt (P:=l.prog) (w:=w) (base:=base) T (ent1 X G l_qt);have G_qo:=ok_qo (P:=l.prog) (w:=w) (base:=base) T (entm lka_m_named (cs (Q:=fun C=>Cls K C/\Meth K C "named" f_named) ⟨CL_FirstPoint,⟨mt_FirstPoint_named,mf_named,mp_named⟩⟩ ⟨CL_LineThrough,⟨mt_LineThrough_named,mf_named,mp_named⟩⟩ ⟨CL_RingThrough,⟨mt_RingThrough_named,mf_named,mp_named⟩⟩ ⟨CL_RingBy,⟨mt_RingBy_named,mf_named,mp_named⟩⟩ ⟨CL_MeetOfLines,⟨mt_MeetOfLines_named,mf_named,mp_named⟩⟩ ⟨CL_MeetWithRing,⟨mt_MeetWithRing_named,mf_named,mp_named⟩⟩));have G_qp:=ok_qp (P:=l.prog) (w:=w) (base:=base) T (entm lka_m_needs (cs (Q:=fun C=>Cls K C/\Meth K C "needs" f_needs) ⟨CL_FirstPoint,⟨mt_FirstPoint_needs,mf_needs,mp_needs⟩⟩ ⟨CL_LineThrough,⟨mt_LineThrough_needs,mf_needs,mp_needs⟩⟩ ⟨CL_RingThrough,⟨mt_RingThrough_needs,mf_needs,mp_needs⟩⟩ ⟨CL_RingBy,⟨mt_RingBy_needs,mf_needs,mp_needs⟩⟩ ⟨CL_MeetOfLines,⟨mt_MeetOfLines_needs,mf_needs,mp_needs⟩⟩ ⟨CL_MeetWithRing,⟨mt_MeetWithRing_needs,mf_needs,mp_needs⟩⟩));have G_qu:=ok_qu T (ent1 X G l_qu) G_qx;have G_qg:=ok_qg T (ent1 X G l_qg) G_qn;have G_qv:=ok_qv T (ent1 X G l_qv) G_qz;have G_qq:=ok_qq T (ent2 X G l_qq) G_qy;have G_qA:=ok_qA T (ent2 X G l_qA) G_qt;have G_qh:=ok_qh T (ent1 X G l_qh) G_qE G_qu;have G_qB:=ok_qB T (ent1 X G l_qB) G_qq;have G_qc:=ok_qc T (entn ⟨mk1_LineThrough,mk2_LineThrough,mk3_LineThrough,mk4_LineThrough⟩ lka_LineThrough (PySem.W.mg_of X G n_LineThrough) n_LineThrough CL_LineThrough (by intro g hg; simp only [List.map_cons,List.map_nil,List.cons_append,List.nil_append,List.mem_cons,List.not_mem_nil,or_false] at hg; rcases hg with rfl | rfl | rfl <;> assumption) (fun _ _ _ _ _ _ us hl=>match us,hl with | [_,_,_,_],_=>rfl))  GB
 have G_qd:=ok_qd T (entn ⟨mk1_RingThrough,mk2_RingThrough,mk3_RingThrough,mk4_RingThrough⟩ lka_RingThrough (PySem.W.mg_of X G n_RingThrough) n_RingThrough CL_RingThrough (by intro g hg; simp only [List.map_cons,List.map_nil,List.cons_append,List.nil_append,List.mem_cons,List.not_mem_nil,or_false] at hg; rcases hg with rfl | rfl | rfl <;> assumption) (fun _ _ _ _ _ _ us hl=>match us,hl with | [_,_,_,_],_=>rfl))  GB
 have G_qe:=ok_qe T (entn ⟨mk1_MeetOfLines,mk2_MeetOfLines,mk3_MeetOfLines,mk4_MeetOfLines⟩ lka_MeetOfLines (PySem.W.mg_of X G n_MeetOfLines) n_MeetOfLines CL_MeetOfLines (by intro g hg; simp only [List.map_cons,List.map_nil,List.cons_append,List.nil_append,List.mem_cons,List.not_mem_nil,or_false] at hg; rcases hg with rfl | rfl | rfl <;> assumption) (fun _ _ _ _ _ _ us hl=>match us,hl with | [_,_,_,_],_=>rfl))  GB
 have G_qa:=ok_qa T (entn ⟨mk1_MeetWithRing,mk2_MeetWithRing,mk3_MeetWithRing,mk4_MeetWithRing⟩ lka_MeetWithRing (PySem.W.mg_of X G n_MeetWithRing) n_MeetWithRing CL_MeetWithRing (by intro g hg; simp only [List.map_cons,List.map_nil,List.cons_append,List.nil_append,List.mem_cons,List.not_mem_nil,or_false] at hg; rcases hg with rfl | rfl | rfl | rfl <;> assumption) (fun _ _ _ _ _ _ us hl=>match us,hl with | [_,_,_,_,_],_=>rfl))  GB
 have G_qk:=ok_qk T (ent1 X G l_qk) G_qc G_qv;have G_ql:=ok_ql T (ent1 X G l_ql) G_qa G_qv G_qe;have G_qb:=ok_qb T (ent1 X G l_qb) G_qh;have G_qf:=ok_qf T (entn ⟨mk1_FirstPoint,mk2_FirstPoint,mk3_FirstPoint,mk4_FirstPoint⟩ lka_FirstPoint (PySem.W.mg_of X G n_FirstPoint) n_FirstPoint CL_FirstPoint (by intro g hg; simp only [List.map_cons,List.map_nil,List.cons_append,List.nil_append,List.mem_cons,List.not_mem_nil,or_false] at hg; rcases hg with rfl | rfl | rfl | rfl | rfl <;> assumption) (fun _ _ _ _ _ _ us hl=>match us,hl with | [_,_,_,_],_=>rfl)) G_qg GB
 have G_qr:=ok_qr T (entn ⟨mk1_RingBy,mk2_RingBy,mk3_RingBy,mk4_RingBy⟩ lka_RingBy (PySem.W.mg_of X G n_RingBy) n_RingBy CL_RingBy (by intro g hg; simp only [List.map_cons,List.map_nil,List.cons_append,List.nil_append,List.mem_cons,List.not_mem_nil,or_false] at hg; rcases hg with rfl | rfl | rfl | rfl <;> assumption) (fun _ _ _ _ _ _ us hl=>match us,hl with | [_,_,_,_],_=>rfl)) G_qg GB
 have G_qi:=ok_qi T (ent1 X G l_qi) G_qb G_qf;have G_qm:=ok_qm T (ent1 X G l_qm) G_qb G_qr G_qv G_qd G_qz;have G_qj:=ok_qj T (ent1 X G l_qj) G_qi G_qk G_qm G_ql G_qz;have G_qC:=ok_qC T (ent1 X G l_qC) G_qj;have G_qD:=ok_qD T (ent2 X G l_qD) G_qo G_qp G_qC;have G_qw:=ok_qw T (ent2 X G l_qw) G_qD G_qs;exact lS' T F_law G_qy G_qA G_qw G_qB G_qq G_qt
theorem walk {l:PySem.W.OpenLaw} {q:Program} {loose:List Str} {XP:(Str->Option Value)->Heap->Prop} {YP:World->Heap->Prop} {d:DefRec} {K:Params->PySem.W.Frag} (hn:l.most=some 63) (hdf:d.params.defaults=[])
  (hY:∀(w:World) (h:Heap),YP w h->(K w.params).In h)
  (F:∀(w:World) (mg:Str->Option Value) (fa:Addr) (h:Heap),(K w.params).In h->h.Ns mainGlobals mg->mg d.name=some (.ref fa) ->
   ∃fd:FuncData,(∀(s:Shared) (u:Value),BindsTo s fd ⟨[u],[]⟩ [("_law_script",u)])/\∀base:Heap,(K w.params).In base->base.Ns mainGlobals mg->FnOk l.prog w (K w.params) mg base (CX1 l.prog w) 10 fa fd ["_law_script"] (spD (K w.params) F_law)) :
  PySem.W.WalkO q loose XP YP l.row.toRowW d [] (fun f vs=>PySem.call f vs) :=
 L2.walk_of (n:=63) (k:=10) (x:="_law_script") (CX:=fun w=>CX1 l.prog w) (sp:=fun w=>spD (K w.params) F_law) hn (by decide) hdf ⟨rfl,by decide,by decide⟩ hY F
  (fun w H a ns hl _ hS=>⟨[.lst (ns.map .int)],.cons (mkL hS (eM' ns)) .nil,by rw [mL' ns hl]; exact fun v H' _ r=>by rw [Rep] at r; exact r⟩)
  fun _ _ _ _ _ z=>by obtain ⟨_,_,_,_,_,_,_,_,_,_,z⟩:=z; exact z
end K37
open PySem PySem.W PyProof.Rows
def PySem.W.Fast.tw7953898207435596611:Unit:=()
def PySem.W.Fast.tw3675019860466434758:Unit:=()
def PySem.W.Fast.tw18353612288958628257:Unit:=()
def PySem.W.Fast.tw10585988150432919638:Unit:=()
def PySem.W.Fast.tw1515809850593159749:Unit:=()
def PySem.W.Fast.tw4128716640979122282:Unit:=()
def PySem.W.Fast.tw1504547364962118707:Unit:=()
def PySem.W.Fast.tw10109100717269598128:Unit:=()
def PySem.W.Fast.tw7124866338815516013:Unit:=()
def PySem.W.Fast.tw8957079071846786918:Unit:=()
def PySem.W.Fast.tw11215351843443617942:Unit:=()
def PySem.W.Fast.tw2238497969068177064:Unit:=()
def PySem.W.Fast.tw514282981183597932:Unit:=()
def PySem.W.Fast.tw2693106150938130901:Unit:=()
def PySem.W.Fast.tw13828557339916728269:Unit:=()
def PySem.W.Fast.tw2694044407784595095:Unit:=()
def PySem.W.Fast.tw8631505951954408991:Unit:=()
def PySem.W.Fast.tw12967716849391753814:Unit:=()
def PySem.W.Fast.tw4900311617225221756:Unit:=()
def PySem.W.Fast.tw13154946876952327622:Unit:=()
def PySem.W.Fast.tw7005658216562781402:Unit:=()
def PySem.W.Fast.tw12431223660989372805:Unit:=()
def PySem.W.Fast.tw13570749301388187273:Unit:=()
def PySem.W.Fast.tw15581932458826915603:Unit:=()
def PySem.W.Fast.tw16912028748152982278:Unit:=()
def PySem.W.Fast.tw12665012853483335528:Unit:=()
def PySem.W.Fast.tw711466277891606703:Unit:=()
def PySem.W.Fast.tw6466291596116767470:Unit:=()
def PySem.W.Fast.tw4318076836692409003:Unit:=()
def PySem.W.Fast.tw16302659260670357970:Unit:=()
def PySem.W.Fast.tw2343414917668919816:Unit:=()
def PySem.W.Fast.tw10780502615722592329:Unit:=()
def PySem.W.Fast.tw7189935274328750052:Unit:=()
def PySem.W.Fast.tw6544412840778399049:Unit:=()
def PySem.W.Fast.tw13001376815341234054:Unit:=()
def PySem.W.Fast.tw16118341621718845458:Unit:=()
def PySem.W.Fast.tw4561465788612503017:Unit:=()
def PySem.W.Fast.tw17999590375061106689:Unit:=()
def PySem.W.Fast.tw6669862159217240360:Unit:=()
def PySem.W.Fast.tw116300805126311032:Unit:=()
def PySem.W.Fast.tw1001685275315384773:Unit:=()
def PySem.W.Fast.tw15675923995418449890:Unit:=()
def PySem.W.Fast.tw11598085777153755037:Unit:=()
def PySem.W.Fast.tw17669962419679009042:Unit:=()
def PySem.W.Fast.tw1702099532312844104:Unit:=()
def PySem.W.Fast.tw8727241664158872993:Unit:=()
def PySem.W.Fast.tw12419203312956569964:Unit:=()
def PySem.W.Fast.tw8484443477988049780:Unit:=()
def PySem.W.Fast.tw17322872352524647408:Unit:=()
def PySem.W.Fast.tw14914112904174688418:Unit:=()
def PySem.W.Fast.tw1832315623926697733:Unit:=()
def PySem.W.Fast.tw9278949359756404284:Unit:=()
def PySem.W.Fast.tw17696631176241595061:Unit:=()
def PySem.W.Fast.tw22883667866494835:Unit:=()
def PySem.W.Fast.tw18285899281336581255:Unit:=()
def PySem.W.Fast.tw9029439697581906582:Unit:=()
def PySem.W.Fast.tw7768202928504680330:Unit:=()
def PySem.W.Fast.tw6048508185576494454:Unit:=()
def PySem.W.Fast.tw2280064747570988461:Unit:=()
def PySem.W.Fast.tw982698715388357327:Unit:=()
def PySem.W.Fast.tw30152646030466707:Unit:=()
def PySem.W.Fast.tw4432636240661112451:Unit:=()
def PySem.W.Fast.tw17827864761160436891:Unit:=()
def PySem.W.Fast.tw12442354577451737581:Unit:=()
def PySem.W.Fast.tw6167741779099070166:Unit:=()
def PySem.W.Fast.tw9715969273615754855:Unit:=()
def PySem.W.Fast.tw24169270041428969:Unit:=()
def PySem.W.Fast.tw16407528232283487987:Unit:=()
def PySem.W.Fast.tw5527688446380413886:Unit:=()
def PySem.W.Fast.tw11546544138935315851:Unit:=()
def PySem.W.Fast.tw18252628416727978003:Unit:=()
def PySem.W.Fast.tw7352040393107237426:Unit:=()
def PySem.W.Fast.tw15360185909679412900:Unit:=()
def PySem.W.Fast.tw12966429132856838148:Unit:=()
def PySem.W.Fast.tw8291997209836766614:Unit:=()
def PySem.W.Fast.tw5333020976261234401:Unit:=()
def PySem.W.Fast.tw1567708490279420975:Unit:=()
def PySem.W.Fast.tw3336400941957510474:Unit:=()
def PySem.W.Fast.tw2012387660742529710:Unit:=()
def PySem.W.Fast.tw9659255523923188034:Unit:=()
def PySem.W.Fast.tw15497522707578937632:Unit:=()
def PySem.W.Fast.tw3442504628430469940:Unit:=()
def PySem.W.Fast.tw13740041478737240533:Unit:=()
def PySem.W.Fast.tw10567855127210337804:Unit:=()
def PySem.W.Fast.tw13305455186959454823:Unit:=()
def PySem.W.Fast.tw1340829546834343094:Unit:=()
def PySem.W.Fast.tw5302762452156333746:Unit:=()
def PySem.W.Fast.tw10516022858975861866:Unit:=()
def PySem.W.Fast.tw3732243186240990760:Unit:=()
def PySem.W.Fast.tw15090315588811306470:Unit:=()
def PySem.W.Fast.tw6654324497263389809:Unit:=()
def PySem.W.Fast.tw7951351055708195979:Unit:=()
def PySem.W.Fast.tw10358947191373379909:Unit:=()
def PySem.W.Fast.tw1887544032873624622:Unit:=()
set_option maxRecDepth 100000 in
set_option maxHeartbeats 0 in
theorem PySem.Challenge.cw_compasshall_k37_rows_changed_holds : PySem.Challenge.rw_compasshall_k37_rows_changed.Holds := by
  w_on; o_law; k_head; (case hw => w_witness2)
  k_fill
  refine K37.walk (l := PySem.Challenge.rw_compasshall_k37_rows_changed) rfl rfl (fun w h Y => PySem.W.kIn_of Y) ?F
  case F =>
    intro w mg fa h KX G hmg
    refine' K37.all_mk KX G hmg ?q0 ?q1 ?q2 ?q3 ?q4 ?q5 ?q6 ?q7 ?q8 ?q9 ?q10 ?q11 ?q12 ?q13 ?q14 ?q15 ?q16 ?q17 ?q18 ?q19 ?q20 ?q21 ?q22 ?q23 ?q24 ?q25 ?q26 ?q27 ?q28 ?q29 ?q30 ?q31 ?q32 ?q33 ?q34 ?q35 ?q36 ?q37 ?q38 ?q39 ?q40 ?q41 ?q42 ?q43 ?q44 ?q45 ?q46 ?q47 ?q48 ?q49 ?q50 ?q51 ?q52 ?q53 ?q54 ?q55 ?q56 ?q57 ?q58 ?q59 ?q60 ?q61 ?q62 ?q63 ?q64 ?q65 ?q66 ?q67 ?q68 ?q69 ?q70 ?q71 ?q72 ?q73 ?q74 ?q75 ?q76 ?q77 ?q78 ?q79 ?q80 ?q81 ?q82 ?q83 ?q84 ?q85 ?q86 ?q87 ?q88 ?q89 ?q90 ?q91 ?q92 ?q93 ?q94 ?q95 ?q96 ?q97 ?q98 ?q99 ?q100 ?q101 ?q102 ?q103 ?q104 ?q105 ?q106 ?q107 ?q108 ?q109 ?q110 ?q111 ?q112 ?q113 ?q114 ?q115 ?q116 ?q117 ?q118 ?q119 ?q120 ?q121 ?q122 ?q123 ?q124 ?q125 ?q126 ?q127 ?q128 ?q129 ?q130 ?q131 ?q132 ?q133 ?q134 ?q135 ?q136 ?q137 ?q138 ?q139 ?q140 ?q141 ?q142 ?q143 ?q144 ?q145 ?q146 ?q147 ?q148 ?q149 ?q150 ?q151 ?q152 ?q153 ?q154 ?q155 ?q156 ?q157 ?q158 ?q159 ?q160 ?q161 ?q162 ?q163 ?q164 ?q165 ?q166 ?q167 ?q168 ?q169 ?q170 ?q171 ?q172 ?q173 ?q174 ?q175 ?q176 ?q177 ?q178 ?q179 ?q180 ?q181 ?q182 ?q183 ?q184 ?q185 ?q186 ?q187 ?q188 ?q189 ?q190 ?q191 ?q192 ?q193 ?q194 ?q195 ?q196 ?q197 ?q198 ?q199 ?q200 ?q201 ?q202 ?q203 ?q204 ?q205 ?q206 ?q207 ?q208 ?q209 ?q210 ?q211 ?q212 ?q213 ?q214 ?q215 ?q216 ?q217 ?q218 ?q219 ?q220
    case q0 | q1 | q2 | q3 | q4 | q5 | q6 | q7 | q8 | q9 | q10 | q11 | q12 => k_is
    case q13 => k_exc
    case q14 | q15 | q16 | q17 | q18 | q19 | q20 | q21 | q22 | q23 | q24 | q25 | q26 | q27 | q28 | q29 | q30 | q31 | q32 | q33 | q34 | q35 | q36 | q37 | q38 | q39 | q40 | q41 | q42 | q43 | q44 | q45 | q46 | q47 | q48 | q49 | q50 | q51 | q52 | q53 | q54 | q55 | q56 | q57 | q58 | q59 | q60 | q61 | q62 | q63 | q64 | q65 | q66 | q67 | q68 | q69 | q70 | q71 | q72 | q73 | q74 | q75 | q76 | q77 | q78 | q79 | q80 | q81 | q82 | q83 | q84 | q85 | q86 | q87 | q88 | q89 | q90 | q91 | q92 | q93 | q94 | q95 | q96 | q97 | q98 | q99 | q100 => k_is
    case q101 => (refine' DL.lka_mk ?a ?b ?c; (case a => k_is); (case b => k_is); (case c => k_is))
    case q102 | q103 | q104 | q105 => k_is
    case q106 => (refine' DL.lka_mk ?a ?b ?c; (case a => k_is); (case b => k_is); (case c => k_is))
    case q107 | q108 | q109 | q110 => k_is
    case q111 => (refine' DL.lka_mk ?a ?b ?c; (case a => k_is); (case b => k_is); (case c => k_is))
    case q112 | q113 | q114 | q115 => k_is
    case q116 => (refine' DL.lka_mk ?a ?b ?c; (case a => k_is); (case b => k_is); (case c => k_is))
    case q117 | q118 | q119 | q120 => k_is
    case q121 => (refine' DL.lka_mk ?a ?b ?c; (case a => k_is); (case b => k_is); (case c => k_is))
    case q122 | q123 | q124 | q125 => k_is
    case q126 => (refine' DL.lka_mk ?a ?b ?c; (case a => k_is); (case b => k_is); (case c => k_is))
    case q127 | q128 => k_is
    case q129 => (refine' DL.lka_mk ?a ?b ?c; (case a => k_is); (case b => k_is); (case c => k_is))
    case q130 | q131 => k_is
    case q132 => (refine' DL.lka_mk ?a ?b ?c; (case a => k_is); (case b => k_is); (case c => k_is))
    case q133 | q134 | q135 | q136 => k_is
    case q137 => (refine' DL.lka_mk ?a ?b ?c; (case a => k_is); (case b => k_is); (case c => k_is))
    case q138 | q139 | q140 => (refine' DL.gtk1 ?a ?b; (case a => k_is); (case b => k_is))
    case q141 => (refine' DL.gtk2 ?a ?b; (case a => k_is); (case b => k_is))
    case q142 | q143 | q144 | q145 | q146 | q147 | q148 | q149 | q150 | q151 | q152 | q153 | q154 | q155 | q156 | q157 | q158 | q159 | q160 | q161 | q162 | q163 | q164 => (refine' DL.lk_mk ?a ?b ?c ?d; (case a => k_is); (case b => k_is); (case c => k_is); (case d => k_is))
    case q165 | q166 | q167 | q168 | q169 | q170 | q171 | q172 | q173 | q174 | q175 | q176 | q177 | q178 | q179 | q180 | q181 | q182 | q183 | q184 | q185 | q186 | q187 | q188 | q189 | q190 | q191 | q192 => k_is
    case q193 => kts_exm
    case q194 | q195 | q196 | q197 | q198 | q199 | q200 | q201 | q202 | q203 | q204 | q205 | q206 | q207 | q208 | q209 | q210 | q211 | q212 | q213 | q214 | q215 | q216 | q217 | q218 | q219 | q220 => kit_is
