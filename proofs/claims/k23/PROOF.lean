import PyProof.Rows.All
import Wide.All
import OpenK.AllK
import Wide.FinOn
import Lean
import PyProof.EqAt
import PyProof.EqKinds
import PyProof.TupleCall
import PySem.Challenge.RW_compasshall_k23_lines_meet
noncomputable section
set_option Elab.async false
set_option linter.all false
set_option maxRecDepth 100000
namespace L2
open PySem PySem.Spec PyProof.Rows
abbrev Key:=Sum Int Str
noncomputable def keyIs:Key->Value->Bool
 | .inl k,v=>Value.isInt k v
 | .inr x,v=>Value.isStrOf x v
noncomputable def keyH (w:World):Key->Int
 | .inl k=>hashInt k
 | .inr x=>hashStr w x
theorem aB':∀{k:Key} {v:Value},keyIs k v=true->(∃i t,k=Sum.inl i/\v=Value.int i t)\/(∃x t,k=Sum.inr x/\v=Value.str x t)
 | .inl i,v,h=>by
  obtain ⟨t,e⟩:=Value.isInt_shape (k:=i) (v:=v) h;exact .inl ⟨i,t,rfl,e⟩
 | .inr x,v,h=>by
  obtain ⟨t,e⟩:=Value.isStrOf_shape (x:=x) (v:=v) h;exact .inr ⟨x,t,rfl,e⟩
theorem jN' (a b:Int):decide ((Sum.inl a:Key)=Sum.inl b)=(a == b):=by
 by_cases e:a=b
 ·subst e; simp
 ·have h:¬(Sum.inl a:Key)=Sum.inl b:=fun q=>e (Sum.inl.inj q);rw [decide_eq_false h];exact (beq_eq_false_iff_ne.mpr e).symm
theorem jO' (a b:Str):decide ((Sum.inr a:Key)=Sum.inr b)=decide (a=b):=by
 by_cases e:a=b
 ·subst e; simp
 ·have h:¬(Sum.inr a:Key)=Sum.inr b:=fun q=>e (Sum.inr.inj q);rw [decide_eq_false h,decide_eq_false e]
theorem jP' (a:Int) (b:Str):decide ((Sum.inl a:Key)=Sum.inr b)=false:=decide_eq_false (fun q=>nomatch q)
theorem jQ' (a:Str) (b:Int):decide ((Sum.inr a:Key)=Sum.inl b)=false:=decide_eq_false (fun q=>nomatch q)
noncomputable def mixKind (prog:Program) (w:World):PySem.KeyKind prog w Key where
 is:=keyIs
 hash:=keyH w
 inj:=fun v a b ha hb=>by
  rcases aB' ha with ⟨i,t,rfl,rfl⟩ | ⟨x,t,rfl,rfl⟩
  ·rcases aB' hb with ⟨j,u,rfl,e⟩ | ⟨y,u,rfl,e⟩
   ·injection e with e1 _; rw [e1]
   ·exact nomatch e
  ·rcases aB' hb with ⟨j,u,rfl,e⟩ | ⟨y,u,rfl,e⟩
   ·exact nomatch e
   ·injection e with e1 _; rw [e1]
 byValue:=fun k v h=>by
  rcases aB' h with ⟨i,t,rfl,rfl⟩ | ⟨x,t,rfl,rfl⟩ <;> rfl
 pyHash:=fun hv h=>by
  rcases aB' hv with ⟨i,t,rfl,rfl⟩ | ⟨x,t,rfl,rfl⟩
  ·exact wpAny_pyHash_int h
  ·exact wpAny_pyHash_str h
 eqBool:=fun hu hv h=>by
  rcases aB' hu with ⟨i,t,rfl,rfl⟩ | ⟨x,t,rfl,rfl⟩
  ·rcases aB' hv with ⟨j,u,rfl,rfl⟩ | ⟨y,u,rfl,rfl⟩
   ·rw [jN'] at h; exact wpAny_eqBool_int h
   ·rw [jP'] at h; exact SeqAt.EqAt.int_str i t y u _ _ _ _ h
  ·rcases aB' hv with ⟨j,u,rfl,rfl⟩ | ⟨y,u,rfl,rfl⟩
   ·rw [jQ'] at h; exact SeqAt.EqAt.str_int x t j u _ _ _ _ h
   ·rw [jO'] at h; exact wpAny_eqBool_str h
 «strs»:=fun k x t v h=>by
  rcases aB' h with ⟨i,u,rfl,e⟩ | ⟨y,u,rfl,e⟩
  ·exact nomatch e
  ·injection e with e1 _
   subst e1
   cases v <;> rfl
inductive V where
 | non | bl (b:Bool) | int (i:Int) | str (x:Str) | byt (b:Array UInt8) | flt (b:UInt64) | ref (a:Addr) | ty (n:String)
 deriving DecidableEq
noncomputable def RelV:V->Value->Prop
 | .non,u=>u=Value.none
 | .bl b,u=>u=Value.bool b
 | .int i,u=>∃t,u=Value.int i t
 | .str x,u=>∃t,u=Value.str x t
 | .byt b,u=>∃t,u=Value.bytes b t
 | .flt b,u=>∃t,u=Value.float b t
 | .ref a,u=>u=Value.ref a
 | .ty n,u=>u=Value.type n
abbrev Vals:List V->List Value->Prop:=Paired RelV
theorem Vals.length {xs:List V} {us:List Value} (r:Vals xs us):xs.length=us.length:=Paired.length r
theorem Vals.get:∀{xs:List V} {us:List Value} {i:Nat} {x:V},Vals xs us->xs[i]? = some x->∃u,us[i]? = some u/\RelV x u
 | _,_,_,_,.nil,e=>by simp at e
 | _,_,0,_,.cons r _,e=>by simp at e; subst e; exact ⟨_,rfl,r⟩
 | _,_,i + 1,x,.cons _ t,e=>by
  obtain ⟨u,h1,h2⟩:=Vals.get (i:=i) (x:=x) t (by simpa using e);exact ⟨u,by simpa using h1,h2⟩
theorem Vals.set {x:V} {u:Value} (r:RelV x u):∀{xs:List V} {us:List Value} (i:Nat),Vals xs us->Vals (xs.set i x) (us.set i u)
 | _,_,_,.nil=>.nil
 | _,_,0,.cons _ t=>.cons r t
 | _,_,i + 1,.cons q t=>.cons q (Vals.set r i t)
theorem Vals.append:∀{xs ys:List V} {us ws:List Value},Vals xs us->Vals ys ws->Vals (xs ++ ys) (us ++ ws)
 | _,_,_,_,.nil,s=>s
 | _,_,_,_,.cons r t,s=>.cons r (Vals.append t s)
theorem Vals.take:∀{xs:List V} {us:List Value} (n:Nat),Vals xs us->Vals (xs.take n) (us.take n)
 | _,_,0,_=>.nil
 | _,_,_ + 1,.nil=>.nil
 | _,_,n + 1,.cons r t=>.cons r (Vals.take n t)
theorem Vals.drop:∀{xs:List V} {us:List Value} (n:Nat),Vals xs us->Vals (xs.drop n) (us.drop n)
 | _,_,0,r=>r
 | _,_,_ + 1,.nil=>.nil
 | _,_,n + 1,.cons _ t=>Vals.drop n t
noncomputable def RelO:Option V->Option Value->Prop
 | some v,some u=>RelV v u
 | none,none=>True
 | _,_=>False
noncomputable def KV {κ:Type}:List (κ×V)->List (κ×Value)->Prop:=Paired fun (p:κ×V) (q:κ×Value)=>p.1=q.1/\RelV p.2 q.2
noncomputable def kV:Key->V
 | .inl i=>.int i
 | .inr x=>.str x
inductive HO where
 | lst (xs:List V)
 | tup (xs:List V)
 | dK (kvs:List (Key×V)) | dT (kvs:List (List Key×V))
 | set (S:Int->Bool) (n:Nat)
 | ins (C dx:Addr) (fs:List (Str×V))
 | own (x:Addr)
 | xd (fs:List (Str×V))
 | met (f x:Addr)
 | rng (lo hi:Int)
 | frz (o:Obj) (u:HO)
 | tbl (ps:Array Value)
 | ext (φ:Heap->Prop)
abbrev Hp:=Addr->Option HO
noncomputable def upd (H:Hp) (a:Addr) (o:HO):Hp:=fun b=>if b=a then some o else H b
theorem an' {H:Hp} {a:Addr} {o:HO}:upd H a o a=some o:=by unfold upd; rw [if_pos rfl]
theorem al' {H:Hp} {a b:Addr} {o:HO} (h:b≠a):upd H a o b=H b:=by unfold upd; rw [if_neg h]
theorem az' {H:Hp} {a b:Addr} {o:HO} (h:H a=some o) (h':H b=none):a≠b:=by
 intro e; subst e; rw [h] at h'; cases h'
section
variable (P:Program) (w:World)
noncomputable def ObjOk (H:Hp) (h:Heap) (a:Addr):HO->Prop
 | .lst xs=>xs.length<=sizeLine/\∃(its:List Value) (n:Nat),Vals xs its/\h.get? a=some { cls:=.type "list",data:=.seq its.toArray n }
 | .tup xs=>xs.length<=sizeLine/\∃its:List Value,Vals xs its/\IsTup h a its.toArray
 | .dK kvs=>kvs.length<=sizeLine/\(a == sysModules)=false/\∃vs,KV kvs vs/\h.DictOf (mixKind P w) a vs
 | .dT kvs=>kvs.length<=sizeLine/\(a == sysModules)=false/\∃xs:List (List Key×Addr×Value),
   Paired (fun (p:List Key×V) (q:List Key×Addr×Value)=>p.1=q.1/\H q.2.1=some (.tup (p.1.map kV))/\RelV p.2 q.2.2) kvs xs /\
   ∃o es ep,h.get? a=some o/\o.ExactDict/\o.data=.dict es ep/\es.toList=xs.map (entryOfKey (tupleKind (mixKind P w)))/\(xs.map (·.1)).Nodup
 | .set S n=>h.SetOf (intKind P w) a S n
 | .ins C dx fs=>H dx=some (.own a)/\fs.length<=1000/\dx≠a/\h.get? a=some (PySem.W.instObj C dx) /\
   ∃mA,h.Ns1 dx mA/\(∀f,RelO (fs.lookup f) (mA f))/\PySem.Within mA (fs.map (·.1))
 | .own _=>∃o,h.get? a=some o
 | .xd fs=>∃mA,h.Ns1 a mA/\∀f,RelO (fs.lookup f) (mA f)
 | .rng lo hi=>∃t u v,h.get? a=some { cls:=.type "range",data:=.fields #[.int lo t,.int hi u,.int 1 v] }
 | .frz o u=>h.get? a=some o/\ObjOk H h a u
 | .tbl ps=>h.get? a=some { cls:=.none,data:=.fields ps }
 | .met f x=>h.get? a=some (PySem.W.methodObj (.ref f) (.ref x))
 | .ext φ=>φ h/\(∃o,h.get? a=some o)/\∀h1 h2:Heap,φ h1->(∀o,h1.get? a=some o->h2.get? a=some o)->φ h2
noncomputable def HOk (H:Hp) (h:Heap):Prop:=∀a o,H a=some o->ObjOk P w H h a o
end
section
variable {P:Program} {w:World} {H H':Hp} {h h':Heap} {a:Addr} {o:HO}
theorem ObjOk.lt (x:ObjOk P w H h a o):a < h.objs.size:=by
 cases o with
 | lst xs=>obtain ⟨_,_,_,_,e⟩:=x; exact Heap.lt_size e
 | tup xs=>obtain ⟨_,_,_,p⟩:=x; exact p.lt
 | dK kvs=>obtain ⟨_,_,_,_,o,_,_,e,_⟩:=x; exact Heap.lt_size e
 | dT kvs=>obtain ⟨_,_,_,_,o,_,_,e,_⟩:=x; exact Heap.lt_size e
 | set S n=>obtain ⟨o,_,_,_,e,_⟩:=x; exact Heap.lt_size e
 | ins C dx fs=>obtain ⟨_,_,_,e,_⟩:=x; exact Heap.lt_size e
 | own y=>obtain ⟨_,e⟩:=x; exact Heap.lt_size e
 | xd fs=>obtain ⟨_,⟨_,_,_,e,_⟩,_⟩:=x; exact Heap.lt_size e
 | rng lo hi=>obtain ⟨_,_,_,e⟩:=x; exact Heap.lt_size e
 | frz ob u=>obtain ⟨e,_⟩:=x; exact Heap.lt_size e
 | tbl ps=>exact Heap.lt_size (show h.get? a=some _ from x)
 | met f y=>exact Heap.lt_size (show h.get? a=some _ from x)
 | ext φ=>obtain ⟨_,⟨_,e⟩,_⟩:=x; exact Heap.lt_size e
theorem Paired.mapP {α β:Type} {F G:α->β->Prop}:∀{l₁:List α} {l₂:List β},Paired F l₁ l₂->(∀a b,F a b->G a b)->Paired G l₁ l₂
 | _,_,.nil,_=>.nil
 | _,_,.cons r t,f=>.cons (f _ _ r) (Paired.mapP t f)
theorem ObjOk.stay (x:ObjOk P w H h a o) (k:∀b u,(b=a\/H b=some (.own a))->h.get? b=some u->h'.get? b=some u)
  (ho:∀b,H b=some (.own a)->H' b=some (.own a)) (ht:∀b xs,H b=some (.tup xs)->H' b=some (.tup xs)):ObjOk P w H' h' a o:=by
 induction o with
 | lst xs=>obtain ⟨z,its,n,r,e⟩:=x; exact ⟨z,its,n,r,k _ _ (.inl rfl) e⟩
 | tup xs=>obtain ⟨z,its,r,ob,e,c⟩:=x; exact ⟨z,its,r,ob,k _ _ (.inl rfl) e,c⟩
 | dK kvs=>obtain ⟨z,y,vs,r,ob,es,ep,e,c⟩:=x; exact ⟨z,y,vs,r,ob,es,ep,k _ _ (.inl rfl) e,c⟩
 | dT kvs =>
  obtain ⟨z,y,xs,r,ob,es,ep,e,c⟩:=x;exact ⟨z,y,xs,Paired.mapP r fun p q z=>⟨z.1,ht _ _ z.2.1,z.2.2⟩,ob,es,ep,k _ _ (.inl rfl) e,c⟩
 | set S n=>obtain ⟨ob,es,ep,t,e,c⟩:=x; exact ⟨ob,es,ep,t,k _ _ (.inl rfl) e,c⟩
 | ins C dx fs =>
  obtain ⟨d,z,ne,e,mA,⟨od,es,ep,e2,c⟩,r⟩:=x;exact ⟨ho _ d,z,ne,k _ _ (.inl rfl) e,mA,⟨od,es,ep,k _ _ (.inr d) e2,c⟩,r⟩
 | own y=>obtain ⟨ob,e⟩:=x; exact ⟨ob,k _ _ (.inl rfl) e⟩
 | xd fs=>obtain ⟨mA,⟨od,es,ep,e,c⟩,r⟩:=x; exact ⟨mA,⟨od,es,ep,k _ _ (.inl rfl) e,c⟩,r⟩
 | rng lo hi=>obtain ⟨t,u,v,e⟩:=x; exact ⟨t,u,v,k _ _ (.inl rfl) e⟩
 | frz ob u ih=>obtain ⟨e,q⟩:=x; exact ⟨k _ _ (.inl rfl) e,ih q⟩
 | tbl ps =>
  have e:h.get? a=some { cls:=.none,data:=.fields ps }:=x;show h'.get? a=some { cls:=.none,data:=.fields ps };exact k a _ (.inl rfl) e
 | met f y =>
  have e:h.get? a=some (PySem.W.methodObj (.ref f) (.ref y)):=x;show h'.get? a=some (PySem.W.methodObj (.ref f) (.ref y));exact k a _ (.inl rfl) e
 | ext φ=>obtain ⟨p,⟨o,e⟩,st⟩:=x; exact ⟨st _ _ p fun o q=>k _ _ (.inl rfl) q,⟨o,k _ _ (.inl rfl) e⟩,st⟩
theorem HOk.lt (x:HOk P w H h) (e:H a=some o):a < h.objs.size:=(x a o e).lt
theorem HOk.fresh (x:HOk P w H h) (e:h.objs.size<=a):H a=none:=by
 cases q:H a with
 | none=>rfl
 | some u=>exact absurd (Nat.lt_of_lt_of_le (x.lt q) e) (Nat.lt_irrefl _)
theorem HOk.kept (x:HOk P w H h) (k:∀b u,h.get? b=some u->h'.get? b=some u):HOk P w H h':=fun a o e =>
 (x a o e).stay (fun b u _ q=>k b u q) (fun _ q=>q) fun _ _ q=>q
theorem HOk.laid (x:HOk P w H h) (k:∀b u,h.get? b=some u->h'.get? b=some u) (hp:h.objs.size<=a) (new:ObjOk P w (upd H a o) h' a o):HOk P w (upd H a o) h':=fun b u e=>by
 have hn:=x.fresh hp
 by_cases hb:b=a
 ·subst hb; rw [an'] at e; cases e; exact new
 ·rw [al' hb] at e;exact (x b u e).stay (fun c v _ q=>k c v q) (fun c q=>by rw [al' (az' q hn)]; exact q) fun c xs q=>by rw [al' (az' q hn)]; exact q
end
noncomputable def Rd (H:Hp) (a:Addr) (u:HO):Prop:=H a=some u\/∃o,H a=some (.frz o u)
theorem Rd.of {H:Hp} {a:Addr} {u:HO} (h:H a=some u):Rd H a u:=.inl h
theorem Rd.ok {P:Program} {w:World} {H:Hp} {h:Heap} {a:Addr} {u:HO} (r:Rd H a u) (x:HOk P w H h):ObjOk P w H h a u:=by
 rcases r with r | ⟨o,r⟩
 ·exact x a u r
 ·obtain ⟨_,q⟩:=x a _ r;exact q
noncomputable def Mut:Option HO->Prop
 | some (.lst _)=>True
 | some (.dK _)=>True
 | some (.dT _)=>True
 | some (.set _ _)=>True
 | some (.ins _ _ _)=>True
 | some (.ext _)=>True
 | _=>False
section
variable {P:Program} {w:World} {H:Hp} {h h':Heap} {x e:Addr} {o':HO}
theorem HOk.write (ok:HOk P w H h) (mu:Mut (H x)) (he:e=x\/H e=some (.own x)) (k:∀b u,b≠e->h.get? b=some u->h'.get? b=some u) (heo:∃u,h'.get? e=some u)
  (new:ObjOk P w (upd H x o') h' x o'):HOk P w (upd H x o') h':=fun b u q=>by
 have nown:∀c y,H c=some (.own y)->c≠x:=fun c y r z=>by subst z; rw [r] at mu; exact mu
 have ntup:∀c xs,H c=some (.tup xs)->c≠x:=fun c xs r z=>by subst z; rw [r] at mu; exact mu
 by_cases hb:b=x
 ·subst hb; rw [an'] at q; cases q; exact new
 ·rw [al' hb] at q
  by_cases hbe:b=e
  ·have q':H b=some (.own x):=by
    rcases he with z | z
    ·exact absurd (hbe.trans z) hb
    ·rw [hbe]; exact z
   rw [q] at q'; cases q';obtain ⟨v,hv⟩:=heo;exact ⟨v,by rw [hbe]; exact hv⟩
  ·refine (ok b u q).stay (fun c v hc r=>k c v ?_ r) (fun c r=>by rw [al' (nown c b r)]; exact r) fun c xs r=>by rw [al' (ntup c xs r)]; exact r
   rcases hc with rfl | hc
   ·exact hbe
   ·rintro rfl
    rcases he with z | z
    ·exact nown c b hc z
    ·rw [hc] at z; cases z; exact hb rfl
end
structure Un (fs ex:List Addr) (H H':Hp) (h h':Heap):Prop where
 keep:∀b o,h.get? b=some o->H b=none->b∉fs->b∉ex->h'.get? b=some o
 slot:∀b o,h.get? b=some o->H b=none->b∈fs->b∉ex->∃sl,h'.get? b=some { o with slots:=sl }
 free:∀b o,h.get? b=some o->H b=none->b∉ex->H' b=none
 there:∀b o,h.get? b=some o->b∉ex->∃o',h'.get? b=some o'
 tups:∀b xs,H b=some (.tup xs)->H' b=some (.tup xs)
 frzs:∀b o u,H b=some (.frz o u)->H' b=some (.frz o u)
 tbls:∀b ps,H b=some (.tbl ps)->∃more,H' b=some (.tbl (ps ++ more))
section
variable {fs fs' ex ex':List Addr} {H H1 H2:Hp} {h h1 h2 h':Heap} {a x e:Addr} {o:HO}
theorem Un.any (u:Un fs ex H H1 h h1) {b:Addr} {ob:Obj} (q:h.get? b=some ob) (n:H b=none) (hx:b∉ex):∃sl,h1.get? b=some { ob with slots:=sl }:=by
 by_cases hb:b∈fs
 ·exact u.slot b ob q n hb hx
 ·exact ⟨ob.slots,u.keep b ob q n hb hx⟩
theorem Un.trans (a:Un fs ex H H1 h h1) (b:Un fs ex H1 H2 h1 h2):Un fs ex H H2 h h2 where
 keep:=fun c ob q n hc hx=>b.keep c ob (a.keep c ob q n hc hx) (a.free c ob q n hx) hc hx
 slot:=fun c ob q n hc hx=>by
  obtain ⟨sl,e1⟩:=a.slot c ob q n hc hx;obtain ⟨sl',e2⟩:=b.slot c _ e1 (a.free c ob q n hx) hc hx;exact ⟨sl',e2⟩
 free:=fun c ob q n hx=>by
  obtain ⟨o',e1⟩:=a.there c ob q hx;exact b.free c o' e1 (a.free c ob q n hx) hx
 there:=fun c ob q hx=>by
  obtain ⟨o',e1⟩:=a.there c ob q hx;exact b.there c o' e1 hx
 tups:=fun c xs q=>b.tups c xs (a.tups c xs q)
 frzs:=fun c ob xs q=>b.frzs c ob xs (a.frzs c ob xs q)
 tbls:=fun c ps q=>by
  obtain ⟨m1,e1⟩:=a.tbls c ps q;obtain ⟨m2,e2⟩:=b.tbls c _ e1;exact ⟨m1 ++ m2,by rw [e2,Array.append_assoc]⟩
theorem Un.kept (k:∀b u,h.get? b=some u->h'.get? b=some u):Un fs ex H H h h' :=
 ⟨fun b ob q _ _ _=>k b ob q,fun b ob q _ _ _=>⟨ob.slots,k b ob q⟩,fun _ _ _ n _=>n,fun b ob q _=>⟨ob,k b ob q⟩,fun _ _ q=>q,fun _ _ _ q=>q,fun _ ps q=>⟨#[],by rw [q]; simp⟩⟩
theorem Un.refl:Un fs ex H H h h:=Un.kept fun _ _ q=>q
theorem Un.laid (k:∀b u,h.get? b=some u->h'.get? b=some u) (hp:h.objs.size<=a) (hn:H a=none):Un fs ex H (upd H a o) h h' where
 keep:=fun b u q _ _ _=>k b u q
 slot:=fun b u q _ _ _=>⟨u.slots,k b u q⟩
 free:=fun b u q n _=>by rw [al' (Nat.ne_of_lt (Nat.lt_of_lt_of_le (Heap.lt_size q) hp))]; exact n
 there:=fun b u q _=>⟨u,k b u q⟩
 tups:=fun b xs q=>by rw [al' (az' q hn)]; exact q
 frzs:=fun b u xs q=>by rw [al' (az' q hn)]; exact q
 tbls:=fun b ps q=>⟨#[],by rw [al' (az' q hn),q]; simp⟩
theorem Un.write (mu:Mut (H x)) (he:e=x\/H e=some (.own x)) (k:∀b u,b≠e->h.get? b=some u->h'.get? b=some u) (heo:∃u,h'.get? e=some u):Un fs ex H (upd H x o) h h':=by
 have hx:∀b,H b=none->b≠x:=fun b n z=>by subst z; rw [n] at mu; exact mu
 have hb:∀b,H b=none->b≠e:=fun b n z=>by
  subst z;rcases he with r | r
  ·exact hx b n r
  ·rw [n] at r; cases r
 have hm:∀b u,H b=some u->¬Mut (some u)->b≠x:=fun b u q nm z=>by subst z; rw [q] at mu; exact nm mu
 refine ⟨fun b u q n _ _=>k b u (hb b n) q,fun b u q n _ _=>⟨u.slots,k b u (hb b n) q⟩,fun b u q n _=>by rw [al' (hx b n)]; exact n,fun b u q _=>?_,
  fun b xs q=>by rw [al' (hm b _ q fun z=>z)]; exact q,fun b u xs q=>by rw [al' (hm b _ q fun z=>z)]; exact q,fun b ps q=>⟨#[],by rw [al' (hm b _ q fun z=>z),q]; simp⟩⟩
 by_cases hbe:b=e
 ·subst hbe; exact heo
 ·exact ⟨u,k b u hbe q⟩
theorem Un.mono (u:Un fs ex H H1 h h1) (hs:∀b∈fs,b∈fs') (hx:∀b∈ex,b∈ex'):Un fs' ex' H H1 h h1 :=
 ⟨fun b ob q n hb he=>u.keep b ob q n (fun z=>hb (hs b z)) fun z=>he (hx b z),fun _ _ q n _ he=>u.any q n fun z=>he (hx _ z),fun b ob q n he=>u.free b ob q n fun z=>he (hx b z),fun b ob q he=>u.there b ob q fun z=>he (hx b z),u.tups,u.frzs,u.tbls⟩
end
noncomputable def trk (h:Heap) (H:Hp):List Addr:=(List.range h.objs.size).filter fun a=>(H a).isSome
noncomputable def hidT (h:Heap) (H:Hp):Heap:=PySem.W.hideAll h (trk h H)
theorem fO' (h:Heap) (H:Hp):(hidT h H).objs.size=h.objs.size:=PySem.W.hideAll_size _ _
theorem gW' {h:Heap} {H:Hp} {b:Addr} {o:Obj} (e:h.get? b=some o) (n:H b=none):(hidT h H).get? b=some o :=
 PySem.W.hideAll_get _ e fun hm=>by
  have q:(H b).isSome=true:=(List.mem_filter.mp hm).2;rw [n] at q; simp at q
theorem iH' {h:Heap} {H:Hp} {b:Addr} {o:Obj} (e:(hidT h H).get? b=some o):h.get? b=some o/\H b=none:=by
 have e':h.get? b=some o:=PySem.W.of_hideAll (trk h H) e;refine ⟨e',?_⟩
 cases q:H b with
 | none=>rfl
 | some x =>
  have hm:b∈trk h H:=List.mem_filter.mpr ⟨List.mem_range.mpr (Heap.lt_size e'),by simp [q]⟩;have z:(hidT h H).get? b=none:=PySem.W.hideAll_none (trk h H) hm;rw [z] at e; cases e
noncomputable def allNews (g h:Heap) (L:Addr):List (Addr×Obj):=(List.range h.objs.size).filterMap fun a=>if a=L\/(g.get? a).isSome=true then none else (h.get? a).map fun o=>(a,o)
noncomputable def rest (g h:Heap) (L d:Addr):List (Addr×Obj):=(allNews g h L).filter fun p=>decide (p.1≠d)
structure Mod (K:PySem.W.Frag) (mg:Str->Option Value) (base:Heap):Prop where
 kin:K.In base
 glob:base.Ns mainGlobals mg
 blt:∃mb,base.Ns builtinsNs mb/\∀x:Str,x≠"__name__"->mb x=bootBuiltins x
 nolimit:base.NoLimit
structure Cx where
 prog:Program
 w:World
 K:PySem.W.Frag
 mg:Str->Option Value
 base:Heap
 A:Around
 N:List Str
 s₀:Shared
 H₀:Hp
 env:Env
 outer:List Env
 stack:List Env
 ex:List Addr
 fn:Str->Bool
 calm:Bool
 pn:List (Addr×Obj)
 xe:Value->Shared->Prop
noncomputable def frs (l:List Env):List Addr:=l.filterMap (·.frame)
abbrev Cx.fs (X:Cx):List Addr:=frs X.outer
noncomputable def Vis (sc:Scope) (x:Str):Prop:=sc.names.lookup x=some .local\/sc.names.lookup x=some .cell\/sc.names.lookup x=some .free
noncomputable def Loc (sc:Scope) (x:Str):Prop:=sc.names.lookup x=some .local\/sc.names.lookup x=some .cell
noncomputable def Look (env:Env) (h:Heap) (m:Str->Option Value) (x:Str) (u:Value):Prop :=
 (env.kindOf x=some .local/\m x=some u)\/((env.kindOf x=some .cell\/env.kindOf x=some .free)/\∃c,env.cells.lookup x=some c/\h.IsCell c (some u))
structure Cx.Ok (X:Cx):Prop where
 mod:Mod X.K X.mg X.base
 kind:X.env.scope.kind=.function
 glob:X.env.globals=mainGlobals
 blt:X.env.builtins=builtinsNs
 above:X.s₀.heap.objs.size<=X.env.locals
 inj:∀x y c,X.env.cells.lookup x=some c->X.env.cells.lookup y=some c->x=y
 has:∀x,(X.env.kindOf x=some .cell\/X.env.kindOf x=some .free)->∃c,X.env.cells.lookup x=some c
 cab:∀x c,X.fn x=true->X.env.cells.lookup x=some c->X.s₀.heap.objs.size<=c
 hd:X.calm=true->X.A.handled=none
 frames:X.A.frames=some X.stack
 stk:X.stack=X.outer\/(X.stack=X.env :: X.outer/\X.env.frame=some X.env.locals)
 exf:∀b∈X.ex,b≠X.env.locals/\∀x c,X.env.cells.lookup x=some c->c≠b
 bs:∀b o,X.base.get? b=some o->X.s₀.heap.get? b=some o/\X.H₀ b=none
 bsz:X.base.objs.size<=X.s₀.heap.objs.size
 noex:∀b o,X.base.get? b=some o->b∉X.ex
 exfs:∀b∈X.ex,b∉X.fs
 funs:X.s₀.heap.FunFrames X.base X.outer
 frf:∀b∈X.fs,X.H₀ b=none
structure Inv (X:Cx) (pins:List (Addr×Obj)) (σ:List (Option V)) (H:Hp) (s:Shared):Prop where
 ok:X.Ok
 os:s.os=X.s₀.os
 bare:AllBare s.gens
 base:Un X.fs X.ex X.H₀ H X.s₀.heap s.heap
 loc:∃m,s.heap.Ns X.env.locals m/\∀(i:Nat) (x:Str) (v:V),X.N[i]? = some x->σ[i]? = some (some v)->Vis X.env.scope x->∃u,RelV v u/\Look X.env s.heap m x u
 cell:∀x c,X.env.cells.lookup x=some c->∃v,s.heap.IsCell c v
 free:H X.env.locals=none
 freeC:∀x c,X.env.cells.lookup x=some c->H c=none
 pin:∀p∈X.pn ++ pins,s.heap.get? p.1=some p.2/\H p.1=none/\p.1≠X.env.locals/\p.1∉X.fs/\∀v,p.2.data≠.cell v
 hok:HOk X.prog X.w H s.heap
 len:σ.length=X.N.length
section
variable {X:Cx} {pins:List (Addr×Obj)} {σ:List (Option V)} {H H':Hp} {s:Shared} {h':Heap}
theorem Cx.Ok.nofr (ok:X.Ok) {b:Addr} {o:Obj} (e:X.base.get? b=some o):b∉X.fs:=fun hb=>by
 have:=(ok.funs.mem hb).1;rw [e] at this; cases this
theorem Inv.bs (I:Inv X pins σ H s):∀b o,X.base.get? b=some o->s.heap.get? b=some o/\H b=none:=fun b o e =>
 ⟨I.base.keep b o (I.ok.bs b o e).1 (I.ok.bs b o e).2 (I.ok.nofr e) (I.ok.noex b o e),I.base.free b o (I.ok.bs b o e).1 (I.ok.bs b o e).2 (I.ok.noex b o e)⟩
theorem Inv.bk (I:Inv X pins σ H s):∀b o,X.base.get? b=some o->s.heap.get? b=some o:=fun b o e=>(I.bs b o e).1
theorem Inv.mod (I:Inv X pins σ H s):Mod X.K X.mg X.base:=I.ok.mod
theorem Inv.kIn (I:Inv X pins σ H s):X.K.In s.heap:=I.ok.mod.kin.keeps I.bk
theorem Inv.nolimit (I:Inv X pins σ H s):s.heap.NoLimit:=I.ok.mod.nolimit.keeps I.bk
theorem Inv.fr (I:Inv X pins σ H s):∃m,Fr X.base X.env.locals s.heap m :=
 let ⟨m,hn,_⟩:=I.loc
 ⟨m,hn,I.bk,Nat.le_trans I.ok.bsz I.ok.above⟩
theorem Inv.lt (I:Inv X pins σ H s):X.env.locals < s.heap.objs.size:=let ⟨_,hn,_⟩:=I.loc; hn.lt
theorem Inv.sz (I:Inv X pins σ H s):X.s₀.heap.objs.size<=s.heap.objs.size:=Nat.le_trans I.ok.above (Nat.le_of_lt I.lt)
theorem Inv.nofs (I:Inv X pins σ H s) {a:Addr} (h:s.heap.objs.size<=a):a∉X.fs:=fun hb=>by
 obtain ⟨_,o,ho,_⟩:=I.ok.funs.mem hb;exact absurd (Nat.lt_of_lt_of_le (Heap.lt_size ho) (Nat.le_trans I.sz h)) (Nat.lt_irrefl _)
theorem Inv.cne (I:Inv X pins σ H s):∀x c,X.env.cells.lookup x=some c->c≠X.env.locals:=fun x c e z=>by
 obtain ⟨v,o,ho,hd⟩:=I.cell x c e;obtain ⟨m,⟨o',es,ep,ho',hd',_⟩,_⟩:=I.loc;rw [z,ho'] at ho; cases ho; rw [hd'] at hd; cases hd
theorem Inv.funs (I:Inv X pins σ H s):s.heap.FunFrames X.base X.outer:=by
 have all:∀(l:List Env),(∀b∈frs l,b∈X.fs)->X.s₀.heap.FunFrames X.base l->s.heap.FunFrames X.base l:=by
  intro l
  induction l with
  | nil=>intro _ _; trivial
  | cons env r ih =>
   intro hs hl;obtain ⟨hk,⟨L,o,hf,hn,ho,hd⟩,hr⟩:=hl;have hL:L∈X.fs:=hs L (by unfold frs; rw [List.filterMap_cons,hf]; exact List.mem_cons_self);obtain ⟨sl,e⟩:=I.base.slot L o ho (I.ok.frf L hL) hL fun z=>I.ok.exfs L z hL;exact ⟨hk,⟨L,_,hf,hn,e,hd⟩,ih (fun b hb=>hs b (by unfold frs; rw [List.filterMap_cons,hf]; exact List.mem_cons_of_mem _ hb)) hr⟩
 exact all X.outer (fun _ hb=>hb) I.ok.funs
theorem Inv.stack (I:Inv X pins σ H s):s.heap.FunFrames X.base X.stack:=by
 rcases I.ok.stk with e | ⟨e,hf⟩
 ·rw [e]; exact I.funs
 ·rw [e];obtain ⟨m,hn,_⟩:=I.loc;refine .cons (by rw [I.ok.kind]; decide) hf hn ?_ I.funs;exact Heap.get?_none_of_le (Nat.le_trans I.ok.bsz I.ok.above)
theorem Inv.stkSub (I:Inv X pins σ H s):∀b∈frs X.stack,b∈X.env.locals :: X.fs:=fun b hb=>by
 rcases I.ok.stk with e | ⟨e,hf⟩
 ·rw [e] at hb; exact List.mem_cons_of_mem _ hb
 ·rw [e] at hb;unfold frs at hb;rw [List.filterMap_cons,hf] at hb;exact hb
theorem Inv.stkFree (I:Inv X pins σ H s):∀b∈frs X.stack,H b=none:=fun b hb=>by
 rcases List.mem_cons.mp (I.stkSub b hb) with e | hb
 ·rw [e]; exact I.free
 ·obtain ⟨_,o,ho,_⟩:=I.ok.funs.mem hb;exact I.base.free b o ho (I.ok.frf b hb) fun z=>I.ok.exfs b z hb
theorem Inv.step {g':Array GenState} {t':Nat} {d':Drawn} {ch:List Addr} (I:Inv X pins σ H s)
  (hch:∀b∈ch,(b∈X.ex\/X.s₀.heap.objs.size<=b)/\b≠X.env.locals/\(∀x c,X.env.cells.lookup x=some c->c≠b)/\∀p∈X.pn ++ pins,p.1≠b)
  (keep:∀b o,b≠X.env.locals->b∉X.fs->b∉ch->s.heap.get? b=some o->H b=none->h'.get? b=some o)
  (slot:∀b o,b≠X.env.locals->b∈X.fs->b∉ch->s.heap.get? b=some o->H b=none->∃sl,h'.get? b=some { o with slots:=sl }) (free:∀b o,b∉ch->s.heap.get? b=some o->H b=none->H' b=none)
  (there:∀b o,b∉ch->s.heap.get? b=some o->∃o',h'.get? b=some o')
  (tups:∀b xs,H b=some (.tup xs)->H' b=some (.tup xs)) (frzs:∀b o u,H b=some (.frz o u)->H' b=some (.frz o u)) (tbls:∀b ps,H b=some (.tbl ps)->∃more,H' b=some (.tbl (ps ++ more)))
  (ns:∀m,s.heap.Ns X.env.locals m->h'.Ns X.env.locals m) (hok:HOk X.prog X.w H' h') (hg:AllBare g') :
  Inv X pins σ H' { s with heap:=h',gens:=g',drawn:=d',toks:=t' }:=by
 have neL:∀b o,X.s₀.heap.get? b=some o->b≠X.env.locals:=fun b o e=>Nat.ne_of_lt (Nat.lt_of_lt_of_le (Heap.lt_size e) I.ok.above);have neC:∀b o,X.s₀.heap.get? b=some o->b∉X.ex->b∉ch:=fun b o e hx hb=>by
  rcases (hch b hb).1 with z | z
  ·exact hx z
  ·exact absurd (Nat.lt_of_lt_of_le (Heap.lt_size e) z) (Nat.lt_irrefl _)
 have cellK:∀x c,X.env.cells.lookup x=some c->∀v,s.heap.IsCell c v->h'.IsCell c v:=fun x c e v ⟨o,ho,hd⟩=>by
  have nch:c∉ch:=fun z=>(hch c z).2.2.1 x c e rfl
  by_cases hc:c∈X.fs
  ·obtain ⟨sl,q⟩:=slot c o (I.cne x c e) hc nch ho (I.freeC x c e);exact ⟨_,q,hd⟩
  ·exact ⟨o,keep c o (I.cne x c e) hc nch ho (I.freeC x c e),hd⟩
 refine ⟨I.ok,I.os,hg,⟨fun b o e n hb hx=>?_,fun b o e n hb hx=>?_,fun b o e n hx=>?_,fun b o e hx=>?_,fun b xs e=>tups b xs (I.base.tups b xs e),fun b o xs e=>frzs b o xs (I.base.frzs b o xs e),fun b ps e=>?_⟩,?_,fun x c e=>?_,?_,fun x c e=>?_,fun p hp=>?_,hok,I.len⟩
 ·exact keep b o (neL b o e) hb (neC b o e hx) (I.base.keep b o e n hb hx) (I.base.free b o e n hx)
 ·obtain ⟨sl,e1⟩:=I.base.slot b o e n hb hx;obtain ⟨sl',e2⟩:=slot b _ (neL b o e) hb (neC b o e hx) e1 (I.base.free b o e n hx);exact ⟨sl',e2⟩
 ·obtain ⟨o',e1⟩:=I.base.there b o e hx;exact free b o' (neC b o e hx) e1 (I.base.free b o e n hx)
 ·obtain ⟨o',e1⟩:=I.base.there b o e hx;exact there b o' (neC b o e hx) e1
 ·obtain ⟨m1,e1⟩:=I.base.tbls b ps e;obtain ⟨m2,e2⟩:=tbls b _ e1;exact ⟨m1 ++ m2,by rw [e2,Array.append_assoc]⟩
 ·obtain ⟨m,hn,hl⟩:=I.loc;refine ⟨m,ns m hn,fun i x v e1 e2 e3=>?_⟩;obtain ⟨u,r,l⟩:=hl i x v e1 e2 e3;refine ⟨u,r,?_⟩;rcases l with l | ⟨k,c,e,z⟩
  ·exact .inl l
  ·exact .inr ⟨k,c,e,cellK x c e _ z⟩
 ·obtain ⟨v,z⟩:=I.cell x c e;exact ⟨v,cellK x c e v z⟩
 ·obtain ⟨m,⟨o,_,_,ho,_⟩,_⟩:=I.loc;exact free _ o (fun z=>(hch _ z).2.1 rfl) ho I.free
 ·obtain ⟨v,o,ho,hd⟩:=I.cell x c e;exact free c o (fun z=>(hch c z).2.2.1 x c e rfl) ho (I.freeC x c e)
 ·obtain ⟨e,n,ne,nf,d⟩:=I.pin p hp;have nch:p.1∉ch:=fun z=>(hch p.1 z).2.2.2 p hp rfl;exact ⟨keep p.1 p.2 ne nf nch e n,free p.1 p.2 nch e n,ne,nf,d⟩
theorem Inv.un {t':Nat} (I:Inv X pins σ H s) (u:Un X.fs [] H H' s.heap h') (hok:HOk X.prog X.w H' h'):Inv X pins σ H' { s with heap:=h',toks:=t' }:=by
 obtain ⟨m,⟨o,es,ep,ho,r⟩,_⟩:=id I.loc;obtain ⟨sl,hL⟩:=u.any ho I.free (by simp);exact I.step (g':=s.gens) (d':=s.drawn) (ch:=[]) (fun _ z=>nomatch z) (fun b o _ hb _ e n=>u.keep b o e n hb (by simp)) (fun b o _ hb _ e n=>u.slot b o e n hb (by simp)) (fun b o _ e n=>u.free b o e n (by simp)) (fun b o _ e=>u.there b o e (by simp)) u.tups u.frzs u.tbls (fun m' hm=>by
  obtain ⟨o',es',ep',ho',r'⟩:=hm;rw [ho] at ho'; cases ho';exact ⟨_,es',ep',hL,r'⟩) hok I.bare
theorem Inv.call {g':Array GenState} {t':Nat} {d':Drawn} {ch:List Addr} (I:Inv X pins σ H s) (u:Un (frs X.stack) ch H H' s.heap h') (hok:HOk X.prog X.w H' h') (hg:AllBare g')
  (hch:∀b∈ch,(b∈X.ex\/X.s₀.heap.objs.size<=b)/\b≠X.env.locals/\(∀x c,X.env.cells.lookup x=some c->c≠b)/\∀p∈X.pn ++ pins,p.1≠b) :
  Inv X pins σ H' { s with heap:=h',gens:=g',drawn:=d',toks:=t' }:=by
 obtain ⟨m,⟨o,es,ep,ho,r⟩,_⟩:=id I.loc;obtain ⟨sl,hL⟩:=u.any ho I.free fun z=>(hch _ z).2.1 rfl;exact I.step (ch:=ch) hch (fun b o hL hb hc e n=>u.keep b o e n (fun z=>(List.mem_cons.mp (I.stkSub b z)).elim hL hb) hc) (fun b o _ _ hc e n=>u.any e n hc) (fun b o hc e n=>u.free b o e n hc) (fun b o hc e=>u.there b o e hc) u.tups u.frzs u.tbls (fun m' hm=>by
  obtain ⟨o',es',ep',ho',r'⟩:=hm;rw [ho] at ho'; cases ho';exact ⟨_,es',ep',hL,r'⟩) hok hg
theorem Inv.turned {t':Nat} {it:Addr} (I:Inv X pins σ H s) (k:∀b o,b≠it->s.heap.get? b=some o->h'.get? b=some o) (hn:H it=none) (hL:it≠X.env.locals)
  (h1:it∈X.ex\/X.s₀.heap.objs.size<=it) (h2:∀x c,X.env.cells.lookup x=some c->c≠it) (h3:∀p∈X.pn ++ pins,p.1≠it):Inv X pins σ H { s with heap:=h',toks:=t' }:=by
 have nit:∀b u,H b=some u->b≠it:=fun b u e z=>by rw [z,hn] at e; cases e
 refine I.step (g':=s.gens) (d':=s.drawn) (ch:=[it]) (fun b hb=>?_) (fun b o _ _ hc e _=>k b o (fun z=>hc (by simp [z])) e) (fun b o _ _ hc e _=>⟨o.slots,k b o (fun z=>hc (by simp [z])) e⟩) (fun _ _ _ _ n=>n)
  (fun b o hc e=>⟨o,k b o (fun z=>hc (by simp [z])) e⟩) (fun _ _ e=>e) (fun _ _ _ e=>e) (fun b ps e=>⟨#[],by rw [e]; simp⟩) (fun m hm=>?_) (fun b u e=>?_) I.bare
 ·have e:b=it:=by simpa using hb
  subst e;exact ⟨h1,hL,h2,h3⟩
 ·obtain ⟨o,es,ep,ho,r⟩:=hm;exact ⟨o,es,ep,k _ o (Ne.symm hL) ho,r⟩
 ·refine (I.hok b u e).stay (fun c v hc q=>k c v ?_ q) (fun _ q=>q) fun _ _ q=>q;rcases hc with z | z
  ·rw [z]; exact nit b u e
  ·exact nit c _ z
theorem Inv.tok (I:Inv X pins σ H s) (t:Nat):Inv X pins σ H { s with toks:=t }:=I.un (h':=s.heap) (t':=t) Un.refl I.hok
theorem Inv.kept {t':Nat} (I:Inv X pins σ H s) (k:∀b u,s.heap.get? b=some u->h'.get? b=some u):Inv X pins σ H { s with heap:=h',toks:=t' }:=I.un (Un.kept k) (I.hok.kept k)
theorem Inv.laid {a:Addr} {o:HO} {t':Nat} (I:Inv X pins σ H s) (k:∀b u,s.heap.get? b=some u->h'.get? b=some u) (hp:s.heap.objs.size<=a) (new:ObjOk X.prog X.w (upd H a o) h' a o) :
  Inv X pins σ (upd H a o) { s with heap:=h',toks:=t' }:=I.un (Un.laid k hp (I.hok.fresh hp)) (I.hok.laid k hp new)
theorem Inv.write {x e:Addr} {o:HO} {t':Nat} (I:Inv X pins σ H s) (mu:Mut (H x)) (he:e=x\/H e=some (.own x)) (k:∀b u,b≠e->s.heap.get? b=some u->h'.get? b=some u) (heo:∃u,h'.get? e=some u)
  (new:ObjOk X.prog X.w (upd H x o) h' x o):Inv X pins σ (upd H x o) { s with heap:=h',toks:=t' }:=I.un (Un.write mu he k heo) (I.hok.write mu he k heo new)
theorem Inv.weak {σ':List (Option V)} (I:Inv X pins σ H s) (hl:σ'.length=σ.length) (w:∀(i:Nat) v,σ'[i]? = some (some v)->σ[i]? = some (some v)):Inv X pins σ' H s :=
 ⟨I.ok,I.os,I.bare,I.base,let ⟨m,hn,hl'⟩:=I.loc; ⟨m,hn,fun i x v e1 e2 e3=>hl' i x v e1 (w i v e2) e3⟩,I.cell,I.free,I.freeC,I.pin,I.hok,hl.trans I.len⟩
theorem Inv.pins_of {pins':List (Addr×Obj)} (I:Inv X pins σ H s) (h:∀p∈pins',s.heap.get? p.1=some p.2/\H p.1=none/\p.1≠X.env.locals/\p.1∉X.fs/\∀v,p.2.data≠.cell v):Inv X pins' σ H s :=
 ⟨I.ok,I.os,I.bare,I.base,I.loc,I.cell,I.free,I.freeC,fun p hp=>(List.mem_append.mp hp).elim (fun z=>I.pin p (List.mem_append_left _ z)) (h p),I.hok,I.len⟩
theorem dd' {N:List Str} (hN:N.Nodup) {i j:Nat} {x:Str} (a:N[i]? = some x) (b:N[j]? = some x):i=j:=by
 obtain ⟨h1,e1⟩:=List.getElem?_eq_some_iff.mp a;obtain ⟨h2,e2⟩:=List.getElem?_eq_some_iff.mp b;exact (List.getElem_inj hN).mp (e1.trans e2.symm)
theorem cz' {M:Model} {A:Around} {E:Value->Shared->Prop} {i:Nat} {x:Str} {v:V} {u:Value} {Q:Unit->Shared->Prop} (I:Inv X pins σ H s) (hN:X.N.Nodup) (hi:X.N[i]? = some x) (hx:Loc X.env.scope x) (r:RelV v u)
  (h:∀s',Inv X pins (σ.set i (some v)) H s'->(∃a,Heap.SameBut a s.heap s'.heap/\(a=X.env.locals\/X.env.cells.lookup x=some a))->Q () s') (hf:X.fn x=true\/X.env.scope.names.lookup x=some .local:=by first | exact .inl rfl | exact .inr rfl | assumption):wpAny M A (storeName X.env x u) Q E s:=by
 obtain ⟨m,hn,hl⟩:=id I.loc;have hcls:(X.env.scope.kind == .class || (X.env.scope.kind == .module && X.env.locals != X.env.globals))=false:=by rw [I.ok.kind]; rfl
 have hiσ:i < σ.length:=by rw [I.len]; exact (List.getElem?_eq_some_iff.mp hi).1
 have cne:=I.cne;have tracked:∀{a:Addr} {h':Heap},(∃o,s.heap.get? a=some o/\H a=none)->Heap.SameBut a s.heap h'->HOk X.prog X.w H h':=fun {a h'} ha hs b ob e=>by
  obtain ⟨_,_,hfree⟩:=ha;refine (I.hok b ob e).stay (fun c w' hc q=>(hs.2 c ?_).trans q) (fun _ q=>q) fun _ _ q=>q
  rintro rfl
  rcases hc with rfl | hc
  ·rw [hfree] at e; cases e
  ·rw [hfree] at hc; cases hc
 rcases hx with hk | hk
 ·refine wpAny_storeName_local hk hn (fun h' hn' hs=>?_) hcls;obtain ⟨oL,_,_,hoL,_⟩:=id hn;refine h _ ⟨I.ok,I.os,I.bare,⟨fun b o e n hb hx=>?_,fun b o e n hb hx=>?_,I.base.free,fun b o e hx=>?_,I.base.tups,I.base.frzs,I.base.tbls⟩,⟨_,hn',fun j y v' e1 e2 e3=>?_⟩,fun y c e=>?_,I.free,I.freeC,fun p hp=>?_,tracked ⟨oL,hoL,I.free⟩ hs,by simpa using I.len⟩ ⟨_,hs,.inl rfl⟩
  ·exact (hs.2 b (Nat.ne_of_lt (Nat.lt_of_lt_of_le (Heap.lt_size e) I.ok.above))).trans (I.base.keep b o e n hb hx)
  ·obtain ⟨sl,e1⟩:=I.base.slot b o e n hb hx;exact ⟨sl,(hs.2 b (Nat.ne_of_lt (Nat.lt_of_lt_of_le (Heap.lt_size e) I.ok.above))).trans e1⟩
  ·obtain ⟨o',e1⟩:=I.base.there b o e hx;exact ⟨o',(hs.2 b (Nat.ne_of_lt (Nat.lt_of_lt_of_le (Heap.lt_size e) I.ok.above))).trans e1⟩
  ·by_cases hj:j=i
   ·subst hj;rw [hi] at e1; cases e1;rw [List.getElem?_set_self hiσ] at e2
    cases e2
    exact ⟨u,r,.inl ⟨hk,by simp⟩⟩
   ·rw [List.getElem?_set_ne (Ne.symm hj)] at e2;obtain ⟨u',r',q⟩:=hl j y v' e1 e2 e3;refine ⟨u',r',?_⟩;rcases q with ⟨k,e⟩ | ⟨k,c,e,z⟩
    ·refine .inl ⟨k,?_⟩;have:y≠x:=fun e=>hj (dd' hN e1 (e ▸ hi));simp [this,e]
    ·exact .inr ⟨k,c,e,z.sameBut hs (cne y c e)⟩
  ·obtain ⟨w',z⟩:=I.cell y c e;exact ⟨w',z.sameBut hs (cne y c e)⟩
  ·obtain ⟨e,n,ne,nf,d⟩:=I.pin p hp;exact ⟨(hs.2 p.1 ne).trans e,n,ne,nf,d⟩
 ·have hfn:X.fn x=true:=by
   rcases hf with z | z
   ·exact z
   ·rw [z] at hk; cases hk
  obtain ⟨c,hc⟩:=I.ok.has x (.inl hk);obtain ⟨w',z⟩:=I.cell x c hc;refine wpAny_storeName_cell I.ok.kind hk hc z (fun h' hc' hs=>?_);obtain ⟨oc,hoc,hocd⟩:=id z;refine h { s with heap:=h' } ⟨I.ok,I.os,I.bare,⟨fun b o e n hb hx=>?_,fun b o e n hb hx=>?_,I.base.free,fun b o e hx=>?_,I.base.tups,I.base.frzs,I.base.tbls⟩,⟨m,hn.sameBut hs (Ne.symm (cne x c hc)),fun j y v' e1 e2 e3=>?_⟩,fun y c' e=>?_,I.free,I.freeC,fun p hp=>?_,tracked ⟨oc,hoc,I.freeC x c hc⟩ hs,by simpa using I.len⟩ ⟨c,hs,.inr hc⟩
  ·exact (hs.2 b (Nat.ne_of_lt (Nat.lt_of_lt_of_le (Heap.lt_size e) (I.ok.cab x c hfn hc)))).trans (I.base.keep b o e n hb hx)
  ·obtain ⟨sl,e1⟩:=I.base.slot b o e n hb hx;exact ⟨sl,(hs.2 b (Nat.ne_of_lt (Nat.lt_of_lt_of_le (Heap.lt_size e) (I.ok.cab x c hfn hc)))).trans e1⟩
  ·obtain ⟨o',e1⟩:=I.base.there b o e hx;exact ⟨o',(hs.2 b (Nat.ne_of_lt (Nat.lt_of_lt_of_le (Heap.lt_size e) (I.ok.cab x c hfn hc)))).trans e1⟩
  ·by_cases hj:j=i
   ·subst hj;rw [hi] at e1; cases e1;rw [List.getElem?_set_self hiσ] at e2
    cases e2
    exact ⟨u,r,.inr ⟨.inl hk,c,hc,hc'⟩⟩
   ·rw [List.getElem?_set_ne (Ne.symm hj)] at e2;obtain ⟨u',r',q⟩:=hl j y v' e1 e2 e3;refine ⟨u',r',?_⟩;rcases q with q | ⟨k,c',e,z'⟩
    ·exact .inl q
    ·refine .inr ⟨k,c',e,z'.sameBut hs ?_⟩
     rintro rfl
     exact hj (dd' hN e1 (I.ok.inj _ _ _ e hc ▸ hi))
  ·by_cases hcc:c'=c
   ·subst hcc; exact ⟨_,hc'⟩
   ·obtain ⟨w2,z2⟩:=I.cell y c' e;exact ⟨w2,z2.sameBut hs hcc⟩
  ·obtain ⟨e,n,ne,nf,d⟩:=I.pin p hp;refine ⟨(hs.2 p.1 ?_).trans e,n,ne,nf,d⟩;intro q;rw [q,hoc] at e;have q':oc=p.2:=Option.some.inj e;exact d w' (by rw [<- q']; exact hocd)
theorem cu' {M:Model} {A:Around} {E:Value->Shared->Prop} {i:Nat} {x:Str} {v:V} {u:Value} {Q:Unit->Shared->Prop} (I:Inv X pins σ H s) (hN:X.N.Nodup) (hi:X.N[i]? = some x) (hx:Loc X.env.scope x) (r:RelV v u)
  (h:∀s',Inv X pins (σ.set i (some v)) H s'->Q () s') (hf:X.fn x=true\/X.env.scope.names.lookup x=some .local:=by first | exact .inl rfl | exact .inr rfl | assumption):wpAny M A (storeName X.env x u) Q E s :=
 cz' I hN hi hx r (fun s' I' _=>h s' I') hf
theorem Inv.call' {s':Shared} {ch:List Addr} (I:Inv X pins σ H s) (ho:s'.os=s.os) (u:Un (frs X.stack) ch H H' s.heap s'.heap) (hok:HOk X.prog X.w H' s'.heap) (hg:AllBare s'.gens)
  (hch:∀b∈ch,(b∈X.ex\/X.s₀.heap.objs.size<=b)/\b≠X.env.locals/\(∀x c,X.env.cells.lookup x=some c->c≠b)/\∀p∈X.pn ++ pins,p.1≠b):Inv X pins σ H' s':=by
 obtain ⟨h',g',d',t',o'⟩:=s';have e:o'=s.os:=ho;subst e;exact I.call (g':=g') (t':=t') (d':=d') u hok hg hch
end
abbrev XK:=Value->Option Addr->Hp->Prop
abbrev St:=List (Option V)
abbrev VK:=V->Hp->Prop
abbrev TE:=St->Hp->VK->Prop
abbrev TT:=St->Hp->(Bool->Hp->Prop)->Prop
abbrev TA:=St->Hp->(List V->Hp->Prop)->Prop
structure Ends where
 nx:St->Hp->Prop
 rt:VK
 bk:St->Hp->Prop:=fun _ _=>False
 ct:St->Hp->Prop:=fun _ _=>False
abbrev TS:=Ends->St->Hp->Prop
noncomputable def EP (X:Cx) (pins:List (Addr×Obj)) (σ:St) (Q:VK) (u:Value) (s':Shared):Prop:=∃v H',Inv X pins σ H' s'/\RelV v u/\Q v H'
noncomputable def TP (X:Cx) (pins:List (Addr×Obj)) (σ:St) (Q:Bool->Hp->Prop) (b:Bool) (s':Shared):Prop:=∃H',Inv X pins σ H' s'/\Q b H'
noncomputable def AP (X:Cx) (pins:List (Addr×Obj)) (σ:St) (Q:List V->Hp->Prop) (us:List Value) (s':Shared):Prop:=∃vs H',Inv X pins σ H' s'/\Vals vs us/\Q vs H'
noncomputable def SP (X:Cx) (pins:List (Addr×Obj)) (D:Ends) (f:Flow) (s':Shared):Prop :=
 match f with
 | .next=>∃σ' H',Inv X pins σ' H' s'/\D.nx σ' H'
 | .brk=>∃σ' H',Inv X pins σ' H' s'/\D.bk σ' H'
 | .cont=>∃σ' H',Inv X pins σ' H' s'/\D.ct σ' H'
 | .ret u=>∃v σ' H',Inv X pins σ' H' s'/\RelV v u/\D.rt v H'
noncomputable def PE (X:Cx) (e:Expr) (t:TE):Prop :=
 ∀(pins:List (Addr×Obj)) (s:Shared) (σ:St) (H:Hp) (Q:VK),Inv X pins σ H s->t σ H Q->wpAny (model X.prog X.w) X.A (eval e X.env) (EP X pins σ Q) X.xe s
noncomputable def PT (X:Cx) (e:Expr) (t:TT):Prop :=
 ∀(pins:List (Addr×Obj)) (s:Shared) (σ:St) (H:Hp) (Q:Bool->Hp->Prop),Inv X pins σ H s->t σ H Q->wpAny (model X.prog X.w) X.A (isTrue e X.env (eval e X.env)) (TP X pins σ Q) X.xe s
noncomputable def PW (X:Cx) (e:Expr) (t:TT):Prop :=
 ∀(whole:Sem Value) (pins:List (Addr×Obj)) (s:Shared) (σ:St) (H:Hp) (Q:Bool->Hp->Prop),Inv X pins σ H s->t σ H Q->wpAny (model X.prog X.w) X.A (isTrue e X.env whole) (TP X pins σ Q) X.xe s
theorem PW.pt {X:Cx} {e:Expr} {t:TT} (h:PW X e t):PT X e t:=h _
noncomputable def PA (X:Cx) (es:List Expr) (t:TA):Prop :=
 ∀(pos:Pos) (pins:List (Addr×Obj)) (s:Shared) (σ:St) (H:Hp) (Q:List V->Hp->Prop),Inv X pins σ H s->t σ H Q->wpAny (model X.prog X.w) X.A (spliced (backTo pos (starEach es X.env))) (AP X pins σ Q) X.xe s
noncomputable def PS (X:Cx) (st:Stmt) (t:TS):Prop :=
 ∀(pins:List (Addr×Obj)) (s:Shared) (σ:St) (H:Hp) (D:Ends),Inv X pins σ H s->t D σ H->wpAny (model X.prog X.w) X.A (exec st X.env) (SP X pins D) X.xe s
noncomputable def PSs (X:Cx) (st:List Stmt) (t:TS):Prop :=
 ∀(pins:List (Addr×Obj)) (s:Shared) (σ:St) (H:Hp) (D:Ends),Inv X pins σ H s->t D σ H->wpAny (model X.prog X.w) X.A (execs st X.env) (SP X pins D) X.xe s
theorem thn {α:Type} {t:Sem α} {Q Q':α->Shared->Prop} {M:Model} {A:Around} {E:Value->Shared->Prop} {s:Shared} (h:wpAny M A t Q E s) (hQ:∀a s,Q a s->Q' a s):wpAny M A t Q' E s:=wpAny_mono h hQ fun _ _ x=>x
section
variable {X:Cx}
noncomputable def tVar (i:Nat):TE:=fun σ H Q=>∃v,σ[i]? = some (some v)/\Q v H
noncomputable def tC (v:V):TE:=fun _ H Q=>Q v H
theorem fP' {i:Nat} {x:Str} {pos:Pos} (hN:X.N[i]? = some x) (hv:Vis X.env.scope x) (hd:(x == ("__debug__" : Str))=false:=by decide) (hcd:(x == ("__classdict__" : Str))=false:=by decide):PE X (.Name x pos) (tVar i):=by
 intro pins s σ H Q I h;obtain ⟨v,e,h⟩:=h;obtain ⟨m,hn,hl⟩:=I.loc;obtain ⟨u,r,l⟩:=hl i x v hN e hv;have fin:EP X pins σ Q u s:=⟨v,H,I,r,h⟩;rcases l with ⟨hk,hm⟩ | ⟨hk,c,hc,hcell⟩
 ·exact wpAny_Name (wpAny_loadName_local I.ok.kind hk hn hm fin) hd
 ·rcases hk with hk | hk
  ·exact wpAny_Name (wpAny_loadName_cell I.ok.kind hk hc hcell fin) hd
  ·exact wpAny_Name (wpAny_loadName_free I.ok.kind hk hc hcell fin hcd) hd
theorem jR' {i j pos}:PE X (.Constant (.int i) j pos) (tC (.int i)):=fun _ _ _ H _ I h=>wpAny_Constant_int ⟨.int i,H,I.tok _,⟨_,rfl⟩,h⟩
theorem kU' {b j pos}:PE X (.Constant (.bool b) j pos) (tC (.bl b)):=fun _ _ _ H _ I h=>Constant_bool ⟨.bl b,H,I,rfl,h⟩
theorem jS' {j pos}:PE X (.Constant .none j pos) (tC .non):=fun _ _ _ H _ I h=>Constant_none ⟨.non,H,I,rfl,h⟩
theorem ih' {x j pos}:PE X (.Constant (.str x) j pos) (tC (.str x)):=fun _ _ _ H _ I h=>Calls.Constant_str ⟨.str x,H,I.tok _,⟨_,rfl⟩,h⟩
noncomputable def Gl (X:Cx) (x:Str):Prop:=X.env.kindOf x=some .globalImplicit
theorem ca' {E:Value->Shared->Prop} {pins:List (Addr×Obj)} {s:Shared} {σ:St} {H:Hp} {x:Str} {u:Value} {pos:Pos} {Q:Value->Shared->Prop} (I:Inv X pins σ H s) (hg:Gl X x) (hm:X.mg x=some u) (h:Q u s)
  (hd:(x == ("__debug__" : Str))=false:=by decide):wpAny (model X.prog X.w) X.A (eval (.Name x pos) X.env) Q E s :=
 Calls.Name_function_global I.ok.kind hg (Calls.loadGlobal_global (by rw [I.ok.glob]; exact I.mod.glob.keeps I.bk) hm h) hd
theorem cQ' {E:Value->Shared->Prop} {pins:List (Addr×Obj)} {s:Shared} {σ:St} {H:Hp} {x:Str} {u:Value} {pos:Pos} {Q:Value->Shared->Prop} (I:Inv X pins σ H s) (hg:Gl X x) (hm:X.mg x=none) (hv:bootBuiltins x=some u) (h:Q u s)
  (hn:x≠"__name__":=by decide) (hd:(x == ("__debug__" : Str))=false:=by decide):wpAny (model X.prog X.w) X.A (eval (.Name x pos) X.env) Q E s:=by
 obtain ⟨mb,h1,h2⟩:=I.mod.blt;exact Calls.Name_function_global I.ok.kind hg (Calls.loadGlobal_builtin (by rw [I.ok.glob]; exact I.mod.glob.keeps I.bk) hm (by rw [I.ok.blt]; exact h1.keeps I.bk) ((h2 x hn).trans hv) h) hd
noncomputable def t2I (ta tb:TE) (k:Int->Int->Hp->Prop):St->Hp->Prop:=fun σ H=>ta σ H fun x H1=>tb σ H1 fun y H2=>∃i j,x=.int i/\y=.int j/\k i j H2
variable {a b:Expr} {ta tb:TE} {pos:Pos}
noncomputable def tCmp (p:Int->Int->Bool) (ta tb:TE):TE:=fun σ H Q=>t2I ta tb (fun i j H2=>Q (.bl (p i j)) H2) σ H
abbrev tLt:TE->TE->TE:=tCmp fun i j=>decide (i < j)
abbrev tLe:TE->TE->TE:=tCmp fun i j=>decide (i<=j)
abbrev tGt:TE->TE->TE:=tCmp fun i j=>decide (j < i)
abbrev tGe:TE->TE->TE:=tCmp fun i j=>decide (j<=i)
abbrev tEqI:TE->TE->TE:=tCmp fun i j=>decide (i=j)
abbrev tNeI:TE->TE->TE:=tCmp fun i j=>!decide (i=j)
noncomputable def tB (t:TE):TT:=fun σ H Q=>t σ H fun x H1=>∃c,x=.bl c/\Q c H1
variable {tA tB':TT} {rest:List Expr}
end
noncomputable def SqL (K:PySem.W.Frag) (H:Hp) (a:Addr) (xs:List V):Prop :=
 Rd H a (.lst xs) \/
  ∃(o:Obj) (its:Array Value) (n:Nat),K.lookup a=some o/\o.cls=.type "list"/\o.dict=none/\o.data=.seq its n/\its.size<=sizeLine/\Vals xs its.toList
noncomputable def SqT (K:PySem.W.Frag) (H:Hp) (a:Addr) (xs:List V):Prop :=
 Rd H a (.tup xs) \/
  ∃(o:Obj) (its:Array Value) (n:Nat),K.lookup a=some o/\o.cls=.type "tuple"/\o.data=.seq its n/\its.size<=sizeLine/\Vals xs its.toList
noncomputable def absV:Value->Option V
 | .none=>some .non
 | .bool b=>some (.bl b)
 | .int i _=>some (.int i)
 | .str x _=>some (.str x)
 | .bytes b _=>some (.byt b)
 | .float b _=>some (.flt b)
 | .ref a=>some (.ref a)
 | .type n=>some (.ty n)
 | _=>none
theorem RelV.abs {x:V} {u:Value} (r:RelV x u):absV u=some x:=by
 cases x with
 | non=>cases r; rfl
 | bl _=>cases r; rfl
 | int _=>obtain ⟨t,rfl⟩:=r; rfl
 | str _=>obtain ⟨t,rfl⟩:=r; rfl
 | byt _=>obtain ⟨t,rfl⟩:=r; rfl
 | flt _=>obtain ⟨t,rfl⟩:=r; rfl
 | ref _=>cases r; rfl
 | ty _=>cases r; rfl
theorem RelV.inj {x y:V} {u:Value} (r:RelV x u) (q:RelV y u):x=y:=Option.some.inj (r.abs.symm.trans q.abs)
theorem Vals.inj:∀{xs ys:List V} {us:List Value},Vals xs us->Vals ys us->xs=ys
 | _,_,_,.nil,.nil=>rfl
 | _,_,_,.cons r t,.cons r' t'=>by rw [r.inj r',Vals.inj t t']
section
variable {X:Cx} {pins:List (Addr×Obj)} {σ:St} {H:Hp} {s:Shared} {a:Addr} {xs ys:List V}
theorem SqL.of {K:PySem.W.Frag} (h:H a=some (.lst xs)):SqL K H a xs:=.inl (.inl h)
theorem SqT.of {K:PySem.W.Frag} (h:H a=some (.tup xs)):SqT K H a xs:=.inl (.inl h)
theorem Inv.list (I:Inv X pins σ H s) (h:SqL X.K H a xs):∃its:List Value,Vals xs its/\PlainL s.heap a its.toArray/\xs.length<=sizeLine:=by
 rcases h with h | ⟨o,its,n,hk,hc,hd,hs,hz,r⟩
 ·obtain ⟨z,its,n,r,e⟩:=h.ok I.hok;exact ⟨its,r,⟨_,n,e,rfl,rfl,rfl⟩,z⟩
 ·refine ⟨its.toList,r,⟨o,n,I.kIn a o hk,hc,hd,by simpa using hs⟩,?_⟩;have e:=r.length;simp only [Array.length_toList] at e;omega
theorem Inv.tuple (I:Inv X pins σ H s) (h:SqT X.K H a xs):∃its:List Value,Vals xs its/\IsTup s.heap a its.toArray/\xs.length<=sizeLine:=by
 rcases h with h | ⟨o,its,n,hk,hc,hs,hz,r⟩
 ·obtain ⟨z,its,r,p⟩:=h.ok I.hok;exact ⟨its,r,p,z⟩
 ·refine ⟨its.toList,r,⟨o,I.kIn a o hk,hc,n,by simpa using hs⟩,?_⟩;have e:=r.length;simp only [Array.length_toList] at e;omega
theorem Inv.list_inj (I:Inv X pins σ H s) (h:SqL X.K H a xs) (h':SqL X.K H a ys):xs=ys:=by
 obtain ⟨its,r,⟨o,n,e,_,_,d⟩,_⟩:=I.list h;obtain ⟨its',r',⟨o',n',e',_,_,d'⟩,_⟩:=I.list h';rw [e] at e'; cases e';rw [d] at d';injection d' with d1 _
 have:its=its':=by simpa using congrArg Array.toList d1
 subst this;exact r.inj r'
theorem Inv.tuple_inj (I:Inv X pins σ H s) (h:SqT X.K H a xs) (h':SqT X.K H a ys):xs=ys:=by
 obtain ⟨its,r,⟨o,e,_,n,d⟩,_⟩:=I.tuple h;obtain ⟨its',r',⟨o',e',_,n',d'⟩,_⟩:=I.tuple h';rw [e] at e'; cases e';rw [d] at d';injection d' with d1 _
 have:its=its':=by simpa using congrArg Array.toList d1
 subst this;exact r.inj r'
end
abbrev Cx.wish (X:Cx) (E:Value->Shared->Prop):Cx:={ X with xe:=E }
abbrev Cx.nox (X:Cx):Cx:=X.wish fun _ _=>False
theorem Cx.Ok.wish {X:Cx} (ok:X.Ok) (E:Value->Shared->Prop):(X.wish E).Ok :=
 ⟨ok.mod,ok.kind,ok.glob,ok.blt,ok.above,ok.inj,ok.has,ok.cab,ok.hd,ok.frames,ok.stk,ok.exf,ok.bs,ok.bsz,ok.noex,ok.exfs,ok.funs,ok.frf⟩
theorem Cx.Ok.unwish {X:Cx} {E:Value->Shared->Prop} (ok:(X.wish E).Ok):X.Ok :=
 ⟨ok.mod,ok.kind,ok.glob,ok.blt,ok.above,ok.inj,ok.has,ok.cab,ok.hd,ok.frames,ok.stk,ok.exf,ok.bs,ok.bsz,ok.noex,ok.exfs,ok.funs,ok.frf⟩
section
variable {X:Cx} {pins:List (Addr×Obj)} {σ:St} {H:Hp} {s:Shared} {E:Value->Shared->Prop}
theorem Inv.wish (I:Inv X pins σ H s) (E:Value->Shared->Prop):Inv (X.wish E) pins σ H s:=⟨I.ok.wish E,I.os,I.bare,I.base,I.loc,I.cell,I.free,I.freeC,I.pin,I.hok,I.len⟩
theorem Inv.unwish (I:Inv (X.wish E) pins σ H s):Inv X pins σ H s:=⟨I.ok.unwish,I.os,I.bare,I.base,I.loc,I.cell,I.free,I.freeC,I.pin,I.hok,I.len⟩
theorem SP.unwish {D:Ends} {f:Flow} {s':Shared} (h:SP (X.wish E) pins D f s'):SP X pins D f s':=by
 cases f with
 | next=>obtain ⟨σ',H',I,q⟩:=h; exact ⟨σ',H',I.unwish,q⟩
 | brk=>obtain ⟨σ',H',I,q⟩:=h; exact ⟨σ',H',I.unwish,q⟩
 | cont=>obtain ⟨σ',H',I,q⟩:=h; exact ⟨σ',H',I.unwish,q⟩
 | ret u=>obtain ⟨v,σ',H',I,r,q⟩:=h; exact ⟨v,σ',H',I.unwish,r,q⟩
theorem PE.nox {e:Expr} {t:TE} (h:PE X.nox e t):PE X e t:=fun pins s σ H Q I hw =>
 wpAny_mono (h pins s σ H Q (I.wish _) hw) (fun _ _ ⟨v,H',I',r,q⟩=>⟨v,H',I'.unwish,r,q⟩) fun _ _ z=>False.elim z
theorem PT.nox {e:Expr} {t:TT} (h:PT X.nox e t):PT X e t:=fun pins s σ H Q I hw =>
 wpAny_mono (h pins s σ H Q (I.wish _) hw) (fun _ _ ⟨H',I',q⟩=>⟨H',I'.unwish,q⟩) fun _ _ z=>False.elim z
theorem PSs.nox {st:List Stmt} {t:TS} (h:PSs X.nox st t):PSs X st t:=fun pins s σ H D I hw =>
 wpAny_mono (h pins s σ H D (I.wish _) hw) (fun _ _ q=>q.unwish) fun _ _ z=>False.elim z
end
section
variable {X:Cx} {st:Stmt} {rest:List Stmt} {t u:TS} {e:Expr} {te:TE} {pos:Pos}
noncomputable def tSeq (t u:TS):TS:=fun D σ H=>t { D with nx:=u D } σ H
theorem gX' (h1:PS X st t) (h2:PSs X rest u):PSs X (st :: rest) (tSeq t u):=by
 intro pins s σ H D I h;refine wpAny_execs_cons (thn (h1 pins s σ H { D with nx:=u D } I h) fun f s1 q=>?_)
 cases f with
 | next =>
  obtain ⟨σ',H',I',q⟩:=q;exact h2 pins s1 σ' H' D I' q
 | ret v=>exact q
 | brk=>exact q
 | cont=>exact q
theorem iI' (h1:PS X st t):PSs X [st] t:=by
 intro pins s σ H D I h;refine wpAny_execs_cons (thn (h1 pins s σ H D I h) fun f s1 q=>?_)
 cases f with
 | next=>exact wpAny_execs_nil q
 | ret v=>exact q
 | brk=>exact q
 | cont=>exact q
theorem Inv.quiet {pins:List (Addr×Obj)} {σ:St} {H:Hp} {s:Shared} (I:Inv X pins σ H s):interactive X.env=false:=by simp [interactive,I.ok.kind]
noncomputable def tDrop (te:TE):TS:=fun D σ H=>te σ H fun _ H1=>D.nx σ H1
theorem iJ' (he:PE X e te) (hs:swapsWith e none pos.line X.env=pure false:=by rfl):PS X (.Expr e pos) (tDrop te):=by
 intro pins s σ H D I h;exact wpAny_Expr_any (thn (he pins s σ H _ I h) fun v s1 ⟨x,H1,I1,r1,q1⟩=>⟨σ,H1,I1,q1⟩) I.quiet hs
end
abbrev TG:=V->St->Hp->(St->Hp->Prop)->Prop
abbrev TGs:=List V->St->Hp->(St->Hp->Prop)->Prop
noncomputable def PG (X:Cx) (target:Expr) (t:TG):Prop :=
 ∀(pins:List (Addr×Obj)) (s:Shared) (σ:St) (H:Hp) (v:V) (u:Value) (Q:St->Hp->Prop),Inv X pins σ H s->RelV v u->t v σ H Q ->
  wpAny (model X.prog X.w) X.A (assign target X.env u) (fun _ s'=>∃σ' H',Inv X pins σ' H' s'/\Q σ' H') X.xe s
noncomputable def PGs (X:Cx) (ts:List Expr) (t:TGs):Prop :=
 ∀(pins:List (Addr×Obj)) (s:Shared) (σ:St) (H:Hp) (vs:List V) (us:List Value) (Q:St->Hp->Prop),Inv X pins σ H s->Vals vs us->t vs σ H Q ->
  wpAny (model X.prog X.w) X.A (assignInOrder ((assignEach ts X.env).map (·.2)) us) (fun _ s'=>∃σ' H',Inv X pins σ' H' s'/\Q σ' H') X.xe s
abbrev TSet:=V->V->V->Hp->(Hp->Prop)->Prop
noncomputable def PSet (X:Cx) (t:TSet):Prop :=
 ∀(pins:List (Addr×Obj)) (s:Shared) (σ:St) (H:Hp) (o i v:V) (ov iv u:Value) (Q:Hp->Prop),Inv X pins σ H s->RelV o ov->RelV i iv->RelV v u->t o i v H Q ->
  wpAny (model X.prog X.w) X.A (setItem ov iv u) (fun _ s'=>∃H',Inv X pins σ H' s'/\Q H') X.xe s
abbrev TIp:=V->V->Hp->VK->Prop
section
variable {X:Cx} {pos:Pos}
noncomputable def gName (i:Nat):TG:=fun v σ H Q=>Q (σ.set i (some v)) H
theorem fQ' {i:Nat} {x:Str} (hN:X.N.Nodup) (hi:X.N[i]? = some x) (hx:Loc X.env.scope x) (hf:X.fn x=true\/X.env.scope.names.lookup x=some .local:=by first | exact .inl rfl | exact .inr rfl | assumption):PG X (.Name x pos) (gName i):=by
 intro pins s σ H v u Q I r h;exact wpAny_assign_Name (cu' I hN hi hx r (fun s' I'=>⟨_,H,I',h⟩) hf)
noncomputable def gNil:TGs:=fun vs σ H Q=>vs=[]/\Q σ H
noncomputable def gCons (t:TG) (u:TGs):TGs:=fun vs σ H Q=>∃v r,vs=v :: r/\t v σ H fun σ' H'=>u r σ' H' Q
theorem iK':PGs X [] gNil:=by
 intro pins s σ H vs us Q I r h;obtain ⟨e,h⟩:=h;subst e
 cases r
 exact assignInOrder_nil ⟨σ,H,I,h⟩
theorem gY' {e:Expr} {es:List Expr} {t:TG} {u:TGs} (h1:PG X e t) (h2:PGs X es u)
  (hs:(assignEach (e :: es) X.env).map (·.2)=assign e X.env :: (assignEach es X.env).map (·.2):=by rfl):PGs X (e :: es) (gCons t u):=by
 intro pins s σ H vs us Q I r h;obtain ⟨v,vr,e1,h⟩:=h;subst e1
 cases r with
 | cons r rr =>
  rw [hs];refine assignInOrder_cons (thn (h1 pins s σ H _ _ _ I r h) fun _ s1 ⟨σ1,H1,I1,q1⟩=>?_);exact h2 pins s1 σ1 H1 _ _ Q I1 rr q1
noncomputable def gTup (K:PySem.W.Frag) (n:Nat) (t:TGs):TG:=fun v σ H Q=>∃a xs,v=.ref a/\SqT K H a xs/\xs.length=n/\t xs σ H Q
theorem jT' {es:List Expr} {k:Nat} {t:TGs} {n:Nat} (hc:X.calm=true) (h:PGs X es t)
  (hn:(assignEach es X.env).length=n:=by rfl) (hst:(assignEach es X.env).findIdx? (·.1)=none:=by rfl):PG X (.Tuple es k pos) (gTup X.K n t):=by
 intro pins s σ H v u Q I r hw;obtain ⟨a,xs,e1,hq,hl,hw⟩:=hw;subst e1
 cases r
 obtain ⟨its,rv,ht,hz⟩:=I.tuple hq;refine assign_Tuple_tuple (I.ok.hd hc) ht (by simp [hn,<- hl,rv.length]) hst fun h' hx=>?_;have I1:Inv X pins σ H { s with heap:=h' }:=I.kept (t':=s.toks) fun b o e=>hx b o (Nat.ne_of_lt (Heap.lt_size e)) e
 exact h pins _ σ H xs _ Q I1 (by simpa using rv) hw
end
section
variable {X:Cx} {pos:Pos}
noncomputable def tWhile (c:TT) (tb:TS):TS:=fun D σ H=>∃W:Nat->St->Hp->Prop,(∃m,W m σ H)/\∀m σ H,W m σ H ->
 c σ H fun b H1=>if b=true then ∃N:St->Hp->Prop,(∀σ' H',N σ' H'->∃m',m' < m/\W m' σ' H')/\tb { D with nx:=N,ct:=N,bk:=D.nx } σ H1 else D.nx σ H1
theorem gZ' {c:Expr} {body:List Stmt} {tc:TT} {tb:TS} (hp:PassesOwn (model X.prog X.w) X.A X.env X.xe) (hc:PT X c tc) (hb:PSs X body tb):PS X (.While c body [] pos) (tWhile tc tb):=by
 intro pins s σ H D I h;obtain ⟨W,⟨m0,w0⟩,turn⟩:=h;refine wpAny_While (codeAny_whileLoop (fun n s'=>∃σ' H',Inv X pins σ' H' s'/\W n σ' H') ?_ m0 ⟨σ,H,I,w0⟩)
 rintro n s1 ⟨σ1,H1,I1,w1⟩
 refine wpAny_passesOwn hp (thn (hc pins s1 σ1 H1 _ I1 (turn n σ1 H1 w1)) fun b s2 ⟨H2,I2,q2⟩=>?_)
 cases b with
 | true =>
  obtain ⟨N,hN,q2⟩:=q2;rw [if_pos rfl];refine wpAny_passesOwn hp (thn (hb pins s2 σ1 H2 _ I2 q2) fun f s3 q3=>?_)
  cases f with
  | next =>
   obtain ⟨σ3,H3,I3,n3⟩:=q3;obtain ⟨m',hm,w3⟩:=hN σ3 H3 n3;exact ⟨m',hm,σ3,H3,I3,w3⟩
  | cont =>
   obtain ⟨σ3,H3,I3,n3⟩:=q3;obtain ⟨m',hm,w3⟩:=hN σ3 H3 n3;exact ⟨m',hm,σ3,H3,I3,w3⟩
  | brk=>exact q3
  | ret v=>exact q3
 | false =>
  rw [if_neg Bool.false_ne_true];exact wpAny_execs_nil ⟨σ1,H2,I2,q2⟩
end
structure It where
 go:Nat->Hp->Prop
 yld:Nat->Hp->V->Hp->Prop
 stop:Nat->Hp->Prop
noncomputable def FpOk (X:Cx) (pins:List (Addr×Obj)) (H:Hp) (b:Addr):Prop :=
 H b=none/\b≠X.env.locals/\b∉X.fs/\(b∈X.ex\/X.s₀.heap.objs.size<=b)/\(∀x c,X.env.cells.lookup x=some c->c≠b)/\∀p∈X.pn ++ pins,p.1≠b
theorem Inv.fpOk {X:Cx} {pins:List (Addr×Obj)} {σ:St} {H H':Hp} {s:Shared} {b:Addr} (I:Inv X pins σ H s) (hb:s.heap.objs.size<=b) (hn:H' b=none):FpOk X pins H' b:=by
 refine ⟨hn,Nat.ne_of_gt (Nat.lt_of_lt_of_le I.lt hb),I.nofs hb,.inr (Nat.le_trans I.sz hb),fun x c e z=>?_,fun p hp z=>?_⟩
 ·obtain ⟨v,q⟩:=I.cell x c e;exact absurd (Nat.lt_of_lt_of_le q.lt (by rw [z]; exact hb)) (Nat.lt_irrefl _)
 ·exact absurd (Nat.lt_of_lt_of_le (Heap.lt_size (I.pin p hp).1) (by rw [z]; exact hb)) (Nat.lt_irrefl _)
structure Turn (P:Program) (w:World) (K:PySem.W.Frag) (tg:Expr) (J:It) (fp:List Addr) (it:Addr) (tn:Nat->Heap->Prop):Prop where
 mem:it∈fp
 obj:∀i h,tn i h->∀b∈fp,∃o,h.get? b=some o/\∀v,o.data≠.cell v
 keep:∀i h h',tn i h->(∀b∈fp,∀o,h.get? b=some o->h'.get? b=some o)->tn i h'
 item:∀(X:Cx),X.prog=P->X.w=w->X.K=K->X.calm=true->∀(i:Nat) (pins:List (Addr×Obj)) (s:Shared) (σ:St) (H:Hp) (E:Value->Shared->Prop),Inv X pins σ H s->(∀b∈fp,FpOk X pins H b)->tn i s.heap->J.go i H ->
  wpAny (model P w) X.A (pyNext (.ref it)) (fun r s1=>∃u,r=some u /\
   wpAny (model P w) X.A (letOwnedTupleGo tg (.ref it) u) (fun _ s2=>∃x H',Inv X pins σ H' s2/\RelV x u/\J.yld i H x H'/\tn (i + 1) s2.heap/\∀b∈fp,H' b=none) E s1) E s
 done:∀(X:Cx),X.prog=P->X.w=w->X.K=K->X.calm=true->∀(i:Nat) (pins:List (Addr×Obj)) (s:Shared) (σ:St) (H:Hp) (E:Value->Shared->Prop),Inv X pins σ H s->(∀b∈fp,FpOk X pins H b)->tn i s.heap->J.stop i H ->
  wpAny (model P w) X.A (pyNext (.ref it)) (fun r s1=>r=none/\Inv X pins σ H s1) E s
 self:∀(A:Around) (i:Nat) (s:Shared) (Q:Value->Shared->Prop) (E:Value->Shared->Prop),tn i s.heap->Q (.ref it) s->wpAny (model P w) A (pyIter (.ref it)) Q E s
abbrev TI:=St->Hp->(It->Hp->Prop)->Prop
noncomputable def PIE (X:Cx) (pins:List (Addr×Obj)) (σ:St) (tg:Expr) (R:It->Hp->Prop) (itv:Value) (s2:Shared):Prop :=
 ∃(it:Addr) (fp:List Addr) (tn:Nat->Heap->Prop) (J:It) (H':Hp),itv=.ref it/\Inv X pins σ H' s2/\Turn X.prog X.w X.K tg J fp it tn/\tn 0 s2.heap/\(∀b∈fp,FpOk X pins H' b)/\R J H'
noncomputable def PI (X:Cx) (tg iter:Expr) (wi:TI):Prop :=
 ∀(pins:List (Addr×Obj)) (s:Shared) (σ:St) (H:Hp) (R:It->Hp->Prop),Inv X pins σ H s->wi σ H R ->
  wpAny (model X.prog X.w) X.A (eval iter X.env) (fun v s1=>wpAny (model X.prog X.w) X.A (pyIter v) (PIE X pins σ tg R) X.xe s1) X.xe s
theorem hb' {M:Model} {A:Around} {E:Value->Shared->Prop} {s:Shared} {tg:Expr} {it:Addr} {u:Value} {o:Obj} {n:String} {vs:Array Value} {Q:Unit->Shared->Prop} (ho:s.heap.get? it=some o) (hc:o.cls=.type n) (hd:o.data=.fields vs)
    (hn:["enumerate", "zip", "dict_itemiterator", "dict_reverseitemiterator", "odict_iterator", "itertools.zip_longest", "itertools.pairwise"].contains n=false) (hQ:Q () s):wpAny M A (letOwnedTupleGo tg (.ref it) u) Q E s:=by
  unfold letOwnedTupleGo
  cases tg <;> first
    | exact wpAny_pure hQ
    | (cases u <;> first
        | exact wpAny_pure hQ
        | (refine wpAny_bind (wpAny_load ho ?_)
           rw [hc,hd];show wpAny M A (if (["enumerate", "zip", "dict_itemiterator", "dict_reverseitemiterator", "odict_iterator", "itertools.zip_longest", "itertools.pairwise"].contains n && vs[0]? == some (rawInt _))=true then _ else _) Q E s
           rw [if_neg (by intro h; rw [hn,Bool.false_and] at h; cases h)];exact wpAny_pure hQ))
noncomputable def Itl (K:PySem.W.Frag) (a:Addr):It :=
 ⟨fun i H=>∃xs x,SqL K H a xs/\xs[i]? = some x,fun i H x H'=>H'=H/\∀xs,SqL K H a xs->xs[i]? = some x,fun i H=>∃xs,SqL K H a xs/\xs.length<=i⟩
noncomputable def Itt (K:PySem.W.Frag) (a:Addr):It :=
 ⟨fun i H=>∃xs x,SqT K H a xs/\xs[i]? = some x,fun i H x H'=>H'=H/\∀xs,SqT K H a xs->xs[i]? = some x,fun i H=>∃xs,SqT K H a xs/\xs.length<=i⟩
noncomputable def Itr (lo:Int) (n:Nat):It:=⟨fun i _=>i < n,fun i H x H'=>H'=H/\x=.int (lo + i),fun i _=>n<=i⟩
theorem fR' {P:Program} {w:World} {K:PySem.W.Frag} {tg:Expr} (a it:Addr):Turn P w K tg (Itl K a) [it] it (fun i h=>h.IsListIter it a i) where
 mem:=by simp
 obj:=fun i h st b hb=>by
  have e:b=it:=by simpa using hb
  subst e;obtain ⟨o,e,c,d⟩:=st;exact ⟨o,e,fun v z=>by rw [d] at z; cases z⟩
 keep:=fun i h h' st k=>st.at fun o e=>k it (by simp) o e
 item:=by
  intro X hP hw hK hc i pins s σ H E I hf st hg;subst hP hw hK;obtain ⟨xs,x,hq,hx⟩:=hg;obtain ⟨its,rv,p,hz⟩:=I.list hq;obtain ⟨u,hu,ru⟩:=rv.get hx;obtain ⟨f0,f1,f2,f3,f4,f5⟩:=hf it (by simp);refine wpAny_pyNext_list_item st p.isList (x:=u) (by simpa using hu) fun h' st' sb=>?_;have I1:Inv X pins σ H { s with heap:=h' }:=I.turned (t':=s.toks) (fun b o hb e=>(sb.2 b hb).trans e) f0 f1 f3 f4 f5
  obtain ⟨o,e,c,d⟩:=id st';exact ⟨u,rfl,hb' (s:={ s with heap:=h' }) e c d (by decide) ⟨x,H,I1,ru,⟨rfl,fun ys hy=>by rw [I.list_inj hy hq]; exact hx⟩,st',fun b hb=>(hf b hb).1⟩⟩
 done:=by
  intro X hP hw hK hc i pins s σ H E I hf st hg;subst hP hw hK;obtain ⟨xs,hq,hx⟩:=hg;obtain ⟨its,rv,p,hz⟩:=I.list hq;obtain ⟨f0,f1,f2,f3,f4,f5⟩:=hf it (by simp);have hl:=rv.length;exact wpAny_pyNext_list_end (I.ok.hd hc) st p.isList (by simp; omega) fun h' eb=>⟨rfl,I.turned (t':=s.toks) (fun b o hb e=>eb b o hb e) f0 f1 f3 f4 f5⟩
 self:=fun _ _ _ _ _ st h=>wpAny_pyIter_listiter st h
theorem fi' {P:Program} {w:World} {K:PySem.W.Frag} {tg:Expr} (a it:Addr):Turn P w K tg (Itt K a) [it] it (fun i h=>h.IsTupleIter it a i) where
 mem:=by simp
 obj:=fun i h st b hb=>by
  have e:b=it:=by simpa using hb
  subst e;obtain ⟨o,e,c,d⟩:=st;exact ⟨o,e,fun v z=>by rw [d] at z; cases z⟩
 keep:=fun i h h' st k=>st.at fun o e=>k it (by simp) o e
 item:=by
  intro X hP hw hK hc i pins s σ H E I hf st hg;subst hP hw hK;obtain ⟨xs,x,hq,hx⟩:=hg;obtain ⟨its,rv,p,hz⟩:=I.tuple hq;obtain ⟨u,hu,ru⟩:=rv.get hx;obtain ⟨f0,f1,f2,f3,f4,f5⟩:=hf it (by simp);refine wpAny_pyNext_tuple_item st (show s.heap.IsTuple a its.toArray from p) (x:=u) (by simpa using hu) fun h' st' sb=>?_
  have I1:Inv X pins σ H { s with heap:=h' }:=I.turned (t':=s.toks) (fun b o hb e=>(sb.2 b hb).trans e) f0 f1 f3 f4 f5
  obtain ⟨o,e,c,d⟩:=id st';exact ⟨u,rfl,hb' (s:={ s with heap:=h' }) e c d (by decide) ⟨x,H,I1,ru,⟨rfl,fun ys hy=>by rw [I.tuple_inj hy hq]; exact hx⟩,st',fun b hb=>(hf b hb).1⟩⟩
 done:=by
  intro X hP hw hK hc i pins s σ H E I hf st hg;subst hP hw hK;obtain ⟨xs,hq,hx⟩:=hg;obtain ⟨its,rv,p,hz⟩:=I.tuple hq;obtain ⟨f0,f1,f2,f3,f4,f5⟩:=hf it (by simp);have hl:=rv.length;exact wpAny_pyNext_tuple_end (I.ok.hd hc) st (show s.heap.IsTuple a its.toArray from p) (by simp; omega) fun h' eb=>⟨rfl,I.turned (t':=s.toks) (fun b o hb e=>eb b o hb e) f0 f1 f3 f4 f5⟩
 self:=fun _ _ _ _ _ st h=>wpAny_pyIter_tupleiter st h
theorem fj' {P:Program} {w:World} {K:PySem.W.Frag} {tg:Expr} (it:Addr) (lo:Int) (n:Nat):Turn P w K tg (Itr lo n) [it] it (fun i h=>IsRangeIter h it (lo + (i:Nat) * 1) ((n:Int) - (i:Nat)) 1) where
 mem:=by simp
 obj:=fun i h st b hb=>by
  have e:b=it:=by simpa using hb
  subst e;exact ⟨_,st,fun v z=>by
   have z':Data.fields _=Data.cell v:=z
   cases z'⟩
 keep:=fun i h h' st k=>k it (by simp) _ st
 item:=by
  intro X hP hw hK hc i pins s σ H E I hf st hg;subst hP hw hK;obtain ⟨f0,f1,f2,f3,f4,f5⟩:=hf it (by simp);have W:=Walks.range (prog:=X.prog) (w:=X.w) (I.ok.hd hc) it lo 1 n;refine W.item i s _ _ hg st fun v h' tk hv st' kk=>?_;obtain ⟨t,rfl⟩:=hv;have I1:Inv X pins σ H { s with heap:=h',toks:=tk }:=I.turned (fun b o hb e=>kk b o (by simpa using hb) e) f0 f1 f3 f4 f5
  refine ⟨_,rfl,hb' (s:={ s with heap:=h',toks:=tk }) (n:="range_iterator") st' rfl rfl (by decide) ⟨.int (lo + i),H,I1,⟨t,?_⟩,⟨rfl,rfl⟩,st',fun b hb=>(hf b hb).1⟩⟩
  rw [Int.mul_one]
 done:=by
  intro X hP hw hK hc i pins s σ H E I hf st hg;subst hP hw hK;obtain ⟨f0,f1,f2,f3,f4,f5⟩:=hf it (by simp);exact wpAny_pyNext_range_end (I.ok.hd hc) st (by have:n<=i:=hg; omega) fun h' eb=>⟨rfl,I.turned (t':=s.toks) (fun b o hb e=>eb b o hb e) f0 f1 f3 f4 f5⟩
 self:=fun _ _ _ _ _ st h=>wpAny_pyIter_rangeiter st h
section
variable {X:Cx} {tg:Expr}
theorem he' {pins:List (Addr×Obj)} {σ:St} {H:Hp} {s:Shared} {R:It->Hp->Prop} {E:Value->Shared->Prop} {lo hi:Int} {t u v:Tok} {tk:Nat} (I:Inv X pins σ H s) (h1:-(2 ^ 62)<=lo) (h2:lo < 2 ^ 62) (h3:-(2 ^ 62)<=hi) (h4:hi < 2 ^ 62)
  (q:R (Itr lo (hi - lo).toNat) H):wpAny (model X.prog X.w) X.A (pyIter (.ref s.heap.objs.size)) (PIE X pins σ tg R) E { s with heap:=s.heap.push { cls:=.type "range",data:=.fields #[.int lo t,.int hi u,.int 1 v] },toks:=tk }:=by
 refine wpAny_pyIter_range (IsRange.new ..) (small_one h1 h2 h3 h4) ?_;have I1:Inv X pins σ H { s with heap:=s.heap.push { cls:=.type "range",data:=.fields #[.int lo t,.int hi u,.int 1 v] },toks:=tk }:=I.kept fun b o e=>Heap.get?_push_of_some _ e
 refine ⟨(s.heap.push { cls:=.type "range",data:=.fields #[.int lo t,.int hi u,.int 1 v] }).objs.size,[(s.heap.push { cls:=.type "range",data:=.fields #[.int lo t,.int hi u,.int 1 v] }).objs.size],_,_,H,rfl,
  I1.kept (t':=tk) fun b o e=>Heap.get?_push_of_some _ e,fj' _ lo (hi - lo).toNat,?_,fun b hb=>?_,q⟩
 ·have e1:lo + ((0:Nat):Int) * 1=lo:=by simp
  have e2:(((hi - lo).toNat:Nat):Int) - ((0:Nat):Int)=Builtin.Range.rangeSize lo hi 1:=by rw [rangeSize_one]; split <;> omega
  show IsRangeIter _ _ (lo + ((0:Nat):Int) * 1) ((((hi - lo).toNat:Nat):Int) - ((0:Nat):Int)) 1;rw [e1,e2];exact Heap.get?_push_size _ rfl
 ·have e:b=(s.heap.push { cls:=.type "range",data:=.fields #[.int lo t,.int hi u,.int 1 v] }).objs.size:=by simpa using hb
  subst e;exact I1.fpOk (Nat.le_refl _) (I1.hok.fresh (Nat.le_refl _))
noncomputable def tFor (wi:TI) (g:TG) (tb:TS):TS:=fun D σ H=>wi σ H fun J H1=>∃W:Nat->Nat->St->Hp->Prop,(∃m,W 0 m σ H1)/\∀i m σ H,W i m σ H ->
 (J.stop i H/\D.nx σ H)\/(J.go i H/\∃N:St->Hp->Prop,(∀σ' H',N σ' H'->∃m',m' < m/\W (i + 1) m' σ' H')/\∀x H',J.yld i H x H'->g x σ H' fun σ2 H2=>tb { D with nx:=N,ct:=N,bk:=D.nx } σ2 H2)
noncomputable def pinsAt (fp:List Addr) (h:Heap):List (Addr×Obj):=fp.filterMap fun b=>(h.get? b).map fun o=>(b,o)
theorem bF' {fp:List Addr} {h:Heap} {b:Addr} {o:Obj} (hb:b∈fp) (e:h.get? b=some o):(b,o)∈pinsAt fp h:=List.mem_filterMap.mpr ⟨b,hb,by rw [e]; rfl⟩
theorem fS' {fp:List Addr} {h:Heap} {p:Addr×Obj} (hp:p∈pinsAt fp h):p.1∈fp/\h.get? p.1=some p.2:=by
 obtain ⟨b,hb,e⟩:=List.mem_filterMap.mp hp
 cases q:h.get? b with
 | none=>rw [q] at e; cases e
 | some o =>
  rw [q] at e;have e':(b,o)=p:=Option.some.inj e;subst e';exact ⟨hb,q⟩
theorem Inv.pinned {pins:List (Addr×Obj)} {σ:St} {H:Hp} {s:Shared} {fp:List Addr} (I:Inv X pins σ H s) (hf:∀b∈fp,FpOk X pins H b) (ho:∀b∈fp,∃o,s.heap.get? b=some o/\∀v,o.data≠.cell v):Inv X (pins ++ pinsAt fp s.heap) σ H s :=
 I.pins_of fun p hp=>(List.mem_append.mp hp).elim (fun z=>I.pin p (List.mem_append_right _ z)) fun z=>by
  obtain ⟨hb,e⟩:=fS' z;obtain ⟨f0,f1,f2,_⟩:=hf p.1 hb;obtain ⟨o,e',d⟩:=ho p.1 hb;rw [e] at e'; cases e';exact ⟨e,f0,f1,f2,d⟩
theorem Inv.unpinned {pins pl:List (Addr×Obj)} {σ:St} {H:Hp} {s:Shared} (I:Inv X (pins ++ pl) σ H s):Inv X pins σ H s:=I.pins_of fun p hp=>I.pin p (List.mem_append_right _ (List.mem_append_left _ hp))
theorem jU' {iter:Expr} {body:List Stmt} {wi:TI} {g:TG} {tb:TS} {pos:Pos} (hp:PassesOwn (model X.prog X.w) X.A X.env X.xe) (hc:X.calm=true) (hi:PI X tg iter wi) (hg:PG X tg g) (hb:PSs X body tb)
  (hs:∀x,foldedSetIterable iter X.env x=pure x:=by intro _; rfl):PS X (.For tg iter body [] pos) (tFor wi g tb):=by
 intro pins s σ H D I h;refine wpAny_For (thn (hi pins s σ H _ I h) fun v s1 h1=>thn h1 fun itv s2 h2=>?_) hs;obtain ⟨it,fp,tn,J,H2,e,I2,T,st2,f2,W,⟨m0,w0⟩,turn⟩:=h2;subst e;have stat:∀{H':Hp},(∀b∈fp,H' b=none)->∀b∈fp,FpOk X pins H' b:=fun hn b hb=>⟨hn b hb,(f2 b hb).2⟩;refine codeAny_forLoop_any (fun n s'=>∃i σ' H',Inv X pins σ' H' s'/\tn i s'.heap/\(∀b∈fp,H' b=none)/\W i n σ' H') ?_ m0 ⟨0,σ,H2,I2,st2,fun b hb=>(f2 b hb).1,w0⟩
 rintro n s3 ⟨i,σ3,H3,I3,st3,fr3,w3⟩
 rcases turn i n σ3 H3 w3 with ⟨stop,qn⟩ | ⟨go,N,hN,step⟩
 ·refine wpAny_passesOwn hp (thn (T.done X rfl rfl rfl hc i pins s3 σ3 H3 X.xe I3 (stat fr3) st3 stop) fun r s4 ⟨hr,I4⟩=>?_)
  subst hr;exact wpAny_execs_nil ⟨σ3,H3,I4,qn⟩
 ·refine wpAny_passesOwn hp (thn (T.item X rfl rfl rfl hc i pins s3 σ3 H3 X.xe I3 (stat fr3) st3 go) fun r s4 ⟨u,hr,h4⟩=>?_);subst hr;refine wpAny_passesOwn hp (thn h4 fun _ s5 ⟨x,H5,I5,r5,y5,st5,fr5⟩=>?_);have I5':=I5.pinned (stat fr5) (T.obj _ _ st5);refine wpAny_passesOwn hp (thn (hg _ s5 σ3 H5 x u _ I5' r5 (step x H5 y5)) fun _ s6 ⟨σ6,H6,I6,q6⟩=>?_);refine wpAny_passesOwn hp (thn (hb _ s6 σ6 H6 _ I6 q6) fun f s7 q7=>?_);have again:∀{σ7:St} {H7:Hp},Inv X (pins ++ pinsAt fp s5.heap) σ7 H7 s7->N σ7 H7->∃m,m < n/\∃i σ' H',Inv X pins σ' H' s7/\tn i s7.heap/\(∀b∈fp,H' b=none)/\W i m σ' H':=fun {σ7 H7} I7 n7=>by
   obtain ⟨m',hm,w7⟩:=hN σ7 H7 n7;refine ⟨m',hm,i + 1,σ7,H7,I7.unpinned,T.keep _ _ _ st5 fun b hb o e=>(I7.pin (b,o) (List.mem_append_right _ (List.mem_append_right _ (bF' hb e)))).1,fun b hb=>?_,w7⟩;obtain ⟨o,e,d⟩:=T.obj _ _ st5 b hb;exact (I7.pin (b,o) (List.mem_append_right _ (List.mem_append_right _ (bF' hb e)))).2.1
  cases f with
  | next=>obtain ⟨σ7,H7,I7,n7⟩:=q7; exact again I7 n7
  | cont=>obtain ⟨σ7,H7,I7,n7⟩:=q7; exact again I7 n7
  | brk=>obtain ⟨σ7,H7,I7,q7⟩:=q7; exact ⟨σ7,H7,I7.unpinned,q7⟩
  | ret v=>obtain ⟨x7,σ7,H7,I7,r7,q7⟩:=q7; exact ⟨x7,σ7,H7,I7.unpinned,r7,q7⟩
end
abbrev R2:=V->V->Hp->VK->Prop
noncomputable def OpR (X:Cx) (f:Value->Value->Sem Value) (r:R2):Prop :=
 ∀(pins:List (Addr×Obj)) (s:Shared) (σ:St) (H:Hp) (x y:V) (v u:Value) (Q:VK),Inv X pins σ H s->RelV x v->RelV y u->r x y H Q ->
  wpAny (model X.prog X.w) X.A (f v u) (EP X pins σ Q) X.xe s
noncomputable def UnR (X:Cx) (f:Value->Sem Value) (r:V->Hp->VK->Prop):Prop :=
 ∀(pins:List (Addr×Obj)) (s:Shared) (σ:St) (H:Hp) (x:V) (v:Value) (Q:VK),Inv X pins σ H s->RelV x v->r x H Q ->
  wpAny (model X.prog X.w) X.A (f v) (EP X pins σ Q) X.xe s
noncomputable def CallR (X:Cx) (f:Value) (r:List V->Hp->VK->Prop):Prop :=
 ∀(pins:List (Addr×Obj)) (s:Shared) (σ:St) (H:Hp) (xs:List V) (us:List Value) (Q:VK),Inv X pins σ H s->Vals xs us->r xs H Q ->
  wpAny (model X.prog X.w) X.A (call f us) (EP X pins σ Q) X.xe s
noncomputable def TruR (X:Cx) (r:V->Hp->(Bool->Hp->Prop)->Prop):Prop :=
 ∀(pins:List (Addr×Obj)) (s:Shared) (σ:St) (H:Hp) (x:V) (v:Value) (Q:Bool->Hp->Prop),Inv X pins σ H s->RelV x v->r x H Q ->
  wpAny (model X.prog X.w) X.A (truthy v) (TP X pins σ Q) X.xe s
noncomputable def rI (C:Int->Int->Prop) (g:Int->Int->V):R2:=fun x y H Q=>∃i j,x=.int i/\y=.int j/\C i j/\Q (g i j) H
noncomputable def rI0 (g:Int->Int->V):R2:=fun x y H Q=>∃i j,x=.int i/\y=.int j/\Q (g i j) H
noncomputable def rU (g:Int->V):V->Hp->VK->Prop:=fun x H Q=>∃i,x=.int i/\Q (g i) H
section
variable {X:Cx} {a b c:Expr} {ta tb tc:TE} {pos:Pos}
theorem opI {f:Value->Value->Sem Value} {C:Int->Int->Prop} {g:Int->Int->Int}
  (rule:∀(i j:Int) (t u:Tok) (s:Shared) (Q:Value->Shared->Prop) (E:Value->Shared->Prop),C i j->Q (.int (g i j) s.toks) { s with toks:=s.toks + 1 }->wpAny (model X.prog X.w) X.A (f (.int i t) (.int j u)) Q E s) :
  OpR X f (rI C fun i j=>.int (g i j)):=by
 intro pins s σ H x y v u Q I rx ry h;obtain ⟨i,j,rfl,rfl,hc,q⟩:=h;obtain ⟨t,rfl⟩:=rx;obtain ⟨t',rfl⟩:=ry;exact rule i j t t' s _ _ hc ⟨.int (g i j),H,I.tok _,⟨_,rfl⟩,q⟩
theorem opI0 {f:Value->Value->Sem Value} {g:Int->Int->Int}
  (rule:∀(i j:Int) (t u:Tok) (s:Shared) (Q:Value->Shared->Prop) (E:Value->Shared->Prop),Q (.int (g i j) s.toks) { s with toks:=s.toks + 1 }->wpAny (model X.prog X.w) X.A (f (.int i t) (.int j u)) Q E s) :
  OpR X f (rI0 fun i j=>.int (g i j)):=by
 intro pins s σ H x y v u Q I rx ry h;obtain ⟨i,j,rfl,rfl,q⟩:=h;obtain ⟨t,rfl⟩:=rx;obtain ⟨t',rfl⟩:=ry;exact rule i j t t' s _ _ ⟨.int (g i j),H,I.tok _,⟨_,rfl⟩,q⟩
theorem opB0 {f:Value->Value->Sem Value} {g:Int->Int->Bool}
  (rule:∀(i j:Int) (t u:Tok) (s:Shared) (Q:Value->Shared->Prop) (E:Value->Shared->Prop),Q (.bool (g i j)) s->wpAny (model X.prog X.w) X.A (f (.int i t) (.int j u)) Q E s) :
  OpR X f (rI0 fun i j=>.bl (g i j)):=by
 intro pins s σ H x y v u Q I rx ry h;obtain ⟨i,j,rfl,rfl,q⟩:=h;obtain ⟨t,rfl⟩:=rx;obtain ⟨t',rfl⟩:=ry;exact rule i j t t' s _ _ ⟨.bl (g i j),H,I,rfl,q⟩
noncomputable def CPow (i j:Int):Prop:=0<=j/\j<=1000000/\i.natAbs < 2 ^ 64
noncomputable def CMul (i j:Int):Prop:=(-(2 ^ 64) < i/\i < 2 ^ 64)\/(-(2 ^ 64) < j/\j < 2 ^ 64)
theorem CMul.ok {i j:Int} (h:CMul i j):IntMulOk i j:=by
 rcases h with ⟨h1,h2⟩ | ⟨h1,h2⟩
 ·exact .of_left (intBits_le_64 h1 h2)
 ·exact .of_right (intBits_le_64 h1 h2)
theorem op_add:OpR X (binaryOp .Add) (rI0 fun i j=>.int (i + j)):=opI0 fun _ _ _ _ _ _ _ q=>add_int q
theorem jV':OpR X (binaryOp .Sub) (rI0 fun i j=>.int (i - j)):=opI0 fun _ _ _ _ _ _ _ q=>sub_int q
theorem iL':OpR X (binaryOp .Mod) (rI (fun _ j=>j≠0) fun i j=>.int (i.fmod j)):=opI fun _ _ _ _ _ _ _ hc q=>mod_int' hc q
theorem jW':OpR X (binaryOp .Pow) (rI CPow fun i j=>.int (i ^ j.toNat)):=opI fun _ _ _ _ _ _ _ hc q=>pow_int_small hc.1 hc.2.1 hc.2.2 q
theorem jX':OpR X (binaryOp .LShift) (rI CPow fun i j=>.int (i * 2 ^ j.toNat)):=opI fun _ _ _ _ _ _ _ hc q=>lshift_int_small hc.1 hc.2.1 hc.2.2 q
theorem unI {f:Value->Sem Value} {g:Int->Int}
  (rule:∀(i:Int) (t:Tok) (s:Shared) (Q:Value->Shared->Prop) (E:Value->Shared->Prop),Q (.int (g i) s.toks) { s with toks:=s.toks + 1 }->wpAny (model X.prog X.w) X.A (f (.int i t)) Q E s) :
  UnR X f (rU fun i=>.int (g i)):=by
 intro pins s σ H x v Q I rx h;obtain ⟨i,rfl,q⟩:=h;obtain ⟨t,rfl⟩:=rx;exact rule i t s _ _ ⟨.int (g i),H,I.tok _,⟨_,rfl⟩,q⟩
theorem jY':UnR X (unaryOp .USub) (rU fun i=>.int (-i)):=unI fun _ _ _ _ _ q=>neg_int q
end
section
variable {X:Cx} {a b c:Expr} {ta tb tc:TE} {pos:Pos}
theorem kV':OpR X (compareOp .Lt) (rI0 fun i j=>.bl (decide (i < j))):=opB0 fun _ _ _ _ _ _ _ q=>lt_int q
theorem kW':OpR X (compareOp .Gt) (rI0 fun i j=>.bl (decide (j < i))):=opB0 fun _ _ _ _ _ _ _ q=>gt_int q
theorem OpR.or {f:Value->Value->Sem Value} {r r':R2} (h:OpR X f r) (h':OpR X f r'):OpR X f (fun x y H Q=>r x y H Q\/r' x y H Q):=by
 intro pins s σ H x y v u Q I rx ry q;rcases q with q | q
 ·exact h pins s σ H x y v u Q I rx ry q
 ·exact h' pins s σ H x y v u Q I rx ry q
theorem ax' (b:Expr) {op:CmpOp} (h:op≠.In:=by decide) (h2:op≠.NotIn:=by decide):behindInMarks op b=false:=by
 have e1:(op == CmpOp.In)=false:=by cases op <;> first | rfl | exact absurd rfl h
 have e2:(op == CmpOp.NotIn)=false:=by cases op <;> first | rfl | exact absurd rfl h2
 cases b <;> simp [behindInMarks,e1,e2]
noncomputable def TruV (K:PySem.W.Frag) (x:V) (H:Hp) (k:Bool):Prop :=
 match x with
 | .non=>k=false
 | .bl b=>k=b
 | .int i=>k=(i != 0)
 | .str y=>y.length<=sizeLine/\k=((y.length:Int) != 0)
 | .byt y=>y.size<=sizeLine/\k=((y.size:Int) != 0)
 | .ref p=>(∃xs,SqL K H p xs/\k = !xs.isEmpty)\/(∃xs,SqT K H p xs/\k = !xs.isEmpty)\/∃kvs,H p=some (.dK kvs)/\k = !kvs.isEmpty
 | _=>False
theorem fk' {κ:Type} {kvs:List (κ×V)} {vs:List (κ×Value)} (r:KV kvs vs):(!vs.isEmpty) = !kvs.isEmpty:=by
 cases r <;> rfl
theorem cR' {xs:List V} {its:List Value} (r:Vals xs its):(!its.toArray.isEmpty) = !xs.isEmpty:=by
 cases r <;> simp
theorem cS':(sizeLine:Nat) < 2 ^ 63:=by rw [sizeLine_eq]; decide
theorem jZ':TruR X (fun x H Q=>∃k,TruV X.K x H k/\Q k H):=by
 intro pins s σ H x v Q I rx h;obtain ⟨k,e,q⟩:=h;have hl:=cS';have hs:sizeLine=16777216:=sizeLine_eq
 cases x with
 | non =>
  cases rx
  have e':k=false:=e;subst e';exact truthy_none ⟨H,I,q⟩
 | bl b =>
  cases rx
  have e':k=b:=e;subst e';exact wpAny_truthy_bool ⟨H,I,q⟩
 | int i =>
  obtain ⟨t,rfl⟩:=rx;have e':k=(i != 0):=e;subst e';exact PySem.P.truthy_int ⟨H,I,q⟩
 | str y =>
  obtain ⟨t,rfl⟩:=rx;obtain ⟨hy,e'⟩:y.length<=sizeLine/\k=((y.length:Int) != 0):=e;subst e';exact PySem.P.truthy_str (by omega) ⟨H,I.tok _,q⟩
 | byt y =>
  obtain ⟨t,rfl⟩:=rx;obtain ⟨hy,e'⟩:y.size<=sizeLine/\k=((y.size:Int) != 0):=e;subst e';exact PySem.W.truthy_bytes (by omega) ⟨H,I.tok _,q⟩
 | ref p =>
  cases rx
  have e':(∃xs,SqL X.K H p xs/\k = !xs.isEmpty)\/(∃xs,SqT X.K H p xs/\k = !xs.isEmpty)\/∃kvs,H p=some (.dK kvs)/\k = !kvs.isEmpty:=e;rcases e' with ⟨xs,hx,e'⟩ | ⟨xs,hx,e'⟩ | ⟨kvs,hx,e'⟩
  ·subst e';obtain ⟨its,r,pl,hz⟩:=I.list hx;have hlen:=r.length;exact wpAny_truthy_list pl.isList (by simp only [List.size_toArray]; omega) ⟨H,I.tok _,by rw [cR' r]; exact q⟩
  ·subst e';obtain ⟨its,r,pl,hz⟩:=I.tuple hx;have hlen:=r.length;exact truthy_tuple pl (by simp only [List.size_toArray]; omega) ⟨H,I.tok _,by rw [cR' r]; exact q⟩
  ·subst e';obtain ⟨hz,hS,vs,r,m⟩:kvs.length<=sizeLine/\(p == sysModules)=false/\∃vs,KV kvs vs/\s.heap.DictOf (mixKind X.prog X.w) p vs:=I.hok p _ hx;have hlen:kvs.length=vs.length:=Paired.length r;exact wpAny_truthy_dict hS m (by omega) ⟨H,I.tok _,by rw [fk' r]; exact q⟩
 | _=>exact (show False from e).elim
theorem op_add_str:OpR X (binaryOp .Add) (fun x y H Q=>∃i j,x=.str i/\y=.str j/\i.length + j.length<=sizeLine/\Q (.str (i ++ j)) H):=by
 intro pins s σ H x y v u Q I rx ry h;obtain ⟨i,j,rfl,rfl,hz,q⟩:=h;obtain ⟨t,rfl⟩:=rx;obtain ⟨t',rfl⟩:=ry;exact add_str (fun t' tk=>⟨.str (i ++ j),H,I.tok _,⟨_,rfl⟩,q⟩) hz
theorem vals1 {x:V} {us:List Value} (r:Vals [x] us):∃u,us=[u]/\RelV x u:=by
 cases r with
 | cons r1 r2=>cases r2; exact ⟨_,rfl,r1⟩
theorem hg':CallR X (.builtin "abs") (fun xs H Q=>∃i,xs=[.int i]/\Q (.int (if i < 0 then -i else i)) H):=by
 intro pins s σ H xs us Q I r h;obtain ⟨i,rfl,q⟩:=h;obtain ⟨u,rfl,t,rfl⟩:=vals1 r;exact call_abs_int fun u tk=>⟨.int (if i < 0 then -i else i),H,I.tok _,⟨_,rfl⟩,q⟩
noncomputable def LenV (K:PySem.W.Frag) (x:V) (H:Hp) (n:Nat):Prop :=
 match x with
 | .str y=>y.length<=sizeLine/\n=y.length
 | .byt y=>y.size<=sizeLine/\n=y.size
 | .ref p=>(∃xs,SqL K H p xs/\n=xs.length)\/∃xs,SqT K H p xs/\n=xs.length
 | _=>False
theorem hh':CallR X (.builtin "len") (fun xs H Q=>∃x n,xs=[x]/\LenV X.K x H n/\Q (.int n) H):=by
 intro pins s σ H xs us Q I r h;obtain ⟨x,n,rfl,e,q⟩:=h;obtain ⟨u,rfl,rx⟩:=vals1 r;have hl:=cS';have hs:sizeLine=16777216:=sizeLine_eq
 cases x with
 | str y =>
  obtain ⟨t,rfl⟩:=rx;obtain ⟨hy,e'⟩:y.length<=sizeLine/\n=y.length:=e;subst e';exact len_str (by omega) ⟨.int _,H,I.tok _,⟨_,rfl⟩,q⟩
 | byt y =>
  obtain ⟨t,rfl⟩:=rx;obtain ⟨hy,e'⟩:y.size<=sizeLine/\n=y.size:=e;subst e';exact PySem.W.len_bytes (by omega) ⟨.int _,H,I.tok _,⟨_,rfl⟩,q⟩
 | ref p =>
  cases rx
  have e':(∃xs,SqL X.K H p xs/\n=xs.length)\/∃xs,SqT X.K H p xs/\n=xs.length:=e;rcases e' with ⟨xs,hx,e'⟩ | ⟨xs,hx,e'⟩
  ·subst e';obtain ⟨its,r',pl,hz⟩:=I.list hx;have hlen:=r'.length;exact Calls.call_len_list pl.isList (by simp only [List.size_toArray]; omega) ⟨.int xs.length,H,I.tok _,⟨_,by simp only [List.size_toArray]; rw [hlen]⟩,q⟩
  ·subst e';obtain ⟨its,r',pl,hz⟩:=I.tuple hx;have hlen:=r'.length;exact len_tuple pl (by simp only [List.size_toArray]; omega) ⟨.int xs.length,H,I.tok _,⟨_,by simp only [List.size_toArray]; rw [hlen]⟩,q⟩
 | _=>exact (show False from e).elim
end
structure ObjM (h:Heap) (x dx C:Addr) (mA:Str->Option Value):Prop where
 obj:h.get? x=some (PySem.W.instObj C dx)
 ns:h.Ns1 dx mA
 ne:dx≠x
theorem dA' {h:Heap} {dx:Addr} {mA:Str->Option Value} (n:h.Ns1 dx mA):∃od,h.get? dx=some od/\∀name,PySem.W.lookIn name od=some (mA name):=by
 obtain ⟨o,es,ep,ho,hd,hk,_,hm⟩:=n;refine ⟨o,ho,fun name=>?_⟩;have e:=hm name;unfold nsFind findBy at e;rw [<- Array.find?_toList] at e;unfold PySem.W.lookIn;rw [hd];dsimp only
 split
 ·rename_i y q;rw [q] at e;exact congrArg some e
 ·rename_i q;rw [q] at e;have a:es.toList.any (·.refKey)=false:=by
   rw [List.any_eq_false];intro y hy;obtain ⟨z,t,hkey⟩:=hk y (Array.mem_toList_iff.mp hy);simp [DictEntry.refKey,hkey]
  have a':¬es.toList.any (·.refKey)=true:=by rw [a]; exact Bool.false_ne_true
  rw [if_neg a'];exact congrArg some e
theorem ObjM.look {h:Heap} {x dx C:Addr} {mA:Str->Option Value} (I:ObjM h x dx C mA):∃od,PySem.W.InstAt h x (PySem.W.instObj C dx) C (some od)/\∀name,PySem.W.lookIn name od=some (mA name) :=
 let ⟨od,ho,hl⟩:=dA' I.ns
 ⟨od,⟨I.obj,rfl,rfl,ho⟩,hl⟩
section
variable {prog:Program} {w:World} {A:Around} {E:Value->Shared->Prop} {s:Shared} {K:PySem.W.Frag} {x dx C f:Addr} {mA:Str->Option Value} {name:Str} {v:Value}
end
section
variable {P:Program} {w:World} {H H':Hp} {h h':Heap} {a C dx:Addr} {fs fs':List (Str×V)}
theorem iM' (hok:HOk P w H h) (e:H a=some (.ins C dx fs)):∃mA,ObjM h a dx C mA/\(∀f,RelO (fs.lookup f) (mA f))/\PySem.Within mA (fs.map (·.1))/\fs.length<=1000/\H dx=some (.own a):=by
 obtain ⟨d,z,ne,ob,mA,n,r,q⟩:=(show ObjOk P w H h a (.ins C dx fs) from hok a _ e)
 exact ⟨mA,⟨ob,n,ne⟩,r,q,z,d⟩
end
structure Cls (K:PySem.W.Frag) (C:Addr):Prop where
 pg:PySem.W.plainGet K C Str.empty=true
 hd:PySem.W.hasDictIn K C=true
 po:PySem.W.plainOver K C=true
 sa:PySem.W.findIn K (.ref C) "__setattr__" = some (some (.builtin "object.__setattr__"))
theorem Cls.get {K:PySem.W.Frag} {C:Addr} (c:Cls K C) (f:Str):PySem.W.plainGet K C f=true:=c.pg
structure Con (K:PySem.W.Frag) (C:Addr) (f:Str) (v:V) (u:Value):Prop where
 at_:PySem.W.findIn K (.ref C) f=some (some u)
 rel:RelV v u
 get:PySem.W.specialIn K u "__get__" = some none
 cp:PySem.W.copiedNames.contains f=false
structure Meth (K:PySem.W.Frag) (C:Addr) (m:Str) (f:Addr):Prop where
 at_:PySem.W.findIn K (.ref C) m=some (some (.ref f))
 fn:PySem.W.isFn K (.ref f)=true
 kp:PySem.W.keepIn K (.ref f)=true
section
variable {X:Cx} {pins:List (Addr×Obj)} {σ:St} {H:Hp} {s:Shared} {a C dx:Addr} {fs:List (Str×V)} {f:Str} {v:V} {A:Around} {E:Value->Shared->Prop}
theorem Inv.made (I:Inv X pins σ H s):Inv X pins σ (upd (upd H s.heap.objs.size (.own (s.heap.objs.size + 1))) (s.heap.objs.size + 1) (.ins C s.heap.objs.size []))
    { s with heap:=(s.heap.push PySem.W.emptyDict).push (PySem.W.instObj C s.heap.objs.size) }:=by
  have e1:(s.heap.push PySem.W.emptyDict).get? s.heap.objs.size=some PySem.W.emptyDict:=Heap.get?_push_size s.heap rfl;have e2:((s.heap.push PySem.W.emptyDict).push (PySem.W.instObj C s.heap.objs.size)).get? (s.heap.objs.size + 1)=some (PySem.W.instObj C s.heap.objs.size):=by
    have:=Heap.get?_push_size (s.heap.push PySem.W.emptyDict) (o:=PySem.W.instObj C s.heap.objs.size) rfl
    rwa [Heap.size_push] at this
  have e3:(s.heap.push PySem.W.emptyDict).Ns s.heap.objs.size (fun _=>none):=⟨PySem.W.emptyDict,#[],_,e1,rfl,(fun e he=>absurd he (by simp)),fun _=>rfl⟩;have I1:=I.laid (a:=s.heap.objs.size) (o:=.own (s.heap.objs.size + 1)) (h':=s.heap.push PySem.W.emptyDict) (t':=s.toks) (fun b u q=>Heap.get?_push_of_some _ q) (Nat.le_refl _) ⟨_,e1⟩;refine I1.laid (a:=s.heap.objs.size + 1) (o:=.ins C s.heap.objs.size []) (t':=s.toks) (fun b u q=>Heap.get?_push_of_some _ q) (Nat.le_of_eq (Heap.size_push _ _)) ?_;have ne:s.heap.objs.size≠s.heap.objs.size + 1:=Nat.ne_of_lt (Nat.lt_succ_self _);refine ⟨by rw [al' ne,an'],Nat.zero_le _,ne,e2,fun _=>none,(Heap.Ns1.of_empty e3).at fun o q=>Heap.get?_push_of_some _ q,fun _=>True.intro,fun y hy=>absurd rfl hy⟩
theorem iN' {prog:Program} {w:World} {env:Env} {e:Expr} {f:Str} {pos:Pos} {s:Shared} {Q:Value->Shared->Prop} (hb:attributeBase e f env (eval e env)=eval e env)
  (h:wpAny (model prog w) A (eval e env) (fun o s₁=>wpAny (model prog w) A (getAttr o f true) Q E s₁) E s):wpAny (model prog w) A (eval (.Attribute e f pos) env) Q E s :=
 Attribute_any_ h (by rw [arm_eval_Attribute,hb])
end
section
variable {X:Cx} {o e value:Expr} {f:Str} {pos pos' tpos:Pos} {ta tv:TE}
end
section
variable {X:Cx} {pins:List (Addr×Obj)} {σ:St} {H:Hp} {s:Shared} {A:Around} {E:Value->Shared->Prop} {Q:Value->Shared->Prop} {c:Value} {b:Bool}
inductive TyOf (K:PySem.W.Frag) (H:Hp):V->Value->Prop where
 | non:TyOf K H .non (.type "NoneType")
 | bl (x:Bool):TyOf K H (.bl x) (.type "bool")
 | int (i:Int):TyOf K H (.int i) (.type "int")
 | str (x:Str):TyOf K H (.str x) (.type "str")
 | flt (x:UInt64):TyOf K H (.flt x) (.type "float")
 | lst {a:Addr} {xs:List V} (e:H a=some (.lst xs)):TyOf K H (.ref a) (.type "list")
 | frz {a:Addr} {o:Obj} {xs:List V} (e:H a=some (.frz o (.lst xs))):TyOf K H (.ref a) (.type "list")
 | tup {a:Addr} {xs:List V} (e:H a=some (.tup xs)):TyOf K H (.ref a) (.type "tuple")
 | dK {a:Addr} {kvs:List (Key×V)} (e:H a=some (.dK kvs)):TyOf K H (.ref a) (.type "dict")
 | dT {a:Addr} {kvs:List (List Key×V)} (e:H a=some (.dT kvs)):TyOf K H (.ref a) (.type "dict")
 | ins {a C dx:Addr} {fs:List (Str×V)} (e:H a=some (.ins C dx fs)) (cl:Cls K C) (ha:PySem.W.findIn K (.ref C) "__class__" = some (some (.builtin "object.__class__")))
   (hn:PySem.W.specialIn K (.builtin "object.__class__") "__get__" = some (some (.builtin "getset_descriptor.__get__"))) (htk:PySem.W.takesIn K (.builtin "object.__class__")=some true)
   (hm:PySem.W.mroIn K C (.type "object")=some true):TyOf K H (.ref a) (.ref C)
theorem bO' {x:V} {u t:Value} (I:Inv X pins σ H s) (rx:RelV x u) (ty:TyOf X.K H x t) (e:PySem.W.kitOne X.K t c=some b) (h:∀tk,Q (.bool b) { s with toks:=tk }) :
  wpAny (model X.prog X.w) A (call (.builtin "isinstance") [u,c]) Q E s:=by
 cases ty with
 | non=>cases (show u=Value.none from rx); exact PySem.W.kia_one PySem.W.kitx_none I.kIn True.intro e (fun z=>nomatch z) h
 | bl y=>cases (show u=Value.bool y from rx); exact PySem.W.kia_one PySem.W.kitx_bool I.kIn True.intro e (fun z=>nomatch z) h
 | int i=>obtain ⟨t,q⟩:=(show ∃t,u=Value.int i t from rx); cases q; exact PySem.W.kia_one PySem.W.kitx_int I.kIn True.intro e (fun z=>nomatch z) h
 | str y=>obtain ⟨t,q⟩:=(show ∃t,u=Value.str y t from rx); cases q; exact PySem.W.kia_one PySem.W.kitx_str I.kIn True.intro e (fun z=>nomatch z) h
 | flt y=>obtain ⟨t,q⟩:=(show ∃t,u=Value.float y t from rx); cases q; exact PySem.W.kia_one PySem.W.kitx_float I.kIn True.intro e (fun z=>nomatch z) h
 | @lst a xs ea =>
  cases (show u=Value.ref a from rx)
  obtain ⟨_,_,n,_,h1⟩:=(show ObjOk X.prog X.w H s.heap a (.lst xs) from I.hok a _ ea)
  exact PySem.W.kia_one PySem.W.kitx_list I.kIn ⟨_,h1,rfl⟩ e (fun z=>nomatch z) h
 | @frz a ob xs ea =>
  cases (show u=Value.ref a from rx)
  obtain ⟨_,_,_,n,_,h1⟩:=(show ObjOk X.prog X.w H s.heap a (.frz ob (.lst xs)) from I.hok a _ ea)
  exact PySem.W.kia_one PySem.W.kitx_list I.kIn ⟨_,h1,rfl⟩ e (fun z=>nomatch z) h
 | @tup a xs ea =>
  cases (show u=Value.ref a from rx)
  obtain ⟨_,_,_,p⟩:=(show ObjOk X.prog X.w H s.heap a (.tup xs) from I.hok a _ ea)
  obtain ⟨o,h1,h2,_⟩:=p;exact PySem.W.kia_one PySem.W.kitx_tuple I.kIn ⟨o,h1,h2⟩ e (fun z=>nomatch z) h
 | @dK a kvs ea =>
  cases (show u=Value.ref a from rx)
  obtain ⟨_,_,vs,_,p⟩:=(show ObjOk X.prog X.w H s.heap a (.dK kvs) from I.hok a _ ea)
  obtain ⟨o,es,ep,h1,h2,_⟩:=p;exact PySem.W.kia_one PySem.W.kitx_dict I.kIn ⟨o,h1,h2.1⟩ e (fun z=>nomatch z) h
 | @dT a kvs ea =>
  cases (show u=Value.ref a from rx)
  obtain ⟨_,_,xs,_,o,es,ep,h1,h2,_⟩:=(show ObjOk X.prog X.w H s.heap a (.dT kvs) from I.hok a _ ea)
  exact PySem.W.kia_one PySem.W.kitx_dict I.kIn ⟨o,h1,h2.1⟩ e (fun z=>nomatch z) h
 | @ins a C dx fs ea cl ha hn htk hm =>
  cases (show u=Value.ref a from rx)
  obtain ⟨mA,O,_⟩:=iM' I.hok ea;obtain ⟨od,J,_⟩:=O.look;exact PySem.W.kia_one (PySem.W.kitx_own (cl.get _) cl.hd ha hn htk hm) I.kIn J e (fun z=>nomatch z) h
end
structure Room (k:Nat) (A:Around):Prop where
 hd:A.handled=none
 dp:A.depth + 3 * k + 5 < recursionLimit
 un:A.units + 16 * k + 200 < cLine
theorem Room.mono {j k:Nat} {A:Around} (r:Room k A) (h:j<=k):Room j A:=⟨r.hd,by have:=r.dp; omega,by have:=r.un; omega⟩
theorem Room.deeper {k:Nat} {A:Around} (r:Room (k + 1) A) (env:Env):Room k (A.deeper env) :=
 ⟨r.hd,by have:=r.dp; show A.depth + 1 + 3 * k + 5 < _; omega,by have:=r.un; show A.units + 3 + 16 * k + 200 < _; omega⟩
theorem Room.in1 {k:Nat} {A:Around} (r:Room (k + 1) A):Room k A.in1 :=
 ⟨r.hd,by have:=r.dp; show A.depth + 3 * k + 5 < _; omega,by have:=r.un; show A.units + 1 + 16 * k + 200 < _; omega⟩
theorem fl' {A:Around} {C:Addr} {us:List Value} {kw:List (Str×Value)}:(A.under (.builtin "type.__call__" ⟨.ref C :: us,kw⟩)).depth=A.depth + 1:=by
 first | rfl | simp [Around.under,Code.weight,Code.isCreation,Code.isGuard,Code.isCaller,Code.frames,Code.isFrame,guardIds]
theorem fm' {A:Around} {C:Addr} {us:List Value} {kw:List (Str×Value)}:(A.under (.builtin "type.__call__" ⟨.ref C :: us,kw⟩)).units=A.units + 1:=by
 first | rfl | simp [Around.under,Code.cUnits,Code.frames,Code.isFrame]
theorem Room.make {k:Nat} {A:Around} (r:Room (k + 1) A) (C:Addr) (us:List Value) (kw:List (Str×Value)):Room k (A.under (.builtin "type.__call__" ⟨.ref C :: us,kw⟩)) :=
 ⟨r.hd,by have:=r.dp; rw [fl']; omega,by have:=r.un; rw [fm']; omega⟩
theorem Room.depth {k:Nat} {A:Around} (r:Room k A):A.depth < recursionLimit:=by have:=r.dp; omega
theorem Room.units {k:Nat} {A:Around} (r:Room k A):A.units + 64 < cLine:=by have:=r.un; omega
noncomputable def tNil:TA:=fun _ H Q=>Q [] H
noncomputable def tCons (ta:TE) (tr:TA):TA:=fun σ H Q=>ta σ H fun x H1=>tr σ H1 fun xs H2=>Q (x :: xs) H2
section
variable {X:Cx} {e:Expr} {es:List Expr} {te:TE} {t:TA} {pos:Pos}
theorem ka':PA X [] tNil:=fun _ _ _ _ H Q I h=>Calls.spliced_nil ⟨[],H,I,.nil,h⟩
theorem fT' (ha:PE X e te) (hr:PA X es t) (hs:starEach (e :: es) X.env=(false,eval e X.env) :: starEach es X.env:=by rfl):PA X (e :: es) (tCons te t):=by
 intro pos pins s σ H Q I h;rw [hs];show wpAny _ _ (spliced ((false,eval e X.env) :: backTo pos (starEach es X.env))) _ _ s;refine Calls.spliced_cons (thn (ha pins s σ H _ I h) fun u s1 ⟨x,H1,I1,r1,q1⟩=>?_);exact thn (hr pos pins s1 σ H1 _ I1 q1) fun us s2 ⟨xs,H2,I2,r2,q2⟩=>⟨x :: xs,H2,I2,.cons r1 r2,q2⟩
end
abbrev Sp:=List V->Hp->VK->XK->Prop
abbrev CXT:=List Env->Hp->Shared->XK->Value->Shared->Prop
structure Env0 (P:Program) (w:World) (K:PySem.W.Frag) (mg:Str->Option Value) (base:Heap) (A:Around) (outer:List Env) (s:Shared) (H:Hp):Prop where
 frames:A.frames=some outer
 mod:Mod K mg base
 bs:∀b o,base.get? b=some o->s.heap.get? b=some o/\H b=none
 bsz:base.objs.size<=s.heap.objs.size
 funs:s.heap.FunFrames base outer
 frf:∀b∈frs outer,H b=none
 hok:HOk P w H s.heap
 bare:AllBare s.gens
noncomputable def CE (outer:List Env) (P:Program) (w:World) (H:Hp) (s:Shared) (Q:VK) (u:Value) (s':Shared):Prop :=
 ∃v H',s'.os=s.os/\AllBare s'.gens/\Un (frs outer) [] H H' s.heap s'.heap/\HOk P w H' s'.heap/\RelV v u/\Q v H'
noncomputable def CR (CX:CXT) (outer:List Env) (P:Program) (w:World) (H:Hp) (s:Shared) (Q:VK) (E:XK) (r:Result) (s':Shared):Prop :=
 match r with
 | .ok (.ret u)=>CE outer P w H s Q u s'
 | .ok _=>False
 | .error e=>CX outer H s E e s'
structure FnOk (P:Program) (w:World) (K:PySem.W.Frag) (mg:Str->Option Value) (base:Heap) (CX:CXT) (k:Nat) (f:Addr) (fd:FuncData) (ps:List Str) (sp:Sp):Prop where
 len:∀vs H Q E,sp vs H Q E->vs.length=ps.length
 run:∀(A:Around) (outer:List Env) (s:Shared) (H:Hp) (args:Args) (us:List Value) (vs:List V) (Q:VK) (E:XK),Room k A->Env0 P w K mg base A outer s H->BindsTo s fd args (ps.zip us)->Vals vs us->sp vs H Q E ->
  codeAny (model P w) A (.call (.ref f) args) (CR CX outer P w H s Q E) s
theorem FnOk.mono {P:Program} {w:World} {K:PySem.W.Frag} {mg:Str->Option Value} {base:Heap} {CX:CXT} {j k:Nat} {f:Addr} {fd:FuncData} {ps:List Str} {sp:Sp} (F:FnOk P w K mg base CX j f fd ps sp) (h:j<=k) :
  FnOk P w K mg base CX k f fd ps sp:=⟨F.len,fun A outer s H args us vs Q E hr=>F.run A outer s H args us vs Q E (hr.mono h)⟩
theorem Env0.make {P:Program} {w:World} {K:PySem.W.Frag} {mg:Str->Option Value} {base:Heap} {A:Around} {outer:List Env} {s:Shared} {H:Hp} (e:Env0 P w K mg base A outer s H) (C:Addr) (us:List Value) (kw:List (Str×Value)) :
  Env0 P w K mg base (A.under (.builtin "type.__call__" ⟨.ref C :: us,kw⟩)) outer s H:=⟨by first | exact e.frames | (simpa [Around.under,Code.envs,Code.isFrame,pushEnvs] using e.frames),e.mod,e.bs,e.bsz,e.funs,e.frf,e.hok,e.bare⟩
theorem Env0.in1 {P:Program} {w:World} {K:PySem.W.Frag} {mg:Str->Option Value} {base:Heap} {A:Around} {outer:List Env} {s:Shared} {H:Hp} (e:Env0 P w K mg base A outer s H) :
  Env0 P w K mg base A.in1 outer s H:=⟨e.frames,e.mod,e.bs,e.bsz,e.funs,e.frf,e.hok,e.bare⟩
section
variable {X:Cx} {pins:List (Addr×Obj)} {σ:St} {H:Hp} {s s':Shared}
theorem Inv.env0 (I:Inv X pins σ H s):Env0 X.prog X.w X.K X.mg X.base X.A X.stack s H :=
 ⟨I.ok.frames,I.ok.mod,I.bs,Nat.le_trans I.ok.bsz I.sz,I.stack,I.stkFree,I.hok,I.bare⟩
theorem Inv.after {Q:VK} {u:Value} (I:Inv X pins σ H s) (h:CE X.stack X.prog X.w H s Q u s'):EP X pins σ Q u s':=by
 obtain ⟨v,H',os,bare,un,hok,r,q⟩:=h;obtain ⟨hh,g,d,t,os'⟩:=s';obtain rfl:os'=s.os:=os;exact ⟨v,H',I.call (h':=hh) (g':=g) (d':=d) (t':=t) (ch:=[]) un hok bare (fun b z=>absurd z (by simp)),r,q⟩
end
noncomputable def Binds (K:PySem.W.Frag) (fd:FuncData) (ps:List Str) (ds:List Value):Prop :=
 ∀(s:Shared) (us:List Value),K.In s.heap->(us ++ ds).length=ps.length->BindsTo s fd ⟨us,[]⟩ (ps.zip (us ++ ds))
theorem Binds.all {K:PySem.W.Frag} {fd:FuncData} {ps:List Str} (h:∀us:List Value,us.length=ps.length->bindArgs fd ⟨us,[]⟩=pure (ps.zip us)):Binds K fd ps []:=fun s us _ hl=>by
 rw [List.append_nil] at hl ⊢;exact .of_eq (h us hl)
section
variable {X:Cx} {CX:CXT} {k:Nat} {f C:Addr} {fd:FuncData} {ps:List Str} {sp:Sp} {dvs:List V} {ds:List Value} {E:XK} {x m:Str} {p pos apos:Pos} {e o:Expr} {es:List Expr} {ta:TE} {t:TA}
structure Mk (K:PySem.W.Frag) (C f:Addr):Prop where
 makes:PySem.W.makesIn K C=true
 init:PySem.W.findIn K (.ref C) "__init__" = some (some (.ref f))
 fn:PySem.W.isFn K (.ref f)=true
 kp:PySem.W.keepIn K (.ref C)=true
end
section
variable {X:Cx} {CX:CXT} {k:Nat} {f C:Addr} {fd:FuncData} {ps ks:List Str} {sp:Sp} {E:XK} {x m:Str} {p pos apos kpos:Pos} {e o:Expr} {es:List Expr} {kws:List Keyword} {te ta:TE} {t tk:TA} {nm:Option Str}
structure KBinds (K:PySem.W.Frag) (fd:FuncData) (ps ks:List Str) (g:List Value->List Value->List Value) (gV:List V->List V->List V):Prop where
 to:∀(s:Shared) (us ws:List Value),K.In s.heap->(g us ws).length=ps.length->BindsTo s fd ⟨us,ks.zip ws⟩ (ps.zip (g us ws))
 rel:∀{vs:List V} {us:List Value} {zs:List V} {ws:List Value},Vals vs us->Vals zs ws->Vals (gV vs zs) (g us ws)
variable {g:List Value->List Value->List Value} {gV:List V->List V->List V}
end
structure FnScope (N P:List Str) (sc:Scope):Prop where
 kind:sc.kind=.function
 co:sc.isCoroutine=false
 gen:sc.isGenerator=false
 nd:N.Nodup
 pre:N.take P.length=P
 par:∀x∈P,sc.names.lookup x=some .local\/sc.names.lookup x=some .cell
 nofree:∀y∈sc.names,y.2≠.free
theorem dB' {kindOf:Str->Option NameKind} {x:Str}:∀{binds:List (Str×Value)} {m:Str->Option Value},(∀v,(x,v)∉binds)->bindL kindOf binds m x=m x
 | [],_,_=>rfl
 | (n,v) :: r,m,h=>by
  unfold bindL;rw [dB' fun w hw=>h w (List.mem_cons_of_mem _ hw)]
  split
  ·have:x≠n:=by rintro rfl; exact h v List.mem_cons_self
   simp [this]
  ·rfl
theorem dC' {kindOf:Str->Option NameKind} {x:Str}:∀{binds:List (Str×Value)} {m:Str->Option Value},(∀v,(x,v)∉binds)->bindC kindOf binds m x=m x
 | [],_,_=>rfl
 | (n,v) :: r,m,h=>by
  unfold bindC;rw [dC' fun w hw=>h w (List.mem_cons_of_mem _ hw)]
  split
  ·rfl
  ·have:x≠n:=by rintro rfl; exact h v List.mem_cons_self
   simp [this]
theorem dD' {kindOf:Str->Option NameKind} {x:Str} {v:Value}:∀{P:List Str} {vs:List Value} {i:Nat} {m:Str->Option Value},P.Nodup->P[i]? = some x->vs[i]? = some v->kindOf x=some .local ->
  bindL kindOf (P.zip vs) m x=some v
 | [],_,_,_,_,h,_,_=>by simp at h
 | _ :: _,[],_,_,_,_,h,_=>by simp at h
 | p :: P,w :: vs,0,m,nd,h1,h2,hk=>by
  simp at h1 h2; subst h1; subst h2;show bindL kindOf ((p,w) :: P.zip vs) m p=_;unfold bindL;rw [dB' fun v hv=>(List.nodup_cons.mp nd).1 (List.of_mem_zip hv).1,if_pos hk];simp
 | p :: P,w :: vs,i + 1,m,nd,h1,h2,hk=>by
  show bindL kindOf ((p,w) :: P.zip vs) m x=_;unfold bindL;exact dD' (i:=i) (List.nodup_cons.mp nd).2 (by simpa using h1) (by simpa using h2) hk
theorem dE' {kindOf:Str->Option NameKind} {x:Str} {v:Value}:∀{P:List Str} {vs:List Value} {i:Nat} {m:Str->Option Value},P.Nodup->P[i]? = some x->vs[i]? = some v->kindOf x≠some .local ->
  bindC kindOf (P.zip vs) m x=some v
 | [],_,_,_,_,h,_,_=>by simp at h
 | _ :: _,[],_,_,_,_,h,_=>by simp at h
 | p :: P,w :: vs,0,m,nd,h1,h2,hk=>by
  simp at h1 h2; subst h1; subst h2;show bindC kindOf ((p,w) :: P.zip vs) m p=_;unfold bindC;rw [dC' fun v hv=>(List.nodup_cons.mp nd).1 (List.of_mem_zip hv).1,if_neg hk];simp
 | p :: P,w :: vs,i + 1,m,nd,h1,h2,hk=>by
  show bindC kindOf ((p,w) :: P.zip vs) m x=_;unfold bindC;exact dE' (i:=i) (List.nodup_cons.mp nd).2 (by simpa using h1) (by simpa using h2) hk
noncomputable def start (N:List Str) (vs:List V):St:=vs.map some ++ List.replicate (N.length - vs.length) none
noncomputable def cxOf (CX:CXT) (P:Program) (w:World) (K:PySem.W.Frag) (mg:Str->Option Value) (base:Heap) (N:List Str) (qual:Str) (scope:Scope) (f:Addr) (cd:Value) (A:Around) (outer:List Env) (s:Shared) (H:Hp) (E:XK):Cx where
 prog:=P
 w:=w
 K:=K
 mg:=mg
 base:=base
 A:=A.deeper (envOfC qual scope s.heap.objs.size f cd)
 N:=N
 s₀:=s
 H₀:=H
 env:=envOfC qual scope s.heap.objs.size f cd
 outer:=outer
 stack:=envOfC qual scope s.heap.objs.size f cd :: outer
 ex:=[]
 calm:=true
 fn:=fun _=>true
 pn:=[]
 xe:=fun e s'=>wpAny (model P w) (A.deeper (envOfC qual scope s.heap.objs.size f cd)) (leaving (envOfC qual scope s.heap.objs.size f cd) e) (fun _ s''=>CX outer H s E e s'') (fun e' s''=>CX outer H s E e' s'') s'
theorem de' {sc:Scope} {n:Nat} {x:Str} (h:sc.names.lookup x=some .cell):∃c,(cellsFrom n sc.names []).lookup x=some c:=by
 have q:=PySem.W.cellsFrom_some sc.names n [] (.inl h);exact Option.isSome_iff_exists.mp q
theorem fU' {CX:CXT} {P:Program} {w:World} {K:PySem.W.Frag} {mg:Str->Option Value} {base:Heap} {N ps:List Str} {qual:Str} {scope:Scope} {f:Addr} {cd:Value} {A:Around} {outer:List Env} {s s1:Shared} {H:Hp} {E:XK} {us:List Value} {vs:List V}
  (S:FnScope N ps scope) (hd:A.handled=none) (e0:Env0 P w K mg base A outer s H) (hl:vs.length=ps.length) (r:Vals vs us)
  (x:InCallC s s.heap.objs.size (bindL (envOfC qual scope s.heap.objs.size f cd).kindOf (ps.zip us) fun _=>none) (cellsFrom (s.heap.objs.size + 1) scope.names []) (bindC (envOfC qual scope s.heap.objs.size f cd).kindOf (ps.zip us) fun _=>none) s1) :
  Inv (cxOf CX P w K mg base N qual scope f cd A outer s H E) [] (start N vs) H s1:=by
 have hpl:ps.length<=N.length:=by have:=congrArg List.length S.pre; rw [List.length_take] at this; omega
 obtain ⟨h1,tk,rfl,hk⟩:=x.done
 have noA:∀b:Addr,b∉(cxOf CX P w K mg base N qual scope f cd A outer s H E).ex:=fun b z=>absurd (show b∈([]:List Addr) from z) (by simp)
 refine ⟨⟨e0.mod,S.kind,rfl,rfl,Nat.le_refl _,fun y z c h1 h2=>?_,fun y hy=>?_,fun y c _ h=>?_,fun _=>hd,Around.frames_deeper e0.frames,.inr ⟨rfl,rfl⟩,fun b z=>absurd z (noA b),e0.bs,e0.bsz,fun b _ _=>noA b,fun b z=>absurd z (noA b),e0.funs,e0.frf⟩,
  rfl,e0.bare,Un.kept hk,⟨_,x.toInCall.ns,fun i y v h1 h2 h3=>?_⟩,fun y c h=>⟨_,x.cell y c h⟩,e0.hok.fresh (Nat.le_refl _),fun y c h=>?_,fun p hp=>absurd (show p∈([]:List (Addr×Obj)) from hp) (by simp),e0.hok.kept hk,?_⟩
 ·exact name_of_addr x.apart (PySem.mem_of_lookup h1) (PySem.mem_of_lookup h2)
 ·have hy:scope.names.lookup y=some .cell\/scope.names.lookup y=some .free:=hy;rcases hy with hy | hy
  ·exact de' hy
  ·exact absurd rfl (S.nofree _ (PySem.mem_of_lookup hy))
 ·exact Nat.le_of_lt (x.above y c (PySem.mem_of_lookup h))
 ·have hi:i < vs.length:=by
   unfold start at h2
   by_cases hi:i < vs.length
   ·exact hi
   ·rw [List.getElem?_append_right (by simpa using hi)] at h2;rw [List.getElem?_replicate] at h2
    split at h2 <;> cases h2
  have ha:vs[i]? = some v:=by
   unfold start at h2;rw [List.getElem?_append_left (by simpa using hi),List.getElem?_map] at h2
   cases e:vs[i]? with
   | none=>rw [e] at h2; cases h2
   | some a=>rw [e] at h2; cases h2; rfl
  obtain ⟨u,hu,rv⟩:=r.get ha;have hp:ps[i]? = some y:=by
   rw [<- S.pre,List.getElem?_take_of_lt (by omega)]; exact h1
  have ndP:ps.Nodup:=by rw [<- S.pre]; exact S.nd.sublist (List.take_sublist _ _)
  refine ⟨u,rv,?_⟩;rcases S.par y (List.mem_of_getElem? hp) with k | k
  ·exact .inl ⟨k,dD' ndP hp hu k⟩
  ·obtain ⟨c,e⟩:=de' (n:=s.heap.objs.size + 1) k;refine .inr ⟨.inl k,c,e,?_⟩;have q:=x.cell y c e;rw [dE' ndP hp hu (by show scope.names.lookup y≠_; rw [k]; decide)] at q;exact q
 ·exact e0.hok.fresh (Nat.le_of_lt (x.above y c (PySem.mem_of_lookup h)))
 ·unfold start;show _=N.length;rw [List.length_append,List.length_map,List.length_replicate];omega
theorem iO' {CX:CXT} {P:Program} {w:World} {K:PySem.W.Frag} {mg:Str->Option Value} {base:Heap} {k:Nat} {f:Addr} {name qual:Str} {params:Arguments} {body:List Stmt} {scope:Scope} {dV kV doc pm cdv ct oc:Value} {an od:Option Addr}
  {osl:Array (Option Value)} {N ps:List Str} {sp:Sp} (lk:K.lookup f=some ⟨oc,od,.func (PySem.W.fnOf name qual params body scope dV kV doc pm an cdv ct),osl⟩) (hcd:PySem.W.codeIn K cdv qual=true) (S:FnScope N ps scope)
  (len:∀vs H Q E,sp vs H Q E->vs.length=ps.length)
  (hbody:∀(A:Around) (outer:List Env) (s:Shared) (H:Hp) (vs:List V) (Q:VK) (E:XK),Room k (A.deeper (envOfC qual scope s.heap.objs.size f cdv))->sp vs H Q E ->
   ∃t,PSs (cxOf CX P w K mg base N qual scope f cdv A outer s H E) body t/\t { nx:=fun _ H'=>Q .non H',rt:=Q } (start N vs) H) :
  FnOk P w K mg base CX (k + 1) f (PySem.W.fnOf name qual params body scope dV kV doc pm an cdv ct) ps sp:=by
 refine ⟨len,fun A outer s H args us vs Q E hr e0 hb r hsp=>?_⟩;have hl:=len _ _ _ _ hsp;have KX:K.In s.heap:=e0.mod.kin.keeps fun b o e=>(e0.bs b o e).1;have lim:s.heap.NoLimit:=e0.mod.nolimit.keeps fun b o e=>(e0.bs b o e).1;have hkind:∀y∈ps.zip us,scope.names.lookup y.1=some .local\/(scope.names.lookup y.1=some .cell/\((cellsFrom (s.heap.objs.size + 1) scope.names []).lookup y.1).isSome=true):=fun ⟨n,v⟩ hy=>by
  rcases S.par n (List.of_mem_zip hy).1 with q | q
  ·exact .inl q
  ·exact .inr ⟨q,PySem.W.cellsFrom_some _ _ _ (.inl q)⟩
 refine codeAny_call_function hr.depth (KX _ _ lk) rfl S.co S.gen rfl (PySem.W.codeRec_of KX hcd) (hb _ _ _ _ ?_);refine wpAny_newFunctionEnv_cells S.kind hkind fun env he s1 x=>?_;subst he;refine ⟨lim.keeps x.toInCall.keep,codeAny_func ?_⟩;obtain ⟨t,ht,hq⟩:=hbody A outer s H vs Q E (hr.deeper _) hsp;have I:Inv (cxOf CX P w K mg base N qual scope f cdv A outer s H E) [] (start N vs) H s1:=fU' S hr.hd e0 hl r x;refine wpAny_mono (ht [] s1 (start N vs) H _ I hq) (fun fl s' hs=>?_) fun e s' hs=>hs;have fin:∀{σ':St} {H':Hp} {v:V} {u:Value},Inv (cxOf CX P w K mg base N qual scope f cdv A outer s H E) [] σ' H' s'->RelV v u->Q v H'->CE outer P w H s Q u s' :=
  fun {σ' H' v u} J rv q=>⟨v,H',J.os,J.bare,J.base,J.hok,rv,q⟩
 cases fl with
 | ret u =>
  obtain ⟨v,σ',H',J,rv,q⟩:=hs;exact fin J rv q
 | next =>
  obtain ⟨σ',H',J,q⟩:=hs;exact fin (v:=V.non) (u:=Value.none) J rfl q
 | brk =>
  obtain ⟨_,_,_,q⟩:=hs;exact False.elim q
 | cont =>
  obtain ⟨_,_,_,q⟩:=hs;exact False.elim q
section
variable {X:Cx} {x:Str} {p pos:Pos} {e:Expr} {es:List Expr} {t:TA} {id T:String} {r:List V->Hp->VK->Prop}
end
end L2
namespace HT
open PySem PyProof.Rows
section
open PySem.SeqAt
open PySem.AutoSeq1 (wpAny_loadPart')
open PySem.MeetsSeq PySem.MeetsSeq2 PySem.MeetsSeq3
end
section
variable {prog:Program} {w:World} {A:Around} {E:Value->Shared->Prop} {s:Shared}
theorem cat_tup {t b:Addr} {vs ws:List Value} {Q:Value->Shared->Prop} (ht:IsTup s.heap t vs.toArray) (hb:IsTup s.heap b ws.toArray) (hv:vs≠[])
  (h1:ws=[]->Q (.ref t) s) (h2:ws≠[]->Q (.ref s.heap.objs.size) { s with heap:=s.heap.push { cls:=.type "tuple",data:=.seq (vs ++ ws).toArray } })
  (hsz:vs.length + ws.length<=sizeLine):wpAny (model prog w) A (binaryOp .Add (.ref t) (.ref b)) Q E s:=by
 obtain ⟨⟨cls,dd,data,sl⟩,ho,hc,n,hd⟩:=id ht;obtain ⟨⟨cls2,dd2,data2,sl2⟩,ho2,hc2,n2,hd2⟩:=id hb;simp only at hc hd hc2 hd2;subst hc hd hc2 hd2;have e:vs.toArray ++ ws.toArray=(vs ++ ws).toArray:=by simp
 by_cases hw:ws=[]
 ·exact concat_meets ⟨_,ho,rfl⟩ ⟨_,ho2,rfl⟩ noFill_tuple_add seq_tuple_add PySem.F.slot_tuple_add PySem.F.entry_tuple_add (PySem.F.args_tuple_add_2 _ _)
   (tuple_addW1 t b vs.toArray ws.toArray n n2 dd dd2 sl sl2 (by simpa using hv) (by simp [hw])) ⟨ho,ho2,h1 hw⟩
 ·refine concat_meets ⟨_,ho,rfl⟩ ⟨_,ho2,rfl⟩ noFill_tuple_add seq_tuple_add PySem.F.slot_tuple_add PySem.F.entry_tuple_add (PySem.F.args_tuple_add_2 _ _)
   (tuple_addW2 t b vs.toArray ws.toArray n n2 dd dd2 sl sl2 (by simpa using hv) (by simpa using hw) (by rw [List.size_toArray,List.size_toArray]; exact hsz)) ⟨ho,ho2,?_⟩
  rw [e];exact h2 hw
noncomputable def sIx (n d:Nat):Option Int->Nat
 | none=>d
 | some v=>if v < 0 then (v + (n:Int)).toNat else min v.toNat n
theorem sIx_none (n d:Nat):sIx n d none=d:=rfl
theorem sIx_nat (n d k:Nat):sIx n d (some (k:Int))=min k n:=by
 show (if (k:Int) < 0 then ((k:Int) + (n:Int)).toNat else min (k:Int).toNat n)=min k n
 rw [if_neg (by omega),Int.toNat_natCast]
theorem kb' (n d:Nat) (hd:d<=n) (o:Option Int):sIx n d o<=n:=by
 cases o with
 | none=>exact hd
 | some v =>
  show (if v < 0 then (v + (n:Int)).toNat else min v.toNat n)<=n
  by_cases hv:v < 0
  ·rw [if_pos hv]; omega
  ·rw [if_neg hv]; exact Nat.min_le_right _ _
theorem fV' (v:Int) (n d:Nat):(if v < 0 then max (v + (n:Int)) 0 else min v (n:Int))=((sIx n d (some v):Nat):Int):=by
 show (if v < 0 then max (v + (n:Int)) 0 else min v (n:Int))=(((if v < 0 then (v + (n:Int)).toNat else min v.toNat n):Nat):Int)
 by_cases hv:v < 0
 ·simp only [if_pos hv]; omega
 ·simp only [if_neg hv]; omega
theorem fn' (lo hi:Option Int) (n:Nat):Builtin.Slice.sliceAdjust lo hi 1 (n:Int)=(((sIx n 0 lo:Nat):Int),((sIx n n hi:Nat):Int)):=by
 have h1:¬((1:Int) < 0):=by omega
 unfold Builtin.Slice.sliceAdjust;simp only [h1,if_false];refine Prod.ext ?_ ?_
 ·cases lo with
  | none=>rfl
  | some v=>exact fV' v n 0
 ·cases hi with
  | none=>rfl
  | some v=>exact fV' v n n
theorem fo' (i j:Nat):Builtin.Slice.slicePlaces (i:Int) (j:Int) 1=j - i:=by
 unfold Builtin.Slice.slicePlaces;have h1:(1:Int) > 0:=by omega
 simp only [h1,if_true,Int.ediv_one]
 split <;> omega
theorem cT' {v:Value} {o:Option Int} {Q:Option Int->Shared->Prop} (p:IsPart v o) (h:Q o s):wpAny (model prog w) A (Builtin.Slice.slicePartIndex v) Q E s:=by
 cases p with
 | none=>exact slicePart_none h
 | int i t=>exact slicePart_int h
theorem bs' {sl:Addr} {vl vu:Value} {lo hi:Option Int} {n:Nat} {Q:Int×Int×Nat->Shared->Prop} (hs:s.heap.IsSliceOf sl vl vu .none) (pl:IsPart vl lo) (pu:IsPart vu hi)
  (h:Q (((sIx n 0 lo:Nat):Int),1,sIx n n hi - sIx n 0 lo) s):wpAny (model prog w) A (Builtin.Slice.sliceApplied (.ref sl) (pure (n:Int))) Q E s:=by
 obtain ⟨os,hos,hcs,hds⟩:=id hs;unfold Builtin.Slice.sliceApplied Builtin.Slice.sliceFields;refine wpAny_bind (wpAny_bind (wpAny_field hos hds (x:=vl) rfl (wpAny_bind (wpAny_field hos hds (x:=vu) rfl (wpAny_bind (wpAny_field hos hds (x:=.none) rfl (wpAny_pure ?_)))))));refine wpAny_bind (slicePart_none ?_);show wpAny _ _ (if ((1:Int) == 0)=true then _ else _) _ _ s
 rw [if_neg (by decide)];refine wpAny_bind (cT' pl (wpAny_bind (cT' pu (wpAny_bind (wpAny_pure ?_)))));show wpAny _ _ (match Builtin.Slice.sliceAdjust lo hi 1 (n:Int) with | (lo,hi)=>pure (lo,(1:Int),Builtin.Slice.slicePlaces lo hi 1)) _ _ s
 rw [fn' lo hi n];show wpAny _ _ (pure (((sIx n 0 lo:Nat):Int),(1:Int),Builtin.Slice.slicePlaces ((sIx n 0 lo:Nat):Int) ((sIx n n hi:Nat):Int) 1)) _ _ s;rw [fo'];exact wpAny_pure h
theorem hk' (xs:Array Value) (i k:Nat):((List.range k).filterMap fun (m:Nat)=>xs[((i:Int) + (m:Int) * 1).toNat]?).toArray=((xs.toList.drop i).take k).toArray:=by
 have e:(fun (m:Nat)=>xs[((i:Int) + (m:Int) * 1).toNat]?)=fun m=>xs[i + m]?:=by
  funext m
  have:((i:Int) + (m:Int) * 1).toNat=i + m:=by omega
  rw [this]
 rw [e];have:=pick_run xs i k;rw [List.filterMap_map] at this;have e2:((fun x=>xs[x]?) ∘ fun x=>i + x)=fun m=>xs[i + m]?:=rfl;rw [e2] at this;rw [this]
theorem getItem_tuple_cut {t sl:Addr} {items:Array Value} {vl vu:Value} {lo hi:Option Int} {Q:Value->Shared->Prop} (ht:IsTup s.heap t items) (hs:s.heap.IsSliceOf sl vl vu .none) (pl:IsPart vl lo) (pu:IsPart vu hi)
  (hw:¬(sIx items.size 0 lo=0/\sIx items.size items.size hi=items.size))
  (h:Q (.ref s.heap.objs.size) { s with heap:=s.heap.push { cls:=.type "tuple",data:=.seq ((items.toList.drop (sIx items.size 0 lo)).take (sIx items.size items.size hi - sIx items.size 0 lo)).toArray } })
  (hsz:items.size<=sizeLine):wpAny (model prog w) A (getItem (.ref t) (.ref sl)) Q E s:=by
 have htake:sizeOk (.seq ((items.toList.drop (sIx items.size 0 lo)).take (sIx items.size items.size hi - sIx items.size 0 lo)).toArray):=by
  show ((items.toList.drop (sIx items.size 0 lo)).take (sIx items.size items.size hi - sIx items.size 0 lo)).toArray.size<=sizeLine;rw [List.size_toArray,List.length_take,List.length_drop,Array.length_toList];omega
 have hj:sIx items.size items.size hi<=items.size:=kb' _ _ (Nat.le_refl _) hi;obtain ⟨os,hos,hcs,hds⟩:=id hs;have hTs:s.TypeIs (.ref sl) "slice":=⟨os,hos,hcs⟩;unfold getItem
 try with_reducible refine wpAny_holding ?_
 first | refine wpAny_bind (wpAny_pure ?_) | skip
 refine wpAny_bind (wpAny_sequenceKey ht.typeIs (by decide) ?_);refine wpAny_bind (wpAny_callSpecial?_slot (name:=Str.ofString "__getitem__") ht.typeIs PyProof.Rows.slot_tuple_getitem
  (wpAny_call_entry PyProof.Rows.slot_tuple_getitem ht.typeIs entry_tuple_getitem ?_ (args_tuple_getitem _ _)))
 show wpAny _ _ (Builtin.Tuple.tupleItemsOf (.ref t) >>= _) _ _ s;refine wpAny_bind (tupleItemsOf_ ht ?_);refine wpAny_bind (wpAny_typeOf hTs ?_);rw [if_pos (by decide)];refine wpAny_bind (bs' hs pl pu ?_);have hno:¬((((sIx items.size 0 lo:Nat):Int) == 0 && (1:Int) == 1 && (sIx items.size items.size hi - sIx items.size 0 lo) == items.size)=true):=by
  intro q;rw [Bool.and_eq_true,Bool.and_eq_true] at q;have q1:((sIx items.size 0 lo:Nat):Int)=0:=eq_of_beq q.1.1;have q2:sIx items.size items.size hi - sIx items.size 0 lo=items.size:=eq_of_beq q.2;exact hw ⟨by omega,by omega⟩
 show wpAny _ _ (if (((sIx items.size 0 lo:Nat):Int) == 0 && (1:Int) == 1 && (sIx items.size items.size hi - sIx items.size 0 lo) == items.size)=true then _ else _) _ _ s
 rw [if_neg hno,hk']
 first
  | exact wpAny_bind (m:=Builtin.Tuple.tupleExact _) (wpAny_newObj_type (wpAny_pure ⟨_,rfl,wpAny_pure h⟩) htake)
  | exact wpAny_bind (m:=Builtin.Tuple.tupleExact _) (wpAny_newObj_type (wpAny_bind (wpAny_pure (wpAny_pure ⟨_,rfl,wpAny_pure h⟩))) htake)
  | exact wpAny_bind (wpAny_bind (m:=Builtin.Tuple.tupleExact _) (wpAny_newObj_type (wpAny_pure (wpAny_pure ⟨_,rfl,wpAny_pure h⟩)) htake))
  | exact wpAny_bind (wpAny_bind (m:=Builtin.Tuple.tupleExact _) (wpAny_newObj_type (wpAny_pure ⟨_,rfl,wpAny_pure h⟩) htake))
end
end HT
namespace L2
open PySem PySem.Spec PyProof.Rows
abbrev TO:=St->Hp->(Option Int->Hp->Prop)->Prop
section
variable {X:Cx} {e:Expr} {te:TE} {lo hi:Option Expr} {tl th:TO} {pos p2:Pos}
noncomputable def SlR (X:Cx) (r:V->Option Int->Option Int->Hp->VK->Prop):Prop :=
 ∀(pins:List (Addr×Obj)) (s:Shared) (σ:St) (H:Hp) (x:V) (v vl vu:Value) (lo hi:Option Int) (sl:Addr) (Q:VK),Inv X pins σ H s->RelV x v->s.heap.IsSliceOf sl vl vu .none->IsPart vl lo->IsPart vu hi->r x lo hi H Q ->
  ∃T id,typeLookup (.type T) "__getitem__" = pure (some (.builtin id))/\s.TypeIs v T/\wpAny (model X.prog X.w) X.A (getItem v (.ref sl)) (EP X pins σ Q) X.xe s
theorem SlR.or {r r':V->Option Int->Option Int->Hp->VK->Prop} (h:SlR X r) (h':SlR X r'):SlR X (fun x lo hi H Q=>r x lo hi H Q\/r' x lo hi H Q):=by
 intro pins s σ H x v vl vu lo hi sl Q I rx hs pl pu q;rcases q with q | q
 ·exact h pins s σ H x v vl vu lo hi sl Q I rx hs pl pu q
 ·exact h' pins s σ H x v vl vu lo hi sl Q I rx hs pl pu q
noncomputable def cutV (xs:List V) (lo hi:Option Int):List V:=(xs.drop (HT.sIx xs.length 0 lo)).take (HT.sIx xs.length xs.length hi - HT.sIx xs.length 0 lo)
theorem cA' (xs:List V) (lo hi:Option Int):(cutV xs lo hi).length<=xs.length:=by
 unfold cutV;rw [List.length_take,List.length_drop];omega
noncomputable def rSlT (K:PySem.W.Frag):V->Option Int->Option Int->Hp->VK->Prop:=fun x lo hi H Q=>∃a xs,x=.ref a/\SqT K H a xs /\
 ¬(HT.sIx xs.length 0 lo=0/\HT.sIx xs.length xs.length hi=xs.length)/\∀p,H p=none->Q (.ref p) (upd H p (.tup (cutV xs lo hi)))
theorem sl_tup:SlR X (rSlT X.K):=by
 intro pins s σ H x v vl vu lo hi sl Q I rx hs pl pu h;obtain ⟨a,xs,rfl,hx,hw,q⟩:=h
 cases rx
 obtain ⟨its,r,ht,hz⟩:=I.tuple hx;have hlen:its.toArray.size=xs.length:=by rw [List.size_toArray]; exact r.length.symm
 refine ⟨"tuple",_,PyProof.Rows.slot_tuple_getitem.lookup,ht.typeIs,?_⟩;refine HT.getItem_tuple_cut ht hs pl pu (by rw [hlen]; exact hw) ?_ (by rw [hlen]; exact hz);rw [hlen];refine ⟨.ref s.heap.objs.size,_,I.laid (t':=s.toks) (o:=.tup (cutV xs lo hi)) (fun b ob q=>Heap.get?_push_of_some _ q) (Nat.le_refl _) ?_,rfl,q _ (I.hok.fresh (Nat.le_refl _))⟩;exact ⟨Nat.le_trans (cA' xs lo hi) hz,_,(r.drop (HT.sIx xs.length 0 lo)).take (HT.sIx xs.length xs.length hi - HT.sIx xs.length 0 lo),IsTup.new _ _⟩
noncomputable def rCatT (K:PySem.W.Frag):R2:=fun x y H Q=>∃a b xs ys,x=.ref a/\y=.ref b/\SqT K H a xs/\SqT K H b ys/\xs≠[]/\xs.length + ys.length<=sizeLine /\
 (ys=[]->Q (.ref a) H)/\(ys≠[]->∀p,H p=none->Q (.ref p) (upd H p (.tup (xs ++ ys))))
theorem Vals.nil_iff {xs:List V} {us:List Value} (r:Vals xs us):us=[]↔xs=[]:=by
 cases r with
 | nil=>simp
 | cons _ _=>simp
theorem iP':OpR X (binaryOp .Add) (rCatT X.K):=by
 intro pins s σ H x y v u Q I rx ry h;obtain ⟨a,b,xs,ys,rfl,rfl,ha,hb,hx,hz,q1,q2⟩:=h
 cases rx
 cases ry
 obtain ⟨its,r1,p1,_⟩:=I.tuple ha;obtain ⟨its2,r2,p2,_⟩:=I.tuple hb;refine HT.cat_tup p1 p2 (fun z=>hx (r1.nil_iff.mp z)) (fun z=>⟨.ref a,H,I,rfl,q1 (r2.nil_iff.mp z)⟩) (fun z=>?_) (by rw [<- r1.length,<- r2.length]; exact hz);refine ⟨.ref s.heap.objs.size,_,I.laid (t':=s.toks) (o:=.tup (xs ++ ys)) (fun b ob q=>Heap.get?_push_of_some _ q) (Nat.le_refl _) ?_,rfl,q2 (fun w=>z (r2.nil_iff.mpr w)) _ (I.hok.fresh (Nat.le_refl _))⟩;exact ⟨by rw [List.length_append]; exact hz,_,r1.append r2,IsTup.new _ _⟩
end
noncomputable def ixN (n:Nat) (i:Int):Option Nat:=if 0<=i then (if i < n then some i.toNat else none) else if -(n:Int)<=i then some (i + n).toNat else none
noncomputable def atI {α:Type} (xs:List α) (i:Int):Option α:=(ixN xs.length i).bind fun j=>xs[j]?
theorem fW' {n:Nat} {i:Int} {j:Nat} (h:ixN n i=some j):seqIndex? i n=some j/\j < n/\-(n:Int)<=i/\i < n:=by
 unfold ixN at h
 by_cases h0:0<=i
 ·rw [if_pos h0] at h
  by_cases h1:i < n
  ·rw [if_pos h1] at h;have e:i.toNat=j:=Option.some.inj h;exact ⟨by rw [seqIndex_of h0 h1,e],by omega,by omega,h1⟩
  ·rw [if_neg h1] at h; cases h
 ·rw [if_neg h0] at h
  by_cases h1:-(n:Int)<=i
  ·rw [if_pos h1] at h;have e:(i + n).toNat=j:=Option.some.inj h;exact ⟨by rw [seqIndex_neg (by omega) h1,e],by omega,h1,by omega⟩
  ·rw [if_neg h1] at h; cases h
theorem ek' {α:Type} {xs:List α} {i:Int} {v:α} (h:atI xs i=some v):∃j,seqIndex? i xs.length=some j/\xs[j]? = some v/\j < xs.length/\-(xs.length:Int)<=i/\i < xs.length:=by
 unfold atI at h
 cases e:ixN xs.length i with
 | none=>rw [e] at h; cases h
 | some j =>
  rw [e] at h;obtain ⟨h1,h2,h3,h4⟩:=fW' e;exact ⟨j,h1,h,h2,h3,h4⟩
noncomputable def PlainIx (b:Expr):Prop:=∀o i,subscripted b false o i=operate [o,i] (getItem o i)
noncomputable def IxR (X:Cx) (r:R2):Prop :=
 ∀(value slice:Expr) (pins:List (Addr×Obj)) (s:Shared) (σ:St) (H:Hp) (x y:V) (v u:Value) (Q:VK),Inv X pins σ H s->RelV x v->RelV y u->r x y H Q ->
  subscripted slice false v u=operate [v,u] (getItem v u)->wpAny (model X.prog X.w) X.A (subscriptTail value slice v u) (EP X pins σ Q) X.xe s
noncomputable def MtR (X:Cx) (id:String) (r:V->List V->Hp->VK->Prop):Prop :=
 ∀(pins:List (Addr×Obj)) (s:Shared) (σ:St) (H:Hp) (x:V) (xs:List V) (v:Value) (us:List Value) (Q:VK),Inv X pins σ H s->RelV x v->Vals xs us->r x xs H Q ->
  wpAny (model X.prog X.w) X.A (call (.builtin id) (v :: us)) (EP X pins σ Q) X.xe s
section
variable {X:Cx} {a b:Expr} {ta tb:TE} {pos:Pos}
theorem IxR.or {r r':R2} (h:IxR X r) (h':IxR X r'):IxR X (fun x y H Q=>r x y H Q\/r' x y H Q):=by
 intro value slice pins s σ H x y v u Q I rx ry q hs;rcases q with q | q
 ·exact h value slice pins s σ H x y v u Q I rx ry q hs
 ·exact h' value slice pins s σ H x y v u Q I rx ry q hs
theorem MtR.or {id:String} {r r':V->List V->Hp->VK->Prop} (h:MtR X id r) (h':MtR X id r'):MtR X id (fun x xs H Q=>r x xs H Q\/r' x xs H Q):=by
 intro pins s σ H x xs v us Q I rx rs q;rcases q with q | q
 ·exact h pins s σ H x xs v us Q I rx rs q
 ·exact h' pins s σ H x xs v us Q I rx rs q
noncomputable def rIxL (K:PySem.W.Frag):R2:=fun x y H Q=>∃p xs i v,x=.ref p/\y=.int i/\SqL K H p xs/\atI xs i=some v/\Q v H
noncomputable def rIxT (K:PySem.W.Frag):R2:=fun x y H Q=>∃p xs i v,x=.ref p/\y=.int i/\SqT K H p xs/\atI xs i=some v/\Q v H
noncomputable def rIxS:R2:=fun x y H Q=>∃z i c,x=.str z/\y=.int i/\z.length<=sizeLine/\atI z.cps.toList i=some c/\Q (.str ⟨#[c]⟩) H
theorem ix_list:IxR X (rIxL X.K):=by
 intro value slice pins s σ H x y v u Q I rx ry h hs;obtain ⟨p,xs,i,z,rfl,rfl,hq,he,q⟩:=h
 cases rx
 obtain ⟨t,rfl⟩:=ry;obtain ⟨its,r,pl,hz⟩:=I.list hq;obtain ⟨j,h1,h2,h3,h4,h5⟩:=ek' he;obtain ⟨w,ew,rw'⟩:=r.get h2;have hl:=r.length;have hn:=cS';have fin:EP X pins σ Q w s:=⟨z,H,I,rw',q⟩
 by_cases h0:0<=i
 ·have hj:i.toNat=j:=by
   rw [seqIndex_of h0 h5] at h1;exact Option.some.inj h1
  exact item_listR pl.isList h0 (by omega) (by rw [hj]; simpa using ew) fin hs
 ·have hj:(i + (its.toArray.size:Int)).toNat=j:=by
   rw [seqIndex_neg (by omega) h4] at h1;rw [List.size_toArray,<- hl];exact Option.some.inj h1
  exact subscriptTail_builtinR (x:=w) pl.isList.typeIs slot_list_getitem.lookup
   (wpAny_getItem_list_neg (Q:=fun r s'=>r=w/\EP X pins σ Q r s') pl.isList (by omega) (by rw [List.size_toArray] <;> omega) (by omega) (by rw [hj]; simpa using ew) ⟨rfl,fin⟩) hs
theorem ix_tup:IxR X (rIxT X.K):=by
 intro value slice pins s σ H x y v u Q I rx ry h hs;obtain ⟨p,xs,i,z,rfl,rfl,hq,he,q⟩:=h
 cases rx
 obtain ⟨t,rfl⟩:=ry;obtain ⟨its,r,pl,hz⟩:=I.tuple hq;obtain ⟨j,h1,h2,h3,h4,h5⟩:=ek' he;obtain ⟨w,ew,rw'⟩:=r.get h2;have hl:=r.length;have hn:=cS';have fin:EP X pins σ Q w s:=⟨z,H,I,rw',q⟩;exact subscriptTail_builtinR (x:=w) pl.typeIs slot_tuple_getitem.lookup
  (getItem_tuple (j:=j) (Q:=fun r s'=>r=w/\EP X pins σ Q r s') pl (by omega) (by omega) (by rw [List.size_toArray,<- hl]; exact h1) (by simpa using ew) ⟨rfl,fin⟩) hs
theorem kc':IxR X rIxS:=by
 intro value slice pins s σ H x y v u Q I rx ry h hs;obtain ⟨z,i,c,rfl,rfl,hz,he,q⟩:=h;obtain ⟨t,rfl⟩:=rx;obtain ⟨t',rfl⟩:=ry;obtain ⟨j,h1,h2,h3,h4,h5⟩:=ek' he;have hl:z.cps.toList.length=z.length:=by simp [Str.length]
 rw [hl] at h1 h4 h5;have hn:=cS';exact tail_any (typeIs_str s z t) slot_str_getitem.lookup (getItem_str (c:=c) (by
  have e1:decide (i < -(2 ^ 63:Int))=false:=decide_eq_false (by omega);have e2:decide (i>=2 ^ 63)=false:=decide_eq_false (by omega);rw [e1,e2,Bool.or_false]) (by rw [h1]; simpa using h2) ⟨.str ⟨#[c]⟩,H,I.tok _,⟨_,rfl⟩,q⟩) hs
noncomputable def rIx (K:PySem.W.Frag):R2:=fun x y H Q=>rIxL K x y H Q\/rIxT K x y H Q\/rIxS x y H Q
theorem kd':IxR X (rIx X.K):=ix_list.or (ix_tup.or kc')
theorem fp' (its:List Value) (n j:Nat) (u:Value):Obj.mapSeq (·.setIfInBounds j u) { cls:=.type "list",data:=.seq its.toArray n }={ cls:=.type "list",data:=.seq (its.set j u).toArray n }:=by
 simp [Obj.mapSeq]
theorem Inv.lst {pins:List (Addr×Obj)} {σ:St} {H:Hp} {s:Shared} {p:Addr} {xs:List V} (I:Inv X pins σ H s) (h:H p=some (.lst xs)) :
  ∃(its:List Value) (n:Nat),Vals xs its/\s.heap.get? p=some { cls:=.type "list",data:=.seq its.toArray n }/\xs.length<=sizeLine:=by
 obtain ⟨z,its,n,r,e⟩:=I.hok p _ h;exact ⟨its,n,r,e,z⟩
theorem Inv.lstUpd {pins:List (Addr×Obj)} {σ:St} {H:Hp} {s:Shared} {p:Addr} {xs ys:List V} {its its':List Value} {n n':Nat} {f:Obj->Obj} (I:Inv X pins σ H s) (h:H p=some (.lst xs))
  (ho:s.heap.get? p=some { cls:=.type "list",data:=.seq its.toArray n }) (hf:f { cls:=.type "list",data:=.seq its.toArray n }={ cls:=.type "list",data:=.seq its'.toArray n' }) (r:Vals ys its') (hz:ys.length<=sizeLine) (t:Nat) :
  Inv X pins σ (upd H p (.lst ys)) { s with heap:=s.heap.update p f,toks:=t }:=by
 have e:(s.heap.update p f).get? p=some { cls:=.type "list",data:=.seq its'.toArray n' }:=by
  rw [Heap.get?_update_self f ho (by rw [hf] <;> rfl),hf]
 refine I.write (x:=p) (e:=p) (by rw [h]; trivial) (.inl rfl) (fun b u hb q=>(Heap.get?_update_other _ _ (Ne.symm hb)).trans q) ⟨_,e⟩ ?_;exact ⟨hz,its',n',r,e⟩
noncomputable def rSetL:V->V->V->Hp->(Hp->Prop)->Prop:=fun o i v H Q=>∃p xs k j,o=.ref p/\i=.int k/\H p=some (.lst xs)/\ixN xs.length k=some j/\Q (upd H p (.lst (xs.set j v)))
theorem set_list:PSet X rSetL:=by
 intro pins s σ H o i v ov iv u Q I ro ri rv h;obtain ⟨p,xs,k,j,rfl,rfl,hp,hj,q⟩:=h
 cases ro
 obtain ⟨t,rfl⟩:=ri;obtain ⟨its,n,r,ho,hz⟩:=I.lst hp;obtain ⟨h1,h2,h3,h4⟩:=fW' hj;have hl:=r.length;have hn:=cS';have I':Inv X pins σ (upd H p (.lst (xs.set j v))) { s with heap:=s.heap.update p (Obj.mapSeq (·.setIfInBounds j u)) } :=
  I.lstUpd hp ho (fp' its n j u) (r.set rv j) (by rw [List.length_set]; exact hz) s.toks
 by_cases h0:0<=k
 ·have hk:k.toNat=j:=by
   rw [seqIndex_of h0 h4] at h1;exact Option.some.inj h1
  exact PySem.W.ki_setAt ho h0 (by omega) (by rw [List.size_toArray,<- hl]; exact h4) (by rw [hk]; exact ⟨_,I',q⟩)
 ·have hk:(k + (its.toArray.size:Int)).toNat=j:=by
   rw [seqIndex_neg (by omega) h3] at h1;rw [List.size_toArray,<- hl];exact Option.some.inj h1
  exact PySem.W.ki_setBack ho (by omega) (by rw [List.size_toArray,<- hl]; exact h3) (by omega) (by rw [hk]; exact ⟨_,I',q⟩)
theorem dF' (lo hi:Option Int) (n:Nat):(sliceBounds lo hi none n).1=((HT.sIx n 0 lo:Nat):Int)/\(sliceBounds lo hi none n).2.1=((HT.sIx n n hi:Nat):Int)/\(sliceBounds lo hi none n).2.2=1:=by
 refine ⟨?_,?_,rfl⟩
 ·cases lo with
  | none=>simp [sliceBounds,HT.sIx]
  | some i =>
   simp only [sliceBounds,HT.sIx,Option.getD_none,show (1:Int) > 0 by decide,if_true]
   by_cases h:i < 0
   ·simp only [h,if_true] <;> omega
   ·simp only [h,if_false] <;> omega
 ·cases hi with
  | none=>simp [sliceBounds,HT.sIx]
  | some i =>
   simp only [sliceBounds,HT.sIx,Option.getD_none,show (1:Int) > 0 by decide,if_true]
   by_cases h:i < 0
   ·simp only [h,if_true] <;> omega
   ·simp only [h,if_false] <;> omega
theorem df' (its:List Value) (lo hi:Option Int):slicePick its.toArray lo hi none=((its.drop (HT.sIx its.length 0 lo)).take (HT.sIx its.length its.length hi - HT.sIx its.length 0 lo)).toArray:=by
 obtain ⟨h1,h2,h3⟩:=dF' lo hi its.toArray.size;unfold slicePick;rw [h1,h2,h3];simp only [sliceRange_one,pick_run,List.size_toArray] <;> rfl
noncomputable def rSlL (K:PySem.W.Frag):V->Option Int->Option Int->Hp->VK->Prop:=fun x lo hi H Q=>∃a xs,x=.ref a/\SqL K H a xs/\∀p,H p=none->Q (.ref p) (upd H p (.lst (cutV xs lo hi)))
theorem sl_list:SlR X (rSlL X.K):=by
 intro pins s σ H x v vl vu lo hi sl Q I rx hs pl pu h;obtain ⟨a,xs,rfl,hx,q⟩:=h
 cases rx
 obtain ⟨its,r,ht,hz⟩:=I.list hx;have hlen:=r.length;refine ⟨"list",_,slot_list_getitem.lookup,ht.isList.typeIs,?_⟩;refine wpAny_getItem_list_slice ht.isList hs pl pu .none (by simp) ?_ (by rw [List.size_toArray] <;> omega)
 rw [df',<- hlen];refine ⟨.ref s.heap.objs.size,_,I.laid (t':=s.toks) (o:=.lst (cutV xs lo hi)) (fun b ob q=>Heap.get?_push_of_some _ q) (Nat.le_refl _) ?_,rfl,q _ (I.hok.fresh (Nat.le_refl _))⟩;exact ⟨Nat.le_trans (cA' xs lo hi) hz,_,0,(r.drop (HT.sIx xs.length 0 lo)).take (HT.sIx xs.length xs.length hi - HT.sIx xs.length 0 lo),Heap.get?_push_size _ rfl⟩
theorem CallR.or {f:Value} {r r':List V->Hp->VK->Prop} (h:CallR X f r) (h':CallR X f r'):CallR X f (fun xs H Q=>r xs H Q\/r' xs H Q):=by
 intro pins s σ H xs us Q I rs q;rcases q with q | q
 ·exact h pins s σ H xs us Q I rs q
 ·exact h' pins s σ H xs us Q I rs q
theorem dg':CallR X (.type "tuple") (fun xs H Q=>∃p ys,xs=[.ref p]/\((SqL X.K H p ys/\∀l,H l=none->Q (.ref l) (upd H l (.tup ys)))\/(SqT X.K H p ys/\Q (.ref p) H))):=by
 intro pins s σ H xs us Q I r h;obtain ⟨p,ys,rfl,h⟩:=h;obtain ⟨u,rfl,rx⟩:=vals1 r
 cases rx
 rcases h with ⟨hq,q⟩ | ⟨hq,q⟩
 ·obtain ⟨its,r',pl,hz⟩:=I.list hq;have hlen:=r'.length;refine call_tuple_list pl.isList (fun h' kp=>?_) (by simp only [List.size_toArray] <;> omega)
  have I1:Inv X pins σ H { s with heap:=h' }:=I.kept (t':=s.toks) kp
  have I2:Inv X pins σ (upd H h'.objs.size (.tup ys)) { s with heap:=h'.push { cls:=.type "tuple",data:=.seq its.toArray } } :=
   I1.laid (t':=s.toks) (fun b o e=>Heap.get?_push_of_some _ e) (Nat.le_refl _) (show ObjOk X.prog X.w _ _ _ (.tup ys) from ⟨hz,its,r',IsTup.new _ _⟩)
  exact ⟨.ref h'.objs.size,_,I2,rfl,q _ (I1.hok.fresh (Nat.le_refl _))⟩
 ·obtain ⟨its,r',pl,hz⟩:=I.tuple hq;exact call_tuple_same pl ⟨.ref p,H,I,rfl,q⟩
variable {o e:Expr} {es:List Expr} {to:TE} {t:TA} {name:Str} {apos cpos:Pos} {T id:String} {r:V->List V->Hp->VK->Prop}
end
theorem Vals.one:∀{x:V} {us:List Value},Vals [x] us->∃u,us=[u]/\RelV x u
 | _,_,.cons r .nil=>⟨_,rfl,r⟩
theorem Vals.two:∀{x y:V} {us:List Value},Vals [x,y] us->∃u v,us=[u,v]/\RelV x u/\RelV y v
 | _,_,_,.cons r (.cons q .nil)=>⟨_,_,rfl,r,q⟩
theorem Vals.zero:∀{us:List Value},Vals [] us->us=[]
 | _,.nil=>rfl
theorem Vals.reverse {xs:List V} {us:List Value} (h:Vals xs us):Vals xs.reverse us.reverse:=by
 induction h with
 | nil=>exact .nil
 | cons r t ih=>rw [List.reverse_cons,List.reverse_cons]; exact Vals.append ih (.cons r .nil)
theorem Vals.rep {xs:List V} {us:List Value} (h:Vals xs us):∀k:Nat,Vals (List.replicate k xs).flatten (List.replicate k us).flatten
 | 0=>.nil
 | k + 1=>by
  rw [List.replicate_succ,List.replicate_succ,List.flatten_cons,List.flatten_cons];exact Vals.append h (Vals.rep h k)
theorem foldl_rep (its:List Value):∀(k:Nat) (acc:List Value),
  List.foldl (fun x1 x2=>x1 ++ x2) acc.toArray (List.replicate k its.toArray)=(acc ++ (List.replicate k its).flatten).toArray
 | 0,acc=>by simp
 | k + 1,acc=>by
  have e:acc.toArray ++ its.toArray=(acc ++ its).toArray:=by simp
  have e2:(acc ++ its) ++ (List.replicate k its).flatten=acc ++ (List.replicate (k + 1) its).flatten:=by
   rw [List.replicate_succ,List.flatten_cons,List.append_assoc]
  rw [<- e2,<- foldl_rep its k (acc ++ its),<- e,List.replicate_succ,List.foldl_cons]
section
variable {X:Cx} {pins:List (Addr×Obj)} {σ:St} {H:Hp} {s:Shared} {l b:Addr} {xs ys zs:List V}
theorem Inv.lset {its its':List Value} {n:Nat} {f:Array Value->Array Value} {t':Nat} (I:Inv X pins σ H s) (hH:H l=some (.lst xs))
  (e:s.heap.get? l=some { cls:=.type "list",data:=.seq its.toArray n }) (hf:f its.toArray=its'.toArray) (hv:Vals ys its') (hz:ys.length<=sizeLine) :
  Inv X pins σ (upd H l (.lst ys)) { s with heap:=s.heap.update l (Obj.mapSeq f),toks:=t' }:=by
 have q:=PySem.IsL.update e f;rw [hf] at q;refine I.write (x:=l) (e:=l) (by rw [hH]; exact trivial) (.inl rfl) (fun b' u hb hu=>(Heap.get?_update_other s.heap (Obj.mapSeq f) (Ne.symm hb)).trans hu) ⟨_,q⟩ ?_;exact ⟨hz,its',_,hv,q⟩
theorem Inv.fresh (I:Inv X pins σ H s):H s.heap.objs.size=none:=I.hok.fresh (Nat.le_refl _)
end
section
variable {X:Cx}
theorem len_rep {α:Type} (xs:List α) (k:Nat):(List.replicate k xs).flatten.length=k * xs.length:=by
 induction k with
 | zero=>simp
 | succ k ih=>rw [List.replicate_succ,List.flatten_cons,List.length_append,ih,Nat.succ_mul,Nat.add_comm]
end
section
variable {prog:Program} {w:World} {A:Around} {E:Value->Shared->Prop} {s:Shared}
end
section
variable {X:Cx}
end
end L2
namespace Att
open PySem PySem.W PySem.Calls PyProof.Rows
theorem cB' {P:Params} {h:Heap}:∀(ns:List Int) (vs:List Value),WellAll P h vs (ns.map WData.int)->IntsAre vs ns:=by
 intro ns
 induction ns with
 | nil =>
  intro vs w;rw [List.map_nil] at w
  cases w
  exact .nil
 | cons n ns ih =>
  intro vs w;rw [List.map_cons] at w
  cases w with
  | cons a b =>
   cases a
   exact .cons _ _ (ih _ b)
theorem fX' {l:OpenLaw} {n:Nat} (hn:l.most=some n) {P:Params} {h:Heap} {args:List WData} {vals:List Value}
  (hpre:l.row.toRowW.claim.pre args=true) (hwl:WellAll P h vals args) :
  ∃a vs ns,vals=[Value.ref a]/\args=[WData.list (ns.map WData.int)]/\h.get? a=some { cls:=.type "list",data:=.seq vs.toArray }/\IntsAre vs ns/\ns.length<=n:=by
 have hsh:WShape.hasAll [] args [.list .int]=true:=(pre_splitW hpre).1;have hc:l.pre.holds [] { args:=args }=true:=(pre_splitW hpre).2;obtain ⟨d,r,rfl,h1,h2⟩:=hasAllW_cons hsh;obtain rfl:=hasAllW_nil h2;obtain ⟨xs,rfl,h3⟩:=hasW_list h1;obtain ⟨ns,rfl⟩:=items_int h3;have hlen:ns.length<=n:=by
  unfold OpenLaw.pre at hc;have h4:(WTm.not (.lt (.lit (.int (n:Int))) (.len (.arg 0)))).holds [] { args:=[.list (ns.map .int)] }=true:=by
   have h4:=(holds_andW hc).1;rw [hn] at h4;exact h4
  have h5:=condW_of h4 (w_not (w_lt w_lit (w_len_list (w_arg rfl))));rw [List.length_map] at h5;refine Nat.le_of_not_lt fun q=>?_;have q':(n:Int) < ((ns.length:Nat):Int):=by omega
  first
   | (rw [decide_eq_true q'] at h5; exact absurd h5 (by decide))
   | (simp at h5; omega)
 cases hwl with
 | cons w1 w2 =>
  cases w2
  cases w1 with
  | list ho hall=>exact ⟨_,_,ns,rfl,rfl,ho,cB' ns _ hall,hlen⟩
theorem fY' (l:OpenLaw) (args:List WData):l.row.toRowW.claim.post args (.bool true) args=true :=
 postW_of (r:=l.row.toRowW) (X:=(true == true))
  (show WShape.has [] (.bool true) .bool=true by first | rfl | decide | simp [WShape.has,WShape.arms,WShape.armsAll])
  (show (WTm.eq .res (.lit (.bool true))).value [] { args:=args,res:=some (.bool true),after:=args }=some (.bool (true == true)) from w_eq_bool (w_res rfl) w_lit) rfl
theorem attach_call {l:OpenLaw} {n:Nat} {q:Program} {loose:List Str} {XP:(Str->Option Value)->Heap->Prop} {YP:World->Heap->Prop} {d:DefRec}
  (hn:l.most=some n) (hdf:d.params.defaults=[])
  (call:∀(w:World) (s₀ s₁:Shared) (mg mb:Str->Option Value) (fa:Addr) (o:Obj) (pm cd doc:Value) (a:Addr) (vs:List Value) (ns:List Int),
   Ground q loose [] XP w s₀ mg mb s₁.heap->YP w s₁.heap ->
   s₁.heap.get? fa=some o->o.data=.func (docDef d.name d.params d.body d.scope pm cd doc)->s₁.heap.CodeRec cd d.name->mg d.name=some (.ref fa) ->
   s₁.heap.get? a=some { cls:=.type "list",data:=.seq vs.toArray }->IntsAre vs ns->ns.length<=n->s₁.gens = #[] ->
   codeAny (model l.prog w) callerA (.call (.ref fa) ⟨[.ref a],[]⟩) (fun r s'=>r=.ok (.ret (.bool true))/\OldK s₁.heap s'.heap/\s'.os=s₁.os/\AllBare s'.gens) s₁) :
  WalkO q loose XP YP l.row.toRowW d [] (fun f vs=>PySem.call f vs):=by
 intro w s₀ s₁ mg mb G Y fa o pm cd doc dV kV ho hd hcd hD hmg hg args vals as hpre hlay hrd hwl hlo;obtain rfl:dV=.none:=Dflts.none hD hdf;obtain rfl:kV=.none:=Dflts.noKw hD;obtain ⟨a,vs,ns,rfl,rfl,hobj,hints,hlen⟩:=fX' hn hpre hwl;refine enter_call (codeAny_mono (call w s₀ s₁ mg mb fa o pm cd doc a vs ns G Y ho (fd_plain hd) hcd hmg hobj hints hlen hg) fun r s' hq=>?_);obtain ⟨rfl,h2,h3,h4⟩:=hq;exact ⟨.inl ⟨.bool true,.bool true,[],rfl,fun _=>rfl,.bool true,fY' l _,fun _=>⟨List.Pairwise.nil,fun _ hm=>(nomatch hm)⟩⟩,h2,h3,h4⟩
section
variable {prog:Program} {w:World} {A:Around} {E:Value->Shared->Prop} {s:Shared} {K:Frag}
noncomputable def noObjs (h:Heap):Heap:={ h with objs:=#[] }
end
end Att
namespace L2
open PySem PySem.Spec PyProof.Rows
theorem dG':∀{vs:List Value} {ns:List Int},IntsAre vs ns->Vals (ns.map V.int) vs
 | _,_,.nil=>.nil
 | _,_,.cons n t h=>.cons ⟨t,rfl⟩ (dG' h)
noncomputable def Only (H:Hp):Prop:=∀b,H b=none\/∃o xs,H b=some (.frz o (.lst xs))
theorem ht' {P:Program} {w:World} {K:PySem.W.Frag} {mg mb:Str->Option Value} {CX:CXT} {k:Nat} {fa a:Addr} {fd:FuncData} {x:Str} {sp:Sp} {s₁:Shared} {vs:List Value} {ns:List Int}
  (KX:K.In s₁.heap) (hns:s₁.heap.Ns mainGlobals mg) (hb:s₁.heap.Ns builtinsNs mb) (hbb:∀x:Str,x≠"__name__"->mb x=bootBuiltins x) (hlim:s₁.heap.NoLimit) (hg:s₁.gens = #[])
  (ha:s₁.heap.get? a=some { cls:=.type "list",data:=.seq vs.toArray }) (hi:IntsAre vs ns) (hl:ns.length<=sizeLine) (hr:Room k callerA)
  (F:∀base:Heap,K.In base->base.Ns mainGlobals mg->FnOk P w K mg base CX k fa fd [x] sp) (hbind:∀(s:Shared) (u:Value),BindsTo s fd ⟨[u],[]⟩ [(x,u)])
  (hsp:∀H:Hp,Only H->SqL K H a (ns.map V.int)->sp [.ref a] H (fun v _=>v=.bl true) fun _ _ _=>False)
  (hCX:∀H e s',CX [] H s₁ (fun _ _ _=>False) e s'->False) :
  codeAny (model P w) callerA (.call (.ref fa) ⟨[.ref a],[]⟩) (fun r s'=>r=.ok (.ret (.bool true))/\OldK s₁.heap s'.heap/\s'.os=s₁.os/\AllBare s'.gens) s₁:=by
 have rv:=dG' hi;have lenV:=hi.length;have core:∀H:Hp,Only H->SqL K H a (ns.map V.int)->HOk P w H s₁.heap->(∀b,H b≠none->b=a)->(H a≠none->K.lookup a=none) ->
   codeAny (model P w) callerA (.call (.ref fa) ⟨[.ref a],[]⟩) (fun r s'=>r=.ok (.ret (.bool true))/\OldK s₁.heap s'.heap/\s'.os=s₁.os/\AllBare s'.gens) s₁:=by
  intro H hO hS hok hA hK;have base_of:∀{b:Addr} {o:Obj},s₁.heap.get? b=some o->H b=none->(hidT s₁.heap H).get? b=some o:=fun e n=>gW' e n;have noA:∀{b:Addr} {o:Obj} {es:Array DictEntry} {ep:Nat},s₁.heap.get? b=some o->o.data=.dict es ep->H b=none:=fun {b o es ep} e d=>by
   cases q:H b with
   | none=>rfl
   | some u =>
    have e':b=a:=hA b (by rw [q]; simp);subst e';rw [ha] at e; cases e;have d':Data.seq vs.toArray _=Data.dict es ep:=d
    cases d'
  have nsK:∀{b:Addr} {m:Str->Option Value},s₁.heap.Ns b m->(hidT s₁.heap H).Ns b m:=fun {b m} ⟨o,es,ep,e,d,r⟩=>⟨o,es,ep,base_of e (noA e d),d,r⟩;have hKb:K.In (hidT s₁.heap H):=fun b o e=>base_of (KX b o e) (by
   cases q:H b with
   | none=>rfl
   | some u =>
    have e':b=a:=hA b (by rw [q]; simp);subst e';rw [hK (by rw [q]; simp)] at e; cases e)
  have hM:Mod K mg (hidT s₁.heap H):=⟨hKb,nsK hns,⟨mb,nsK hb,hbb⟩,let ⟨mc,h1,h2⟩:=hlim; ⟨mc,nsK h1,h2⟩⟩;have e0:Env0 P w K mg (hidT s₁.heap H) callerA [] s₁ H:=⟨rfl,hM,fun b o e=>iH' e,Nat.le_of_eq (fO' _ _),trivial,fun b hb=>absurd (show b∈([]:List Addr) from hb) (by simp),hok,.of_eq hg⟩
  refine codeAny_mono ((F _ hKb (nsK hns)).run callerA [] s₁ H ⟨[.ref a],[]⟩ [.ref a] [.ref a] _ _ hr e0 (hbind s₁ (.ref a)) (.cons rfl .nil) (hsp H hO hS)) fun r s' h=>?_
  cases r with
  | error e=>exact (hCX H e s' h).elim
  | ok fl =>
   cases fl with
   | next=>exact False.elim h
   | brk=>exact False.elim h
   | cont=>exact False.elim h
   | ret u =>
    obtain ⟨v,H',os,bare,un,hok',r',q⟩:=h;have q':v=.bl true:=q;subst q';obtain rfl:u=Value.bool true:=r';refine ⟨rfl,OldK.of_keep fun b o e=>?_,os,bare⟩
    cases q:H b with
    | none=>exact un.keep b o e q (by intro z; exact absurd (show b∈([]:List Addr) from z) (by simp)) (by simp)
    | some u =>
     rcases hO b with z | ⟨ob,xs,z⟩
     ·rw [q] at z; cases z
     ·have z2:=un.frzs b ob _ z;obtain ⟨e1,_⟩:=hok b _ z;obtain ⟨e2,_⟩:=hok' b _ z2;rw [e] at e1; cases e1;exact e2
 cases hk:K.lookup a with
 | some o =>
  have e:=KX a o hk;rw [ha] at e
  cases e
  refine core (fun _=>none) (fun _=>.inl rfl) (.inr ⟨_,vs.toArray,_,hk,rfl,rfl,rfl,by rw [List.size_toArray,lenV]; exact hl,by simpa using rv⟩) (fun b u z=>by have z':(none:Option HO)=some u:=z; cases z') (fun b z=>absurd rfl z) fun z=>absurd rfl z
 | none =>
  refine core (fun b=>if b=a then some (.frz { cls:=.type "list",data:=.seq vs.toArray } (.lst (ns.map V.int))) else none) (fun b=>?_) (.inl (.inr ⟨{ cls:=.type "list",data:=.seq vs.toArray },if_pos rfl⟩)) (fun b u z=>?_) (fun b z=>?_) fun _=>hk
  ·by_cases hb:b=a
   ·exact .inr ⟨_,_,if_pos hb⟩
   ·exact .inl (if_neg hb)
  ·by_cases hb:b=a
   ·have z':=(if_pos hb).symm.trans z
    cases z'
    subst hb;exact ⟨ha,by rw [List.length_map]; exact hl,vs,_,rv,ha⟩
   ·have z':=(if_neg hb).symm.trans z
    cases z'
  ·by_cases hb:b=a
   ·exact hb
   ·exact absurd (if_neg hb) z
abbrev KOf {K:PySem.W.Frag} {h:Heap} (_:K.In h):PySem.W.Frag:=K
theorem walk_of {l:PySem.W.OpenLaw} {n k:Nat} {q:Program} {loose:List Str} {XP:(Str->Option Value)->Heap->Prop} {YP:World->Heap->Prop} {d:DefRec} {K:Params->PySem.W.Frag} {CX:World->CXT} {sp:World->Sp} {x:Str}
  (hn:l.most=some n) (hn2:n<=sizeLine) (hdf:d.params.defaults=[]) (hr:Room k callerA)
  (hY:∀(w:World) (h:Heap),YP w h->(K w.params).In h)
  (F:∀(w:World) (mg:Str->Option Value) (fa:Addr) (h:Heap),(K w.params).In h->h.Ns mainGlobals mg->mg d.name=some (.ref fa) ->
   ∃fd:FuncData,(∀(s:Shared) (u:Value),BindsTo s fd ⟨[u],[]⟩ [(x,u)]) /\
    ∀base:Heap,(K w.params).In base->base.Ns mainGlobals mg->FnOk l.prog w (K w.params) mg base (CX w) k fa fd [x] (sp w))
  (hsp:∀(w:World) (H:Hp) (a:Addr) (ns:List Int),ns.length<=n->Only H->SqL (K w.params) H a (ns.map V.int)->sp w [.ref a] H (fun v _=>v=.bl true) fun _ _ _=>False)
  (hCX:∀(w:World) (H:Hp) (s:Shared) (e:Value) (s':Shared),CX w [] H s (fun _ _ _=>False) e s'->False) :
  PySem.W.WalkO q loose XP YP l.row.toRowW d [] (fun f vs=>PySem.call f vs):=by
 refine Att.attach_call hn hdf fun w s₀ s₁ mg mb fa o pm cd doc a vs ns G Y ho hd hcd hmg hobj hints hlen hg=>?_;have KX:=hY w _ Y;obtain ⟨fd,hb,hF⟩:=F w mg fa _ KX G.T.g hmg;exact ht' KX G.T.g G.T.b G.T.builtins G.T.nolimit hg hobj hints (Nat.le_trans hlen hn2) hr hF hb (fun H hO hS=>hsp w H a ns hlen hO hS) fun H e s'=>hCX w H s₁ e s'
noncomputable def defArgs (s:Stmt):Arguments:=match s with
 | .FunctionDef _ a _ _ _ _ _ _ _ _=>a
 | _=>{ posonlyargs:=[],args:=[],vararg:=none,kwonlyargs:=[],kw_defaults:=[],kwarg:=none,defaults:=[] }
noncomputable def defBody (s:Stmt):List Stmt:=match s with
 | .FunctionDef _ _ b _ _ _ _ _ _ _=>b
 | _=>[]
noncomputable def defScope (s:Stmt):Scope:=match s with
 | .FunctionDef _ _ _ _ _ _ sc _ _ _=>sc
 | _=>{ kind:=.function,names:=[],isGenerator:=false,isCoroutine:=false }
abbrev CX0:CXT:=fun _ _ _ _ _ _=>False
abbrev E0:XK:=fun _ _ _=>False
structure Fun (K:PySem.W.Frag) (x qual:Str) (st:Stmt) (f:Addr) (fd:FuncData):Prop where
 ex:∃(oc:Value) (od:Option Addr) (kV doc pm:Value) (an:Option Addr) (cdv ct:Value) (osl:Array (Option Value)),
  fd=PySem.W.fnOf x qual (defArgs st) (defBody st) (defScope st) .none kV doc pm an cdv ct/\K.lookup f=some ⟨oc,od,.func fd,osl⟩/\PySem.W.codeIn K cdv qual=true
 kp:PySem.W.keepIn K (.ref f)=true
section
variable {P:Program} {w:World} {K:PySem.W.Frag} {mg:Str->Option Value} {base:Heap}
theorem Fun.ok {x qual:Str} {st:Stmt} {f:Addr} {fd:FuncData} {N ps:List Str} {k:Nat} {sp:Sp} (F:Fun K x qual st f fd) (S:FnScope N ps (defScope st)) (len:∀vs H Q E,sp vs H Q E->vs.length=ps.length)
  (hbody:∀(cdv:Value) (A:Around) (outer:List Env) (s:Shared) (H:Hp) (vs:List V) (Q:VK) (E:XK),Room k (A.deeper (envOfC qual (defScope st) s.heap.objs.size f cdv))->sp vs H Q E ->
   ∃t,PSs (cxOf CX0 P w K mg base N qual (defScope st) f cdv A outer s H E).nox (defBody st) t/\t { nx:=fun _ H'=>Q .non H',rt:=Q } (start N vs) H):FnOk P w K mg base CX0 (k + 1) f fd ps sp:=by
 obtain ⟨oc,od,kV,doc,pm,an,cdv,ct,osl,rfl,lk,hcd⟩:=F.ex;refine iO' lk hcd S len fun A outer s H vs Q E hr hsp=>?_;obtain ⟨t,h,q⟩:=hbody cdv A outer s H vs Q E hr hsp;exact ⟨t,h.nox,q⟩
theorem Fun.binds {x qual:Str} {st:Stmt} {f:Addr} {fd:FuncData} {ps:List Str} (F:Fun K x qual st f fd)
  (h:∀(kV doc pm:Value) (an:Option Addr) (cdv ct:Value) (us:List Value),us.length=ps.length->bindArgs (PySem.W.fnOf x qual (defArgs st) (defBody st) (defScope st) .none kV doc pm an cdv ct) ⟨us,[]⟩=pure (ps.zip us)):Binds K fd ps []:=by
 obtain ⟨oc,od,kV,doc,pm,an,cdv,ct,osl,rfl,lk,hcd⟩:=F.ex;exact .all (h kV doc pm an cdv ct)
theorem fZ' {x qual:Str} {st:Stmt} {f:Addr} {oc:Value} {od an:Option Addr} {osl:Array (Option Value)} {kV doc pm cdv ct:Value} (l:K.lookup f=some ⟨oc,od,.func (PySem.W.fnOf x qual (defArgs st) (defBody st) (defScope st) .none kV doc pm an cdv ct),osl⟩)
  (c:PySem.W.codeIn K cdv qual=true) (k:PySem.W.keepIn K (.ref f)=true):Fun K x qual st f (PySem.W.fnOf x qual (defArgs st) (defBody st) (defScope st) .none kV doc pm an cdv ct):=⟨⟨oc,od,kV,doc,pm,an,cdv,ct,osl,rfl,l,c⟩,k⟩
end
section
variable {X:Cx}
theorem pv (i:Nat) {x:Str} {pos:Pos} (hN:X.N[i]? = some x:=by rfl) (hv:Vis X.env.scope x:=by first | exact Or.inl rfl | exact Or.inr (Or.inl rfl) | exact Or.inr (Or.inr rfl)) (hd:(x == ("__debug__" : Str))=false:=by decide)
  (hcd:(x == ("__classdict__" : Str))=false:=by decide):PE X (.Name x pos) (tVar i):=fP' hN hv hd hcd
end
noncomputable def Same (H H':Hp):Prop:=∀b o,H b=some o->H' b=some o
theorem Same.refl (H:Hp):Same H H:=fun _ _ h=>h
theorem Same.trans {H H1 H2:Hp} (a:Same H H1) (b:Same H1 H2):Same H H2:=fun c o h=>b c o (a c o h)
theorem Same.free {H H':Hp} (e:Same H H') {l:Addr} (h:H' l=Option.none):H l=Option.none:=by
 cases q:H l with
 | none=>rfl
 | some o =>
  rw [e l o q] at h
  cases h
theorem Same.seq {K:PySem.W.Frag} {H H':Hp} {a:Addr} {xs:List V} (e:Same H H') (h:SqL K H a xs):SqL K H' a xs:=by
 rcases h with (h | ⟨o,h⟩) | h
 ·exact .inl (.inl (e _ _ h))
 ·exact .inl (.inr ⟨o,e _ _ h⟩)
 ·exact .inr h
end L2
namespace DL
open PySem PySem.Spec PyProof.Rows L2
abbrev St:=L2.St
inductive D where
 | non
 | bl (b:Bool)
 | int (i:Int)
 | str (x:Str)
 | tup (ds:List D)
 | lst (ds:List D)
 | exc (c:Str)
 | excf (c f:Str) (d:D)
 | dct
structure Exn where
 cls:Str
 pay:Option (Str×D):=none
inductive Res (α:Type) where
 | stuck
 | ok (a:α)
 | err (x:Exn)
noncomputable def Res.bind {α β:Type} (r:Res α) (f:α->Res β):Res β:=match r with
 | .stuck=>.stuck
 | .ok a=>f a
 | .err x=>.err x
@[simp] theorem Res.bind_ok {α β:Type} (a:α) (f:α->Res β):(Res.ok a).bind f=f a:=rfl
@[simp] theorem Res.bind_stuck {α β:Type} (f:α->Res β):(Res.stuck).bind f=.stuck:=rfl
@[simp] theorem Res.bind_err {α β:Type} (x:Exn) (f:α->Res β):(Res.err x).bind f=.err x:=rfl
noncomputable def excAt (a C:Addr) (dd:Option Addr) (h:Heap):Prop:=∃o vs,h.get? a=some o/\o.cls=.ref C/\o.dict=dd/\o.data=.fields vs
section
variable (K:PySem.W.Frag)
mutual
noncomputable def Rep (H:Hp):D->V->Prop
 | .non,v=>v=.non
 | .bl b,v=>v=.bl b
 | .int i,v=>v=.int i
 | .str x,v=>v=.str x
 | .tup ds,v=>∃a xs,v=.ref a/\SqT K H a xs/\Reps H ds xs
 | .lst ds,v=>∃a xs,v=.ref a/\SqL K H a xs/\Reps H ds xs
 | .exc c,v=>∃a C,v=.ref a/\PySem.W.nsIn K mainGlobals c=some (some (.ref C))/\H a=some (.ext (excAt a C none))
 | .excf c f d,v=>∃a C dx u,v=.ref a/\PySem.W.nsIn K mainGlobals c=some (some (.ref C))/\H a=some (.ext (excAt a C (some dx)))/\H dx=some (.xd [(f,u)])/\Rep H d u
 | .dct,v=>∃a,v=.ref a/\H a=some (.ext (PySem.W.KitAt a "dict"))
noncomputable def Reps (H:Hp):List D->List V->Prop
 | [],xs=>xs=[]
 | d :: ds,xs=>∃v vs,xs=v :: vs/\Rep H d v/\Reps H ds vs
end
end
theorem cv' {K:PySem.W.Frag} {H H':Hp} {a:Addr} {xs:List V} (e:Same H H') (h:SqT K H a xs):SqT K H' a xs:=by
 rcases h with (h | ⟨o,h⟩) | h
 ·exact .inl (.inl (e _ _ h))
 ·exact .inl (.inr ⟨o,e _ _ h⟩)
 ·exact .inr h
mutual
theorem Rep.mono {K:PySem.W.Frag} {H H':Hp} (e:Same H H'):∀{d:D} {v:V},Rep K H d v->Rep K H' d v
 | .non,_,h=>by rw [Rep] at h ⊢; exact h
 | .bl _,_,h=>by rw [Rep] at h ⊢; exact h
 | .int _,_,h=>by rw [Rep] at h ⊢; exact h
 | .str _,_,h=>by rw [Rep] at h ⊢; exact h
 | .tup ds,_,h=>by
  rw [Rep] at h ⊢;obtain ⟨a,xs,e1,e2,e3⟩:=h;exact ⟨a,xs,e1,cv' e e2,Reps.mono e e3⟩
 | .lst ds,_,h=>by
  rw [Rep] at h ⊢;obtain ⟨a,xs,e1,e2,e3⟩:=h;exact ⟨a,xs,e1,e.seq e2,Reps.mono e e3⟩
 | .exc _,_,h=>by
  rw [Rep] at h ⊢;obtain ⟨a,C,e1,e2,e3⟩:=h;exact ⟨a,C,e1,e2,e _ _ e3⟩
 | .excf _ _ d,_,h=>by
  rw [Rep] at h ⊢;obtain ⟨a,C,dx,u,e1,e2,e3,e4,e5⟩:=h;exact ⟨a,C,dx,u,e1,e2,e _ _ e3,e _ _ e4,Rep.mono e e5⟩
 | .dct,_,h=>by
  rw [Rep] at h ⊢;obtain ⟨a,e1,e2⟩:=h;exact ⟨a,e1,e _ _ e2⟩
theorem Reps.mono {K:PySem.W.Frag} {H H':Hp} (e:Same H H'):∀{ds:List D} {vs:List V},Reps K H ds vs->Reps K H' ds vs
 | [],_,h=>by rw [Reps] at h ⊢; exact h
 | d :: ds,_,h=>by
  rw [Reps] at h ⊢;obtain ⟨v,vs,e1,e2,e3⟩:=h;exact ⟨v,vs,e1,Rep.mono e e2,Reps.mono e e3⟩
end
theorem Reps.nil {K:PySem.W.Frag} {H:Hp}:Reps K H [] []:=by rw [Reps]
theorem Reps.cons {K:PySem.W.Frag} {H:Hp} {d:D} {v:V} {ds:List D} {vs:List V} (h:Rep K H d v) (t:Reps K H ds vs):Reps K H (d :: ds) (v :: vs):=by
 rw [Reps]; exact ⟨v,vs,rfl,h,t⟩
theorem Reps.nil_of {K:PySem.W.Frag} {H:Hp} {xs:List V} (h:Reps K H [] xs):xs=[]:=by rw [Reps] at h; exact h
theorem Reps.cons_of {K:PySem.W.Frag} {H:Hp} {d:D} {ds:List D} {xs:List V} (h:Reps K H (d :: ds) xs):∃v vs,xs=v :: vs/\Rep K H d v/\Reps K H ds vs:=by rw [Reps] at h; exact h
theorem Reps.length {K:PySem.W.Frag} {H:Hp}:∀{ds:List D} {vs:List V},Reps K H ds vs->vs.length=ds.length
 | [],_,h=>by rw [h.nil_of]; rfl
 | d :: ds,_,h=>by
  obtain ⟨v,vs,rfl,_,t⟩:=h.cons_of;simp [Reps.length t]
theorem Reps.isEmpty {K:PySem.W.Frag} {H:Hp} {ds:List D} {vs:List V} (h:Reps K H ds vs):vs.isEmpty=ds.isEmpty:=by
 cases ds with
 | nil=>rw [h.nil_of]; rfl
 | cons d ds=>obtain ⟨v,vs,rfl,_,_⟩:=h.cons_of; rfl
theorem Reps.get {K:PySem.W.Frag} {H:Hp}:∀{ds:List D} {vs:List V} {i:Nat} {d:D},Reps K H ds vs->ds[i]? = some d->∃v,vs[i]? = some v/\Rep K H d v
 | [],_,i,d,h,e=>by simp at e
 | d' :: ds,_,0,d,h,e=>by
  obtain ⟨v,vs,rfl,r,t⟩:=h.cons_of;simp at e; subst e;exact ⟨v,by simp,r⟩
 | d' :: ds,_,i + 1,d,h,e=>by
  obtain ⟨v,vs,rfl,r,t⟩:=h.cons_of;simp at e;obtain ⟨u,e1,e2⟩:=Reps.get t e;exact ⟨u,by simpa using e1,e2⟩
theorem Reps.get' {K:PySem.W.Frag} {H:Hp}:∀{ds:List D} {vs:List V} {i:Nat} {v:V},Reps K H ds vs->vs[i]? = some v->∃d,ds[i]? = some d/\Rep K H d v
 | [],_,i,v,h,e=>by rw [h.nil_of] at e; simp at e
 | d' :: ds,_,0,v,h,e=>by
  obtain ⟨v',vs,rfl,r,t⟩:=h.cons_of;simp at e; subst e;exact ⟨d',by simp,r⟩
 | d' :: ds,_,i + 1,v,h,e=>by
  obtain ⟨v',vs,rfl,r,t⟩:=h.cons_of;simp at e;obtain ⟨u,e1,e2⟩:=Reps.get' t e;exact ⟨u,by simpa using e1,e2⟩
theorem Reps.append {K:PySem.W.Frag} {H:Hp}:∀{ds es:List D} {vs ws:List V},Reps K H ds vs->Reps K H es ws->Reps K H (ds ++ es) (vs ++ ws)
 | [],_,_,_,h,t=>by rw [h.nil_of]; exact t
 | d :: ds,_,_,_,h,t=>by
  obtain ⟨v,vs,rfl,r,q⟩:=h.cons_of;exact Reps.cons r (Reps.append q t)
theorem Reps.take {K:PySem.W.Frag} {H:Hp}:∀(n:Nat) {ds:List D} {vs:List V},Reps K H ds vs->Reps K H (ds.take n) (vs.take n)
 | 0,_,_,_=>by simpa using Reps.nil
 | n + 1,[],_,h=>by rw [h.nil_of]; simpa using Reps.nil
 | n + 1,d :: ds,_,h=>by
  obtain ⟨v,vs,rfl,r,q⟩:=h.cons_of;simpa using Reps.cons r (Reps.take n q)
theorem Reps.drop {K:PySem.W.Frag} {H:Hp}:∀(n:Nat) {ds:List D} {vs:List V},Reps K H ds vs->Reps K H (ds.drop n) (vs.drop n)
 | 0,_,_,h=>by simpa using h
 | n + 1,[],_,h=>by rw [h.nil_of]; simpa using Reps.nil
 | n + 1,d :: ds,_,h=>by
  obtain ⟨v,vs,rfl,r,q⟩:=h.cons_of;simpa using Reps.drop n q
inductive SV where
 | val (d:D)
 | arg (d:D)
 | own (ds:List D)
abbrev DS:=List (Option SV)
noncomputable def SV.view:SV->D
 | .val d=>d
 | .arg d=>d
 | .own ds=>.lst ds
noncomputable def RepSV (K:PySem.W.Frag) (G H:Hp):SV->V->Prop
 | .val d,v=>Rep K H d v
 | .arg d,v=>Rep K G d v
 | .own ds,v=>∃a xs,v=.ref a/\H a=some (.lst xs)/\Reps K H ds xs/\G a=none
structure RepSt (K:PySem.W.Frag) (G H:Hp) (σ:St) (δ:DS):Prop where
 same:Same G H
 len:σ.length=δ.length
 at_:∀(i:Nat) (sv:SV),δ[i]? = some (some sv)->∃v,σ[i]? = some (some v)/\RepSV K G H sv v
 sep:∀(i j:Nat) (ds es:List D) (v:V),i≠j->δ[i]? = some (some (.own ds))->δ[j]? = some (some (.own es))->σ[i]? = some (some v)->σ[j]?≠some (some v)
structure TK (H H':Hp):Prop where
 tup:∀b xs,H b=some (.tup xs)->H' b=some (.tup xs)
 frz:∀b o u,H b=some (.frz o u)->H' b=some (.frz o u)
 trk:∀b,H' b=none->H b=none
theorem _root_.L2.Same.tk {H H':Hp} (e:Same H H'):TK H H':=⟨fun b xs h=>e b _ h,fun b o u h=>e b _ h,fun b h=>e.free h⟩
theorem TK.refl (H:Hp):TK H H:=⟨fun _ _ h=>h,fun _ _ _ h=>h,fun _ h=>h⟩
theorem TK.trans {H H1 H2:Hp} (a:TK H H1) (b:TK H1 H2):TK H H2:=⟨fun c xs h=>b.tup c xs (a.tup c xs h),fun c o u h=>b.frz c o u (a.frz c o u h),fun c h=>a.trk c (b.trk c h)⟩
theorem RepSt.mono {K:PySem.W.Frag} {G H H':Hp} {σ:St} {δ:DS} (R:RepSt K G H σ δ) (e:Same H H'):RepSt K G H' σ δ where
 same:=R.same.trans e
 len:=R.len
 at_:=fun i sv h=>by
  obtain ⟨v,e1,e2⟩:=R.at_ i sv h;refine ⟨v,e1,?_⟩
  cases sv with
  | val d=>exact Rep.mono e e2
  | arg d=>exact e2
  | own ds =>
   obtain ⟨a,xs,q1,q2,q3,q4⟩:=e2;exact ⟨a,xs,q1,e _ _ q2,q3.mono e,q4⟩
 sep:=R.sep
theorem RepSt.view {K:PySem.W.Frag} {G H:Hp} {σ:St} {δ:DS} (R:RepSt K G H σ δ) {i:Nat} {sv:SV} (h:δ[i]? = some (some sv)):∃v,σ[i]? = some (some v)/\Rep K H sv.view v:=by
 obtain ⟨v,e1,e2⟩:=R.at_ i sv h;refine ⟨v,e1,?_⟩
 cases sv with
 | val d=>exact e2
 | arg d=>exact Rep.mono R.same e2
 | own ds =>
  obtain ⟨a,xs,rfl,q2,q3,q4⟩:=e2;show Rep K H (.lst ds) _;rw [Rep];exact ⟨a,xs,rfl,SqL.of q2,q3⟩
theorem RepSt.set {K:PySem.W.Frag} {G H:Hp} {σ:St} {δ:DS} (R:RepSt K G H σ δ) (i:Nat) {d:D} {v:V} (h:Rep K H d v):RepSt K G H (σ.set i (some v)) (δ.set i (some (.val d))) where
 same:=R.same
 len:=by simpa using R.len
 at_:=fun j sv e=>by
  by_cases hj:i=j
  ·subst hj;have hl:i < δ.length:=by
    rw [List.getElem?_set] at e
    by_cases q:i < δ.length
    ·exact q
    ·simp [q] at e
   rw [List.getElem?_set_self hl] at e
   cases e
   exact ⟨v,by rw [List.getElem?_set_self (by rw [R.len]; exact hl)],h⟩
  ·rw [List.getElem?_set_ne hj] at e;obtain ⟨u,e1,e2⟩:=R.at_ j sv e;exact ⟨u,by rw [List.getElem?_set_ne hj]; exact e1,e2⟩
 sep:=fun j k ds es u hjk e1 e2 e3=>by
  have n1:i≠j:=by
   rintro rfl
   rw [List.getElem?_set] at e1
   split at e1
   ·split at e1 <;> cases e1
   ·omega
  have n2:i≠k:=by
   rintro rfl
   rw [List.getElem?_set] at e2
   split at e2
   ·split at e2 <;> cases e2
   ·omega
  rw [List.getElem?_set_ne n1] at e1 e3;rw [List.getElem?_set_ne n2] at e2;rw [List.getElem?_set_ne n2];exact R.sep j k ds es u hjk e1 e2 e3
theorem RepSt.setOwn {K:PySem.W.Frag} {G H H':Hp} {σ:St} {δ:DS} (R:RepSt K G H σ δ) (e:Same H H') (i:Nat) {ds:List D} {a:Addr} {xs:List V} (hn:H a=none) (h:H' a=some (.lst xs)) (r:Reps K H' ds xs) :
  RepSt K G H' (σ.set i (some (.ref a))) (δ.set i (some (.own ds))) where
 same:=R.same.trans e
 len:=by simpa using R.len
 at_:=fun j sv q=>by
  have R':=R.mono e
  by_cases hj:i=j
  ·subst hj;have hl:i < δ.length:=by
    rw [List.getElem?_set] at q
    by_cases z:i < δ.length
    ·exact z
    ·simp [z] at q
   rw [List.getElem?_set_self hl] at q
   cases q
   exact ⟨.ref a,by rw [List.getElem?_set_self (by rw [R.len]; exact hl)],a,xs,rfl,h,r,R.same.free hn⟩
  ·rw [List.getElem?_set_ne hj] at q;obtain ⟨u,e1,e2⟩:=R'.at_ j sv q;exact ⟨u,by rw [List.getElem?_set_ne hj]; exact e1,e2⟩
 sep:=fun j k ds' es u hjk e1 e2 e3=>by
  have old:∀(m:Nat) (fs:List D) (z:V),δ[m]? = some (some (.own fs))->σ[m]? = some (some z)->z≠.ref a:=fun m fs z q1 q2 q3=>by
   obtain ⟨v,w1,b,ys,w2,w3,_⟩:=R.at_ m _ q1;rw [q2] at w1
   cases w1
   rw [q3] at w2
   cases w2
   rw [hn] at w3
   cases w3
  by_cases hj:i=j
  ·subst hj;have nk:i≠k:=hjk;rw [List.getElem?_set_ne nk] at e2;rw [List.getElem?_set_ne nk];intro q;have ev:u=.ref a:=by
    rw [List.getElem?_set] at e3
    split at e3
    ·split at e3
     ·cases e3; rfl
     ·cases e3
    ·omega
   exact old k es u e2 q ev
  ·rw [List.getElem?_set_ne hj] at e1 e3
   by_cases hk:i=k
   ·subst hk;intro q;have ev:u=.ref a:=by
     rw [List.getElem?_set] at q
     split at q
     ·split at q
      ·cases q; rfl
      ·cases q
     ·omega
    exact old j ds' u e1 e3 ev
   ·rw [List.getElem?_set_ne hk] at e2;rw [List.getElem?_set_ne hk];exact R.sep j k ds' es u hjk e1 e2 e3
theorem obj_some {P:Program} {w:World} {H:Hp} {h:Heap} {a:Addr} {o:HO} (x:ObjOk P w H h a o):∃ob,h.get? a=some ob:=by
 cases o with
 | lst xs=>obtain ⟨_,_,_,_,e⟩:=x; exact ⟨_,e⟩
 | tup xs=>obtain ⟨_,_,_,o,e,_⟩:=x; exact ⟨o,e⟩
 | dK kvs=>obtain ⟨_,_,_,_,o,_,_,e,_⟩:=x; exact ⟨o,e⟩
 | dT kvs=>obtain ⟨_,_,_,_,o,_,_,e,_⟩:=x; exact ⟨o,e⟩
 | set S n=>obtain ⟨o,_,_,_,e,_⟩:=x; exact ⟨o,e⟩
 | ins C dx fs=>obtain ⟨_,_,_,e,_⟩:=x; exact ⟨_,e⟩
 | own y=>obtain ⟨o,e⟩:=x; exact ⟨o,e⟩
 | xd fs=>obtain ⟨_,⟨o,_,_,e,_⟩,_⟩:=x; exact ⟨o,e⟩
 | rng lo hi=>obtain ⟨_,_,_,e⟩:=x; exact ⟨_,e⟩
 | frz ob u=>obtain ⟨e,_⟩:=x; exact ⟨_,e⟩
 | tbl ps=>exact ⟨_,show h.get? a=some _ from x⟩
 | met f y=>exact ⟨_,show h.get? a=some _ from x⟩
 | ext φ=>obtain ⟨_,⟨o,e⟩,_⟩:=x; exact ⟨o,e⟩
noncomputable def NoRec (h:Heap) (e:Addr):Prop:=∀o vs,h.get? e=some o->o.data≠.fields vs
noncomputable def Back (H:Hp) (h h1:Heap):Prop:=∀e,H e=none->NoRec h1 e->NoRec h e
theorem Back.refl (H:Hp) (h:Heap):Back H h h:=fun _ _ q=>q
theorem Back.trans {H H1:Hp} {h h1 h2:Heap} (a:Back H h h1) (b:Back H1 h1 h2) (k:∀e,H e=none->NoRec h2 e->H1 e=none):Back H h h2:=fun e n q=>a e n (b e (k e n q) q)
noncomputable def Fly (h0:Heap) (H:Hp) (h:Heap) (e:Addr) (cls:Value×Option Addr):Prop :=
 NoRec h0 e/\H e=none/\∃oe vs a0,h.get? e=some oe/\(oe.cls=cls.1/\oe.dict=cls.2)/\oe.data=.fields vs/\vs[0]? = some a0 /\
  (vs[1]? = some .none\/∃T oT ts,vs[1]? = some (.ref T)/\NoRec h0 T/\H T=none/\T≠e/\h.get? T=some oT/\oT.data=.fields ts/\ts[3]? = some .none)
theorem Fly.back {h0 h1 h:Heap} {H0 H1 H:Hp} {e:Addr} {cls:Value×Option Addr} (f:Fly h1 H h e cls) (e1:TK H0 H1) (e2:TK H1 H) (b:Back H0 h0 h1):Fly h0 H h e cls:=by
 obtain ⟨n,he,oe,vs,a0,q1,q2,q3,q4,q5⟩:=f;refine ⟨b e (e1.trk e (e2.trk e he)) n,he,oe,vs,a0,q1,q2,q3,q4,?_⟩;rcases q5 with q5 | ⟨T,oT,ts,w1,w2,w3,w4⟩
 ·exact .inl q5
 ·exact .inr ⟨T,oT,ts,w1,b T (e1.trk T (e2.trk T w3)) w2,w3,w4⟩
noncomputable def Pay (K:PySem.W.Frag) (H:Hp) (x:Exn) (dd:Option Addr):Prop:=match x.pay with
 | none=>dd=none
 | some (f,d)=>∃dx u,dd=some dx/\H dx=some (.xd [(f,u)])/\Rep K H d u
noncomputable def FlyX (K:PySem.W.Frag) (x:Exn) (h0:Heap) (H:Hp) (h:Heap) (e C:Addr):Prop:=∃dd,Pay K H x dd/\Fly h0 H h e (.ref C,dd)
theorem FlyX.back {K:PySem.W.Frag} {x:Exn} {h0 h1 h:Heap} {H0 H1 H:Hp} {e C:Addr} (f:FlyX K x h1 H h e C) (e1:TK H0 H1) (e2:TK H1 H) (b:Back H0 h0 h1):FlyX K x h0 H h e C:=by
 obtain ⟨dd,p,f⟩:=f;exact ⟨dd,p,f.back e1 e2 b⟩
noncomputable def EPost (X:Cx) (pins:List (Addr×Obj)) (σ:St) (H:Hp) (r:Res D) (u:Value) (s1:Shared):Prop:=∃d v H1,r=.ok d/\Inv X pins σ H1 s1/\RelV v u/\Same H H1/\Rep X.K H1 d v
noncomputable def XPost {α:Type} (X:Cx) (pins:List (Addr×Obj)) (σ:St) (H:Hp) (h0:Heap) (r:Res α) (e:Value) (s1:Shared):Prop :=
 ∃x a C H1,r=.err x/\e=.ref a/\Inv X pins σ H1 s1/\Same H H1/\PySem.W.nsIn X.K mainGlobals x.cls=some (some (.ref C))/\FlyX X.K x h0 H1 s1.heap a C
theorem XPost.back {α β:Type} {X:Cx} {pins:List (Addr×Obj)} {σ:St} {H H1:Hp} {h h1:Heap} {r:Res α} {r':Res β} {e:Value} {s1:Shared} (p:XPost X pins σ H1 h1 r e s1) (e1:Same H H1) (b:Back H h h1) (hr:∀x,r=.err x->r'=.err x):XPost X pins σ H h r' e s1:=by
 obtain ⟨x,a,C,H2,q1,q2,q3,q4,q5,q6⟩:=p;exact ⟨x,a,C,H2,hr x q1,q2,q3,e1.trans q4,q5,q6.back e1.tk q4.tk b⟩
theorem XPost.same {α β:Type} {X:Cx} {pins:List (Addr×Obj)} {σ:St} {H:Hp} {h:Heap} {r:Res α} {r':Res β} {e:Value} {s1:Shared} (p:XPost X pins σ H h r e s1) (hr:∀x,r=.err x->r'=.err x):XPost X pins σ H h r' e s1:=p.back (Same.refl H) (Back.refl H h) hr
theorem XPost.none {α:Type} {X:Cx} {pins:List (Addr×Obj)} {σ:St} {H:Hp} {h0:Heap} {a:α} {e:Value} {s1:Shared} (p:XPost X pins σ H h0 (.ok a) e s1):False:=by
 obtain ⟨x,_,_,_,q,_⟩:=p; cases q
noncomputable def PD (X:Cx) (e:Expr) (f:DS->Res D):Prop :=
 ∀(pins:List (Addr×Obj)) (s:Shared) (σ:St) (G H:Hp) (δ:DS),Inv X pins σ H s->RepSt X.K G H σ δ->f δ≠.stuck ->
  wpAny (model X.prog X.w) X.A (eval e X.env) (EPost X pins σ H (f δ)) (XPost X pins σ H s.heap (f δ)) s
open Classical in
noncomputable def allP (X:Cx) (H:Hp) (h:Heap):List (Addr×Obj) :=
 (List.range h.objs.size).filterMap fun a=>(h.get? a).bind fun o=>if H a=none/\a≠X.env.locals/\a∉X.fs/\(∀v,o.data≠.cell v) then some (a,o) else none
theorem iQ' {X:Cx} {H:Hp} {h:Heap} {p:Addr×Obj} (hp:p∈allP X H h):h.get? p.1=some p.2/\H p.1=none/\p.1≠X.env.locals/\p.1∉X.fs/\∀v,p.2.data≠.cell v:=by
 obtain ⟨a,_,e⟩:=List.mem_filterMap.mp hp
 cases q:h.get? a with
 | none=>rw [q] at e; cases e
 | some o =>
  rw [q] at e;simp only [Option.bind_some] at e
  split at e
  ·rename_i c
   cases e
   exact ⟨q,c⟩
  ·cases e
theorem hu' {X:Cx} {H:Hp} {h:Heap} {a:Addr} {o:Obj} (e:h.get? a=some o) (c:H a=none/\a≠X.env.locals/\a∉X.fs/\∀v,o.data≠.cell v):(a,o)∈allP X H h:=by
 refine List.mem_filterMap.mpr ⟨a,List.mem_range.mpr (Heap.lt_size e),?_⟩;rw [e];simp only [Option.bind_some];rw [if_pos c]
section
variable {X:Cx} {pins:List (Addr×Obj)} {s:Shared} {σ:St} {G H:Hp} {δ:DS}
theorem _root_.L2.Inv.all (I:Inv X pins σ H s):Inv X (pins ++ allP X H s.heap) σ H s :=
 I.pins_of fun p hp=>(List.mem_append.mp hp).elim (fun z=>I.pin p (List.mem_append_right _ z)) iQ'
theorem _root_.L2.Inv.locals_dict (I:Inv X pins σ H s) {o:Obj} {vs:Array Value} (e:s.heap.get? X.env.locals=some o):o.data≠.fields vs:=by
 obtain ⟨m,⟨o',es,ep,ho,hd,_⟩,_⟩:=I.loc;rw [e] at ho; cases ho;rw [hd]; intro z; cases z
theorem _root_.L2.Inv.fs_rec (I:Inv X pins σ H s) {b:Addr} (hb:b∈X.fs) {o:Obj} {vs:Array Value} (e:s.heap.get? b=some o):o.data≠.fields vs:=by
 obtain ⟨_,o',ho,hd⟩:=I.funs.mem hb;rw [e] at ho; cases ho;exact hd vs
theorem _root_.L2.Inv.backTo {σ1:St} {H1:Hp} {s1:Shared} (I:Inv X pins σ H s) (J:Inv X (pins ++ allP X H s.heap) σ1 H1 s1):Back H s.heap s1.heap:=by
 intro e n q o vs ho hd;have hm:(e,o)∈allP X H s.heap:=hu' ho ⟨n,fun z=>by subst z; exact I.locals_dict ho hd,fun z=>I.fs_rec z ho hd,fun v z=>by rw [hd] at z; cases z⟩;exact q o vs (J.pin (e,o) (List.mem_append_right _ (List.mem_append_right _ hm))).1 hd
theorem PD.use {e:Expr} {f:DS->Res D} (h:PD X e f) (I:Inv X pins σ H s) (R:RepSt X.K G H σ δ) (hs:f δ≠.stuck) {P E:Value->Shared->Prop}
  (k:∀d u s1 v H1,f δ=.ok d->Inv X pins σ H1 s1->RelV v u->Same H H1->Back H s.heap s1.heap->Rep X.K H1 d v->P u s1)
  (kx:∀e s1,XPost X pins σ H s.heap (f δ) e s1->E e s1):wpAny (model X.prog X.w) X.A (eval e X.env) P E s:=by
 refine wpAny_mono (h (pins ++ allP X H s.heap) s σ G H δ I.all R hs) (fun u s1 ⟨d,v,H1,q1,q2,q3,q4,q5⟩=>k d u s1 v H1 q1 q2.unpinned q3 q4 (I.backTo q2) q5) fun e s1 ⟨x,a,C,H1,q1,q2,q3,q4,q5,q6⟩=>kx e s1 ⟨x,a,C,H1,q1,q2,q3.unpinned,q4,q5,q6⟩
end
section
variable {X:Cx} {e:Expr} {pos:Pos}
theorem dh' {d:D} {v:V} (h:∀E,PE (X.wish E) e (tC v)) (hr:∀H,Rep X.K H d v):PD X e (fun _=>.ok d):=by
 intro pins s σ G H δ I R _;refine wpAny_mono (h (fun _ _=>False) pins s σ H (fun v' H'=>v'=v/\H'=H) (I.wish _) ⟨rfl,rfl⟩) (fun u s1 q=>?_) fun _ _ z=>z.elim;obtain ⟨v',H',I',r',e1,e2⟩:=q;subst e1 e2;exact ⟨d,v',H',rfl,I'.unwish,r',Same.refl _,hr _⟩
theorem ad' {i:Int} {j}:PD X (.Constant (.int i) j pos) (fun _=>.ok (.int i)):=dh' (fun _=>jR') (fun _=>by rw [Rep])
theorem dH' {k:Bool} {j}:PD X (.Constant (.bool k) j pos) (fun _=>.ok (.bl k)):=dh' (fun _=>kU') (fun _=>by rw [Rep])
theorem ke' {j}:PD X (.Constant .none j pos) (fun _=>.ok .non):=dh' (fun _=>jS') (fun _=>by rw [Rep])
theorem ii' {x:Str} {j}:PD X (.Constant (.str x) j pos) (fun _=>.ok (.str x)):=dh' (fun _=>ih') (fun _=>by rw [Rep])
noncomputable def slotD (i:Nat):DS->Res D:=fun δ=>match δ[i]? with | some (some sv)=>.ok sv.view | _=>.stuck
theorem ab' (i:Nat) {x:Str} (hN:X.N[i]? = some x:=by rfl) (hv:Vis X.env.scope x:=by first | exact Or.inl rfl | exact Or.inr (Or.inl rfl) | exact Or.inr (Or.inr rfl)) (hd:(x == ("__debug__" : Str))=false:=by decide)
  (hcd:(x == ("__classdict__" : Str))=false:=by decide):PD X (.Name x pos) (slotD i):=by
 intro pins s σ G H δ I R hs
 try dsimp only at hs ⊢
 unfold slotD at hs ⊢
 split at hs
 ·rename_i sv e;obtain ⟨v,e1,e2⟩:=R.view e;refine wpAny_mono (fP' (X:=X.wish fun _ _=>False) hN hv hd hcd pins s σ H (fun v' H'=>v'=v/\H'=H) (I.wish _) ⟨v,e1,rfl,rfl⟩) (fun u s1 q=>?_) fun _ _ z=>z.elim;obtain ⟨v',H',I',r',e3,e4⟩:=q;subst e3 e4;exact ⟨_,v',H',rfl,I'.unwish,r',Same.refl _,e2⟩
 ·exact (hs rfl).elim
end
noncomputable def OpD (X:Cx) (f:Value->Value->Sem Value) (g:D->D->Res D):Prop :=
 ∀(E:Value->Shared->Prop) (pins:List (Addr×Obj)) (s:Shared) (σ:St) (H:Hp) (x y:V) (v u:Value) (a b d:D),Inv X pins σ H s->RelV x v->RelV y u->Rep X.K H a x->Rep X.K H b y->g a b=.ok d ->
  wpAny (model X.prog X.w) X.A (f v u) (EPost X pins σ H (.ok d)) E s
noncomputable def NoErr {α:Type} (r:Res α):Prop:=∀x,r≠.err x
noncomputable def two (fa fb:DS->Res D) (g:D->D->Res D):DS->Res D:=fun δ=>(fa δ).bind fun x=>(fb δ).bind fun y=>g x y
theorem kX' {fa fb:DS->Res D} {g:D->D->Res D} {δ:DS} (h:two fa fb g δ≠.stuck):fa δ≠.stuck:=fun q=>h (by unfold two; rw [q]; rfl)
theorem kY' {fa fb:DS->Res D} {g:D->D->Res D} {δ:DS} {x:D} (h:two fa fb g δ≠.stuck) (q1:fa δ=.ok x):fb δ≠.stuck:=fun q=>h (by unfold two; rw [q1,Res.bind_ok,q]; rfl)
theorem kZ' {fa fb:DS->Res D} {g:D->D->Res D} {δ:DS} {x y:D} (q1:fa δ=.ok x) (q2:fb δ=.ok y):two fa fb g δ=g x y:=by unfold two; rw [q1,Res.bind_ok,q2,Res.bind_ok]
theorem la' {fa fb:DS->Res D} {g:D->D->Res D} {δ:DS} {x:Exn} (q1:fa δ=.err x):two fa fb g δ=.err x:=by unfold two; rw [q1]; rfl
theorem lb' {fa fb:DS->Res D} {g:D->D->Res D} {δ:DS} {x:D} {y:Exn} (q1:fa δ=.ok x) (q2:fb δ=.err y):two fa fb g δ=.err y:=by unfold two; rw [q1,Res.bind_ok,q2]; rfl
section
variable {X:Cx} {a b:Expr} {fa fb:DS->Res D} {pos:Pos}
theorem en' {g:D->D->Res D} {pins:List (Addr×Obj)} {s:Shared} {σ:St} {G H:Hp} {δ:DS} (ha:PD X a fa) (hb:PD X b fb) (I:Inv X pins σ H s) (R:RepSt X.K G H σ δ) (hs:two fa fb g δ≠.stuck) {P:Value->Value->Shared->Prop} {E:Value->Shared->Prop}
  (k:∀x y v u s2 vx vy H2,two fa fb g δ=g x y->Inv X pins σ H2 s2->RelV vx v->RelV vy u->Same H H2->Rep X.K H2 x vx->Rep X.K H2 y vy->P v u s2)
  (kx:∀e s1,XPost X pins σ H s.heap (two fa fb g δ) e s1->E e s1) :
  wpAny (model X.prog X.w) X.A (eval a X.env) (fun v s1=>wpAny (model X.prog X.w) X.A (eval b X.env) (fun u s2=>P v u s2) E s1) E s:=by
 refine ha.use I R (kX' hs) (fun x u s1 v H1 qa I1 r1 e1 b1 p1=>?_) fun e s1 q=>kx e s1 (q.same fun x z=>la' z);refine hb.use I1 (R.mono e1) (kY' hs qa) (fun y u2 s2 v2 H2 qb I2 r2 e2 b2 p2=>?_) fun e s2 q=>kx e s2 (q.back e1 b1 fun x z=>lb' qa z);exact k x y u u2 s2 v v2 H2 (kZ' qa qb) I2 r1 r2 (e1.trans e2) (p1.mono e2) p2
theorem EPost.from {X:Cx} {pins:List (Addr×Obj)} {σ:St} {H H1:Hp} {r r':Res D} {u:Value} {s1:Shared} (p:EPost X pins σ H1 r u s1) (e:Same H H1) (q:r=r'):EPost X pins σ H r' u s1:=by
 obtain ⟨d,v,H2,q1,q2,q3,q4,q5⟩:=p;exact ⟨d,v,H2,q ▸ q1,q2,q3,e.trans q4,q5⟩
theorem ga' {g:D->D->Res D} {pins:List (Addr×Obj)} {s:Shared} {σ:St} {G H:Hp} {δ:DS} {f:Value->Value->Sem Value} (ho:OpD X f g) (hg:∀x y,NoErr (g x y)) (ha:PD X a fa) (hb:PD X b fb) (I:Inv X pins σ H s) (R:RepSt X.K G H σ δ) (hs:two fa fb g δ≠.stuck) {E:Value->Shared->Prop}
  (kx:∀e s1,XPost X pins σ H s.heap (two fa fb g δ) e s1->E e s1) :
  wpAny (model X.prog X.w) X.A (eval a X.env) (fun v s1=>wpAny (model X.prog X.w) X.A (eval b X.env) (fun u s2=>wpAny (model X.prog X.w) X.A (f v u) (EPost X pins σ H (two fa fb g δ)) E s2) E s1) E s:=by
 refine en' ha hb I R hs (fun x y v u s2 vx vy H2 q I2 r1 r2 e2 p1 p2=>?_) kx
 cases qg:g x y with
 | stuck=>exact (hs (q.trans qg)).elim
 | err z=>exact (hg x y z qg).elim
 | ok d=>exact thn (ho E pins s2 σ H2 vx vy v u x y d I2 r1 r2 p1 p2 qg) fun w s3 p=>p.from e2 (qg.symm.trans q.symm)
theorem am' {op:Operator} {g:D->D->Res D} (ho:OpD X (binaryOp op) g) (hg:∀x y,NoErr (g x y)) (ha:PD X a fa) (hb:PD X b fb):PD X (.BinOp a op b pos) (two fa fb g) :=
 fun pins s σ G H δ I R hs=>wpAny_BinOp (ga' ho hg ha hb I R hs fun _ _ q=>q)
theorem dI' {op:CmpOp} {g:D->D->Res D} (ho:OpD X (compareOp op) g) (hg:∀x y,NoErr (g x y)) (ha:PD X a fa) (hb:PD X b fb) (hm:behindInMarks op b=false):PD X (.Compare a [op] [b] pos) (two fa fb g) :=
 fun pins s σ G H δ I R hs=>wpAny_Compare1 (ga' ho hg ha hb I R hs fun _ _ q=>q) hm
theorem OpD.of {f:Value->Value->Sem Value} {r:R2} {g:D->D->Res D} (ho:∀E,OpR (X.wish E) f r)
  (h:∀(H:Hp) (x y:V) (a b d:D) (Q:VK),Rep X.K H a x->Rep X.K H b y->g a b=.ok d->(∀z H',Same H H'->Rep X.K H' d z->Q z H')->r x y H Q):OpD X f g :=
 fun E pins s σ H x y v u a b d I r1 r2 p1 p2 e=>thn (ho E pins s σ H x y v u (fun z H'=>Same H H'/\Rep X.K H' d z) (I.wish _) r1 r2 (h H x y a b d _ p1 p2 e fun z H' a b=>⟨a,b⟩)) fun w s1 ⟨z,H1,I1,r3,e1,p3⟩=>⟨d,z,H1,rfl,I1.unwish,r3,e1,p3⟩
end
noncomputable def TPost (X:Cx) (pins:List (Addr×Obj)) (σ:St) (H:Hp) (r:Res Bool) (u:Bool) (s1:Shared):Prop:=∃H1,r=.ok u/\Inv X pins σ H1 s1/\Same H H1
noncomputable def PTD (X:Cx) (e:Expr) (f:DS->Res Bool):Prop :=
 ∀(pins:List (Addr×Obj)) (s:Shared) (σ:St) (G H:Hp) (δ:DS),Inv X pins σ H s->RepSt X.K G H σ δ->f δ≠.stuck ->
  wpAny (model X.prog X.w) X.A (isTrue e X.env (eval e X.env)) (TPost X pins σ H (f δ)) (XPost X pins σ H s.heap (f δ)) s
noncomputable def PWD (X:Cx) (e:Expr) (f:DS->Res Bool):Prop :=
 ∀(wh:Sem Value) (pins:List (Addr×Obj)) (s:Shared) (σ:St) (G H:Hp) (δ:DS),Inv X pins σ H s->RepSt X.K G H σ δ->f δ≠.stuck ->
  wpAny (model X.prog X.w) X.A (isTrue e X.env wh) (TPost X pins σ H (f δ)) (XPost X pins σ H s.heap (f δ)) s
theorem PWD.pt {X:Cx} {e:Expr} {f:DS->Res Bool} (h:PWD X e f):PTD X e f:=h _
section
variable {X:Cx} {pins:List (Addr×Obj)} {s:Shared} {σ:St} {G H:Hp} {δ:DS}
theorem iR' {t:Sem Bool} {f:DS->Res Bool} (h:∀pins,Inv X pins σ H s->wpAny (model X.prog X.w) X.A t (TPost X pins σ H (f δ)) (XPost X pins σ H s.heap (f δ)) s) (I:Inv X pins σ H s) {P:Bool->Shared->Prop} {E:Value->Shared->Prop}
  (k:∀d s1 H1,f δ=.ok d->Inv X pins σ H1 s1->Same H H1->Back H s.heap s1.heap->P d s1) (kx:∀e s1,XPost X pins σ H s.heap (f δ) e s1->E e s1):wpAny (model X.prog X.w) X.A t P E s:=by
 refine wpAny_mono (h (pins ++ allP X H s.heap) I.all) (fun d s1 ⟨H1,q1,q2,q3⟩=>k d s1 H1 q1 q2.unpinned q3 (I.backTo q2)) fun e s1 ⟨x,a,C,H1,q1,q2,q3,q4,q5,q6⟩=>kx e s1 ⟨x,a,C,H1,q1,q2,q3.unpinned,q4,q5,q6⟩
theorem PTD.use {e:Expr} {f:DS->Res Bool} (h:PTD X e f) (I:Inv X pins σ H s) (R:RepSt X.K G H σ δ) (hs:f δ≠.stuck) {P:Bool->Shared->Prop} {E:Value->Shared->Prop}
  (k:∀d s1 H1,f δ=.ok d->Inv X pins σ H1 s1->Same H H1->Back H s.heap s1.heap->P d s1) (kx:∀e s1,XPost X pins σ H s.heap (f δ) e s1->E e s1):wpAny (model X.prog X.w) X.A (isTrue e X.env (eval e X.env)) P E s :=
 iR' (f:=f) (δ:=δ) (fun pins I=>h pins s σ G H δ I R hs) I k kx
theorem PWD.use {e:Expr} {f:DS->Res Bool} (h:PWD X e f) (wh:Sem Value) (I:Inv X pins σ H s) (R:RepSt X.K G H σ δ) (hs:f δ≠.stuck) {P:Bool->Shared->Prop} {E:Value->Shared->Prop}
  (k:∀d s1 H1,f δ=.ok d->Inv X pins σ H1 s1->Same H H1->Back H s.heap s1.heap->P d s1) (kx:∀e s1,XPost X pins σ H s.heap (f δ) e s1->E e s1):wpAny (model X.prog X.w) X.A (isTrue e X.env wh) P E s :=
 iR' (f:=f) (δ:=δ) (fun pins I=>h wh pins s σ G H δ I R hs) I k kx
end
noncomputable def truthD:D->Res Bool
 | .non=>.ok false
 | .bl b=>.ok b
 | .int i=>.ok (i != 0)
 | .str x=>if x.length<=sizeLine then .ok ((x.length:Int) != 0) else .stuck
 | .tup ds=>.ok (!ds.isEmpty)
 | .lst ds=>.ok (!ds.isEmpty)
 | _=>.stuck
noncomputable def boolD:D->Res Bool
 | .bl b=>.ok b
 | _=>.stuck
theorem di' {d:D} (h:boolD d≠.stuck):∃b,d=.bl b:=by
 cases d with
 | bl b=>exact ⟨b,rfl⟩
 | _=>exact (h rfl).elim
theorem aA' {α β:Type} {r:Res α} {f:α->Res β} (h:r.bind f≠.stuck):r≠.stuck:=fun q=>h (by rw [q]; rfl)
theorem aP' {α β:Type} {r:Res α} {f:α->Res β} {a:α} (h:r.bind f≠.stuck) (e:r=.ok a):f a≠.stuck:=fun q=>h (by rw [e,Res.bind_ok,q])
theorem aL' {α β:Type} {r:Res α} {f:α->Res β} {x:Exn} (e:r=.err x):r.bind f=.err x:=by rw [e]; rfl
section
variable {X:Cx} {a b:Expr} {rest:List Expr} {fa:DS->Res D} {ta tb:DS->Res Bool} {pos:Pos}
theorem at' {op:CmpOp} {fb:DS->Res D} {g:D->D->Res D} (ho:OpD X (compareOp op) g) (hg:∀x y,NoErr (g x y)) (ha:PD X a fa) (hb:PD X b fb) (hm:behindInMarks op b=false):PTD X (.Compare a [op] [b] pos) (fun δ=>(two fa fb g δ).bind boolD):=by
 intro pins s σ G H δ I R hs
 try dsimp only at hs ⊢
 refine wpAny_isTrue_Compare1 (thn (ga' ho hg ha hb I R (aA' hs) (fun _ _ q=>q.same fun x z=>aL' z)) fun v s1 h1=>thn h1 fun u s2 h2=>thn h2 fun c s3 ⟨d,x,H1,q1,I1,r1,e1,p1⟩=>?_) hm;obtain ⟨k,rfl⟩:=di' (aP' hs q1);rw [Rep] at p1;subst p1
 cases r1
 exact wpAny_truthy_bool ⟨H1,by rw [q1]; rfl,I1,e1⟩
theorem aN' (ha:PD X a fa) (he:∀whole,isTrue a X.env whole=(do let v <- whole; standAt a.pos; holding [v] (truthy v)):=by intro _; rfl):PTD X a (fun δ=>(fa δ).bind truthD):=by
 intro pins s σ G H δ I R hs
 try dsimp only at hs ⊢
 refine isTrue_plain (ha.use I R (aA' hs) (fun d u s1 v H1 q I1 r1 e1 b1 p1=>?_) fun e s1 q=>q.same fun x z=>aL' z) (he _);have hd:=aP' hs q;refine wpAny_mono (jZ' (X:=X.wish fun _ _=>False) pins s1 σ H1 v u (fun k H2=>truthD d=.ok k/\H2=H1) (I1.wish _) r1 ?_) (fun k s2 ⟨H2,I2,q2,e2⟩=>⟨H2,by rw [q,Res.bind_ok]; exact q2,I2.unwish,by rw [e2]; exact e1⟩) fun _ _ z=>z.elim
 cases d with
 | non=>rw [Rep] at p1; subst p1; exact ⟨false,rfl,rfl,rfl⟩
 | bl b=>rw [Rep] at p1; subst p1; exact ⟨b,rfl,rfl,rfl⟩
 | int i=>rw [Rep] at p1; subst p1; exact ⟨_,rfl,rfl,rfl⟩
 | str x =>
  rw [Rep] at p1; subst p1
  by_cases hz:x.length<=sizeLine
  ·exact ⟨_,⟨hz,rfl⟩,by simp only [truthD,if_pos hz],rfl⟩
  ·simp only [truthD,if_neg hz] at hd; exact (hd rfl).elim
 | tup ds =>
  rw [Rep] at p1;obtain ⟨b,xs,rfl,w1,w2⟩:=p1;exact ⟨!ds.isEmpty,.inr (.inl ⟨xs,w1,by rw [w2.isEmpty]⟩),rfl,rfl⟩
 | lst ds =>
  rw [Rep] at p1;obtain ⟨b,xs,rfl,w1,w2⟩:=p1;exact ⟨!ds.isEmpty,.inl ⟨xs,w1,by rw [w2.isEmpty]⟩,rfl,rfl⟩
 | exc c=>exact (hd rfl).elim
 | excf c f d=>exact (hd rfl).elim
 | dct=>exact (hd rfl).elim
theorem bB' (ha:PTD X a ta):PTD X (.UnaryOp .Not a pos) (fun δ=>(ta δ).bind fun c=>.ok (!c)):=by
 intro pins s σ G H δ I R hs
 try dsimp only at hs ⊢
 exact isTrue_not (ha.use I R (aA' hs) (fun d s1 H1 q I1 e1 b1=>⟨H1,by rw [q]; rfl,I1,e1⟩) fun e s1 q=>q.same fun x z=>aL' z)
noncomputable def andT (ta tb:DS->Res Bool):DS->Res Bool:=fun δ=>(ta δ).bind fun c=>if c=true then tb δ else .ok false
noncomputable def orT (ta tb:DS->Res Bool):DS->Res Bool:=fun δ=>(ta δ).bind fun c=>if c=true then .ok true else tb δ
theorem eM' (ha:PTD X a ta):PWD X (.BoolOp .And [a] pos) ta:=by
 intro wh pins s σ G H δ I R hs
 try dsimp only at hs ⊢
 refine isTrue_and (ha.use I R hs (fun c s1 H1 q I1 e1 b1=>?_) fun e s1 q=>q)
 cases c with
 | true=>exact isTrue_and_nil ⟨H1,q,I1,e1⟩
 | false=>exact ⟨H1,q,I1,e1⟩
theorem cc' (ha:PTD X a ta):PWD X (.BoolOp .Or [a] pos) ta:=by
 intro wh pins s σ G H δ I R hs
 try dsimp only at hs ⊢
 refine isTrue_or (ha.use I R hs (fun c s1 H1 q I1 e1 b1=>?_) fun e s1 q=>q)
 cases c with
 | false=>exact isTrue_or_nil ⟨H1,q,I1,e1⟩
 | true=>exact ⟨H1,q,I1,e1⟩
theorem gb' (ha:PTD X a ta) (hb:PWD X (.BoolOp .And (b :: rest) pos) tb):PWD X (.BoolOp .And (a :: b :: rest) pos) (andT ta tb):=by
 intro wh pins s σ G H δ I R hs
 try dsimp only at hs ⊢
 have hs':(ta δ).bind (fun c=>if c=true then tb δ else .ok false)≠.stuck:=hs
 refine isTrue_and (ha.use I R (aA' hs') (fun c s1 H1 q I1 e1 b1=>?_) fun e s1 q=>q.same fun x z=>aL' z);have hc:=aP' hs' q;have ev:andT ta tb δ=if c=true then tb δ else .ok false:=by unfold andT; rw [q]; rfl
 cases c with
 | false=>exact ⟨H1,ev,I1,e1⟩
 | true =>
  rw [if_pos rfl] at ev hc;exact hb.use wh I1 (R.mono e1) hc (fun d s2 H2 q2 I2 e2 b2=>⟨H2,ev.trans q2,I2,e1.trans e2⟩) fun e s2 q2=>q2.back e1 b1 fun x z=>ev.trans z
theorem bP' (ha:PTD X a ta) (hb:PWD X (.BoolOp .Or (b :: rest) pos) tb):PWD X (.BoolOp .Or (a :: b :: rest) pos) (orT ta tb):=by
 intro wh pins s σ G H δ I R hs
 try dsimp only at hs ⊢
 have hs':(ta δ).bind (fun c=>if c=true then .ok true else tb δ)≠.stuck:=hs
 refine isTrue_or (ha.use I R (aA' hs') (fun c s1 H1 q I1 e1 b1=>?_) fun e s1 q=>q.same fun x z=>aL' z);have hc:=aP' hs' q;have ev:orT ta tb δ=if c=true then .ok true else tb δ:=by unfold orT; rw [q]; rfl
 cases c with
 | true=>exact ⟨H1,ev,I1,e1⟩
 | false =>
  rw [if_neg Bool.false_ne_true] at ev hc;exact hb.use wh I1 (R.mono e1) hc (fun d s2 H2 q2 I2 e2 b2=>⟨H2,ev.trans q2,I2,e1.trans e2⟩) fun e s2 q2=>q2.back e1 b1 fun x z=>ev.trans z
noncomputable def andV (fa fb:DS->Res D):DS->Res D:=fun δ=>(fa δ).bind fun x=>(boolD x).bind fun c=>if c=true then fb δ else .ok (.bl false)
noncomputable def notV (fa:DS->Res D):DS->Res D:=fun δ=>(fa δ).bind fun x=>(boolD x).bind fun c=>.ok (.bl (!c))
theorem ij' {op} (h:PD X a fa):PD X (.BoolOp op [a] pos) fa:=fun pins s σ G H δ I R hs=>BoolOp_one (h pins s σ G H δ I R hs)
theorem ik' {fb:DS->Res D} (ha:PD X a fa) (hb:PD X (.BoolOp .And (b :: rest) pos) fb):PD X (.BoolOp .And (a :: b :: rest) pos) (andV fa fb):=by
 intro pins s σ G H δ I R hs
 try dsimp only at hs ⊢
 have hs':(fa δ).bind (fun x=>(boolD x).bind fun c=>if c=true then fb δ else .ok (.bl false))≠.stuck:=hs
 refine BoolOp_and (ha.use I R (aA' hs') (fun d u s1 v H1 q I1 r1 e1 b1 p1=>?_) fun e s1 q=>q.same fun x z=>aL' z);have h2:=aP' hs' q;obtain ⟨k,rfl⟩:=di' (aA' h2);rw [Rep] at p1;subst p1
 cases r1
 have ev:andV fa fb δ=if k=true then fb δ else .ok (.bl false):=by unfold andV; rw [q]; rfl
 refine wpAny_truthy_bool ?_
 cases k with
 | false=>exact ⟨_,.bl false,H1,ev,I1,rfl,e1,by rw [Rep]⟩
 | true =>
  rw [if_pos rfl] at ev;exact hb.use I1 (R.mono e1) (fun z=>hs (ev.trans z)) (fun d2 u2 s2 v2 H2 q2 I2 r2 e2 b2 p2=>⟨d2,v2,H2,ev.trans q2,I2,r2,e1.trans e2,p2⟩) fun e s2 q2=>q2.back e1 b1 fun x z=>ev.trans z
theorem kf' (ha:PD X a fa):PD X (.UnaryOp .Not a pos) (notV fa):=by
 intro pins s σ G H δ I R hs
 try dsimp only at hs ⊢
 have hs':(fa δ).bind (fun x=>(boolD x).bind fun c=>Res.ok (D.bl (!c)))≠.stuck:=hs;refine UnaryOp_ (ha.use I R (aA' hs') (fun d u s1 v H1 q I1 r1 e1 b1 p1=>?_) fun e s1 q=>q.same fun x z=>aL' z);have h2:=aP' hs' q;obtain ⟨k,rfl⟩:=di' (aA' h2);rw [Rep] at p1;subst p1
 cases r1
 exact not_of (wpAny_truthy_bool ⟨_,.bl (!k),H1,by unfold notV; rw [q]; rfl,I1,rfl,e1,by rw [Rep]⟩)
theorem lc' {op:UnaryOp} {g:D->Res D} (ho:∀(E:Value->Shared->Prop) (pins:List (Addr×Obj)) (s:Shared) (σ:St) (H:Hp) (x:V) (v:Value) (d r:D),Inv X pins σ H s->RelV x v->Rep X.K H d x->g d=.ok r->wpAny (model X.prog X.w) X.A (unaryOp op v) (EPost X pins σ H (.ok r)) E s)
  (hg:∀x,NoErr (g x)) (ha:PD X a fa):PD X (.UnaryOp op a pos) (fun δ=>(fa δ).bind g):=by
 intro pins s σ G H δ I R hs
 try dsimp only at hs ⊢
 refine UnaryOp_ (ha.use I R (aA' hs) (fun d u s1 v H1 q I1 r1 e1 b1 p1=>?_) fun e s1 q=>q.same fun x z=>aL' z);have h2:=aP' hs q
 cases qg:g d with
 | stuck=>exact (h2 qg).elim
 | err z=>exact (hg d z qg).elim
 | ok r=>exact thn (ho _ pins s1 σ H1 v u d r I1 r1 p1 qg) fun w s2 p=>p.from e1 (by rw [q,Res.bind_ok,qg])
end
end DL
namespace DL
open PySem PySem.Spec PyProof.Rows L2
noncomputable def intBits' (i:Int):Nat:=Builtin.Int.intBits i
noncomputable def addD:D->D->Res D
 | .int i,.int j=>.ok (.int (i + j))
 | .str x,.str y=>if x.length + y.length<=sizeLine then .ok (.str (x ++ y)) else .stuck
 | .tup xs,.tup ys=>if xs.length + ys.length<=sizeLine then .ok (.tup (xs ++ ys)) else .stuck
 | .lst xs,.lst ys=>if xs.length + ys.length<=sizeLine then .ok (.lst (xs ++ ys)) else .stuck
 | _,_=>.stuck
noncomputable def subD:D->D->Res D
 | .int i,.int j=>.ok (.int (i - j))
 | _,_=>.stuck
noncomputable def mulD:D->D->Res D
 | .int i,.int j=>if (intBits' i<=2 ^ 20/\intBits' j<=2 ^ 20)\/intBits' i<=64\/intBits' j<=64 then .ok (.int (i * j)) else .stuck
 | _,_=>.stuck
noncomputable def fdivD:D->D->Res D
 | .int i,.int j=>if j≠0/\Builtin.divisionGoesByPylong i j=false then .ok (.int (Int.fdiv i j)) else .stuck
 | _,_=>.stuck
noncomputable def modD:D->D->Res D
 | .int i,.int j=>if j≠0 then .ok (.int (Int.fmod i j)) else .stuck
 | _,_=>.stuck
noncomputable def powD:D->D->Res D
 | .int i,.int j=>if 0<=j/\j<=1000000/\i.natAbs < 2 ^ 64 then .ok (.int (i ^ j.toNat)) else .stuck
 | _,_=>.stuck
noncomputable def shlD:D->D->Res D
 | .int i,.int j=>if 0<=j/\j<=1000000/\i.natAbs < 2 ^ 64 then .ok (.int (i * 2 ^ j.toNat)) else .stuck
 | _,_=>.stuck
noncomputable def cmpD (p:Int->Int->Bool):D->D->Res D
 | .int i,.int j=>.ok (.bl (p i j))
 | _,_=>.stuck
theorem ay' {α:Type} {c:Prop} [Decidable c] {r r':Res α} (h:NoErr r) (h':NoErr r'):NoErr (if c then r else r'):=by
 intro x; by_cases hc:c
 ·rw [if_pos hc]; exact h x
 ·rw [if_neg hc]; exact h' x
theorem ak' {α:Type} {a:α}:NoErr (Res.ok a):=fun _ h=>nomatch h
theorem af' {α:Type}:NoErr (Res.stuck:Res α):=fun _ h=>nomatch h
theorem aG' (x y:D):NoErr (addD x y):=by cases x <;> cases y <;> first | exact af' | exact ak' | exact ay' ak' af'
theorem eN' (x y:D):NoErr (subD x y):=by cases x <;> cases y <;> first | exact af' | exact ak' | exact ay' ak' af'
theorem kg' (x y:D):NoErr (mulD x y):=by cases x <;> cases y <;> first | exact af' | exact ak' | exact ay' ak' af'
theorem bn' (x y:D):NoErr (fdivD x y):=by cases x <;> cases y <;> first | exact af' | exact ak' | exact ay' ak' af'
theorem bt' (x y:D):NoErr (modD x y):=by cases x <;> cases y <;> first | exact af' | exact ak' | exact ay' ak' af'
theorem il' (x y:D):NoErr (powD x y):=by cases x <;> cases y <;> first | exact af' | exact ak' | exact ay' ak' af'
theorem kh' (x y:D):NoErr (shlD x y):=by cases x <;> cases y <;> first | exact af' | exact ak' | exact ay' ak' af'
theorem cU' (p:Int->Int->Bool) (x y:D):NoErr (cmpD p x y):=by cases x <;> cases y <;> first | exact af' | exact ak' | exact ay' ak' af'
section
variable {X:Cx} {a b:Expr} {fa fb:DS->Res D} {pos:Pos}
theorem repI {K:PySem.W.Frag} {H:Hp} {i:Int} {v:V} (h:Rep K H (.int i) v):v=.int i:=by rw [Rep] at h; exact h
theorem repS {K:PySem.W.Frag} {H:Hp} {i:Str} {v:V} (h:Rep K H (.str i) v):v=.str i:=by rw [Rep] at h; exact h
theorem repB {K:PySem.W.Frag} {H:Hp} {i:Bool} {v:V} (h:Rep K H (.bl i) v):v=.bl i:=by rw [Rep] at h; exact h
theorem repT {K:PySem.W.Frag} {H:Hp} {ds:List D} {v:V} (h:Rep K H (.tup ds) v):∃a xs,v=.ref a/\SqT K H a xs/\Reps K H ds xs:=by rw [Rep] at h; exact h
theorem repL {K:PySem.W.Frag} {H:Hp} {ds:List D} {v:V} (h:Rep K H (.lst ds) v):∃a xs,v=.ref a/\SqL K H a xs/\Reps K H ds xs:=by rw [Rep] at h; exact h
theorem mkI {K:PySem.W.Frag} {H:Hp} {i:Int}:Rep K H (.int i) (.int i):=by rw [Rep]
theorem mkS {K:PySem.W.Frag} {H:Hp} {i:Str}:Rep K H (.str i) (.str i):=by rw [Rep]
theorem mkB {K:PySem.W.Frag} {H:Hp} {i:Bool}:Rep K H (.bl i) (.bl i):=by rw [Rep]
theorem mkN {K:PySem.W.Frag} {H:Hp}:Rep K H .non .non:=by rw [Rep]
theorem mkT {K:PySem.W.Frag} {H:Hp} {a:Addr} {xs:List V} {ds:List D} (h:SqT K H a xs) (r:Reps K H ds xs):Rep K H (.tup ds) (.ref a):=by rw [Rep]; exact ⟨a,xs,rfl,h,r⟩
theorem mkL {K:PySem.W.Frag} {H:Hp} {a:Addr} {xs:List V} {ds:List D} (h:SqL K H a xs) (r:Reps K H ds xs):Rep K H (.lst ds) (.ref a):=by rw [Rep]; exact ⟨a,xs,rfl,h,r⟩
theorem au' {H:Hp} {p:Addr} (h:H p=none) (o:HO):Same H (upd H p o):=fun b u q=>by rw [al' (az' q h)]; exact q
theorem iS' {f:Value->Value->Sem Value} {C:Int->Int->Prop} [∀i j,Decidable (C i j)] {h:Int->Int->D} {k:Int->Int->V} {g:D->D->Res D} (ho:∀E,OpR (X.wish E) f (rI C k)) (hk:∀H i j,Rep X.K H (h i j) (k i j))
  (hg:∀x y d,g x y=.ok d->∃i j,x=.int i/\y=.int j/\C i j/\d=h i j):OpD X f g :=
 .of ho fun H x y a b d Q p1 p2 e q=>by
  obtain ⟨i,j,rfl,rfl,c,rfl⟩:=hg a b d e;exact ⟨i,j,repI p1,repI p2,c,q _ H (Same.refl H) (hk H i j)⟩
theorem im' {f:Value->Value->Sem Value} {h:Int->Int->D} {k:Int->Int->V} {g:D->D->Res D} (ho:∀E,OpR (X.wish E) f (rI0 k)) (hk:∀H i j,Rep X.K H (h i j) (k i j))
  (hg:∀x y d,g x y=.ok d->∃i j,x=.int i/\y=.int j/\d=h i j):OpD X f g :=
 .of ho fun H x y a b d Q p1 p2 e q=>by
  obtain ⟨i,j,rfl,rfl,rfl⟩:=hg a b d e;exact ⟨i,j,repI p1,repI p2,q _ H (Same.refl H) (hk H i j)⟩
theorem eO':OpD X (binaryOp .Sub) subD:=im' (fun _=>jV') (fun _ _ _=>mkI) fun x y d e=>by
 cases x <;> cases y <;> first | (simp [subD] at e; done) | (simp only [subD,Res.ok.injEq] at e; exact ⟨_,_,rfl,rfl,e.symm⟩)
theorem in' {p:Int->Int->Bool} {op:CmpOp} (ho:∀E,OpR (X.wish E) (compareOp op) (rI0 fun i j=>.bl (p i j))):OpD X (compareOp op) (cmpD p):=im' ho (fun _ _ _=>mkB) fun x y d e=>by
 cases x <;> cases y <;> first | (simp [cmpD] at e; done) | (simp only [cmpD,Res.ok.injEq] at e; exact ⟨_,_,rfl,rfl,e.symm⟩)
theorem gc':OpD X (compareOp .Lt) (cmpD fun i j=>decide (i < j)):=in' fun _=>kV'
theorem ld':OpD X (compareOp .Gt) (cmpD fun i j=>decide (j < i)):=in' fun _=>kW'
theorem iT':OpR X (binaryOp .Mult) (rI (fun i j=>(intBits' i<=2 ^ 20/\intBits' j<=2 ^ 20)\/intBits' i<=64\/intBits' j<=64) fun i j=>.int (i * j)):=opI fun _ _ _ _ _ _ _ hc q=>mul_int q (by
 rcases hc with hc | hc | hc
 ·exact PySem.IntMulOk.of_bits hc.1 hc.2
 ·exact PySem.IntMulOk.of_left hc
 ·exact PySem.IntMulOk.of_right hc)
theorem ki':OpD X (binaryOp .Mult) mulD:=iS' (h:=fun i j=>.int (i * j)) (fun _=>iT') (fun _ _ _=>mkI) fun x y d e=>by
 cases x <;> cases y <;> first | (simp [mulD] at e; done) | skip
 rename_i i j;simp only [mulD] at e
 split at e
 ·rename_i c; cases e; exact ⟨_,_,rfl,rfl,c,rfl⟩
 ·cases e
theorem hv':OpR X (binaryOp .FloorDiv) (rI (fun i j=>j≠0/\Builtin.divisionGoesByPylong i j=false) fun i j=>.int (i.fdiv j)):=opI fun _ _ _ _ _ _ _ hc q=>floordiv_int hc.1 q (.inl hc.2)
theorem bo':OpD X (binaryOp .FloorDiv) fdivD:=iS' (h:=fun i j=>.int (i.fdiv j)) (fun _=>hv') (fun _ _ _=>mkI) fun x y d e=>by
 cases x <;> cases y <;> first | (simp [fdivD] at e; done) | skip
 rename_i i j;simp only [fdivD] at e
 split at e
 ·rename_i c; cases e; exact ⟨_,_,rfl,rfl,c,rfl⟩
 ·cases e
theorem bu':OpD X (binaryOp .Mod) modD:=iS' (h:=fun i j=>.int (i.fmod j)) (fun _=>iL') (fun _ _ _=>mkI) fun x y d e=>by
 cases x <;> cases y <;> first | (simp [modD] at e; done) | skip
 rename_i i j;simp only [modD] at e
 split at e
 ·rename_i c; cases e; exact ⟨_,_,rfl,rfl,c,rfl⟩
 ·cases e
theorem io':OpD X (binaryOp .Pow) powD:=.of (fun _=>jW') fun H x y a b d Q p1 p2 e q=>by
 cases a <;> cases b <;> first | (simp [powD] at e; done) | skip
 rename_i i j;simp only [powD] at e
 split at e
 ·rename_i c; cases e; exact ⟨i,j,repI p1,repI p2,c,q _ H (Same.refl H) mkI⟩
 ·cases e
theorem kj':OpD X (binaryOp .LShift) shlD:=.of (fun _=>jX') fun H x y a b d Q p1 p2 e q=>by
 cases a <;> cases b <;> first | (simp [shlD] at e; done) | skip
 rename_i i j;simp only [shlD] at e
 split at e
 ·rename_i c; cases e; exact ⟨i,j,repI p1,repI p2,c,q _ H (Same.refl H) mkI⟩
 ·cases e
theorem hw' (E:Value->Shared->Prop):OpR (X.wish E) (binaryOp .Add) (rCatT X.K):=iP'
noncomputable def rCatN (K:PySem.W.Frag):R2:=fun x y H Q=>∃a b ys,x=.ref a/\y=.ref b/\SqT K H a []/\SqT K H b ys/\Q (.ref b) H
theorem iU':OpR X (binaryOp .Add) (rCatN X.K):=by
 intro pins s σ H x y v u Q I rx ry h;obtain ⟨a,b,ys,rfl,rfl,h1,h2,q⟩:=h
 cases rx
 cases ry
 obtain ⟨its,r,ht,_⟩:=I.tuple h1;obtain ⟨its2,r2,ht2,_⟩:=I.tuple h2
 cases r
 obtain ⟨⟨cls,dd,data,sl⟩,ho,hc,n,hd⟩:=id ht;obtain ⟨⟨cls2,dd2,data2,sl2⟩,ho2,hc2,n2,hd2⟩:=id ht2;simp only at hc hd hc2 hd2;subst hc hd hc2 hd2;exact concat_meets ⟨_,ho,rfl⟩ ⟨_,ho2,rfl⟩ noFill_tuple_add seq_tuple_add PySem.F.slot_tuple_add PySem.F.entry_tuple_add (PySem.F.args_tuple_add_2 _ _) (tuple_addW0 a b _ its2.toArray n n2 dd dd2 sl sl2 rfl) ⟨ho,ho2,.ref b,H,I,rfl,q⟩
theorem hy' (E:Value->Shared->Prop):OpR (X.wish E) (binaryOp .Add) (rCatN X.K):=iU'
noncomputable def rCatL (K:PySem.W.Frag):R2:=fun x y H Q=>∃a b xs ys,x=.ref a/\y=.ref b/\SqL K H a xs/\SqL K H b ys/\xs.length + ys.length<=sizeLine/\∀p,H p=none->Q (.ref p) (upd H p (.lst (xs ++ ys)))
theorem iV':OpR X (binaryOp .Add) (rCatL X.K):=by
 intro pins s σ H x y v u Q I rx ry h;obtain ⟨a,b,xs,ys,rfl,rfl,h1,h2,hz,q⟩:=h
 cases rx
 cases ry
 obtain ⟨its,r,⟨⟨cls,dd,data,sl⟩,n,ho,hc,hdd,hd⟩,_⟩:=I.list h1;obtain ⟨its2,r2,⟨⟨cls2,dd2,data2,sl2⟩,n2,ho2,hc2,hdd2,hd2⟩,_⟩:=I.list h2;simp only at hc hd hc2 hd2;subst hc hd hc2 hd2;have l1:=r.length;have l2:=r2.length;refine concat_meets ⟨_,ho,rfl⟩ ⟨_,ho2,rfl⟩ noFill_list_add seq_list_add PySem.F.slot_list_add PySem.F.entry_list_add (PySem.F.args_list_add_2 _ _) (list_addW a b its.toArray its2.toArray n n2 dd dd2 sl sl2 (by simp only [List.size_toArray]; omega)) ⟨ho,ho2,?_⟩;have ea:its.toArray ++ its2.toArray=(its ++ its2).toArray:=by simp
 rw [ea];refine ⟨.ref s.heap.objs.size,_,I.laid (t':=s.toks) (o:=.lst (xs ++ ys)) (fun b ob q=>Heap.get?_push_of_some _ q) (Nat.le_refl _) ?_,rfl,q _ (I.hok.fresh (Nat.le_refl _))⟩;exact ⟨by rw [List.length_append]; omega,its ++ its2,0,r.append r2,Heap.get?_push_size _ rfl⟩
theorem eP' (E:Value->Shared->Prop):OpR (X.wish E) (binaryOp .Add) (rCatL X.K):=iV'
theorem aH':OpD X (binaryOp .Add) addD:=.of (fun E=>op_add.or (op_add_str.or ((hw' E).or ((eP' E).or (hy' E))))) fun H x y a b d Q p1 p2 e q=>by
 cases a <;> cases b <;> first | (simp [addD] at e; done) | skip
 ·rename_i i j;simp only [addD,Res.ok.injEq] at e;subst e;exact .inl ⟨i,j,repI p1,repI p2,q _ H (Same.refl H) mkI⟩
 ·rename_i i j;simp only [addD] at e
  split at e
  ·rename_i c; cases e; exact .inr (.inl ⟨i,j,repS p1,repS p2,c,q _ H (Same.refl H) mkS⟩)
  ·cases e
 ·rename_i xs ys;simp only [addD] at e
  split at e
  ·rename_i c
   cases e
   obtain ⟨p,us,rfl,s1,t1⟩:=repT p1;obtain ⟨p',ws,rfl,s2,t2⟩:=repT p2
   by_cases hn:us=[]
   ·subst hn;have hx:xs=[]:=by
     have:=t1.length; exact List.eq_nil_of_length_eq_zero this.symm
    subst hx;exact .inr (.inr (.inr (.inr ⟨p,p',ws,rfl,rfl,s1,s2,q _ H (Same.refl H) (mkT s2 t2)⟩)))
   refine .inr (.inr (.inl ⟨p,p',us,ws,rfl,rfl,s1,s2,hn,?_,fun z=>?_,fun _ z hz=>?_⟩))
   ·rw [t1.length,t2.length]; exact c
   ·have hy:ys=[]:=by
     have:=t2.length; rw [z] at this; exact List.eq_nil_of_length_eq_zero this.symm
    subst hy;exact q _ H (Same.refl H) (mkT s1 (by simpa using t1))
   ·exact q _ _ (au' hz _) (mkT (SqT.of an') ((t1.append t2).mono (au' hz _)))
  ·cases e
 ·rename_i xs ys;simp only [addD] at e
  split at e
  ·rename_i c
   cases e
   obtain ⟨p,us,rfl,s1,t1⟩:=repL p1;obtain ⟨p',ws,rfl,s2,t2⟩:=repL p2;exact .inr (.inr (.inr (.inl ⟨p,p',us,ws,rfl,rfl,s1,s2,by rw [t1.length,t2.length]; exact c,fun z hz=>q _ _ (au' hz _) (mkL (SqL.of an') ((t1.append t2).mono (au' hz _)))⟩)))
  ·cases e
end
noncomputable def APost (X:Cx) (pins:List (Addr×Obj)) (σ:St) (H:Hp) (r:Res (List D)) (us:List Value) (s1:Shared):Prop:=∃ds vs H1,r=.ok ds/\Inv X pins σ H1 s1/\Vals vs us/\Same H H1/\Reps X.K H1 ds vs
noncomputable def PAD (X:Cx) (es:List Expr) (f:DS->Res (List D)):Prop :=
 ∀(pos:Pos) (pins:List (Addr×Obj)) (s:Shared) (σ:St) (G H:Hp) (δ:DS),Inv X pins σ H s->RepSt X.K G H σ δ->f δ≠.stuck ->
  wpAny (model X.prog X.w) X.A (spliced (backTo pos (starEach es X.env))) (APost X pins σ H (f δ)) (XPost X pins σ H s.heap (f δ)) s
noncomputable def consD (f:DS->Res D) (fs:DS->Res (List D)):DS->Res (List D):=fun δ=>(f δ).bind fun d=>(fs δ).bind fun ds=>.ok (d :: ds)
section
variable {X:Cx} {e:Expr} {es:List Expr} {f:DS->Res D} {fs:DS->Res (List D)} {pos:Pos}
theorem PAD.use {pins:List (Addr×Obj)} {s:Shared} {σ:St} {G H:Hp} {δ:DS} (h:PAD X es fs) (I:Inv X pins σ H s) (R:RepSt X.K G H σ δ) (hs:fs δ≠.stuck) {P:List Value->Shared->Prop} {E:Value->Shared->Prop}
  (k:∀ds us s1 vs H1,fs δ=.ok ds->Inv X pins σ H1 s1->Vals vs us->Same H H1->Back H s.heap s1.heap->Reps X.K H1 ds vs->P us s1) (kx:∀e s1,XPost X pins σ H s.heap (fs δ) e s1->E e s1) :
  wpAny (model X.prog X.w) X.A (spliced (backTo pos (starEach es X.env))) P E s:=by
 refine wpAny_mono (h pos (pins ++ allP X H s.heap) s σ G H δ I.all R hs) (fun us s1 ⟨ds,vs,H1,q1,q2,q3,q4,q5⟩=>k ds us s1 vs H1 q1 q2.unpinned q3 q4 (I.backTo q2) q5) fun e s1 ⟨x,a,C,H1,q1,q2,q3,q4,q5,q6⟩=>kx e s1 ⟨x,a,C,H1,q1,q2,q3.unpinned,q4,q5,q6⟩
theorem ac':PAD X [] (fun _=>.ok []):=fun pos pins s σ G H δ I R _=>Calls.spliced_nil ⟨[],[],H,rfl,I,.nil,Same.refl H,Reps.nil⟩
theorem aa' (ha:PD X e f) (hr:PAD X es fs) (hs:starEach (e :: es) X.env=(false,eval e X.env) :: starEach es X.env:=by rfl):PAD X (e :: es) (consD f fs):=by
 intro pos pins s σ G H δ I R hn;have hn':(f δ).bind (fun d=>(fs δ).bind fun ds=>.ok (d :: ds))≠.stuck:=hn;rw [hs];show wpAny _ _ (spliced ((false,eval e X.env) :: backTo pos (starEach es X.env))) _ _ s;refine Calls.spliced_cons (ha.use I R (aA' hn') (fun d u s1 v H1 q I1 r1 e1 b1 p1=>?_) fun e s1 q=>q.same fun x z=>aL' z);have hn2:=aP' hn' q;refine hr.use I1 (R.mono e1) (aA' hn2) (fun ds us s2 vs H2 q2 I2 r2 e2 b2 p2=>⟨d :: ds,v :: vs,H2,by unfold consD; rw [q,Res.bind_ok,q2]; rfl,I2,.cons r1 r2,e1.trans e2,Reps.cons (p1.mono e2) p2⟩) fun e s2 q2=>q2.back e1 b1 fun x z=>by unfold consD; rw [q,Res.bind_ok,z]; rfl
noncomputable def tupD (r:Res (List D)):Res D:=r.bind fun ds=>if ds.length<=sizeLine then .ok (.tup ds) else .stuck
noncomputable def lstD (r:Res (List D)):Res D:=r.bind fun ds=>if ds.length<=sizeLine then .ok (.lst ds) else .stuck
theorem aI' {x1} (h:PAD X es fs):PD X (.Tuple es x1 pos) (fun δ=>tupD (fs δ)):=by
 intro pins s σ G H δ I R hs
 try dsimp only at hs ⊢
 have hs':(fs δ).bind (fun ds=>if ds.length<=sizeLine then Res.ok (D.tup ds) else .stuck)≠.stuck:=hs
 refine wpAny_Tuple_spliced (h.use I R (aA' hs') (fun ds us s1 vs H1 q I1 r1 e1 b1 p1=>?_) fun e s1 q=>q.same fun x z=>aL' z);have h2:=aP' hs' q;have hz:ds.length<=sizeLine:=by
  by_cases c:ds.length<=sizeLine
  ·exact c
  ·rw [if_neg c] at h2; exact (h2 rfl).elim
 refine ⟨by rw [<- r1.length,p1.length]; exact hz,?_⟩;have hf:H1 s1.heap.objs.size=none:=I1.hok.fresh (Nat.le_refl _);refine ⟨.tup ds,.ref s1.heap.objs.size,upd H1 s1.heap.objs.size (.tup vs),by unfold tupD; rw [q,Res.bind_ok,if_pos hz],I1.laid (t':=s1.toks) (fun b u e=>Heap.get?_push_of_some _ e) (Nat.le_refl _) ?_,rfl,e1.trans (au' hf _),mkT (SqT.of an') (p1.mono (au' hf _))⟩;exact ⟨by rw [p1.length]; exact hz,us,r1,⟨_,Heap.get?_push_size _ rfl,rfl,_,rfl⟩⟩
theorem cV' (h:PAD X es fs):PD X (.List es pos) (fun δ=>lstD (fs δ)):=by
 intro pins s σ G H δ I R hs
 try dsimp only at hs ⊢
 have hs':(fs δ).bind (fun ds=>if ds.length<=sizeLine then Res.ok (D.lst ds) else .stuck)≠.stuck:=hs
 refine wpAny_List_spliced (h.use I R (aA' hs') (fun ds us s1 vs H1 q I1 r1 e1 b1 p1=>?_) fun e s1 q=>q.same fun x z=>aL' z);have h2:=aP' hs' q;have hz:ds.length<=sizeLine:=by
  by_cases c:ds.length<=sizeLine
  ·exact c
  ·rw [if_neg c] at h2; exact (h2 rfl).elim
 refine ⟨by rw [<- r1.length,p1.length]; exact hz,?_⟩;have hf:H1 s1.heap.objs.size=none:=I1.hok.fresh (Nat.le_refl _);refine ⟨.lst ds,.ref s1.heap.objs.size,upd H1 s1.heap.objs.size (.lst vs),by unfold lstD; rw [q,Res.bind_ok,if_pos hz],I1.laid (t':=s1.toks) (fun b u e=>Heap.get?_push_of_some _ e) (Nat.le_refl _) ?_,rfl,e1.trans (au' hf _),mkL (SqL.of an') (p1.mono (au' hf _))⟩;exact ⟨by rw [p1.length]; exact hz,us,0,r1,Heap.get?_push_size _ rfl⟩
noncomputable def ixD:D->D->Res D
 | .tup ds,.int i=>match atI ds i with | some d=>.ok d | none=>.stuck
 | .lst ds,.int i=>match atI ds i with | some d=>.ok d | none=>.stuck
 | .str z,.int i=>if z.length<=sizeLine then (match atI z.cps.toList i with | some c=>.ok (.str ⟨#[c]⟩) | none=>.stuck) else .stuck
 | _,_=>.stuck
theorem le' (x y:D):NoErr (ixD x y):=by
 cases x <;> cases y <;> first | exact af' | skip
 ·simp only [ixD]; split <;> first | (split <;> first | exact ak' | exact af') | exact af'
 ·simp only [ixD]; split <;> first | exact ak' | exact af'
 ·simp only [ixD]; split <;> first | exact ak' | exact af'
theorem gd' {K:PySem.W.Frag} {H:Hp} {ds:List D} {vs:List V} {i:Int} {d:D} (r:Reps K H ds vs) (e:atI ds i=some d):∃v,atI vs i=some v/\Rep K H d v:=by
 unfold atI at e ⊢;rw [r.length]
 cases q:ixN ds.length i with
 | none=>rw [q] at e; cases e
 | some j =>
  rw [q] at e;exact r.get e
theorem aj' {o i:Expr} {fo fi:DS->Res D} (ho:PD X o fo) (hi:PD X i fi) (hp:PlainIx i:=by intro _ _; rfl):PD X (.Subscript o i pos) (two fo fi ixD):=by
 intro pins s σ G H δ I R hs
 try dsimp only at hs ⊢
 refine Subscript_ (en' ho hi I R hs (fun x y v u s2 vx vy H2 q I2 r1 r2 e2 p1 p2=>?_) fun _ _ q=>q);have hd:ixD x y≠.stuck:=fun z=>hs (q.trans z)
 cases qg:ixD x y with
 | stuck=>exact (hd qg).elim
 | err z=>exact (le' x y z qg).elim
 | ok d =>
  refine wpAny_mono (kd' (X:=X.wish fun _ _=>False) o i pins s2 σ H2 vx vy v u (fun z H'=>H'=H2/\Rep X.K H2 d z) (I2.wish _) r1 r2 ?_ (hp _ _)) (fun w s3 q3=>?_) fun _ _ z=>z.elim
  rotate_left
  ·obtain ⟨z,H3,I3,r3,e3,p3⟩:=q3;subst e3;exact ⟨d,z,H3,q.trans qg,I3.unwish,r3,e2,p3⟩
  cases x with
  | tup ds =>
   cases y with
   | int k =>
    simp only [ixD] at qg
    split at qg
    ·rename_i d' e
     cases qg
     obtain ⟨b,xs,rfl,w1,w2⟩:=repT p1;obtain ⟨z,z1,z2⟩:=gd' w2 e;exact .inr (.inl ⟨b,xs,k,z,rfl,repI p2,w1,z1,rfl,z2⟩)
    ·cases qg
   | _=>cases qg
  | lst ds =>
   cases y with
   | int k =>
    simp only [ixD] at qg
    split at qg
    ·rename_i d' e
     cases qg
     obtain ⟨b,xs,rfl,w1,w2⟩:=repL p1;obtain ⟨z,z1,z2⟩:=gd' w2 e;exact .inl ⟨b,xs,k,z,rfl,repI p2,w1,z1,rfl,z2⟩
    ·cases qg
   | _=>cases qg
  | str z =>
   cases y with
   | int k =>
    simp only [ixD] at qg
    split at qg
    ·rename_i hz
     split at qg
     ·rename_i c e
      cases qg
      exact .inr (.inr ⟨z,k,c,repS p1,repI p2,hz,e,rfl,mkS⟩)
     ·cases qg
    ·cases qg
   | _=>cases qg
  | _=>cases qg
end
noncomputable def CallD (X:Cx) (f:Value) (g:List D->Res D):Prop :=
 ∀(E:Value->Shared->Prop) (pins:List (Addr×Obj)) (s:Shared) (σ:St) (H:Hp) (xs:List V) (us:List Value) (ds:List D) (d:D),Inv X pins σ H s->Vals xs us->Reps X.K H ds xs->g ds=.ok d ->
  wpAny (model X.prog X.w) X.A (call f us) (EPost X pins σ H (.ok d)) E s
theorem CallD.of {X:Cx} {f:Value} {r:List V->Hp->VK->Prop} {g:List D->Res D} (hc:∀E,CallR (X.wish E) f r) (h:∀(H:Hp) (xs:List V) (ds:List D) (d:D) (Q:VK),Reps X.K H ds xs->g ds=.ok d->(∀z H',Same H H'->Rep X.K H' d z->Q z H')->r xs H Q):CallD X f g :=
 fun E pins s σ H xs us ds d I r1 p e=>thn (hc E pins s σ H xs us (fun z H'=>Same H H'/\Rep X.K H' d z) (I.wish _) r1 (h H xs ds d _ p e fun z H' a b=>⟨a,b⟩)) fun w s1 ⟨z,H1,I1,r3,e1,p3⟩=>⟨d,z,H1,rfl,I1.unwish,r3,e1,p3⟩
section
variable {X:Cx} {e:Expr} {es:List Expr} {fs:DS->Res (List D)} {x:Str} {p pos:Pos} {id T:String} {g:List D->Res D}
theorem dJ' {pins:List (Addr×Obj)} {s:Shared} {σ:St} {G H:Hp} {δ:DS} {f:Value} (hc:CallD X f g) (hg:∀ds,NoErr (g ds)) (ha:PAD X es fs) (I:Inv X pins σ H s) (R:RepSt X.K G H σ δ) (hs:(fs δ).bind g≠.stuck) :
  wpAny (model X.prog X.w) X.A (spliced (backTo pos (starEach es X.env))) (fun us s1=>wpAny (model X.prog X.w) X.A (call f us) (EPost X pins σ H ((fs δ).bind g)) (XPost X pins σ H s.heap ((fs δ).bind g)) s1) (XPost X pins σ H s.heap ((fs δ).bind g)) s:=by
 refine ha.use I R (aA' hs) (fun ds us s1 vs H1 q I1 r1 e1 b1 p1=>?_) fun e s1 q=>q.same fun x z=>aL' z;have h2:=aP' hs q
 cases qg:g ds with
 | stuck=>exact (h2 qg).elim
 | err z=>exact (hg ds z qg).elim
 | ok d=>exact thn (hc _ pins s1 σ H1 vs us ds d I1 r1 p1 qg) fun w s2 p=>p.from e1 (by rw [q,Res.bind_ok,qg])
theorem aw' (hc:CallD X (.builtin id) g) (hne:∀ds,NoErr (g ds)) (hg:Gl X x) (hm:X.mg x=none) (hv:bootBuiltins x=some (.builtin id)) (ha:PAD X (e :: es) fs) (hn:x≠"__name__":=by decide) (hdb:(x == ("__debug__" : Str))=false:=by decide)
  (he:starEach (e :: es) X.env=(false,eval e X.env) :: starEach es X.env:=by rfl) (hpl:(backTo pos (starEach es X.env)).any (·.1)=false:=by rfl):PD X (.Call (.Name x p) (e :: es) [] pos) (fun δ=>(fs δ).bind g):=by
 intro pins s σ G H δ I R hs
 try dsimp only at hs ⊢
 refine wpAny_Call_Name_kw (cQ' I hg hm hv ?_ hn hdb);exact PyProof.Rows.callWith_builtin1 (dJ' hc hne ha I R hs) he hpl
theorem aQ' (hc:CallD X (.type T) g) (hne:∀ds,NoErr (g ds)) (hg:Gl X x) (hm:X.mg x=none) (hv:bootBuiltins x=some (.type T)) (ha:PAD X (e :: es) fs) (hn:x≠"__name__":=by decide) (hdb:(x == ("__debug__" : Str))=false:=by decide)
  (he:starEach (e :: es) X.env=(false,eval e X.env) :: starEach es X.env:=by rfl) (hpl:(backTo pos (starEach es X.env)).any (·.1)=false:=by rfl):PD X (.Call (.Name x p) (e :: es) [] pos) (fun δ=>(fs δ).bind g):=by
 intro pins s σ G H δ I R hs
 try dsimp only at hs ⊢
 refine wpAny_Call_Name_kw (cQ' I hg hm hv ?_ hn hdb);exact PyProof.Rows.callWith_type1 (dJ' hc hne ha I R hs) he hpl
end
noncomputable def absG:List D->Res D
 | [.int i]=>.ok (.int (if i < 0 then -i else i))
 | _=>.stuck
theorem ge' {X:Cx}:CallD X (.builtin "abs") absG:=.of (fun _=>hg') fun H xs ds d Q r e q=>by
 unfold absG at e
 split at e
 ·rename_i i
  cases e
  obtain ⟨v,vs,rfl,p1,t⟩:=r.cons_of
  cases t.nil_of
  exact ⟨i,by rw [repI p1],q _ H (Same.refl H) mkI⟩
 ·cases e
theorem gf' (ds:List D):NoErr (absG ds):=by
 unfold absG
 split
 ·exact ak'
 ·exact af'
noncomputable def lenG:List D->Res D
 | [.tup ds]=>.ok (.int ds.length)
 | [.lst ds]=>.ok (.int ds.length)
 | [.str z]=>if z.length<=sizeLine then .ok (.int z.length) else .stuck
 | _=>.stuck
theorem bf' (ds:List D):NoErr (lenG ds):=by
 unfold lenG
 split <;> first | exact ak' | exact af' | exact ay' ak' af'
theorem gg' {X:Cx} (E:Value->Shared->Prop):CallR (X.wish E) (.builtin "len") (fun xs H Q=>∃x n,xs=[x]/\LenV X.K x H n/\Q (.int n) H):=hh'
theorem bg' {X:Cx}:CallD X (.builtin "len") lenG:=.of gg' fun H xs ds d Q r e q=>by
 unfold lenG at e
 split at e
 ·rename_i es
  cases e
  obtain ⟨v,vs,rfl,p1,t⟩:=r.cons_of
  cases t.nil_of
  obtain ⟨a,ys,rfl,w1,w2⟩:=repT p1;exact ⟨_,es.length,rfl,.inr ⟨ys,w1,w2.length.symm⟩,q _ H (Same.refl H) mkI⟩
 ·rename_i es
  cases e
  obtain ⟨v,vs,rfl,p1,t⟩:=r.cons_of
  cases t.nil_of
  obtain ⟨a,ys,rfl,w1,w2⟩:=repL p1;exact ⟨_,es.length,rfl,.inl ⟨ys,w1,w2.length.symm⟩,q _ H (Same.refl H) mkI⟩
 ·rename_i z
  split at e
  ·rename_i hz
   cases e
   obtain ⟨v,vs,rfl,p1,t⟩:=r.cons_of
   cases t.nil_of
   cases repS p1
   exact ⟨_,z.length,rfl,⟨hz,rfl⟩,q _ H (Same.refl H) mkI⟩
  ·cases e
 ·cases e
inductive Out where
 | stuck
 | nxt (δ:DS)
 | ret (d:D)
 | brk (δ:DS)
 | cnt (δ:DS)
 | err (x:Exn) (δ:DS)
noncomputable def Out.seq (o:Out) (g:DS->Out):Out:=match o with
 | .nxt δ=>g δ
 | o=>o
noncomputable def SPost (X:Cx) (pins:List (Addr×Obj)) (G H:Hp) (o:Out) (fl:Flow) (s1:Shared):Prop:=match fl with
 | .next=>∃δ' σ' H',o=.nxt δ'/\Inv X pins σ' H' s1/\TK H H'/\RepSt X.K G H' σ' δ'
 | .brk=>∃δ' σ' H',o=.brk δ'/\Inv X pins σ' H' s1/\TK H H'/\RepSt X.K G H' σ' δ'
 | .cont=>∃δ' σ' H',o=.cnt δ'/\Inv X pins σ' H' s1/\TK H H'/\RepSt X.K G H' σ' δ'
 | .ret u=>∃d v σ' H',o=.ret d/\Inv X pins σ' H' s1/\TK H H'/\Same G H'/\RelV v u/\Rep X.K H' d v
noncomputable def SX (X:Cx) (pins:List (Addr×Obj)) (G H:Hp) (h0:Heap) (o:Out) (e:Value) (s1:Shared):Prop :=
 ∃x δ' a C σ' H',o=.err x δ'/\e=.ref a/\Inv X pins σ' H' s1/\TK H H'/\RepSt X.K G H' σ' δ'/\PySem.W.nsIn X.K mainGlobals x.cls=some (some (.ref C))/\FlyX X.K x h0 H' s1.heap a C
noncomputable def PSD (X:Cx) (st:Stmt) (f:DS->Out):Prop :=
 ∀(pins:List (Addr×Obj)) (s:Shared) (σ:St) (G H:Hp) (δ:DS),Inv X pins σ H s->RepSt X.K G H σ δ->f δ≠.stuck ->
  wpAny (model X.prog X.w) X.A (exec st X.env) (SPost X pins G H (f δ)) (SX X pins G H s.heap (f δ)) s
noncomputable def PSDs (X:Cx) (st:List Stmt) (f:DS->Out):Prop :=
 ∀(pins:List (Addr×Obj)) (s:Shared) (σ:St) (G H:Hp) (δ:DS),Inv X pins σ H s->RepSt X.K G H σ δ->f δ≠.stuck ->
  wpAny (model X.prog X.w) X.A (execs st X.env) (SPost X pins G H (f δ)) (SX X pins G H s.heap (f δ)) s
noncomputable def onD (r:Res D) (δ:DS) (k:D->Out):Out:=match r with
 | .stuck=>.stuck
 | .ok d=>k d
 | .err x=>.err x δ
noncomputable def onT (r:Res Bool) (δ:DS) (k:Bool->Out):Out:=match r with
 | .stuck=>.stuck
 | .ok d=>k d
 | .err x=>.err x δ
theorem fq' {r:Res D} {δ:DS} {k:D->Out} (h:onD r δ k≠.stuck):r≠.stuck:=fun q=>h (by rw [q]; rfl)
theorem lf' {r:Res Bool} {δ:DS} {k:Bool->Out} (h:onT r δ k≠.stuck):r≠.stuck:=fun q=>h (by rw [q]; rfl)
section
variable {X:Cx} {pins:List (Addr×Obj)} {G H H1:Hp} {h0 h1:Heap} {s1:Shared} {fl:Flow} {o o':Out} {e:Value}
theorem SPost.from (p:SPost X pins G H1 o fl s1) (t:TK H H1) (q:o=o'):SPost X pins G H o' fl s1:=by
 subst q
 cases fl with
 | next=>obtain ⟨δ',σ',H',q1,q2,q3,q4⟩:=p; exact ⟨δ',σ',H',q1,q2,t.trans q3,q4⟩
 | brk=>obtain ⟨δ',σ',H',q1,q2,q3,q4⟩:=p; exact ⟨δ',σ',H',q1,q2,t.trans q3,q4⟩
 | cont=>obtain ⟨δ',σ',H',q1,q2,q3,q4⟩:=p; exact ⟨δ',σ',H',q1,q2,t.trans q3,q4⟩
 | ret u=>obtain ⟨d,v,σ',H',q1,q2,q3,q4,q5,q6⟩:=p; exact ⟨d,v,σ',H',q1,q2,t.trans q3,q4,q5,q6⟩
theorem SX.from (p:SX X pins G H1 h1 o e s1) (t:TK H H1) (b:Back H h0 h1) (q:o=o'):SX X pins G H h0 o' e s1:=by
 subst q;obtain ⟨x,δ',a,C,σ',H',q1,q2,q3,q4,q5,q6,q7⟩:=p;exact ⟨x,δ',a,C,σ',H',q1,q2,q3,t.trans q4,q5,q6,q7.back t q4 b⟩
theorem XPost.sx {α:Type} {σ:St} {δ:DS} {r:Res α} (p:XPost X pins σ H h0 r e s1) (R:RepSt X.K G H σ δ) (q:∀x,r=.err x->o=.err x δ):SX X pins G H h0 o e s1:=by
 obtain ⟨x,a,C,H1,q1,q2,q3,q4,q5,q6⟩:=p;exact ⟨x,δ,a,C,σ,H1,q x q1,q2,q3,q4.tk,R.mono q4,q5,q6⟩
theorem kk' {t:Sem Flow} {s:Shared} {σ:St} (h:∀pins,Inv X pins σ H s->wpAny (model X.prog X.w) X.A t (SPost X pins G H o) (SX X pins G H s.heap o) s) (I:Inv X pins σ H s) {P:Flow->Shared->Prop} {E:Value->Shared->Prop}
  (k:∀fl s1,SPost X pins G H o fl s1->Back H s.heap s1.heap->P fl s1) (kx:∀e s1,SX X pins G H s.heap o e s1->E e s1):wpAny (model X.prog X.w) X.A t P E s:=by
 refine wpAny_mono (h (pins ++ allP X H s.heap) I.all) (fun fl s1 p=>?_) fun e s1 ⟨x,δ',a,C,σ',H',q1,q2,q3,q4,q5,q6,q7⟩=>kx e s1 ⟨x,δ',a,C,σ',H',q1,q2,q3.unpinned,q4,q5,q6,q7⟩
 cases fl with
 | next=>obtain ⟨δ',σ',H',q1,q2,q3,q4⟩:=p; exact k .next s1 ⟨δ',σ',H',q1,q2.unpinned,q3,q4⟩ (I.backTo q2)
 | brk=>obtain ⟨δ',σ',H',q1,q2,q3,q4⟩:=p; exact k .brk s1 ⟨δ',σ',H',q1,q2.unpinned,q3,q4⟩ (I.backTo q2)
 | cont=>obtain ⟨δ',σ',H',q1,q2,q3,q4⟩:=p; exact k .cont s1 ⟨δ',σ',H',q1,q2.unpinned,q3,q4⟩ (I.backTo q2)
 | ret u=>obtain ⟨d,v,σ',H',q1,q2,q3,q4,q5,q6⟩:=p; exact k (.ret u) s1 ⟨d,v,σ',H',q1,q2.unpinned,q3,q4,q5,q6⟩ (I.backTo q2)
end
section
variable {X:Cx} {st:Stmt} {rest:List Stmt} {f g:DS->Out} {e:Expr} {fe:DS->Res D} {pos:Pos}
theorem av':PSDs X [] Out.nxt:=fun pins s σ G H δ I R _=>wpAny_execs_nil ⟨δ,σ,H,rfl,I,TK.refl H,R⟩
noncomputable def seqD (f g:DS->Out):DS->Out:=fun δ=>(f δ).seq g
theorem ae' (h1:PSD X st f) (h2:PSDs X rest g):PSDs X (st :: rest) (seqD f g):=by
 intro pins s σ G H δ I R hs
 try dsimp only at hs ⊢
 have hf:f δ≠.stuck:=fun q=>hs (by unfold seqD; rw [q]; rfl);refine wpAny_execs_cons (kk' (fun pins I=>h1 pins s σ G H δ I R hf) I (fun fl s1 p b=>?_) fun e s1 p=>?_)
 ·cases fl with
  | next =>
   obtain ⟨δ',σ',H',q1,q2,q3,q4⟩:=p;have ev:seqD f g δ=g δ':=by unfold seqD; rw [q1]; rfl
   exact wpAny_mono (h2 pins s1 σ' G H' δ' q2 q4 fun z=>hs (ev.trans z)) (fun fl s2 p2=>p2.from q3 ev.symm) fun e s2 p2=>p2.from q3 b ev.symm
  | brk=>obtain ⟨δ',σ',H',q1,q2,q3,q4⟩:=p; exact ⟨δ',σ',H',by unfold seqD; rw [q1]; rfl,q2,q3,q4⟩
  | cont=>obtain ⟨δ',σ',H',q1,q2,q3,q4⟩:=p; exact ⟨δ',σ',H',by unfold seqD; rw [q1]; rfl,q2,q3,q4⟩
  | ret u=>obtain ⟨d,v,σ',H',q1,q2⟩:=p; exact ⟨d,v,σ',H',by unfold seqD; rw [q1]; rfl,q2⟩
 ·obtain ⟨x,δ',a,C,σ',H',q1,q2⟩:=p;exact ⟨x,δ',a,C,σ',H',by unfold seqD; rw [q1]; rfl,q2⟩
theorem ag' (h1:PSD X st f):PSDs X [st] f:=by
 intro pins s σ G H δ I R hs
 try dsimp only at hs ⊢
 refine wpAny_execs_cons (wpAny_mono (h1 pins s σ G H δ I R hs) (fun fl s1 p=>?_) fun e s1 p=>p)
 cases fl with
 | next=>exact wpAny_execs_nil p
 | brk=>exact p
 | cont=>exact p
 | ret u=>exact p
noncomputable def NOut (X:Cx) (G H:Hp) (o:Out) (E:Ends):Prop:=match o with
 | .stuck=>False
 | .nxt δ=>∀σ' H',TK H H'->RepSt X.K G H' σ' δ->E.nx σ' H'
 | .ret d=>∀v H',TK H H'->Same G H'->Rep X.K H' d v->E.rt v H'
 | .brk δ=>∀σ' H',TK H H'->RepSt X.K G H' σ' δ->E.bk σ' H'
 | .cnt δ=>∀σ' H',TK H H'->RepSt X.K G H' σ' δ->E.ct σ' H'
 | .err _ _=>False
noncomputable def sD (X:Cx) (f:DS->Out):TS:=fun E σ H=>∃G δ,RepSt X.K G H σ δ/\NOut X G H (f δ) E
theorem NOut.tk {X:Cx} {G H H1:Hp} {o:Out} {E:Ends} (h:NOut X G H o E) (t:TK H H1):NOut X G H1 o E:=by
 cases o with
 | stuck=>exact h
 | nxt δ=>exact fun σ' H' t' r=>h σ' H' (t.trans t') r
 | ret d=>exact fun v H' t' r=>h v H' (t.trans t') r
 | brk δ=>exact fun σ' H' t' r=>h σ' H' (t.trans t') r
 | cnt δ=>exact fun σ' H' t' r=>h σ' H' (t.trans t') r
 | err x δ=>exact h
theorem gh' {pins:List (Addr×Obj)} {G H:Hp} {o:Out} {E:Ends} {fl:Flow} {s1:Shared} {W:Value->Shared->Prop} (h:NOut X G H o E) (p:SPost X pins G H o fl s1):SP (X.wish W) pins E fl s1:=by
 cases fl with
 | next=>obtain ⟨δ',σ',H',q1,q2,q3,q4⟩:=p; subst q1; exact ⟨σ',H',q2.wish _,h σ' H' q3 q4⟩
 | brk=>obtain ⟨δ',σ',H',q1,q2,q3,q4⟩:=p; subst q1; exact ⟨σ',H',q2.wish _,h σ' H' q3 q4⟩
 | cont=>obtain ⟨δ',σ',H',q1,q2,q3,q4⟩:=p; subst q1; exact ⟨σ',H',q2.wish _,h σ' H' q3 q4⟩
 | ret u=>obtain ⟨d,v,σ',H',q1,q2,q3,q4,q5,q6⟩:=p; subst q1; exact ⟨v,σ',H',q2.wish _,q5,h v H' q3 q4 q6⟩
theorem NOut.ns {G H:Hp} {o:Out} {E:Ends} (h:NOut X G H o E):o≠.stuck:=fun q=>by subst q; exact h
theorem NOut.sx {pins:List (Addr×Obj)} {G H:Hp} {h0:Heap} {o:Out} {E:Ends} {e:Value} {s1:Shared} (h:NOut X G H o E) (p:SX X pins G H h0 o e s1):False:=by
 obtain ⟨x,δ',_,_,_,_,q,_⟩:=p; subst q; exact h
theorem PSDs.ps (h:PSDs X rest f):PSs X.nox rest (sD X f):=by
 intro pins s σ H E I ⟨G,δ,R,n⟩;exact wpAny_mono (h pins s σ G H δ I.unwish R n.ns) (fun fl s1 p=>gh' n p) fun e s1 p=>n.sx p
theorem PSD.ps (h:PSD X st f):PS X.nox st (sD X f):=by
 intro pins s σ H E I ⟨G,δ,R,n⟩;exact wpAny_mono (h pins s σ G H δ I.unwish R n.ns) (fun fl s1 p=>gh' n p) fun e s1 p=>n.sx p
theorem PTD.pt {c:Expr} {tc:DS->Res Bool} (h:PTD X c tc):PT X.nox c (fun σ H Q=>∃G δ d,RepSt X.K G H σ δ/\tc δ=.ok d/\∀H',Same H H'->Q d H'):=by
 intro pins s σ H Q I ⟨G,δ,d,R,q,n⟩;refine wpAny_mono (h pins s σ G H δ I.unwish R (by rw [q]; intro z; cases z)) (fun b s1 ⟨H1,q1,I1,e1⟩=>?_) fun e s1 p=>?_
 ·rw [q] at q1; cases q1;exact ⟨H1,I1.wish _,n H1 e1⟩
 ·rw [q] at p; exact p.none
theorem PD.pe {fe:DS->Res D} (h:PD X e fe):PE X.nox e (fun σ H Q=>∃G δ d,RepSt X.K G H σ δ/\fe δ=.ok d/\∀v H',Same H H'->Rep X.K H' d v->Q v H'):=by
 intro pins s σ H Q I ⟨G,δ,d,R,q,n⟩;refine wpAny_mono (h pins s σ G H δ I.unwish R (by rw [q]; intro z; cases z)) (fun b s1 ⟨d',v,H1,q1,I1,r1,e1,p1⟩=>?_) fun e s1 p=>?_
 ·rw [q] at q1; cases q1;exact ⟨v,H1,I1.wish _,r1,n v H1 e1 p1⟩
 ·rw [q] at p; exact p.none
theorem ip' (hne:∀δ x δ',f δ≠.err x δ') (h:PS X.nox st (sD X f)):PSD X st f:=by
 intro pins s σ G H δ I R hs
 try dsimp only at hs ⊢
 let E:Ends:={ nx:=fun σ' H'=>∃δ',f δ=.nxt δ'/\TK H H'/\RepSt X.K G H' σ' δ',rt:=fun v H'=>∃d,f δ=.ret d/\TK H H'/\Same G H'/\Rep X.K H' d v,bk:=fun σ' H'=>∃δ',f δ=.brk δ'/\TK H H'/\RepSt X.K G H' σ' δ',ct:=fun σ' H'=>∃δ',f δ=.cnt δ'/\TK H H'/\RepSt X.K G H' σ' δ' }
 have n:NOut X G H (f δ) E:=by
  cases q:f δ with
  | stuck=>exact (hs q).elim
  | nxt δ'=>exact fun σ' H' t r=>⟨δ',q,t,r⟩
  | brk δ'=>exact fun σ' H' t r=>⟨δ',q,t,r⟩
  | cnt δ'=>exact fun σ' H' t r=>⟨δ',q,t,r⟩
  | ret d=>exact fun v H' t g r=>⟨d,q,t,g,r⟩
  | err x δ'=>exact (hne δ x δ' q).elim
 refine wpAny_mono (h pins s σ H E (I.wish _) ⟨G,δ,R,n⟩) (fun fl s1 p=>?_) fun e s1 p=>p.elim
 cases fl with
 | next=>obtain ⟨σ',H',q2,δ',q1,q3,q4⟩:=p; exact ⟨δ',σ',H',q1,q2.unwish,q3,q4⟩
 | brk=>obtain ⟨σ',H',q2,δ',q1,q3,q4⟩:=p; exact ⟨δ',σ',H',q1,q2.unwish,q3,q4⟩
 | cont=>obtain ⟨σ',H',q2,δ',q1,q3,q4⟩:=p; exact ⟨δ',σ',H',q1,q2.unwish,q3,q4⟩
 | ret u=>obtain ⟨v,σ',H',q2,q5,d,q1,q3,q4,q6⟩:=p; exact ⟨d,v,σ',H',q1,q2.unwish,q3,q4,q5,q6⟩
theorem ai' (he:PD X e fe):PSD X (.Return (some e) pos) (fun δ=>onD (fe δ) δ Out.ret):=by
 intro pins s σ G H δ I R hs
 try dsimp only at hs ⊢
 refine wpAny_Return_some (he.use I R (fq' hs) (fun d u s1 v H1 q I1 r1 e1 b1 p1=>⟨d,v,σ,H1,by rw [q]; rfl,I1,e1.tk,R.same.trans e1,r1,p1⟩) fun e s1 q=>q.sx R fun x z=>by rw [z]; rfl)
theorem hA' (he:PD X e fe) (hw:swapsWith e none pos.line X.env=pure false:=by rfl):PSD X (.Expr e pos) (fun δ=>onD (fe δ) δ fun _=>.nxt δ):=by
 intro pins s σ G H δ I R hs
 try dsimp only at hs ⊢
 exact wpAny_Expr_any (he.use I R (fq' hs) (fun d u s1 v H1 q I1 r1 e1 b1 p1=>⟨δ,σ,H1,by rw [q]; rfl,I1,e1.tk,R.mono e1⟩) fun e s1 q=>q.sx R fun x z=>by rw [z]; rfl) I.quiet hw
theorem aJ' {c:Expr} {a b:List Stmt} {tc:DS->Res Bool} {fa fb:DS->Out} (hc:PTD X c tc) (ha:PSDs X a fa) (hb:PSDs X b fb):PSD X (.If c a b pos) (fun δ=>onT (tc δ) δ fun k=>if k=true then fa δ else fb δ):=by
 intro pins s σ G H δ I R hs
 try dsimp only at hs ⊢
 refine wpAny_If (hc.use I R (lf' hs) (fun k s1 H1 q I1 e1 b1=>?_) fun e s1 q=>q.sx R fun x z=>by rw [z]; rfl)
 cases k with
 | true =>
  have ev:onT (tc δ) δ (fun k=>if k=true then fa δ else fb δ)=fa δ:=by rw [q]; rfl
  exact wpAny_mono (ha pins s1 σ G H1 δ I1 (R.mono e1) fun z=>hs (ev.trans z)) (fun fl s2 p=>p.from e1.tk ev.symm) fun e s2 p=>p.from e1.tk b1 ev.symm
 | false =>
  have ev:onT (tc δ) δ (fun k=>if k=true then fa δ else fb δ)=fb δ:=by rw [q]; rfl
  exact wpAny_mono (hb pins s1 σ G H1 δ I1 (R.mono e1) fun z=>hs (ev.trans z)) (fun fl s2 p=>p.from e1.tk ev.symm) fun e s2 p=>p.from e1.tk b1 ev.symm
noncomputable def setD (i:Nat) (fe:DS->Res D):DS->Out:=fun δ=>onD (fe δ) δ fun d=>.nxt (δ.set i (some (.val d)))
theorem ah' (i:Nat) {x:Str} {pos':Pos} (he:PD X e fe) (hN:X.N.Nodup) (hi:X.N[i]? = some x:=by rfl) (hx:Loc X.env.scope x:=by first | exact Or.inl rfl | exact Or.inr rfl) (hw:swapsWith e (some (.Name x pos')) pos.line X.env=pure false:=by rfl)
  (hf:X.fn x=true\/X.env.scope.names.lookup x=some .local:=by first | exact .inl rfl | exact .inr rfl | assumption):PSD X (.Assign [.Name x pos'] e pos) (setD i fe):=by
 intro pins s σ G H δ I R hs
 try dsimp only at hs ⊢
 refine wpAny_Assign_Name (he.use I R (fq' hs) (fun d u s1 v H1 q I1 r1 e1 b1 p1=>?_) fun e s1 q=>q.sx R fun x z=>by unfold setD; rw [z]; rfl) hw;exact cu' I1 hN hi hx r1 (fun s2 I2=>⟨_,_,H1,by unfold setD; rw [q]; rfl,I2,e1.tk,(R.mono e1).set i p1⟩) hf
abbrev TGD:=D->DS->Option DS
noncomputable def PGD (X:Cx) (tg:Expr) (t:TGD):Prop :=
 ∀(E:Value->Shared->Prop) (pins:List (Addr×Obj)) (s:Shared) (σ:St) (G H:Hp) (δ δ':DS) (d:D) (v:V) (u:Value),Inv X pins σ H s->RelV v u->RepSt X.K G H σ δ->Rep X.K H d v->t d δ=some δ' ->
  wpAny (model X.prog X.w) X.A (assign tg X.env u) (fun _ s1=>∃σ',Inv X pins σ' H s1/\RepSt X.K G H σ' δ') E s
theorem aM' (i:Nat) {x:Str} (hN:X.N.Nodup) (hi:X.N[i]? = some x:=by rfl) (hx:Loc X.env.scope x:=by first | exact Or.inl rfl | exact Or.inr rfl) (hf:X.fn x=true\/X.env.scope.names.lookup x=some .local:=by first | exact .inl rfl | exact .inr rfl | assumption) :
  PGD X (.Name x pos) (fun d δ=>some (δ.set i (some (.val d)))):=by
 intro E pins s σ G H δ δ' d v u I r R p e
 cases e
 exact thn (fQ' (X:=X.wish E) hN hi hx hf pins s σ H v u (fun σ' H'=>σ'=σ.set i (some v)/\H'=H) (I.wish _) r ⟨rfl,rfl⟩) fun _ s1 ⟨σ',H',I',e1,e2⟩=>by
  subst e1 e2;exact ⟨_,I'.unwish,R.set i p⟩
noncomputable def namesD:List Nat->List D->DS->Option DS
 | [],[],δ=>some δ
 | i :: is,d :: ds,δ=>namesD is ds (δ.set i (some (.val d)))
 | _,_,_=>none
theorem cW':∀{is:List Nat} {ds:List D} {δ δ':DS},namesD is ds δ=some δ'->ds.length=is.length
 | [],[],_,_,_=>rfl
 | [],_ :: _,_,_,h=>by simp [namesD] at h
 | _ :: _,[],_,_,h=>by simp [namesD] at h
 | i :: is,d :: ds,δ,δ',h=>by
  have:=cW' (is:=is) (ds:=ds) (by simpa [namesD] using h);simp [this]
noncomputable def gsD (X:Cx) (is:List Nat):TGs:=fun vs σ H Q=>∃G δ ds δ',RepSt X.K G H σ δ/\Reps X.K H ds vs/\namesD is ds δ=some δ'/\∀σ',RepSt X.K G H σ' δ'->Q σ' H
theorem bC':PGs X [] (gsD X []):=by
 intro pins s σ H vs us Q I r h;obtain ⟨G,δ,ds,δ',R,p,e,q⟩:=h
 cases ds with
 | nil =>
  cases e
  exact iK' pins s σ H vs us Q I r ⟨p.nil_of,q σ R⟩
 | cons d ds=>cases e
theorem aO' (i:Nat) {is:List Nat} {x:Str} {es:List Expr} (hN:X.N.Nodup) (h2:PGs X es (gsD X is)) (hi:X.N[i]? = some x:=by rfl) (hx:Loc X.env.scope x:=by first | exact Or.inl rfl | exact Or.inr rfl)
  (hf:X.fn x=true\/X.env.scope.names.lookup x=some .local:=by first | exact .inl rfl | exact .inr rfl | assumption) (hs:(assignEach (.Name x pos :: es) X.env).map (·.2)=assign (.Name x pos) X.env :: (assignEach es X.env).map (·.2):=by rfl) :
  PGs X (.Name x pos :: es) (gsD X (i :: is)):=by
 intro pins s σ H vs us Q I r h;obtain ⟨G,δ,ds,δ',R,p,e,q⟩:=h
 cases ds with
 | nil=>cases e
 | cons d ds =>
  obtain ⟨v,ws,rfl,p1,p2⟩:=p.cons_of;exact gY' (fQ' hN hi hx hf) h2 hs pins s σ H _ us Q I r ⟨v,ws,rfl,G,_,ds,δ',R.set i p1,p2,e,q⟩
noncomputable def tupTgt (is:List Nat):TGD:=fun d δ=>match d with
 | .tup ds=>namesD is ds δ
 | _=>none
theorem eo' {es:List Expr} {k:Nat} {is:List Nat} (hc:X.calm=true) (h:∀E,PGs (X.wish E) es (gsD X is)) (hn:(assignEach es X.env).length=is.length:=by rfl) (hst:(assignEach es X.env).findIdx? (·.1)=none:=by rfl):PGD X (.Tuple es k pos) (tupTgt is):=by
 intro E pins s σ G H δ δ' d v u I r R p e
 cases d with
 | tup ds =>
  obtain ⟨a,xs,rfl,w1,w2⟩:=repT p;exact thn (jT' (X:=X.wish E) hc (h E) hn hst pins s σ H _ u (fun σ' H'=>H'=H/\RepSt X.K G H σ' δ') (I.wish _) r ⟨a,xs,rfl,w1,by rw [w2.length]; exact cW' e,G,δ,ds,δ',R,w2,e,fun σ' R'=>⟨rfl,R'⟩⟩) fun _ s1 ⟨σ',H',I',e1,e2⟩=>by
   subst e1;exact ⟨σ',I'.unwish,e2⟩
 | _=>cases e
end
noncomputable def whileD (c:DS->Res Bool) (b:DS->Out):Nat->DS->Out
 | 0,_=>.stuck
 | n + 1,δ=>match c δ with
  | .ok true=>(match b δ with
   | .nxt δ'=>whileD c b n δ'
   | .cnt δ'=>whileD c b n δ'
   | .brk δ'=>.nxt δ'
   | .ret d=>.ret d
   | _=>.stuck)
  | .ok false=>.nxt δ
  | _=>.stuck
theorem dK' (c:DS->Res Bool) (b:DS->Out):∀(n:Nat) (δ:DS) (x:Exn) (δ':DS),whileD c b n δ≠.err x δ'
 | 0,_,_,_,h=>by simp [whileD] at h
 | n + 1,δ,x,δ',h=>by
  rw [whileD] at h
  split at h
  ·split at h <;> first | exact dK' c b n _ x δ' h | cases h
  ·cases h
  ·cases h
theorem dL' {X:Cx} {c:Expr} {body:List Stmt} {tc:DS->Res Bool} {fb:DS->Out} {pos:Pos} (fuel:DS->Nat) (hc:PTD X c tc) (hb:PSDs X body fb) :
  PSD X (.While c body [] pos) (fun δ=>whileD tc fb (fuel δ) δ):=by
 refine ip' (fun δ=>dK' tc fb (fuel δ) δ) fun pins s σ H E I h=>?_;obtain ⟨G,δ,R,h⟩:=h;refine gZ' PassesOwn.never hc.pt hb.ps pins s σ H E I ⟨fun m σ' H'=>∃δ',RepSt X.K G H' σ' δ'/\NOut X G H' (whileD tc fb m δ') E,⟨fuel δ,δ,R,h⟩,?_⟩
 rintro m σ1 H1 ⟨δ1,R1,h1⟩
 cases m with
 | zero=>exact h1.elim
 | succ m =>
  rw [whileD] at h1
  cases q:tc δ1 with
  | stuck=>simp only [q] at h1; exact h1.elim
  | err x=>simp only [q] at h1; exact h1.elim
  | ok k =>
   refine ⟨G,δ1,k,R1,q,fun H2 e2=>?_⟩
   cases k with
   | false =>
    simp only [q] at h1;rw [if_neg Bool.false_ne_true];exact h1 σ1 H2 e2.tk (R1.mono e2)
   | true =>
    simp only [q] at h1;rw [if_pos rfl];refine ⟨fun σ' H'=>∃δ',RepSt X.K G H' σ' δ'/\NOut X G H' (whileD tc fb m δ') E,fun σ' H' z=>⟨m,Nat.lt_succ_self m,z⟩,G,δ1,R1.mono e2,?_⟩
    cases z:fb δ1 with
    | stuck=>rw [z] at h1; exact h1
    | err x δ'=>rw [z] at h1; exact h1
    | nxt δ'=>rw [z] at h1; exact fun σ' H' t r=>⟨δ',r,h1.tk (e2.tk.trans t)⟩
    | cnt δ'=>rw [z] at h1; exact fun σ' H' t r=>⟨δ',r,h1.tk (e2.tk.trans t)⟩
    | brk δ'=>rw [z] at h1; exact fun σ' H' t r=>h1 σ' H' (e2.tk.trans t) r
    | ret d=>rw [z] at h1; exact fun v H' t g r=>h1 v H' (e2.tk.trans t) g r
noncomputable def forD (t:TGD) (b:DS->Out):List D->DS->Out
 | [],δ=>.nxt δ
 | d :: ds,δ=>match t d δ with
  | none=>.stuck
  | some δ1=>match b δ1 with
   | .nxt δ'=>forD t b ds δ'
   | .cnt δ'=>forD t b ds δ'
   | .brk δ'=>.nxt δ'
   | .ret d=>.ret d
   | _=>.stuck
theorem gi' (t:TGD) (b:DS->Out):∀(ds:List D) (δ:DS) (x:Exn) (δ':DS),forD t b ds δ≠.err x δ'
 | [],_,_,_,h=>by simp [forD] at h
 | d :: ds,δ,x,δ',h=>by
  rw [forD] at h
  split at h
  ·cases h
  ·split at h <;> first | exact gi' t b ds _ x δ' h | cases h
noncomputable def rangeD (lo:Int):Nat->List D
 | 0=>[]
 | n + 1=>.int lo :: rangeD (lo + 1) n
theorem eq' (lo:Int) (n i:Nat) (h:i < n):(rangeD lo n).drop i=.int (lo + i) :: (rangeD lo n).drop (i + 1):=by
 induction i generalizing lo n with
 | zero =>
  cases n with
  | zero=>omega
  | succ n=>simp [rangeD]
 | succ i ih =>
  cases n with
  | zero=>omega
  | succ n =>
   have q:=ih (lo + 1) n (by omega);simp only [rangeD,List.drop_succ_cons];rw [q];have:lo + 1 + (i:Int)=lo + ((i + 1:Nat):Int):=by omega
   rw [this]
theorem bQ' (lo:Int) (n:Nat):(rangeD lo n).length=n:=by
 induction n generalizing lo with
 | zero=>rfl
 | succ n ih=>simp [rangeD,ih]
noncomputable def gD (X:Cx) (t:TGD):TG:=fun v σ H Q=>∃G δ d δ',RepSt X.K G H σ δ/\Rep X.K H d v/\t d δ=some δ'/\∀σ',RepSt X.K G H σ' δ'->Q σ' H
noncomputable def onL (r:Res (List D)) (k:List D->Out):Out:=match r with
 | .ok d=>k d
 | _=>.stuck
theorem kl' {r:Res (List D)} {k:List D->Out} (h:∀ds x δ',k ds≠.err x δ') (x:Exn) (δ':DS):onL r k≠.err x δ':=by
 cases r with
 | ok d=>exact h d x δ'
 | stuck=>intro z; cases z
 | err _=>intro z; cases z
section
variable {X:Cx} {tg iter:Expr} {body:List Stmt} {t:TGD} {fb:DS->Out} {pos:Pos} {G H:Hp} {E:Ends}
theorem PGD.pg (h:PGD X tg t):PG X.nox tg (gD X t):=by
 intro pins s σ H v u Q I r hq;obtain ⟨G,δ,d,δ',R,p,e,q⟩:=hq;exact thn (h _ pins s σ G H δ δ' d v u I.unwish r R p e) fun _ s1 ⟨σ',I',R'⟩=>⟨σ',H,I'.wish _,q σ' R'⟩
theorem hB' {ds:List D} {d:D} {δ:DS} {v:V} {σ:St} {N:St->Hp->Prop} (R:RepSt X.K G H σ δ) (p:Rep X.K H d v) (h:NOut X G H (forD t fb (d :: ds) δ) E)
  (hN:∀δ' σ' H',TK H H'->RepSt X.K G H' σ' δ'->NOut X G H' (forD t fb ds δ') E->N σ' H'):gD X t v σ H fun σ2 H2=>sD X fb { E with nx:=N,ct:=N,bk:=E.nx } σ2 H2:=by
 rw [forD] at h
 cases z:t d δ with
 | none=>rw [z] at h; exact h.elim
 | some δ1 =>
  rw [z] at h;refine ⟨G,δ,d,δ1,R,p,z,fun σ' R'=>⟨G,δ1,R',?_⟩⟩;simp only at h
  cases q:fb δ1 with
  | stuck=>rw [q] at h; exact h
  | err x δ'=>rw [q] at h; exact h
  | nxt δ'=>rw [q] at h; exact fun σ2 H2 t2 r2=>hN δ' σ2 H2 t2 r2 (h.tk t2)
  | cnt δ'=>rw [q] at h; exact fun σ2 H2 t2 r2=>hN δ' σ2 H2 t2 r2 (h.tk t2)
  | brk δ'=>rw [q] at h; exact fun σ2 H2 t2 r2=>h σ2 H2 t2 r2
  | ret d=>rw [q] at h; exact fun v H2 t2 g r2=>h v H2 t2 g r2
noncomputable def rng1:List D->Res (List D)
 | [.int j]=>if -(2 ^ 62)<=j/\j < 2 ^ 62 then .ok (rangeD 0 j.toNat) else .stuck
 | _=>.stuck
end
theorem cO' (o:Obj) (f):(o.mapFields f).dict=o.dict:=by
 obtain ⟨c,d,dt,sl⟩:=o; cases dt <;> rfl
noncomputable def FlyT (h0:Heap) (H:Hp) (h:Heap) (e:Addr) (cls:Value×Option Addr) (fl:Value):Prop :=
 NoRec h0 e/\H e=none/\∃oe vs a0 T oT ts,h.get? e=some oe/\(oe.cls=cls.1/\oe.dict=cls.2)/\oe.data=.fields vs/\vs[0]? = some a0/\vs[1]? = some (.ref T)/\NoRec h0 T/\H T=none/\T≠e/\h.get? T=some oT/\oT.data=.fields ts/\ts[3]? = some fl
theorem FlyT.fly {h0:Heap} {H:Hp} {h:Heap} {e:Addr} {cls:Value×Option Addr} (f:FlyT h0 H h e cls .none):Fly h0 H h e cls:=by
 obtain ⟨n,he,oe,vs,a0,T,oT,ts,q1,q2,q3,q4,q5,q6⟩:=f;exact ⟨n,he,oe,vs,a0,q1,q2,q3,q4,.inr ⟨T,oT,ts,q5,q6⟩⟩
noncomputable def InEx (h:Heap) (e b:Addr):Prop:=b=e\/∃oe vs,h.get? e=some oe/\oe.data=.fields vs/\vs[1]? = some (.ref b)
structure KF (e:Addr) (fs:List Addr) (h h':Heap):Prop where
 keep:∀b o,h.get? b=some o->b∉fs->¬InEx h e b->h'.get? b=some o
 slot:∀b o,h.get? b=some o->b∈fs->¬InEx h e b->∃sl,h'.get? b=some { o with slots:=sl }
 there:∀b o,h.get? b=some o->∃o',h'.get? b=some o'
theorem Fly.ex {h0 h:Heap} {H:Hp} {e b:Addr} {cls:Value×Option Addr} (f:Fly h0 H h e cls) (x:InEx h e b):NoRec h0 b/\H b=none/\∃o vs,h.get? b=some o/\o.data=.fields vs:=by
 obtain ⟨n,he,oe,vs,a0,q1,q2,q3,q4,q5⟩:=f;rcases x with rfl | ⟨oe',vs',w1,w2,w3⟩
 ·exact ⟨n,he,oe,vs,q1,q3⟩
 ·rw [q1] at w1; cases w1;rw [q3] at w2; cases w2;rcases q5 with q5 | ⟨T,oT,ts,z1,z2,z3,z4,z5,z6,z7⟩
  ·rw [q5] at w3; cases w3
  ·rw [z1] at w3; cases w3;exact ⟨z2,z3,oT,ts,z5,z6⟩
theorem FlyT.ex {h0 h:Heap} {H:Hp} {e b:Addr} {cls:Value×Option Addr} {fl:Value} (f:FlyT h0 H h e cls fl) (x:InEx h e b):NoRec h0 b/\H b=none/\∃o vs,h.get? b=some o/\o.data=.fields vs:=by
 obtain ⟨n,he,oe,vs,a0,T,oT,ts,q1,q2,q3,q4,z1,z2,z3,z4,z5,z6,z7⟩:=f;rcases x with rfl | ⟨oe',vs',w1,w2,w3⟩
 ·exact ⟨n,he,oe,vs,q1,q3⟩
 ·rw [q1] at w1; cases w1;rw [q3] at w2; cases w2;rw [z1] at w3; cases w3;exact ⟨z2,z3,oT,ts,z5,z6⟩
section
variable {M:Model} {A:Around} {E:Value->Shared->Prop} {s:Shared} {base h0:Heap} {H:Hp} {env:Env} {outer:List Env} {L e:Addr} {Q:Unit->Shared->Prop}
theorem dM' {oe:Obj} {vs:Array Value} {head a0:Value} {hadNext:Bool}
  (hfr:A.frames=some (env :: outer)) (hl:s.heap.FunFrames base (env :: outer)) (hf:env.frame=some L) (hz:h0.objs.size<=s.heap.objs.size) (hn:∀b,s.heap.objs.size<=b->H b=none)
  (nr:NoRec h0 e) (hH:H e=none) (he:s.heap.get? e=some oe) (hd:oe.data=.fields vs) (hsz:1 < vs.size) (h0':vs[0]? = some a0)
  (h:∀h',(∀b o,b≠e->s.heap.get? b=some o->b∉(env :: outer).filterMap (·.frame)->h'.get? b=some o)->(∀b o,b≠e->s.heap.get? b=some o->∃sl,h'.get? b=some { o with slots:=sl })->FlyT h0 H h' e (oe.cls,oe.dict) (rawInt L)->(∀b,InEx h' e b->b=e\/s.heap.objs.size<=b)->Q () { s with heap:=h' }) :
  wpAny M A (do let a <- frameOf env; let pl <- entryPlaceOf L hadNext; let b <- EntryCells.newEntry head a .none (rawInt L) .none pl; setField (.ref e) 1 b) Q E s:=by
 have hene:e∉(env :: outer).filterMap (·.frame):=fun hm=>by
  obtain ⟨_,o,ho,hnf⟩:=hl.mem hm;rw [he] at ho; injection ho with ho; subst ho; exact hnf vs hd
 refine wpAny_bind (wpAny_frameOf_fun hfr hl hf fun h₁ hs₁=>?_);refine wpAny_bind (wpAny_entryPlaceOf fun pl hpl=>?_);unfold EntryCells.newEntry newFields;refine wpAny_bind (wpAny_newObj_type ?_ (hpl.sizeOk5 _ _ _ _ _));have he₁:h₁.get? e=some oe:=(hs₁.2.1 e hene).trans he;generalize hob:({ cls:=.type "traceback",dict:=none,data:=.fields ([head,.ref L,.none,rawInt L,.none] ++ (if pl.isEmpty then List.replicate 6 Value.none else pl)).toArray }:Obj)=ob
 have hobd:ob.data=.fields ([head,.ref L,.none,rawInt L,.none] ++ (if pl.isEmpty then List.replicate 6 Value.none else pl)).toArray:=by rw [<- hob]
 have hobf:ob.isFreed=false:=Obj.isFreed_of_fields hobd;have he₂:=Heap.get?_push_of_some (h:=h₁) ob he₁;refine wpAny_setField he₂ hd hsz ?_;have hTe:h₁.objs.size≠e:=Nat.ne_of_gt (Heap.lt_size he₁);have hd₃:=Obj.data_mapFields hd (·.setIfInBounds 1 (Value.ref h₁.objs.size));have he₃:=Heap.get?_update_self (Obj.mapFields (·.setIfInBounds 1 (Value.ref h₁.objs.size))) he₂ (Obj.isFreed_of_fields hd₃);have hT₃:=(Heap.get?_update_other (h₁.push ob) (Obj.mapFields (·.setIfInBounds 1 (Value.ref h₁.objs.size))) (Ne.symm hTe)).trans (Heap.get?_push_size h₁ hobf);have keep:∀b o,b≠e->h₁.get? b=some o->((h₁.push ob).update e (Obj.mapFields (·.setIfInBounds 1 (Value.ref h₁.objs.size)))).get? b=some o:=fun b o hbe hb=>by
  rw [Heap.get?_update_other _ _ (Ne.symm hbe)];exact Heap.get?_push_of_some _ hb
 refine h _ (fun b o hbe hb hbf=>keep b o hbe ((hs₁.2.1 b hbf).trans hb)) (fun b o hbe hb=>?_) ⟨nr,hH,_,_,a0,h₁.objs.size,_,_,he₃,⟨Obj.cls_mapFields _ _,cO' _ _⟩,hd₃,?_,?_,?_,?_,hTe,hT₃,hobd,?_⟩ fun b hx=>?_
 ·obtain ⟨sl,hs⟩:=hs₁.2.2 b o hb;exact ⟨sl,keep b _ hbe hs⟩
 ·rw [Array.getElem?_setIfInBounds_ne (by decide)]; exact h0'
 ·simp [hsz]
 ·intro o vs' ho;have:=Heap.lt_size ho;rw [hs₁.1] at this;exact absurd this (Nat.not_lt.mpr hz)
 ·exact hn _ (by rw [hs₁.1]; exact Nat.le_refl _)
 ·simp
 ·rcases hx with z | ⟨oe',vs',w1,w2,w3⟩
  ·exact .inl z
  ·rw [he₃] at w1; cases w1;rw [hd₃] at w2; cases w2;have w4:(vs.setIfInBounds 1 (Value.ref h₁.objs.size))[1]? = some (.ref h₁.objs.size):=by simp [hsz]
   rw [w4] at w3; cases w3;exact .inr (by rw [hs₁.1]; exact Nat.le_refl _)
theorem eQ' {cls:Value×Option Addr} {fl:Value} (f:FlyT h0 H s.heap e cls fl) (h:∀h',(∀b o,s.heap.get? b=some o->¬InEx s.heap e b->h'.get? b=some o)->(∀b o,s.heap.get? b=some o->∃o',h'.get? b=some o')->FlyT h0 H h' e cls .none->(∀b,InEx h' e b->InEx s.heap e b)->Q () { s with heap:=h' }):wpAny M A (setFlight (.ref e) none) Q E s:=by
 obtain ⟨nr,hH,oe,vs,a0,T,oT,ts,he,hc,hd,h0',h1,nT,hT,hTe,gT,dT,h3⟩:=f;have hsz:=(Array.getElem?_eq_some_iff.mp h3).1;refine wpAny_setFlight_none he hd h1 gT dT hsz ?_;have other:∀b,b≠T->(s.heap.update T (Obj.mapFields (·.setIfInBounds 3 Value.none))).get? b=s.heap.get? b:=fun b hb=>Heap.get?_update_other _ _ (Ne.symm hb);have hd₃:=Obj.data_mapFields dT (·.setIfInBounds 3 Value.none);have hT₃:=Heap.get?_update_self (Obj.mapFields (·.setIfInBounds 3 Value.none)) gT (Obj.isFreed_of_fields hd₃);refine h _ (fun b o hb hk=>(other b ?_).trans hb) (fun b o hb=>?_) ⟨nr,hH,oe,vs,a0,T,_,_,(other e (Ne.symm hTe)).trans he,hc,hd,h0',h1,nT,hT,hTe,hT₃,hd₃,by simp [hsz]⟩ fun b hx=>?_
 ·rintro rfl
  exact hk (.inr ⟨oe,vs,he,hd,h1⟩)
 ·by_cases hbT:b=T
  ·subst hbT; exact ⟨_,hT₃⟩
  ·exact ⟨o,(other b hbT).trans hb⟩
 ·rcases hx with z | ⟨oe',vs',w1,w2,w3⟩
  ·exact .inl z
  ·exact .inr ⟨oe',vs',(other e (Ne.symm hTe)).symm.trans w1,w2,w3⟩
theorem dN' {cls:Value×Option Addr} (hfr:A.frames=some (env :: outer)) (hl:s.heap.FunFrames base (env :: outer)) (hf:env.frame=some L) (hz:h0.objs.size<=s.heap.objs.size) (hn:∀b,s.heap.objs.size<=b->H b=none)
  (fl:Fly h0 H s.heap e cls) (h:∀h',KF e ((env :: outer).filterMap (·.frame)) s.heap h'->FlyT h0 H h' e cls .none->(∀b,InEx h' e b->b=e\/s.heap.objs.size<=b)->Q () { s with heap:=h' }):wpAny M A (noteFrame (.ref e) env) (fun _ s'=>wpAny M A (setFlight (.ref e) none) Q E s') E s:=by
 have hex:=fun {b}=>fl.ex (b:=b);obtain ⟨nr,hH,oe,vs,a0,he,⟨hc,hdd⟩,hd,h0',q⟩:=fl;obtain ⟨c1,c2⟩:=cls;dsimp only at hc hdd;subst hc hdd;unfold noteFrame;simp only [hf];have fin:∀(hm:Heap),(∀b o,s.heap.get? b=some o->¬InEx s.heap e b->hm.get? b=some o)->(∀b o,b≠e->s.heap.get? b=some o->∃o',hm.get? b=some o') ->
   ∀h1,(∀b o,b≠e->hm.get? b=some o->b∉(env :: outer).filterMap (·.frame)->h1.get? b=some o)->(∀b o,b≠e->hm.get? b=some o->∃sl,h1.get? b=some { o with slots:=sl })->FlyT h0 H h1 e (oe.cls,oe.dict) (rawInt L)->(∀b,InEx h1 e b->b=e\/s.heap.objs.size<=b) ->
   wpAny M A (setFlight (.ref e) none) Q E { s with heap:=h1 }:=by
  intro hm k1 k2 h1 k4 k5 f1 k6;have nx:∀b o,s.heap.get? b=some o->b≠e->¬InEx h1 e b:=fun b o hb hbe hx=>by
   rcases k6 b hx with z | z
   ·exact hbe z
   ·exact absurd (Heap.lt_size hb) (Nat.not_lt.mpr z)
  refine eQ' (s:={ s with heap:=h1 }) f1 fun h2 k7 k8 f2 k9=>h h2 ⟨fun b o hb hbf hx=>?_,fun b o hb hbf hx=>?_,fun b o hb=>?_⟩ f2 fun b hx=>k6 b (k9 b hx)
  ·have hbe:b≠e:=fun z=>hx (.inl z);exact k7 b o (k4 b o hbe (k1 b o hb hx) hbf) (nx b o hb hbe)
  ·have hbe:b≠e:=fun z=>hx (.inl z);obtain ⟨sl,q1⟩:=k5 b o hbe (k1 b o hb hx);exact ⟨sl,k7 b _ q1 (nx b o hb hbe)⟩
  ·by_cases hbe:b=e
   ·subst hbe;obtain ⟨_,_,oe',_,_,_,_,_,q1,_⟩:=f1;exact k8 b oe' q1
   ·obtain ⟨o',q1⟩:=k2 b o hbe hb;obtain ⟨sl,q2⟩:=k5 b o' hbe q1;exact k8 b _ q2
 rcases q with h1 | ⟨T,oT,ts,h1,nT,hT,hTe,gT,dT,h3⟩
 ·refine wpAny_bind (wpAny_field he hd h1 ?_);rw [if_neg (by decide)];exact dM' hfr hl hf hz hn nr hH he hd (Array.getElem?_eq_some_iff.mp h1).1 h0' fun h1 k4 k5 f1 k6=>fin s.heap (fun b o hb _=>hb) (fun b o _ hb=>⟨o,hb⟩) h1 k4 k5 f1 k6
 ·refine wpAny_bind (wpAny_field he hd h1 ?_);rw [if_pos (show (Value.ref T != Value.none)=true from by simp)]
  refine wpAny_bind (wpAny_field gT dT h3 ?_);rw [if_neg (show ¬((Value.none == rawInt L)=true) from by simp [rawInt])]
  refine wpAny_bind (wpAny_setField gT dT (Array.getElem?_eq_some_iff.mp h3).1 ?_);have other:∀b,b≠T->(s.heap.update T (Obj.mapFields (·.setIfInBounds 3 Value.none))).get? b=s.heap.get? b:=fun b hb=>Heap.get?_update_other _ _ (Ne.symm hb);have noRecord:∀b o,s.heap.get? b=some o->(∀vs,o.data≠.fields vs)->b≠T:=fun b o hb hnf q=>by
   rw [q,gT] at hb; injection hb with hb; subst hb; exact hnf ts dT
  have hsize:(s.heap.update T (Obj.mapFields (·.setIfInBounds 3 Value.none))).objs.size=s.heap.objs.size:=by simp [Heap.update]
  have hl':(s.heap.update T (Obj.mapFields (·.setIfInBounds 3 Value.none))).FunFrames base (env :: outer):=hl.of_keeps fun b o hb hnf=>⟨o,(other b (noRecord b o hb hnf)).trans hb,rfl⟩;refine dM' (s:={ s with heap:=s.heap.update T (Obj.mapFields (·.setIfInBounds 3 Value.none)) }) hfr hl' hf (by rw [hsize]; exact hz) (fun b hb=>hn b (by rw [hsize] at hb; exact hb)) nr hH ((other e (Ne.symm hTe)).trans he) hd (Array.getElem?_eq_some_iff.mp h1).1 h0' fun h1' k4 k5 f1 k6=>fin _ (fun b o hb hx=>(other b fun z=>?_).trans hb) (fun b o hbe hb=>?_) h1' k4 k5 f1 (by rw [hsize] at k6; exact k6)
  ·subst z; exact hx (.inr ⟨oe,vs,he,hd,h1⟩)
  ·by_cases hbT:b=T
   ·subst hbT; exact ⟨_,Heap.get?_update_self _ gT (Obj.isFreed_of_fields (Obj.data_mapFields dT (·.setIfInBounds 3 Value.none)))⟩
   ·exact ⟨o,(other b hbT).trans hb⟩
end
theorem KF.plain {e:Addr} {fs:List Addr} {h h':Heap} (k:KF e fs h h') {b:Addr} {o:Obj} (q:h.get? b=some o) (n:¬InEx h e b):∃sl,h'.get? b=some { o with slots:=sl }:=by
 by_cases hb:b∈fs
 ·exact k.slot b o q hb n
 ·exact ⟨o.slots,k.keep b o q hb n⟩
theorem _root_.L2.Inv.kf {X:Cx} {pins:List (Addr×Obj)} {σ:St} {H:Hp} {s:Shared} {h':Heap} {t':Nat} {a:Addr} (I:Inv X pins σ H s) (k:KF a (frs X.stack) s.heap h')
  (hr:∀b,InEx s.heap a b->(∀o vs,X.s₀.heap.get? b=some o->X.H₀ b=none->b∉X.fs->b∉X.ex->o.data≠.fields vs)/\H b=none/\(∃o vs,s.heap.get? b=some o/\o.data=.fields vs)/\∀p∈X.pn ++ pins,p.1≠b):Inv X pins σ H { s with heap:=h',toks:=t' }:=by
 have old:∀b,b < X.s₀.heap.objs.size->b∉X.fs->b∉frs X.stack:=fun b hb hf hs=>by
  rcases List.mem_cons.mp (I.stkSub b hs) with z | z
  ·subst z; exact absurd hb (Nat.not_lt.mpr I.ok.above)
  ·exact hf z
 have insub:∀b,b∈X.fs->b∈frs X.stack:=fun b hb=>by
  rcases I.ok.stk with z | ⟨z,hf⟩
  ·rw [z]; exact hb
  ·rw [z]; unfold frs; rw [List.filterMap_cons,hf]; exact List.mem_cons_of_mem _ hb
 have norec:∀b o,s.heap.get? b=some o->(∀vs,o.data≠.fields vs)->¬InEx s.heap a b:=fun b o hb hd hx=>by
  obtain ⟨_,_,⟨o',vs,e1,e2⟩,_⟩:=hr b hx;rw [hb] at e1; cases e1;exact hd vs e2
 have cellk:∀{c:Addr} {v:Option Value},s.heap.IsCell c v->h'.IsCell c v:=fun {c v} ⟨o,e,d⟩=>by
  obtain ⟨sl,e1⟩:=k.plain e (norec c o e fun vs z=>by rw [d] at z; cases z);exact ⟨_,e1,d⟩
 refine ⟨I.ok,I.os,I.bare,⟨fun b o e n hb hx=>?_,fun b o e n hb hx=>?_,I.base.free,fun b o e hx=>?_,I.base.tups,I.base.frzs,I.base.tbls⟩,?_,fun x c e=>?_,I.free,I.freeC,fun p hpp=>?_,fun b u q=>?_,I.len⟩
 ·have q:=I.base.keep b o e n hb hx;refine k.keep b o q (old b (Heap.lt_size e) hb) fun z=>?_;obtain ⟨n1,_,⟨o',vs,e1,e2⟩,_⟩:=hr b z;rw [q] at e1; cases e1;exact n1 o vs e n hb hx e2
 ·obtain ⟨sl,q⟩:=I.base.slot b o e n hb hx;obtain ⟨_,o',ho,hd⟩:=I.funs.mem hb;rw [q] at ho; cases ho;obtain ⟨sl2,q2⟩:=k.slot b _ q (insub b hb) (norec b _ q hd);exact ⟨sl2,q2⟩
 ·obtain ⟨o',q⟩:=I.base.there b o e hx;exact k.there b o' q
 ·obtain ⟨m,⟨o,es,ep,ho,hd,r⟩,hl⟩:=I.loc;obtain ⟨sl,e1⟩:=k.plain ho (norec _ o ho fun vs z=>by rw [hd] at z; cases z);refine ⟨m,⟨_,es,ep,e1,hd,r⟩,fun i x v h1 h2 h3=>?_⟩;obtain ⟨u,r1,l⟩:=hl i x v h1 h2 h3;refine ⟨u,r1,?_⟩;rcases l with l | ⟨l1,c,l2,l3⟩
  ·exact .inl l
  ·exact .inr ⟨l1,c,l2,cellk l3⟩
 ·obtain ⟨v,q⟩:=I.cell x c e;exact ⟨v,cellk q⟩
 ·obtain ⟨e,n,ne,nf,d⟩:=I.pin p hpp;refine ⟨k.keep p.1 p.2 e (fun z=>?_) (fun z=>(hr p.1 z).2.2.2 p hpp rfl),n,ne,nf,d⟩;rcases List.mem_cons.mp (I.stkSub _ z) with w | w
  ·exact ne w
  ·exact nf w
 ·refine (I.hok b u q).stay (fun c v hc e=>?_) (fun _ z=>z) fun _ _ z=>z;have hH:H c≠none:=by
   rcases hc with rfl | hc
   ·rw [q]; intro z; cases z
   ·rw [hc]; intro z; cases z
  exact k.keep c v e (fun z=>hH (I.stkFree c z)) fun z=>hH (hr c z).2.1
noncomputable def CX1 (P:Program) (w:World):CXT:=fun outer H s E e s'=>∃a Cv H',e=.ref a/\s'.os=s.os/\AllBare s'.gens/\Un (frs outer) [] H H' s.heap s'.heap/\HOk P w H' s'.heap/\∃dd,Fly s.heap H' s'.heap a (Cv,dd)/\E Cv dd H'
noncomputable def spD (K:PySem.W.Frag) (F:List D->Res D):Sp:=fun vs H Q E=>∃ds,Reps K H ds vs/\match F ds with
 | .stuck=>False
 | .ok d=>∀v H',Same H H'->Rep K H' d v->Q v H'
 | .err x=>∀C H' dd,PySem.W.nsIn K mainGlobals x.cls=some (some (.ref C))->Same H H'->Pay K H' x dd->E (.ref C) dd H'
section
variable {X:Cx} {k:Nat} {f:Addr} {fd:FuncData} {ps:List Str} {F:List D->Res D} {x:Str} {p pos:Pos} {e:Expr} {es:List Expr} {fs:DS->Res (List D)}
theorem iW' (Fn:FnOk X.prog X.w X.K X.mg X.base (CX1 X.prog X.w) k f fd ps (spD X.K F)) (hr:Room k X.A) (hg:Gl X x) (hm:X.mg x=some (.ref f)) (hk:PySem.W.keepIn X.K (.ref f)=true) (hb:Binds X.K fd ps []) (ha:PAD X (e :: es) fs)
  (hdb:(x == ("__debug__" : Str))=false:=by decide) (he:starEach (e :: es) X.env=(false,eval e X.env) :: starEach es X.env:=by rfl) (hpl:(backTo pos (starEach es X.env)).any (·.1)=false:=by rfl) :
  PD X (.Call (.Name x p) (e :: es) [] pos) (fun δ=>(fs δ).bind F):=by
 intro pins s σ G H δ I R hs
 try dsimp only at hs ⊢
 refine wpAny_Call_Name_kw (ca' I hg hm ?_ hdb);refine PySem.W.callWith_K (h₀:=X.base) I.ok.mod.kin hk (ha.use I R (aA' hs) (fun ds us s1 vs H1 q I1 r1 e1 b1 p1=>⟨I1.kIn,?_⟩) fun e s1 q=>q.same fun x z=>aL' z) he hpl;have h2:=aP' hs q;have ev:(fs δ).bind F=F ds:=by rw [q]; rfl
 cases qg:F ds with
 | stuck=>exact (h2 qg).elim
 | ok d =>
  have hsp:spD X.K F vs H1 (fun v H'=>Same H1 H'/\Rep X.K H' d v) (fun _ _ _=>False):=⟨ds,p1,by rw [qg]; exact fun v H' a b=>⟨a,b⟩⟩;have hl:us.length=ps.length:=by rw [<- r1.length]; exact Fn.len _ _ _ _ hsp
  refine wpAny_call (codeAny_mono (Fn.run X.A X.stack s1 H1 ⟨us,[]⟩ us vs _ _ hr I1.env0 (by simpa using hb s1 us I1.kIn (by simpa using hl)) r1 hsp) fun r s' hq=>?_)
  cases r with
  | error e=>obtain ⟨_,_,_,_,_,_,_,_,_,_,z⟩:=hq; exact z.elim
  | ok fl =>
   cases fl with
   | ret u =>
    obtain ⟨v,H',I',r',e',p'⟩:=I1.after hq;exact ⟨d,v,H',ev.trans qg,I',r',e1.trans e',p'⟩
   | next=>exact False.elim hq
   | brk=>exact False.elim hq
   | cont=>exact False.elim hq
 | err z =>
  have hsp:spD X.K F vs H1 (fun v H'=>False) (fun Cv dd H'=>∃C,Cv=.ref C/\PySem.W.nsIn X.K mainGlobals z.cls=some (some (.ref C))/\Same H1 H'/\Pay X.K H' z dd):=⟨ds,p1,by rw [qg]; exact fun C H' dd a b c=>⟨C,rfl,a,b,c⟩⟩;have hl:us.length=ps.length:=by rw [<- r1.length]; exact Fn.len _ _ _ _ hsp
  refine wpAny_call (codeAny_mono (Fn.run X.A X.stack s1 H1 ⟨us,[]⟩ us vs _ _ hr I1.env0 (by simpa using hb s1 us I1.kIn (by simpa using hl)) r1 hsp) fun r s' hq=>?_)
  cases r with
  | error e =>
   obtain ⟨a,Cv,H',rfl,os,bare,un,hok,dd,fly,C,rfl,hC,sm,pay⟩:=hq;exact ⟨z,a,C,H',ev.trans qg,rfl,I1.call' (ch:=[]) os un hok bare (fun b z=>absurd z (by simp)),e1.trans sm,hC,dd,pay,fly.back e1.tk sm.tk b1⟩
  | ok fl =>
   cases fl with
   | ret u =>
    obtain ⟨v,H',_,_,_,_,_,z⟩:=hq;exact z.elim
   | next=>exact False.elim hq
   | brk=>exact False.elim hq
   | cont=>exact False.elim hq
end
noncomputable def startD (n N:Nat) (ds:List D):DS:=ds.map (fun d=>some (.arg d)) ++ List.replicate (N - n) none
noncomputable def outD:Out->Res D
 | .ret d=>.ok d
 | .nxt _=>.ok .non
 | .err x _=>.err x
 | _=>.stuck
noncomputable def fnD (n N:Nat) (body:DS->Out):List D->Res D:=fun ds=>if ds.length=n then outD (body (startD n N ds)) else .stuck
theorem gj' {K:PySem.W.Frag} {H:Hp} {ds:List D} {vs:List V} (N:List Str) (r:Reps K H ds vs):RepSt K H H (start N vs) (startD ds.length N.length ds):=by
 have hl:=r.length;refine ⟨Same.refl H,?_,fun i sv e=>?_,fun i j as es v hij e1 e2=>?_⟩
 ·unfold L2.start startD;simp [hl]
 ·unfold startD at e
  by_cases hi:i < ds.length
  ·rw [List.getElem?_append_left (by simpa using hi),List.getElem?_map] at e
   cases q:ds[i]? with
   | none=>rw [q] at e; cases e
   | some d =>
    rw [q] at e;simp only [Option.map_some,Option.some.injEq] at e;subst e;obtain ⟨v,e1,e2⟩:=r.get q;refine ⟨v,?_,e2⟩;unfold L2.start;rw [List.getElem?_append_left (by simpa [hl] using hi),List.getElem?_map,e1];rfl
  ·rw [List.getElem?_append_right (by simpa using hi),List.getElem?_replicate] at e
   split at e <;> cases e
 ·exfalso;unfold startD at e1
  by_cases hi:i < ds.length
  ·rw [List.getElem?_append_left (by simpa using hi),List.getElem?_map] at e1
   cases q:ds[i]? with
   | none=>rw [q] at e1; cases e1
   | some d=>rw [q] at e1; cases e1
  ·rw [List.getElem?_append_right (by simpa using hi),List.getElem?_replicate] at e1
   split at e1 <;> cases e1
section
variable {P:Program} {w:World} {K:PySem.W.Frag} {mg:Str->Option Value} {base:Heap}
theorem gk' {N:List Str} {qual:Str} {scope:Scope} {f:Addr} {cdv:Value} {A:Around} {outer:List Env} {s:Shared} {H:Hp} {E:XK} {pins:List (Addr×Obj)} {σ':St} {H':Hp} {s':Shared} {a:Addr} {Cv:Value}
  (I:Inv (cxOf (CX1 P w) P w K mg base N qual scope f cdv A outer s H E) pins σ' H' s') {dd:Option Addr} (fl:Fly s.heap H' s'.heap a (Cv,dd)) (hE:E Cv dd H') :
  (cxOf (CX1 P w) P w K mg base N qual scope f cdv A outer s H E).xe (.ref a) s':=by
 show wpAny (model P w) (A.deeper (envOfC qual scope s.heap.objs.size f cdv)) (leaving (envOfC qual scope s.heap.objs.size f cdv) (.ref a)) (fun _ s''=>CX1 P w outer H s E (.ref a) s'') _ s';have hz:s.heap.objs.size<=s'.heap.objs.size:=I.sz;have hn:∀b,s'.heap.objs.size<=b->H' b=none:=fun b hb=>I.hok.fresh hb;unfold leaving;refine wpAny_bind (dN' (base:=base) I.ok.frames I.stack rfl hz hn fl fun h2 k2 f2 _=>?_);have I0:Inv (cxOf (CX1 P w) P w K mg base N qual scope f cdv A outer s H E) [] σ' H' s':=I.pins_of fun p hp=>absurd hp (by simp);have J:=I0.kf (h':=h2) (t':=s'.toks) k2 fun b hx=>by
  obtain ⟨n1,n2,n3⟩:=fl.ex hx;exact ⟨fun o vs e _ _ _=>n1 o vs e,n2,n3,fun p hp=>absurd (show p∈([]:List (Addr×Obj)) ++ [] from hp) (by simp)⟩
 exact ⟨a,Cv,H',rfl,I.os,I.bare,J.base,J.hok,dd,f2.fly,hE⟩
noncomputable def tB (X:Cx) (f:DS->Out):TS:=fun D σ H=>∃G δ,RepSt X.K G H σ δ/\f δ≠.stuck/\(∀pins fl s1,SPost X pins G H (f δ) fl s1->SP X pins D fl s1)/\∀pins s2 e s1,Inv X pins σ H s2->SX X pins G H s2.heap (f δ) e s1->X.xe e s1
theorem PSDs.tb {X:Cx} {st:List Stmt} {f:DS->Out} (h:PSDs X st f):PSs X st (tB X f):=by
 intro pins s σ H D I ⟨G,δ,R,n,k1,k2⟩;exact wpAny_mono (h pins s σ G H δ I R n) (fun fl s1 p=>k1 pins fl s1 p) fun e s1 p=>k2 pins s e s1 I p
theorem km' {x qual:Str} {st:Stmt} {f:Addr} {fd:FuncData} {N ps:List Str} {k:Nat} {body:DS->Out} (F:Fun K x qual st f fd) (S:FnScope N ps (defScope st))
  (hb:∀(cdv:Value) (A:Around) (outer:List Env) (s:Shared) (H:Hp) (E:XK),Room k (A.deeper (envOfC qual (defScope st) s.heap.objs.size f cdv))->PSDs (cxOf (CX1 P w) P w K mg base N qual (defScope st) f cdv A outer s H E) (defBody st) body) :
  FnOk P w K mg base (CX1 P w) (k + 1) f fd ps (spD K (fnD ps.length N.length body)):=by
 obtain ⟨oc,od,kV,doc,pm,an,cdv,ct,osl,rfl,lk,hcd⟩:=F.ex;refine iO' lk hcd S (fun vs H Q E ⟨ds,r,h⟩=>?_) fun A outer s H vs Q E hr hsp=>?_
 ·rw [r.length];unfold fnD at h
  by_cases c:ds.length=ps.length
  ·exact c
  ·rw [if_neg c] at h; exact h.elim
 ·obtain ⟨ds,r,h⟩:=hsp;have c:ds.length=ps.length:=by
   unfold fnD at h
   by_cases c:ds.length=ps.length
   ·exact c
   ·rw [if_neg c] at h; exact h.elim
  have ev:fnD ps.length N.length body ds=outD (body (startD ds.length N.length ds)):=by unfold fnD; rw [if_pos c,c]
  rw [ev] at h;refine ⟨_,(hb cdv A outer s H E hr).tb,H,startD ds.length N.length ds,gj' N r,fun z=>?_,fun pins fl s1 p=>?_,fun pins s2 e s1 I p=>?_⟩
  ·rw [z] at h; exact h
  ·cases fl with
   | next =>
    obtain ⟨δ',σ',H',q1,q2,q3,q4⟩:=p;rw [q1] at h;exact ⟨σ',H',q2,h .non H' q4.same mkN⟩
   | brk=>obtain ⟨δ',σ',H',q1,_⟩:=p; rw [q1] at h; exact h.elim
   | cont=>obtain ⟨δ',σ',H',q1,_⟩:=p; rw [q1] at h; exact h.elim
   | ret u =>
    obtain ⟨d,v,σ',H',q1,q2,q3,q4,q5,q6⟩:=p;rw [q1] at h;exact ⟨v,σ',H',q2,q5,h v H' q4 q6⟩
  ·obtain ⟨x,δ',a,C,σ',H',q1,rfl,q3,q4,q5,q6,dd,pay,q7⟩:=p;rw [q1] at h;refine gk' q3 ?_ (h C H' dd q6 q5.same pay);refine q7.back (h0:=s.heap) (H0:=H) (H1:=H) (TK.refl H) q4 fun e n z o vs ho hd=>?_
   by_cases hf:e∈frs outer
   ·obtain ⟨_,o',ho',hd'⟩:=I.ok.funs.mem hf;have ho2:s.heap.get? e=some o':=ho';rw [ho] at ho2
    cases ho2
    exact hd' vs hd
   ·exact z o vs (I.base.keep e o ho n hf (by intro z; exact absurd z (by show e∉([]:List Addr); simp))) hd
end
theorem gl' {K:PySem.W.Frag} {h₀:Heap} {mg:Str->Option Value} {x:Str} {C:Addr} {bmB:List Value} {newId:String} (X:K.In h₀) (hm:mg x=some (.ref C)) (q:PySem.W.excIn K C bmB newId=true):OwnCls x C bmB newId mg h₀:=by
 refine ⟨hm,?_⟩;unfold PySem.W.excIn at q
 split at q
 ·rename_i dd cd sl ho
  split at q
  ·rename_i C' bm k0 k1 k2 k3 n k5 hm hs;simp only [Bool.and_eq_true,beq_iff_eq,Bool.not_eq_true'] at q;obtain ⟨⟨⟨⟨⟨rfl,rfl⟩,hdel⟩,ht⟩,hok⟩,hni⟩:=q;obtain ⟨nm,bs,mro,ns,qn,hd,sn,sub,ab,col,del⟩:=cd;dsimp only at hm hdel hok hni;subst hm hdel;have hsl:sl = #[k0,k1,k2,k3,some (.builtin n),k5]:=by
    obtain ⟨l⟩:=sl;simp only at hs;rw [hs]
   subst hsl;exact ⟨bm,ns,nm,qn,bs,hd,sn,sub,ab,col,dd,k0,k1,k2,k3,k5,_,X _ _ ho,.of_isNs (PySem.W.isNs_of_in X hok),PySem.W.nsMap_none_of_in X hok hni,PySem.W.tail_of_in X ht⟩
  ·cases q
 ·cases q
noncomputable def raiseD (x:Str) (fs:DS->Res (List D)):DS->Out:=fun δ=>match fs δ with
 | .ok _=>.err ⟨x,none⟩ δ
 | .err y=>.err y δ
 | .stuck=>.stuck
section
variable {X:Cx} {e:Expr} {es:List Expr} {fs:DS->Res (List D)} {np cpos pos:Pos} {x:Str} {C:Addr} {B newId initId:String} {bmB:List Value}
theorem dO' (hc:X.calm=true) (FB:ExcBaseFacts B newId initId bmB) (hx:PySem.W.nsIn X.K mainGlobals x=some (some (.ref C))) (q:PySem.W.excIn X.K C bmB newId=true) (hg:Gl X x) (hm:X.mg x=some (.ref C)) (ha:PAD X (e :: es) fs) (hsz:(e :: es).length<=100)
  (hdb:(x == ("__debug__" : Str))=false:=by decide) (he:starEach (e :: es) X.env=(false,eval e X.env) :: starEach es X.env:=by rfl) (hplain:(backTo cpos (starEach es X.env)).any (·.1)=false:=by rfl) (hlen:∀δ ds,fs δ=.ok ds->ds.length<=sizeLine) :
  PSD X (.Raise (some (.Call (.Name x np) (e :: es) [] cpos)) none pos) (raiseD x fs):=by
 intro pins s σ G H δ I R hs
 try dsimp only at hs ⊢
 have hs':fs δ≠.stuck:=fun z=>hs (by unfold raiseD; rw [z]);obtain ⟨tl,N,nm,qn,bs,hdct,sn,sub,ab,col,dd,k0,k1,k2,k3,k5,mN,hC,hN,hni,T⟩:=(gl' I.ok.mod.kin hm q).obj;refine wpAny_Raise_call_subT (C:=C) (nm:=nm) (q:=qn) (N:=N) (bs:=bs) (bm:=tl) (hdct:=hdct) (sn:=sn) (sub:=sub) (ab:=ab) (col:=col) (dd:=dd) (k0:=k0) (k1:=k1) (k2:=k2) (k3:=k3) (k5:=k5)
  FB (mN:=mN) (T.hasType FB.hasBase) (I.ok.hd hc) (by rw [he]; show (false || (backTo cpos (starEach es X.env)).any (·.1))=false; rw [hplain]; rfl) hni (ca' I hg hm ⟨rfl,?_⟩ hdb)
 have ha':=fun {P:List Value->Shared->Prop} {E:Value->Shared->Prop} k kx=>PAD.use (pos:=cpos) (P:=P) (E:=E) ha I R hs' k kx;rw [he] at ha' ⊢;refine Calls.evalArgs_plain (ha' (fun ds us s1 vs H1 q1 I1 r1 e1 b1 p1=>⟨rfl,?_,I1.bk _ _ hC,hN.keeps I1.bk,T.keeps I1.bk,fun h' a hme=>?_⟩) fun e s1 p=>?_)
 ·rw [<- r1.length,p1.length]; exact hlen δ ds q1
 ·obtain ⟨t,ht,ht2,ht3⟩:=hme.there;have hn:H1 a=none:=by
   cases z:H1 a with
   | none=>rfl
   | some u =>
    obtain ⟨ob,q⟩:=obj_some (I1.hok a u z);rw [hme.new] at q; cases q
  refine ⟨⟨x,none⟩,δ,a,C,σ,H1,by unfold raiseD; rw [q1],rfl,I1.kept (t':=s1.toks) hme.keeps,e1.tk,R.mono e1,hx,?_⟩;refine ⟨none,rfl,b1 a (e1.free hn) (fun o vs ho=>by rw [hme.new] at ho; cases ho),hn,_,_,_,ht,⟨rfl,rfl⟩,rfl,rfl,.inl rfl⟩
 ·exact p.sx R fun x z=>by unfold raiseD; rw [z]
end
theorem _root_.L2.Inv.goes {X:Cx} {pins:List (Addr×Obj)} {σ:St} {H:Hp} {s:Shared} {M:Model} {A:Around} {E:Value->Shared->Prop} {Q:Unit->Shared->Prop} {i:Nat} {n:Str} {pos:Pos}
  (I:Inv X pins σ H s) (hN:X.N.Nodup) (hi:X.N[i]? = some n) (hk:X.env.scope.names.lookup n=some .local) (h:∀s',Inv X pins (σ.set i none) H s'->Q () s'):wpAny M A (do bindName X.env n .none; unbindBehindTheSuite X.env n pos) Q E s:=by
 obtain ⟨m,hn,hl⟩:=id I.loc;have hcls:(X.env.scope.kind == .class || (X.env.scope.kind == .module && X.env.locals != X.env.globals))=false:=by rw [I.ok.kind]; rfl
 have cne:=I.cne;refine wpAny_nameGoes_keeps hk hn hcls fun h' v hn' hs=>h _ ?_;obtain ⟨oL,_,_,hoL,_⟩:=id hn;have tracked:HOk X.prog X.w H h':=fun b ob e=>by
  refine (I.hok b ob e).stay (fun c w' hc q=>(hs.2 c ?_).trans q) (fun _ q=>q) fun _ _ q=>q
  rintro rfl
  rcases hc with rfl | hc
  ·rw [I.free] at e; cases e
  ·rw [I.free] at hc; cases hc
 refine ⟨I.ok,I.os,I.bare,⟨fun b o e n hb hx=>?_,fun b o e n hb hx=>?_,I.base.free,fun b o e hx=>?_,I.base.tups,I.base.frzs,I.base.tbls⟩,⟨_,hn',fun j y v' e1 e2 e3=>?_⟩,fun y c e=>?_,I.free,I.freeC,fun p hp=>?_,tracked,by simpa using I.len⟩
 ·exact (hs.2 b (Nat.ne_of_lt (Nat.lt_of_lt_of_le (Heap.lt_size e) I.ok.above))).trans (I.base.keep b o e n hb hx)
 ·obtain ⟨sl,e1⟩:=I.base.slot b o e n hb hx;exact ⟨sl,(hs.2 b (Nat.ne_of_lt (Nat.lt_of_lt_of_le (Heap.lt_size e) I.ok.above))).trans e1⟩
 ·obtain ⟨o',e1⟩:=I.base.there b o e hx;exact ⟨o',(hs.2 b (Nat.ne_of_lt (Nat.lt_of_lt_of_le (Heap.lt_size e) I.ok.above))).trans e1⟩
 ·by_cases hj:j=i
  ·subst hj;rw [List.getElem?_set] at e2
   split at e2
   ·split at e2 <;> cases e2
   ·rename_i z; exact absurd rfl z
  ·rw [List.getElem?_set_ne (Ne.symm hj)] at e2;obtain ⟨u',r',q⟩:=hl j y v' e1 e2 e3;refine ⟨u',r',?_⟩;rcases q with ⟨k,e⟩ | ⟨k,c,e,z⟩
   ·refine .inl ⟨k,?_⟩;have:y≠n:=fun e=>hj (dd' hN e1 (e ▸ hi));simp [this,e]
   ·exact .inr ⟨k,c,e,z.sameBut hs (cne y c e)⟩
 ·obtain ⟨w',z⟩:=I.cell y c e;exact ⟨w',z.sameBut hs (cne y c e)⟩
 ·obtain ⟨e,n,ne,nf,d⟩:=I.pin p hp;exact ⟨(hs.2 p.1 ne).trans e,n,ne,nf,d⟩
theorem RepSt.clear {K:PySem.W.Frag} {G H:Hp} {σ:St} {δ:DS} (R:RepSt K G H σ δ) (i:Nat):RepSt K G H (σ.set i none) (δ.set i none) where
 same:=R.same
 len:=by simpa using R.len
 at_:=fun j sv e=>by
  by_cases hj:i=j
  ·subst hj;rw [List.getElem?_set] at e
   split at e
   ·split at e <;> cases e
   ·rename_i z; exact absurd rfl z
  ·rw [List.getElem?_set_ne hj] at e;obtain ⟨u,e1,e2⟩:=R.at_ j sv e;exact ⟨u,by rw [List.getElem?_set_ne hj]; exact e1,e2⟩
 sep:=fun j k ds es u hjk e1 e2 e3=>by
  have n1:i≠j:=by
   rintro rfl
   rw [List.getElem?_set] at e1
   split at e1
   ·split at e1 <;> cases e1
   ·omega
  have n2:i≠k:=by
   rintro rfl
   rw [List.getElem?_set] at e2
   split at e2
   ·split at e2 <;> cases e2
   ·omega
  rw [List.getElem?_set_ne n1] at e1 e3;rw [List.getElem?_set_ne n2] at e2;rw [List.getElem?_set_ne n2];exact R.sep j k ds es u hjk e1 e2 e3
abbrev _root_.L2.Cx.marked (X:Cx) (a:Addr):Cx:={ X with A:=X.A.mark (some (.ref a)),calm:=false }
theorem _root_.L2.Inv.marked {X:Cx} {pins:List (Addr×Obj)} {σ:St} {H:Hp} {s:Shared} (I:Inv X pins σ H s) (a:Addr):Inv (X.marked a) pins σ H s :=
 ⟨⟨I.ok.mod,I.ok.kind,I.ok.glob,I.ok.blt,I.ok.above,I.ok.inj,I.ok.has,I.ok.cab,fun z=>(by cases z),I.ok.frames,I.ok.stk,I.ok.exf,I.ok.bs,I.ok.bsz,I.ok.noex,I.ok.exfs,I.ok.funs,I.ok.frf⟩,I.os,I.bare,I.base,I.loc,I.cell,I.free,I.freeC,I.pin,I.hok,I.len⟩
theorem _root_.L2.Inv.unmarked {X:Cx} {pins:List (Addr×Obj)} {σ:St} {H:Hp} {s:Shared} {a:Addr} (ok:X.Ok) (I:Inv (X.marked a) pins σ H s):Inv X pins σ H s :=
 ⟨ok,I.os,I.bare,I.base,I.loc,I.cell,I.free,I.freeC,I.pin,I.hok,I.len⟩
theorem _root_.L2.Inv.track {X:Cx} {pins:List (Addr×Obj)} {σ:St} {H:Hp} {s:Shared} {a:Addr} {o:HO} (I:Inv X pins σ H s) (hn:H a=none) (h0:∀ob,X.s₀.heap.get? a=some ob->X.H₀ a=none->a∈X.ex) (hl:a≠X.env.locals) (hc:∀x c,X.env.cells.lookup x=some c->c≠a) (hp:∀p∈X.pn ++ pins,p.1≠a)
  (new:ObjOk X.prog X.w (upd H a o) s.heap a o):Inv X pins σ (upd H a o) s:=by
 refine ⟨I.ok,I.os,I.bare,⟨I.base.keep,I.base.slot,fun b ob e n hx=>?_,I.base.there,fun b xs e=>?_,fun b ob u e=>?_,fun b ps e=>?_⟩,I.loc,I.cell,?_,fun x c e=>?_,fun p hpp=>?_,fun b u q=>?_,I.len⟩
 ·rw [al' (fun z=>?_)]
  ·exact I.base.free b ob e n hx
  ·subst z;exact hx (h0 ob e n)
 ·rw [al' (az' (I.base.tups b xs e) hn)]; exact I.base.tups b xs e
 ·rw [al' (az' (I.base.frzs b ob u e) hn)]; exact I.base.frzs b ob u e
 ·obtain ⟨more,q⟩:=I.base.tbls b ps e;exact ⟨more,by rw [al' (az' q hn)]; exact q⟩
 ·rw [al' (Ne.symm hl)]; exact I.free
 ·rw [al' (hc x c e)]; exact I.freeC x c e
 ·obtain ⟨e,n,ne,nf,d⟩:=I.pin p hpp;exact ⟨e,by rw [al' (hp p hpp)]; exact n,ne,nf,d⟩
 ·by_cases hb:b=a
  ·subst hb; rw [an'] at q; cases q; exact new
  ·rw [al' hb] at q;refine (I.hok b u q).stay (fun c v _ e=>e) (fun c z=>?_) fun c xs z=>?_
   ·rw [al' (az' z hn)]; exact z
   ·rw [al' (az' z hn)]; exact z
noncomputable def Exn.toD (x:Exn):D:=match x.pay with
 | none=>.exc x.cls
 | some (f,d)=>.excf x.cls f d
noncomputable def tryD (i:Nat) (sub:Str->Option Bool) (fb fsu:DS->Out):DS->Out:=fun δ=>match fb δ with
 | .err x δ'=>(match sub x.cls with
  | some true=>(match fsu (δ'.set i (some (.val x.toD))) with
   | .nxt δ2=>.nxt (δ2.set i none)
   | .ret d=>.ret d
   | _=>.stuck)
  | _=>.stuck)
 | o=>o
noncomputable def noObjs (h:Heap):Heap:={ h with objs:=#[] }
theorem cX' (h:Heap) (b:Addr):NoRec (noObjs h) b:=fun o vs e=>absurd (Heap.lt_size e) (Nat.not_lt_zero _)
section
variable {X:Cx} {body suite:List Stmt} {b₀:Stmt} {fb fsu:DS->Out} {sub:Str->Option Bool} {n c:Str} {C':Addr} {cp hpos pos:Pos}
theorem iX' (i:Nat) (hcalm:X.calm=true) (hst:X.stack=X.env :: X.outer/\X.env.frame=some X.env.locals) (hN:X.N.Nodup) (hcn:Gl X c) (hcm:X.mg c=some (.ref C'))
  (hsub:∀x C,PySem.W.nsIn X.K mainGlobals x=some (some (.ref C))->sub x=some true->PySem.W.exmOne X.K (.ref C) (.ref C')=some true) (hb:PSDs X body fb) (hsu:∀a,PSDs (X.marked a) (b₀ :: suite) fsu)
  (hi:X.N[i]? = some n:=by rfl) (hk:X.env.scope.names.lookup n=some .local:=by rfl) (hdb:(c == ("__debug__" : Str))=false:=by decide) :
  PSD X (.Try body [.ExceptHandler (some (.Name c cp)) (some n) (b₀ :: suite) hpos] [] [] pos) (tryD i sub fb fsu):=by
 intro pins s σ G H δ I R hs;have hfb:fb δ≠.stuck:=fun z=>hs (by unfold tryD; rw [z]);refine wpAny_Try_except (kk' (fun pins I=>hb pins s σ G H δ I R hfb) I (fun fl s1 p b=>?_) fun e s1 p=>?_)
 ·cases fl with
  | next=>obtain ⟨δ',σ',H',q1,q2⟩:=p; exact wpAny_execs_nil ⟨δ',σ',H',by unfold tryD; rw [q1],q2⟩
  | brk=>obtain ⟨δ',σ',H',q1,q2⟩:=p; exact ⟨δ',σ',H',by unfold tryD; rw [q1],q2⟩
  | cont=>obtain ⟨δ',σ',H',q1,q2⟩:=p; exact ⟨δ',σ',H',by unfold tryD; rw [q1],q2⟩
  | ret u=>obtain ⟨d,v,σ',H',q1,q2⟩:=p; exact ⟨d,v,σ',H',by unfold tryD; rw [q1],q2⟩
 ·obtain ⟨x,δ',a,C,σ',H',q1,rfl,I1,tk1,R1,hC,dd,pay,fly⟩:=p;have hsx:sub x.cls=some true:=by
   cases z:sub x.cls with
   | none=>exact (hs (by unfold tryD; rw [q1]; simp only [z])).elim
   | some k =>
    cases k with
    | true=>rfl
    | false=>exact (hs (by unfold tryD; rw [q1]; simp only [z])).elim
  have ev:tryD i sub fb fsu δ=(match fsu (δ'.set i (some (.val x.toD))) with
   | .nxt δ2=>.nxt (δ2.set i none)
   | .ret d=>.ret d
   | _=>.stuck):=by unfold tryD; rw [q1]; simp only [hsx]
  have hfs:fsu (δ'.set i (some (.val x.toD)))≠.stuck:=fun z=>hs (by rw [ev,z]);have flyE:Fly (noObjs s.heap) H' s1.heap a (.ref C,dd):=by
   obtain ⟨_,w2,oe,vs,a0,w3,w4,w5,w6,w7⟩:=fly;refine ⟨cX' _ _,w2,oe,vs,a0,w3,w4,w5,w6,?_⟩;rcases w7 with w7 | ⟨T,oT,ts,z1,z2,z3⟩
   ·exact .inl w7
   ·exact .inr ⟨T,oT,ts,z1,cX' _ _,z3⟩
  have own:∀b,InEx s1.heap a b->(∀o,X.s₀.heap.get? b=some o->X.H₀ b=none->b∈X.ex)/\H' b=none/\(∃o vs,s1.heap.get? b=some o/\o.data=.fields vs)/\∀p∈X.pn ++ pins,p.1≠b:=fun b hx=>by
   obtain ⟨n1,n2,o1,vs1,g1,d1⟩:=fly.ex hx;refine ⟨fun o e n=>?_,n2,⟨o1,vs1,g1,d1⟩,fun p hp z=>?_⟩
   ·by_cases hxx:b∈X.ex
    ·exact hxx
    ·exfalso
     by_cases hf:b∈X.fs
     ·exact I1.fs_rec hf g1 d1
     ·have k1:=I1.base.keep b o e n hf hxx;have k0:=I.base.keep b o e n hf hxx;rw [g1] at k1; cases k1;exact n1 o1 vs1 k0 d1
   ·subst z;have k1:=(I1.pin p hp).1;have k0:=(I.pin p hp).1;rw [g1] at k1;rw [<- Option.some.inj k1] at k0;exact n1 o1 vs1 k0 d1
  have hfr:X.A.frames=some (X.env :: X.outer):=by rw [I.ok.frames,hst.1]
  have hfun:s1.heap.FunFrames X.base (X.env :: X.outer):=by have:=I1.stack; rw [hst.1] at this; exact this
  have hfs':(X.env :: X.outer).filterMap (·.frame)=frs X.stack:=by rw [hst.1]; rfl
  refine dN' (base:=X.base) hfr hfun hst.2 (Nat.zero_le _) (fun b hb=>I1.hok.fresh hb) flyE fun h2 k2 f2 new2=>?_;rw [hfs'] at k2;have J:=I1.kf (t':=s1.toks) k2 fun b hx=>by
   obtain ⟨w1,w2⟩:=own b hx;exact ⟨fun o vs e n _ hxx=>absurd (w1 o e n) hxx,w2⟩
  have own2:∀b,InEx h2 a b->(∀o,X.s₀.heap.get? b=some o->X.H₀ b=none->b∈X.ex)/\H' b=none/\(∃o vs,h2.get? b=some o/\o.data=.fields vs)/\∀p∈X.pn ++ pins,p.1≠b:=fun b hx=>by
   obtain ⟨_,n2,n3⟩:=f2.ex hx;rcases new2 b hx with z | z
   ·subst z;obtain ⟨w1,_,_,w4⟩:=own b (.inl rfl);exact ⟨w1,n2,n3,w4⟩
   ·refine ⟨fun o e _=>absurd (Nat.lt_of_lt_of_le (Heap.lt_size e) (Nat.le_trans I1.sz z)) (Nat.lt_irrefl _),n2,n3,fun p hp w=>?_⟩;have:=Heap.lt_size (I1.pin p hp).1;rw [w] at this;exact absurd this (Nat.not_lt.mpr z)
  have exf2:=f2;obtain ⟨_,hHa,oe,vs,a0,T,oT,ts,ge,⟨ce,dde⟩,de,rest⟩:=exf2;have Jm:=J.marked a;refine wpAny_handleBy_cons (codeAny_handlers_test (ca' (X:=X.marked a) Jm hcn hcm ?_ hdb)) (by intro q; cases q);have LT:PySem.W.Looks (model X.prog X.w) h2 (typeOf (.ref a)) (.ref C):=by
   have ce:oe.cls=.ref C:=ce;rw [<- ce];exact (PySem.W.Looks.ld ge).andThen .now
  refine PySem.W.exm_one J.kIn LT (hsub x.cls C hC hsx) _ _ _ _ (fun _ _ e=>e) ?_;refine codeAny_handlers_suite_as ?_;refine eQ' (s:={ s1 with heap:=h2,toks:=s1.toks }) f2 fun h3 k3 k3' f3 in3=>?_
  have J3:Inv (X.marked a) pins σ' H' { s1 with heap:=h3,toks:=s1.toks }:=by
   have q:=L2.Inv.kf (X:=X.marked a) (s:={ s1 with heap:=h2,toks:=s1.toks }) (h':=h3) (t':=s1.toks) (a:=a) Jm ⟨fun b o hb _ hx=>k3 b o hb hx,fun b o hb _ hx=>⟨o.slots,k3 b o hb hx⟩,k3'⟩ fun b hx=>by
    obtain ⟨w1,w2⟩:=own2 b hx;exact ⟨fun o vs e n _ hxx=>absurd (w1 o e n) hxx,w2⟩
   exact q
  obtain ⟨_,_,oe3,vs3,_,_,_,_,ge3,⟨ce3,dde3⟩,de3,_⟩:=f3;have hHa':H' a=none:=hHa;have J4:=J3.track (o:=.ext (excAt a C dd)) hHa' (own a (.inl rfl)).1 (fun z=>by
    have g:h3.get? (X.marked a).env.locals=some oe3:=by rw [<- z]; exact ge3
    exact J3.locals_dict g de3) (fun y c' e z=>by
    obtain ⟨v,o,g,d⟩:=J3.cell y _ e;have g':h3.get? a=some o:=by rw [<- z]; exact g
    rw [ge3] at g'; cases g';rw [de3] at d; cases d) (own a (.inl rfl)).2.2.2
   ⟨⟨oe3,vs3,ge3,ce3,dde3,de3⟩,⟨oe3,ge3⟩,fun ha hb ⟨o,vs,g,q⟩ k=>⟨o,vs,k o g,q⟩⟩
  have sm:=au' hHa' (.ext (excAt a C dd));refine cu' (X:=X.marked a) J4 hN hi (Or.inl hk) (v:=.ref a) (u:=.ref a) rfl (fun s4 I4=>?_) (Or.inr hk);have R4:RepSt X.K G (upd H' a (.ext (excAt a C dd))) (σ'.set i (some (.ref a))) (δ'.set i (some (.val x.toD))) :=
   (R1.mono sm).set i (by
    unfold Exn.toD;unfold Pay at pay
    cases z:x.pay with
    | none =>
     rw [z] at pay;have pay:dd=none:=pay;subst pay;rw [Rep]; exact ⟨a,C,rfl,hC,an'⟩
    | some fd =>
     obtain ⟨f,d⟩:=fd;rw [z] at pay;obtain ⟨dx,u,rfl,w1,w2⟩:=pay;rw [Rep]; exact ⟨a,C,dx,u,rfl,hC,an',sm _ _ w1,w2.mono sm⟩)
  refine wpAny_mono (hsu a pins s4 _ G _ _ I4 R4 hfs) (fun fl s5 p=>?_) fun e s5 p=>?_
  ·cases fl with
   | next =>
    obtain ⟨δ2,σ2,H2,q2,I5,t5,R5⟩:=p;refine (I5.unmarked I.ok).goes hN hi hk fun s6 I6=>?_;exact ⟨δ2.set i none,_,H2,by rw [ev,q2],I6,tk1.trans (sm.tk.trans t5),R5.clear i⟩
   | brk=>obtain ⟨δ2,σ2,H2,q2,_⟩:=p; exact (hs (by rw [ev,q2])).elim
   | cont=>obtain ⟨δ2,σ2,H2,q2,_⟩:=p; exact (hs (by rw [ev,q2])).elim
   | ret u =>
    obtain ⟨d,v,σ2,H2,q2,I5,t5,g5,r5,p5⟩:=p;refine (I5.unmarked I.ok).goes hN hi hk fun s6 I6=>?_;exact ⟨d,v,_,H2,by rw [ev,q2],I6,tk1.trans (sm.tk.trans t5),g5,r5,p5⟩
  ·obtain ⟨y,δ2,_,_,_,_,q2,_⟩:=p;exact (hs (by rw [ev,q2])).elim
end
noncomputable def compX (X:Cx) (N':List Str) (scope:Scope) (cl:List (Str×Addr)) (C:Addr) (s:Shared) (H:Hp) (fp:List Addr):Cx where
 prog:=X.prog
 w:=X.w
 K:=X.K
 mg:=X.mg
 base:=X.base
 A:=X.A
 N:=N'
 s₀:=s
 H₀:=H
 env:=compEnvC scope cl C X.env
 outer:=X.stack
 stack:=X.stack
 ex:=fp
 fn:=fun _=>false
 calm:=X.calm
 pn:=[]
 xe:=fun _ _=>False
section
variable {X:Cx} {N':List Str} {scope:Scope} {cl:List (Str×Addr)} {C:Addr} {s:Shared} {H:Hp} {fp:List Addr} {pins:List (Addr×Obj)} {σ:St}
theorem hC' (I:Inv X pins σ H s) (hk:scope.kind=.function) (hC:s.heap.objs.size<=C) (hc:∀x c,cl.lookup x=some c->X.env.cells.lookup x=some c)
  (has:∀x,((relabel scope X.env).names.lookup x=some .cell\/(relabel scope X.env).names.lookup x=some .free)->∃c,cl.lookup x=some c) (hf:∀b∈fp,FpOk X pins H b/\b < s.heap.objs.size):(compX X N' scope cl C s H fp).Ok where
 mod:=I.ok.mod
 kind:=hk
 glob:=I.ok.glob
 blt:=I.ok.blt
 above:=hC
 inj:=fun x y c h1 h2=>I.ok.inj x y c (hc x c h1) (hc y c h2)
 has:=has
 cab:=fun x c h=>by cases h
 hd:=I.ok.hd
 frames:=I.ok.frames
 stk:=.inl rfl
 exf:=fun b hb=>⟨Nat.ne_of_lt (Nat.lt_of_lt_of_le (hf b hb).2 hC),fun x c h=>(hf b hb).1.2.2.2.2.1 x c (hc x c h)⟩
 bs:=I.bs
 bsz:=Nat.le_trans I.ok.bsz I.sz
 noex:=fun b o e hb=>by
  obtain ⟨_,h1,h2,h3,_⟩:=(hf b hb).1;rcases h3 with z | z
  ·exact I.ok.noex b o e z
  ·exact absurd (Nat.lt_of_lt_of_le (Heap.lt_size e) (Nat.le_trans I.ok.bsz z)) (Nat.lt_irrefl _)
 exfs:=fun b hb z=>by
  obtain ⟨_,h1,h2,_⟩:=(hf b hb).1;rcases List.mem_cons.mp (I.stkSub b z) with w | w
  ·exact h1 w
  ·exact h2 w
 funs:=I.stack
 frf:=I.stkFree
end
noncomputable def Yields (K:PySem.W.Frag) (J:It) (H:Hp) (ds:List D):Prop :=
 ∀H',Same H H'->(∀i d,ds[i]? = some d->J.go i H'/\∀x H'',J.yld i H' x H''->Same H' H''/\Rep K H'' d x)/\J.stop ds.length H'
noncomputable def IPost (X:Cx) (pins:List (Addr×Obj)) (σ:St) (H:Hp) (tg:Expr) (r:Res (List D)) (itv:Value) (s2:Shared):Prop :=
 ∃(ds:List D) (it:Addr) (fp:List Addr) (tn:Nat->Heap->Prop) (J:It) (H':Hp),r=.ok ds/\itv=.ref it/\Inv X pins σ H' s2/\Turn X.prog X.w X.K tg J fp it tn/\tn 0 s2.heap/\(∀b∈fp,FpOk X pins H' b)/\Same H H'/\Yields X.K J H' ds
noncomputable def PID (X:Cx) (tg iter:Expr) (f:DS->Res (List D)):Prop :=
 ∀(pins:List (Addr×Obj)) (s:Shared) (σ:St) (G H:Hp) (δ:DS),Inv X pins σ H s->RepSt X.K G H σ δ->f δ≠.stuck ->
  wpAny (model X.prog X.w) X.A (eval iter X.env) (fun v s1=>wpAny (model X.prog X.w) X.A (pyIter v) (IPost X pins σ H tg (f δ)) (XPost X pins σ H s.heap (f δ)) s1) (XPost X pins σ H s.heap (f δ)) s
noncomputable def signsD (x:Str):List D:=x.cps.toList.map fun c=>.str ⟨#[c]⟩
noncomputable def Its (x:Str):It :=
 ⟨fun i _=>i < x.cps.size,fun i H v H'=>H'=H/\∃c,x.cps[i]? = some c/\v=.str ⟨#[c]⟩,fun i _=>x.cps.size<=i⟩
theorem fr' {P:Program} {w:World} {K:PySem.W.Frag} {tg:Expr} (x:Str) (t:Tok) (it:Addr):Turn P w K tg (Its x) [it] it (fun i h=>h.IsStrIter it "str_ascii_iterator" x t i) where
 mem:=by simp
 obj:=fun i h st b hb=>by
  have e:b=it:=by simpa using hb
  subst e;obtain ⟨o,e,c,d⟩:=st;exact ⟨o,e,fun v z=>by rw [d] at z; cases z⟩
 keep:=fun i h h' st k=>by
  obtain ⟨o,e,c,d⟩:=st;exact ⟨o,k it (by simp) o e,c,d⟩
 item:=by
  intro X hP hw hK hc i pins s σ H E I hf st hg;subst hP hw hK;have hx:x.cps[i]? = some x.cps[i]:=Array.getElem?_eq_getElem hg;obtain ⟨f0,f1,f2,f3,f4,f5⟩:=hf it (by simp);refine wpAny_pyNext_ascii_item st hx fun h' st' sb=>?_;have I1:Inv X pins σ H { s with heap:=h',toks:=s.toks + 1 }:=I.turned (t':=s.toks + 1) (fun b o hb e=>(sb.2 b hb).trans e) f0 f1 f3 f4 f5
  obtain ⟨o,e,c,d⟩:=id st';exact ⟨_,rfl,hb' (s:={ s with heap:=h',toks:=s.toks + 1 }) e c d (by decide) ⟨.str ⟨#[x.cps[i]]⟩,H,I1,⟨_,rfl⟩,⟨rfl,_,hx,rfl⟩,st',fun b hb=>(hf b hb).1⟩⟩
 done:=by
  intro X hP hw hK hc i pins s σ H E I hf st hg;subst hP hw hK;obtain ⟨f0,f1,f2,f3,f4,f5⟩:=hf it (by simp);exact wpAny_pyNext_ascii_end (I.ok.hd hc) st (Array.getElem?_eq_none hg) fun h' eb=>⟨rfl,I.turned (t':=s.toks) (fun b o hb e=>eb b o hb e) f0 f1 f3 f4 f5⟩
 self:=fun _ _ _ _ _ st h=>wpAny_pyIter_striter_ascii st h
theorem ft' {K:PySem.W.Frag} {H:Hp} {x:Str}:Yields K (Its x) H (signsD x):=by
 intro H' e;refine ⟨fun i d hd=>?_,by unfold signsD; simp [Its]⟩;unfold signsD at hd;rw [List.getElem?_map] at hd
 cases z:x.cps.toList[i]? with
 | none=>rw [z] at hd; cases hd
 | some c =>
  rw [z] at hd
  cases hd
  have hl:i < x.cps.size:=by
   have:=List.getElem?_eq_some_iff.mp z;obtain ⟨q,_⟩:=this;simpa using q
  have hc:x.cps[i]? = some c:=by simpa using z
  refine ⟨hl,fun v H'' y=>?_⟩;obtain ⟨rfl,c',h1,rfl⟩:=y;rw [hc] at h1
  cases h1
  exact ⟨Same.refl _,by rw [Rep]⟩
noncomputable def seqItems:D->Res (List D)
 | .tup ds=>.ok ds
 | .lst ds=>.ok ds
 | .str x=>if x.cps.all (· < 128)=true then .ok (signsD x) else .stuck
 | _=>.stuck
theorem er' {K:PySem.W.Frag} {H:Hp} {a:Addr} {xs:List V} {ds:List D} {X:Cx} {pins:List (Addr×Obj)} {σ:St} {s:Shared} (hq:SqL K H a xs) (r:Reps K H ds xs):Yields K (Itl K a) H ds:=by
 intro H' e;have hq':=e.seq hq;have r':=r.mono e;refine ⟨fun i d hd=>?_,xs,hq',by rw [r.length]; exact Nat.le_refl _⟩;obtain ⟨v,e1,e2⟩:=r'.get hd;refine ⟨⟨xs,v,hq',e1⟩,fun x H'' y=>?_⟩;obtain ⟨rfl,y⟩:=y;have:=y xs hq';rw [e1] at this
 cases this
 exact ⟨Same.refl _,e2⟩
theorem fu' {K:PySem.W.Frag} {H:Hp} {a:Addr} {xs:List V} {ds:List D} (hq:SqT K H a xs) (r:Reps K H ds xs):Yields K (Itt K a) H ds:=by
 intro H' e;have hq':=cv' e hq;have r':=r.mono e;refine ⟨fun i d hd=>?_,xs,hq',by rw [r.length]; exact Nat.le_refl _⟩;obtain ⟨v,e1,e2⟩:=r'.get hd;refine ⟨⟨xs,v,hq',e1⟩,fun x H'' y=>?_⟩;obtain ⟨rfl,y⟩:=y;have:=y xs hq';rw [e1] at this
 cases this
 exact ⟨Same.refl _,e2⟩
theorem bb' {X:Cx} {tg iter:Expr} {f:DS->Res D} (h:PD X iter f):PID X tg iter (fun δ=>(f δ).bind seqItems):=by
 intro pins s σ G H δ I R hs
 try dsimp only at hs ⊢
 refine h.use I R (aA' hs) (fun d u s1 v H1 q I1 r1 e1 b1 p1=>?_) fun e s1 q=>q.same fun x z=>aL' z;have h2:=aP' hs q
 cases d with
 | lst ds =>
  obtain ⟨a,xs,rfl,hq,r⟩:=repL p1
  cases r1
  obtain ⟨its,rv,p,hz⟩:=I1.list hq;refine wpAny_pyIter_list p.isList ?_;refine ⟨ds,s1.heap.objs.size,[s1.heap.objs.size],_,_,H1,by rw [q]; rfl,rfl,I1.kept (t':=s1.toks) fun b o e=>Heap.get?_push_of_some _ e,fR' a _,⟨_,Heap.get?_push_size _ rfl,rfl,rfl⟩,fun b hb=>?_,e1,er' (X:=X) (pins:=pins) (σ:=σ) (s:=s1) hq r⟩;have e:b=s1.heap.objs.size:=by simpa using hb
  subst e;exact I1.fpOk (Nat.le_refl _) (I1.hok.fresh (Nat.le_refl _))
 | tup ds =>
  obtain ⟨a,xs,rfl,hq,r⟩:=repT p1
  cases r1
  obtain ⟨its,rv,p,hz⟩:=I1.tuple hq;refine wpAny_pyIter_tuple p ?_;refine ⟨ds,s1.heap.objs.size,[s1.heap.objs.size],_,_,H1,by rw [q]; rfl,rfl,I1.kept (t':=s1.toks) fun b o e=>Heap.get?_push_of_some _ e,fi' a _,⟨_,Heap.get?_push_size _ rfl,rfl,rfl⟩,fun b hb=>?_,e1,fu' hq r⟩;have e:b=s1.heap.objs.size:=by simpa using hb
  subst e;exact I1.fpOk (Nat.le_refl _) (I1.hok.fresh (Nat.le_refl _))
 | str x =>
  rw [repS p1] at r1;obtain ⟨t,rfl⟩:=r1;have ha:x.cps.all (· < 128)=true:=by
   cases z:x.cps.all (· < 128) with
   | true=>rfl
   | false =>
    have h3:(if (x.cps.all fun c=>decide (c < 128))=true then Res.ok (signsD x) else Res.stuck)≠.stuck:=h2
    rw [z] at h3; exact (h3 rfl).elim
  refine wpAny_pyIter_ascii ha ?_;refine ⟨signsD x,s1.heap.objs.size,[s1.heap.objs.size],_,_,H1,by rw [q]; unfold seqItems; rw [Res.bind_ok]; simp only [ha,if_true],rfl,I1.kept (t':=s1.toks) fun b o e=>Heap.get?_push_of_some _ e,fr' x t _,⟨_,Heap.get?_push_size _ rfl,rfl,rfl⟩,fun b hb=>?_,e1,ft'⟩;have e:b=s1.heap.objs.size:=by simpa using hb
  subst e;exact I1.fpOk (Nat.le_refl _) (I1.hok.fresh (Nat.le_refl _))
 | _=>exact (h2 rfl).elim
noncomputable def frz1:Option SV->Option SV
 | some sv=>some (.arg sv.view)
 | none=>none
noncomputable def compS (m:Nat) (fr:List Nat) (δ:DS):DS:=List.replicate m none ++ fr.map fun i=>(δ[i]?).elim none frz1
noncomputable def mapR (g:D->Res D):List D->Res (List D)
 | []=>.ok []
 | d :: ds=>(g d).bind fun x=>(mapR g ds).bind fun xs=>.ok (x :: xs)
noncomputable def eltD (t:TGD) (fe:DS->Res D) (δ':DS) (d:D):Res D:=match t d δ' with
 | some δ1=>(match fe δ1 with | .ok x=>.ok x | _=>.stuck)
 | none=>.stuck
noncomputable def compD (m:Nat) (fr:List Nat) (t:TGD) (fe:DS->Res D) (fi:DS->Res (List D)):DS->Res D:=fun δ=>(fi δ).bind fun ds=>lstD (mapR (eltD t fe (compS m fr δ)) ds)
noncomputable def KeepsT (m:Nat) (t:TGD):Prop:=∀d δ δ1,t d δ=some δ1->δ1.length=δ.length/\∀i,m<=i->δ1[i]? = δ[i]?
theorem RepSt.weak {K:PySem.W.Frag} {G H:Hp} {σ:St} {δ δ1:DS} {m:Nat} (R:RepSt K G H σ δ1) (hl:δ1.length=δ.length) (hm:∀i,m<=i->δ1[i]? = δ[i]?) (hn:∀i,i < m->∀sv,δ[i]?≠some (some sv)):RepSt K G H σ δ where
 same:=R.same
 len:=R.len.trans hl
 at_:=fun i sv e=>by
  by_cases h:i < m
  ·exact (hn i h sv e).elim
  ·exact R.at_ i sv (by rw [hm i (by omega)]; exact e)
 sep:=fun i j ds es v hij e1 e2 e3=>by
  by_cases h1:i < m
  ·exact (hn i h1 _ e1).elim
  ·by_cases h2:j < m
   ·exact (hn j h2 _ e2).elim
   ·exact R.sep i j ds es v hij (by rw [hm i (by omega)]; exact e1) (by rw [hm j (by omega)]; exact e2) e3
theorem cC' {m:Nat} {fr:List Nat} {δ:DS} (i:Nat) (h:i < m) (sv:SV):(compS m fr δ)[i]?≠some (some sv):=by
 unfold compS;rw [List.getElem?_append_left (by simpa using h),List.getElem?_replicate,if_pos h];intro z; cases z
noncomputable def compV (m:Nat) (fr:List Nat) (σ:St):St:=List.replicate m none ++ fr.map fun i=>(σ[i]?).elim none id
theorem hD' {K:PySem.W.Frag} {G H:Hp} {σ:St} {δ:DS} (m:Nat) (fr:List Nat) (R:RepSt K G H σ δ):RepSt K H H (compV m fr σ) (compS m fr δ) where
 same:=Same.refl H
 len:=by simp [compV,compS]
 at_:=fun i sv e=>by
  by_cases h:i < m
  ·exact (cC' i h sv e).elim
  ·unfold compS at e;unfold compV;rw [List.getElem?_append_right (by simpa using h),List.getElem?_map] at e;rw [List.getElem?_append_right (by simpa using h),List.getElem?_map];simp only [List.length_replicate] at e ⊢
   cases q:fr[i - m]? with
   | none=>rw [q] at e; cases e
   | some k =>
    rw [q] at e;simp only [Option.map_some,Option.some.injEq] at e
    cases q2:δ[k]? with
    | none=>rw [q2] at e; cases e
    | some o =>
     rw [q2] at e
     cases o with
     | none=>cases e
     | some sv' =>
      simp only [Option.elim_some,frz1,Option.some.injEq] at e;subst e;obtain ⟨v,e1,e2⟩:=R.view q2;exact ⟨v,by simp [e1],e2⟩
 sep:=fun i j ds es v hij e1 e2 e3=>by
  exfalso
  by_cases h:i < m
  ·exact (cC' i h _ e1).elim
  ·unfold compS at e1;rw [List.getElem?_append_right (by simpa using h),List.getElem?_map] at e1;simp only [List.length_replicate] at e1
   cases q:fr[i - m]? with
   | none=>rw [q] at e1; cases e1
   | some k =>
    rw [q] at e1;simp only [Option.map_some,Option.some.injEq] at e1
    cases q2:δ[k]? with
    | none=>rw [q2] at e1; cases e1
    | some o =>
     rw [q2] at e1
     cases o with
     | none=>cases e1
     | some sv'=>simp [frz1] at e1
theorem dj' {g:D->Res D}:∀{ds rs:List D},mapR g ds=.ok rs->rs.length=ds.length
 | [],rs,h=>by simp only [mapR,Res.ok.injEq] at h; subst h; rfl
 | d :: ds,rs,h=>by
  simp only [mapR] at h
  cases q:g d with
  | stuck=>rw [q] at h; cases h
  | err x=>rw [q] at h; cases h
  | ok x =>
   rw [q,Res.bind_ok] at h
   cases q2:mapR g ds with
   | stuck=>rw [q2] at h; cases h
   | err x=>rw [q2] at h; cases h
   | ok xs =>
    rw [q2,Res.bind_ok] at h
    cases h
    simp [dj' q2]
theorem eR' {g:D->Res D}:∀{ds rs:List D} {i:Nat} {d:D},mapR g ds=.ok rs->ds[i]? = some d->∃r,g d=.ok r/\rs[i]? = some r
 | [],rs,i,d,h,e=>by simp at e
 | d' :: ds,rs,i,d,h,e=>by
  simp only [mapR] at h
  cases q:g d' with
  | stuck=>rw [q] at h; cases h
  | err x=>rw [q] at h; cases h
  | ok x =>
   rw [q,Res.bind_ok] at h
   cases q2:mapR g ds with
   | stuck=>rw [q2] at h; cases h
   | err x=>rw [q2] at h; cases h
   | ok xs =>
    rw [q2,Res.bind_ok] at h
    cases h
    cases i with
    | zero=>simp at e; subst e; exact ⟨x,q,by simp⟩
    | succ i =>
     simp at e;obtain ⟨r,e1,e2⟩:=eR' q2 e;exact ⟨r,e1,by simpa using e2⟩
theorem et' {g:D->Res D} (hg:∀d,NoErr (g d)):∀ds,NoErr (mapR g ds)
 | []=>ak'
 | d :: ds=>by
  intro x h;simp only [mapR] at h
  cases q:g d with
  | stuck=>rw [q] at h; cases h
  | err y=>exact hg d y q
  | ok y =>
   rw [q,Res.bind_ok] at h
   cases q2:mapR g ds with
   | stuck=>rw [q2] at h; cases h
   | err z=>exact et' hg ds z q2
   | ok xs=>rw [q2,Res.bind_ok] at h; cases h
theorem iY' {t:TGD} {fe:DS->Res D} {δ':DS} (d:D):NoErr (eltD t fe δ' d):=by
 intro x h;unfold eltD at h
 split at h
 ·split at h <;> cases h
 ·cases h
noncomputable def condM (cs:List Expr) (env:Env):Sem Bool:=match cs with
 | c :: _=>isTrue c env (eval c env)
 | []=>pure true
theorem eu' (elt target iter:Expr) (cs:List Expr) (scope:Scope) (pos:Pos) (it acc:Value) (env:Env) (hcs:cs.length<=1) :
  compTurn (.ListComp elt [⟨target,iter,cs,0⟩] scope pos) 0 it acc env=(standAt iter.pos >>= fun _=>pyNext it >>= fun r=>match r with
   | none=>pure (.done .next)
   | some v=>letOwnedTupleGo target it v >>= fun _=>assign target env v >>= fun _ =>
    condM cs env >>= fun ok=>(if ok=true then (eval elt env >>= fun x=>call (.builtin "list.append") [acc,x] >>= fun _=>pure ()) else pure ()) >>= fun _ =>
     again (.compLoop (.ListComp elt [⟨target,iter,cs,0⟩] scope pos) 0 it acc env)):=by
 match cs,hcs with
 | [],_=>rfl
 | [c],_ =>
  rw [compTurn_list];simp only [List.forIn_cons,List.forIn_nil,if_true,bind_assoc,pure_bind]
  congr 1
  funext _
  congr 1
  funext r
  cases r with
  | none=>rfl
  | some v =>
   dsimp only
   congr 1
   funext _
   congr 1
   funext _
   congr 1
   funext ok
   cases ok with
   | false=>rfl
   | true=>simp only [if_true,bind_assoc,pure_bind]
noncomputable def eltI (t:TGD) (fc:DS->Res Bool) (fe:DS->Res D) (δ':DS) (d:D):Res D:=match t d δ' with
 | some δ1=>(match fc δ1 with
  | .ok true=>(match fe δ1 with | .ok x=>.ok (.tup [x]) | _=>.stuck)
  | .ok false=>.ok (.tup [])
  | _=>.stuck)
 | none=>.stuck
noncomputable def unI:D->List D
 | .tup xs=>xs
 | _=>[]
noncomputable def compK (t:TGD) (fc:DS->Res Bool) (fe:DS->Res D) (δ':DS) (ds:List D):Res D:=if ds.length<=sizeLine then (mapR (eltI t fc fe δ') ds).bind (fun rs=>Res.ok (D.lst (rs.flatMap unI))) else .stuck
noncomputable def compI (m:Nat) (fr:List Nat) (t:TGD) (fc:DS->Res Bool) (fe:DS->Res D) (fi:DS->Res (List D)):DS->Res D:=fun δ=>(fi δ).bind (compK t fc fe (compS m fr δ))
theorem gm' {t:TGD} {fc:DS->Res Bool} {fe:DS->Res D} {δ':DS} {d r:D} (h:eltI t fc fe δ' d=.ok r):∃δ1,t d δ'=some δ1/\((∃x,fc δ1=.ok true/\fe δ1=.ok x/\r=.tup [x])\/(fc δ1=.ok false/\r=.tup [])):=by
 unfold eltI at h
 split at h
 ·rename_i δ1 e
  split at h
  ·rename_i q
   split at h
   ·rename_i x q2
    cases h
    exact ⟨δ1,e,.inl ⟨x,q,q2,rfl⟩⟩
   ·cases h
  ·rename_i q
   cases h
   exact ⟨δ1,e,.inr ⟨q,rfl⟩⟩
  ·cases h
 ·cases h
theorem iZ' {t:TGD} {fc:DS->Res Bool} {fe:DS->Res D} {δ':DS} (d:D):NoErr (eltI t fc fe δ' d):=by
 intro x h;unfold eltI at h
 split at h
 ·split at h
  ·split at h <;> cases h
  ·cases h
  ·cases h
 ·cases h
theorem gn' {t:TGD} {fc:DS->Res Bool} {fe:DS->Res D} {δ':DS}:∀{ds rs:List D},mapR (eltI t fc fe δ') ds=.ok rs->(rs.flatMap unI).length<=ds.length
 | [],rs,h=>by simp only [mapR,Res.ok.injEq] at h; subst h; exact Nat.le_refl _
 | d :: ds,rs,h=>by
  simp only [mapR] at h
  cases q:eltI t fc fe δ' d with
  | stuck=>rw [q] at h; cases h
  | err x=>rw [q] at h; cases h
  | ok x =>
   rw [q,Res.bind_ok] at h
   cases q2:mapR (eltI t fc fe δ') ds with
   | stuck=>rw [q2] at h; cases h
   | err x=>rw [q2] at h; cases h
   | ok xs =>
    rw [q2,Res.bind_ok] at h
    cases h
    have ih:=gn' q2;obtain ⟨δ1,_,w⟩:=gm' q;have hx:(unI x).length<=1:=by rcases w with ⟨y,_,_,rfl⟩ | ⟨_,rfl⟩ <;> simp [unI]
    rw [List.flatMap_cons,List.length_append,List.length_cons];omega
noncomputable def CTD (X:Cx) (cs:List Expr) (f:DS->Res Bool):Prop :=
 ∀(pins:List (Addr×Obj)) (s:Shared) (σ:St) (G H:Hp) (δ:DS),Inv X pins σ H s->RepSt X.K G H σ δ->f δ≠.stuck ->
  wpAny (model X.prog X.w) X.A (condM cs X.env) (TPost X pins σ H (f δ)) (XPost X pins σ H s.heap (f δ)) s
section
variable {X:Cx} {m:Nat} {fr:List Nat} {N':List Str} {scope:Scope} {cl:List (Str×Addr)} {tg iter elt:Expr} {cs:List Expr} {pos:Pos} {t:TGD} {fc:DS->Res Bool} {fe:DS->Res D} {fi:DS->Res (List D)}
theorem fv' {C:Addr} {s3:Shared} {H2:Hp} {fp:List Addr} {it:Addr} {tn:Nat->Heap->Prop} {J:It} {ds rs:List D} {δ':DS} {acc:Addr} {RR:Result->Shared->Prop} (hcalm:X.calm=true)
  (T:Turn X.prog X.w X.K tg J fp it tn) (Y:Yields X.K J H2 ds) (hR:mapR (eltI t fc fe δ') ds=.ok rs) (hz:ds.length<=sizeLine) (hkt:KeepsT m t) (hlow:∀i,i < m->∀sv,δ'[i]?≠some (some sv))
  (ht:PGD (compX X N' scope cl C s3 H2 (acc :: fp)) tg t) (hcs:cs.length<=1) (hc:CTD (compX X N' scope cl C s3 H2 (acc :: fp)) cs fc) (he:PD (compX X N' scope cl C s3 H2 (acc :: fp)) elt fe)
  (hacc:acc∉fp) (hfp:∀b∈acc :: fp,b≠C/\b∉frs X.stack/\∀x c,cl.lookup x=some c->c≠b)
  (fin:∀s' σ' H' ys its,Inv (compX X N' scope cl C s3 H2 (acc :: fp)) [] σ' H' s'->Same H2 H'->H' acc=none->(∀b∈fp,H' b=none)->s'.heap.PlainList acc its->Vals ys its.toList->Reps X.K H' (rs.flatMap unI) ys->RR (.ok .next) s')
  {s4:Shared} {σ0:St} {its0:Array Value} (I4:Inv (compX X N' scope cl C s3 H2 (acc :: fp)) [] σ0 H2 s4) (R4:RepSt X.K H2 H2 σ0 δ') (st4:tn 0 s4.heap) (f4:∀b∈acc :: fp,H2 b=none) (p4:s4.heap.PlainList acc #[]) :
  codeAny (model X.prog X.w) X.A (.compLoop (.ListComp elt [⟨tg,iter,cs,0⟩] scope pos) 0 (.ref it) (.ref acc) (compEnvC scope cl C X.env)) RR s4:=by
 let X':=compX X N' scope cl C s3 H2 (acc :: fp)
 have fpok:∀{H':Hp} {pn:List (Addr×Obj)},(∀b∈fp,H' b=none)->(∀b∈fp,∀p∈pn,p.1≠b)->∀b∈fp,FpOk X' pn H' b:=fun hn hp b hb =>
  ⟨hn b hb,(hfp b (List.mem_cons_of_mem _ hb)).1,(hfp b (List.mem_cons_of_mem _ hb)).2.1,.inl (List.mem_cons_of_mem _ hb),(hfp b (List.mem_cons_of_mem _ hb)).2.2,fun p hpp=>hp b hb p (by simpa [X',compX] using hpp)⟩
 refine codeAny_loop rfl (fun n s=>∃i σ' H' ys its,n=ds.length - i/\i<=ds.length/\Inv X' [] σ' H' s/\Same H2 H'/\RepSt X.K H2 H' σ' δ'/\tn i s.heap/\H' acc=none/\(∀b∈fp,H' b=none)/\s.heap.PlainList acc its/\Vals ys its.toList/\Reps X.K H' ((rs.take i).flatMap unI) ys/\ys.length<=i) (fun n s hI=>?_) ds.length
  ⟨0,σ0,H2,[],#[],by simp,Nat.zero_le _,I4,Same.refl _,R4,st4,f4 acc (by simp),fun b hb=>f4 b (List.mem_cons_of_mem _ hb),p4,.nil,by simpa using Reps.nil,Nat.le_refl _⟩
 obtain ⟨i,σ1,H1,ys,its,rfl,hi,I1,e1,R1,st1,ha1,fr1,p1,v1,r1,hyl⟩:=hI;show wpAny _ _ ((compTurn (.ListComp elt [⟨tg,iter,cs,0⟩] scope pos) 0 (.ref it) (.ref acc) (compEnvC scope cl C X.env)).onRaise (fun x=>do noteFrame x (compEnvC scope cl C X.env); theTreesLotGoes x)) _ _ s
 refine wpAny_noted ?_;rw [eu' _ _ _ _ _ _ _ _ _ hcs];refine wpAny_bind (wpAny_standAt (wpAny_bind ?_));have pk:∀{b:Addr} {o:Obj},True:=trivial
 by_cases hlt:i < ds.length
 ·obtain ⟨d,hd⟩:∃d,ds[i]? = some d:=⟨ds[i],by simp [hlt]⟩;obtain ⟨go,yl⟩:=(Y H1 e1).1 i d hd;obtain ⟨r,hg,hr⟩:=eR' hR hd;obtain ⟨δ1,ht1,hf1⟩:=gm' hg;obtain ⟨na,oa⟩:=p1;have pin1:Inv X' [(acc,({ cls:=.type "list",data:=.seq its na }:Obj))] σ1 H1 s:=I1.pins_of fun p hp=>by
   have:p=(acc,({ cls:=.type "list",data:=.seq its na }:Obj)):=by simpa using hp
   subst this;exact ⟨oa,ha1,(hfp acc (by simp)).1,(hfp acc (by simp)).2.1,fun v z=>(by cases z)⟩
  refine wpAny_mono (T.item X' rfl rfl rfl hcalm i _ s σ1 H1 _ pin1 (fpok fr1 fun b hb p hp z=>by
   have:p=(acc,({ cls:=.type "list",data:=.seq its na }:Obj)):=by simpa using hp
   subst this; exact hacc (by rw [show acc=b from z]; exact hb)) st1 go) (fun rv s5 ⟨u,hrv,h5⟩=>?_) fun _ _ z=>z
  subst hrv;refine wpAny_bind (wpAny_mono h5 (fun _ s6 ⟨x,H6,I6,rx,y6,st6,fr6⟩=>?_) fun _ _ z=>z);obtain ⟨e6,px⟩:=yl x H6 y6;have I6':=I6.pinned (fpok fr6 fun b hb p hp z=>by
   have:p=(acc,({ cls:=.type "list",data:=.seq its na }:Obj)):=by simpa using hp
   subst this; exact hacc (by rw [show acc=b from z]; exact hb)) (T.obj _ _ st6)
  have R6:=R1.mono e6;refine wpAny_bind (wpAny_mono (ht _ _ s6 σ1 H2 H6 δ' δ1 d x u I6' rx R6 px ht1) (fun _ s7 ⟨σ7,I7,R7⟩=>?_) fun _ _ z=>z);obtain ⟨hl1,hm1⟩:=hkt d δ' δ1 ht1;have R7':RepSt X.K H2 H6 σ7 δ':=R7.weak hl1 hm1 hlow;have e9:(rs.take (i + 1)).flatMap unI=(rs.take i).flatMap unI ++ unI r:=by rw [List.take_succ,hr]; simp
  have hfc:fc δ1≠.stuck:=by rcases hf1 with ⟨x,q,_⟩ | ⟨q,_⟩ <;> (rw [q]; intro z; cases z)
  have hfe:∀y,fc δ1≠.err y:=by rcases hf1 with ⟨x,q,_⟩ | ⟨q,_⟩ <;> (intro y; rw [q]; intro z; cases z)
  refine wpAny_bind (iR' (f:=fc) (δ:=δ1) (fun pins I=>hc pins _ _ _ _ _ I R7 hfc) I7 (fun k sk Hk qk Ik ek bk=>?_) fun e s8 q=>by obtain ⟨y,_,_,_,z,_⟩:=q; exact (hfe y z).elim);have oak:=(Ik.pin (acc,({ cls:=.type "list",data:=.seq its na }:Obj)) (by simp)).1;have hak:=(Ik.pin (acc,({ cls:=.type "list",data:=.seq its na }:Obj)) (by simp)).2.1;have fpk:∀b∈fp,∀o,s6.heap.get? b=some o->sk.heap.get? b=some o/\Hk b=none:=fun b hb o e=>by
   have q:=Ik.pin (b,o) (List.mem_append_right _ (List.mem_append_right _ (bF' hb e)));exact ⟨q.1,q.2.1⟩
  cases k with
  | false =>
   have hu:unI r=[]:=by
    rcases hf1 with ⟨x,q,_⟩ | ⟨q,rfl⟩
    ·rw [q] at qk; cases qk
    ·rfl
   have Ik':Inv X' [] σ7 Hk sk:=Ik.pins_of fun p hp=>absurd hp (by simp);refine wpAny_bind (wpAny_pure (wpAny_pure ⟨rfl,ds.length - (i + 1),by omega,i + 1,σ7,Hk,ys,its,rfl,hlt,Ik',e1.trans (e6.trans ek),R7'.mono ek,?_,hak,fun b hb=>?_,⟨na,oak⟩,v1,?_,by omega⟩))
   ·refine T.keep _ _ _ st6 fun b hb o e=>(fpk b hb o e).1
   ·obtain ⟨o,e,_⟩:=T.obj _ _ st6 b hb;exact (fpk b hb o e).2
   ·rw [e9,hu,List.append_nil]; exact r1.mono (e6.trans ek)
  | true =>
   obtain ⟨xk,hfx,hrx⟩:∃x,fe δ1=.ok x/\r=.tup [x]:=by
    rcases hf1 with ⟨x,_,q2,q3⟩ | ⟨q,_⟩
    ·exact ⟨x,q2,q3⟩
    ·rw [q] at qk; cases qk
   subst hrx;refine wpAny_bind (wpAny_bind (he.use Ik (R7.mono ek) (by rw [hfx]; intro z; cases z) (fun d8 u8 s8 v8 H8 q8 I8 r8 e8 b8 p8=>?_) fun e s8 q=>by rw [hfx] at q; exact q.none.elim));rw [hfx] at q8; cases q8;have oa8:=(I8.pin (acc,({ cls:=.type "list",data:=.seq its na }:Obj)) (by simp)).1;have ha8:=(I8.pin (acc,({ cls:=.type "list",data:=.seq its na }:Obj)) (by simp)).2.1;have hsz:its.size<=i:=by have:=v1.length; simp only [Array.length_toList] at this; omega
   refine wpAny_bind (wpAny_list_append_plain (show s8.heap.PlainList acc its from ⟨na,oa8⟩) (fun h9 p9 sb9=>?_) (by omega))
   have I8':Inv X' [] σ7 H8 s8:=I8.pins_of fun p hp=>absurd hp (by simp);have fp8:∀b∈fp,∀o,s6.heap.get? b=some o->s8.heap.get? b=some o/\H8 b=none:=fun b hb o e=>by
    have q:=I8.pin (b,o) (List.mem_append_right _ (List.mem_append_right _ (bF' hb e)));exact ⟨q.1,q.2.1⟩
   have nacc:∀b,H8 b≠none->b≠acc:=fun b hb z=>hb (by rw [z]; exact ha8);have I9:Inv X' [] σ7 H8 { s8 with heap:=h9 }:=I8'.call' (ch:=[acc]) rfl
    ⟨fun b o e n hb hx=>(sb9.2 b (by simpa using hx)).trans e,fun b o e n hb hx=>⟨o.slots,(sb9.2 b (by simpa using hx)).trans e⟩,fun b o e n _=>n,fun b o e hx=>⟨o,(sb9.2 b (by simpa using hx)).trans e⟩,fun b xs e=>e,fun b o u e=>e,fun b ps e=>⟨#[],by simpa using e⟩⟩
    (fun b u q=>(I8'.hok b u q).stay (fun c v hc e=>(sb9.2 c (by
     rcases hc with rfl | hc
     ·exact nacc c (by rw [q]; intro z; cases z)
     ·exact nacc c (by rw [hc]; intro z; cases z))).trans e) (fun _ z=>z) fun _ _ z=>z) I8'.bare
    fun b hb=>by
     have e:b=acc:=by simpa using hb
     subst e;exact ⟨.inl (by show b∈b :: fp; simp),(hfp b (by simp)).1,fun x c e=>(hfp b (by simp)).2.2 x c e,fun p hp=>absurd hp (by show p∉([]:List (Addr×Obj)) ++ []; simp)⟩
   refine wpAny_pure (wpAny_pure ⟨rfl,ds.length - (i + 1),by omega,i + 1,σ7,H8,ys ++ [v8],its.push u8,rfl,hlt,I9,e1.trans (e6.trans (ek.trans e8)),R7'.mono (ek.trans e8),?_,ha8,fun b hb=>?_,p9,?_,?_,by rw [List.length_append]; show _ + 1<=_; omega⟩)
   ·refine T.keep _ _ _ st6 fun b hb o e=>(sb9.2 b (fun z=>hacc (by rw [<- z]; exact hb))).trans (fp8 b hb o e).1
   ·obtain ⟨o,e,_⟩:=T.obj _ _ st6 b hb;exact (fp8 b hb o e).2
   ·rw [Array.toList_push]; exact v1.append (.cons r8 .nil)
   ·rw [e9];exact (r1.mono (e6.trans (ek.trans e8))).append (Reps.cons p8 Reps.nil)
 ·have e:i=ds.length:=by omega
  subst e;obtain ⟨na,oa⟩:=p1;have pin1:Inv X' [(acc,({ cls:=.type "list",data:=.seq its na }:Obj))] σ1 H1 s:=I1.pins_of fun p hp=>by
   have:p=(acc,({ cls:=.type "list",data:=.seq its na }:Obj)):=by simpa using hp
   subst this;exact ⟨oa,ha1,(hfp acc (by simp)).1,(hfp acc (by simp)).2.1,fun v z=>(by cases z)⟩
  refine wpAny_mono (T.done X' rfl rfl rfl hcalm ds.length _ s σ1 H1 _ pin1 (fpok fr1 fun b hb p hp z=>by
   have:p=(acc,({ cls:=.type "list",data:=.seq its na }:Obj)):=by simpa using hp
   subst this; exact hacc (by rw [show acc=b from z]; exact hb)) st1 (Y H1 e1).2) (fun rv s5 ⟨hrv,I5⟩=>?_) fun _ _ z=>z
  subst hrv;refine wpAny_pure ?_;have h:=dj' hR;rw [<- h,List.take_length] at r1;have oa5:=(I5.pin (acc,({ cls:=.type "list",data:=.seq its na }:Obj)) (by simp)).1;exact fin s5 σ1 H1 ys its (I5.pins_of fun p hp=>absurd hp (by simp)) e1 ha1 fr1 ⟨na,oa5⟩ v1 r1
end
theorem _root_.L2.Inv.but {X:Cx} {pins:List (Addr×Obj)} {σ:St} {H:Hp} {s:Shared} {C:Addr} {h':Heap} {t':Nat} (J:Inv X pins σ H s) (hC:H C=none) (hC0:X.s₀.heap.objs.size<=C) (hCl:C≠X.env.locals) (hCc:∀x c,X.env.cells.lookup x=some c->c≠C)
  (hCp:∀p∈X.pn ++ pins,p.1≠C) (hs:Heap.SameBut C s.heap h'):Inv X pins σ H { s with heap:=h',toks:=t' }:=by
 have nC:∀b,H b≠none->b≠C:=fun b hb z=>hb (by rw [z]; exact hC);refine J.call' (ch:=[C]) (s':={ s with heap:=h',toks:=t' }) rfl
   ⟨fun b o e n hb hx=>(hs.2 b (by simpa using hx)).trans e,fun b o e n hb hx=>⟨o.slots,(hs.2 b (by simpa using hx)).trans e⟩,fun b o e n _=>n,fun b o e hx=>⟨o,(hs.2 b (by simpa using hx)).trans e⟩,fun b xs e=>e,fun b o u e=>e,fun b ps e=>⟨#[],by simpa using e⟩⟩
   (fun b u q=>(J.hok b u q).stay (fun c v hc e=>(hs.2 c (by
    rcases hc with rfl | hc
    ·exact nC c (by rw [q]; intro z; cases z)
    ·exact nC c (by rw [hc]; intro z; cases z))).trans e) (fun _ z=>z) fun _ _ z=>z) J.bare
   fun b hb=>by
    have e:b=C:=by simpa using hb
    subst e;exact ⟨.inr hC0,hCl,hCc,hCp⟩
section
variable {X:Cx} {m:Nat} {fr:List Nat} {N':List Str} {scope:Scope} {cl:List (Str×Addr)} {tg iter elt:Expr} {cs:List Expr} {fc:DS->Res Bool} {pos:Pos} {t:TGD} {fe:DS->Res D} {fi:DS->Res (List D)}
structure Around' (X:Cx) (m:Nat) (fr:List Nat) (N':List Str) (scope:Scope) (cl:List (Str×Addr)):Prop where
 clos:closureFor scope X.env=pure cl
 nocell:∀y∈scope.names,y.2≠.cell
 kind:scope.kind=.function
 names:∀x∈scope.names,x.2=.local->scope.names.lookup x.1=some .local
 sub:∀x c,cl.lookup x=some c->X.env.cells.lookup x=some c
 has:∀x,((relabel scope X.env).names.lookup x=some .cell\/(relabel scope X.env).names.lookup x=some .free)->∃c,cl.lookup x=some c
 len:N'.length=m + fr.length
 free:∀j i,fr[j]? = some i->∃x c,N'[m + j]? = some x/\X.N[i]? = some x/\Vis X.env.scope x/\(X.env.kindOf x=some .cell\/X.env.kindOf x=some .free)/\cl.lookup x=some c/\((compEnvC scope cl 0 X.env).kindOf x=some .cell\/(compEnvC scope cl 0 X.env).kindOf x=some .free)
theorem go' (W:Around' X m fr N' scope cl) (hcalm:X.calm=true) (hkt:KeepsT m t) (hi:PID X tg iter fi) (ht:∀C s H fp,PGD (compX X N' scope cl C s H fp) tg t) (hcs:cs.length<=1) (hc:∀C s H fp,CTD (compX X N' scope cl C s H fp) cs fc) (he:∀C s H fp,PD (compX X N' scope cl C s H fp) elt fe)
  {pins:List (Addr×Obj)} {s:Shared} {σ:St} {G H:Hp} {δ:DS} (I:Inv X pins σ H s) (R:RepSt X.K G H σ δ) (hs:compI m fr t fc fe fi δ≠.stuck) {E:Value->Shared->Prop} (hE:∀e s1,XPost X pins σ H s.heap (compI m fr t fc fe fi δ) e s1->E e s1)
  {RR:Value->Addr->Result->Shared->Prop}
  (fin:∀a C s' H' ds xs mC,compI m fr t fc fe fi δ=.ok (.lst ds)->Inv X pins σ H' s'->Same H H'->H a=none->H' a=some (.lst xs)->Reps X.K H' ds xs->s'.heap.Ns C mC->H' C=none->C≠a->X.s₀.heap.objs.size<=C->C∉X.fs->C≠X.env.locals->(∀x c,X.env.cells.lookup x=some c->c≠C)->(∀p∈X.pn ++ pins,p.1≠C)->RR (.ref a) C (.ok .next) s') :
  wpAny (model X.prog X.w) X.A (eval iter X.env) (fun x s₁=>wpAny (model X.prog X.w) X.A (pyIter x) (fun itv s₂=>wpAny (model X.prog X.w) X.A (newList []) (fun acc s₃ =>
   wpAny (model X.prog X.w) X.A (newFunctionEnv scope X.env.globals cl [] X.env.qual none .none (some X.env)) (fun cenv s₄ =>
    codeAny (model X.prog X.w) X.A (.compStart (.ListComp elt [⟨tg,iter,cs,0⟩] scope pos) 0 itv acc { cenv with scope:=relabel scope X.env }) (RR acc cenv.locals) s₄) E s₃) E s₂) E s₁) E s:=by
 have hs':(fi δ).bind (compK t fc fe (compS m fr δ))≠.stuck:=hs;refine wpAny_mono (hi pins s σ G H δ I R (aA' hs')) (fun v s1 h1=>wpAny_mono h1 (fun itv s2 h2=>?_) fun e s2 q=>hE e s2 (q.same fun x z=>aL' z)) fun e s2 q=>hE e s2 (q.same fun x z=>aL' z);obtain ⟨ds,it,fp,tn,J,H2,q,rfl,I2,T,st2,f2,e2,Y⟩:=h2;have h3:compK t fc fe (compS m fr δ) ds≠.stuck:=aP' hs' q;have hz':ds.length<=sizeLine:=by
  by_cases z:ds.length<=sizeLine
  ·exact z
  ·exact (h3 (by unfold compK; rw [if_neg z])).elim
 have h4:(mapR (eltI t fc fe (compS m fr δ)) ds).bind (fun rs=>Res.ok (D.lst (rs.flatMap unI)))≠.stuck:=by unfold compK at h3; rw [if_pos hz'] at h3; exact h3
 have hm:mapR (eltI t fc fe (compS m fr δ)) ds≠.stuck:=aA' h4
 cases hR:mapR (eltI t fc fe (compS m fr δ)) ds with
 | stuck=>exact (hm hR).elim
 | err x=>exact (et' (fun d=>iZ' d) ds x hR).elim
 | ok rs =>
 have hz:(rs.flatMap unI).length<=sizeLine:=Nat.le_trans (gn' hR) hz';have ev:compI m fr t fc fe fi δ=.ok (.lst (rs.flatMap unI)):=by unfold compI; rw [q,Res.bind_ok]; unfold compK; rw [if_pos hz',hR]; rfl
 have R2:=R.mono e2;refine wpAny_newObj_type (wpAny_newFunctionEnv W.nocell (by intro y hy; simp at hy) (fun h₁ hns₁ hsb₁=>?_) W.kind);dsimp only at hns₁ hsb₁ ⊢;generalize hA:s2.heap.objs.size=acc at *;generalize hH3:s2.heap.push { cls:=.type "list",dict:=none,data:=.seq ([]:List Value).toArray }=h3' at hns₁ hsb₁ ⊢;have hC:h3'.objs.size=acc + 1:=by rw [<- hH3,Heap.size_push,hA]
 generalize hCC:h3'.objs.size=C at *;have k3:∀b o,s2.heap.get? b=some o->h3'.get? b=some o:=fun b o e=>by rw [<- hH3]; exact Heap.get?_push_of_some _ e
 have a3:h3'.get? acc=some { cls:=.type "list",dict:=none,data:=.seq ([]:List Value).toArray }:=by rw [<- hH3,<- hA]; exact Heap.get?_push_size _ rfl
 have k4:∀b o,h3'.get? b=some o->h₁.get? b=some o:=fun b o e=>hsb₁.extBut b o (fun z=>by have:=Heap.lt_size e; rw [hCC,z] at this; exact Nat.lt_irrefl _ this) (Heap.get?_push_of_some _ e);have hacc2:H2 acc=none:=I2.hok.fresh (by rw [hA]; exact Nat.le_refl _);have I3:Inv X pins σ H2 { s2 with heap:=h3',toks:=s2.toks }:=I2.kept k3
 have fp2:∀b∈fp,b < acc:=fun b hb=>by
  obtain ⟨o,e,_⟩:=T.obj _ _ st2 b hb;have:=Heap.lt_size e;rw [hA] at this; exact this
 have f3:∀b∈acc :: fp,FpOk X pins H2 b/\b < ({ s2 with heap:=h3',toks:=s2.toks }:Shared).heap.objs.size:=fun b hb=>by
  rcases List.mem_cons.mp hb with z | z
  ·subst z;exact ⟨I2.fpOk (by rw [hA]; exact Nat.le_refl _) hacc2,by show _ < h3'.objs.size; rw [hCC,hC]; exact Nat.lt_succ_self _⟩
  ·exact ⟨f2 b z,by show _ < h3'.objs.size; rw [hCC,hC]; exact Nat.lt_succ_of_lt (fp2 b z)⟩
 have hacc:acc∉fp:=fun z=>Nat.lt_irrefl _ (fp2 acc z);have okX:(compX X N' scope cl C { s2 with heap:=h3',toks:=s2.toks } H2 (acc :: fp)).Ok:=hC' I3 W.kind (by show h3'.objs.size<=C; rw [hCC]; exact Nat.le_refl _) W.sub W.has f3
 have hC2:H2 C=none:=I2.hok.fresh (by rw [hA,hC]; exact Nat.le_succ _);have hcells:∀x c,cl.lookup x=some c->∃v,h₁.IsCell c v:=fun x c e=>by
  obtain ⟨v,o,g,d⟩:=I2.cell x c (W.sub x c e);exact ⟨v,o,k4 _ _ (k3 _ _ g),d⟩
 have hos:s2.os=({ s2 with heap:=h3',toks:=s2.toks }:Shared).os:=rfl
 have I4:∀tk,Inv (compX X N' scope cl C { s2 with heap:=h3',toks:=s2.toks } H2 (acc :: fp)) [] (compV m fr σ) H2 { s2 with heap:=h₁,toks:=tk }:=fun tk=>by
  refine ⟨okX,rfl,I2.bare,Un.kept k4,⟨_,hns₁,fun i x v e1 e2 e3=>?_⟩,hcells,hC2,fun x c e=>I2.freeC x c (W.sub x c e),fun p hp=>absurd hp (by show p∉([]:List (Addr×Obj)) ++ []; simp),I3.hok.kept k4,by show _=N'.length; rw [W.len]; simp [compV]⟩;unfold compV at e2
  by_cases hm':i < m
  ·rw [List.getElem?_append_left (by simpa using hm'),List.getElem?_replicate,if_pos hm'] at e2
   cases e2
  ·rw [List.getElem?_append_right (by simpa using hm'),List.getElem?_map] at e2;simp only [List.length_replicate] at e2
   cases qf:fr[i - m]? with
   | none=>rw [qf] at e2; cases e2
   | some k =>
    rw [qf] at e2;simp only [Option.map_some,Option.some.injEq] at e2;have e2':σ[k]? = some (some v):=by
     cases qk:σ[k]? with
     | none=>rw [qk] at e2; cases e2
     | some w=>rw [qk] at e2; simp only [Option.elim_some,id] at e2; rw [e2]
    obtain ⟨x',c,w1,w2,w3,w4,w5,w6⟩:=W.free (i - m) k qf;have hx:x'=x:=by
     have:m + (i - m)=i:=by omega
     rw [this] at w1;have e1':N'[i]? = some x:=e1;rw [e1'] at w1; cases w1; rfl
    subst hx;obtain ⟨m0,hn0,hl0⟩:=I2.loc;obtain ⟨u,r,l⟩:=hl0 k x' v w2 e2' w3;refine ⟨u,r,?_⟩;rcases l with ⟨l1,_⟩ | ⟨l1,c',l2,o,g,d⟩
    ·rcases w4 with z | z <;> (rw [z] at l1; cases l1)
    ·have hcc:c'=c:=by
      have:=W.sub x' c w5;rw [l2] at this; cases this; rfl
     subst hcc;exact .inr ⟨w6,c',w5,o,k4 _ _ (k3 _ _ g),d⟩
 have R4:=hD' m fr R2;have st4:tn 0 h₁:=T.keep 0 _ _ st2 fun b hb o e=>k4 _ _ (k3 _ _ e);have hfp:∀b∈acc :: fp,b≠C/\b∉frs X.stack/\∀x c,cl.lookup x=some c->c≠b:=fun b hb=>by
  obtain ⟨⟨g1,g2,g3,g4,g5,g6⟩,g7⟩:=f3 b hb;refine ⟨Nat.ne_of_lt (by rw [<- hCC]; exact g7),fun z=>?_,fun x c e=>g5 x c (W.sub x c e)⟩;rcases List.mem_cons.mp (I2.stkSub b z) with w | w
  ·exact g2 w
  ·exact g3 w
 have hCs:s2.heap.objs.size<=C:=by rw [hA,hC]; exact Nat.le_succ _
 have loop:∀tk,codeAny (model X.prog X.w) X.A (.compLoop (.ListComp elt [⟨tg,iter,cs,0⟩] scope pos) 0 (.ref it) (.ref acc) (compEnvC scope cl C X.env)) (RR (.ref acc) C) { s2 with heap:=h₁,toks:=tk }:=fun tk=>by
  refine fv' (m:=m) (its0:=#[]) hcalm T Y hR hz' hkt (fun i h sv=>cC' i h sv) (ht C _ H2 (acc :: fp)) hcs (hc C _ H2 (acc :: fp)) (he C _ H2 (acc :: fp)) hacc hfp ?_ (I4 tk) R4 st4 (fun b hb=>(f3 b hb).1.1) ⟨0,k4 _ _ a3⟩;intro s' σ' H' ys its J e' ha' hf' p' v' r';have K1:Inv X pins σ H' s':=I3.call' (ch:=acc :: fp) J.os J.base J.hok J.bare fun b hb=>by
   obtain ⟨⟨g1,g2,g3,g4,g5,g6⟩,g7⟩:=f3 b hb;exact ⟨g4,g2,g5,g6⟩
  obtain ⟨⟨g1,g2,g3,g4,g5,g6⟩,g7⟩:=f3 acc (by simp);obtain ⟨n',o'⟩:=p';have K2:=K1.track (o:=.lst ys) ha' (fun ob e _=>absurd (Nat.lt_of_lt_of_le (Heap.lt_size e) (by rw [<- hA]; exact I2.sz)) (Nat.lt_irrefl _)) g2 g5 g6
   ⟨by rw [r'.length]; exact hz,its.toList,n',v',by simpa using o'⟩
  obtain ⟨mC,hmC,_⟩:=J.loc;have sm:=au' ha' (.lst ys);have hCa:C≠acc:=by omega
  refine fin acc C s' (upd H' acc (.lst ys)) (rs.flatMap unI) ys mC ev K2 (e2.trans (e'.trans sm)) (e2.free hacc2) an' (r'.mono sm) hmC (by rw [al' hCa]; exact J.free) hCa (Nat.le_trans I2.sz hCs) (I2.nofs hCs) (Nat.ne_of_gt (Nat.lt_of_lt_of_le I2.lt hCs)) (fun x c e z=>?_) fun p hp z=>?_
  ·obtain ⟨v,q⟩:=I2.cell x c e;exact absurd (Nat.lt_of_lt_of_le q.lt (by rw [z]; exact hCs)) (Nat.lt_irrefl _)
  ·exact absurd (Nat.lt_of_lt_of_le (Heap.lt_size (I2.pin p hp).1) (by rw [z]; exact hCs)) (Nat.lt_irrefl _)
 exact codeAny_compStart_list (loop _) (T.self X.A 0 _ _ _ st4 (loop _))
theorem compI_true {δ:DS}:compI m fr t (fun _=>.ok true) fe fi δ=compD m fr t fe fi δ:=by
 have el:∀(δ':DS) (d:D),eltI t (fun _=>.ok true) fe δ' d=(eltD t fe δ' d).bind fun x=>.ok (.tup [x]):=fun δ' d=>by
  unfold eltI eltD
  cases t d δ' with
  | none=>rfl
  | some δ1=>cases h:fe δ1 <;> simp only [h] <;> rfl
 have mr:∀(δ':DS) (ds:List D),mapR (eltI t (fun _=>.ok true) fe δ') ds=(mapR (eltD t fe δ') ds).bind fun rs=>.ok (rs.map fun x=>.tup [x]):=fun δ' ds=>by
  induction ds with
  | nil=>rfl
  | cons d ds ih =>
   simp only [mapR,el,ih]
   cases eltD t fe δ' d with
   | stuck=>rfl
   | err x=>rfl
   | ok x=>cases mapR (eltD t fe δ') ds <;> rfl
 have un:∀rs:List D,(rs.map fun x=>D.tup [x]).flatMap unI=rs:=fun rs=>by
  induction rs with
  | nil=>rfl
  | cons r rs ih=>rw [List.map_cons,List.flatMap_cons,ih]; rfl
 unfold compI compD
 cases fi δ with
 | stuck=>rfl
 | err x=>rfl
 | ok ds =>
  show compK t (fun _=>.ok true) fe (compS m fr δ) ds=lstD (mapR (eltD t fe (compS m fr δ)) ds);unfold compK lstD;rw [mr]
  cases hR:mapR (eltD t fe (compS m fr δ)) ds with
  | stuck=>split <;> rfl
  | err x=>exact (et' (fun d=>iY' d) ds x hR).elim
  | ok rs =>
   have h:=dj' hR;show (if ds.length<=sizeLine then Res.ok (D.lst ((rs.map fun x=>D.tup [x]).flatMap unI)) else .stuck)=if rs.length<=sizeLine then Res.ok (D.lst rs) else .stuck
   rw [un,h]
theorem dk' (W:Around' X m fr N' scope cl) (hcalm:X.calm=true) (hkt:KeepsT m t) (hi:PID X tg iter fi) (ht:∀C s H fp,PGD (compX X N' scope cl C s H fp) tg t) (he:∀C s H fp,PD (compX X N' scope cl C s H fp) elt fe)
  {pins:List (Addr×Obj)} {s:Shared} {σ:St} {G H:Hp} {δ:DS} (I:Inv X pins σ H s) (R:RepSt X.K G H σ δ) (hs:compD m fr t fe fi δ≠.stuck) {E:Value->Shared->Prop} (hE:∀e s1,XPost X pins σ H s.heap (compD m fr t fe fi δ) e s1->E e s1)
  {RR:Value->Addr->Result->Shared->Prop}
  (fin:∀a C s' H' ds xs mC,compD m fr t fe fi δ=.ok (.lst ds)->Inv X pins σ H' s'->Same H H'->H a=none->H' a=some (.lst xs)->Reps X.K H' ds xs->s'.heap.Ns C mC->H' C=none->C≠a->X.s₀.heap.objs.size<=C->C∉X.fs->C≠X.env.locals->(∀x c,X.env.cells.lookup x=some c->c≠C)->(∀p∈X.pn ++ pins,p.1≠C)->RR (.ref a) C (.ok .next) s') :
  wpAny (model X.prog X.w) X.A (eval iter X.env) (fun x s₁=>wpAny (model X.prog X.w) X.A (pyIter x) (fun itv s₂=>wpAny (model X.prog X.w) X.A (newList []) (fun acc s₃ =>
   wpAny (model X.prog X.w) X.A (newFunctionEnv scope X.env.globals cl [] X.env.qual none .none (some X.env)) (fun cenv s₄ =>
    codeAny (model X.prog X.w) X.A (.compStart (.ListComp elt [⟨tg,iter,[],0⟩] scope pos) 0 itv acc { cenv with scope:=relabel scope X.env }) (RR acc cenv.locals) s₄) E s₃) E s₂) E s₁) E s:=by
 have e:compD m fr t fe fi δ=compI m fr t (fun _=>.ok true) fe fi δ:=compI_true.symm;rw [e] at hs hE;exact go' (cs:=[]) W hcalm hkt hi ht (Nat.zero_le 1) (fun C s H fp pins s' σ G H' δ I R _=>wpAny_pure ⟨H',rfl,I,Same.refl _⟩) he I R hs hE fun a C s' H' ds xs mC ev=>fin a C s' H' ds xs mC (e.trans ev)
theorem bp' (W:Around' X m fr N' scope cl) (hcalm:X.calm=true) (hkt:KeepsT m t) (hi:PID X tg iter fi) (ht:∀C s H fp,PGD (compX X N' scope cl C s H fp) tg t) (he:∀C s H fp,PD (compX X N' scope cl C s H fp) elt fe)
  (hf:∀x,foldedSetIterable iter X.env x=pure x:=by intro _; rfl):PD X (.ListComp elt [⟨tg,iter,[],0⟩] scope pos) (compD m fr t fe fi):=by
 intro pins s σ G H δ I R hs;rw [eval_ListComp];refine wpAny_comprehension_free (use:=none) rfl hf W.clos W.kind W.names (dk' W hcalm hkt hi ht he I R hs (fun _ _ q=>q) (RR:=fun acc C=>compPost _ _ _ none _ acc C) ?_);intro a C s' H' ds xs mC ev J e' ha hx hr hns hC hCa hC0 hCf hCl hCc hCp;refine ⟨mC,hns,fun h' hs'=>?_⟩;exact ⟨.lst ds,.ref a,H',ev,J.but (t':=s'.toks) hC hC0 hCl hCc hCp hs',rfl,e',mkL (SqL.of hx) hr⟩
theorem cD' (i:Nat) {y:Str} {py spos:Pos} (W:Around' X m fr N' scope cl) (hcalm:X.calm=true) (hkt:KeepsT m t) (hi:PID X tg iter fi) (ht:∀C s H fp,PGD (compX X N' scope cl C s H fp) tg t) (he:∀C s H fp,PD (compX X N' scope cl C s H fp) elt fe)
  (hN:X.N.Nodup) (hsw:swapsWith (.ListComp elt [⟨tg,iter,[],0⟩] scope pos) (some (.Name y py)) spos.line X.env=pure true:=by rfl) (hy:X.N[i]? = some y:=by rfl) (hx:Loc X.env.scope y:=by first | exact Or.inl rfl | exact Or.inr rfl)
  (hfn:X.fn y=true\/X.env.scope.names.lookup y=some .local:=by first | exact .inl rfl | exact .inr rfl | assumption) (hf:∀x,foldedSetIterable iter X.env x=pure x:=by intro _; rfl) :
  PSD X (.Assign [.Name y py] (.ListComp elt [⟨tg,iter,[],0⟩] scope pos) spos) (setD i (compD m fr t fe fi)):=by
 intro pins s σ G H δ I R hs;have hs':compD m fr t fe fi δ≠.stuck:=fq' hs;rw [exec_Assign_Name_used _ _ _ _ hsw];refine wpAny_bind (wpAny_standAt (wpAny_bind ?_));show wpAny _ X.A (do let _ <- comprehension (.ListComp elt [⟨tg,iter,[],0⟩] scope pos) scope X.env _ (newList []) false (eval iter X.env) (some (assign (.Name y py) X.env))) _ _ s
 refine wpAny_bind (wpAny_mono (wpAny_comprehension_free (use:=some (assign (.Name y py) X.env)) (Q:=fun _ s'=>SPost X pins G H (setD i (compD m fr t fe fi) δ) .next s') rfl hf W.clos W.kind W.names
  (dk' W hcalm hkt hi ht he I R hs' (fun e s1 q=>q.sx R fun x z=>by unfold setD; rw [z]; rfl) (RR:=fun acc C=>compPost _ _ _ (some (assign (.Name y py) X.env)) _ acc C) ?_)) (fun _ s' hq=>wpAny_pure (wpAny_pure hq)) fun _ _ e=>e)
 intro a C s' H' ds xs mC ev J e' ha hx' hr hns hC hCa hC0 hCf hCl hCc hCp;show wpAny _ X.A (assign (.Name y py) X.env (.ref a)) _ _ _;refine wpAny_assign_Name (cz' J hN hy hx (v:=.ref a) (u:=.ref a) rfl (fun s2 I2 ⟨b,sb,hb⟩=>?_) hfn);have hbC:C≠b:=by
  rcases hb with z | z
  ·rw [z]; exact hCl
  ·exact fun w=>hCc _ _ z w.symm
 refine ⟨mC,hns.sameBut sb hbC,fun h' hs'=>?_⟩;refine ⟨_,_,H',by unfold setD; rw [ev]; rfl,I2.but (t':=s2.toks) hC hC0 hCl hCc hCp hs',e'.tk,(R.mono e').set i (mkL (SqL.of hx') hr)⟩
end
mutual
noncomputable def toP:D->PyData
 | .non=>.none
 | .bl b=>.bool b
 | .int i=>.int i
 | .str x=>.str x
 | .tup ds=>.tuple (toPs ds)
 | .lst ds=>.list (toPs ds)
 | _=>.none
noncomputable def toPs:List D->List PyData
 | []=>[]
 | d :: ds=>toP d :: toPs ds
end
noncomputable def okD:Nat->D->Bool
 | _,.non=>true
 | _,.bl _=>true
 | _,.int _=>true
 | _,.str x=>PyData.strOk x
 | n + 1,.tup ds=>ds.all (okD n)
 | n + 1,.lst ds=>ds.all (okD n)
 | _,_=>false
theorem ja':∀(n:Nat) (d:D),okD n d=true->(toP d).canLay0=true/\(toP d).depth<=n:=by
 intro n;have all:∀n,(∀d,okD n d=true->(toP d).canLay0=true/\(toP d).depth<=n)->∀ds:List D,(∀d∈ds,okD n d=true)->PyData.canLayAll0 (toPs ds)=true/\PyData.depthAll (toPs ds)<=n:=by
  intro n ih ds
  induction ds with
  | nil=>intro _; simp [toPs,PyData.canLayAll0,PyData.depthAll]
  | cons d ds hi =>
   intro h;have q1:=ih d (h d (.head _));have q2:=hi fun x hx=>h x (.tail _ hx);simp only [toPs,PyData.canLayAll0,PyData.depthAll,Bool.and_eq_true];exact ⟨⟨q1.1,q2.1⟩,by omega⟩
 induction n with
 | zero =>
  intro d h
  cases d <;> simp_all [okD,toP,PyData.canLay0,PyData.depth]
 | succ n ih =>
  intro d h
  cases d with
  | tup ds =>
   have:=all n ih ds (by simpa [okD] using h);simp only [toP,PyData.canLay0,PyData.depth];exact ⟨this.1,by omega⟩
  | lst ds =>
   have:=all n ih ds (by simpa [okD] using h);simp only [toP,PyData.canLay0,PyData.depth];exact ⟨this.1,by omega⟩
  | _=>simp_all [okD,toP,PyData.canLay0,PyData.depth]
section
variable {X:Cx} {pins:List (Addr×Obj)} {σ:St} {H:Hp} {s:Shared}
mutual
theorem bR' (I:Inv X pins σ H s):∀(n:Nat) {d:D} {v:V} {u:Value},okD n d=true->Rep X.K H d v->RelV v u->∃as,Reads s.heap u (toP d) as
 | n,.non,v,u,_,p,r=>by rw [Rep] at p; subst p; cases r; rw [toP]; exact ⟨_,Reads.none⟩
 | n,.bl b,v,u,_,p,r=>by rw [Rep] at p; subst p; cases r; rw [toP]; exact ⟨_,Reads.bool b⟩
 | n,.int i,v,u,_,p,r=>by rw [Rep] at p; subst p; obtain ⟨t,rfl⟩:=r; rw [toP]; exact ⟨_,Reads.int i t⟩
 | n,.str x,v,u,_,p,r=>by rw [Rep] at p; subst p; obtain ⟨t,rfl⟩:=r; rw [toP]; exact ⟨_,Reads.str x t⟩
 | n + 1,.tup ds,v,u,h,p,r=>by
  obtain ⟨a,xs,rfl,hq,rs⟩:=repT p
  cases r
  obtain ⟨its,rv,⟨o,g,c,k,d⟩,hz⟩:=I.tuple hq;obtain ⟨as,q⟩:=cE' I n (by simpa [okD] using h) rs rv;rw [toP];exact ⟨as,reads_tuple_at g c d (by simpa using q)⟩
 | n + 1,.lst ds,v,u,h,p,r=>by
  obtain ⟨a,xs,rfl,hq,rs⟩:=repL p
  cases r
  obtain ⟨its,rv,⟨o,k,g,c,_,d⟩,hz⟩:=I.list hq;obtain ⟨as,q⟩:=cE' I n (by simpa [okD] using h) rs rv;rw [toP];exact ⟨_,reads_list_at g c d (by simpa using q)⟩
 | 0,.tup ds,v,u,h,p,r=>by simp [okD] at h
 | 0,.lst ds,v,u,h,p,r=>by simp [okD] at h
 | n,.exc c,v,u,h,p,r=>by cases n <;> simp [okD] at h
 | n,.excf c f d,v,u,h,p,r=>by cases n <;> simp [okD] at h
 | n,.dct,v,u,h,p,r=>by cases n <;> simp [okD] at h
theorem cE' (I:Inv X pins σ H s):∀(n:Nat) {ds:List D} {vs:List V} {us:List Value},(∀d∈ds,okD n d=true)->Reps X.K H ds vs->Vals vs us->∃as,ReadsAll s.heap us (toPs ds) as
 | n,[],vs,us,_,p,r=>by
  cases p.nil_of
  cases r
  rw [toPs];exact ⟨_,ReadsAll.nil⟩
 | n,d :: ds,vs,us,h,p,r=>by
  obtain ⟨v,ws,rfl,p1,p2⟩:=p.cons_of
  cases r with
  | cons r1 r2 =>
   obtain ⟨as,q⟩:=bR' I n (h d (.head _)) p1 r1;obtain ⟨bs,q2⟩:=cE' I n (fun x hx=>h x (.tail _ hx)) p2 r2;rw [toPs];exact ⟨_,ReadsAll.cons q q2⟩
end
end
noncomputable def eqD (a b:D):Res D:=if okD 8 a=true/\okD 8 b=true then .ok (.bl (PyData.eqv (toP a) (toP b))) else .stuck
noncomputable def neD (a b:D):Res D:=if okD 8 a=true/\okD 8 b=true then .ok (.bl (!PyData.eqv (toP a) (toP b))) else .stuck
theorem aV' (x y:D):NoErr (eqD x y):=ay' ak' af'
theorem cr' (x y:D):NoErr (neD x y):=ay' ak' af'
theorem bS' {d:D} (h:okD 8 d=true):SeqAt.shaped (toP d)=true:=by
 have:=ja' 8 d h;unfold SeqAt.shaped;rw [this.1,Bool.true_and];exact decide_eq_true (Nat.le_trans this.2 (by decide))
theorem bw' {X:Cx} (hu:X.A.units + 64 < cLine):OpD X (compareOp .Eq) eqD:=by
 intro E pins s σ H x y v u a b d I r1 r2 p1 p2 e;unfold eqD at e
 split at e
 ·rename_i c
  cases e
  obtain ⟨as,ra⟩:=bR' I 8 c.1 p1 r1;obtain ⟨bs,rb⟩:=bR' I 8 c.2 p2 r2;exact SeqAt.compareEq_shaped ra rb (bS' c.1) (bS' c.2) hu ⟨_,.bl _,H,rfl,I,rfl,Same.refl H,mkB⟩
 ·cases e
theorem dP' {X:Cx} (hu:X.A.units + 64 < cLine):OpD X (compareOp .NotEq) neD:=by
 intro E pins s σ H x y v u a b d I r1 r2 p1 p2 e;unfold neD at e
 split at e
 ·rename_i c
  cases e
  obtain ⟨as,ra⟩:=bR' I 8 c.1 p1 r1;obtain ⟨bs,rb⟩:=bR' I 8 c.2 p2 r2;exact SeqAt.compareNe_shaped ra rb (bS' c.1) (bS' c.2) hu ⟨_,.bl _,H,rfl,I,rfl,Same.refl H,mkB⟩
 ·cases e
noncomputable def tyName:D->String
 | .non=>"NoneType"
 | .bl _=>"bool"
 | .int _=>"int"
 | .str _=>"str"
 | .tup _=>"tuple"
 | .lst _=>"list"
 | .dct=>"dict"
 | _=>""
theorem kn' {K:PySem.W.Frag} {prog:Program} {w:World} {A:Around} {s:Shared} {x D:Addr} {ox:Obj} {tk:Tok} {R:Result->Shared->Prop}
  (hdct:PySem.W.hasDictIn K D=true) (ha:PySem.W.findIn K (.ref D) "__class__" = some (some (.builtin "object.__class__")))
  (hn:PySem.W.specialIn K (.builtin "object.__class__") "__get__" = some (some (.builtin "getset_descriptor.__get__"))) (htk:PySem.W.takesIn K (.builtin "object.__class__")=some true) (hm:PySem.W.mroIn K D (.type "object")=some true) (hB:PySem.W.mroIn K D (.type "BaseException")=some true)
  {od:Option Obj} (X:K.In s.heap) (I:PySem.W.InstAt s.heap x ox D od) (h:R (.ok (.ret (.ref D))) s) :
  codeAny (model prog w) A (.call (.builtin "BaseException.__getattribute__") ⟨[.ref x,.str "__class__" tk],[]⟩) R s:=by
 have hf:PySem.W.findObj K D od "__class__" = some (.bind (.builtin "getset_descriptor.__get__") (.builtin "object.__class__")):=by
  obtain ⟨cd,hc,_⟩:=PySem.W.any_some hdct;unfold PySem.W.findObj;rw [hc,Option.bind_some,ha,Option.bind_some];simp [hn,htk]
 have hk:builtinKind "BaseException.__getattribute__" = some .slot:=by decide +kernel
 have hsplit:splitId "BaseException.__getattribute__" = some ("BaseException", "__getattribute__"):=by decide +kernel
 have L0:=I.type (M:=model prog w);have L1:=PySem.W.looks_find (M:=model prog w) X I hf;have L2:=PySem.W.looks_mroIn (M:=model prog w) X hB;have har:=F.args_bexc_ga (.ref x) (.str "__class__" tk);refine codeAny_call_builtin (by decide +kernel) F.entry_bexc_ga ?_;simp only [checkBuiltinCall,hk,hsplit];refine wpAny_bind ?_;unfold isInstance;refine wpAny_bind (L0.at (L2.at ?_));simp only [Bool.not_true,Bool.false_eq_true,if_false]
 repeat (first | with_reducible refine wpAny_pure ?_ | with_reducible refine wpAny_bind ?_ | wp_step)
 obtain ⟨hh,g,dr,t,os⟩:=s;refine wpAny_loadPart I.at_ (wpAny_pure ?_);rw [I.cls];refine wpAny_bind (L1.at ?_);show wpAny _ _ (Builtin.ObjectAttr.bindTo _ _ _ _) _ _ _;unfold Builtin.ObjectAttr.bindTo;refine wpAny_bind (wpAny_holding (wpAny_call (PySem.W.class_get (s:=⟨hh,g,dr,t,os⟩) (ox:=ox) (od:=od) X I hm ?_)));exact wpAny_pure h
theorem dQ' {K:PySem.W.Frag} {prog:Program} {w:World} {A:Around} {E:Value->Shared->Prop} {s:Shared} {x D:Addr} {ox:Obj} {Q:Option Value->Shared->Prop}
  (hga:PySem.W.findIn K (.ref D) "__getattribute__" = some (some (.builtin "BaseException.__getattribute__"))) (hgk:PySem.W.findIn K (.ref D) "__getattr__" = some none)
  (hdct:PySem.W.hasDictIn K D=true) (ha:PySem.W.findIn K (.ref D) "__class__" = some (some (.builtin "object.__class__")))
  (hn:PySem.W.specialIn K (.builtin "object.__class__") "__get__" = some (some (.builtin "getset_descriptor.__get__"))) (htk:PySem.W.takesIn K (.builtin "object.__class__")=some true) (hm:PySem.W.mroIn K D (.type "object")=some true) (hB:PySem.W.mroIn K D (.type "BaseException")=some true)
  {od:Option Obj} (X:K.In s.heap) (I:PySem.W.InstAt s.heap x ox D od) (h:Q (some (.ref D)) { s with toks:=s.toks + 1 }):wpAny (model prog w) A (getAttr? (.ref x) "__class__") Q E s:=by
 obtain ⟨hh,g,d,t,os⟩:=s;have L0:=I.type (M:=model prog w);have L1:=PySem.W.looks_findIn (M:=model prog w) X hga;have Lk:=PySem.W.looks_findIn (M:=model prog w) X hgk;unfold getAttr? getAttrBy? getAttrBy;refine wpAny_bind (wpAny_mkText (wpAny_bind (wpAny_attempt (wpAny_holding (wpAny_bind (L0.at (wpAny_bind (L1.at ?_))))))));show wpAny _ _ (getAttrByItsOwn _ _ _ _ _ _) _ _ _;unfold getAttrByItsOwn hookBefore;refine wpAny_bind (Lk.at ?_);refine wpAny_bind (wpAny_attempt (wpAny_holding ?_));show wpAny _ _ (boundAndCalled _ _ _) _ _ _;unfold boundAndCalled;rw [PySem.F.attrBase_ValueError.ga.bind];refine wpAny_bind (wpAny_pure (wpAny_call (kn' (s:=⟨hh,g,d,t + 1,os⟩) hdct ha hn htk hm hB X I ?_)));exact PySem.W.handed_on rfl (wpAny_pure h)
structure ExcCls (K:PySem.W.Frag) (C:Addr):Prop where
 hga:PySem.W.findIn K (.ref C) "__getattribute__" = some (some (.builtin "BaseException.__getattribute__"))
 hgk:PySem.W.findIn K (.ref C) "__getattr__" = some none
 hdct:PySem.W.hasDictIn K C=true
 ha:PySem.W.findIn K (.ref C) "__class__" = some (some (.builtin "object.__class__"))
 hn:PySem.W.specialIn K (.builtin "object.__class__") "__get__" = some (some (.builtin "getset_descriptor.__get__"))
 htk:PySem.W.takesIn K (.builtin "object.__class__")=some true
 hm:PySem.W.mroIn K C (.type "object")=some true
 hB:PySem.W.mroIn K C (.type "BaseException")=some true
theorem eS' {K:PySem.W.Frag} {a C:Addr} {dd:Option Addr} (W:ExcCls K C):PySem.W.KitX K (.ref a) (.ref C) (fun h=>excAt a C dd h/\match dd with | none=>True | some dx=>∃o,h.get? dx=some o) where
 ty:=fun M h _ ⟨⟨o,vs,g,c,_⟩,_⟩=>by rw [<- c]; exact (PySem.W.Looks.ld g).andThen .now
 it:=fun _ _ X _=>by
  obtain ⟨cdD,hcD,_⟩:=PySem.W.any_some W.hdct;unfold PySem.W.clsIn at hcD
  split at hcD
  ·rename_i c' d' cd' sl' ho;intro A' Q' E' s' k q;unfold isType loadHead;exact wpAny_bind (wpAny_loadPart (k _ _ (X _ _ ho)) (wpAny_pure q))
  ·cases hcD
 ne:=fun h tp dd its n sl X htp=>by
  obtain ⟨cdD,hcD,_⟩:=PySem.W.any_some W.hdct;refine Bool.eq_false_iff.mpr fun q=>?_;have e:C=tp:=Value.ref.inj (beq_iff_eq.mp q);subst e;unfold PySem.W.clsIn at hcD
  split at hcD
  ·rename_i c' d' cd' sl' ho;have z:=(X _ _ ho).symm.trans htp
   cases z
  ·cases hcD
 ca:=fun X ⟨⟨o,vs,g,c,d,hd⟩,w⟩ k=>by
  cases dd with
  | none=>exact dQ' (od:=none) W.hga W.hgk W.hdct W.ha W.hn W.htk W.hm W.hB X ⟨g,c,by unfold PySem.W.notCls; rw [hd],by rw [d]; trivial⟩ k
  | some dx =>
   obtain ⟨od,ho⟩:=w;exact dQ' (od:=some od) W.hga W.hgk W.hdct W.ha W.hn W.htk W.hm W.hB X ⟨g,c,by unfold PySem.W.notCls; rw [hd],by rw [d]; exact ho⟩ k
noncomputable def IsOk (K:PySem.W.Frag) (cv:Value) (b:Bool):D->Prop
 | .exc n=>∀C,PySem.W.nsIn K mainGlobals n=some (some (.ref C))->ExcCls K C/\PySem.W.kitOne K (.ref C) cv=some b
 | .excf n _ _=>∀C,PySem.W.nsIn K mainGlobals n=some (some (.ref C))->ExcCls K C/\PySem.W.kitOne K (.ref C) cv=some b
 | d=>PySem.W.kitOne K (.type (tyName d)) cv=some b
theorem hE' {X:Cx} {pins:List (Addr×Obj)} {σ:St} {H:Hp} {s:Shared} {A:Around} {E:Value->Shared->Prop} {Q:Value->Shared->Prop} {cv u:Value} {v:V} {d:D} {b:Bool} (I:Inv X pins σ H s) (p:Rep X.K H d v) (r:RelV v u) (ok:IsOk X.K cv b d)
  (h:∀tk,Q (.bool b) { s with toks:=tk }):wpAny (model X.prog X.w) A (call (.builtin "isinstance") [u,cv]) Q E s:=by
 cases d with
 | non=>rw [Rep] at p; subst p; exact bO' I r .non ok h
 | bl k=>rw [Rep] at p; subst p; exact bO' I r (.bl k) ok h
 | int k=>rw [Rep] at p; subst p; exact bO' I r (.int k) ok h
 | str k=>rw [Rep] at p; subst p; exact bO' I r (.str k) ok h
 | tup ds =>
  obtain ⟨a,xs,rfl,hq,_⟩:=repT p
  cases r
  obtain ⟨its,_,⟨o,g,c,_⟩,_⟩:=I.tuple hq;exact PySem.W.kia_one PySem.W.kitx_tuple I.kIn ⟨o,g,c⟩ ok (fun z=>nomatch z) h
 | lst ds =>
  obtain ⟨a,xs,rfl,hq,_⟩:=repL p
  cases r
  obtain ⟨its,_,⟨o,_,g,c,_⟩,_⟩:=I.list hq;exact PySem.W.kia_one PySem.W.kitx_list I.kIn ⟨o,g,c⟩ ok (fun z=>nomatch z) h
 | exc n =>
  rw [Rep] at p;obtain ⟨a,C,rfl,hC,hH⟩:=p
  cases r
  obtain ⟨W,ok⟩:=ok C hC;exact PySem.W.kia_one (eS' (dd:=none) W) I.kIn ⟨(I.hok a _ hH).1,trivial⟩ ok (fun z=>nomatch z) h
 | excf n f d =>
  rw [Rep] at p;obtain ⟨a,C,dx,w,rfl,hC,hH,hx,_⟩:=p
  cases r
  obtain ⟨W,ok⟩:=ok C hC;obtain ⟨mA,⟨o,_,_,g,_⟩,_⟩:=I.hok dx _ hx;exact PySem.W.kia_one (eS' (dd:=some dx) W) I.kIn ⟨(I.hok a _ hH).1,o,g⟩ ok (fun z=>nomatch z) h
 | dct =>
  rw [Rep] at p;obtain ⟨a,rfl,hH⟩:=p
  cases r
  exact PySem.W.kia_one PySem.W.kitx_dict I.kIn (I.hok a _ hH).1 ok (fun z=>nomatch z) h
theorem hF':bootBuiltins "isinstance" = some (.builtin "isinstance"):=by decide +kernel
noncomputable def isG (isF:D->Option Bool) (d:D):Res D:=match isF d with | some b=>.ok (.bl b) | none=>.stuck
section
variable {X:Cx} {e:Expr} {f:DS->Res D} {c:Str} {p cp pos:Pos} {cv:Value} {isF:D->Option Bool}
theorem aZ' (hI:∀d b,isF d=some b->IsOk X.K cv b d) (ha:PD X e f) (hc:∀(pins:List (Addr×Obj)) (σ:St) (H:Hp) (s:Shared) (E:Value->Shared->Prop) (Q:Value->Shared->Prop),Inv X pins σ H s->Q cv s->wpAny (model X.prog X.w) X.A (eval (.Name c cp) X.env) Q E s)
  (hg:Gl X "isinstance") (hm:X.mg "isinstance" = none) (he:starEach [e,.Name c cp] X.env=(false,eval e X.env) :: starEach [.Name c cp] X.env:=by rfl) (he2:starEach [.Name c cp] X.env=[(false,eval (.Name c cp) X.env)]:=by rfl) :
  PD X (.Call (.Name "isinstance" p) [e,.Name c cp] [] pos) (fun δ=>(f δ).bind (isG isF)):=by
 intro pins s σ G H δ I R hs
 try dsimp only at hs ⊢
 refine wpAny_Call_Name_kw (cQ' I hg hm (u:=.builtin "isinstance") hF' ?_ (by decide) (by decide));refine PyProof.Rows.callWith_builtin1 ?_ he (by rw [he2]; rfl);rw [he];show wpAny _ _ (spliced ((false,eval e X.env) :: backTo pos (starEach [.Name c cp] X.env))) _ _ s;refine Calls.spliced_cons (ha.use I R (aA' hs) (fun d u s1 v H1 q I1 r1 e1 b1 p1=>?_) fun e s1 q=>q.same fun x z=>aL' z);rw [he2];show wpAny _ _ (spliced ((false,eval (.Name c cp) X.env) :: backTo pos [])) _ _ s1;refine Calls.spliced_cons (hc pins σ H1 s1 _ _ I1 (Calls.spliced_nil ?_));have h2:=aP' hs q
 cases z:isF d with
 | none=>exact (h2 (by unfold isG; rw [z])).elim
 | some b=>exact hE' I1 p1 r1 (hI d b z) fun tk=>⟨.bl b,.bl b,H1,by rw [q,Res.bind_ok]; unfold isG; rw [z],I1.tok tk,rfl,e1,mkB⟩
theorem ce' {T:String} (hg:Gl X c) (hm:X.mg c=none) (hv:bootBuiltins c=some (.type T)) (hn:c≠"__name__":=by decide) (hd:(c == ("__debug__" : Str))=false:=by decide) (pins:List (Addr×Obj)) (σ:St) (H:Hp) (s:Shared) (E:Value->Shared->Prop) (Q:Value->Shared->Prop) (I:Inv X pins σ H s) (h:Q (.type T) s) :
  wpAny (model X.prog X.w) X.A (eval (.Name c cp) X.env) Q E s:=cQ' I hg hm hv h hn hd
theorem eT' {C:Addr} (hg:Gl X c) (hm:X.mg c=some (.ref C)) (hd:(c == ("__debug__" : Str))=false:=by decide) (pins:List (Addr×Obj)) (σ:St) (H:Hp) (s:Shared) (E:Value->Shared->Prop) (Q:Value->Shared->Prop) (I:Inv X pins σ H s) (h:Q (.ref C) s) :
  wpAny (model X.prog X.w) X.A (eval (.Name c cp) X.env) Q E s:=ca' I hg hm h hd
end
end DL
namespace DL
open PySem PySem.Spec PyProof.Rows L2
noncomputable def bools:List D->Option (List Bool)
 | []=>some []
 | .bl b :: ds=>(bools ds).map (b :: ·)
 | _=>none
theorem dR':∀{ds:List D} {bs:List Bool} {i:Nat} {d:D},bools ds=some bs->ds[i]? = some d->∃b,d=.bl b/\bs[i]? = some b
 | [],_,_,_,_,e=>by simp at e
 | .bl b :: ds,bs,i,d,h,e=>by
  simp only [bools] at h
  cases q:bools ds with
  | none=>rw [q] at h; cases h
  | some cs =>
   rw [q] at h;simp only [Option.map_some,Option.some.injEq] at h;subst h
   cases i with
   | zero=>simp at e; subst e; exact ⟨b,rfl,by simp⟩
   | succ i =>
    simp at e;obtain ⟨b',e1,e2⟩:=dR' q e;exact ⟨b',e1,by simpa using e2⟩
 | .non :: ds,bs,i,d,h,e=>by simp [bools] at h
 | .int _ :: ds,bs,i,d,h,e=>by simp [bools] at h
 | .str _ :: ds,bs,i,d,h,e=>by simp [bools] at h
 | .tup _ :: ds,bs,i,d,h,e=>by simp [bools] at h
 | .lst _ :: ds,bs,i,d,h,e=>by simp [bools] at h
 | .exc _ :: ds,bs,i,d,h,e=>by simp [bools] at h
 | .excf _ _ _ :: ds,bs,i,d,h,e=>by simp [bools] at h
 | .dct :: ds,bs,i,d,h,e=>by simp [bools] at h
theorem dS':∀{ds:List D} {bs:List Bool},bools ds=some bs->bs.length=ds.length
 | [],bs,h=>by simp [bools] at h; subst h; rfl
 | .bl b :: ds,bs,h=>by
  simp only [bools] at h
  cases q:bools ds with
  | none=>rw [q] at h; cases h
  | some cs =>
   rw [q] at h;simp only [Option.map_some,Option.some.injEq] at h;subst h;simp [dS' q]
 | .non :: ds,bs,h=>by simp [bools] at h
 | .int _ :: ds,bs,h=>by simp [bools] at h
 | .str _ :: ds,bs,h=>by simp [bools] at h
 | .tup _ :: ds,bs,h=>by simp [bools] at h
 | .lst _ :: ds,bs,h=>by simp [bools] at h
 | .exc _ :: ds,bs,h=>by simp [bools] at h
 | .excf _ _ _ :: ds,bs,h=>by simp [bools] at h
 | .dct :: ds,bs,h=>by simp [bools] at h
theorem range_all (bs:List Bool):(List.range bs.length).all (fun i=>bs.getD i true)=bs.all id:=by
 rw [Bool.eq_iff_iff];simp only [List.all_eq_true,List.mem_range,id]
 constructor
 ·intro h b hb;obtain ⟨i,hi,rfl⟩:=List.mem_iff_getElem.mp hb;have:=h i hi;simpa [List.getD,hi] using this
 ·intro h i hi;have:=h bs[i] (List.getElem_mem hi);simpa [List.getD,hi] using this
noncomputable def allG:List D->Res D
 | [.lst ds]=>match bools ds with | some bs=>.ok (.bl (bs.all id)) | none=>.stuck
 | _=>.stuck
theorem gp' (ds:List D):NoErr (allG ds):=by
 unfold allG
 split
 ·split
  ·exact ak'
  ·exact af'
 ·exact af'
theorem gq' {X:Cx} {pins:List (Addr×Obj)} {s:Shared} {σ:St} {H:Hp} {a:Addr} {xs:List V} {ds:List D} {bs:List Bool} {its:List Value} (rv:Vals xs its) (r:Reps X.K H ds xs) (hb:bools ds=some bs) {A:Around} :
  TruthOf X.prog X.w A (fun i v=>its.toArray[i]? = some v) (fun i=>bs.getD i true):=by
 intro i v s Q E hP hQ;have hP':its[i]? = some v:=by simpa using hP
 have hl:i < xs.length:=by rw [rv.length]; exact (List.getElem?_eq_some_iff.mp hP').1
 obtain ⟨d,e1,e2⟩:=r.get' (i:=i) (v:=xs[i]) (by simp [hl]);obtain ⟨b,rfl,e3⟩:=dR' hb e1;obtain ⟨u,e4,e5⟩:=rv.get (i:=i) (x:=xs[i]) (by simp [hl]);rw [hP'] at e4; cases e4;rw [repB e2] at e5
 cases e5
 refine wpAny_truthy_bool ?_;simpa [List.getD,e3] using hQ
theorem iq' {X:Cx} (hcalm:X.calm=true):CallD X (.builtin "all") allG:=by
 intro E pins s σ H xs us ds d I r p e;unfold allG at e
 split at e
 ·rename_i es
  split at e
  ·rename_i bs hb
   cases e
   obtain ⟨v,vs,rfl,p1,t⟩:=p.cons_of
   cases t.nil_of
   obtain ⟨u,rfl,rx⟩:=vals1 r;obtain ⟨a,ys,rfl,hq,rs⟩:=repL p1
   cases rx
   obtain ⟨its,rv,pl,hz⟩:=I.list hq;refine call_all_walk (wpAny_pyIter_list pl.isList ?_);have hax:a≠s.heap.objs.size:=by
    obtain ⟨o,_,g,_⟩:=pl;exact Nat.ne_of_lt (Heap.lt_size g)
   have hn:its.toArray.size=bs.length:=by rw [List.size_toArray,<- rv.length,rs.length,dS' hb]
   refine ⟨_,_,_,_,_,_,fun i=>bs.getD i true,rfl,Walks.list (A:=X.A.in1) (show X.A.in1.handled=none from I.ok.hd hcalm) s.heap.objs.size a hax its.toArray,⟨⟨_,Heap.get?_push_size _ rfl,rfl,rfl⟩,(let ⟨o,g,r⟩:=pl.isList; ⟨o,Heap.get?_push_of_some _ g,r⟩)⟩,gq' (X:=X) (pins:=pins) (s:=s) (σ:=σ) (H:=H) (a:=a) rv rs hb,fun h' tk hk=>?_⟩
   rw [hn,range_all];have k:∀b o,s.heap.get? b=some o->h'.get? b=some o:=fun b o e=>hk b o (by
    intro z;have:b=s.heap.objs.size:=by simpa using z
    exact absurd (Heap.lt_size e) (by rw [this]; exact Nat.lt_irrefl _)) (Heap.get?_push_of_some _ e)
   exact ⟨_,.bl _,H,rfl,I.kept (t':=tk) k,rfl,Same.refl H,mkB⟩
  ·cases e
 ·cases e
section
variable {X:Cx} {o e:Expr} {es:List Expr} {fo:DS->Res D} {fs:DS->Res (List D)} {name:Str} {apos cpos:Pos} {T id:String} {g:D->List D->Res D}
end
noncomputable def bindF {α:Type} (f:DS->Res α) (g:α->Res D):DS->Res D:=fun δ=>(f δ).bind g
noncomputable def bindL (f:DS->Res D) (g:D->Res (List D)):DS->Res (List D):=fun δ=>(f δ).bind g
noncomputable def bindT (f:DS->Res D) (g:D->Res Bool):DS->Res Bool:=fun δ=>(f δ).bind g
noncomputable def notT (t:DS->Res Bool):DS->Res Bool:=fun δ=>(t δ).bind fun c=>.ok (!c)
noncomputable def tupF (f:DS->Res (List D)):DS->Res D:=fun δ=>tupD (f δ)
noncomputable def lstF (f:DS->Res (List D)):DS->Res D:=fun δ=>lstD (f δ)
noncomputable def negG:D->Res D
 | .int i=>.ok (.int (-i))
 | _=>.stuck
noncomputable def negF (f:DS->Res D):DS->Res D:=fun δ=>(f δ).bind negG
noncomputable def retD (f:DS->Res D):DS->Out:=fun δ=>onD (f δ) δ Out.ret
noncomputable def exprD (f:DS->Res D):DS->Out:=fun δ=>onD (f δ) δ fun _=>.nxt δ
noncomputable def ifS (t:DS->Res Bool) (a b:DS->Out):DS->Out:=fun δ=>onT (t δ) δ fun k=>if k=true then a δ else b δ
noncomputable def whileF (fuel:DS->Nat) (c:DS->Res Bool) (b:DS->Out):DS->Out:=fun δ=>whileD c b (fuel δ) δ
noncomputable def tgtN (i:Nat):TGD:=fun d δ=>some (δ.set i (some (.val d)))
theorem aW' {X:Cx} {a:Expr} {fa:DS->Res D} {pos:Pos} (ha:PD X a fa):PD X (.UnaryOp .USub a pos) (negF fa) :=
 lc' (g:=negG) (fun E pins s σ H x v d r I r1 p1 e=>by
  cases d with
  | int i =>
   simp only [negG,Res.ok.injEq] at e;subst e;exact wpAny_mono (jY' (X:=X.wish fun _ _=>False) pins s σ H x v (fun z H'=>z=.int (-i)/\H'=H) (I.wish _) r1 ⟨i,repI p1,rfl,rfl⟩) (fun u s1 ⟨z,H1,I1,r2,e1,e2⟩=>by
    subst e1 e2;exact ⟨_,_,_,rfl,I1.unwish,r2,Same.refl _,mkI⟩) fun _ _ z=>z.elim
  | _=>simp [negG] at e) (fun x=>by cases x <;> first | exact af' | exact ak') ha
theorem aK' {m i:Nat} (h:i < m):KeepsT m (tgtN i):=by
 intro d δ δ1 e;simp only [tgtN,Option.some.injEq] at e;subst e;exact ⟨by simp,fun j hj=>by rw [List.getElem?_set_ne (by omega)]⟩
theorem dT' {f:DS->Res D} {δ:DS} {ds:List D} (h:consD f (fun _=>.ok []) δ=.ok ds):ds.length<=sizeLine:=by
 unfold consD at h
 cases q:f δ with
 | stuck=>rw [q] at h; cases h
 | err x=>rw [q] at h; cases h
 | ok d=>rw [q] at h; cases h; show 1<=sizeLine; decide
theorem fw' {scope:Scope} {env:Env} (hf:∀y∈scope.names,y.2≠.free):relabel scope env=scope:=by
 unfold relabel;have:(scope.names.map fun x=>match x with | (n,k)=>if (k == .free && env.scope.kind == .function && env.kindOf n == some .cell)=true then (n,NameKind.cell) else (n,k))=scope.names:=by
  refine map_eq_self fun x hx=>?_;obtain ⟨n,k⟩:=x;have:(k == NameKind.free)=false:=by simpa using hf _ hx
  simp [this]
 show { scope with names:=_ }=scope
 rw [this]
theorem cF' {X:Cx} {m:Nat} {N':List Str} {scope:Scope} (hf:∀y∈scope.names,y.2≠.free:=by decide +kernel) (hc:∀y∈scope.names,y.2≠.cell:=by decide +kernel) (hk:scope.kind=.function:=by rfl)
  (hn:∀x∈scope.names,x.2=.local->scope.names.lookup x.1=some .local:=by decide +kernel) (hl:N'.length=m:=by rfl):Around' X m [] N' scope [] where
 clos:=closureFor_none hf
 nocell:=hc
 kind:=hk
 names:=hn
 sub:=fun x c h=>by simp at h
 has:=fun x h=>by
  exfalso;rw [fw' hf] at h;rcases h with h | h
  ·exact hc _ (PySem.mem_of_lookup h) rfl
  ·exact hf _ (PySem.mem_of_lookup h) rfl
 len:=by simpa using hl
 free:=fun j i h=>by simp at h
theorem mkS' {K:PySem.W.Frag} {H:Hp} {i:Str}:Rep K H (.str i) (.str i):=by rw [Rep]
noncomputable def intG:List D->Res D
 | [.int i]=>.ok (.int i)
 | [.bl k]=>.ok (.int (if k then 1 else 0))
 | [.str x]=>if x.length<=640 then (match PySem.intText? x with | some n=>.ok (.int n) | none=>.stuck) else .stuck
 | _=>.stuck
theorem ne_int (ds:List D):NoErr (intG ds):=by
 unfold intG
 split <;> first | exact ak' | exact af' | skip
 refine ay' ?_ af'
 split <;> first | exact ak' | exact af'
section
variable {X:Cx}
theorem ir':CallD X (.type "int") intG:=by
 intro E pins s σ H xs us ds d I r p e;unfold intG at e
 split at e
 ·rename_i i
  cases e
  obtain ⟨v,vs,rfl,p1,t⟩:=p.cons_of
  cases t.nil_of
  rw [repI p1] at r;obtain ⟨u,rfl,t,rfl⟩:=vals1 r;exact call_int_int ⟨_,.int i,H,rfl,I,⟨_,rfl⟩,Same.refl H,mkI⟩
 ·rename_i k
  cases e
  obtain ⟨v,vs,rfl,p1,t⟩:=p.cons_of
  cases t.nil_of
  rw [Rep] at p1;subst p1;obtain ⟨u,rfl,r1⟩:=vals1 r
  cases r1
  exact call_int_bool ⟨_,.int (if k then 1 else 0),H,rfl,I.tok _,⟨_,rfl⟩,Same.refl H,mkI⟩
 ·rename_i x
  split at e
  ·rename_i hl
   split at e
   ·rename_i n hn
    cases e
    obtain ⟨v,vs,rfl,p1,t⟩:=p.cons_of
    cases t.nil_of
    rw [repS p1] at r;obtain ⟨u,rfl,t,rfl⟩:=vals1 r;exact PySem.W.KIN.call_text hn hl ⟨_,.int n,H,rfl,I.tok _,⟨_,rfl⟩,Same.refl H,mkI⟩
   ·cases e
  ·cases e
 ·cases e
end
noncomputable def thaw1:SV->SV
 | .val d=>.val d
 | .arg d=>.val d
 | .own ds=>.val (.lst ds)
noncomputable def thaw2:SV->SV
 | .val d=>.val d
 | .arg d=>.val d
 | .own ds=>.own ds
noncomputable def thaw (δ:DS):DS:=δ.map (Option.map thaw1)
noncomputable def thawO:Out->Out
 | .nxt δ=>.nxt (δ.map (Option.map thaw2))
 | .brk δ=>.brk (δ.map (Option.map thaw2))
 | .cnt δ=>.cnt (δ.map (Option.map thaw2))
 | .ret d=>.ret d
 | .err x δ=>.err x δ
 | .stuck=>.stuck
theorem RepSt.thaw {K:PySem.W.Frag} {G H:Hp} {σ:St} {δ:DS} (R:RepSt K G H σ δ):RepSt K H H σ (thaw δ) where
 same:=Same.refl H
 len:=by unfold DL.thaw; rw [List.length_map]; exact R.len
 at_:=fun i sv h=>by
  unfold DL.thaw at h;rw [List.getElem?_map] at h
  cases z:δ[i]? with
  | none=>rw [z] at h; cases h
  | some o =>
   cases o with
   | none=>rw [z] at h; cases h
   | some sv0 =>
    rw [z] at h
    cases h
    obtain ⟨v,e1,e2⟩:=R.view z;refine ⟨v,e1,?_⟩
    cases sv0 <;> exact e2
 sep:=fun i j ds es v _ h=>by
  unfold DL.thaw at h;rw [List.getElem?_map] at h
  cases z:δ[i]? with
  | none=>rw [z] at h; cases h
  | some o =>
   cases o with
   | none=>rw [z] at h; cases h
   | some sv0=>rw [z] at h; cases sv0 <;> cases h
theorem RepSt.thaw2 {K:PySem.W.Frag} {G G' H:Hp} {σ:St} {δ:DS} (R:RepSt K G' H σ δ) (e:Same G G'):RepSt K G H σ (δ.map (Option.map thaw2)) where
 same:=e.trans R.same
 len:=by rw [List.length_map]; exact R.len
 at_:=fun i sv h=>by
  rw [List.getElem?_map] at h
  cases z:δ[i]? with
  | none=>rw [z] at h; cases h
  | some o =>
   cases o with
   | none=>rw [z] at h; cases h
   | some sv0 =>
    rw [z] at h
    cases h
    cases sv0 with
    | val d=>exact R.at_ i _ z
    | arg d =>
     obtain ⟨v,e1,e2⟩:=R.at_ i _ z;exact ⟨v,e1,Rep.mono R.same e2⟩
    | own ds =>
     obtain ⟨v,e1,a,xs,q1,q2,q3,q4⟩:=R.at_ i _ z;exact ⟨v,e1,a,xs,q1,q2,q3,e.free q4⟩
 sep:=fun i j ds es v hij h1 h2 h3=>by
  have get:∀(k:Nat) (fs:List D),(δ.map (Option.map DL.thaw2))[k]? = some (some (.own fs))->δ[k]? = some (some (.own fs)):=fun k fs h=>by
   rw [List.getElem?_map] at h
   cases z:δ[k]? with
   | none=>rw [z] at h; cases h
   | some o =>
    cases o with
    | none=>rw [z] at h; cases h
    | some sv0 =>
     rw [z] at h
     cases sv0 <;> cases h
     rfl
  exact R.sep i j ds es v hij (get i ds h1) (get j es h2) h3
theorem NOut.thaw {X:Cx} {G H:Hp} {o:Out} {E:Ends} (e:Same G H) (h:NOut X G H (thawO o) E):NOut X H H o E:=by
 cases o with
 | stuck=>exact h
 | nxt δ=>exact fun σ' H' t r=>h σ' H' t (r.thaw2 e)
 | brk δ=>exact fun σ' H' t r=>h σ' H' t (r.thaw2 e)
 | cnt δ=>exact fun σ' H' t r=>h σ' H' t (r.thaw2 e)
 | ret d=>exact fun v H' t g r=>h v H' t (e.trans g) r
 | err x δ=>exact h
theorem PID.pi {X:Cx} {tg iter:Expr} {f:DS->Res (List D)} (h:PID X tg iter f):PI X.nox tg iter (fun σ H R=>∃G δ ds,RepSt X.K G H σ δ/\f δ=.ok ds/\∀J H',Same H H'->Yields X.K J H' ds->R J H'):=by
 intro pins s σ H R I ⟨G,δ,ds,RR,q,n⟩;refine wpAny_mono (h pins s σ G H δ I.unwish RR (by rw [q]; intro z; cases z)) (fun v s1 p=>?_) fun e s1 p=>?_
 ·refine wpAny_mono p (fun itv s2 ⟨ds',it,fp,tn,J,H',q1,q2,I2,T,t0,hf,e2,y⟩=>?_) fun e s2 p=>?_
  ·rw [q] at q1; cases q1;exact ⟨it,fp,tn,J,H',q2,I2.wish _,T,t0,hf,n J H' e2 y⟩
  ·rw [q] at p; exact p.none
 ·rw [q] at p; exact p.none
noncomputable def forS (t:TGD) (fi:DS->Res (List D)) (b:DS->Out):DS->Out:=fun δ=>onL (fi δ) fun ds=>thawO (forD t b ds (thaw δ))
section
variable {X:Cx} {tg iter:Expr} {body:List Stmt} {t:TGD} {fb:DS->Out} {pos:Pos}
theorem fx' {J:It} {ds:List D} {H0:Hp} {E:Ends} (y:Yields X.K J H0 ds) {δ:DS} {σ:St} (R:RepSt X.K H0 H0 σ δ) (h:NOut X H0 H0 (forD t fb ds δ) E) :
  ∃W:Nat->Nat->St->Hp->Prop,(∃m,W 0 m σ H0)/\∀i m σ H,W i m σ H ->
   (J.stop i H/\E.nx σ H)\/(J.go i H/\∃N:St->Hp->Prop,(∀σ' H',N σ' H'->∃m',m' < m/\W (i + 1) m' σ' H')/\∀x H',J.yld i H x H'->gD X t x σ H' fun σ2 H2=>sD X fb { E with nx:=N,ct:=N,bk:=E.nx } σ2 H2):=by
 refine ⟨fun i m σ H=>i + m=ds.length/\∃δ',RepSt X.K H0 H σ δ'/\NOut X H0 H (forD t fb (ds.drop i) δ') E,⟨ds.length,by omega,δ,R,by simpa using h⟩,?_⟩
 rintro i m σ1 H1 ⟨hm,δ1,R1,h1⟩
 obtain ⟨y1,y2⟩:=y H1 R1.same
 by_cases hi:i < ds.length
 ·right
  have hd:ds[i]? = some ds[i]:=List.getElem?_eq_getElem hi;obtain ⟨go,yl⟩:=y1 i ds[i] hd;refine ⟨go,fun σ' H'=>(i + 1) + (m - 1)=ds.length/\∃δ',RepSt X.K H0 H' σ' δ'/\NOut X H0 H' (forD t fb (ds.drop (i + 1)) δ') E,fun σ' H' n=>⟨m - 1,by omega,n⟩,fun x H' yx=>?_⟩;obtain ⟨e,p⟩:=yl x H' yx;rw [List.drop_eq_getElem_cons hi] at h1;exact hB' (R1.mono e) p (h1.tk e.tk) fun δ' σ' H'' _ r z=>⟨by omega,δ',r,z⟩
 ·left
  have e:i=ds.length:=by omega
  subst e;rw [List.drop_eq_nil_of_le (Nat.le_refl _)] at h1;exact ⟨y2,h1 σ1 H1 (TK.refl H1) R1⟩
theorem hG' {o:Out} (h:∀x δ',o≠.err x δ') (x:Exn) (δ':DS):thawO o≠.err x δ':=by
 cases o with
 | err y δ=>exact (h y δ rfl).elim
 | _=>intro z; cases z
theorem dl' {fi:DS->Res (List D)} (hc:X.calm=true) (hi:PID X tg iter fi) (hg:PGD X tg t) (hb:PSDs X body fb) (hf:∀x,foldedSetIterable iter X.env x=pure x:=by intro _; rfl) :
  PSD X (.For tg iter body [] pos) (forS t fi fb):=by
 refine ip' (fun δ=>kl' fun ds=>hG' (gi' t fb ds (thaw δ))) fun pins s σ H E I h=>?_;obtain ⟨G,δ,R,h⟩:=h;refine jU' (X:=X.nox) PassesOwn.never hc hi.pi hg.pg hb.ps hf pins s σ H E I ?_;unfold forS at h
 cases q:fi δ with
 | stuck=>simp only [q] at h; exact h.elim
 | err x=>simp only [q] at h; exact h.elim
 | ok ds =>
  simp only [q] at h;refine ⟨G,δ,ds,R,q,fun J H1 e1 y=>?_⟩;have R1:=(R.mono e1);exact fx' y R1.thaw (NOut.thaw R1.same (h.tk e1.tk))
end
section
open HT
variable {prog:Program} {w:World} {A:Around} {E:Value->Shared->Prop} {s:Shared}
theorem gr' {t sl:Addr} {items:Array Value} {vl vu:Value} {lo hi:Option Int} {Q:Value->Shared->Prop} (ht:IsTup s.heap t items) (hs:s.heap.IsSliceOf sl vl vu .none) (pl:IsPart vl lo) (pu:IsPart vu hi)
  (hw:sIx items.size 0 lo=0/\sIx items.size items.size hi=items.size) (h:Q (.ref t) s):wpAny (model prog w) A (getItem (.ref t) (.ref sl)) Q E s:=by
 obtain ⟨os,hos,hcs,hds⟩:=id hs;unfold getItem;refine wpAny_holding (wpAny_bind (wpAny_sequenceKey ht.typeIs (by decide) ?_));refine wpAny_bind (wpAny_callSpecial?_slot (name:=Str.ofString "__getitem__") ht.typeIs PyProof.Rows.slot_tuple_getitem (wpAny_call_entry PyProof.Rows.slot_tuple_getitem ht.typeIs entry_tuple_getitem ?_ (args_tuple_getitem _ _)));show wpAny _ _ (Builtin.Tuple.tupleItemsOf (.ref t) >>= _) _ _ s;refine wpAny_bind (tupleItemsOf_ ht (wpAny_bind (wpAny_typeOf ⟨os,hos,hcs⟩ ?_)));rw [if_pos (by decide)];refine wpAny_bind (bs' hs pl pu ?_);obtain ⟨w1,w2⟩:=hw;have hc:(((sIx items.size 0 lo:Nat):Int) == 0 && (1:Int) == 1 && (sIx items.size items.size hi - sIx items.size 0 lo) == items.size)=true:=by
  rw [w1,w2]; simp
 show wpAny _ _ (if (((sIx items.size 0 lo:Nat):Int) == 0 && (1:Int) == 1 && (sIx items.size items.size hi - sIx items.size 0 lo) == items.size)=true then _ else _) _ _ s
 rw [if_pos hc];refine wpAny_bind (m:=Builtin.Tuple.tupleIsExact _) (wpAny_bind (wpAny_typeOf ht.typeIs (wpAny_pure ?_)));rw [if_pos (by decide)];exact wpAny_bind (wpAny_rule (wpAny_pure ⟨_,rfl,wpAny_pure h⟩))
end
noncomputable def rSlW (K:PySem.W.Frag):V->Option Int->Option Int->Hp->VK->Prop:=fun x lo hi H Q=>∃a xs,x=.ref a/\SqT K H a xs/\(HT.sIx xs.length 0 lo=0/\HT.sIx xs.length xs.length hi=xs.length)/\Q (.ref a) H
theorem hH' {X:Cx}:SlR X (rSlW X.K):=by
 intro pins s σ H x v vl vu lo hi sl Q I rx hs pl pu h;obtain ⟨a,xs,rfl,hx,hw,q⟩:=h
 cases rx
 obtain ⟨its,r,ht,hz⟩:=I.tuple hx;have hlen:its.toArray.size=xs.length:=by rw [List.size_toArray]; exact r.length.symm
 exact ⟨"tuple",_,PyProof.Rows.slot_tuple_getitem.lookup,ht.typeIs,gr' ht hs pl pu (by rw [hlen]; exact hw) ⟨.ref a,H,I,rfl,q⟩⟩
noncomputable def OPost (X:Cx) (pins:List (Addr×Obj)) (σ:St) (H:Hp) (r:Res (Option Int)) (u:Value) (s1:Shared):Prop:=∃o H1,r=.ok o/\Inv X pins σ H1 s1/\IsPart u o/\Same H H1
noncomputable def POD (X:Cx) (e:Option Expr) (f:DS->Res (Option Int)):Prop :=
 ∀(pins:List (Addr×Obj)) (s:Shared) (σ:St) (G H:Hp) (δ:DS),Inv X pins σ H s->RepSt X.K G H σ δ->f δ≠.stuck ->
  wpAny (model X.prog X.w) X.A (evalPart e X.env) (OPost X pins σ H (f δ)) (XPost X pins σ H s.heap (f δ)) s
noncomputable def partG:D->Res (Option Int)
 | .int i=>.ok (some i)
 | _=>.stuck
noncomputable def noPart:DS->Res (Option Int):=fun _=>.ok none
noncomputable def partF (f:DS->Res D):DS->Res (Option Int):=fun δ=>(f δ).bind partG
noncomputable def cutL (ds:List D) (lo hi:Option Int):List D:=(ds.drop (HT.sIx ds.length 0 lo)).take (HT.sIx ds.length ds.length hi - HT.sIx ds.length 0 lo)
noncomputable def cutD (d:D) (lo hi:Option Int):Res D:=match d with
 | .str z=>if z.length<=sizeLine then .ok (.str (Txt.slice z lo hi)) else .stuck
 | .lst ds=>.ok (.lst (cutL ds lo hi))
 | .tup ds=>.ok (.tup (cutL ds lo hi))
 | _=>.stuck
noncomputable def sliceF (fe:DS->Res D) (fl fu:DS->Res (Option Int)):DS->Res D:=fun δ=>(fe δ).bind fun d=>(fl δ).bind fun l=>(fu δ).bind fun u=>cutD d l u
theorem ko' (d:D) (lo hi:Option Int):NoErr (cutD d lo hi):=by
 unfold cutD; split <;> first | exact ak' | exact af' | exact ay' ak' af'
theorem Reps.take' {K:PySem.W.Frag} {H:Hp}:∀(n:Nat) {ds:List D} {vs:List V},Reps K H ds vs->Reps K H (ds.take n) (vs.take n)
 | 0,_,_,_=>by simp only [List.take_zero]; exact Reps.nil
 | n + 1,[],_,h=>by cases h.nil_of; exact Reps.nil
 | n + 1,d :: ds,_,h=>by
  obtain ⟨v,vs,rfl,r,q⟩:=h.cons_of;exact Reps.cons r (Reps.take' n q)
theorem Reps.cut {K:PySem.W.Frag} {H:Hp} {ds:List D} {vs:List V} (h:Reps K H ds vs) (lo hi:Option Int):Reps K H (cutL ds lo hi) (cutV vs lo hi):=by
 unfold cutL cutV;rw [h.length];exact Reps.take' _ (Reps.drop _ h)
section
variable {X:Cx} {e:Expr} {fe:DS->Res D} {lo hi:Option Expr} {fl fu:DS->Res (Option Int)} {pos p2:Pos}
theorem ao':POD X none noPart:=by
 intro pins s σ G H δ I R _;rw [evalPart_none];exact wpAny_pure ⟨none,H,rfl,I,.none,Same.refl H⟩
theorem aq' (h:PD X e fe):POD X (some e) (partF fe):=by
 intro pins s σ G H δ I R hs;unfold partF at hs ⊢;rw [evalPart_some];refine h.use I R (aA' hs) (fun d u s1 v H1 q I1 r1 e1 b1 p1=>?_) fun e s1 q=>q.same fun x z=>aL' z;have h2:=aP' hs q
 cases d with
 | int i =>
  rw [repI p1] at r1;obtain ⟨t,rfl⟩:=r1;exact ⟨some i,H1,by rw [q]; rfl,I1,.int i t,e1⟩
 | _=>exact (h2 rfl).elim
theorem POD.use {pins:List (Addr×Obj)} {s:Shared} {σ:St} {G H:Hp} {δ:DS} (h:POD X lo fl) (I:Inv X pins σ H s) (R:RepSt X.K G H σ δ) (hs:fl δ≠.stuck) {P E:Value->Shared->Prop}
  (k:∀o u s1 H1,fl δ=.ok o->Inv X pins σ H1 s1->IsPart u o->Same H H1->Back H s.heap s1.heap->P u s1)
  (kx:∀e s1,XPost X pins σ H s.heap (fl δ) e s1->E e s1):wpAny (model X.prog X.w) X.A (evalPart lo X.env) P E s:=by
 refine wpAny_mono (h (pins ++ allP X H s.heap) s σ G H δ I.all R hs) (fun u s1 ⟨o,H1,q1,q2,q3,q4⟩=>k o u s1 H1 q1 q2.unpinned q3 q4 (I.backTo q2)) fun e s1 ⟨x,a,C,H1,q1,q2,q3,q4,q5,q6⟩=>kx e s1 ⟨x,a,C,H1,q1,q2,q3.unpinned,q4,q5,q6⟩
noncomputable def rSlS:V->Option Int->Option Int->Hp->VK->Prop:=fun x lo hi H Q=>∃z,x=.str z/\z.length<=sizeLine/\Q (.str (Txt.slice z lo hi)) H
theorem sl_str:SlR X rSlS:=by
 intro pins s σ H x v vl vu lo hi sl Q I rx hs pl pu h;obtain ⟨z,rfl,hz,q⟩:=h;obtain ⟨t,rfl⟩:=rx;refine ⟨"str",_,PySem.F.slot_str_getitem.lookup,typeIs_str _ _ _,?_⟩;have hl:∃l:Option (Int×Tok),vl=partValue l/\l.map (·.1)=lo:=by
  cases pl with
  | none=>exact ⟨none,rfl,rfl⟩
  | int i t=>exact ⟨some (i,t),rfl,rfl⟩
 have hu:∃u:Option (Int×Tok),vu=partValue u/\u.map (·.1)=hi:=by
  cases pu with
  | none=>exact ⟨none,rfl,rfl⟩
  | int i t=>exact ⟨some (i,t),rfl,rfl⟩
 obtain ⟨l,rfl,rfl⟩:=hl;obtain ⟨u,rfl,rfl⟩:=hu;refine wpAny_getItem_str_slice (l:=l) (u:=u) (st:=none) hs rfl ?_;exact post_val_or_str ⟨Nat.le_trans (Txt.slice_le z _ _) hz,fun t' k=>⟨.str _,H,I.tok _,⟨_,rfl⟩,q⟩⟩
theorem kp' {H:Hp} {d r:D} {v:V} {lo hi:Option Int} (p:Rep X.K H d v) (e:cutD d lo hi=.ok r):(fun x lo hi H Q=>rSlS x lo hi H Q\/rSlL X.K x lo hi H Q\/rSlT X.K x lo hi H Q\/rSlW X.K x lo hi H Q) v lo hi H (fun z H'=>Same H H'/\Rep X.K H' r z):=by
 unfold cutD at e
 split at e
 ·rename_i z
  split at e
  ·rename_i hz
   cases e
   exact .inl ⟨z,repS p,hz,Same.refl H,mkS'⟩
  ·cases e
 ·rename_i ds
  cases e
  obtain ⟨a,xs,rfl,hq,rr⟩:=repL p;exact .inr (.inl ⟨a,xs,rfl,hq,fun p hp=>⟨au' hp _,mkL (SqL.of an') ((rr.cut _ _).mono (au' hp _))⟩⟩)
 ·rename_i ds
  cases e
  obtain ⟨a,xs,rfl,hq,rr⟩:=repT p
  by_cases hw:HT.sIx ds.length 0 lo=0/\HT.sIx ds.length ds.length hi=ds.length
  ·have ec:cutL ds lo hi=ds:=by unfold cutL; rw [hw.1,hw.2]; simp
   exact .inr (.inr (.inr ⟨a,xs,rfl,hq,by rw [rr.length]; exact hw,Same.refl H,by rw [ec]; exact mkT hq rr⟩))
  ·exact .inr (.inr (.inl ⟨a,xs,rfl,hq,by rw [rr.length]; exact hw,fun p hp=>⟨au' hp _,mkT (SqT.of an') ((rr.cut _ _).mono (au' hp _))⟩⟩))
 ·cases e
theorem ar' (he:PD X e fe) (hl:POD X lo fl) (hu:POD X hi fu):PD X (.Subscript e (.Slice lo hi none p2) pos) (sliceF fe fl fu):=by
 intro pins s σ G H δ I R hs;unfold sliceF at hs ⊢;refine Subscript_ (he.use I R (aA' hs) (fun d v s1 x H1 q I1 r1 e1 b1 p1=>?_) fun e s1 q=>q.same fun x z=>aL' z);have h2:=aP' hs q;rw [q,Res.bind_ok];refine wpAny_Slice (hl.use I1 (R.mono e1) (aA' h2) (fun l vl s2 H2 q2 I2 pl e2 b2=>?_) fun e s2 p=>p.back e1 b1 fun x z=>aL' z);have h3:=aP' h2 q2;rw [q2,Res.bind_ok];refine hu.use I2 ((R.mono e1).mono e2) (aA' h3) (fun u vu s3 H3 q3 I3 pu e3 b3=>?_) fun e s3 p=>(p.back e2 b2 (r':=(fu δ).bind fun u=>cutD d l u) fun x z=>aL' z).back e1 b1 fun x z=>z;have h4:=aP' h3 q3;rw [q3,Res.bind_ok,evalPart_none];refine wpAny_pure ?_;have I4:Inv X pins σ H3 { s3 with heap:=s3.heap.push { cls:=.type "slice",data:=.fields #[vl,vu,.none] } }:=I3.kept (t':=s3.toks) fun b ob q=>Heap.get?_push_of_some _ q
 cases qg:cutD d l u with
 | stuck=>exact (h4 qg).elim
 | err z=>exact (ko' d l u z qg).elim
 | ok r =>
  obtain ⟨T,id,hT,ht,hg⟩:=(sl_str.or (sl_list.or (sl_tup.or hH')):SlR X.nox _) pins { s3 with heap:=s3.heap.push { cls:=.type "slice",data:=.fields #[vl,vu,.none] } } σ H3 x v vl vu l u s3.heap.objs.size _ (I4.wish _) r1 (Heap.IsSliceOf.new ..) pl pu (kp' (X:=X) ((p1.mono e2).mono e3) qg)
  show wpAny (model X.prog X.w) X.A (subscriptTail e (.Slice lo hi none p2) v (.ref s3.heap.objs.size)) _ _ { s3 with heap:=s3.heap.push { cls:=.type "slice",data:=.fields #[vl,vu,.none] } }
  refine wpAny_mono (tail_any (ops:=[.ref s3.heap.objs.size,v]) ht hT hg (by with_unfolding_all rfl)) (fun w s4 q4=>?_) fun _ _ z=>z.elim;obtain ⟨z,H4,I5,r5,e5,p5⟩:=q4;exact ⟨r,z,H4,rfl,I5.unwish,r5,((e1.trans e2).trans e3).trans e5,p5⟩
end
mutual
noncomputable def flatD:D->Bool
 | .tup ds=>flatDs ds
 | .lst _=>false
 | .excf _ _ _=>false
 | _=>true
noncomputable def flatDs:List D->Bool
 | []=>true
 | d :: ds=>flatD d && flatDs ds
end
mutual
theorem Rep.lset {K:PySem.W.Frag} {H:Hp} {a:Addr} {xs ys:List V} (hH:H a=some (.lst xs)):∀{d:D} {v:V},flatD d=true->Rep K H d v->Rep K (upd H a (.lst ys)) d v
 | .non,v,_,h=>by rw [Rep] at h ⊢; exact h
 | .bl _,v,_,h=>by rw [Rep] at h ⊢; exact h
 | .int _,v,_,h=>by rw [Rep] at h ⊢; exact h
 | .str _,v,_,h=>by rw [Rep] at h ⊢; exact h
 | .lst _,v,hf,_=>by rw [flatD] at hf; cases hf
 | .tup ds,v,hf,h=>by
  obtain ⟨b,zs,rfl,hq,r⟩:=repT h;rw [flatD] at hf;refine mkT ?_ (Reps.lset hH hf r);rcases hq with (hq | ⟨o,hq⟩) | hq
  ·exact .inl (.inl (by rw [al' (fun z=>by subst z; rw [hH] at hq; cases hq)]; exact hq))
  ·exact .inl (.inr ⟨o,by rw [al' (fun z=>by subst z; rw [hH] at hq; cases hq)]; exact hq⟩)
  ·exact .inr hq
 | .exc n,v,_,h=>by
  rw [Rep] at h ⊢;obtain ⟨b,C,rfl,hC,hb⟩:=h;exact ⟨b,C,rfl,hC,by rw [al' (fun z=>by subst z; rw [hH] at hb; cases hb)]; exact hb⟩
 | .excf n f d,v,hf,h=>by rw [flatD] at hf; cases hf
 | .dct,v,_,h=>by
  rw [Rep] at h ⊢;obtain ⟨b,rfl,hb⟩:=h;exact ⟨b,rfl,by rw [al' (fun z=>by subst z; rw [hH] at hb; cases hb)]; exact hb⟩
theorem Reps.lset {K:PySem.W.Frag} {H:Hp} {a:Addr} {xs ys:List V} (hH:H a=some (.lst xs)):∀{ds:List D} {vs:List V},flatDs ds=true->Reps K H ds vs->Reps K (upd H a (.lst ys)) ds vs
 | [],_,_,h=>by cases h.nil_of; exact Reps.nil
 | d :: ds,_,hf,h=>by
  rw [flatDs,Bool.and_eq_true] at hf;obtain ⟨v,vs,rfl,r,q⟩:=h.cons_of;exact Reps.cons (Rep.lset hH hf.1 r) (Reps.lset hH hf.2 q)
end
noncomputable def keepSV:SV->Option SV
 | .val d=>if flatD d=true then some (.val d) else none
 | .arg d=>some (.arg d)
 | .own ds=>if flatDs ds=true then some (.own ds) else none
noncomputable def appS (i:Nat) (ds:List D) (d:D) (δ:DS):DS:=(δ.map fun o=>o.bind keepSV).set i (some (.own (ds ++ [d])))
theorem cw' {δ:DS} {j:Nat} {sv:SV} (h:(δ.map fun o=>o.bind keepSV)[j]? = some (some sv)):∃sv0,δ[j]? = some (some sv0)/\keepSV sv0=some sv:=by
 rw [List.getElem?_map] at h
 cases z:δ[j]? with
 | none=>rw [z] at h; cases h
 | some o =>
  cases o with
  | none=>rw [z] at h; cases h
  | some sv0=>rw [z] at h; exact ⟨sv0,rfl,by simpa using h⟩
theorem eU' {sv:SV} {ds:List D} (h:keepSV sv=some (.own ds)):sv=.own ds/\flatDs ds=true:=by
 cases sv with
 | val d=>simp only [keepSV] at h; split at h <;> cases h
 | arg d=>cases h
 | own es =>
  simp only [keepSV] at h
  split at h
  ·rename_i c; cases h; exact ⟨rfl,c⟩
  ·cases h
theorem RepSt.app {K:PySem.W.Frag} {G H:Hp} {σ:St} {δ:DS} {i:Nat} {ds:List D} {d:D} {a:Addr} {xs:List V} {v:V} (R:RepSt K G H σ δ) (hδ:δ[i]? = some (some (.own ds))) (hσ:σ[i]? = some (some (.ref a))) (hH:H a=some (.lst xs)) (r:Reps K H ds xs) (hG:G a=none) (hf:flatDs ds=true) (hd:flatD d=true) (p:Rep K H d v) :
  RepSt K G (upd H a (.lst (xs ++ [v]))) σ (appS i ds d δ) where
 same:=fun b o e=>by
  have hb:b≠a:=fun z=>by subst z; rw [hG] at e; cases e
  rw [al' hb]; exact R.same b o e
 len:=by unfold appS; rw [List.length_set,List.length_map]; exact R.len
 at_:=fun j sv h=>by
  unfold appS at h;have hl:i < δ.length:=(List.getElem?_eq_some_iff.mp hδ).1
  by_cases hj:i=j
  ·subst hj;rw [List.getElem?_set_self (by rw [List.length_map]; exact hl)] at h
   cases h
   exact ⟨.ref a,hσ,a,xs ++ [v],rfl,an',(Reps.lset hH hf r).append (Reps.cons (Rep.lset hH hd p) Reps.nil),hG⟩
  ·rw [List.getElem?_set_ne hj] at h;obtain ⟨sv0,q1,q2⟩:=cw' h;obtain ⟨u,e1,e2⟩:=R.at_ j sv0 q1;refine ⟨u,e1,?_⟩
   cases sv0 with
   | val d' =>
    simp only [keepSV] at q2
    split at q2
    ·rename_i c; cases q2; exact Rep.lset hH c e2
    ·cases q2
   | arg d'=>cases q2; exact e2
   | own es =>
    simp only [keepSV] at q2
    split at q2
    ·rename_i c
     cases q2
     obtain ⟨b,ys,rfl,w2,w3,w4⟩:=e2;have hb:b≠a:=fun z=>by subst z; exact R.sep i j ds es (.ref b) hj hδ q1 hσ e1
     exact ⟨b,ys,rfl,by rw [al' hb]; exact w2,Reps.lset hH c w3,w4⟩
    ·cases q2
 sep:=fun j k es fs u hjk h1 h2 h3=>by
  have get:∀(m:Nat) (gs:List D),(appS i ds d δ)[m]? = some (some (.own gs))->∃gs',δ[m]? = some (some (.own gs')):=fun m gs h=>by
   unfold appS at h
   by_cases hm:i=m
   ·subst hm; exact ⟨ds,hδ⟩
   ·rw [List.getElem?_set_ne hm] at h;obtain ⟨sv0,q1,q2⟩:=cw' h;obtain ⟨rfl,_⟩:=eU' q2;exact ⟨gs,q1⟩
  obtain ⟨es',g1⟩:=get j es h1;obtain ⟨fs',g2⟩:=get k fs h2;exact R.sep j k es' fs' u hjk g1 g2 h3
section
variable {X:Cx} {e:Expr} {es:List Expr} {fe:DS->Res D} {fs:DS->Res (List D)} {x:Str} {pos pos' lp np apos cpos:Pos}
end
end DL
namespace DL
open PySem PySem.Spec PyProof.Rows L2
section
variable {prog:Program} {w:World} {A:Around} {E:Value->Shared->Prop} {s:Shared} {I:Addr} {fp wr:List Addr} {G:Array GenState->Array GenState->Prop} {n:Nat} {P:Nat->Value->Prop} {St:Nat->Shared->Prop}
end
section
variable {prog:Program} {w:World} {A:Around} {E:Value->Shared->Prop} {s:Shared} {x:Str} {t:Tok} {Q:Value->Shared->Prop}
end
section
variable {X:Cx} {e:Expr} {fe:DS->Res D} {sep:Str} {p0 apos np rp cpos:Pos}
end
noncomputable def closL (cells:List (Str×Addr)):List (Str×NameKind)->List (Str×Addr)->List (Str×Addr)
 | [],acc=>acc
 | y :: r,acc=>if (y.2 == NameKind.free)=true then closL cells r ((y.1,(cells.lookup y.1).getD 0) :: acc) else closL cells r acc
theorem fy' {scope:Scope} {env:Env} (h:∀y∈scope.names,y.2=.free->∃c,env.cells.lookup y.1=some c):closureFor scope env=pure (closL env.cells scope.names []):=by
 unfold closureFor;generalize scope.names=ns at h;show (forIn ns ([]:List (Str×Addr)) _ >>= fun r=>pure r)=_;have key:∀(ns:List (Str×NameKind)) (acc:List (Str×Addr)),(∀y∈ns,y.2=.free->∃c,env.cells.lookup y.1=some c) ->
   (forIn ns acc (fun (x:Str×NameKind) (cs:List (Str×Addr))=>(match x with
    | (name,kind)=>if (kind == NameKind.free)=true then do
      let c <- cellOf env name
      pure (ForInStep.yield ((name,c) :: cs))
     else pure (ForInStep.yield cs):Sem _)))=pure (closL env.cells ns acc):=by
  intro ns
  induction ns with
  | nil=>intro acc _; rfl
  | cons y r ih =>
   intro acc hy;obtain ⟨n,k⟩:=y;rw [List.forIn_cons]
   by_cases c:(k == NameKind.free)=true
   ·obtain ⟨a,ha⟩:=hy (n,k) (by simp) (by simpa using c);have ha':env.cells.lookup n=some a:=ha;simp only [c,if_true,closL,ha',Option.getD_some];have:cellOf env n=pure a:=by unfold cellOf; rw [ha']
    rw [this];exact ih _ fun z hz=>hy z (List.mem_cons_of_mem _ hz)
   ·simp only [c,if_false,closL];exact ih _ fun z hz=>hy z (List.mem_cons_of_mem _ hz)
 exact congrArg (fun z=>z >>= fun r=>pure r) (key ns [] h)
theorem cG' {cells:List (Str×Addr)}:∀(ns:List (Str×NameKind)) (acc:List (Str×Addr)),(∀y∈ns,y.2=.free->∃c,cells.lookup y.1=some c)->(∀x c,acc.lookup x=some c->cells.lookup x=some c) ->
  ∀x c,(closL cells ns acc).lookup x=some c->cells.lookup x=some c
 | [],acc,_,ha,x,c,h=>ha x c h
 | y :: r,acc,hn,ha,x,c,h=>by
  unfold closL at h
  split at h
  ·rename_i q;refine cG' r _ (fun z hz=>hn z (List.mem_cons_of_mem _ hz)) (fun x' c' h'=>?_) x c h;obtain ⟨a,e⟩:=hn y (by simp) (by simpa using q);rw [List.lookup_cons] at h'
   split at h'
   ·rename_i q2;have:x'=y.1:=by simpa using q2
    subst this;rw [e] at h' ⊢;simpa using h'
   ·exact ha x' c' h'
  ·exact cG' r _ (fun z hz=>hn z (List.mem_cons_of_mem _ hz)) ha x c h
theorem bT' {cells:List (Str×Addr)} {x:Str}:∀(ns:List (Str×NameKind)) (acc:List (Str×Addr)),((x,NameKind.free)∈ns\/∃c,acc.lookup x=some c)->∃c,(closL cells ns acc).lookup x=some c
 | [],acc,h=>by
  rcases h with h | h
  ·cases h
  ·exact h
 | y :: r,acc,h=>by
  unfold closL
  split
  ·rename_i q;refine bT' r _ ?_;rcases h with h | ⟨c,h⟩
   ·rcases List.mem_cons.mp h with z | z
    ·subst z;exact .inr ⟨(cells.lookup x).getD 0,by rw [List.lookup_cons]; simp⟩
    ·exact .inl z
   ·refine .inr ?_;rw [List.lookup_cons]
    split
    ·exact ⟨_,rfl⟩
    ·exact ⟨c,h⟩
  ·rename_i q;refine bT' r _ ?_;rcases h with h | h
   ·rcases List.mem_cons.mp h with z | z
    ·subst z; exact (q rfl).elim
    ·exact .inl z
   ·exact .inr h
theorem lookup_map2 {f:Str×NameKind->Str×NameKind} (hf:∀y,(f y).1=y.1) (x:Str):∀(ns:List (Str×NameKind)),(ns.map f).lookup x=(ns.lookup x).map fun k=>(f (x,k)).2
 | []=>rfl
 | y :: r=>by
  obtain ⟨n,k⟩:=y;rw [List.map_cons,show f (n,k)=(n,(f (n,k)).2) from Prod.ext (hf _) rfl,List.lookup_cons,List.lookup_cons,lookup_map2 hf x r]
  by_cases c:x=n
  ·subst c; simp
  ·have:(x == n)=false:=by simpa using c
   simp [this]
theorem bH' {scope:Scope} {env:Env} (x:Str):(relabel scope env).names.lookup x=(scope.names.lookup x).map fun k=>if (k == .free && env.scope.kind == .function && env.kindOf x == some .cell)=true then NameKind.cell else k:=by
 show List.lookup x (List.map _ scope.names)=_;rw [lookup_map2 (fun y=>by obtain ⟨n,k⟩:=y; dsimp only; split <;> rfl)]
 cases scope.names.lookup x with
 | none=>rfl
 | some k =>
  simp only [Option.map_some]
  split <;> rfl
theorem jb' {X:Cx} {m:Nat} {fr:List Nat} {N':List Str} {scope:Scope} {n:Nat} (sc:Scope) (N:List Str) (hsc:X.env.scope=sc) (hcl:X.env.cells=cellsFrom n sc.names []) (hN:X.N=N)
  (hf:∀y∈scope.names,y.2=.free->sc.names.lookup y.1=some .cell) (hc:∀y∈scope.names,y.2≠.cell) (hk:scope.kind=.function) (hks:sc.kind=.function)
  (hn:∀x∈scope.names,x.2=.local->scope.names.lookup x.1=some .local) (hl:N'.length=m + fr.length)
  (hfr:∀j,j < fr.length->∃x,N'[m + j]? = some x/\N[fr.getD j 0]? = some x/\scope.names.lookup x=some .free/\sc.names.lookup x=some .cell):Around' X m fr N' scope (closL X.env.cells scope.names []):=by
 have hs:∀y∈scope.names,y.2=.free->∃c,X.env.cells.lookup y.1=some c:=fun y hy e=>by
  rw [hcl]; exact de' (hf y hy e)
 have hfree:∀x k,scope.names.lookup x=some k->k≠.cell:=fun x k h=>hc _ (PySem.mem_of_lookup h);refine { clos:=fy' hs,nocell:=hc,kind:=hk,names:=hn,sub:=cG' _ _ hs (fun x c h=>by simp at h),has:=fun x h=>?_,len:=hl,free:=fun j i h=>?_ }
 ·rw [bH'] at h
  cases q:scope.names.lookup x with
  | none=>rw [q] at h; rcases h with h | h <;> cases h
  | some k =>
   rw [q] at h;have:k=.free:=by
    have h2:=hfree x k q
    cases k <;> first | rfl | exact (h2 rfl).elim | (rcases h with h | h <;> simp at h)
   subst this;exact bT' _ _ (.inl (PySem.mem_of_lookup q))
 ·have hj:j < fr.length:=by
   rcases Nat.lt_or_ge j fr.length with z | z
   ·exact z
   ·rw [List.getElem?_eq_none z] at h; cases h
  obtain ⟨x,e1,e2,e3,e4⟩:=hfr j hj;have hi:fr.getD j 0=i:=by rw [List.getD_eq_getElem?_getD,h]; rfl
  rw [hi] at e2;obtain ⟨c,e5⟩:=bT' (cells:=X.env.cells) scope.names [] (.inl (PySem.mem_of_lookup e3));refine ⟨x,c,e1,by rw [hN]; exact e2,by rw [hsc]; exact .inr (.inl e4),.inl (by unfold Env.kindOf; rw [hsc]; exact e4),e5,.inl ?_⟩;show (relabel scope X.env).names.lookup x=_;rw [bH',e3];have:X.env.kindOf x=some .cell:=by unfold Env.kindOf; rw [hsc]; exact e4
  simp [this,hsc,hks]
noncomputable def frOk (sc scope:Scope) (N N':List Str) (m:Nat) (fr:List Nat):Bool :=
 scope.names.all (fun y=>decide (y.2≠.cell) && (!(decide (y.2=.free)) || decide (sc.names.lookup y.1=some .cell)) && (!(decide (y.2=.local)) || decide (scope.names.lookup y.1=some .local))) &&
 decide (N'.length=m + fr.length) && (List.range fr.length).all fun j=>match N'[m + j]? with
  | some x=>decide (N[fr.getD j 0]? = some x) && decide (scope.names.lookup x=some .free) && decide (sc.names.lookup x=some .cell)
  | none=>false
theorem bD' {X:Cx} {m:Nat} {fr:List Nat} {N':List Str} {scope:Scope} {n:Nat} (sc:Scope) (N:List Str) (hsc:X.env.scope=sc) (hcl:X.env.cells=cellsFrom n sc.names []) (hN:X.N=N) (hk:scope.kind=.function) (hks:sc.kind=.function)
  (h:frOk sc scope N N' m fr=true):Around' X m fr N' scope (closL X.env.cells scope.names []):=by
 unfold frOk at h;simp only [Bool.and_eq_true,List.all_eq_true,decide_eq_true_eq] at h;obtain ⟨⟨h1,h2⟩,h3⟩:=h;refine jb' sc N hsc hcl hN (fun y hy e=>?_) (fun y hy=>(h1 y hy).1.1) hk hks (fun y hy e=>?_) h2 fun j hj=>?_
 ·have:=(h1 y hy).1.2;simpa [e] using this
 ·have:=(h1 y hy).2;simpa [e] using this
 ·have:=h3 j (by simpa using hj)
  split at this
  ·rename_i x q;simp only [Bool.and_eq_true,decide_eq_true_eq] at this;exact ⟨x,q,this.1.1,this.1.2,this.2⟩
  ·cases this
theorem dU' {K:PySem.W.Frag} {H:Hp} {lo:Int} {n:Nat}:Yields K (Itr lo n) H (rangeD lo n):=by
 intro H' e;refine ⟨fun i d hd=>?_,by rw [bQ']; exact Nat.le_refl _⟩;have hi:i < n:=by
  rcases Nat.lt_or_ge i (rangeD lo n).length with z | z
  ·rwa [bQ'] at z
  ·rw [List.getElem?_eq_none z] at hd; cases hd
 refine ⟨hi,fun x H'' y=>?_⟩;obtain ⟨rfl,rfl⟩:=y;have e1:(rangeD lo n)[i]? = some (.int (lo + i)):=by
  have:=eq' lo n i hi;have h2:((rangeD lo n).drop i)[0]? = some (.int (lo + i)):=by rw [this]; rfl
  simpa using h2
 rw [e1] at hd
 cases hd
 exact ⟨Same.refl _,mkI⟩
theorem hI' {X:Cx} {tg:Expr} {pins:List (Addr×Obj)} {σ:St} {H H1:Hp} {lo:Int} {n:Nat} {r:Res (List D)} (e:Same H H1) (hr:r=.ok (rangeD lo n)) {itv:Value} {s2:Shared} (p:PIE X pins σ tg (fun J H'=>J=Itr lo n/\H'=H1) itv s2):IPost X pins σ H tg r itv s2:=by
 obtain ⟨it,fp,tn,J,H',q1,q2,q3,q4,q5,rfl,rfl⟩:=p;exact ⟨_,it,fp,tn,_,_,hr,q1,q2,q3,q4,q5,e,dU'⟩
theorem cY' {X:Cx} {tg a:Expr} {fa:DS->Res (List D)} {p pos:Pos} (hg:Gl X "range") (hm:X.mg "range" = none) (ha:PAD X [a] fa) (hs:starEach [a] X.env=[(false,eval a X.env)]:=by rfl) :
  PID X tg (.Call (.Name "range" p) [a] [] pos) (fun δ=>(fa δ).bind rng1):=by
 intro pins s σ G H δ I R hn
 try dsimp only at hn ⊢
 refine Call_ (cQ' I hg hm boot_range (PyProof.Rows.callWith_type1 (ha.use I R (aA' hn) (fun ds us s1 vs H1 q I1 r1 e1 b1 p1=>?_) fun e s1 q=>q.same fun x z=>aL' z) hs rfl));have h2:=aP' hn q;unfold rng1 at h2
 split at h2
 ·rename_i j;obtain ⟨v,ws,rfl,w1,w2⟩:=p1.cons_of
  cases w2.nil_of
  cases repI w1
  split at h2
  ·rename_i hj
   cases r1 with
   | cons r rr =>
    cases rr
    obtain ⟨t,rfl⟩:=r;refine call_range_1 ?_;refine wpAny_mono (he' (R:=fun J H'=>J=Itr 0 j.toNat/\H'=H1) I1 (by omega) (by omega) hj.1 hj.2 ⟨by simp,rfl⟩) (fun itv s2 z=>hI' e1 (by rw [q,Res.bind_ok]; unfold rng1; simp only [hj,and_self,if_true]) z) fun _ _ z=>z
  ·exact (h2 rfl).elim
 ·exact (h2 rfl).elim
noncomputable def bindRg (f:DS->Res (List D)) (g:List D->Res (List D)):DS->Res (List D):=fun δ=>(f δ).bind g
noncomputable def tupleG:List D->Res D
 | [.lst ds]=>.ok (.tup ds)
 | [.tup ds]=>.ok (.tup ds)
 | _=>.stuck
theorem ba' (ds:List D):NoErr (tupleG ds):=by
 unfold tupleG
 split <;> first | exact ak' | exact af'
theorem ev' {X:Cx} (E:Value->Shared->Prop):CallR (X.wish E) (.type "tuple") (fun xs H Q=>∃p ys,xs=[.ref p]/\((SqL X.K H p ys/\∀l,H l=none->Q (.ref l) (upd H l (.tup ys)))\/(SqT X.K H p ys/\Q (.ref p) H))):=dg'
theorem bh' {X:Cx}:CallD X (.type "tuple") tupleG:=.of ev' fun H xs ds d Q r e q=>by
 unfold tupleG at e
 split at e
 ·rename_i es
  cases e
  obtain ⟨v,vs,rfl,p1,t⟩:=r.cons_of
  cases t.nil_of
  obtain ⟨a,ys,rfl,w1,w2⟩:=repL p1;exact ⟨a,ys,rfl,.inl ⟨w1,fun l hl=>q _ _ (au' hl _) (mkT (SqT.of an') (w2.mono (au' hl _)))⟩⟩
 ·rename_i es
  cases e
  obtain ⟨v,vs,rfl,p1,t⟩:=r.cons_of
  cases t.nil_of
  obtain ⟨a,ys,rfl,w1,w2⟩:=repT p1;exact ⟨a,ys,rfl,.inr ⟨w1,q _ _ (Same.refl H) (mkT w1 w2)⟩⟩
 ·cases e
section
variable {prog:Program} {w:World} {A:Around} {E:Value->Shared->Prop} {s:Shared}
theorem aX' {it t:Addr} {i:Nat} {items:Array Value} {x:Value} {Q:Value->Shared->Prop} (hi:s.heap.IsTupleIter it t i) (ht:s.heap.IsTuple t items) (hx:items[i]? = some x)
  (h:∀h':Heap,h'.IsTupleIter it t (i + 1)->Heap.SameBut it s.heap h'->Q x { s with heap:=h' }):wpAny (model prog w) A (Builtin.SmallTypes.nextOf (.ref it)) Q E s:=by
 unfold Builtin.SmallTypes.nextOf;refine wpAny_bind (wpAny_callSpecial?_slot hi.typeIs slot_tupleiter_next ?_);refine wpAny_call (codeAny_call_builtin slot_tupleiter_next.plain entry_tupleiter_next (slot_tupleiter_next.check _ _ _ _ _ _ _ _ hi.typeIs (args_tupleiter_next _) ?_));obtain ⟨o,g,hc,hd⟩:=id hi;obtain ⟨ot,gt,htc,n,htd⟩:=id ht;refine wpAny_bind (m:=slotArgs _ _ _) (wpAny_pure ?_);refine wpAny_bind (m:=field _ _) (wpAny_field g hd rfl ?_);refine wpAny_bind (m:=field _ _) (wpAny_field g hd rfl ?_);refine wpAny_bind (m:=seqItems? _) (wpAny_seqItems gt htd ?_);simp only [Int.toNat_natCast,hx];refine wpAny_bind (wpAny_setField g hd (show 1 < 2 by decide) (wpAny_pure ?_));have d2:=Obj.data_mapFields hd (fun v=>v.setIfInBounds 1 (rawInt ((i:Int) + 1)));have g2:=Heap.get?_update_self (Obj.mapFields fun v=>v.setIfInBounds 1 (rawInt ((i:Int) + 1))) g (Obj.isFreed_of_fields d2);exact wpAny_pure (h _ ⟨_,g2,(by unfold Obj.mapFields; split <;> exact hc),d2⟩ (Heap.SameBut.update _ _ _))
theorem fz' {α:Type} {Q:α->Shared->Prop} (hh:A.handled=none) (h:∀(h':Heap) (e:Addr),(∀b o,s.heap.get? b=some o->h'.get? b=some o)->(∃o,h'.get? e=some o/\o.cls=.type "StopIteration")->E (.ref e) { s with heap:=h' }) :
  wpAny (model prog w) A (Builtin.SmallTypes.stopIteration:Sem α) Q E s:=by
 unfold Builtin.SmallTypes.stopIteration;refine wpAny_bind (m:=newExc _ _) ?_;rw [newExc.eq_1];refine wpAny_bind (wpAny_newTuple ?_ (by decide));rw [firstArgMember.eq_1];refine wpAny_bind (wpAny_bind (wpAny_pure (wpAny_pure ?_)));refine wpAny_newObj_type ?_;refine wpAny_raiseNew_none hh (h _ _ (fun b o e=>Heap.get?_push_of_some _ (Heap.get?_push_of_some _ e)) ⟨_,Heap.get?_push_size _ rfl,rfl⟩)
theorem bv' {it t:Addr} {i:Nat} {items:Array Value} {Q:Value->Shared->Prop} (hh:A.handled=none) (hi:s.heap.IsTupleIter it t i) (ht:s.heap.IsTuple t items) (hx:items[i]? = none)
  (h:∀(h':Heap) (e:Addr),Heap.ExtBut it s.heap h'->(∃o,h'.get? e=some o/\o.cls=.type "StopIteration")->E (.ref e) { s with heap:=h' }):wpAny (model prog w) A (Builtin.SmallTypes.nextOf (.ref it)) Q E s:=by
 unfold Builtin.SmallTypes.nextOf;refine wpAny_bind (wpAny_callSpecial?_slot hi.typeIs slot_tupleiter_next ?_);refine wpAny_call (codeAny_call_builtin slot_tupleiter_next.plain entry_tupleiter_next (slot_tupleiter_next.check _ _ _ _ _ _ _ _ hi.typeIs (args_tupleiter_next _) ?_));obtain ⟨o,g,hc,hd⟩:=id hi;obtain ⟨ot,gt,htc,n,htd⟩:=id ht;refine wpAny_bind (m:=slotArgs _ _ _) (wpAny_pure ?_);refine wpAny_bind (m:=field _ _) (wpAny_field g hd rfl ?_);refine wpAny_bind (m:=field _ _) (wpAny_field g hd rfl ?_);refine wpAny_bind (m:=seqItems? _) (wpAny_seqItems gt htd ?_);simp only [Int.toNat_natCast,hx];refine wpAny_bind (wpAny_rule (wpAny_bind (wpAny_setField g hd (show 0 < 2 by decide) ?_)));refine fz' hh fun h' e kp ex=>h h' e (fun b o' hb e'=>kp b o' ?_) ex;rw [Heap.get?_update_other _ _ (Ne.symm hb)]; exact e'
structure ZipT (h:Heap) (z TI TO i1 i2 t1 t2:Addr) (f0:Value) (i:Nat):Prop where
 zip:IsZip h z TI TO f0
 ti:IsPair h TI (.ref i1) (.ref i2)
 to:∃a b,IsPair h TO a b
 j1:h.IsTupleIter i1 t1 i
 j2:h.IsTupleIter i2 t2 i
theorem hJ' {z TI TO i1 i2 t1 t2:Addr} {i:Nat} {xs ys:Array Value} {x y:Value} {Q:Option Value->Shared->Prop} (ap:List.Nodup [z,TI,TO,i1,i2]) (n1:t1∉[z,TI,TO,i1,i2]) (n2:t2∉[z,TI,TO,i1,i2])
  (Z:ZipT s.heap z TI TO i1 i2 t1 t2 .none i) (h1:s.heap.IsTuple t1 xs) (h2:s.heap.IsTuple t2 ys) (hx:xs[i]? = some x) (hy:ys[i]? = some y)
  (hQ:∀h':Heap,ZipT h' z TI TO i1 i2 t1 t2 (rawInt (s.heap.objs.size:Nat)) (i + 1)->IsPair h' s.heap.objs.size x y->(∀b o,b∉[z,TI,TO,i1,i2]->s.heap.get? b=some o->h'.get? b=some o)->Q (some (.ref s.heap.objs.size)) { s with heap:=h' }) :
  wpAny (model prog w) A (pyNext (.ref z)) Q E s:=by
 obtain ⟨gz,gti,⟨a,b,gto⟩,j1,j2⟩:=Z;have tz:s.TypeIs (.ref z) "zip":=⟨_,gz,rfl⟩;unfold pyNext;refine wpAny_bind (wpAny_attempt ?_);refine wpAny_callSpecial?_slot tz F.slot_zip_next ?_;refine wpAny_call (codeAny_call_builtin F.slot_zip_next.plain F.entry_zip_next (F.slot_zip_next.check _ _ _ _ _ _ _ _ tz (F.args_zip_next_1 _) ?_));unfold Builtin.«zip.__next__»;refine wpAny_bind (m:=slotArgs _ _ _) (wpAny_pure ?_);refine wpAny_bind (m:=field _ _) (wpAny_field gz rfl rfl ?_);refine wpAny_bind (m:=field _ _) (wpAny_field gz rfl rfl ?_);refine wpAny_bind (m:=seqItems? _) (wpAny_seqItems gti rfl ?_);dsimp only;refine wpAny_bind (m:=Builtin.SmallTypes.ownedTupleIsFree _) ?_;unfold Builtin.SmallTypes.ownedTupleIsFree;refine wpAny_bind (m:=field _ _) (wpAny_field gz rfl rfl ?_);refine wpAny_pure ?_;rw [if_pos rfl];refine wpAny_bind (wpAny_rule (wpAny_bind (m:=field _ _) (wpAny_field gz rfl rfl ?_)))
 try dsimp only
 refine wpAny_bind (wpAny_setField gz rfl (show 0 < 5 by decide) ?_);have hst:(#[Value.none,Value.bool false,Value.bool false,Value.ref TI,Value.ref TO][2] == Value.bool true)=false:=rfl;have dz0:=Obj.data_mapFields (o:={ cls:=Value.type "zip",data:=Data.fields #[Value.none,Value.bool false,Value.bool false,Value.ref TI,Value.ref TO] }) rfl (fun v=>v.setIfInBounds 0 Value.ellipsis);have gz0:=Heap.get?_update_self (Obj.mapFields fun v=>v.setIfInBounds 0 Value.ellipsis) gz (Obj.isFreed_of_fields dz0);have sb0:=Heap.SameBut.update s.heap z (Obj.mapFields fun v=>v.setIfInBounds 0 Value.ellipsis);generalize s.heap.update z (Obj.mapFields fun v=>v.setIfInBounds 0 Value.ellipsis)=h0 at gz0 sb0 ⊢;simp only [List.nodup_cons,List.mem_cons,List.not_mem_nil,or_false,not_or,List.nodup_nil,and_true,not_false_eq_true] at ap n1 n2;obtain ⟨⟨az1,az2,az3,az4⟩,⟨ai1,ai2,ai3⟩,⟨ao1,ao2⟩,a12⟩:=ap;obtain ⟨m1,m2,m3,m4,m5⟩:=n1;obtain ⟨q1,q2,q3,q4,q5⟩:=n2;have k0:∀b,b≠z->h0.get? b=s.heap.get? b:=sb0.2;have mvT:∀{h h':Heap} {c t:Addr} {xs:Array Value},(∀b,b≠c->h'.get? b=h.get? b)->t≠c->h.IsTuple t xs->h'.IsTuple t xs:=fun k n ⟨o,g,r⟩=>⟨o,(k _ n).trans g,r⟩;have mvI:∀{h h':Heap} {c t j:Addr} {n:Nat},(∀b,b≠c->h'.get? b=h.get? b)->j≠c->h.IsTupleIter j t n->h'.IsTupleIter j t n:=fun k n ⟨o,g,r⟩=>⟨o,(k _ n).trans g,r⟩;simp only [show [Value.ref i1,Value.ref i2].zipIdx=[(Value.ref i1,0),(Value.ref i2,1)] from rfl,List.forIn_cons,hst]
 refine wpAny_bind (wpAny_bind ?_);refine wpAny_bind (wpAny_onRaise ?_);refine wpAny_bind (m:=Builtin.SmallTypes.nextOf (.ref i1)) (aX' (mvI k0 (Ne.symm az3) j1) (mvT k0 m1 h1) hx fun h1' ji1 sb1=>?_);have k1:∀b,b≠i1->h1'.get? b=h0.get? b:=sb1.2;refine wpAny_pure ?_;have gto1:h1'.get? TO=some { cls:=Value.type "tuple",data:=Data.seq #[a,b] }:=(k1 _ ao1).trans ((k0 _ (Ne.symm az2)).trans gto);refine wpAny_bind (wpAny_seqItems gto1 rfl ?_);refine wpAny_bind (wpAny_updateSeq gto1 rfl ?_ (show 2<=sizeLine by decide) (show 2<=sizeLine + 1 by decide));have gto2:(h1'.update TO (Obj.mapSeq fun v=>v.setIfInBounds 0 x)).get? TO=some { cls:=Value.type "tuple",data:=Data.seq #[x,b] }:=(Heap.get?_update_self _ gto1 rfl).trans rfl;have k2:∀b,b≠TO->(h1'.update TO (Obj.mapSeq fun v=>v.setIfInBounds 0 x)).get? b=h1'.get? b:=(Heap.SameBut.update _ _ _).2;have z2:(h1'.update TO (Obj.mapSeq fun v=>v.setIfInBounds 0 x)).objs.size=h1'.objs.size:=(Heap.SameBut.update _ _ _).1;dsimp only;generalize h1'.update TO (Obj.mapSeq fun v=>v.setIfInBounds 0 x)=h2' at gto2 k2 z2 ⊢;refine wpAny_bind (wpAny_letGo (wpAny_pure ?_));refine wpAny_bind (wpAny_bind (wpAny_onRaise ?_));refine wpAny_bind (m:=Builtin.SmallTypes.nextOf (.ref i2)) (aX' (mvI k2 (Ne.symm ao2) (mvI k1 (Ne.symm a12) (mvI k0 (Ne.symm az4) j2))) (mvT k2 q3 (mvT k1 q4 (mvT k0 q1 h2))) hy fun h3' ji2 sb3=>?_);have k3:∀b,b≠i2->h3'.get? b=h2'.get? b:=sb3.2;refine wpAny_pure ?_;have gto3:h3'.get? TO=some { cls:=Value.type "tuple",data:=Data.seq #[x,b] }:=(k3 _ ao2).trans gto2;refine wpAny_bind (wpAny_seqItems gto3 rfl ?_);refine wpAny_bind (wpAny_updateSeq gto3 rfl ?_ (show 2<=sizeLine by decide) (show 2<=sizeLine + 1 by decide));have gto4:(h3'.update TO (Obj.mapSeq fun v=>v.setIfInBounds 1 y)).get? TO=some { cls:=Value.type "tuple",data:=Data.seq #[x,y] }:=(Heap.get?_update_self _ gto3 rfl).trans rfl;have k4:∀b,b≠TO->(h3'.update TO (Obj.mapSeq fun v=>v.setIfInBounds 1 y)).get? b=h3'.get? b:=(Heap.SameBut.update _ _ _).2;have z4:(h3'.update TO (Obj.mapSeq fun v=>v.setIfInBounds 1 y)).objs.size=h3'.objs.size:=(Heap.SameBut.update _ _ _).1;dsimp only;generalize h3'.update TO (Obj.mapSeq fun v=>v.setIfInBounds 1 y)=h4' at gto4 k4 z4 ⊢;refine wpAny_bind (wpAny_letGo (wpAny_pure ?_));refine wpAny_pure ?_;refine wpAny_bind (wpAny_seqItems gto4 rfl ?_);have hT:h4'.objs.size=s.heap.objs.size:=by rw [z4,sb3.1,z2,sb1.1,sb0.1]
 refine wpAny_bind (wpAny_newTuple ?_ (show 2<=sizeLine by decide));dsimp only;rw [hT];have zi:z≠s.heap.objs.size:=fun e=>by have:=Heap.lt_size gz; rw [e] at this; exact Nat.lt_irrefl _ this
 have gT:(h4'.push { cls:=Value.type "tuple",data:=Data.seq #[x,y] }).get? s.heap.objs.size=some { cls:=Value.type "tuple",data:=Data.seq #[x,y] }:=by rw [<- hT]; exact Heap.get?_push_size _ rfl
 have k5:∀b o,h4'.get? b=some o->(h4'.push { cls:=Value.type "tuple",data:=Data.seq #[x,y] }).get? b=some o:=fun b o e=>Heap.get?_push_of_some _ e;show wpAny _ _ (do Builtin.SmallTypes.ownedTupleHandOut (Value.ref z) (Value.ref s.heap.objs.size); ret _) _ _ { s with heap:=h4'.push { cls:=Value.type "tuple",data:=Data.seq #[x,y] } }
 generalize h4'.push { cls:=Value.type "tuple",data:=Data.seq #[x,y] }=h5' at gT k5 ⊢;have gz4:h4'.get? z=some { cls:=Value.type "zip",data:=Data.fields #[Value.ellipsis,Value.bool false,Value.bool false,Value.ref TI,Value.ref TO] } :=
  (k4 _ az2).trans ((k3 _ az4).trans ((k2 _ az2).trans ((k1 _ az3).trans (gz0.trans rfl))))
 have gz5:=k5 _ _ gz4;have gti4:h4'.get? TI=some { cls:=Value.type "tuple",data:=Data.seq #[.ref i1,.ref i2] }:=(k4 _ ai1).trans ((k3 _ ai3).trans ((k2 _ ai1).trans ((k1 _ ai2).trans ((k0 _ (Ne.symm az1)).trans gti))));obtain ⟨oj1,gj1,rj1⟩:=ji1;obtain ⟨oj2,gj2,rj2⟩:=ji2;have gj1':h4'.get? i1=some oj1:=(k4 _ (Ne.symm ao1)).trans ((k3 _ a12).trans ((k2 _ (Ne.symm ao1)).trans gj1));have gj2':h4'.get? i2=some oj2:=(k4 _ (Ne.symm ao2)).trans gj2;refine wpAny_bind (m:=Builtin.SmallTypes.ownedTupleHandOut _ _) ?_;unfold Builtin.SmallTypes.ownedTupleHandOut;refine wpAny_bind (wpAny_setField gz5 rfl (show 0 < 5 by decide) ?_);have gz6:(h5'.update z (Obj.mapFields fun v=>v.setIfInBounds 0 (rawInt (s.heap.objs.size:Nat)))).get? z=some { cls:=Value.type "zip",data:=Data.fields #[rawInt (s.heap.objs.size:Nat),Value.bool false,Value.bool false,Value.ref TI,Value.ref TO] }:=(Heap.get?_update_self _ gz5 rfl).trans rfl;have k6:∀b,b≠z->(h5'.update z (Obj.mapFields fun v=>v.setIfInBounds 0 (rawInt (s.heap.objs.size:Nat)))).get? b=h5'.get? b:=(Heap.SameBut.update _ _ _).2;dsimp only;generalize h5'.update z (Obj.mapFields fun v=>v.setIfInBounds 0 (rawInt (s.heap.objs.size:Nat)))=h6' at gz6 k6 ⊢;refine wpAny_setField gz6 rfl (show 1 < 5 by decide) ?_;have gz7:(h6'.update z (Obj.mapFields fun v=>v.setIfInBounds 1 (Value.bool false))).get? z=some { cls:=Value.type "zip",data:=Data.fields #[rawInt (s.heap.objs.size:Nat),Value.bool false,Value.bool false,Value.ref TI,Value.ref TO] }:=(Heap.get?_update_self _ gz6 rfl).trans rfl;have k7:∀b,b≠z->(h6'.update z (Obj.mapFields fun v=>v.setIfInBounds 1 (Value.bool false))).get? b=h6'.get? b:=(Heap.SameBut.update _ _ _).2;dsimp only;generalize h6'.update z (Obj.mapFields fun v=>v.setIfInBounds 1 (Value.bool false))=h7' at gz7 k7 ⊢;refine wpAny_pure (wpAny_pure ?_);have kk:∀b o,b≠z->h4'.get? b=some o->h7'.get? b=some o:=fun b o n e=>(k7 _ n).trans ((k6 _ n).trans (k5 _ _ e));refine hQ h7' ⟨gz7,kk _ _ (Ne.symm az1) gti4,⟨_,_,kk _ _ (Ne.symm az2) gto4⟩,⟨_,kk _ _ (Ne.symm az3) gj1',rj1⟩,⟨_,kk _ _ (Ne.symm az4) gj2',rj2⟩⟩ ((k7 _ (Ne.symm zi)).trans ((k6 _ (Ne.symm zi)).trans gT)) fun b o n e=>?_;simp only [List.mem_cons,List.not_mem_nil,or_false,not_or] at n;obtain ⟨p1,p2,p3,p4,p5⟩:=n;exact kk b o p1 ((k4 _ p3).trans ((k3 _ p5).trans ((k2 _ p3).trans ((k1 _ p4).trans ((k0 _ p1).trans e)))))
end
theorem hK':isSubtype (.type "StopIteration") (.type "StopIteration")=pure true:=by rw [isSubtype_type]; kernel_rfl
section
variable {prog:Program} {w:World} {A:Around} {E:Value->Shared->Prop} {s:Shared}
theorem eV' {z:Addr} {vs:Array Value} {h':Heap} {e:Addr} {Q:Option Value->Shared->Prop} (hz:h'.get? z=some { cls:=Value.type "zip",data:=Data.fields vs }) (hv:0 < vs.size) (he:∃o,h'.get? e=some o/\o.cls=.type "StopIteration")
  (hQ:Q none { s with heap:=h'.update z (Obj.mapFields fun v=>v.setIfInBounds 0 Value.none) }) :
  wpAny (model prog w) A.in1 (setField (Value.ref z) 0 Value.none) (fun _ s''=>wpAny (model prog w) A (do
   let b <- isInstance (.ref e) (Value.type "StopIteration")
   if b=true then pure none else throw (.ref e)) Q E s'') (fun e s''=>wpAny (model prog w) A (do
   let b <- isInstance e (Value.type "StopIteration")
   if b=true then pure none else throw e) Q E s'') { s with heap:=h' }:=by
 refine wpAny_setField hz rfl hv ?_;obtain ⟨o,g,c⟩:=he;have n:e≠z:=fun q=>by
  rw [q,hz] at g;have g':=Option.some.inj g;rw [<- g'] at c;injection c with c'
  exact absurd c' (by decide)
 refine wpAny_bind (wpAny_isInstance (b:=true) (T:="StopIteration") ⟨o,(by show (h'.update z _).get? e=_; rw [Heap.get?_update_other _ _ (Ne.symm n)]; exact g),c⟩ hK' (wpAny_pure hQ))
theorem jc' {z TI TO i1 i2 t1 t2:Addr} {i:Nat} {xs ys:Array Value} {Q:Option Value->Shared->Prop} (hh:A.handled=none) (ap:List.Nodup [z,TI,TO,i1,i2]) (n1:t1∉[z,TI,TO,i1,i2]) (n2:t2∉[z,TI,TO,i1,i2])
  (Z:ZipT s.heap z TI TO i1 i2 t1 t2 .none i) (h1:s.heap.IsTuple t1 xs) (h2:s.heap.IsTuple t2 ys) (hx:xs[i]? = none\/ys[i]? = none)
  (hQ:∀h':Heap,(∀b o,b∉[z,TI,TO,i1,i2]->s.heap.get? b=some o->h'.get? b=some o)->Q none { s with heap:=h' }) :
  wpAny (model prog w) A (pyNext (.ref z)) Q E s:=by
 obtain ⟨gz,gti,⟨a,b,gto⟩,j1,j2⟩:=Z;have tz:s.TypeIs (.ref z) "zip":=⟨_,gz,rfl⟩;unfold pyNext;refine wpAny_bind (wpAny_attempt ?_);refine wpAny_callSpecial?_slot tz F.slot_zip_next ?_;refine wpAny_call (codeAny_call_builtin F.slot_zip_next.plain F.entry_zip_next (F.slot_zip_next.check _ _ _ _ _ _ _ _ tz (F.args_zip_next_1 _) ?_));unfold Builtin.«zip.__next__»;refine wpAny_bind (m:=slotArgs _ _ _) (wpAny_pure ?_);refine wpAny_bind (m:=field _ _) (wpAny_field gz rfl rfl ?_);refine wpAny_bind (m:=field _ _) (wpAny_field gz rfl rfl ?_);refine wpAny_bind (m:=seqItems? _) (wpAny_seqItems gti rfl ?_);dsimp only;refine wpAny_bind (m:=Builtin.SmallTypes.ownedTupleIsFree _) ?_;unfold Builtin.SmallTypes.ownedTupleIsFree;refine wpAny_bind (m:=field _ _) (wpAny_field gz rfl rfl ?_);refine wpAny_pure ?_;rw [if_pos rfl];refine wpAny_bind (wpAny_rule (wpAny_bind (m:=field _ _) (wpAny_field gz rfl rfl ?_)))
 try dsimp only
 refine wpAny_bind (wpAny_setField gz rfl (show 0 < 5 by decide) ?_);have hst:(#[Value.none,Value.bool false,Value.bool false,Value.ref TI,Value.ref TO][2] == Value.bool true)=false:=rfl;have dz0:=Obj.data_mapFields (o:={ cls:=Value.type "zip",data:=Data.fields #[Value.none,Value.bool false,Value.bool false,Value.ref TI,Value.ref TO] }) rfl (fun v=>v.setIfInBounds 0 Value.ellipsis);have gz0:=Heap.get?_update_self (Obj.mapFields fun v=>v.setIfInBounds 0 Value.ellipsis) gz (Obj.isFreed_of_fields dz0);have sb0:=Heap.SameBut.update s.heap z (Obj.mapFields fun v=>v.setIfInBounds 0 Value.ellipsis);generalize s.heap.update z (Obj.mapFields fun v=>v.setIfInBounds 0 Value.ellipsis)=h0 at gz0 sb0 ⊢;simp only [List.nodup_cons,List.mem_cons,List.not_mem_nil,or_false,not_or,List.nodup_nil,and_true,not_false_eq_true] at ap n1 n2;obtain ⟨⟨az1,az2,az3,az4⟩,⟨ai1,ai2,ai3⟩,⟨ao1,ao2⟩,a12⟩:=ap;obtain ⟨m1,m2,m3,m4,m5⟩:=n1;obtain ⟨q1,q2,q3,q4,q5⟩:=n2;have k0:∀b,b≠z->h0.get? b=s.heap.get? b:=sb0.2;have mvT:∀{h h':Heap} {c t:Addr} {xs:Array Value},(∀b,b≠c->h'.get? b=h.get? b)->t≠c->h.IsTuple t xs->h'.IsTuple t xs:=fun k n ⟨o,g,r⟩=>⟨o,(k _ n).trans g,r⟩;have mvI:∀{h h':Heap} {c t j:Addr} {n:Nat},(∀b,b≠c->h'.get? b=h.get? b)->j≠c->h.IsTupleIter j t n->h'.IsTupleIter j t n:=fun k n ⟨o,g,r⟩=>⟨o,(k _ n).trans g,r⟩;simp only [show [Value.ref i1,Value.ref i2].zipIdx=[(Value.ref i1,0),(Value.ref i2,1)] from rfl,List.forIn_cons,hst]
 have gz0':h0.get? z=some { cls:=Value.type "zip",data:=Data.fields #[Value.ellipsis,Value.bool false,Value.bool false,Value.ref TI,Value.ref TO] }:=gz0.trans rfl;refine wpAny_bind (wpAny_bind ?_);refine wpAny_bind (wpAny_onRaise ?_)
 cases hx1:xs[i]? with
 | none =>
  refine wpAny_bind (m:=Builtin.SmallTypes.nextOf (.ref i1)) (bv' hh (mvI k0 (Ne.symm az3) j1) (mvT k0 m1 h1) hx1 fun h1' e xb he=>?_);have gz1:h1'.get? z=_:=xb z _ az3 gz0';refine eV' gz1 (show 0 < 5 by decide) he (hQ _ fun b o n ee=>?_);simp only [List.mem_cons,List.not_mem_nil,or_false,not_or] at n;obtain ⟨p1,p2,p3,p4,p5⟩:=n;rw [Heap.get?_update_other _ _ (Ne.symm p1)];exact xb b o p4 ((k0 _ p1).trans ee)
 | some x =>
 have hy:ys[i]? = none:=by
  rcases hx with q | q
  ·rw [hx1] at q; cases q
  ·exact q
 refine wpAny_bind (m:=Builtin.SmallTypes.nextOf (.ref i1)) (aX' (mvI k0 (Ne.symm az3) j1) (mvT k0 m1 h1) hx1 fun h1' ji1 sb1=>?_);have k1:∀b,b≠i1->h1'.get? b=h0.get? b:=sb1.2;refine wpAny_pure ?_;have gto1:h1'.get? TO=some { cls:=Value.type "tuple",data:=Data.seq #[a,b] }:=(k1 _ ao1).trans ((k0 _ (Ne.symm az2)).trans gto);refine wpAny_bind (wpAny_seqItems gto1 rfl ?_);refine wpAny_bind (wpAny_updateSeq gto1 rfl ?_ (show 2<=sizeLine by decide) (show 2<=sizeLine + 1 by decide));have gto2:(h1'.update TO (Obj.mapSeq fun v=>v.setIfInBounds 0 x)).get? TO=some { cls:=Value.type "tuple",data:=Data.seq #[x,b] }:=(Heap.get?_update_self _ gto1 rfl).trans rfl;have k2:∀b,b≠TO->(h1'.update TO (Obj.mapSeq fun v=>v.setIfInBounds 0 x)).get? b=h1'.get? b:=(Heap.SameBut.update _ _ _).2;have z2:(h1'.update TO (Obj.mapSeq fun v=>v.setIfInBounds 0 x)).objs.size=h1'.objs.size:=(Heap.SameBut.update _ _ _).1;dsimp only;generalize h1'.update TO (Obj.mapSeq fun v=>v.setIfInBounds 0 x)=h2' at gto2 k2 z2 ⊢;refine wpAny_bind (wpAny_letGo (wpAny_pure ?_));refine wpAny_bind (wpAny_bind (wpAny_onRaise ?_));refine wpAny_bind (m:=Builtin.SmallTypes.nextOf (.ref i2)) (bv' hh (mvI k2 (Ne.symm ao2) (mvI k1 (Ne.symm a12) (mvI k0 (Ne.symm az4) j2))) (mvT k2 q3 (mvT k1 q4 (mvT k0 q1 h2))) hy fun h3' e xb he=>?_);have gz3:h3'.get? z=_:=xb z _ az4 ((k2 _ az2).trans ((k1 _ az3).trans gz0'));refine eV' gz3 (show 0 < 5 by decide) he (hQ _ fun b o n ee=>?_);simp only [List.mem_cons,List.not_mem_nil,or_false,not_or] at n;obtain ⟨p1,p2,p3,p4,p5⟩:=n;rw [Heap.get?_update_other _ _ (Ne.symm p1)];exact xb b o p5 ((k2 _ p3).trans ((k1 _ p4).trans ((k0 _ p1).trans ee)))
end
theorem fA' (t1 t2:Addr) (xs ys:Array Value):Meets (Builtin.«zip.__new__» ⟨[.type "zip",.ref t1,.ref t2],[]⟩) (fun _ R s=>s.heap.IsTuple t1 xs/\s.heap.IsTuple t2 ys /\
  ∀h':Heap,ZipT h' (s.heap.objs.size + 4) (s.heap.objs.size + 2) (s.heap.objs.size + 3) s.heap.objs.size (s.heap.objs.size + 1) t1 t2 .none 0->(∀b o,s.heap.get? b=some o->h'.get? b=some o)->h'.objs.size=s.heap.objs.size + 5->R (.ok (.ret (.ref (s.heap.objs.size + 4)))) { s with heap:=h' }):=by
 intro prog w A R s ⟨h1,h2,hR⟩;unfold Builtin.«zip.__new__»;refine wpAny_bind (m:=Builtin.SmallTypes.newClass _ _) ?_;unfold Builtin.SmallTypes.newClass;refine wpAny_bind (m:=isType _) (wpAny_pure ?_);show wpAny _ _ (do let b <- isSubtype (Value.type "zip") (Value.type "zip"); _) _ _ _
 rw [sub_zip];refine wpAny_pure ?_;show wpAny _ _ (do let its <- Builtin.SmallTypes.iterAll [.ref t1,.ref t2]; _) _ _ _
 refine wpAny_bind ?_;unfold Builtin.SmallTypes.iterAll;simp only [List.forIn_cons];refine wpAny_bind (wpAny_bind (wpAny_bind (wpAny_holding (wpAny_pyIter_tuple h1 (wpAny_pure ?_)))));have h2':(s.heap.push { cls:=Value.type "tuple_iterator",data:=Data.fields #[Value.ref t1,Value.int 0 0] }).IsTuple t2 ys:=by
  obtain ⟨o,g,r⟩:=h2;exact ⟨o,Heap.get?_push_of_some _ g,r⟩
 refine wpAny_bind (wpAny_bind (wpAny_holding (wpAny_pyIter_tuple h2' (wpAny_pure ?_))));refine wpAny_pure (wpAny_pure ?_);refine wpAny_bind (wpAny_newTuple ?_ (show 2<=sizeLine by decide));refine wpAny_bind (wpAny_newTuple ?_ (show 2<=sizeLine by decide));refine wpAny_bind (m:=Builtin.SmallTypes.newRecord _ _) ?_;unfold Builtin.SmallTypes.newRecord;refine wpAny_newObj_type (wpAny_pure ?_) (show 5<=sizeLine + 2 by decide);dsimp only
 let S:=s.heap.objs.size
 let A1:=s.heap.push { cls:=Value.type "tuple_iterator",data:=Data.fields #[Value.ref t1,Value.int 0 0] }
 let A2:=A1.push { cls:=Value.type "tuple_iterator",data:=Data.fields #[Value.ref t2,Value.int 0 0] }
 let A3:=A2.push { cls:=Value.type "tuple",data:=Data.seq #[Value.ref S,Value.ref A1.objs.size] }
 let A4:=A3.push { cls:=Value.type "tuple",data:=Data.seq #[Value.none,Value.none] }
 let A5:=A4.push { cls:=Value.type "zip",data:=Data.fields #[Value.none,Value.bool false,Value.bool false,Value.ref A2.objs.size,Value.ref A3.objs.size] }
 have e1:A1.objs.size=S + 1:=Heap.size_push _ _;have e2:A2.objs.size=S + 2:=(Heap.size_push _ _).trans (by rw [e1]);have e3:A3.objs.size=S + 3:=(Heap.size_push _ _).trans (by rw [e2]);have e4:A4.objs.size=S + 4:=(Heap.size_push _ _).trans (by rw [e3]);have e5:A5.objs.size=S + 5:=(Heap.size_push _ _).trans (by rw [e4]);have p1:A1.get? S=some { cls:=Value.type "tuple_iterator",data:=Data.fields #[Value.ref t1,Value.int 0 0] }:=Heap.get?_push_size _ rfl;have p2:A2.get? (S + 1)=some { cls:=Value.type "tuple_iterator",data:=Data.fields #[Value.ref t2,Value.int 0 0] }:=by rw [<- e1]; exact Heap.get?_push_size _ rfl
 have p3:A3.get? (S + 2)=some { cls:=Value.type "tuple",data:=Data.seq #[Value.ref S,Value.ref A1.objs.size] }:=by rw [<- e2]; exact Heap.get?_push_size _ rfl
 have p4:A4.get? (S + 3)=some { cls:=Value.type "tuple",data:=Data.seq #[Value.none,Value.none] }:=by rw [<- e3]; exact Heap.get?_push_size _ rfl
 have p5:A5.get? (S + 4)=some { cls:=Value.type "zip",data:=Data.fields #[Value.none,Value.bool false,Value.bool false,Value.ref A2.objs.size,Value.ref A3.objs.size] }:=by rw [<- e4]; exact Heap.get?_push_size _ rfl
 have u2:∀b o,A1.get? b=some o->A2.get? b=some o:=fun b o e=>Heap.get?_push_of_some _ e;have u3:∀b o,A2.get? b=some o->A3.get? b=some o:=fun b o e=>Heap.get?_push_of_some _ e;have u4:∀b o,A3.get? b=some o->A4.get? b=some o:=fun b o e=>Heap.get?_push_of_some _ e;have u5:∀b o,A4.get? b=some o->A5.get? b=some o:=fun b o e=>Heap.get?_push_of_some _ e;have fin:=hR A5 ⟨by rw [e2,e3] at p5; exact p5,by rw [e1] at p3; exact u5 _ _ (u4 _ _ p3),⟨_,_,u5 _ _ p4⟩,⟨_,u5 _ _ (u4 _ _ (u3 _ _ (u2 _ _ p1))),rfl,rfl⟩,⟨_,u5 _ _ (u4 _ _ (u3 _ _ p2)),rfl,rfl⟩⟩
  (fun b o e=>u5 _ _ (u4 _ _ (u3 _ _ (u2 _ _ (Heap.get?_push_of_some _ e))))) e5
 have e4':s.heap.objs.size + 4=A4.objs.size:=e4.symm;rw [e4'] at fin;exact fin
theorem gt' {prog:Program} {w:World} {A:Around} {E:Value->Shared->Prop} {s:Shared} {t1 t2:Addr} {xs ys:Array Value} {Q:Value->Shared->Prop} (h1:s.heap.IsTuple t1 xs) (h2:s.heap.IsTuple t2 ys)
  (hQ:∀h':Heap,ZipT h' (s.heap.objs.size + 4) (s.heap.objs.size + 2) (s.heap.objs.size + 3) s.heap.objs.size (s.heap.objs.size + 1) t1 t2 .none 0->(∀b o,s.heap.get? b=some o->h'.get? b=some o)->h'.objs.size=s.heap.objs.size + 5->Q (.ref (s.heap.objs.size + 4)) { s with heap:=h' }) :
  wpAny (model prog w) A (call (.type "zip") [.ref t1,.ref t2]) Q E s :=
 callType_new F.called_zip (by decide) (F.typeCall_zip_2 _ _) (F.newCall_zip_2 _ _) (fun obj=>F.args_object_init_3 _ _ _) F.entry_zip_new (fA' t1 t2 xs ys) ⟨h1,h2,fun h' Z k e=>⟨⟨_,Z.zip,rfl⟩,hQ h' Z k e⟩⟩
theorem _root_.L2.Inv.butL {X:Cx} {pins:List (Addr×Obj)} {σ:St} {H:Hp} {s:Shared} {fp:List Addr} {h':Heap} {t':Nat} (J:Inv X pins σ H s) (hf:∀b∈fp,FpOk X pins H b) (hk:∀b o,b∉fp->s.heap.get? b=some o->h'.get? b=some o) :
  Inv X pins σ H { s with heap:=h',toks:=t' }:=by
 have nC:∀b,H b≠none->b∉fp:=fun b hb z=>hb (hf b z).1;refine J.call' (ch:=fp) (s':={ s with heap:=h',toks:=t' }) rfl
   ⟨fun b o e n hb hx=>hk b o hx e,fun b o e n hb hx=>⟨o.slots,hk b o hx e⟩,fun b o e n _=>n,fun b o e hx=>⟨o,hk b o hx e⟩,fun b xs e=>e,fun b o u e=>e,fun b ps e=>⟨#[],by simpa using e⟩⟩
   (fun b u q=>(J.hok b u q).stay (fun c v hc e=>hk c v (by
    rcases hc with rfl | hc
    ·exact nC c (by rw [q]; intro z; cases z)
    ·exact nC c (by rw [hc]; intro z; cases z)) e) (fun _ z=>z) fun _ _ z=>z) J.bare
   fun b hb=>by
    obtain ⟨f0,f1,f2,f3,f4,f5⟩:=hf b hb;exact ⟨f3,f1,f4,f5⟩
noncomputable def Itz (K:PySem.W.Frag) (t1 t2:Addr):It :=
  ⟨fun i H=>∃xs ys v u,SqT K H t1 xs/\SqT K H t2 ys/\xs[i]? = some v/\ys[i]? = some u,
   fun i H x H'=>∃T,H T=none/\x=.ref T/\∃v u,(∀xs,SqT K H t1 xs->xs[i]? = some v)/\(∀ys,SqT K H t2 ys->ys[i]? = some u)/\H'=upd H T (.tup [v,u]),
   fun i H=>∃xs ys,SqT K H t1 xs/\SqT K H t2 ys/\(xs.length<=i\/ys.length<=i)⟩
theorem hL' {P:Program} {w:World} {K:PySem.W.Frag} {elts:List Expr} {x1:Nat} {pos:Pos} {z TI TO i1 i2 t1 t2:Addr} (ap:List.Nodup [z,TI,TO,i1,i2]) (n1:t1∉[z,TI,TO,i1,i2]) (n2:t2∉[z,TI,TO,i1,i2]) :
  Turn P w K (.Tuple elts x1 pos) (Itz K t1 t2) [z,TI,TO,i1,i2] z (fun i h=>ZipT h z TI TO i1 i2 t1 t2 .none i) where
 mem:=by simp
 obj:=fun i h st b hb=>by
  obtain ⟨gz,gti,⟨a,c,gto⟩,⟨o1,g1,_,d1⟩,⟨o2,g2,_,d2⟩⟩:=st;simp only [List.mem_cons,List.not_mem_nil,or_false] at hb;rcases hb with rfl | rfl | rfl | rfl | rfl
  ·exact ⟨_,gz,fun v q=>by cases q⟩
  ·exact ⟨_,gti,fun v q=>by cases q⟩
  ·exact ⟨_,gto,fun v q=>by cases q⟩
  ·exact ⟨_,g1,fun v q=>by rw [d1] at q; cases q⟩
  ·exact ⟨_,g2,fun v q=>by rw [d2] at q; cases q⟩
 keep:=fun i h h' st k=>by
  obtain ⟨gz,gti,⟨a,c,gto⟩,⟨o1,g1,r1⟩,⟨o2,g2,r2⟩⟩:=st;exact ⟨k z (by simp) _ gz,k TI (by simp) _ gti,⟨a,c,k TO (by simp) _ gto⟩,⟨o1,k i1 (by simp) _ g1,r1⟩,⟨o2,k i2 (by simp) _ g2,r2⟩⟩
 item:=by
  intro X hP hw hK hc i pins s σ H E I hf st hg;subst hP hw hK;obtain ⟨xs,ys,v,u,hq1,hq2,hx,hy⟩:=hg;obtain ⟨its1,rv1,p1,hz1⟩:=I.tuple hq1;obtain ⟨its2,rv2,p2,hz2⟩:=I.tuple hq2;obtain ⟨u1,hu1,ru1⟩:=rv1.get hx;obtain ⟨u2,hu2,ru2⟩:=rv2.get hy;refine hJ' ap n1 n2 st (show s.heap.IsTuple t1 its1.toArray from p1) (show s.heap.IsTuple t2 its2.toArray from p2) (x:=u1) (y:=u2) (by simpa using hu1) (by simpa using hu2) fun h' Z gT kk=>?_
  refine ⟨_,rfl,wpAny_letOwnedTupleGo_zip (T:=s.heap.objs.size) Z.zip fun h'' gz'' sb=>?_⟩;have fT:FpOk X pins H s.heap.objs.size:=I.fpOk (Nat.le_refl _) (I.hok.fresh (Nat.le_refl _));have zs:s.heap.objs.size≠z:=fun e=>by
   have:=Heap.lt_size st.zip; rw [<- e] at this; exact Nat.lt_irrefl _ this
  have kk2:∀b o,b∉[z,TI,TO,i1,i2]->s.heap.get? b=some o->h''.get? b=some o:=fun b o n e=>(sb.2 b (fun q=>n (by rw [q]; simp))).trans (kk b o n e);have I1:Inv X pins σ H { s with heap:=h'' }:=I.butL (t':=s.toks) hf kk2
  have gT2:h''.get? s.heap.objs.size=some { cls:=Value.type "tuple",data:=Data.seq #[u1,u2] }:=(sb.2 _ zs).trans gT;obtain ⟨f0,f1,f2,f3,f4,f5⟩:=fT;have I2:Inv X pins σ (upd H s.heap.objs.size (.tup [v,u])) { s with heap:=h'' }:=I1.track f0 (fun ob e _=>absurd (Nat.lt_of_lt_of_le (Heap.lt_size e) I.sz) (Nat.lt_irrefl _)) f1 f4 f5
   ⟨show 2<=sizeLine by decide,[u1,u2],.cons ru1 (.cons ru2 .nil),⟨_,gT2,rfl,_,rfl⟩⟩
  have nz:∀b,b≠z->h''.get? b=h'.get? b:=sb.2;refine ⟨.ref s.heap.objs.size,_,I2,rfl,⟨_,f0,rfl,v,u,fun xs' h=>?_,fun ys' h=>?_,rfl⟩,?_,fun b hb=>?_⟩
  ·rw [I.tuple_inj h hq1]; exact hx
  ·rw [I.tuple_inj h hq2]; exact hy
  ·have ap':=ap;simp only [List.nodup_cons,List.mem_cons,List.not_mem_nil,or_false,not_or,List.nodup_nil,and_true,not_false_eq_true] at ap';obtain ⟨⟨az1,az2,az3,az4⟩,_⟩:=ap';obtain ⟨_,gti,⟨a,c,gto⟩,⟨o1,g1,r1⟩,⟨o2,g2,r2⟩⟩:=Z;exact ⟨gz'',(nz _ (Ne.symm az1)).trans gti,⟨a,c,(nz _ (Ne.symm az2)).trans gto⟩,⟨o1,(nz _ (Ne.symm az3)).trans g1,r1⟩,⟨o2,(nz _ (Ne.symm az4)).trans g2,r2⟩⟩
  ·have hb2:b≠s.heap.objs.size:=fun e=>by
    obtain ⟨o,g,_⟩:=(show ∃o,s.heap.get? b=some o/\True from by
     obtain ⟨gz,gti,⟨a,c,gto⟩,⟨o1,g1,_⟩,⟨o2,g2,_⟩⟩:=st;simp only [List.mem_cons,List.not_mem_nil,or_false] at hb;rcases hb with rfl | rfl | rfl | rfl | rfl
     ·exact ⟨_,gz,trivial⟩
     ·exact ⟨_,gti,trivial⟩
     ·exact ⟨_,gto,trivial⟩
     ·exact ⟨_,g1,trivial⟩
     ·exact ⟨_,g2,trivial⟩)
    have:=Heap.lt_size g;rw [e] at this; exact Nat.lt_irrefl _ this
   rw [al' hb2]; exact (hf b hb).1
 done:=by
  intro X hP hw hK hc i pins s σ H E I hf st hg;subst hP hw hK;obtain ⟨xs,ys,hq1,hq2,hx⟩:=hg;obtain ⟨its1,rv1,p1,hz1⟩:=I.tuple hq1;obtain ⟨its2,rv2,p2,hz2⟩:=I.tuple hq2;have l1:=rv1.length;have l2:=rv2.length;refine jc' (I.ok.hd hc) ap n1 n2 st (show s.heap.IsTuple t1 its1.toArray from p1) (show s.heap.IsTuple t2 its2.toArray from p2) ?_ fun h' kk=>⟨rfl,I.butL (t':=s.toks) hf kk⟩
  rcases hx with q | q
  ·exact .inl (by simp; omega)
  ·exact .inr (by simp; omega)
 self:=fun _ _ _ _ _ st h=>wpAny_pyIter_zip st.zip h
noncomputable def zipD (xs ys:List D):List D:=List.zipWith (fun x y=>D.tup [x,y]) xs ys
noncomputable def zipG:List D->Res (List D)
 | [.tup xs,.tup ys]=>.ok (zipD xs ys)
 | _=>.stuck
theorem fB' {K:PySem.W.Frag} {H:Hp} {t1 t2:Addr} {xs ys:List V} {ds es:List D} (h1:SqT K H t1 xs) (h2:SqT K H t2 ys) (r1:Reps K H ds xs) (r2:Reps K H es ys):Yields K (Itz K t1 t2) H (zipD ds es):=by
 intro H' e;have q1:=cv' e h1;have q2:=cv' e h2;have p1:=r1.mono e;have p2:=r2.mono e;refine ⟨fun i d hd=>?_,xs,ys,q1,q2,?_⟩
 ·unfold zipD at hd;rw [List.getElem?_zipWith] at hd
  cases z1:ds[i]? with
  | none=>rw [z1] at hd; simp at hd
  | some x =>
   cases z2:es[i]? with
   | none=>rw [z1,z2] at hd; simp at hd
   | some y =>
    rw [z1,z2] at hd;simp only [Option.some.injEq] at hd;subst hd;obtain ⟨v,e1,s1⟩:=p1.get z1;obtain ⟨u,e2,s2⟩:=p2.get z2;refine ⟨⟨xs,ys,v,u,q1,q2,e1,e2⟩,fun a H'' yl=>?_⟩;obtain ⟨T,hT,rfl,v',u',k1,k2,rfl⟩:=yl;have w1:=k1 xs q1;have w2:=k2 ys q2;rw [e1] at w1; rw [e2] at w2
    cases w1; cases w2
    have sm:=au' hT (.tup [v,u]);exact ⟨sm,mkT (SqT.of an') (.cons (s1.mono sm) (.cons (s2.mono sm) .nil))⟩
 ·unfold zipD;rw [List.length_zipWith,r1.length,r2.length];omega
theorem hM' (S:Nat):List.Nodup [S + 4,S + 2,S + 3,S,S + 1]:=by
 simp only [List.nodup_cons,List.mem_cons,List.not_mem_nil,or_false,not_or,List.nodup_nil,and_true,not_false_eq_true];omega
theorem eW' {S t:Nat} (h:t < S):t∉[S + 4,S + 2,S + 3,S,S + 1]:=by
 simp only [List.mem_cons,List.not_mem_nil,or_false,not_or];omega
theorem kq' {S b:Nat} (h:b∈[S + 4,S + 2,S + 3,S,S + 1]):S<=b:=by
 simp only [List.mem_cons,List.not_mem_nil,or_false] at h;omega
theorem ew' {X:Cx} {a b:Expr} {fa:DS->Res (List D)} {p pos tp:Pos} {elts:List Expr} {x1:Nat} (hg:Gl X "zip") (hm:X.mg "zip" = none) (ha:PAD X [a,b] fa) (hs:starEach [a,b] X.env=[(false,eval a X.env),(false,eval b X.env)]:=by rfl) (hs2:starEach [b] X.env=[(false,eval b X.env)]:=by rfl) :
  PID X (.Tuple elts x1 tp) (.Call (.Name "zip" p) [a,b] [] pos) (fun δ=>(fa δ).bind zipG):=by
 intro pins s σ G H δ I R hn
 try dsimp only at hn ⊢
 refine Call_ (cQ' I hg hm boot_zip (PyProof.Rows.callWith_type1 (ha.use I R (aA' hn) (fun ds us s1 vs H1 q I1 r1 e1 b1 p1=>?_) fun e s1 q=>q.same fun x z=>aL' z) (by rw [hs,hs2]) (by rw [hs2]; rfl)));have h2:=aP' hn q;unfold zipG at h2
 split at h2
 ·rename_i ds1 ds2;obtain ⟨v,ws,rfl,w1,w2⟩:=p1.cons_of;obtain ⟨v',ws,rfl,w3,w4⟩:=w2.cons_of
  cases w4.nil_of
  obtain ⟨t1,xs,rfl,s1',t1'⟩:=repT w1;obtain ⟨t2,ys,rfl,s2',t2'⟩:=repT w3
  cases r1 with
  | cons ra rr =>
   cases rr with
   | cons rb rr =>
    cases rr
    cases ra
    cases rb
    obtain ⟨its1,rv1,pp1,hz1⟩:=I1.tuple s1';obtain ⟨its2,rv2,pp2,hz2⟩:=I1.tuple s2';refine gt' (show s1.heap.IsTuple t1 its1.toArray from pp1) (show s1.heap.IsTuple t2 its2.toArray from pp2) fun h' Z kk sz=>?_
    have I2:Inv X pins σ H1 { s1 with heap:=h' }:=I1.kept (t':=s1.toks) kk
    obtain ⟨o1,g1,_⟩:=id pp1;obtain ⟨o2,g2,_⟩:=id pp2;have l1:=Heap.lt_size g1;have l2:=Heap.lt_size g2;refine wpAny_pyIter_zip Z.zip ?_;refine ⟨_,s1.heap.objs.size + 4,[s1.heap.objs.size + 4,s1.heap.objs.size + 2,s1.heap.objs.size + 3,s1.heap.objs.size,s1.heap.objs.size + 1],_,_,H1,by rw [q]; rfl,rfl,I2,hL' ?_ ?_ ?_,Z,fun b hb=>?_,e1,fB' s1' s2' t1' t2'⟩
    ·exact hM' _
    ·exact eW' l1
    ·exact eW' l2
    ·exact I1.fpOk (kq' hb) (I1.hok.fresh (kq' hb))
 ·exact (h2 rfl).elim
theorem cH' {m i j:Nat} (h:i < m) (h':j < m):KeepsT m (tupTgt [i,j]):=by
 intro d δ δ1 e
 cases d with
 | tup ds =>
  match ds,e with
  | [x,y],e =>
   simp only [tupTgt,namesD,Option.some.injEq] at e;subst e;exact ⟨by simp,fun k hk=>by rw [List.getElem?_set_ne (by omega),List.getElem?_set_ne (by omega)]⟩
  | [],e=>simp [tupTgt,namesD] at e
  | [x],e=>simp [tupTgt,namesD] at e
  | _ :: _ :: _ :: _,e=>simp [tupTgt,namesD] at e
 | _=>simp [tupTgt] at e
section
variable {X:Cx} {e:Expr} {fe:DS->Res D} {pos:Pos} {op:Operator} {g:D->D->Res D}
end
theorem cf':fillsNumberSlot (.type "tuple") "mul" = pure false:=by first | exact noFill_tuple_mul | (unfold fillsNumberSlot; kernel_rfl)
theorem dm':seqRepeat? (.type "tuple")=pure (some (.builtin "tuple.__mul__")):=by first | exact repeat_tuple | (unfold seqRepeat?; kernel_rfl)
section
variable {prog:Program} {w:World} {A:Around} {E:Value->Shared->Prop} {s:Shared}
theorem hN' {t:Addr} {items:Array Value} {k:Int} {tok:Tok} {Q:Value->Shared->Prop} (ht:IsTup s.heap t items) (h:Q .notImplemented s):wpAny (model prog w) A (call (.builtin "int.__rmul__") [.int k tok,.ref t]) Q E s:=by
 obtain ⟨o,g,hc,n,hd⟩:=id ht;refine wpAny_call (codeAny_call_builtin F.slot_int_rmul.plain F.entry_int_rmul (F.slot_int_rmul.check _ _ _ _ _ _ _ _ (typeIs_int s k tok) (F.args_int_rmul_2 _ _) ?_));refine wpAny_bind (m:=slotArgs _ _ _) (wpAny_pure ?_);refine wpAny_bind (m:=Builtin.Int.intOfSelf _) (wpAny_bind (m:=asInt? _) (wpAny_pure (wpAny_pure ?_)));refine wpAny_bind (m:=asInt? _) (wpAny_bind (m:=load _) (wpAny_load g ?_));simp only [hd];refine wpAny_pure ?_;exact wpAny_bind (wpAny_rule (wpAny_pure h))
theorem jd' {t:Addr} {items:Array Value} {k:Nat} {tok:Tok} {Q:Value->Shared->Prop} (ht:IsTup s.heap t items) (hne:items.isEmpty=false) (hk:items.size * k<=1000) (h1:k=1->Q (.ref t) s)
  (h2:k≠1->Q (.ref s.heap.objs.size) { s with heap:=s.heap.push { cls:=.type "tuple",data:=.seq (List.replicate k items.toList).flatten.toArray } }):wpAny (model prog w) A (call (.builtin "tuple.__mul__") [.ref t,.int k tok]) Q E s:=by
 refine wpAny_call (codeAny_call_builtin F.slot_tuple_mul.plain F.entry_tuple_mul (F.slot_tuple_mul.check _ _ _ _ _ _ _ _ ht.typeIs (F.args_tuple_mul_2 _ _) ?_));refine wpAny_bind (m:=asIndex _) (wpAny_bind (m:=asInt? _) (wpAny_pure (wpAny_pure ?_)));have p1:1<=items.size:=by
  rcases Nat.eq_zero_or_pos items.size with z | z
  ·rw [Array.isEmpty_eq_false_iff,<- Array.size_pos_iff] at hne; omega
  ·exact z
 have kk:k<=1000:=Nat.le_trans (Nat.le_mul_of_pos_left k p1) hk;have hfit:(decide ((k:Int) < -2 ^ 63) || decide ((k:Int)>=2 ^ 63))=false:=by
  rw [Bool.or_eq_false_iff];exact ⟨decide_eq_false (by omega),decide_eq_false (by omega)⟩
 dsimp only;rw [hfit,if_neg Bool.false_ne_true];refine wpAny_bind (tupleItemsOf_ ht ?_)
 by_cases c:k=1
 ·have hc:(items.isEmpty || ((k:Nat):Int) == 1)=true:=by rw [c]; simp
  rw [if_pos hc];refine wpAny_bind (m:=Builtin.Tuple.tupleIsExact _) (wpAny_bind (wpAny_typeOf ht.typeIs (wpAny_pure ?_)));rw [if_pos (by decide)];exact wpAny_bind (wpAny_rule (wpAny_pure (h1 c)))
 ·have hc:¬((items.isEmpty || ((k:Nat):Int) == 1)=true):=by
   rw [hne]; simp; omega
  rw [if_neg hc];have q:=h2 c
  by_cases z:k=0
  ·have hz:(decide (((k:Nat):Int)<=0) || items.isEmpty)=true:=by rw [z]; simp
   rw [if_pos hz];rw [z] at q;exact wpAny_bind (m:=Builtin.Tuple.tupleExact _) (wpAny_newObj_type (wpAny_pure q) (show 0<=sizeLine from Nat.zero_le _))
  ·have hz:¬((decide (((k:Nat):Int)<=0) || items.isEmpty)=true):=by
    rw [hne]; simp; omega
   rw [if_neg hz];have e0:((items.size:Int) * (k:Int))=((items.size * k:Nat):Int):=by simp
   have hs:(1000:Nat)<=sizeLine:=by decide
   have hm:¬((items.size:Int) * (k:Int) > (2 ^ 63 - 1) / 8):=by
    rw [e0];have:((2:Int) ^ 63 - 1) / 8=1152921504606846975:=by decide
    omega
   rw [if_neg hm];have ht2:¬(Builtin.Tuple.tupleTooMany ((items.size:Int) * (k:Int))=true):=by
    unfold Builtin.Tuple.tupleTooMany;rw [e0]; simp only [decide_eq_true_eq]; omega
   rw [if_neg ht2];have hf:List.foldl (fun x1 x2=>x1 ++ x2) #[] (List.replicate ((k:Nat):Int).toNat items)=(List.replicate k items.toList).flatten.toArray:=by
    have:=foldl_rep items.toList k [];rw [List.nil_append] at this;rw [Int.toNat_natCast];simpa using this
   rw [hf];exact wpAny_bind (m:=Builtin.Tuple.tupleExact _) (wpAny_newObj_type (wpAny_pure q) (by show _<=sizeLine; rw [List.size_toArray,len_rep,Array.length_toList,Nat.mul_comm]; omega))
end
noncomputable def rRepT (K:PySem.W.Frag):R2:=fun x y H Q=>∃a k xs,x=.ref a/\y=.int ((k:Nat):Int)/\SqT K H a xs/\xs≠[]/\xs.length * k<=1000/\(k=1->Q (.ref a) H)/\(k≠1->∀p,H p=none->Q (.ref p) (upd H p (.tup (List.replicate k xs).flatten)))
theorem je' {X:Cx}:OpR X (binaryOp .Mult) (rRepT X.K):=by
 intro pins s σ H x y v u Q I rx ry h;obtain ⟨a,k,xs,rfl,rfl,hq,hne,hz,q1,q2⟩:=h
 cases rx
 obtain ⟨t,rfl⟩:=ry;obtain ⟨its,r,ht,hzz⟩:=I.tuple hq;have hl:=r.length;refine wpAny_binaryOp_repeat_ref (T:="tuple") (U:="int") (by decide) ht.typeIs (fun s'=>typeIs_int s' k t) cf' F.fills_int_mul F.slot_int_rmul dm' F.slot_int_index.lookup
  (hN' ht ⟨rfl,ht.typeIs,?_⟩)
 refine jd' ht ?_ (by rw [List.size_toArray,<- hl]; exact hz) (fun e=>⟨.ref a,H,I,rfl,q1 e⟩) fun e=>?_
 ·cases its with
  | nil=>exact (hne (List.eq_nil_of_length_eq_zero hl)).elim
  | cons b l=>simp
 ·have hb:(List.replicate k xs).flatten.length<=sizeLine:=by
   rw [len_rep,Nat.mul_comm]; exact Nat.le_trans hz (by decide)
  exact ⟨.ref s.heap.objs.size,_,I.laid (t':=s.toks) (o:=.tup (List.replicate k xs).flatten) (fun b ob q=>Heap.get?_push_of_some _ q) (Nat.le_refl _) ⟨hb,_,r.rep k,IsTup.new _ _⟩,rfl,q2 e _ (I.hok.fresh (Nat.le_refl _))⟩
theorem Reps.rep {K:PySem.W.Frag} {H:Hp} {ds:List D} {vs:List V} (h:Reps K H ds vs):∀k:Nat,Reps K H (List.replicate k ds).flatten (List.replicate k vs).flatten
 | 0=>Reps.nil
 | k + 1=>by
  rw [List.replicate_succ,List.replicate_succ,List.flatten_cons,List.flatten_cons];exact h.append (Reps.rep h k)
noncomputable def repD (ds:List D) (k:Int):Res D:=if ds.isEmpty=false/\0<=k/\ds.length * k.toNat<=1000 then .ok (.tup (List.replicate k.toNat ds).flatten) else .stuck
noncomputable def mulE:D->D->Res D
 | .tup ds,.int k=>repD ds k
 | a,b=>mulD a b
theorem aC' (x y:D):NoErr (mulE x y):=by
 unfold mulE
 split
 ·unfold repD; exact ay' ak' af'
 ·exact kg' _ _
theorem hO' {X:Cx} (E:Value->Shared->Prop):OpR (X.wish E) (binaryOp .Mult) (rRepT X.K):=je'
theorem aD' {X:Cx}:OpD X (binaryOp .Mult) mulE:=by
 intro E pins s σ H x y v u a b d I r1 r2 p1 p2 e;unfold mulE at e
 split at e
 ·rename_i ds k;unfold repD at e
  split at e
  ·rename_i c
   cases e
   obtain ⟨p,us,rfl,s1,t1⟩:=repT p1;have hy:=repI p2;subst hy;have hk:((k.toNat:Nat):Int)=k:=by omega
   refine thn (hO' E pins s σ H (.ref p) (.int k) v u (fun z H'=>Same H H'/\Rep X.K H' (.tup (List.replicate k.toNat ds).flatten) z) (I.wish _) r1 r2 ⟨p,k.toNat,us,rfl,by rw [hk],s1,?_,by rw [t1.length]; exact c.2.2,fun e1=>⟨Same.refl H,?_⟩,fun _ z hz=>⟨au' hz _,mkT (SqT.of an') ((t1.rep _).mono (au' hz _))⟩⟩) fun w s2 ⟨z,H1,I1,r3,e1,p3⟩=>⟨_,z,H1,rfl,I1.unwish,r3,e1,p3⟩
   ·intro z; rw [z] at t1; have:=t1.isEmpty; rw [c.1] at this; cases this
   ·rw [e1,List.replicate_one,List.flatten_cons,List.flatten_nil,List.append_nil]; exact mkT s1 t1
  ·cases e
 ·exact ki' E pins s σ H x y v u a b d I r1 r2 p1 p2 e
section
variable {X:Cx}
end
structure FunV (K:PySem.W.Frag) (x qual:Str) (st:Stmt) (f:Addr) (fd:FuncData):Prop where
 ex:∃(oc:Value) (od:Option Addr) (dV kV doc pm:Value) (an:Option Addr) (cdv ct:Value) (osl:Array (Option Value)),
  fd=PySem.W.fnOf x qual (defArgs st) (defBody st) (defScope st) dV kV doc pm an cdv ct/\K.lookup f=some ⟨oc,od,.func fd,osl⟩/\PySem.W.codeIn K cdv qual=true
 kp:PySem.W.keepIn K (.ref f)=true
section
variable {P:Program} {w:World} {K:PySem.W.Frag} {mg:Str->Option Value} {base:Heap}
theorem FunV.binds {x qual:Str} {st:Stmt} {f:Addr} {fd:FuncData} {ps:List Str} (F:FunV K x qual st f fd)
  (h:∀(dV kV doc pm:Value) (an:Option Addr) (cdv ct:Value) (us:List Value),us.length=ps.length->bindArgs (PySem.W.fnOf x qual (defArgs st) (defBody st) (defScope st) dV kV doc pm an cdv ct) ⟨us,[]⟩=pure (ps.zip us)):Binds K fd ps []:=by
 obtain ⟨oc,od,dV,kV,doc,pm,an,cdv,ct,osl,rfl,lk,hcd⟩:=F.ex;exact .all (h dV kV doc pm an cdv ct)
end
noncomputable def ownC (i:Nat) (f:DS->Res D):DS->Out:=fun δ=>match f δ with
 | .ok (.lst ds)=>.nxt (δ.set i (some (.own ds)))
 | .ok _=>.stuck
 | .err x=>.err x δ
 | .stuck=>.stuck
section
variable {X:Cx} {m:Nat} {fr:List Nat} {N':List Str} {scope:Scope} {cl:List (Str×Addr)} {tg iter elt:Expr} {pos:Pos} {t:TGD} {fe:DS->Res D} {fi:DS->Res (List D)}
theorem cI' (i:Nat) {y:Str} {py spos:Pos} (W:Around' X m fr N' scope cl) (hcalm:X.calm=true) (hkt:KeepsT m t) (hi:PID X tg iter fi) (ht:∀C s H fp,PGD (compX X N' scope cl C s H fp) tg t) (he:∀C s H fp,PD (compX X N' scope cl C s H fp) elt fe)
  (hN:X.N.Nodup) (hsw:swapsWith (.ListComp elt [⟨tg,iter,[],0⟩] scope pos) (some (.Name y py)) spos.line X.env=pure true:=by rfl) (hy:X.N[i]? = some y:=by rfl) (hx:Loc X.env.scope y:=by first | exact Or.inl rfl | exact Or.inr rfl)
  (hfn:X.fn y=true\/X.env.scope.names.lookup y=some .local:=by first | exact .inl rfl | exact .inr rfl | assumption) (hf:∀x,foldedSetIterable iter X.env x=pure x:=by intro _; rfl) :
  PSD X (.Assign [.Name y py] (.ListComp elt [⟨tg,iter,[],0⟩] scope pos) spos) (ownC i (compD m fr t fe fi)):=by
 intro pins s σ G H δ I R hs;have hs':compD m fr t fe fi δ≠.stuck:=fun z=>hs (by unfold ownC; rw [z]);rw [exec_Assign_Name_used _ _ _ _ hsw];refine wpAny_bind (wpAny_standAt (wpAny_bind ?_));show wpAny _ X.A (do let _ <- comprehension (.ListComp elt [⟨tg,iter,[],0⟩] scope pos) scope X.env _ (newList []) false (eval iter X.env) (some (assign (.Name y py) X.env))) _ _ s
 refine wpAny_bind (wpAny_mono (wpAny_comprehension_free (use:=some (assign (.Name y py) X.env)) (Q:=fun _ s'=>SPost X pins G H (ownC i (compD m fr t fe fi) δ) .next s') rfl hf W.clos W.kind W.names
  (dk' W hcalm hkt hi ht he I R hs' (fun e s1 q=>q.sx R fun x z=>by unfold ownC; rw [z]) (RR:=fun acc C=>compPost _ _ _ (some (assign (.Name y py) X.env)) _ acc C) ?_)) (fun _ s' hq=>wpAny_pure (wpAny_pure hq)) fun _ _ e=>e)
 intro a C s' H' ds xs mC ev J e' ha hx' hr hns hC hCa hC0 hCf hCl hCc hCp;show wpAny _ X.A (assign (.Name y py) X.env (.ref a)) _ _ _;refine wpAny_assign_Name (cz' J hN hy hx (v:=.ref a) (u:=.ref a) rfl (fun s2 I2 ⟨b,sb,hb⟩=>?_) hfn);have hbC:C≠b:=by
  rcases hb with z | z
  ·rw [z]; exact hCl
  ·exact fun w=>hCc _ _ z w.symm
 refine ⟨mC,hns.sameBut sb hbC,fun h' hs'=>?_⟩;refine ⟨_,_,H',by unfold ownC; rw [ev],I2.but (t':=s2.toks) hC hC0 hCl hCc hCp hs',e'.tk,R.setOwn e' i ha hx' hr⟩
end
noncomputable def setS (i:Nat) (ds:List D) (j:Nat) (d:D) (δ:DS):DS:=(δ.map fun o=>o.bind keepSV).set i (some (.own (ds.set j d)))
theorem Reps.setAt {K:PySem.W.Frag} {H:Hp}:∀{ds:List D} {vs:List V} (j:Nat) {d:D} {v:V},Reps K H ds vs->Rep K H d v->Reps K H (ds.set j d) (vs.set j v)
 | [],_,_,_,_,h,_=>by cases h.nil_of; exact Reps.nil
 | a :: ds,_,0,_,_,h,p=>by
  obtain ⟨v,vs,rfl,_,q⟩:=h.cons_of;exact Reps.cons p q
 | a :: ds,_,j + 1,_,_,h,p=>by
  obtain ⟨v,vs,rfl,r,q⟩:=h.cons_of;exact Reps.cons r (Reps.setAt j q p)
theorem RepSt.put {K:PySem.W.Frag} {G H:Hp} {σ:St} {δ:DS} {i:Nat} {ds:List D} {j:Nat} {d:D} {a:Addr} {xs:List V} {v:V} (R:RepSt K G H σ δ) (hδ:δ[i]? = some (some (.own ds))) (hσ:σ[i]? = some (some (.ref a))) (hH:H a=some (.lst xs)) (r:Reps K H ds xs) (hG:G a=none) (hf:flatDs ds=true) (hd:flatD d=true) (p:Rep K H d v) :
  RepSt K G (upd H a (.lst (xs.set j v))) σ (setS i ds j d δ) where
 same:=fun b o e=>by
  have hb:b≠a:=fun z=>by subst z; rw [hG] at e; cases e
  rw [al' hb]; exact R.same b o e
 len:=by unfold setS; rw [List.length_set,List.length_map]; exact R.len
 at_:=fun k sv h=>by
  unfold setS at h;have hl:i < δ.length:=(List.getElem?_eq_some_iff.mp hδ).1
  by_cases hj:i=k
  ·subst hj;rw [List.getElem?_set_self (by rw [List.length_map]; exact hl)] at h
   cases h
   exact ⟨.ref a,hσ,a,xs.set j v,rfl,an',(Reps.lset hH hf r).setAt j (Rep.lset hH hd p),hG⟩
  ·rw [List.getElem?_set_ne hj] at h;obtain ⟨sv0,q1,q2⟩:=cw' h;obtain ⟨u,e1,e2⟩:=R.at_ k sv0 q1;refine ⟨u,e1,?_⟩
   cases sv0 with
   | val d' =>
    simp only [keepSV] at q2
    split at q2
    ·rename_i c; cases q2; exact Rep.lset hH c e2
    ·cases q2
   | arg d'=>cases q2; exact e2
   | own es =>
    simp only [keepSV] at q2
    split at q2
    ·rename_i c
     cases q2
     obtain ⟨b,ys,rfl,w2,w3,w4⟩:=e2;have hb:b≠a:=fun z=>by subst z; exact R.sep i k ds es (.ref b) hj hδ q1 hσ e1
     exact ⟨b,ys,rfl,by rw [al' hb]; exact w2,Reps.lset hH c w3,w4⟩
    ·cases q2
 sep:=fun k l es fs u hjk h1 h2 h3=>by
  have get:∀(m:Nat) (gs:List D),(setS i ds j d δ)[m]? = some (some (.own gs))->∃gs',δ[m]? = some (some (.own gs')):=fun m gs h=>by
   unfold setS at h
   by_cases hm:i=m
   ·subst hm; exact ⟨ds,hδ⟩
   ·rw [List.getElem?_set_ne hm] at h;obtain ⟨sv0,q1,q2⟩:=cw' h;obtain ⟨rfl,_⟩:=eU' q2;exact ⟨gs,q1⟩
  obtain ⟨es',g1⟩:=get k es h1;obtain ⟨fs',g2⟩:=get l fs h2;exact R.sep k l es' fs' u hjk g1 g2 h3
noncomputable def putD (i:Nat) (fi fe:DS->Res D):DS->Out:=fun δ=>match δ[i]? with
 | some (some (.own ds))=>onD (fe δ) δ fun d=>onD (fi δ) δ fun k=>match k with
  | .int z=>(match ixN ds.length z with
   | some j=>if flatDs ds=true/\flatD d=true then .nxt (setS i ds j d δ) else .stuck
   | none=>.stuck)
  | _=>.stuck
 | _=>.stuck
section
variable {X:Cx} {e ix:Expr} {fe fi:DS->Res D} {x:Str} {pos np sp:Pos}
theorem gu' (i:Nat) (he:PD X e fe) (hi:PD X ix fi) (hne:∀δ,NoErr (fi δ)) (hN:X.N[i]? = some x:=by rfl) (hv:Vis X.env.scope x:=by first | exact Or.inl rfl | exact Or.inr (Or.inl rfl) | exact Or.inr (Or.inr rfl)) (hd:(x == ("__debug__" : Str))=false:=by decide)
  (hcd:(x == ("__classdict__" : Str))=false:=by decide)
  (ha:∀v,assign (.Subscript (.Name x np) ix sp) X.env v=(do
   let ov <- holding [v] (eval (.Name x np) X.env)
   let iv <- holding [v,ov] (eval ix X.env)
   standAt sp
   holding [v,ov,iv] (setItem ov iv v)
   release [v,ov,iv] []):=by intro _; rfl)
  (hw1:swapsWithSole [(.Subscript (.Name x np) ix sp)] e pos.line X.env=pure false:=by rfl) (hw:swappedStores [(.Subscript (.Name x np) ix sp)] e X.env=pure none:=by rfl) (h1:(assignEach [(.Subscript (.Name x np) ix sp)] X.env).map (·.2)=[assign (.Subscript (.Name x np) ix sp) X.env]:=by rfl) :
  PSD X (.Assign [.Subscript (.Name x np) ix sp] e pos) (putD i fi fe):=by
 intro pins s σ G H δ I R hs;unfold putD at hs ⊢
 split at hs
 ·rename_i ds hδ;obtain ⟨v0,hσ,a,xs,rfl,hH,r,hG⟩:=R.at_ i _ hδ;refine wpAny_Assign_stores (he.use I R (fq' hs) (fun d u s1 w H1 q I1 r1 e1 b1 p1=>?_) fun e s1 q=>q.sx R fun x z=>by rw [z]; rfl) hw1 hw;rw [h1];rw [q] at hs ⊢;have hs2:onD (fi δ) δ (fun k=>match k with
   | .int z=>(match ixN ds.length z with
    | some j=>if flatDs ds=true/\flatD d=true then Out.nxt (setS i ds j d δ) else .stuck
    | none=>.stuck)
   | _=>.stuck)≠.stuck:=hs
  show wpAny _ _ (assign (.Subscript (.Name x np) ix sp) X.env u) _ _ _;rw [ha];have hH1:=e1 a _ hH;refine wpAny_bind (wpAny_holding (wpAny_mono (fP' (X:=X.wish fun _ _=>False) hN hv hd hcd pins s1 σ H1 (fun v' H'=>v'=.ref a/\H'=H1) (I1.wish _) ⟨.ref a,hσ,rfl,rfl⟩) (fun ov s2 q2=>?_) fun _ _ z=>z.elim));obtain ⟨v',H',I2,r2,rfl,rfl⟩:=q2;have I2':=I2.unwish;have R1:=R.mono e1;refine wpAny_bind (wpAny_holding (hi.use I2' R1 (fq' hs2) (fun k u3 s3 w3 H3 q3 I3 r3 e3 b3 p3=>?_) fun e s1 q=>?_))
  ·rw [q3] at hs2 ⊢
   cases k with
   | int z =>
    have hs3:(match ixN ds.length z with
     | some j=>if flatDs ds=true/\flatD d=true then Out.nxt (setS i ds j d δ) else .stuck
     | none=>.stuck)≠.stuck:=hs2
    cases hj:ixN ds.length z with
    | none=>rw [hj] at hs3; exact (hs3 rfl).elim
    | some j =>
     rw [hj] at hs3;have hc:flatDs ds=true/\flatD d=true:=by
      by_cases c:flatDs ds=true/\flatD d=true
      ·exact c
      ·dsimp only at hs3; rw [if_neg c] at hs3; exact (hs3 rfl).elim
     have hH3:=e3 a _ hH1;rw [repI p3] at r3;refine wpAny_bind (wpAny_standAt (wpAny_bind (wpAny_holding (wpAny_mono (set_list (X:=X.wish fun _ _=>False) pins s3 σ H3 (.ref a) (.int z) w ov u3 u (fun H4=>H4=upd H3 a (.lst (xs.set j w))) (I3.wish _) r2 r3 r1 ⟨a,xs,z,j,rfl,rfl,hH3,by rw [r.length]; exact hj,rfl⟩) (fun _ s4 q4=>?_) fun _ _ z=>z.elim))));obtain ⟨H4,I4,rfl⟩:=q4;refine wpAny_release ?_;have e13:=e1.trans e3;have ev:(onD (Res.ok d) δ fun d=>onD (Res.ok (D.int z)) δ fun k=>match k with
      | .int z=>(match ixN ds.length z with
       | some j=>if flatDs ds=true/\flatD d=true then Out.nxt (setS i ds j d δ) else .stuck
       | none=>.stuck)
      | _=>.stuck)=Out.nxt (setS i ds j d δ):=by
      show (match ixN ds.length z with
       | some j=>if flatDs ds=true/\flatD d=true then Out.nxt (setS i ds j d δ) else .stuck
       | none=>.stuck)=_
      rw [hj]; dsimp only; rw [if_pos hc]
     rw [ev];refine ⟨_,σ,_,rfl,I4.unwish,⟨fun b ys h=>?_,fun b o u h=>?_,fun b h=>?_⟩,(R.mono e13).put hδ hσ hH3 (r.mono e13) hG hc.1 hc.2 (p1.mono e3)⟩
     ·have hb:b≠a:=fun z=>by subst z; rw [hH] at h; cases h
      rw [al' hb]; exact e13 b _ h
     ·have hb:b≠a:=fun z=>by subst z; rw [hH] at h; cases h
      rw [al' hb]; exact e13 b _ h
     ·by_cases hb:b=a
      ·subst hb; rw [an'] at h; cases h
      ·rw [al' hb] at h; exact e13.free h
   | _=>exact (hs2 rfl).elim
  ·obtain ⟨y,_,_,_,q1,_⟩:=q;exact (hne δ y q1).elim
 ·exact (hs rfl).elim
end
noncomputable def noX (f:DS->Res D):DS->Res D:=fun δ=>match f δ with
 | .err _=>.stuck
 | r=>r
theorem is' (f:DS->Res D):∀δ,NoErr (noX f δ):=fun δ x h=>by
 unfold noX at h
 split at h
 ·cases h
 ·rename_i hn; exact hn x h
theorem kr' {f:DS->Res D} {δ:DS} {d:D} (h:f δ=.ok d):noX f δ=.ok d:=by unfold noX; rw [h]
theorem it' {X:Cx} {e:Expr} {f:DS->Res D} (h:PD X e f):PD X e (noX f):=by
 intro pins s σ G H δ I R hs;have h1:noX f δ=f δ:=by
  unfold noX at hs ⊢
  split
  ·rename_i x hx; rw [hx] at hs; exact (hs rfl).elim
  ·rfl
 rw [h1] at hs ⊢;exact h pins s σ G H δ I R hs
section
variable {X:Cx}
end
noncomputable def catG:D->D->Res D
 | .lst xs,.lst ys=>if xs.length + ys.length<=sizeLine then .ok (.lst (xs ++ ys)) else .stuck
 | _,_=>.stuck
theorem jf' {a b d:D} (h:catG a b=.ok d):∃xs ys,a=.lst xs/\b=.lst ys/\xs.length + ys.length<=sizeLine/\d=.lst (xs ++ ys):=by
 cases a <;> cases b <;> first | (simp [catG] at h; done) | skip
 rename_i xs ys;simp only [catG] at h
 split at h
 ·rename_i c; cases h; exact ⟨xs,ys,rfl,rfl,c,rfl⟩
 ·cases h
theorem jg' (a b:D):NoErr (catG a b):=by cases a <;> cases b <;> first | exact af' | exact ay' ak' af'
section
variable {X:Cx} {a b:Expr} {fa fb:DS->Res D} {x:Str} {pos pos' bp:Pos}
theorem fC' (i:Nat) (ha:PD X a fa) (hb:PD X b fb) (hN:X.N.Nodup) (hi:X.N[i]? = some x:=by rfl) (hx:Loc X.env.scope x:=by first | exact Or.inl rfl | exact Or.inr rfl) (hw:swapsWith (.BinOp a .Add b bp) (some (.Name x pos')) pos.line X.env=pure false:=by rfl)
  (hf:X.fn x=true\/X.env.scope.names.lookup x=some .local:=by first | exact .inl rfl | exact .inr rfl | assumption):PSD X (.Assign [.Name x pos'] (.BinOp a .Add b bp) pos) (ownC i (two fa fb catG)):=by
 intro pins s σ G H δ I R hs;have hs':two fa fb catG δ≠.stuck:=fun z=>hs (by unfold ownC; rw [z]);refine wpAny_Assign_Name (wpAny_BinOp (en' ha hb I R hs' (fun y z v u s2 vx vy H2 q I2 r1 r2 e2 p1 p2=>?_) fun e s1 q=>q.sx R fun x z=>by unfold ownC; rw [z])) hw
 cases qg:catG y z with
 | stuck=>exact (hs' (q.trans qg)).elim
 | err w=>exact (jg' _ _ w qg).elim
 | ok d =>
  obtain ⟨xs,ys,rfl,rfl,hz,rfl⟩:=jf' qg;obtain ⟨p,us,rfl,s1,t1⟩:=repL p1;obtain ⟨p',ws,rfl,s2',t2⟩:=repL p2;refine wpAny_mono (eP' (X:=X) (fun _ _=>False) pins s2 σ H2 (.ref p) (.ref p') v u (fun z H4=>∃c,H2 c=none/\z=.ref c/\H4=upd H2 c (.lst (us ++ ws))) (I2.wish _) r1 r2 ⟨p,p',us,ws,rfl,rfl,s1,s2',by rw [t1.length,t2.length]; exact hz,fun c hc=>⟨c,hc,rfl,rfl⟩⟩) (fun w s3 q3=>?_) fun _ _ z=>z.elim;obtain ⟨z,H3,I3,r3,c,hc,rfl,rfl⟩:=q3;have sm:=au' hc (.lst (us ++ ws));have ev:ownC i (two fa fb catG) δ=.nxt (δ.set i (some (.own (xs ++ ys)))):=by unfold ownC; rw [q.trans qg]
  exact cu' I3.unwish hN hi hx (v:=.ref c) r3 (fun s4 I4=>⟨_,_,_,ev,I4,(e2.trans sm).tk,(R.mono e2).setOwn sm i hc an' ((t1.append t2).mono sm)⟩) hf
end
section
variable {X:Cx} {e:Expr} {fe:DS->Res D} {lo hi:Option Expr} {st:Expr} {fl fu fs:DS->Res (Option Int)} {pos p2:Pos}
end
section
variable {X:Cx} {tg:Expr}
end
section
variable {X:Cx} {tg:Expr} {t:TGD} {body:List Stmt} {fb:DS->Out} {pos:Pos} {G H:Hp} {E:Ends}
end
noncomputable def INew (X:Cx) (pins:List (Addr×Obj)) (σ:St) (H:Hp) (tg:Expr) (r:Res (List D)) (itv:Value) (s2:Shared):Prop :=
 ∃(ds:List D) (it:Addr) (fp:List Addr) (tn:Nat->Heap->Prop) (J:It) (H':Hp) (a:Addr) (ob:Obj) (u:HO),r=.ok ds/\itv=.ref it/\Inv X pins σ H' s2/\Turn X.prog X.w X.K tg J fp it tn/\tn 0 s2.heap/\(∀b∈fp,FpOk X pins H' b)/\Same H H'/\H' a=some (.frz ob u) /\
  ∀G:Hp,G a=some (.frz ob u)->Yields X.K J G ds
noncomputable def PIN (X:Cx) (tg iter:Expr) (f:DS->Res (List D)):Prop :=
 ∀(pins:List (Addr×Obj)) (s:Shared) (σ:St) (G H:Hp) (δ:DS),Inv X pins σ H s->RepSt X.K G H σ δ->f δ≠.stuck ->
  wpAny (model X.prog X.w) X.A (eval iter X.env) (fun v s1=>wpAny (model X.prog X.w) X.A (pyIter v) (INew X pins σ H tg (f δ)) (XPost X pins σ H s.heap (f δ)) s1) (XPost X pins σ H s.heap (f δ)) s
section
variable {X:Cx} {e:Expr} {fe:DS->Res D} {lo hi:Option Expr} {st:Expr} {fl fu fs:DS->Res (Option Int)} {pos p2:Pos}
end
theorem PIN.pi {X:Cx} {tg iter:Expr} {f:DS->Res (List D)} (h:PIN X tg iter f):PI X.nox tg iter (fun σ H R=>∃G δ ds,RepSt X.K G H σ δ/\f δ=.ok ds/\∀J H' a ob u,Same H H'->H' a=some (.frz ob u)->(∀G:Hp,G a=some (.frz ob u)->Yields X.K J G ds)->R J H'):=by
 intro pins s σ H R I ⟨G,δ,ds,RR,q,n⟩;refine wpAny_mono (h pins s σ G H δ I.unwish RR (by rw [q]; intro z; cases z)) (fun v s1 p=>?_) fun e s1 p=>?_
 ·refine wpAny_mono p (fun itv s2 ⟨ds',it,fp,tn,J,H',a,ob,u,q1,q2,I2,T,t0,hf,e2,w2,y⟩=>?_) fun e s2 p=>?_
  ·rw [q] at q1; cases q1;exact ⟨it,fp,tn,J,H',q2,I2.wish _,T,t0,hf,n J H' a ob u e2 w2 y⟩
  ·rw [q] at p; exact p.none
 ·rw [q] at p; exact p.none
section
variable {X:Cx} {tg iter:Expr} {body:List Stmt} {t:TGD} {fb:DS->Out} {pos:Pos}
end
section
variable {X:Cx} {e:Expr} {es:List Expr} {fs:DS->Res (List D)} {F:List D->Res D} {k:Nat} {f:Addr} {fd:FuncData} {ps:List Str} {x:Str} {p pos:Pos}
end
noncomputable def Okf (P:Program) (w:World) (K:PySem.W.Frag) (mg:Str->Option Value) (base:Heap) (k:Nat) (x:Str) (F:List D->Res D):Prop :=
 ∃(f:Addr) (fd:FuncData) (ps:List Str),FnOk P w K mg base (CX1 P w) k f fd ps (spD K F)/\mg x=some (.ref f)/\PySem.W.keepIn K (.ref f)=true/\Binds K fd ps []
noncomputable def Ent (K:PySem.W.Frag) (mg:Str->Option Value) (x:Str) (st:Stmt) (ps:List Str):Prop :=
 ∃(f:Addr) (fd:FuncData),mg x=some (.ref f)/\Fun K x x st f fd/\Binds K fd ps []
noncomputable def Lk (K:PySem.W.Frag) (x:Str) (st:Stmt):Prop :=
 ∃(f:Addr) (fd:FuncData),PySem.W.nsIn K mainGlobals x=some (some (.ref f))/\Fun K x x st f fd
section
variable {K:PySem.W.Frag} {x:Str} {st:Stmt}
theorem lk_mk {f:Addr} {oc:Value} {od an:Option Addr} {osl:Array (Option Value)} {kV doc pm cdv ct:Value} (n:PySem.W.nsIn K mainGlobals x=some (some (.ref f))) (l:K.lookup f=some ⟨oc,od,.func (PySem.W.fnOf x x (defArgs st) (defBody st) (defScope st) .none kV doc pm an cdv ct),osl⟩)
  (c:PySem.W.codeIn K cdv x=true) (k:PySem.W.keepIn K (.ref f)=true):Lk K x st:=⟨f,_,n,fZ' l c k⟩
variable {h:Heap} {mg:Str->Option Value}
theorem ent1 (X:K.In h) (G:h.Ns mainGlobals mg) (L:Lk K x st) {p:Str} (hb:∀(kV doc pm:Value) (an:Option Addr) (cdv ct a:Value),bindArgs (PySem.W.fnOf x x (defArgs st) (defBody st) (defScope st) .none kV doc pm an cdv ct) ⟨[a],[]⟩=pure [(p,a)]:=by intros; rfl):Ent K mg x st [p]:=by
 obtain ⟨f,fd,n,F⟩:=L;exact ⟨f,fd,PySem.W.mg_of X G n,F,F.binds fun _ _ _ _ _ _ us hl=>match us,hl with | [_],_=>hb _ _ _ _ _ _ _⟩
theorem ent2 (X:K.In h) (G:h.Ns mainGlobals mg) (L:Lk K x st) {p q:Str} (hb:∀(kV doc pm:Value) (an:Option Addr) (cdv ct a b:Value),bindArgs (PySem.W.fnOf x x (defArgs st) (defBody st) (defScope st) .none kV doc pm an cdv ct) ⟨[a,b],[]⟩=pure [(p,a),(q,b)]:=by intros; rfl):Ent K mg x st [p,q]:=by
 obtain ⟨f,fd,n,F⟩:=L;exact ⟨f,fd,PySem.W.mg_of X G n,F,F.binds fun _ _ _ _ _ _ us hl=>match us,hl with | [_,_],_=>hb _ _ _ _ _ _ _ _⟩
theorem ent3 (X:K.In h) (G:h.Ns mainGlobals mg) (L:Lk K x st) {p q r:Str} (hb:∀(kV doc pm:Value) (an:Option Addr) (cdv ct a b c:Value),bindArgs (PySem.W.fnOf x x (defArgs st) (defBody st) (defScope st) .none kV doc pm an cdv ct) ⟨[a,b,c],[]⟩=pure [(p,a),(q,b),(r,c)]:=by intros; rfl):Ent K mg x st [p,q,r]:=by
 obtain ⟨f,fd,n,F⟩:=L;exact ⟨f,fd,PySem.W.mg_of X G n,F,F.binds fun _ _ _ _ _ _ us hl=>match us,hl with | [_,_,_],_=>hb _ _ _ _ _ _ _ _ _⟩
variable (P:Program) (w:World) (base:Heap)
theorem okf0 {P:Program} {w:World} {base:Heap} {ps:List Str} (F:Ent K mg x st ps) (k:Nat):Okf P w K mg base k x fun _=>.stuck:=by
 obtain ⟨f,fd,m,F,B⟩:=F;exact ⟨f,fd,ps,⟨fun _ _ _ _ q=>by obtain ⟨_,_,z⟩:=q; exact z.elim,fun _ _ _ _ _ _ _ _ _ _ _ _ _ q=>by obtain ⟨_,_,z⟩:=q; exact z.elim⟩,m,F.kp,B⟩
theorem fnO {N ps:List Str} (k:Nat) (body:DS->Out) (F:Ent K mg x st ps) (S:FnScope N ps (defScope st))
  (hb:∀(f:Addr) (cdv:Value) (A:Around) (outer:List Env) (s:Shared) (H:Hp) (E:XK),Room k (A.deeper (envOfC x (defScope st) s.heap.objs.size f cdv))->PSDs (cxOf (CX1 P w) P w K mg base N x (defScope st) f cdv A outer s H E) (defBody st) body) :
  Okf P w K mg base (k + 1) x (fnD ps.length N.length body):=by
 obtain ⟨f,fd,m,F,B⟩:=F;exact ⟨f,fd,ps,km' F S (hb f),m,F.kp,B⟩
end
theorem cl {X:Cx} {j k:Nat} {F:List D->Res D} {x:Str} {p pos:Pos} {e:Expr} {es:List Expr} {fs:DS->Res (List D)} (Fn:Okf X.prog X.w X.K X.mg X.base j x F) (hr:Room k X.A) (ha:PAD X (e :: es) fs)
  (hj:j<=k:=by first | decide | omega) (hg:Gl X x:=by exact rfl) (hdb:(x == ("__debug__" : Str))=false:=by decide) (he:starEach (e :: es) X.env=(false,eval e X.env) :: starEach es X.env:=by rfl) (hpl:(backTo pos (starEach es X.env)).any (·.1)=false:=by rfl) :
  PD X (.Call (.Name x p) (e :: es) [] pos) (fun δ=>(fs δ).bind F):=by
 obtain ⟨f,fd,ps,a,b,c,d⟩:=Fn;exact iW' (a.mono hj) hr hg b c d ha hdb he hpl
section
variable {X:Cx}
end
mutual
noncomputable def flatN (n:Nat):D->Bool
 | .tup ds=>flatNs n ds
 | .lst ds=>(ds.length != n) && flatNs n ds
 | .excf _ _ _=>false
 | _=>true
noncomputable def flatNs (n:Nat):List D->Bool
 | []=>true
 | d :: ds=>flatN n d && flatNs n ds
end
mutual
theorem Rep.lsetN {K:PySem.W.Frag} {H:Hp} {a:Addr} {xs ys:List V} {n:Nat} (hH:H a=some (.lst xs)) (hn:xs.length=n):∀{d:D} {v:V},flatN n d=true->Rep K H d v->Rep K (upd H a (.lst ys)) d v
 | .non,v,_,h=>by rw [Rep] at h ⊢; exact h
 | .bl _,v,_,h=>by rw [Rep] at h ⊢; exact h
 | .int _,v,_,h=>by rw [Rep] at h ⊢; exact h
 | .str _,v,_,h=>by rw [Rep] at h ⊢; exact h
 | .lst ds,v,hf,h=>by
  obtain ⟨b,zs,rfl,hq,r⟩:=repL h;rw [flatN,Bool.and_eq_true,bne_iff_ne] at hf;refine mkL ?_ (Reps.lsetN hH hn hf.2 r);rcases hq with (hq | ⟨o,hq⟩) | hq
  ·refine .inl (.inl ?_);rw [al' (fun z=>by subst z; rw [hH] at hq; cases hq; exact hf.1 (r.length.symm.trans hn))]; exact hq
  ·exact .inl (.inr ⟨o,by rw [al' (fun z=>by subst z; rw [hH] at hq; cases hq)]; exact hq⟩)
  ·exact .inr hq
 | .tup ds,v,hf,h=>by
  obtain ⟨b,zs,rfl,hq,r⟩:=repT h;rw [flatN] at hf;refine mkT ?_ (Reps.lsetN hH hn hf r);rcases hq with (hq | ⟨o,hq⟩) | hq
  ·exact .inl (.inl (by rw [al' (fun z=>by subst z; rw [hH] at hq; cases hq)]; exact hq))
  ·exact .inl (.inr ⟨o,by rw [al' (fun z=>by subst z; rw [hH] at hq; cases hq)]; exact hq⟩)
  ·exact .inr hq
 | .exc n,v,_,h=>by
  rw [Rep] at h ⊢;obtain ⟨b,C,rfl,hC,hb⟩:=h;exact ⟨b,C,rfl,hC,by rw [al' (fun z=>by subst z; rw [hH] at hb; cases hb)]; exact hb⟩
 | .excf n f d,v,hf,h=>by rw [flatN] at hf; cases hf
 | .dct,v,_,h=>by
  rw [Rep] at h ⊢;obtain ⟨b,rfl,hb⟩:=h;exact ⟨b,rfl,by rw [al' (fun z=>by subst z; rw [hH] at hb; cases hb)]; exact hb⟩
theorem Reps.lsetN {K:PySem.W.Frag} {H:Hp} {a:Addr} {xs ys:List V} {n:Nat} (hH:H a=some (.lst xs)) (hn:xs.length=n):∀{ds:List D} {vs:List V},flatNs n ds=true->Reps K H ds vs->Reps K (upd H a (.lst ys)) ds vs
 | [],_,_,h=>by cases h.nil_of; exact Reps.nil
 | d :: ds,_,hf,h=>by
  rw [flatNs,Bool.and_eq_true] at hf;obtain ⟨v,vs,rfl,r,q⟩:=h.cons_of;exact Reps.cons (Rep.lsetN hH hn hf.1 r) (Reps.lsetN hH hn hf.2 q)
end
section
variable {X:Cx} {e:Expr} {es:List Expr} {fe:DS->Res D} {fs:DS->Res (List D)} {x:Str} {pos pos' lp np apos cpos:Pos}
end
end DL
namespace DL
open PySem PySem.Spec PyProof.Rows L2
section
variable {K:PySem.W.Frag} {prog:Program} {w:World} {A:Around} {s:Shared} {x D:Addr} {ox od:Obj} {name:Str} {v:Value}
theorem fD' {tk:Tok} {R:Result->Shared->Prop} (W:ExcCls K D) (ha:PySem.W.findIn K (.ref D) name=some none) (X:K.In s.heap) (I:PySem.W.InstAt s.heap x ox D (some od)) (hl:PySem.W.lookIn name od=some (some v)) (h:R (.ok (.ret v)) s) :
  codeAny (model prog w) A (.call (.builtin "BaseException.__getattribute__") ⟨[.ref x,.str name tk],[]⟩) R s:=by
 have hf:PySem.W.findObj K D (some od) name=some (.value v):=PySem.W.findObj_own W.hdct ha rfl hl;have hk:builtinKind "BaseException.__getattribute__" = some .slot:=by decide +kernel
 have hsplit:splitId "BaseException.__getattribute__" = some ("BaseException", "__getattribute__"):=by decide +kernel
 have L0:=I.type (M:=model prog w);have L1:=PySem.W.looks_find (M:=model prog w) X I hf;have L2:=PySem.W.looks_mroIn (M:=model prog w) X W.hB;have har:=F.args_bexc_ga (.ref x) (.str name tk);refine codeAny_call_builtin (by decide +kernel) F.entry_bexc_ga ?_;simp only [checkBuiltinCall,hk,hsplit];refine wpAny_bind ?_;unfold isInstance;refine wpAny_bind (L0.at (L2.at ?_));simp only [Bool.not_true,Bool.false_eq_true,if_false]
 repeat (first | with_reducible refine wpAny_pure ?_ | with_reducible refine wpAny_bind ?_ | wp_step)
 obtain ⟨hh,g,dr,t,os⟩:=s;refine wpAny_loadPart I.at_ (wpAny_pure ?_);rw [I.cls];refine wpAny_bind (L1.at ?_);exact wpAny_pure h
theorem hQ' {expr:Bool} {E:Value->Shared->Prop} {Q:Value->Shared->Prop} (W:ExcCls K D) (ha:PySem.W.findIn K (.ref D) name=some none) (X:K.In s.heap) (I:PySem.W.InstAt s.heap x ox D (some od)) (hl:PySem.W.lookIn name od=some (some v)) (hv:PySem.W.handedIn v=true) (h:Q v { s with toks:=s.toks + 1 }) :
  wpAny (model prog w) A (getAttr (.ref x) name expr) Q E s:=by
 obtain ⟨hh,g,d,t,os⟩:=s;have L0:=I.type (M:=model prog w);have L1:=PySem.W.looks_findIn (M:=model prog w) X W.hga;have Lk:=PySem.W.looks_findIn (M:=model prog w) X W.hgk;unfold getAttr getAttrBy;refine wpAny_bind (wpAny_mkText (wpAny_holding (wpAny_bind (L0.at (wpAny_bind (L1.at ?_))))));show wpAny _ _ (getAttrByItsOwn _ _ _ _ _ _) _ _ _;unfold getAttrByItsOwn hookBefore;refine wpAny_bind (Lk.at ?_);refine wpAny_bind (wpAny_attempt (wpAny_holding ?_));have e:callGetattribute (.ref x) (.str name t) (.builtin "BaseException.__getattribute__") expr=boundAndCalled (.builtin "BaseException.__getattribute__") (.ref x) (.str name t):=by
  unfold callGetattribute;rw [if_neg (by cases expr <;> decide)]
 show wpAny _ _ (callGetattribute (.ref x) (.str name t) (.builtin "BaseException.__getattribute__") expr) _ _ _;rw [e];unfold boundAndCalled;rw [PySem.F.attrBase_ValueError.ga.bind];refine wpAny_bind (wpAny_pure (wpAny_call (fD' (s:=⟨hh,g,d,t + 1,os⟩) W ha X I hl ?_)));show wpAny _ _ (handedOut v) _ _ _;rw [PySem.W.handedOut_of hv]; exact wpAny_pure h
end
noncomputable def attrG (isA:Str->Bool) (name:Str):D->Res D
 | .excf c f d=>if isA c=true/\f=name then .ok d else .stuck
 | _=>.stuck
theorem fE' {u:V} {v:Value} (r:RelV u v):PySem.W.handedIn v=true:=by
 cases u <;> first
  | (cases r; rfl)
  | (obtain ⟨t,rfl⟩:=r; rfl)
section
variable {X:Cx} {e:Expr} {f:DS->Res D} {name:Str} {pos:Pos} {isA:Str->Bool}
theorem gv' (hA:∀c,isA c=true->∀C,PySem.W.nsIn X.K mainGlobals c=some (some (.ref C))->ExcCls X.K C/\PySem.W.findIn X.K (.ref C) name=some none) (he:PD X e f) (hb:attributeBase e name X.env (eval e X.env)=eval e X.env:=by rfl) :
  PD X (.Attribute e name pos) (fun δ=>(f δ).bind (attrG isA name)):=by
 intro pins s σ G H δ I R hs
 try dsimp only at hs ⊢
 refine iN' hb (he.use I R (aA' hs) (fun d u s1 v H1 q I1 r1 e1 b1 p1=>?_) fun e s1 q=>q.same fun x z=>aL' z);have hd:=aP' hs q
 cases d with
 | excf c f' d' =>
  unfold attrG at hd;have hc:isA c=true/\f'=name:=by
   by_cases z:isA c=true/\f'=name
   ·exact z
   ·exact absurd (if_neg z) hd
  obtain ⟨hc1,rfl⟩:=hc;rw [Rep] at p1;obtain ⟨a,C,dx,w,rfl,hC,hH,hx,pw⟩:=p1
  cases r1
  obtain ⟨W,ha⟩:=hA c hc1 C hC;obtain ⟨mA,hn,hrel⟩:=I1.hok dx _ hx;obtain ⟨od,ho,hl⟩:=dA' hn;obtain ⟨o,vs,g,cc,dd,dt⟩:=(I1.hok a _ hH).1;have hr:=hrel f';have el:([(f',w)]:List (Str×V)).lookup f'=some w:=by simp
  rw [el] at hr
  cases hm:mA f' with
  | none=>rw [hm] at hr; exact hr.elim
  | some u' =>
   rw [hm] at hr;refine hQ' (od:=od) W ha I1.kIn ⟨g,cc,by unfold PySem.W.notCls; rw [dt],by rw [dd]; exact ho⟩ (by rw [hl,hm]) (fE' hr) ?_;refine ⟨d',w,H1,?_,I1.tok _,hr,e1,pw⟩;rw [q,Res.bind_ok];exact if_pos ⟨hc1,rfl⟩
 | _=>exact absurd rfl hd
end
section
variable {X:Cx} {m:Nat} {fr:List Nat} {N':List Str} {scope:Scope} {cl:List (Str×Addr)} {tg iter elt c:Expr} {pos:Pos} {t:TGD} {fc:DS->Res Bool} {fe:DS->Res D} {fi:DS->Res (List D)}
end
noncomputable def newExc (h:Heap) (C:Addr) (rest:List Value):Heap:=(h.push { cls:=.type "tuple",data:=.seq rest.toArray }).push { cls:=.ref C,data:=.fields #[.ref h.objs.size,.none,.none,.none,.bool false,.none] }
section
variable {prog:Program} {w:World} {A:Around} {R:Result->Shared->Prop} {h:Heap} {g:Array GenState} {d:Drawn} {t:Nat} {os:OsState}
variable {nm q:Str} {C N:Addr} {bs bm bmB:List Value} {hdct:Bool} {sn:List Str} {sub:List Value} {ab:Bool} {col:Option Bool} {dd:Option Addr} {k0 k1 k2 k3 k5:Option Value} {B newId initId:String}
theorem hR' (F:ExcBaseFacts B newId initId bmB) (T:OwnTail h bmB bm) {rest:List Value} {init:Value}
    (hC:h.get? C=some (excClassObj nm q C N bs bm hdct sn sub ab col dd k0 k1 k2 k3 k5 newId))
    (hi:PySem.W.Looks (model prog w) h (typeLookup (.ref C) "__init__") (some init)) (hb:∀self,PySem.W.Looks (model prog w) h (bindSpecial init self) (init,[self])) (hrest:rest.length<=sizeLine)
    (hq:codeAny (model prog w) (A.under (.builtin "type.__call__" ⟨.ref C :: rest,[]⟩)) (.call init ⟨.ref (h.objs.size + 1) :: rest,[]⟩) (PySem.W.InitBack (h.objs.size + 1) R) ⟨newExc h C rest,g,d,t,os⟩) :
    codeAny (model prog w) A (.call (.ref C) ⟨rest,[]⟩) R ⟨h,g,d,t,os⟩:=by
  have f1:=tc_lookup;have f2:=tc_bind (.ref C);have hT:(⟨h,g,d,t,os⟩:Shared).TypeIs (.ref C) "type":=⟨_,hC,rfl⟩;refine codeAny_of_tree ?_;show wpAny _ _ (callAny (.ref C) _) _ _ _
  repeat (any_goals (first | assumption | with_reducible refine wpAny_loadPart_at hC ?_ | wp_step))
  refine ⟨rfl,?_⟩;refine codeAny_call_builtin_at (Code.quiet_builtin _ (by decide +kernel)) entry_typeCall (wpAny_check_type_call_sub hC ?_)
  repeat (first | with_reducible refine wpAny_loadPart_at hC ?_ | with_reducible refine wpAny_madeBy_exc hC ?_ | wp_step)
  refine codeAny_call_builtin_code (Code.quiet_builtin _ F.quiet) (wpAny_check_new_subT F T hC ?_);refine codeAny_exc_new_subT F T hC ?_ hrest;show wpAny _ _ _ _ _ _;have hC₁:=Heap.get?_push_of_some { cls:=.ref C,data:=.fields #[.ref h.objs.size,.none,.none,.none,.bool false,.none] }
    (Heap.get?_push_of_some { cls:=.type "tuple",data:=.seq rest.toArray } hC)
  have hget:((h.push { cls:=.type "tuple",data:=.seq rest.toArray }).push
      { cls:=.ref C,data:=.fields #[.ref h.objs.size,.none,.none,.none,.bool false,.none] }).get? (h.objs.size + 1)=some
      { cls:=.ref C,data:=.fields #[.ref h.objs.size,.none,.none,.none,.bool false,.none] }:=by heap_get
  have hcC:(Value.ref C :: bm).contains (.ref C)=true:=by simp
  have k:∀b o,h.get? b=some o->(newExc h C rest).get? b=some o:=fun b o e=>Heap.get?_push_of_some _ (Heap.get?_push_of_some _ e);have i1:=hi.keeps k;have b1:=(hb (.ref (h.objs.size + 1))).keeps k;unfold newExc at i1 b1;unfold isInstance
  repeat (first | with_reducible refine wpAny_loadPart_at hget ?_ | wp_step)
  refine wpAny_isSubtype_exc hC₁ ?_;rw [hcC];rw [if_neg (by decide)];unfold callSpecial? specialOf
  repeat (first | with_reducible refine wpAny_loadPart_at hget ?_ | wp_step)
  refine i1.here ?_;refine wpAny_holding (wpAny_bind (b1.here ?_));refine wpAny_bind (wpAny_call (codeAny_mono hq fun r s' z=>?_));rcases r with e | (v | _ | _ | _) <;> first | exact z | exact z.elim | skip
  obtain ⟨rfl,z⟩:=z;exact wpAny_pure (wpAny_pure z)
end
abbrev excO (C:Addr) (dd:Option Addr) (t0:Addr):Obj:={ cls:=.ref C,dict:=dd,data:=.fields #[.ref t0,.none,.none,.none,.bool false,.none] }
noncomputable def excF (a C:Addr) (dd:Option Addr) (h:Heap):Prop:=∃t0,h.get? a=some (excO C dd t0)
theorem ey' {h:Heap} {bmB bm:List Value} (T:OwnTail h bmB bm) (self:Value) (what:Str):refuseLoop self what bm=refuseLoop self what bmB:=by
 induction T with
 | base=>rfl
 | own _ _ _ _ ih=>rw [refuseLoop_ref,ih]
section
open Builtin Builtin.ObjectAttr
variable {prog:Program} {w:World} {A:Around} {E:Value->Shared->Prop} {h:Heap} {g:Array GenState} {d:Drawn} {t:Nat} {os:OsState} {K:PySem.W.Frag}
variable {nm q:Str} {C N x:Addr} {bs bm bmB:List Value} {sn:List Str} {sub:List Value} {ab:Bool} {col:Option Bool} {dd:Option Addr} {k0 k1 k2 k3 k5:Option Value} {B newId initId:String} {name:Str} {v:Value} {t0:Addr}
theorem jh' {Q:Unit->Shared->Prop} (SF:StoreFacts B bmB "object.__setattr__" "object") (T:OwnTail h bmB bm) (hC:h.get? C=some (excClassObj nm q C N bs bm true sn sub ab col dd k0 k1 k2 k3 k5 newId)) (X:K.In h)
  (hs:PySem.W.findIn K (.ref C) "__setattr__" = some (some (.builtin "object.__setattr__"))) (ha:PySem.W.findIn K (.ref C) name=some none) (hx:h.get? x=some (excO C none t0))
  (hq:∀h' tk,h'.get? x=some (excO C (some h.objs.size) t0)->h'.Ns1 h.objs.size (fun y=>if y=name then some v else none)->(∀b o,b≠x->h.get? b=some o->h'.get? b=some o)->Q () ⟨h',g,d,tk,os⟩) :
  wpAny (model prog w) A (setAttr (.ref x) name v) Q E ⟨h,g,d,t,os⟩:=by
 have I:PySem.W.InstAt h x (excO C none t0) C none:=⟨hx,rfl,rfl,trivial⟩;refine PySem.W.set_plain (s:=⟨h,g,d,t,os⟩) X I hs ?_;have sub:PySem.W.Looks (model prog w) h (isInstance (.ref x) (.type "object")) true:=I.type.andThen (fun A Q E s k q=>by
  obtain ⟨h1,g1,d1,t1,o1⟩:=s;refine wpAny_isSubtype_exc (k _ _ hC) ?_;have hc:(Value.ref C :: bm).contains (.type "object")=true:=by rw [List.contains_cons,T.hasType SF.hasOwner,Bool.or_true]
  rw [hc]; exact q)
 refine codeAny_call_builtin SF.slot.plain SF.entry (@PySem.W.check_slot (model prog w) _ _ ⟨h,g,d,t + 1,os⟩ "object.__setattr__" "object" "__setattr__" (.ref x) [.str name t,v] [] _ SF.kind SF.split sub (SF.args (.ref x) (.str name t) v) ?_);have hpass:refuseLoop (.ref x) "__setattr__" (.ref C :: bm)=pure ():=by rw [refuseLoop_ref,ey' T,SF.passes]
 rw [PySem.W.osa_eq,refuse_eq];refine wpAny_bind (wpAny_bind (I.type.here (s:=⟨h,g,d,t + 1,os⟩) (wpAny_bind (wpAny_mroOf_exc hC ?_))));rw [hpass];refine wpAny_pure (wpAny_bind (I.type.here (s:=⟨h,g,d,t + 1,os⟩) (wpAny_bind ((PySem.W.looks_findIn X ha).here (s:=⟨h,g,d,t + 1,os⟩) (wpAny_bind ?_)))));refine wpAny_pure ?_;dsimp only;have hx₁:(h.push { cls:=.type "dict",data:=.dict #[] }).get? x=some (excO C none t0):=Heap.get?_push_of_some _ hx;have hxs:x≠h.objs.size:=Nat.ne_of_lt (Heap.lt_size hx);unfold storeInOwnDict;generalize hsd:storeInDict=sd
 repeat (first | with_reducible refine wpAny_loadPart_at hx ?_ | wp_step)
 subst hsd;have hgd:((h.push { cls:=.type "dict",data:=.dict #[] }).update x fun o=>{ cls:=o.cls,dict:=some h.objs.size,data:=o.data,slots:=o.slots }).get? h.objs.size
   = some { cls:=.type "dict",data:=.dict #[] } :=
  (Heap.get?_update_ne _ _ _ _ hxs.symm).trans (Heap.get?_push_at rfl rfl)
 have hnd:((h.push { cls:=.type "dict",data:=.dict #[] }).update x fun o=>{ cls:=o.cls,dict:=some h.objs.size,data:=o.data,slots:=o.slots }).Ns h.objs.size (fun _=>none) :=
  ⟨_,#[],_,hgd,rfl,fun e he=>absurd he (by simp),fun _=>rfl⟩
 show wpAny _ _ (storeInDict h.objs.size (.str name t) name v) _ _ _;unfold storeInDict newKeyGuard;refine wpAny_bind (wpAny_pure (wpAny_bind (wpAny_nsSet1 (Heap.Ns1.of_empty hnd) fun h' hn' hs=>?_)));obtain ⟨oD,esD,epD,hoD,hdD,hcD⟩:=hn'.count (Within.cons name v Within.nil);refine wpAny_bind (wpAny_lookBehind hoD (by rw [hdD]; exact pastItsLine_dict (Nat.le_trans hcD (by rw [List.length_cons,List.length_nil,sizeLine_eq]; omega))) ?_)
 wp_walk
 refine hq h' _ ?_ hn' fun b ob hbx hb=>?_
 ·exact (hs.2 x hxs).trans (Heap.get?_update_self _ hx₁ rfl)
 ·exact (hs.2 b (Nat.ne_of_lt (Heap.lt_size hb))).trans ((Heap.get?_update_ne _ _ _ _ hbx).trans (Heap.get?_push_of_some _ hb))
end
abbrev VM:List Value:=[.type "ValueError",.type "Exception",.type "BaseException",.type "object"]
section
variable {prog:Program} {w:World} {A:Around} {E:Value->Shared->Prop} {h:Heap} {g:Array GenState} {d:Drawn} {t:Nat} {os:OsState}
variable {nm q:Str} {C N x:Addr} {bs bm bmB:List Value} {hdct:Bool} {sn:List Str} {sub:List Value} {ab:Bool} {col:Option Bool} {dd:Option Addr} {k0 k1 k2 k3 k5:Option Value} {B newId initId:String} {t0:Addr}
theorem gw' {rest:List Value} {Q:Value->Shared->Prop} (F:ExcBaseFacts B newId initId bmB) (T:OwnTail h bmB bm) (hC:h.get? C=some (excClassObj nm q C N bs bm hdct sn sub ab col dd k0 k1 k2 k3 k5 newId)) (hx:h.get? x=some (excO C none t0))
  (hq:∀h' t1,h'.get? x=some (excO C none t1)->(∀b o,b≠x->h.get? b=some o->h'.get? b=some o)->Q .none ⟨h',g,d,t,os⟩) (hrest:rest.length<=sizeLine):wpAny (model prog w) A (call (.builtin initId) (.ref x :: rest)) Q E ⟨h,g,d,t,os⟩:=by
 refine wpAny_call (codeAny_call_builtin F.init.plain F.initEntry (wpAny_check_init_subT F T hC hx rfl ?_))
 wp_walk
 refine hq _ h.objs.size ?_ fun b o hb e=>?_
 ·rw [Heap.get?_update_self _ (Heap.get?_push_of_some _ hx) rfl];rfl
 ·rw [Heap.get?_update_other _ _ (Ne.symm hb)];exact Heap.get?_push_of_some _ e
end
noncomputable def XCls (K:PySem.W.Frag) (C:Addr):Prop:=∃(nm q:Str) (N:Addr) (bs bm:List Value) (sn:List Str) (sub:List Value) (ab:Bool) (col:Option Bool) (dd:Option Addr) (k0 k1 k2 k3 k5:Option Value),
 K.lookup C=some (excClassObj nm q C N bs bm true sn sub ab col dd k0 k1 k2 k3 k5 "ValueError.__new__")/\∀h,K.In h->OwnTail h VM bm
theorem ji' {K:PySem.W.Frag} {C Y N:Addr} {nm q:Str} {bs:List Value} {sn:List Str} {sub:List Value} {ab:Bool} {col:Option Bool} {dd:Option Addr} {k0 k1 k2 k3 k5:Option Value}
  (l:K.lookup C=some (excClassObj nm q C N bs (.ref Y :: VM) true sn sub ab col dd k0 k1 k2 k3 k5 "ValueError.__new__")) (x:PySem.W.excIn K Y VM "ValueError.__new__" = true):XCls K C:=by
 refine ⟨_,_,_,_,_,_,_,_,_,_,_,_,_,_,_,l,fun h X=>?_⟩;obtain ⟨tl,N,nm,qn,bs,hdct,sn,sub,ab,col,dd,k0,k1,k2,k3,k5,mN,hC,hN,hni,T⟩:=(gl' (mg:=fun _=>some (.ref Y)) (x:="") X rfl x).obj;exact .own hC hN hni .base
structure XI (K:PySem.W.Frag) (C Y f:Addr) (fld:Str):Prop where
 cls:XCls K C
 set:PySem.W.findIn K (.ref C) "__setattr__" = some (some (.builtin "object.__setattr__"))
 no:PySem.W.findIn K (.ref C) fld=some none
 init:PySem.W.findIn K (.ref C) "__init__" = some (some (.ref f))
 fn:PySem.W.typeIn K (.ref f)=some (.type "function")
 y1:PySem.W.specialIn K (.ref Y) "__getattribute__" = some (some (.builtin "type.__getattribute__"))
 y2:PySem.W.readsIn K Y (.type "type")=true
 y3:PySem.W.findCls K (.ref Y) (.type "type") "__init__" = some (.val (.builtin "ValueError.__init__"))
theorem ks' {H:Hp} {a:Addr} {o:HO} (h:H a=some o):upd H a o=H:=by
 funext b
 unfold upd
 split
 ·rename_i e; rw [e,h]
 ·rfl
theorem dn' {P:Program} {w:World} {H:Hp} {h:Heap} {e C:Addr} {dd:Option Addr} (x:excF e C dd h):ObjOk P w H h e (.ext (excF e C dd)):=by
 obtain ⟨t0,x⟩:=x;exact ⟨⟨t0,x⟩,⟨_,x⟩,fun h1 h2 ⟨t1,y⟩ k=>⟨t1,k _ y⟩⟩
section
variable {X:Cx} {C Y f:Addr} {fld y:Str} {np apos pos pos':Pos} {a:Expr} {es:List Expr} {ta:TA}
theorem jj' {pl:Sem Bool} (Z:XI X.K C Y f fld) (hg:Gl X y) (hm:X.mg y=some (.ref Y)) (ha:PA X (a :: es) ta) (hz:(a :: es).length<=100) (hdb:(y == ("__debug__" : Str))=false:=by decide)
  (hst:starEach (a :: es) X.env=(false,eval a X.env) :: starEach es X.env:=by rfl) (hpl:(backTo pos (starEach es X.env)).any (·.1)=false:=by rfl)
  (ht:eval (.Call (.Attribute (.Name y np) "__init__" apos) (a :: es) [] pos) X.env=(do
   let ov <- eval (.Name y np) X.env
   standAt apos.atName
   let (f,first) <- holding [ov] (getMethod ov "__init__" pl)
   callWith pos f first (backTo pos (starEach (a :: es) X.env)) (backToKw pos (keywordEach [] X.env))):=by rfl) :
  PE X (.Call (.Attribute (.Name y np) "__init__" apos) (a :: es) [] pos) (fun σ H Q=>ta σ H fun vs H1=>∃e us,vs=.ref e :: us/\us.length<=100/\H1 e=some (.ext (excF e C none))/\Q .non H1):=by
 intro pins s σ H Q I h;refine PySem.W.methodCall_KW (pl:=pl) (ca' I hg hm ?_ hdb) ht;refine PySem.W.method_cls I.kIn Z.y1 (PySem.W.cls_value I.kIn Z.y2 Z.y3 rfl ?_);refine callWith_method1 (first:=[]) (thn (ha pos pins _ σ H _ (I.tok _) h) fun us s1 ⟨vs,H1,I1,r,e,us',ev,hl,he,hq⟩=>?_) hst hpl
 subst ev
 cases r with
 | cons r0 r =>
  rename_i u0 us hap;obtain rfl:u0=Value.ref e:=r0;obtain ⟨nm,q,N,bs,bm,sn,sub,ab,col,dd,k0,k1,k2,k3,k5,lk,T⟩:=Z.cls;obtain ⟨⟨t0,hx⟩,_,_⟩:=I1.hok e _ he;obtain ⟨hh,g,d,t,os⟩:=s1;refine gw' PySem.F.excBase_ValueError (T _ I1.kIn) (I1.kIn _ _ lk) hx (fun h' t1 x' k=>?_) (by rw [<- r.length]; exact Nat.le_trans hl (by decide));have J:=I1.write (x:=e) (e:=e) (o:=.ext (excF e C none)) (t':=t) (by rw [he]; trivial) (.inl rfl) (fun b u hb q=>k b u hb q) ⟨_,x'⟩ (dn' ⟨t1,x'⟩);rw [ks' he] at J;exact ⟨.non,H1,J,rfl,hq⟩
theorem jk' {o value:Expr} {to tv:TE} (Z:XI X.K C Y f fld) (ho:PE X o to) (hv:PE X value tv) (hs:swapsWith value (some (.Attribute o fld pos')) pos.line X.env=pure false:=by rfl) :
  PS X (.Assign [.Attribute o fld pos'] value pos) (fun D σ H=>tv σ H fun y H1=>to σ H1 fun x H2=>∃e,x=.ref e/\H2 e=some (.ext (excF e C none))/\∀dx,H2 dx=none->D.nx σ (upd (upd H2 e (.ext (excF e C (some dx)))) dx (.xd [(fld,y)]))):=by
 intro pins s σ H D I h;refine plainObj_wpAny_Assign_Attribute (thn (hv pins s σ H _ I h) fun u s1 ⟨y,H1,I1,ry,q⟩=>thn (ho pins s1 σ H1 _ I1 q) fun ov s2 ⟨x,H2,I2,rx,e,ex,he,q2⟩=>?_) hs;subst ex;obtain rfl:ov=Value.ref e:=rx;obtain ⟨nm,q,N,bs,bm,sn,sub,ab,col,dd,k0,k1,k2,k3,k5,lk,T⟩:=Z.cls;obtain ⟨⟨t0,hx⟩,_,_⟩:=I2.hok e _ he;obtain ⟨hh,g,d,t,os⟩:=s2;refine jh' PySem.F.store_ValueError (T _ I2.kIn) (I2.kIn _ _ lk) I2.kIn Z.set Z.no hx fun h' tk x' n' k=>?_;have hn:=I2.hok.fresh (Nat.le_refl hh.objs.size);have J:=I2.write (x:=e) (e:=e) (o:=.ext (excF e C (some hh.objs.size))) (t':=tk) (by rw [he]; trivial) (.inl rfl) (fun b u hb q=>k b u hb q) ⟨_,x'⟩ (dn' ⟨t0,x'⟩);have ne:hh.objs.size≠e:=fun z=>by subst z; rw [he] at hn; cases hn
 obtain ⟨f1,f2,f3,f4,f5,f6⟩:=I2.fpOk (H':=H2) (Nat.le_refl hh.objs.size) hn;refine ⟨σ,_,J.track (a:=hh.objs.size) (o:=.xd [(fld,y)]) (by rw [al' ne]; exact hn) (fun ob z _=>?_) f2 f5 f6 ?_,q2 _ hn⟩
 ·exact absurd (Nat.lt_of_lt_of_le (Heap.lt_size z) I2.sz) (Nat.lt_irrefl _)
 ·refine ⟨_,n',fun g=>?_⟩
  by_cases z:g=fld
  ·subst z; simp only [List.lookup_cons,beq_self_eq_true,if_pos]; exact ry
  ·have:(g == fld)=false:=by simpa using z
   simp only [List.lookup_cons,this,List.lookup_nil,if_neg z]; trivial
end
noncomputable def spI (C:Addr) (fld:Str) (okv:V->Prop):Sp:=fun vs H Q _=>∃e v,vs=[.ref e,v]/\okv v/\H e=some (.ext (excF e C none))/\∀dx,H dx=none->Q .non (upd (upd H e (.ext (excF e C (some dx)))) dx (.xd [(fld,v)]))
noncomputable def tIni (C:Addr) (fld:Str) (tx:TE):TS:=tSeq (tDrop (fun σ H Q=>tCons (tVar 0) (tCons tx tNil) σ H fun vs H1=>∃e us,vs=.ref e :: us/\us.length<=100/\H1 e=some (.ext (excF e C none))/\Q .non H1))
 (fun D σ H=>tVar 1 σ H fun y H1=>tVar 0 σ H1 fun x H2=>∃e,x=.ref e/\H2 e=some (.ext (excF e C none))/\∀dx,H2 dx=none->D.nx σ (upd (upd H2 e (.ext (excF e C (some dx)))) dx (.xd [(fld,y)])))
theorem jl' {P:Program} {w:World} {K:PySem.W.Frag} {mg:Str->Option Value} {base:Heap} {qual fld:Str} {st:Stmt} {f C:Addr} {fd:FuncData} {k:Nat} {tx:TE} {okv:V->Prop} (F:Fun K "__init__" qual st f fd) (S:FnScope ["self",fld] ["self",fld] (defScope st))
  (htx:∀e v H Q,okv v->(∀x,Q x H)->tx [some (.ref e),some v] H Q)
  (hb:∀(cdv:Value) (A:Around) (outer:List Env) (s:Shared) (H:Hp) (E:XK),PSs (cxOf (CX1 P w) P w K mg base ["self",fld] qual (defScope st) f cdv A outer s H E) (defBody st) (tIni C fld tx)) :
  FnOk P w K mg base (CX1 P w) (k + 1) f fd ["self",fld] (spI C fld okv):=by
 obtain ⟨oc,od,kV,doc,pm,an,cdv,ct,osl,rfl,lk,hcd⟩:=F.ex;refine iO' lk hcd S (fun vs H Q E ⟨e,v,h,_⟩=>by rw [h]; rfl) fun A outer s H vs Q E hr ⟨e,v,h,ov,he,hq⟩=>⟨_,hb cdv A outer s H E,?_⟩;subst h;refine ⟨.ref e,rfl,htx e v _ _ ov fun x=>⟨e,[x],rfl,by simp,he,?_⟩⟩;exact ⟨v,rfl,.ref e,rfl,e,rfl,he,hq⟩
section
variable {M:Model} {A:Around} {E:Value->Shared->Prop} {env:Env}
variable {nm q:Str} {C N:Addr} {bs bm:List Value} {hdct:Bool} {sn:List Str} {sub:List Value} {ab:Bool} {col:Option Bool} {dd:Option Addr} {k0 k1 k2 k3 k5:Option Value} {newId:String}
theorem fF' {s:Shared} {x:Sem Value} {Q:Flow->Shared->Prop} (hbase:bm.contains (.type "BaseException")=true) (hh:A.handled=none)
  (h:wpAny M A x (fun v s₁=>∃e d' t,v=.ref e/\s₁.heap.get? C=some (excClassObj nm q C N bs bm hdct sn sub ab col dd k0 k1 k2 k3 k5 newId) /\
   s₁.heap.get? e=some (excO C d' t)/\E (.ref e) s₁) E s) :
  wpAny M A (raiseStmt env (some x) none) Q E s:=by
 have hcB:(Value.ref C :: bm).contains (.type "BaseException")=true:=by rw [List.contains_cons,hbase,Bool.or_true]
 unfold raiseStmt;refine wpAny_bind (wpAny_mono h (fun v s₁ h₁=>?_) fun _ _ x=>x);obtain ⟨e,d',t,rfl,hC,he,hE⟩:=h₁;obtain ⟨hp,g,d,tk,os⟩:=s₁
 repeat (first | with_reducible refine wpAny_loadPart_at he ?_ | with_reducible refine wpAny_loadPart_at hC ?_ | (with_reducible refine wpAny_isSubtype_exc hC ?_; rw [hcB]) | wp_step)
 exact wpAny_raiseNew_none hh hE
end
theorem _root_.L2.Inv.untrack {X:Cx} {pins:List (Addr×Obj)} {σ:St} {H:Hp} {s:Shared} {a:Addr} {φ:Heap->Prop} (I:Inv X pins σ H s) (h:H a=some (.ext φ)):Inv X pins σ (fun b=>if b=a then none else H b) s:=by
 have ne:∀{b:Addr} {o:HO},H b=some o->(∀ψ,o≠.ext ψ)->(if b=a then none else H b)=some o:=fun {b o} e n=>by
  rw [if_neg fun z=>?_]
  ·exact e
  ·subst z; rw [h] at e; cases e; exact n _ rfl
 have non:∀{b:Addr},H b=none->(if b=a then none else H b)=none:=fun {b} e=>by split <;> first | rfl | exact e
 refine ⟨I.ok,I.os,I.bare,⟨I.base.keep,I.base.slot,fun b ob e n hx=>non (I.base.free b ob e n hx),I.base.there,fun b xs e=>ne (I.base.tups b xs e) (fun _ z=>nomatch z),fun b ob u e=>ne (I.base.frzs b ob u e) (fun _ z=>nomatch z),fun b ps e=>?_⟩,I.loc,I.cell,non I.free,fun x c e=>non (I.freeC x c e),fun p hp=>?_,fun b u q=>?_,I.len⟩
 ·obtain ⟨more,q⟩:=I.base.tbls b ps e;exact ⟨more,ne q (fun _ z=>nomatch z)⟩
 ·obtain ⟨e,n,r⟩:=I.pin p hp;exact ⟨e,non n,r⟩
 ·have q':H b=some u:=by
   by_cases z:b=a
   ·simp only [if_pos z] at q; cases q
   ·simp only [if_neg z] at q; exact q
  exact (I.hok b u q').stay (fun c v _ e=>e) (fun c z=>ne z (fun _ w=>nomatch w)) fun c xs z=>ne z (fun _ w=>nomatch w)
noncomputable def raiseF (x fld:Str) (fe:DS->Res D):DS->Out:=fun δ=>match fe δ with
 | .ok d=>.err ⟨x,some (fld,d)⟩ δ
 | .err y=>.err y δ
 | .stuck=>.stuck
section
variable {X:Cx} {e:Expr} {fe:DS->Res D} {np cpos pos:Pos} {x fld:Str} {C Y f:Addr} {fd:FuncData} {k:Nat} {okv:V->Prop}
theorem fG' (hc:X.calm=true) (Z:XI X.K C Y f fld) (Fn:FnOk X.prog X.w X.K X.mg X.base (CX1 X.prog X.w) k f fd ["self",fld] (spI C fld okv)) (hb:Binds X.K fd ["self",fld] []) (hr:Room (k + 1) X.A)
  (hx:PySem.W.nsIn X.K mainGlobals x=some (some (.ref C))) (hg:Gl X x) (hm:X.mg x=some (.ref C)) (ha:PD X e fe) (hok:∀(δ:DS) (d:D) (H:Hp) (v:V),fe δ=.ok d->Rep X.K H d v->okv v)
  (hdb:(x == ("__debug__" : Str))=false:=by decide) (he:starEach [e] X.env=[(false,eval e X.env)]:=by rfl) :
  PSD X (.Raise (some (.Call (.Name x np) [e] [] cpos)) none pos) (raiseF x fld fe):=by
 intro pins s σ G H δ I R hs;have hs':fe δ≠.stuck:=fun z=>hs (by unfold raiseF; rw [z]);obtain ⟨nm,q,N,bs,bm,sn,sub,ab,col,dd,k0,k1,k2,k3,k5,lk,T⟩:=Z.cls;have T0:=T _ I.kIn;rw [arm_exec_Raise];have core:wpAny (model X.prog X.w) X.A (eval (.Call (.Name x np) [e] [] cpos) X.env) (fun v s₁=>∃e d' t,v=.ref e/\s₁.heap.get? C=some (excClassObj nm q C N bs bm true sn sub ab col dd k0 k1 k2 k3 k5 "ValueError.__new__") /\
   s₁.heap.get? e=some (excO C d' t)/\SX X pins G H s.heap (raiseF x fld fe δ) (.ref e) s₁) (SX X pins G H s.heap (raiseF x fld fe δ)) s:=by
  refine wpAny_Call_ofName (ca' I hg hm ?_ hdb);unfold callWith;rw [he];refine wpAny_bind (wpAny_holding (Calls.evalArgs_plain (Calls.spliced_cons (ha.use I R hs' (fun d v s1 u H1 q1 I1 r1 e1 b1 p1=>Calls.spliced_nil (wpAny_bind (wpAny_standAt ?_))) fun e s1 q=>q.sx R fun x z=>by unfold raiseF; rw [z]))));have T1:=T _ I1.kIn;obtain ⟨hh,g,dr,tk,os⟩:=s1;have hC:=I1.kIn _ _ lk;refine wpAny_bind (wpAny_keeperOf_exc hC ?_);simp only [List.append_nil,List.nil_append];have hne:=I1.hok.fresh (Nat.le_succ hh.objs.size);have kk:∀b o,hh.get? b=some o->(newExc hh C [v]).get? b=some o:=fun b o e=>Heap.get?_push_of_some _ (Heap.get?_push_of_some _ e);have ge:(newExc hh C [v]).get? (hh.objs.size + 1)=some (excO C none hh.objs.size):=by unfold newExc; heap_get
  have I2:=I1.laid (a:=hh.objs.size + 1) (o:=.ext (excF (hh.objs.size + 1) C none)) (h':=newExc hh C [v]) (t':=tk) kk (Nat.le_succ _) (dn' ⟨_,ge⟩);have r2:Vals [V.ref (hh.objs.size + 1),u] [Value.ref (hh.objs.size + 1),v]:=.cons rfl (.cons r1 .nil);refine wpAny_bind (wpAny_call (hR' PySem.F.excBase_ValueError T1 hC (PySem.W.looks_findIn I1.kIn Z.init) (fun self=>PySem.W.bind_fn I1.kIn self Z.fn) (by simp [sizeLine_eq]) (codeAny_mono (Fn.run _ X.stack _ _ ⟨[Value.ref (hh.objs.size + 1),v],[]⟩ [Value.ref (hh.objs.size + 1),v] _ (fun w H'=>w=.non/\∃dx,upd H1 (hh.objs.size + 1) (.ext (excF (hh.objs.size + 1) C none)) dx=none/\H'=upd (upd (upd H1 (hh.objs.size + 1) (.ext (excF (hh.objs.size + 1) C none))) (hh.objs.size + 1) (.ext (excF (hh.objs.size + 1) C (some dx)))) dx (.xd [(fld,u)])) (fun _ _ _=>False) (hr.make C [v] [])
   (I2.env0.make C [v] []) (hb _ [Value.ref (hh.objs.size + 1),v] I2.kIn rfl) r2 ⟨_,_,rfl,hok δ d H1 u q1 p1,an',fun dx hd=>⟨rfl,dx,hd,rfl⟩⟩) fun r s' hq'=>?_)))
  cases r with
  | error e =>
   obtain ⟨_,_,_,_,_,_,_,_,_,_,z⟩:=hq';exact z.elim
  | ok fl =>
   cases fl with
   | ret u' =>
    obtain ⟨vv,H',I3,rv,ev,dx,hd,eH⟩:=I2.after hq';subst ev;refine ⟨rv,?_⟩;have hdx:dx≠hh.objs.size + 1:=fun z=>by subst z; rw [an'] at hd; cases hd
    have hd1:H1 dx=none:=by rw [al' hdx] at hd; exact hd
    have hHe:H' (hh.objs.size + 1)=some (.ext (excF (hh.objs.size + 1) C (some dx))):=by rw [eH,al' (Ne.symm hdx),an']
    obtain ⟨⟨t0,hx3⟩,_,_⟩:=I3.hok _ _ hHe;have I4:=I3.untrack hHe;have eq:(fun b=>if b=hh.objs.size + 1 then none else H' b)=upd H1 dx (.xd [(fld,u)]):=by
     funext b
     by_cases z:b=hh.objs.size + 1
     ·rw [if_pos z,z,al' (Ne.symm hdx),hne]
     ·rw [if_neg z,eH]
      by_cases y:b=dx
      ·rw [y,an',an']
      ·rw [al' y,al' z,al' z,al' y]
    rw [eq] at I4;have sm:=au' hd1 (.xd [(fld,u)]);refine wpAny_bind (wpAny_holding (wpAny_point (wpAny_pure ⟨hh.objs.size + 1,some dx,t0,rfl,I3.kIn _ _ lk,hx3,?_⟩)));refine ⟨⟨x,some (fld,d)⟩,δ,_,C,σ,_,by unfold raiseF; rw [q1],rfl,I4,(e1.trans sm).tk,R.mono (e1.trans sm),hx,some dx,⟨dx,u,rfl,an',p1.mono sm⟩,?_⟩;refine ⟨b1 _ (e1.free hne) (fun o vs ho=>?_),by rw [al' (Ne.symm hdx)]; exact hne,_,_,_,hx3,⟨rfl,rfl⟩,rfl,rfl,.inl rfl⟩;exact absurd (Heap.lt_size ho) (by show ¬hh.objs.size + 1 < hh.objs.size; omega)
   | next=>exact False.elim hq'
   | brk=>exact False.elim hq'
   | cont=>exact False.elim hq'
 refine wpAny_bind (wpAny_standAt (fF' (T0.hasType PySem.F.excBase_ValueError.hasBase) (I.ok.hd hc) (wpAny_bind (wpAny_mono core (fun v s₃ h₃=>wpAny_bind (wpAny_standAt (wpAny_pure h₃))) fun _ _ x=>x))))
end
noncomputable def clsDef (s:Stmt) (j:Nat):Stmt:=match s with
 | .ClassDef _ _ _ body _ _ _ _ _ _ _=>body.getD j (.Pass ⟨0,0,0,0⟩)
 | _=>.Pass ⟨0,0,0,0⟩
noncomputable def Xk (K:PySem.W.Frag) (C Y:Addr) (qual:Str) (st:Stmt) (fld:Str):Prop:=∃(f:Addr) (fd:FuncData),Fun K "__init__" qual st f fd/\XI K C Y f fld
theorem xk_mk {K:PySem.W.Frag} {C Y N f:Addr} {nm q qual fld:Str} {st:Stmt} {bs:List Value} {sn:List Str} {sub:List Value} {ab:Bool} {col:Option Bool} {dd:Option Addr} {k0 k1 k2 k3 k5:Option Value} {oc:Value} {od an:Option Addr} {osl:Array (Option Value)} {kV doc pm cdv ct:Value}
  (i:PySem.W.findIn K (.ref C) "__init__" = some (some (.ref f))) (l:K.lookup f=some ⟨oc,od,.func (PySem.W.fnOf "__init__" qual (defArgs st) (defBody st) (defScope st) .none kV doc pm an cdv ct),osl⟩) (c:PySem.W.codeIn K cdv qual=true) (k:PySem.W.keepIn K (.ref f)=true)
  (lc:K.lookup C=some (excClassObj nm q C N bs (.ref Y :: VM) true sn sub ab col dd k0 k1 k2 k3 k5 "ValueError.__new__")) (x:PySem.W.excIn K Y VM "ValueError.__new__" = true)
  (set:PySem.W.findIn K (.ref C) "__setattr__" = some (some (.builtin "object.__setattr__"))) (no:PySem.W.findIn K (.ref C) fld=some none) (fn:PySem.W.typeIn K (.ref f)=some (.type "function"))
  (y1:PySem.W.specialIn K (.ref Y) "__getattribute__" = some (some (.builtin "type.__getattribute__"))) (y2:PySem.W.readsIn K Y (.type "type")=true) (y3:PySem.W.findCls K (.ref Y) (.type "type") "__init__" = some (.val (.builtin "ValueError.__init__"))) :
  Xk K C Y qual st fld:=⟨f,_,fZ' l c k,⟨ji' lc x,set,no,i,fn,y1,y2,y3⟩⟩
noncomputable def Oki (P:Program) (w:World) (K:PySem.W.Frag) (mg:Str->Option Value) (base:Heap) (C:Addr) (fld:Str) (okv:V->Prop):Prop :=
 ∃(Y f:Addr) (fd:FuncData),XI K C Y f fld/\FnOk P w K mg base (CX1 P w) 1 f fd ["self",fld] (spI C fld okv)/\Binds K fd ["self",fld] []
theorem kt' {P:Program} {w:World} {K:PySem.W.Frag} {mg:Str->Option Value} {base:Heap} {C Y:Addr} {qual fld:Str} {st:Stmt} {okv:V->Prop} {tx:TE} (L:Xk K C Y qual st fld) (S:FnScope ["self",fld] ["self",fld] (defScope st))
  (htx:∀e v H Q,okv v->(∀x,Q x H)->tx [some (.ref e),some v] H Q)
  (hb:∀(f:Addr) (cdv:Value) (A:Around) (outer:List Env) (s:Shared) (H:Hp) (E:XK),XI K C Y f fld->PSs (cxOf (CX1 P w) P w K mg base ["self",fld] qual (defScope st) f cdv A outer s H E) (defBody st) (tIni C fld tx))
  (hbd:∀(kV doc pm:Value) (an:Option Addr) (cdv ct a b:Value),bindArgs (PySem.W.fnOf "__init__" qual (defArgs st) (defBody st) (defScope st) .none kV doc pm an cdv ct) ⟨[a,b],[]⟩=pure [(("self" : Str),a),(fld,b)]:=by intros; rfl):Oki P w K mg base C fld okv:=by
 obtain ⟨f,fd,F,Z⟩:=L;exact ⟨Y,f,fd,Z,jl' F S htx fun cdv A outer s H E=>hb f cdv A outer s H E Z,F.binds fun _ _ _ _ _ _ us hl=>match us,hl with | [_,_],_=>hbd _ _ _ _ _ _ _ _⟩
theorem rz {X:Cx} {e:Expr} {fe:DS->Res D} {np cpos pos:Pos} {x fld:Str} {C:Addr} {k:Nat} {okv:V->Prop} (O:Oki X.prog X.w X.K X.mg X.base C fld okv) (hr:Room k X.A) (hc:X.calm=true) (hx:PySem.W.nsIn X.K mainGlobals x=some (some (.ref C))) (hg:Gl X x) (hm:X.mg x=some (.ref C)) (ha:PD X e fe)
  (hok:∀(δ:DS) (d:D) (H:Hp) (v:V),fe δ=.ok d->Rep X.K H d v->okv v) (hk:2<=k:=by first | decide | omega)
  (hdb:(x == ("__debug__" : Str))=false:=by decide) (he:starEach [e] X.env=[(false,eval e X.env)]:=by rfl) :
  PSD X (.Raise (some (.Call (.Name x np) [e] [] cpos)) none pos) (raiseF x fld fe):=by
 obtain ⟨Y,f,fd,Z,F,B⟩:=O;exact fG' hc Z F B (hr.mono hk) hx hg hm ha hok hdb he
theorem ent5 {K:PySem.W.Frag} {x:Str} {st:Stmt} {h:Heap} {mg:Str->Option Value} (X:K.In h) (G:h.Ns mainGlobals mg) (L:Lk K x st) {p q r t u:Str} (hb:∀(kV doc pm:Value) (an:Option Addr) (cdv ct a b c d e:Value),bindArgs (PySem.W.fnOf x x (defArgs st) (defBody st) (defScope st) .none kV doc pm an cdv ct) ⟨[a,b,c,d,e],[]⟩=pure [(p,a),(q,b),(r,c),(t,d),(u,e)]:=by intros; rfl):Ent K mg x st [p,q,r,t,u]:=by
 obtain ⟨f,fd,n,F⟩:=L;exact ⟨f,fd,PySem.W.mg_of X G n,F,F.binds fun _ _ _ _ _ _ us hl=>match us,hl with | [_,_,_,_,_],_=>hb _ _ _ _ _ _ _ _ _ _ _⟩
end DL
namespace Mine
noncomputable def cm (a b:Int):Int:=(Int.gcd a b:Nat)
theorem jm' {a b:Int} (ha:0<=a) (hb:0<=b):cm b (Int.fmod a b)=cm a b:=by
 unfold cm;rw [Int.fmod_eq_emod_of_nonneg a hb]
 congr 1
 obtain ⟨x,rfl⟩:=Int.eq_ofNat_of_zero_le ha;obtain ⟨y,rfl⟩:=Int.eq_ofNat_of_zero_le hb;rw [<- Int.natCast_emod];simp only [Int.gcd,Int.natAbs_natCast];rw [Nat.gcd_comm y (x % y),<- Nat.gcd_rec,Nat.gcd_comm]
theorem jn' {a:Int} (ha:0<=a):cm a 0=a:=by
 unfold cm; rw [Int.gcd_zero_right]; omega
theorem ku' (a b:Int):cm (a.natAbs:Int) (b.natAbs:Int)=cm a b:=by
 unfold cm; simp [Int.gcd]
end Mine
namespace DL
open PySem PySem.Spec PyProof.Rows L2
theorem ap_seq (a b:DS->Out) (δ:DS):seqD a b δ=(a δ).seq b:=Eq.trans rfl rfl
theorem bnd_ok {α β:Type} (a:α) (f:α->Res β):(Res.ok a).bind f=f a:=Eq.trans rfl rfl
theorem sq_nxt (δ:DS) (g:DS->Out):(Out.nxt δ).seq g=g δ:=Eq.trans rfl rfl
theorem sq_ret (d:D) (g:DS->Out):(Out.ret d).seq g=.ret d:=Eq.trans rfl rfl
theorem sq_err (x:Exn) (δ:DS) (g:DS->Out):(Out.err x δ).seq g=.err x δ:=Eq.trans rfl rfl
theorem ap_set (i:Nat) (f:DS->Res D) (δ:DS):setD i f δ=onD (f δ) δ fun d=>.nxt (δ.set i (some (.val d))):=Eq.trans rfl rfl
theorem on_ok (d:D) (δ:DS) (k:D->Out):onD (.ok d) δ k=k d:=Eq.trans rfl rfl
theorem on_err (x:Exn) (δ:DS) (k:D->Out):onD (.err x) δ k=.err x δ:=Eq.trans rfl rfl
theorem ont_ok (c:Bool) (δ:DS) (k:Bool->Out):onT (.ok c) δ k=k c:=Eq.trans rfl rfl
theorem onl_ok (ds:List D) (k:List D->Out):onL (.ok ds) k=k ds:=Eq.trans rfl rfl
theorem ap_if (t:DS->Res Bool) (a b:DS->Out) (δ:DS):ifS t a b δ=onT (t δ) δ fun k=>if k=true then a δ else b δ:=Eq.trans rfl rfl
theorem ap_two (fa fb:DS->Res D) (g:D->D->Res D) (δ:DS):two fa fb g δ=(fa δ).bind fun x=>(fb δ).bind fun y=>g x y:=Eq.trans rfl rfl
theorem ap_bF {α:Type} (f:DS->Res α) (g:α->Res D) (δ:DS):bindF f g δ=(f δ).bind g:=Eq.trans rfl rfl
theorem ap_bT (f:DS->Res D) (g:D->Res Bool) (δ:DS):bindT f g δ=(f δ).bind g:=Eq.trans rfl rfl
theorem ap_bL (f:DS->Res D) (g:D->Res (List D)) (δ:DS):bindL f g δ=(f δ).bind g:=Eq.trans rfl rfl
theorem ap_cons (f:DS->Res D) (fs:DS->Res (List D)) (δ:DS):consD f fs δ=(f δ).bind fun d=>(fs δ).bind fun ds=>.ok (d :: ds):=Eq.trans rfl rfl
theorem ap_tup (f:DS->Res (List D)) (δ:DS):tupF f δ=tupD (f δ):=Eq.trans rfl rfl
theorem ap_lst (f:DS->Res (List D)) (δ:DS):lstF f δ=lstD (f δ):=Eq.trans rfl rfl
theorem ap_ret (f:DS->Res D) (δ:DS):retD f δ=onD (f δ) δ Out.ret:=Eq.trans rfl rfl
theorem ap_expr (f:DS->Res D) (δ:DS):exprD f δ=onD (f δ) δ fun _=>.nxt δ:=Eq.trans rfl rfl
theorem ap_neg (f:DS->Res D) (δ:DS):negF f δ=(f δ).bind negG:=Eq.trans rfl rfl
theorem neg_ok (i:Int):negG (.int i)=.ok (.int (-i)):=Eq.trans rfl rfl
theorem ap_notT (f:DS->Res Bool) (δ:DS):notT f δ=(f δ).bind fun c=>.ok (!c):=Eq.trans rfl rfl
theorem ap_andT (f g:DS->Res Bool) (δ:DS):andT f g δ=(f δ).bind fun c=>if c=true then g δ else .ok false:=Eq.trans rfl rfl
theorem ap_orT (f g:DS->Res Bool) (δ:DS):orT f g δ=(f δ).bind fun c=>if c=true then .ok true else g δ:=Eq.trans rfl rfl
theorem ap_andV (f g:DS->Res D) (δ:DS):andV f g δ=(f δ).bind fun x=>(boolD x).bind fun c=>if c=true then g δ else .ok (.bl false):=Eq.trans rfl rfl
theorem ap_for (t:TGD) (fi:DS->Res (List D)) (b:DS->Out) (δ:DS):forS t fi b δ=onL (fi δ) fun ds=>thawO (forD t b ds (thaw δ)):=Eq.trans rfl rfl
theorem ap_slice (fe:DS->Res D) (fl fu:DS->Res (Option Int)) (δ:DS):sliceF fe fl fu δ=(fe δ).bind fun d=>(fl δ).bind fun l=>(fu δ).bind fun u=>cutD d l u:=Eq.trans rfl rfl
theorem ap_part (f:DS->Res D) (δ:DS):partF f δ=(f δ).bind partG:=Eq.trans rfl rfl
theorem ap_noPart (δ:DS):noPart δ=.ok none:=Eq.trans rfl rfl
theorem part_int (i:Int):partG (.int i)=.ok (some i):=Eq.trans rfl rfl
theorem out_ret (d:D):outD (.ret d)=.ok d:=Eq.trans rfl rfl
theorem out_err (x:Exn) (δ:DS):outD (.err x δ)=.err x:=Eq.trans rfl rfl
theorem cmp_ok (p:Int->Int->Bool) (i j:Int):cmpD p (.int i) (.int j)=.ok (.bl (p i j)):=Eq.trans rfl rfl
theorem add_ok (i j:Int):addD (.int i) (.int j)=.ok (.int (i + j)):=Eq.trans rfl rfl
theorem sub_ok (i j:Int):subD (.int i) (.int j)=.ok (.int (i - j)):=Eq.trans rfl rfl
theorem bool_ok (b:Bool):boolD (.bl b)=.ok b:=Eq.trans rfl rfl
theorem truth_bl (b:Bool):truthD (.bl b)=.ok b:=Eq.trans rfl rfl
theorem abs_ok (i:Int):absG [.int i]=.ok (.int (i.natAbs:Nat)):=by
 show Res.ok (D.int _)=_
 congr 2
 split <;> omega
theorem len_tup (ds:List D):lenG [.tup ds]=.ok (.int ds.length):=Eq.trans rfl rfl
theorem len_lst (ds:List D):lenG [.lst ds]=.ok (.int ds.length):=Eq.trans rfl rfl
theorem tuple_lst (ds:List D):tupleG [.lst ds]=.ok (.tup ds):=Eq.trans rfl rfl
theorem seq_tup (ds:List D):seqItems (.tup ds)=.ok ds:=Eq.trans rfl rfl
theorem seq_lst (ds:List D):seqItems (.lst ds)=.ok ds:=Eq.trans rfl rfl
theorem vw_val (d:D):SV.view (.val d)=d:=Eq.trans rfl rfl
theorem vw_arg (d:D):SV.view (.arg d)=d:=Eq.trans rfl rfl
theorem eqI (a b:Int):eqD (.int a) (.int b)=.ok (.bl (decide (a=b))):=Eq.trans rfl rfl
theorem neI (a b:Int):neD (.int a) (.int b)=.ok (.bl (!decide (a=b))):=Eq.trans rfl rfl
theorem modI {a b:Int} (h:b≠0):modD (.int a) (.int b)=.ok (.int (Int.fmod a b)):=by unfold modD; exact if_pos h
theorem mulI {a b:Int} (h:a.natAbs < 2 ^ 1000) (h2:b.natAbs < 2 ^ 1000):mulD (.int a) (.int b)=.ok (.int (a * b)):=by
 unfold mulD;have e:1000<=2 ^ 20:=by decide
 exact if_pos (.inl ⟨Nat.le_trans (intBits_le h) e,Nat.le_trans (intBits_le h2) e⟩)
theorem mulR {a b:Int} (h:b.natAbs < 2 ^ 64):mulD (.int a) (.int b)=.ok (.int (a * b)):=by
 unfold mulD;exact if_pos (.inr (.inr (intBits_le h)))
theorem mulE_i (a b:Int):mulE (.int a) (.int b)=mulD (.int a) (.int b):=Eq.trans rfl rfl
theorem kv' {y:Int} (h:y.natAbs < 2 ^ 8000):y.natAbs.log2 < 9000:=by
 by_cases c:y.natAbs=0
 ·rw [c]; decide
 ·have:=(Nat.log2_lt c).mpr h; omega
theorem fH' {a b:Int} (h:b≠0) (h2:b.natAbs < 2 ^ 8000):fdivD (.int a) (.int b)=.ok (.int (Int.fdiv a b)):=by
 unfold fdivD; exact if_pos ⟨h,PyProof.noPylong_of_log2 (kv' h2)⟩
theorem cN0:((0:Nat):Int)=0:=Eq.trans rfl rfl
theorem cN1:((1:Nat):Int)=1:=Eq.trans rfl rfl
theorem cN2:((2:Nat):Int)=2:=Eq.trans rfl rfl
theorem sl0 (sv:SV) (r:DS):slotD 0 (some sv :: r)=.ok sv.view:=Eq.trans rfl rfl
theorem st0 (y x:Option SV) (r:DS):List.set (y :: r) 0 x=x :: r:=Eq.trans rfl rfl
theorem sl1 (a0:Option SV) (sv:SV) (r:DS):slotD 1 (a0 :: some sv :: r)=.ok sv.view:=Eq.trans rfl rfl
theorem st1 (a0:Option SV) (y x:Option SV) (r:DS):List.set (a0 :: y :: r) 1 x=a0 :: x :: r:=Eq.trans rfl rfl
theorem sl2 (a0 a1:Option SV) (sv:SV) (r:DS):slotD 2 (a0 :: a1 :: some sv :: r)=.ok sv.view:=Eq.trans rfl rfl
theorem st2 (a0 a1:Option SV) (y x:Option SV) (r:DS):List.set (a0 :: a1 :: y :: r) 2 x=a0 :: a1 :: x :: r:=Eq.trans rfl rfl
theorem sl3 (a0 a1 a2:Option SV) (sv:SV) (r:DS):slotD 3 (a0 :: a1 :: a2 :: some sv :: r)=.ok sv.view:=Eq.trans rfl rfl
theorem st3 (a0 a1 a2:Option SV) (y x:Option SV) (r:DS):List.set (a0 :: a1 :: a2 :: y :: r) 3 x=a0 :: a1 :: a2 :: x :: r:=Eq.trans rfl rfl
theorem sl4 (a0 a1 a2 a3:Option SV) (sv:SV) (r:DS):slotD 4 (a0 :: a1 :: a2 :: a3 :: some sv :: r)=.ok sv.view:=Eq.trans rfl rfl
theorem st4 (a0 a1 a2 a3:Option SV) (y x:Option SV) (r:DS):List.set (a0 :: a1 :: a2 :: a3 :: y :: r) 4 x=a0 :: a1 :: a2 :: a3 :: x :: r:=Eq.trans rfl rfl
theorem sl5 (a0 a1 a2 a3 a4:Option SV) (sv:SV) (r:DS):slotD 5 (a0 :: a1 :: a2 :: a3 :: a4 :: some sv :: r)=.ok sv.view:=Eq.trans rfl rfl
theorem st5 (a0 a1 a2 a3 a4:Option SV) (y x:Option SV) (r:DS):List.set (a0 :: a1 :: a2 :: a3 :: a4 :: y :: r) 5 x=a0 :: a1 :: a2 :: a3 :: a4 :: x :: r:=Eq.trans rfl rfl
theorem sl6 (a0 a1 a2 a3 a4 a5:Option SV) (sv:SV) (r:DS):slotD 6 (a0 :: a1 :: a2 :: a3 :: a4 :: a5 :: some sv :: r)=.ok sv.view:=Eq.trans rfl rfl
theorem st6 (a0 a1 a2 a3 a4 a5:Option SV) (y x:Option SV) (r:DS):List.set (a0 :: a1 :: a2 :: a3 :: a4 :: a5 :: y :: r) 6 x=a0 :: a1 :: a2 :: a3 :: a4 :: a5 :: x :: r:=Eq.trans rfl rfl
theorem sl7 (a0 a1 a2 a3 a4 a5 a6:Option SV) (sv:SV) (r:DS):slotD 7 (a0 :: a1 :: a2 :: a3 :: a4 :: a5 :: a6 :: some sv :: r)=.ok sv.view:=Eq.trans rfl rfl
theorem st7 (a0 a1 a2 a3 a4 a5 a6:Option SV) (y x:Option SV) (r:DS):List.set (a0 :: a1 :: a2 :: a3 :: a4 :: a5 :: a6 :: y :: r) 7 x=a0 :: a1 :: a2 :: a3 :: a4 :: a5 :: a6 :: x :: r:=Eq.trans rfl rfl
theorem sl8 (a0 a1 a2 a3 a4 a5 a6 a7:Option SV) (sv:SV) (r:DS):slotD 8 (a0 :: a1 :: a2 :: a3 :: a4 :: a5 :: a6 :: a7 :: some sv :: r)=.ok sv.view:=Eq.trans rfl rfl
theorem st8 (a0 a1 a2 a3 a4 a5 a6 a7:Option SV) (y x:Option SV) (r:DS):List.set (a0 :: a1 :: a2 :: a3 :: a4 :: a5 :: a6 :: a7 :: y :: r) 8 x=a0 :: a1 :: a2 :: a3 :: a4 :: a5 :: a6 :: a7 :: x :: r:=Eq.trans rfl rfl
theorem sl9 (a0 a1 a2 a3 a4 a5 a6 a7 a8:Option SV) (sv:SV) (r:DS):slotD 9 (a0 :: a1 :: a2 :: a3 :: a4 :: a5 :: a6 :: a7 :: a8 :: some sv :: r)=.ok sv.view:=Eq.trans rfl rfl
theorem st9 (a0 a1 a2 a3 a4 a5 a6 a7 a8:Option SV) (y x:Option SV) (r:DS):List.set (a0 :: a1 :: a2 :: a3 :: a4 :: a5 :: a6 :: a7 :: a8 :: y :: r) 9 x=a0 :: a1 :: a2 :: a3 :: a4 :: a5 :: a6 :: a7 :: a8 :: x :: r:=Eq.trans rfl rfl
theorem sl10 (a0 a1 a2 a3 a4 a5 a6 a7 a8 a9:Option SV) (sv:SV) (r:DS):slotD 10 (a0 :: a1 :: a2 :: a3 :: a4 :: a5 :: a6 :: a7 :: a8 :: a9 :: some sv :: r)=.ok sv.view:=Eq.trans rfl rfl
theorem st10 (a0 a1 a2 a3 a4 a5 a6 a7 a8 a9:Option SV) (y x:Option SV) (r:DS):List.set (a0 :: a1 :: a2 :: a3 :: a4 :: a5 :: a6 :: a7 :: a8 :: a9 :: y :: r) 10 x=a0 :: a1 :: a2 :: a3 :: a4 :: a5 :: a6 :: a7 :: a8 :: a9 :: x :: r:=Eq.trans rfl rfl
theorem tup1 (x0:D):tupD (.ok [x0])=.ok (.tup [x0]):=Eq.trans rfl rfl
theorem tup2 (x0 x1:D):tupD (.ok [x0,x1])=.ok (.tup [x0,x1]):=Eq.trans rfl rfl
theorem lst2 (x0 x1:D):lstD (.ok [x0,x1])=.ok (.lst [x0,x1]):=Eq.trans rfl rfl
theorem tup3 (x0 x1 x2:D):tupD (.ok [x0,x1,x2])=.ok (.tup [x0,x1,x2]):=Eq.trans rfl rfl
theorem tup4 (x0 x1 x2 x3:D):tupD (.ok [x0,x1,x2,x3])=.ok (.tup [x0,x1,x2,x3]):=Eq.trans rfl rfl
theorem lst4 (x0 x1 x2 x3:D):lstD (.ok [x0,x1,x2,x3])=.ok (.lst [x0,x1,x2,x3]):=Eq.trans rfl rfl
theorem lst5 (x0 x1 x2 x3 x4:D):lstD (.ok [x0,x1,x2,x3,x4])=.ok (.lst [x0,x1,x2,x3,x4]):=Eq.trans rfl rfl
theorem lst6 (x0 x1 x2 x3 x4 x5:D):lstD (.ok [x0,x1,x2,x3,x4,x5])=.ok (.lst [x0,x1,x2,x3,x4,x5]):=Eq.trans rfl rfl
theorem ix_tup (ds:List D) (k:Nat) (d:D) (h:ds[k]? = some d):ixD (.tup ds) (.int (k:Int))=.ok d:=by
 have hk:k < ds.length:=by
  rcases Nat.lt_or_ge k ds.length with z | z
  ·exact z
  ·rw [List.getElem?_eq_none z] at h; cases h
 have e:atI ds (k:Int)=some d:=by
  unfold atI ixN;rw [if_pos (Int.natCast_nonneg k),if_pos (by omega)];simpa using h
 show (match atI ds (k:Int) with | some d=>Res.ok d | none=>.stuck)=_
 rw [e]
theorem ix_tup0 (x0:D) (r:List D):ixD (.tup (x0 :: r)) (.int 0)=.ok x0:=ix_tup _ 0 _ rfl
theorem ix_tup1 (x0 x1:D) (r:List D):ixD (.tup (x0 :: x1 :: r)) (.int 1)=.ok x1:=ix_tup _ 1 _ rfl
theorem ix_tup2 (x0 x1 x2:D) (r:List D):ixD (.tup (x0 :: x1 :: x2 :: r)) (.int 2)=.ok x2:=ix_tup _ 2 _ rfl
theorem cZ' (ds:List D) (k:Nat) (d:D) (h:ds[k]? = some d):ixD (.lst ds) (.int (k:Int))=.ok d:=by
 have hk:k < ds.length:=by
  rcases Nat.lt_or_ge k ds.length with z | z
  ·exact z
  ·rw [List.getElem?_eq_none z] at h; cases h
 have e:atI ds (k:Int)=some d:=by
  unfold atI ixN;rw [if_pos (Int.natCast_nonneg k),if_pos (by omega)];simpa using h
 show (match atI ds (k:Int) with | some d=>Res.ok d | none=>.stuck)=_
 rw [e]
theorem ix_lst0 (x0:D) (r:List D):ixD (.lst (x0 :: r)) (.int 0)=.ok x0:=cZ' _ 0 _ rfl
theorem ix_lst1 (x0 x1:D) (r:List D):ixD (.lst (x0 :: x1 :: r)) (.int 1)=.ok x1:=cZ' _ 1 _ rfl
theorem ix_lst2 (x0 x1 x2:D) (r:List D):ixD (.lst (x0 :: x1 :: x2 :: r)) (.int 2)=.ok x2:=cZ' _ 2 _ rfl
theorem ix_lst3 (x0 x1 x2 x3:D) (r:List D):ixD (.lst (x0 :: x1 :: x2 :: x3 :: r)) (.int 3)=.ok x3:=cZ' _ 3 _ rfl
theorem dV' {fe:DS->Res D} {rest:DS} {g:Int->D}:∀(ts:List Int),(∀t∈ts,fe (some (.val (.int t)) :: rest)=.ok (g t))->mapR (eltD (tgtN 0) fe (none :: rest)) (ts.map .int)=.ok (ts.map g)
 | [],_=>rfl
 | t :: ts,h=>by
  have e:eltD (tgtN 0) fe (none :: rest) (.int t)=.ok (g t):=by
   show (match fe (some (.val (.int t)) :: rest) with | .ok x=>Res.ok x | _=>.stuck)=_
   rw [h t (by simp)]
  rw [List.map_cons,mapR,e,Res.bind_ok,dV' ts (fun u hu=>h u (List.mem_cons_of_mem _ hu)),Res.bind_ok]; rfl
theorem bd' {fe:DS->Res D} {fi:DS->Res (List D)} {fr:List Nat} {δ rest:DS} {ts:List Int} {g:Int->D} (hi:fi δ=.ok (ts.map .int)) (hr:compS 1 fr δ=none :: rest) (hl:ts.length<=sizeLine) (h:∀t∈ts,fe (some (.val (.int t)) :: rest)=.ok (g t)) :
  compD 1 fr (tgtN 0) fe fi δ=.ok (.lst (ts.map g)):=by
 unfold compD;rw [hi,Res.bind_ok,hr,dV' ts h];unfold lstD;rw [Res.bind_ok,if_pos (by simpa using hl)]
theorem dW' (lo:Int):∀(n:Nat),rangeD lo n=((List.range n).map fun k=>D.int (lo + (k:Nat)))
 | 0=>rfl
 | n + 1=>by
  rw [rangeD,dW' (lo + 1) n,List.range_succ_eq_map,List.map_cons,List.map_map]
  congr 1
  ·simp
  ·refine List.map_congr_left fun k _=>?_;simp only [Function.comp,D.int.injEq]; omega
theorem cx' {b:DS->Out} {i:Nat} {f:Int->Int->Int} (st:Int->Option SV->DS) (h:∀acc z t,b ((st acc z).set i (some (.val (.int t))))=.nxt (st (f acc t) (some (.val (.int t))))) :
  ∀(ts:List Int) (acc:Int) (z:Option SV),∃z',forD (tgtN i) b (ts.map .int) (st acc z)=.nxt (st (ts.foldl f acc) z')
 | [],acc,z=>⟨z,rfl⟩
 | t :: ts,acc,z=>by
  obtain ⟨z',e⟩:=cx' st h ts (f acc t) (some (.val (.int t)));refine ⟨z',?_⟩;rw [List.map_cons,forD];show (match b ((st acc z).set i (some (.val (.int t)))) with | .nxt δ'=>_ | .cnt δ'=>_ | .brk δ'=>_ | .ret d=>_ | _=>_)=_
  rw [h];exact e
end DL
namespace Mine
open PySem DL
noncomputable def gN (n:Nat) (ts:List Int):Nat:=ts.foldl (fun s t=>Nat.gcd s t.natAbs) n
theorem bq' (n:Nat) (t:Int) (ts:List Int):gN n (t :: ts)=gN (Nat.gcd n t.natAbs) ts:=rfl
theorem gx':∀(ts:List Int) (n:Nat),ts.foldl cm (n:Int)=(gN n ts:Nat)
 | [],_=>rfl
 | t :: ts,n=>by
  rw [List.foldl_cons,bq',<- gx' ts (Nat.gcd n t.natAbs)]
  congr 1
theorem eX' (ts:List Int) (b:Int) (h:ts≠[]):ts.foldl cm b=(gN b.natAbs ts:Nat):=by
 cases ts with
 | nil=>exact (h rfl).elim
 | cons t ts=>rw [List.foldl_cons,bq',<- gx' ts]; congr 1
theorem dX' (K:Int):∀(ts:List Int) (n:Nat),gN (K.natAbs * n) (ts.map (K * ·))=K.natAbs * gN n ts
 | [],_=>rfl
 | t :: ts,n=>by
  rw [List.map_cons,bq',bq',Int.natAbs_mul,Nat.gcd_mul_left,dX' K ts]
theorem gy':∀(ts:List Int) (n:Nat),gN n ts ∣ n/\∀t∈ts,gN n ts ∣ t.natAbs
 | [],n=>⟨Nat.dvd_refl n,fun t h=>by cases h⟩
 | t :: ts,n=>by
  obtain ⟨a,b⟩:=gy' ts (Nat.gcd n t.natAbs);rw [bq'];refine ⟨Nat.dvd_trans a (Nat.gcd_dvd_left _ _),fun u hu=>?_⟩;rcases List.mem_cons.mp hu with z | z
  ·subst z; exact Nat.dvd_trans a (Nat.gcd_dvd_right _ _)
  ·exact b u z
theorem kw' {n:Nat} (ts:List Int) (h:0 < n):0 < gN n ts:=Nat.pos_of_dvd_of_pos (gy' ts n).1 h
structure Nf (ts:List Int) (b:Int):Prop where
 pos:0 < b
 one:gN b.natAbs ts=1
theorem lg' (ts:List Int) {b:Int} (hb:b≠0):∃(K:Int) (ts':List Int) (b':Int),K≠0/\ts=ts'.map (K * ·)/\b=K * b'/\Nf ts' b'/\ts'.length=ts.length:=by
 have hp:0 < gN b.natAbs ts:=kw' ts (by omega);obtain ⟨d1,d2⟩:=gy' ts b.natAbs;generalize hg:gN b.natAbs ts=g at *;have hK:∃K:Int,K.natAbs=g/\0 < K * b:=by
  rcases Int.lt_or_gt_of_ne hb with c | c
  ·refine ⟨-(g:Int),by omega,?_⟩;exact Int.mul_pos_of_neg_of_neg (by omega) c
  ·exact ⟨(g:Int),by omega,Int.mul_pos (by omega) c⟩
 obtain ⟨K,k1,k2⟩:=hK;have k0:K≠0:=by omega
 have kd:∀t:Int,g ∣ t.natAbs->K * (t / K)=t:=fun t h=>Int.mul_ediv_cancel' (by rw [<- Int.natAbs_dvd_natAbs,k1]; exact h);have eb:K * (b / K)=b:=kd b d1;have et:(ts.map (· / K)).map (K * ·)=ts:=by
  rw [List.map_map];have:∀t∈ts,((K * ·) ∘ (· / K)) t=t:=fun t ht=>kd t (d2 t ht);rw [List.map_congr_left this]; simp
 refine ⟨K,ts.map (· / K),b / K,k0,et.symm,eb.symm,⟨?_,?_⟩,by simp⟩
 ·rcases Int.lt_or_le 0 (b / K) with c | c
  ·exact c
  ·exfalso;have:K * b=K * K * (b / K):=by rw [Int.mul_assoc,eb]
   have h2:0<=K * K:=by
    rcases Int.le_total 0 K with z | z
    ·exact Int.mul_nonneg z z
    ·exact Int.mul_nonneg_of_nonpos_of_nonpos z z
   have:=Int.mul_nonpos_of_nonneg_of_nonpos h2 c;omega
 ·have e:=dX' K (ts.map (· / K)) (b / K).natAbs;rw [et,<- Int.natAbs_mul,eb,hg,k1] at e;have:g * gN (b / K).natAbs (ts.map (· / K))=g * 1:=by omega
  exact Nat.eq_of_mul_eq_mul_left hp this
theorem cg' (K t:Int) (h:K≠0):Int.fdiv (K * t) K=t:=Int.mul_fdiv_cancel_left t h
theorem dY' {ts:List Int} {b K:Int} (h:Nf ts b) (hK:K≠0) (hts:ts≠[]):(ts.map (K * ·)).foldl cm (K * b)=(K.natAbs:Nat):=by
 rw [eX' _ _ (by simpa using hts),Int.natAbs_mul,dX',h.one,Nat.mul_one]
theorem fI' (n:Nat):Nf (List.replicate n 0) 1:=by
 refine ⟨by decide,?_⟩;have:∀n,gN 1 (List.replicate n 0)=1:=by
  intro n
  induction n with
  | zero=>rfl
  | succ n ih=>rw [List.replicate_succ,bq']; exact ih
 exact this n
abbrev num (ts:List Int) (b:Int):D:=.tup [.tup (ts.map .int),.int b]
theorem hS' (ts:List Int):toPs (ts.map .int)=ts.map PyData.int:=by
 induction ts with
 | nil=>rfl
 | cons t ts ih=>simp only [List.map_cons,toPs,toP,ih]
theorem eY' (n:Nat) (ts:List Int):(ts.map D.int).all (okD n)=true:=by
 induction ts with
 | nil=>rfl
 | cons t ts ih =>
  simp only [List.map_cons,List.all_cons,ih,Bool.and_true]
  cases n <;> rfl
theorem cJ':∀(a b:List Int),PyData.eqvAll (a.map PyData.int) (b.map PyData.int)=decide (a=b)
 | [],[]=>rfl
 | [],y :: ys=>by simp [PyData.eqvAll]
 | x :: xs,[]=>by simp [PyData.eqvAll]
 | x :: xs,y :: ys=>by
  have e:PyData.eqv (.int x) (.int y)=decide (x=y):=rfl;simp only [List.map_cons,PyData.eqvAll,e,cJ' xs ys,List.cons.injEq]
  by_cases h1:x=y <;> by_cases h2:xs=ys <;> simp [h1,h2]
theorem iu' (a:List Int) (p:Int):okD 8 (num a p)=true:=by
 show ([D.tup (a.map .int),D.int p]:List D).all (okD 7)=true;simp only [List.all_cons,List.all_nil,Bool.and_true];rw [show okD 7 (D.tup (a.map .int))=(a.map D.int).all (okD 6) from rfl,eY']; rfl
theorem eA' (a b:List Int) (p q:Int):PyData.eqv (toP (num a p)) (toP (num b q))=(decide (a=b) && decide (p=q)):=by
 simp only [toP,toPs,hS',PyData.eqv,PyData.eqvAll,cJ',Bool.and_true];rfl
theorem gz' (a b:List Int) (p q:Int):eqD (num a p) (num b q)=.ok (.bl (decide (a=b) && decide (p=q))):=by
 unfold eqD;rw [if_pos ⟨iu' a p,iu' b q⟩,eA']
theorem fJ' (x:Int) {y:Int} (h:y≠0):(Int.fmod x y).natAbs < y.natAbs:=by
 rw [Int.fmod_eq_emod];have a:=Int.emod_nonneg x h;have b:=Int.emod_lt_of_pos x (show 0 < (y.natAbs:Int) by omega);have e:x % (y.natAbs:Int)=x % y:=by
  rcases Int.natAbs_eq y with q | q
  ·rw [<- q]
  ·conv=>rhs; rw [q]
   rw [Int.emod_neg]
 rw [e] at b
 split
 ·omega
 ·rename_i c;have c1:¬(0<=y):=fun z=>c (.inl z);have c2:x % y≠0:=fun z=>c (.inr (Int.dvd_of_emod_eq_zero z));omega
theorem hT' (x y:Int):Int.gcd y (Int.fmod x y)=Int.gcd x y:=by
 have e:x=y * Int.fdiv x y + Int.fmod x y:=(Int.mul_fdiv_add_fmod x y).symm;refine Nat.dvd_antisymm ?_ ?_
 ·refine Int.dvd_gcd ?_ (Int.gcd_dvd_left y _);rw (config:={occs:=.pos [2]}) [e];exact Int.dvd_add (Int.dvd_trans (Int.gcd_dvd_left y _) (Int.dvd_mul_right ..)) (Int.gcd_dvd_right y _)
 ·refine Int.dvd_gcd (Int.gcd_dvd_right x y) ?_;have e2:Int.fmod x y=x - y * Int.fdiv x y:=by omega
  rw [e2];exact Int.dvd_sub (Int.gcd_dvd_left x y) (Int.dvd_trans (Int.gcd_dvd_right x y) (Int.dvd_mul_right ..))
theorem gA' (n:Nat) (h:n<=1000):rng1 [.int n]=.ok (((List.range n).map fun (k:Nat)=>(k:Int)).map .int):=by
 unfold rng1;have h1:-(2 ^ 62)<=(n:Int)/\(n:Int) < 2 ^ 62:=⟨by omega,by omega⟩;simp only [h1,and_self,if_true,Int.toNat_natCast,dW',List.map_map,Function.comp_def,Int.zero_add]
theorem rngF {f:DS->Res (List D)} {δ:DS} {ds rs:List D} {g:List D->Res (List D)} (h:f δ=.ok ds) (h2:g ds=.ok rs):bindRg f g δ=.ok rs:=by
 unfold bindRg; rw [h,Res.bind_ok,h2]
theorem jo' {α β:Type} (c:β):∀l:List α,l.map (fun _=>c)=List.replicate l.length c
 | []=>rfl
 | _ :: l=>by rw [List.map_cons,jo' c l]; rfl
end Mine
namespace Mine
open PySem DL L2
abbrev TI (l:List Int):D:=.tup (l.map .int)
abbrev RT (rs:List (List Int)):D:=.tup (rs.reverse.map TI)
noncomputable def addL (a b:List Int):List Int:=List.zipWith (fun x y=>x + y) a b
noncomputable def frH (x:List Int):List Int:=x.take (x.length / 2)
noncomputable def bhH (x:List Int):List Int:=x.drop (x.length / 2)
noncomputable def pt:List (List Int)->List Int->List Int->List Int
 | [],x,y=>[x.headD 0 * y.headD 0]
 | r :: rs,x,y=>addL (pt rs (frH x) (frH y)) (pt rs (pt rs (bhH x) (bhH y)) r) ++ addL (pt rs (frH x) (bhH y)) (pt rs (bhH x) (frH y))
noncomputable def lt:List (List Int)->List Int->List Int->List Int
 | [],x,y=>[x.headD 0 * y.headD 0]
 | r :: rs,x,y=>addL (lt rs (frH x) (frH y)) (lt rs r (lt rs (bhH x) (bhH y))) ++ addL (lt rs (frH x) (bhH y)) (lt rs (bhH x) (frH y))
noncomputable def Sc:List (List Int)->Prop
 | []=>True
 | r :: rs=>r.length=2 ^ rs.length/\Sc rs
theorem dZ':∀(a b:List Int),addL a b=addL b a
 | [],[]=>rfl
 | [],_ :: _=>rfl
 | _ :: _,[]=>rfl
 | x :: a,y :: b=>by
  have:=dZ' a b;unfold addL at this ⊢;rw [List.zipWith_cons_cons,List.zipWith_cons_cons,this,Int.add_comm]
theorem aY' {a b:List Int} {n:Nat} (h1:a.length=n) (h2:b.length=n):(addL a b).length=n:=by unfold addL; rw [List.length_zipWith]; omega
theorem aE' {x:List Int} {k:Nat} (h:x.length=2 ^ (k + 1)):(frH x).length=2 ^ k:=by
 unfold frH; rw [List.length_take]; have:2 ^ (k + 1)=2 ^ k * 2:=Nat.pow_succ ..; omega
theorem aF' {x:List Int} {k:Nat} (h:x.length=2 ^ (k + 1)):(bhH x).length=2 ^ k:=by
 unfold bhH; rw [List.length_drop]; have:2 ^ (k + 1)=2 ^ k * 2:=Nat.pow_succ ..; omega
theorem as':∀(rs:List (List Int)) (x y:List Int),Sc rs->x.length=2 ^ rs.length->y.length=2 ^ rs.length->(pt rs x y).length=2 ^ rs.length
 | [],_,_,_,_,_=>rfl
 | r :: rs,x,y,S,hx,hy=>by
  obtain ⟨hr,S⟩:=S;have a:=aE' hx;have b:=aF' hx;have c:=aE' hy;have d:=aF' hy;rw [pt,List.length_append,aY' (as' rs _ _ S a c) (as' rs _ _ S (as' rs _ _ S b d) hr),aY' (as' rs _ _ S a d) (as' rs _ _ S b c)];show _=2 ^ (rs.length + 1);rw [Nat.pow_succ]; omega
theorem ch':∀(rs:List (List Int)) (x y:List Int),pt rs x y=pt rs y x
 | [],x,y=>by rw [pt,pt,Int.mul_comm]
 | r :: rs,x,y=>by
  rw [pt,pt,ch' rs (frH x) (frH y),ch' rs (bhH x) (bhH y),ch' rs (frH x) (bhH y),ch' rs (bhH x) (frH y),dZ' (pt rs (bhH y) (frH x))]
theorem bG':∀(rs:List (List Int)) (x y:List Int),lt rs x y=pt rs x y
 | [],x,y=>rfl
 | r :: rs,x,y=>by
  rw [lt,pt,bG' rs (frH x) (frH y),bG' rs (bhH x) (bhH y),bG' rs r,bG' rs (frH x) (bhH y),bG' rs (bhH x) (frH y),ch' rs r]
noncomputable def Bd (n:Nat) (l:List Int):Prop:=∀t∈l,t.natAbs < 2 ^ n
theorem Bd.mono {n m:Nat} {l:List Int} (h:Bd n l) (e:n<=m):Bd m l:=fun t ht=>Nat.lt_of_lt_of_le (h t ht) (Nat.pow_le_pow_right (by decide) e)
theorem Bd.fr {n:Nat} {l:List Int} (h:Bd n l):Bd n (frH l):=fun t ht=>h t (List.mem_of_mem_take ht)
theorem Bd.bh {n:Nat} {l:List Int} (h:Bd n l):Bd n (bhH l):=fun t ht=>h t (List.mem_of_mem_drop ht)
theorem Bd.head {n:Nat} {l:List Int} (h:Bd n l):(l.headD 0).natAbs < 2 ^ n:=by
 cases l with
 | nil=>exact Nat.two_pow_pos n
 | cons a l=>exact h a (by simp)
theorem cK' {a b:Int} {p q:Nat} (h1:a.natAbs < 2 ^ p) (h2:b.natAbs < 2 ^ q):(a * b).natAbs < 2 ^ (p + q):=by
 rw [Int.natAbs_mul,Nat.pow_add];exact Nat.mul_lt_mul'' h1 h2
theorem Bd.add {n:Nat}:∀{a b:List Int},Bd n a->Bd n b->Bd (n + 1) (addL a b)
 | [],_,_,_=>fun t ht=>by simp [addL] at ht
 | _ :: _,[],_,_=>fun t ht=>by simp [addL] at ht
 | x :: a,y :: b,h1,h2=>fun t ht=>by
  unfold addL at ht;rw [List.zipWith_cons_cons] at ht;rcases List.mem_cons.mp ht with z | z
  ·have e1:=h1 x (by simp);have e2:=h2 y (by simp);rw [z,Nat.pow_succ]; omega
  ·exact Bd.add (fun t ht=>h1 t (List.mem_cons_of_mem _ ht)) (fun t ht=>h2 t (List.mem_cons_of_mem _ ht)) t z
theorem Bd.app {n:Nat} {a b:List Int} (h1:Bd n a) (h2:Bd n b):Bd n (a ++ b):=fun t ht=>(List.mem_append.mp ht).elim (h1 t) (h2 t)
theorem bU' (ds:List D) (k:Nat):cutD (.tup ds) none (some (k:Int))=.ok (.tup (ds.take k)):=by
 show Res.ok (D.tup (cutL ds none (some (k:Int))))=_;unfold cutL;rw [HT.sIx_nat,HT.sIx_none,List.drop_zero,Nat.sub_zero]
 congr 2
 rcases Nat.le_total k ds.length with h | h
 ·rw [Nat.min_eq_left h]
 ·rw [Nat.min_eq_right h,List.take_of_length_le h,List.take_length]
theorem do' (ds:List D) (k:Nat):cutD (.tup ds) (some (k:Int)) none=.ok (.tup (ds.drop k)):=by
 show Res.ok (D.tup (cutL ds (some (k:Int)) none))=_;unfold cutL;rw [HT.sIx_nat,HT.sIx_none]
 congr 2
 rcases Nat.le_total k ds.length with h | h
 ·rw [Nat.min_eq_left h,List.take_of_length_le (by rw [List.length_drop]; exact Nat.le_refl _)]
 ·rw [Nat.min_eq_right h,List.drop_length,List.drop_eq_nil_of_le h]; simp
theorem bi' (r:List Int) (rs:List (List Int)):cutD (RT (r :: rs)) none (some (-1))=.ok (RT rs):=by
 show Res.ok (D.tup (cutL ((r :: rs).reverse.map TI) none (some (-1))))=_;unfold cutL;have e:HT.sIx ((r :: rs).reverse.map TI).length ((r :: rs).reverse.map TI).length (some (-1))=rs.length:=by
  have hl:((r :: rs).reverse.map TI).length=rs.length + 1:=by simp
  rw [hl];unfold HT.sIx;dsimp only;rw [if_pos (by decide)]; omega
 rw [e,HT.sIx_none,List.drop_zero,Nat.sub_zero,List.reverse_cons,List.map_append]
 congr 2
 rw [List.take_append_of_le_length (by simp),List.take_of_length_le (by simp)]
theorem dp' (r:List Int) (rs:List (List Int)):ixD (RT (r :: rs)) (.int (-1))=.ok (TI r):=by
 have e:atI ((r :: rs).reverse.map TI) (-1)=some (TI r):=by
  unfold atI ixN;have hl:((r :: rs).reverse.map TI).length=rs.length + 1:=by simp
  rw [hl,if_neg (by decide),if_pos (by omega)];have e2:((-1:Int) + ((rs.length + 1:Nat):Int)).toNat=rs.length:=by omega
  rw [e2];simp
 show (match atI ((r :: rs).reverse.map TI) (-1) with | some d=>Res.ok d | none=>.stuck)=_
 rw [e]
theorem br' (n:Nat):fdivD (.int (n:Int)) (.int 2)=.ok (.int ((n / 2:Nat):Int)):=by
 rw [fH' (by decide) (Nat.lt_of_lt_of_le (show Int.natAbs 2 < 2 ^ 2 by decide) (Nat.pow_le_pow_right (by decide) (by decide)))]
 congr 2
 rw [Int.fdiv_eq_ediv_of_nonneg _ (by decide)]; omega
theorem ci' (l:List Int) (k:Nat):cutD (TI l) none (some (k:Int))=.ok (TI (l.take k)):=by rw [bU',<- List.map_take]
theorem cj' (l:List Int) (k:Nat):cutD (TI l) (some (k:Int)) none=.ok (TI (l.drop k)):=by rw [do',<- List.map_drop]
theorem da' {fe:DS->Res D} {rest:DS} {g:Int->Int->D}:∀(xs ys:List Int),(∀x∈xs,∀y∈ys,fe (some (.val (.int x)) :: some (.val (.int y)) :: rest)=.ok (g x y)) ->
  mapR (eltD (tupTgt [0,1]) fe (none :: none :: rest)) (zipD (xs.map .int) (ys.map .int))=.ok (List.zipWith g xs ys)
 | [],_,_=>rfl
 | _ :: _,[],_=>rfl
 | x :: xs,y :: ys,h=>by
  have e:eltD (tupTgt [0,1]) fe (none :: none :: rest) (.tup [.int x,.int y])=.ok (g x y):=by
   show (match fe (some (.val (.int x)) :: some (.val (.int y)) :: rest) with | .ok z=>Res.ok z | _=>.stuck)=_
   rw [h x (by simp) y (by simp)]
  have ih:=da' xs ys fun u hu v hv=>h u (List.mem_cons_of_mem _ hu) v (List.mem_cons_of_mem _ hv);show mapR _ (D.tup [.int x,.int y] :: zipD (xs.map .int) (ys.map .int))=_;rw [mapR,e,Res.bind_ok,ih,Res.bind_ok]; rfl
theorem ck' {fe:DS->Res D} {fi:DS->Res (List D)} {fr:List Nat} {δ rest:DS} {xs ys:List Int} {g:Int->Int->D} (hi:fi δ=.ok (zipD (xs.map .int) (ys.map .int))) (hr:compS 2 fr δ=none :: none :: rest) (hl:xs.length<=sizeLine)
  (h:∀x∈xs,∀y∈ys,fe (some (.val (.int x)) :: some (.val (.int y)) :: rest)=.ok (g x y)):compD 2 fr (tupTgt [0,1]) fe fi δ=.ok (.lst (List.zipWith g xs ys)):=by
 unfold compD;rw [hi,Res.bind_ok,hr,da' xs ys h];unfold lstD;rw [Res.bind_ok,if_pos (by rw [List.length_zipWith]; omega)]
theorem zipI (xs ys:List Int):(List.zipWith (fun x y=>D.int (x + y)) xs ys)=(addL xs ys).map .int:=by
 unfold addL; rw [List.map_zipWith]
theorem eZ' {l:List Int} (h:l≠[]):ixD (TI l) (.int 0)=.ok (.int (l.headD 0)):=by
 cases l with
 | nil=>exact (h rfl).elim
 | cons a l=>exact ix_tup0 _ _
theorem aR' {l:List Int} {k:Nat} (h:l.length=2 ^ k):l≠[]:=fun z=>by rw [z] at h; have:=Nat.two_pow_pos k; simp at h; omega
theorem fa' {a b:List Int} (h:a≠[]) (h2:a.length + b.length<=1000):addD (TI a) (TI b)=.ok (TI (a ++ b)):=by
 show (if (a.map D.int).length + (b.map D.int).length<=sizeLine then Res.ok (D.tup (a.map D.int ++ b.map D.int)) else Res.stuck)=_
 have e:1000<=sizeLine:=by decide
 rw [if_pos (by rw [List.length_map,List.length_map]; omega),<- List.map_append]
theorem jp' {a b:List Int} (h2:a.length + b.length<=1000):addD (TI a) (TI b)=.ok (TI (a ++ b)):=by
 show (if (a.map D.int).length + (b.map D.int).length<=sizeLine then Res.ok (D.tup (a.map D.int ++ b.map D.int)) else Res.stuck)=_
 have e:1000<=sizeLine:=by decide
 rw [if_pos (by rw [List.length_map,List.length_map]; omega),<- List.map_append]
theorem hU' (k:Int) (l:List Int):(l.map fun t=>D.int (k * t))=(l.map (k * ·)).map .int:=by rw [List.map_map]; rfl
noncomputable def sumL (x y:List Int) (bx b_y:Int):List Int:=List.zipWith (fun a c=>a * b_y + c * bx) x y
theorem db' (x y:List Int) (bx b_y:Int):addL (x.map (b_y * ·)) (y.map (bx * ·))=sumL x y bx b_y:=by
 unfold addL sumL;rw [List.zipWith_map]
 congr 1
 funext a c
 rw [Int.mul_comm b_y,Int.mul_comm bx]
theorem jq' {x y:List Int} {n:Nat} (h1:x.length=n) (h2:y.length=n) (bx b_y:Int):(sumL x y bx b_y).length=n:=by unfold sumL; rw [List.length_zipWith]; omega
theorem bV' {x:List Int} {n p:Nat} {k:Int} (h:Bd n x) (hk:k.natAbs < 2 ^ p):Bd (p + n) (x.map (k * ·)):=fun t ht=>by
 obtain ⟨u,hu,rfl⟩:=List.mem_map.mp ht;exact cK' hk (h u hu)
theorem gB':∀(ts:List Int),gN 1 ts=1
 | []=>rfl
 | t :: ts=>by rw [bq',Nat.gcd_one_left]; exact gB' ts
theorem kx' (ts:List Int):Nf ts 1:=⟨by decide,gB' ts⟩
theorem gC':∀(ts:List Int) (n:Nat),gN n (ts.map fun t=>-t)=gN n ts
 | [],_=>rfl
 | t :: ts,n=>by rw [List.map_cons,bq',bq',Int.natAbs_neg,gC' ts]
theorem ky' {ts:List Int} {b:Int} (h:Nf ts b):Nf (ts.map fun t=>-t) b:=⟨h.pos,by rw [gC']; exact h.one⟩
theorem fb' {x:List Int} {n:Nat} (h:Bd n x):Bd n (x.map fun t=>-t):=fun t ht=>by
 obtain ⟨u,hu,rfl⟩:=List.mem_map.mp ht;rw [Int.natAbs_neg]; exact h u hu
theorem eB' (x:List Int):x.map ((-1:Int) * ·)=x.map fun t=>-t:=List.map_congr_left fun t _=>by omega
theorem hV' (k:Nat):(List.replicate k [D.int 0]).flatten=(List.replicate k (0:Int)).map .int:=by
 induction k with
 | zero=>rfl
 | succ k ih=>rw [List.replicate_succ,List.flatten_cons,ih,List.replicate_succ,List.map_cons]; rfl
theorem gD' (k:Nat) (h:k<=1000):mulE (.tup [.int 0]) (.int (k:Int))=.ok (TI (List.replicate k 0)):=by
 show repD [.int 0] (k:Int)=_;unfold repD;rw [if_pos ⟨rfl,Int.natCast_nonneg k,by rw [Int.toNat_natCast]; simpa using h⟩,Int.toNat_natCast,hV']
theorem jr' (m:Nat) (h:m<=1000):shlD (.int 1) (.int (m:Int))=.ok (.int ((2 ^ m:Nat):Int)):=by
 simp only [shlD];rw [if_pos ⟨by omega,by omega,by decide⟩,Int.toNat_natCast,Int.one_mul]; simp
theorem ea':∀(bs:List Bool),bools (bs.map .bl)=some bs
 | []=>rfl
 | b :: bs=>by rw [List.map_cons,bools,ea' bs]; rfl
theorem kz' (bs:List Bool):allG [.lst (bs.map .bl)]=.ok (.bl (bs.all id)):=by
 show (match bools (bs.map .bl) with | some bs=>Res.ok (D.bl (bs.all id)) | none=>.stuck)=_
 rw [ea']
noncomputable def zA (ns:List Int):Bool:=ns.all fun t=>decide (t=0)
noncomputable def sg (n:Int):Int:=if n=0 then 0 else if 0 < n then 1 else -1
theorem fc' {r m:Int} (hr:0<=r) (h1:r * r < m) (h2:m < (r + 1) * (r + 1)):∀(n:Nat) (a b:Int),0<=a->0<=b->b.toNat<=n->a * a=b * b * m->b=0
 | 0,a,b,_,hb,hn,_=>by omega
 | n + 1,a,b,ha,hb,hn,e=>by
  by_cases c:b=0
  ·exact c
  exfalso;have bp:0 < b:=by omega
  have bb:0 < b * b:=Int.mul_pos bp bp;have lo:r * b < a:=by
   rcases Int.lt_or_le (r * b) a with z | z
   ·exact z
   ·exfalso;have q:=Int.mul_le_mul z z ha (Int.mul_nonneg hr hb);have e1:r * b * (r * b)=b * b * (r * r):=by rw [Int.mul_assoc,Int.mul_left_comm b r b,<- Int.mul_assoc,Int.mul_comm]
    have:=Int.mul_lt_mul_of_pos_left h1 bb;omega
  have hi:a < (r + 1) * b:=by
   rcases Int.lt_or_le a ((r + 1) * b) with z | z
   ·exact z
   ·exfalso;have q:=Int.mul_le_mul z z (Int.mul_nonneg (by omega) hb) ha;have e1:(r + 1) * b * ((r + 1) * b)=b * b * ((r + 1) * (r + 1)):=by rw [Int.mul_assoc,Int.mul_left_comm b (r + 1) b,<- Int.mul_assoc,Int.mul_comm]
    have:=Int.mul_lt_mul_of_pos_left h2 bb;omega
  have hi':a < r * b + b:=by rw [Int.add_mul,Int.one_mul] at hi; exact hi
  have ma:r * a < m * b:=by
   rcases Int.lt_or_le (r * a) (m * b) with z | z
   ·exact z
   ·exfalso;have ap:0 < a:=by
     have:=Int.mul_nonneg hr hb; omega
    have q1:=Int.mul_le_mul_of_nonneg_right z hb;have q2:=Int.mul_lt_mul_of_pos_left lo ap;have e1:m * b * b=b * b * m:=by rw [Int.mul_assoc,Int.mul_comm]
    have e2:r * a * b=a * (r * b):=by rw [Int.mul_comm r a,Int.mul_assoc]
    omega
  have step:(m * b - r * a) * (m * b - r * a)=(a - r * b) * (a - r * b) * m:=by
   have x1:(m * b - r * a) * (m * b - r * a)=m * (b * b * m) - 2 * (m * (r * (a * b))) + r * (r * (a * a)):=by
    simp only [Int.sub_mul,Int.mul_sub];have t1:m * b * (m * b)=m * (b * b * m):=by
     rw [Int.mul_assoc,Int.mul_left_comm b m b,Int.mul_comm (b * b) m]
    have t2:m * b * (r * a)=m * (r * (a * b)):=by rw [Int.mul_assoc,Int.mul_left_comm b r a,Int.mul_comm b a]
    have t3:r * a * (m * b)=m * (r * (a * b)):=by rw [Int.mul_left_comm,Int.mul_assoc,<- Int.mul_assoc r a b,Int.mul_assoc r a b]
    have t4:r * a * (r * a)=r * (r * (a * a)):=by rw [Int.mul_assoc,Int.mul_left_comm a r a]
    rw [t1,t2,t3,t4]; omega
   have x2:(a - r * b) * (a - r * b) * m=m * (a * a) - 2 * (m * (r * (a * b))) + r * (r * (b * b * m)):=by
    have t0:(a - r * b) * (a - r * b)=a * a - 2 * (r * (a * b)) + r * (r * (b * b)):=by
     simp only [Int.sub_mul,Int.mul_sub];have u1:a * (r * b)=r * (a * b):=Int.mul_left_comm a r b;have u2:r * b * a=r * (a * b):=by rw [Int.mul_assoc,Int.mul_comm b a]
     have u3:r * b * (r * b)=r * (r * (b * b)):=by rw [Int.mul_assoc,Int.mul_left_comm b r b]
     rw [u1,u2,u3]; omega
    rw [t0,Int.add_mul,Int.sub_mul];have v1:a * a * m=m * (a * a):=Int.mul_comm _ _;have v2:2 * (r * (a * b)) * m=2 * (m * (r * (a * b))):=by rw [Int.mul_assoc,Int.mul_comm (r * (a * b)) m]
    have v3:r * (r * (b * b)) * m=r * (r * (b * b * m)):=by rw [Int.mul_assoc,Int.mul_assoc r (b * b) m]
    rw [v1,v2,v3]
   rw [x1,x2,<- e]
  have:=fc' hr h1 h2 n (m * b - r * a) (a - r * b) (by omega) (by omega) (by omega) step;omega
theorem nosq {r m:Int} (hr:0<=r) (h1:r * r < m) (h2:m < (r + 1) * (r + 1)) {a b:Int} (e:a * a=b * b * m):b=0:=by
 have ea:(a.natAbs:Int) * (a.natAbs:Int)=a * a:=by rw [<- Int.natCast_mul,Int.natAbs_mul_self]
 have eb:(b.natAbs:Int) * (b.natAbs:Int)=b * b:=by rw [<- Int.natCast_mul,Int.natAbs_mul_self]
 have:=fc' hr h1 h2 b.natAbs (a.natAbs:Int) (b.natAbs:Int) (by omega) (by omega) (by omega) (by rw [ea,eb]; exact e);omega
theorem fd' (n:Int):(n=0/\sg n=0)\/(0 < n/\sg n=1)\/(n < 0/\sg n=-1):=by
 unfold sg;rcases Int.lt_trichotomy n 0 with z | z | z
 ·exact .inr (.inr ⟨z,by rw [if_neg (by omega),if_neg (by omega)]⟩)
 ·exact .inl ⟨z,if_pos z⟩
 ·exact .inr (.inl ⟨z,by rw [if_neg (by omega),if_pos z]⟩)
end Mine
namespace Mine
open Lean.Grind
structure OF where
 C:Type
 fld:Field C
 le:LE C
 lt:LT C
 llt:Std.LawfulOrderLT C
 lin:Std.IsLinearOrder C
 ord:OrderedRing C
instance ofF (F:OF):Field F.C:=F.fld
instance ofLE (F:OF):LE F.C:=F.le
instance ofLT (F:OF):LT F.C:=F.lt
instance ofLLT (F:OF):Std.LawfulOrderLT F.C:=F.llt
instance ofLin (F:OF):Std.IsLinearOrder F.C:=F.lin
instance ofOrd (F:OF):OrderedRing F.C:=F.ord
instance ofNC (F:OF):NatCast F.C:=F.fld.toCommRing.toRing.toSemiring.natCast
instance ofIC (F:OF):IntCast F.C:=F.fld.toCommRing.toRing.intCast
section
variable {F:OF}
theorem mulP {a b:F.C} (h1:0 < a) (h2:0 < b):0 < a * b:=by
 have:=OrderedRing.mul_lt_mul_of_pos_left h1 h2
 grind
theorem bE' {a b:F.C} (h1:0<=a) (h2:0<=b):0<=a * b:=by
 by_cases h:a=0
 ·rw [h,Semiring.zero_mul]; exact Std.le_refl _
 ·by_cases h':b=0
  ·rw [h',Semiring.mul_zero]; exact Std.le_refl _
  ·have:=mulP (a:=a) (b:=b) (by grind) (by grind)
   grind
theorem sqNN (a:F.C):0<=a * a:=by
 by_cases h:0<=a
 ·exact bE' h h
 ·have:=bE' (a:=-a) (b:=-a) (by grind) (by grind)
  grind
theorem sqP {a:F.C} (h:a≠0):0 < a * a:=by
 by_cases c:0 < a
 ·exact mulP c c
 ·have:=mulP (a:=-a) (b:=-a) (by grind) (by grind)
  grind
theorem dq' {a b c d:F.C} (a0:0<=a) (h1:a < b) (c0:0<=c) (h2:c < d):a * c < b * d:=by
 have q1:=bE' (a:=b - a) (b:=c) (by grind) c0;have q2:=mulP (a:=b) (b:=d - c) (by grind) (by grind)
 grind
theorem sqL {p q:F.C} (h:0 < p) (e:q * q < p * p):0 < p + q:=by
 by_cases c:0 < p + q
 ·exact c
 ·exfalso;have q1:=bE' (a:=-q - p) (b:=-q + p) (by grind) (by grind)
  grind
theorem mul0 {a b:F.C} (h:a * b=0):a=0\/b=0:=by
 by_cases c:a=0
 ·exact .inl c
 ·right; grind
end
open Classical in
noncomputable def sgn {F:OF} (x:F.C):Int:=if x=0 then 0 else if 0 < x then 1 else -1
section
variable {F:OF}
theorem cl' (x:F.C):(x=0/\sgn x=0)\/(0 < x/\sgn x=1)\/(x < 0/\sgn x=-1):=by
 unfold sgn
 by_cases h:x=0
 ·exact .inl ⟨h,by rw [if_pos h]⟩
 ·by_cases c:0 < x
  ·exact .inr (.inl ⟨c,by rw [if_neg h,if_pos c]⟩)
  ·exact .inr (.inr ⟨by grind,by rw [if_neg h,if_neg c]⟩)
theorem sgn_0 {x:F.C}:sgn x=0↔x=0:=by rcases cl' x with ⟨h,e⟩ | ⟨h,e⟩ | ⟨h,e⟩ <;> constructor <;> grind
theorem sgn_p {x:F.C}:sgn x=1↔0 < x:=by rcases cl' x with ⟨h,e⟩ | ⟨h,e⟩ | ⟨h,e⟩ <;> constructor <;> grind
theorem sgn_n {x:F.C}:sgn x=-1↔x < 0:=by rcases cl' x with ⟨h,e⟩ | ⟨h,e⟩ | ⟨h,e⟩ <;> constructor <;> grind
theorem sgn_mul (x y:F.C):sgn (x * y)=sgn x * sgn y:=by
 rcases cl' x with ⟨h,e⟩ | ⟨h,e⟩ | ⟨h,e⟩ <;> rcases cl' y with ⟨h',e'⟩ | ⟨h',e'⟩ | ⟨h',e'⟩ <;> rw [e,e']
 ·rw [h,sgn_0.mpr (by grind)]; rfl
 ·rw [h,sgn_0.mpr (by grind)]; rfl
 ·rw [h,sgn_0.mpr (by grind)]; rfl
 ·rw [h',sgn_0.mpr (by grind)]; rfl
 ·rw [sgn_p.mpr (mulP h h')]; rfl
 ·have:=mulP (a:=x) (b:=-y) h (by grind);rw [sgn_n.mpr (by grind)]; rfl
 ·rw [h',sgn_0.mpr (by grind)]; rfl
 ·have:=mulP (a:=-x) (b:=y) (by grind) h';rw [sgn_n.mpr (by grind)]; rfl
 ·have:=mulP (a:=-x) (b:=-y) (by grind) (by grind);rw [sgn_p.mpr (by grind)]; rfl
end
structure Ext {R:Type} (r:R) where
 a:R
 b:R
namespace Ext
section
variable {F:OF} {r:F.C}
theorem eqs {x y:Ext r} (h1:x.a=y.a) (h2:x.b=y.b):x=y:=by
 cases x; cases y; cases h1; cases h2; rfl
instance:Add (Ext r):=⟨fun x y=>⟨x.a + y.a,x.b + y.b⟩⟩
instance:Mul (Ext r):=⟨fun x y=>⟨x.a * y.a + x.b * y.b * r,x.a * y.b + x.b * y.a⟩⟩
instance:Neg (Ext r):=⟨fun x=>⟨-x.a,-x.b⟩⟩
instance:Sub (Ext r):=⟨fun x y=>⟨x.a - y.a,x.b - y.b⟩⟩
instance:NatCast (Ext r):=⟨fun n=>⟨(n:F.C),0⟩⟩
instance:IntCast (Ext r):=⟨fun n=>⟨(n:F.C),0⟩⟩
instance (n:Nat):OfNat (Ext r) n:=⟨⟨OfNat.ofNat n,0⟩⟩
instance:SMul Nat (Ext r):=⟨fun n x=>(n:Ext r) * x⟩
instance:SMul Int (Ext r):=⟨fun n x=>(n:Ext r) * x⟩
noncomputable def pw (x:Ext r):Nat->Ext r
 | 0=>1
 | n + 1=>pw x n * x
instance:HPow (Ext r) Nat (Ext r):=⟨pw⟩
theorem bz' (x y:Ext r):(x + y).a=x.a + y.a:=rfl
theorem bA' (x y:Ext r):(x + y).b=x.b + y.b:=rfl
theorem bL' (x y:Ext r):(x * y).a=x.a * y.a + x.b * y.b * r:=rfl
theorem bM' (x y:Ext r):(x * y).b=x.a * y.b + x.b * y.a:=rfl
theorem eC' (x:Ext r):(-x).a=-x.a:=rfl
theorem eD' (x:Ext r):(-x).b=-x.b:=rfl
theorem js' (x y:Ext r):(x - y).a=x.a - y.a:=rfl
theorem kA' (x y:Ext r):(x - y).b=x.b - y.b:=rfl
theorem kB' (n:Nat):((n:Ext r)).a=(n:F.C):=rfl
theorem eb' (n:Int):((n:Ext r)).a=(n:F.C):=rfl
theorem fK' (n:Int):((n:Ext r)).b=0:=rfl
theorem of_a (n:Nat):(OfNat.ofNat n:Ext r).a=(OfNat.ofNat n:F.C):=rfl
theorem of_b (n:Nat):(OfNat.ofNat n:Ext r).b=0:=rfl
theorem cm':(1:Ext r).a=1:=rfl
theorem cP':(1:Ext r).b=0:=rfl
theorem bl':(0:Ext r).a=0:=rfl
theorem bI':(0:Ext r).b=0:=rfl
instance:Semiring (Ext r) where
 add_zero x:=eqs (by rw [bz',bl'] <;> grind) (by rw [bA',bI'] <;> grind)
 add_comm x y:=eqs (by rw [bz',bz'] <;> grind) (by rw [bA',bA'] <;> grind)
 add_assoc x y z:=eqs (by simp only [bz'] <;> grind) (by simp only [bA'] <;> grind)
 mul_assoc x y z:=eqs (by simp only [bL',bM'] <;> grind) (by simp only [bL',bM'] <;> grind)
 mul_one x:=eqs (by simp only [bL',cm',cP'] <;> grind) (by simp only [bM',cm',cP'] <;> grind)
 one_mul x:=eqs (by simp only [bL',cm',cP'] <;> grind) (by simp only [bM',cm',cP'] <;> grind)
 left_distrib x y z:=eqs (by simp only [bL',bz',bA'] <;> grind) (by simp only [bM',bz',bA'] <;> grind)
 right_distrib x y z:=eqs (by simp only [bL',bz',bA'] <;> grind) (by simp only [bM',bz',bA'] <;> grind)
 zero_mul x:=eqs (by simp only [bL',bl',bI'] <;> grind) (by simp only [bM',bl',bI'] <;> grind)
 mul_zero x:=eqs (by simp only [bL',bl',bI'] <;> grind) (by simp only [bM',bl',bI'] <;> grind)
 pow_zero x:=rfl
 pow_succ x n:=rfl
 ofNat_succ n:=eqs (by rw [bz',of_a,of_a,cm']; exact Semiring.ofNat_succ (α:=F.C) n) (by rw [bA',of_b,of_b,cP'] <;> grind)
 ofNat_eq_natCast n:=eqs (by rw [of_a,kB']; exact Semiring.ofNat_eq_natCast (α:=F.C) n) rfl
 nsmul_eq_natCast_mul n x:=rfl
instance:Ring (Ext r) where
 neg_add_cancel x:=eqs (by rw [bz',eC',bl'] <;> grind) (by rw [bA',eD',bI'] <;> grind)
 sub_eq_add_neg x y:=eqs (by rw [bz',eC',js'] <;> grind) (by rw [bA',eD',kA'] <;> grind)
 neg_zsmul i x:=by
  show ((-i:Int):Ext r) * x=-((i:Ext r) * x);refine eqs ?_ ?_
  ·rw [eC',bL',bL',eb',eb',fK',fK',Ring.intCast_neg (α:=F.C)] <;> grind
  ·rw [eD',bM',bM',eb',eb',fK',fK',Ring.intCast_neg (α:=F.C)] <;> grind
 zsmul_natCast_eq_nsmul n x:=by
  show (((n:Int)):Ext r) * x=(n:Ext r) * x;have e:(((n:Int)):Ext r)=(n:Ext r):=eqs (by rw [eb',kB']; exact Ring.intCast_natCast (α:=F.C) n) rfl;rw [e]
 intCast_ofNat n:=eqs (by rw [eb',of_a]; exact Ring.intCast_ofNat (α:=F.C) n) rfl
 intCast_neg i:=eqs (by rw [eb',eC',eb']; exact Ring.intCast_neg (α:=F.C) i) (by rw [fK',eD',fK'] <;> grind)
instance:CommRing (Ext r) where
 mul_comm x y:=eqs (by rw [bL',bL'] <;> grind) (by rw [bM',bM'] <;> grind)
noncomputable def nrm (x:Ext r):F.C:=x.a * x.a - x.b * x.b * r
theorem nrm_mul (x y:Ext r):nrm (x * y)=nrm x * nrm y:=by unfold nrm; rw [bL',bM']; grind
theorem nrm_0 (hn:∀z:F.C,z * z≠r) {x:Ext r} (h:nrm x=0):x=0:=by
 unfold nrm at h
 by_cases hb:x.b=0
 ·have:x.a=0:=by rcases mul0 (a:=x.a) (b:=x.a) (by grind) with z | z <;> exact z
  exact eqs this hb
 ·exfalso;exact hn (x.a / x.b) (by grind)
instance:Inv (Ext r):=⟨fun x=>⟨x.a / nrm x,-x.b / nrm x⟩⟩
instance:Div (Ext r):=⟨fun x y=>x * y⁻¹⟩
theorem hW' (x:Ext r):(x⁻¹).a=x.a / nrm x:=rfl
theorem hX' (x:Ext r):(x⁻¹).b=-x.b / nrm x:=rfl
noncomputable def zpw (x:Ext r):Int->Ext r
 | .ofNat n=>pw x n
 | .negSucc n=>(pw x (n + 1))⁻¹
instance:HPow (Ext r) Int (Ext r):=⟨zpw⟩
theorem jt':((0:Ext r))⁻¹=0:=eqs (by rw [hW',bl']; grind) (by rw [hX',bI']; grind)
theorem eE' (hn:∀z:F.C,z * z≠r) {x:Ext r} (h:x≠0):x * x⁻¹=1:=by
 have n0:nrm x≠0:=fun z=>h (nrm_0 hn z);refine eqs ?_ ?_
 ·rw [bL',hW',hX',cm']; unfold nrm at *; grind
 ·rw [bM',hW',hX',cP']; unfold nrm at *; grind
theorem ju' (hn:∀z:F.C,z * z≠r) (x:Ext r):(x⁻¹)⁻¹=x:=by
 by_cases h:x=0
 ·rw [h,jt',jt']
 ·have e1:=eE' hn h;have h2:x⁻¹≠0:=fun z=>by
   rw [z] at e1;have:(0:Ext r)=1:=by rw [<- e1,Semiring.mul_zero]
   have:=congrArg Ext.a this;rw [bl',cm'] at this;exact Field.zero_ne_one this
  have e2:=eE' hn h2
  calc (x⁻¹)⁻¹=(x * x⁻¹) * (x⁻¹)⁻¹:=by rw [e1,Semiring.one_mul]
   _=x * (x⁻¹ * (x⁻¹)⁻¹):=Semiring.mul_assoc ..
   _=x:=by rw [e2,Semiring.mul_one]
theorem inv_1:((1:Ext r))⁻¹=1:=by
 refine eqs ?_ ?_
 ·rw [hW',cm']; unfold nrm; rw [cm',cP']; grind
 ·rw [hX',cP']; unfold nrm; rw [cm',cP']; grind
@[reducible] def fieldE (hn:∀z:F.C,z * z≠r):Field (Ext r) where
 div_eq_mul_inv _ _:=rfl
 zero_ne_one h:=by
  have:=congrArg Ext.a h;rw [bl',cm'] at this;exact Field.zero_ne_one this
 inv_zero:=jt'
 mul_inv_cancel:=eE' hn
 zpow_zero _:=rfl
 zpow_succ _ _:=rfl
 zpow_neg x n:=by
  show zpw x (-n)=(zpw x n)⁻¹
  match n with
  | .ofNat 0=>exact inv_1.symm
  | .ofNat (n + 1)=>rfl
  | .negSucc n=>exact (ju' hn _).symm
noncomputable def Pos (x:Ext r):Prop:=(0 < nrm x/\0 < x.a)\/(nrm x < 0/\0 < x.b)
instance:LT (Ext r):=⟨fun x y=>Pos (y - x)⟩
instance:LE (Ext r):=⟨fun x y=>x=y\/Pos (y - x)⟩
theorem gE' (x:Ext r):nrm (-x)=nrm x:=by unfold nrm; rw [eC',eD']; grind
theorem hY':nrm (0:Ext r)=0:=by unfold nrm; rw [bl',bI']; grind
theorem hZ':¬Pos (0:Ext r):=fun h=>by unfold Pos at h; rw [hY'] at h; grind
theorem gF' {x:Ext r} (h:Pos x):¬Pos (-x):=fun z=>by
 unfold Pos at h z; rw [gE',eC',eD'] at z;rcases h with h | h <;> rcases z with z | z <;> grind
theorem tri (hn:∀z:F.C,z * z≠r) (hr:0 < r) (x:Ext r):x=0\/Pos x\/Pos (-x):=by
 by_cases h:x=0
 ·exact .inl h
 ·right
  have n0:nrm x≠0:=fun z=>h (nrm_0 hn z);unfold Pos;rw [gE',eC',eD']
  by_cases c:0 < nrm x
  ·have:x.a≠0:=fun z=>by
    have:=bE' (sqNN x.b) (Std.le_of_lt hr);unfold nrm at c; rw [z] at c; grind
   by_cases d:0 < x.a
   ·exact .inl (.inl ⟨c,d⟩)
   ·exact .inr (.inl ⟨c,by grind⟩)
  ·have:x.b≠0:=fun z=>by
    have:=sqNN x.a;unfold nrm at c n0; rw [z] at c n0; grind
   by_cases d:0 < x.b
   ·exact .inl (.inr ⟨by grind,d⟩)
   ·exact .inr (.inr ⟨by grind,by grind⟩)
theorem gG' (hr:0 < r) {x y:Ext r} (h1:Pos x) (h2:Pos y):Pos (x * y):=by
 unfold Pos at *;rw [nrm_mul,bL',bM'];have rr:=mulP hr hr;have nbb:=bE' (sqNN x.b) (Std.le_of_lt hr);have ndd:=bE' (sqNN y.b) (Std.le_of_lt hr);rcases h1 with ⟨n1,p1⟩ | ⟨n1,p1⟩ <;> rcases h2 with ⟨n2,p2⟩ | ⟨n2,p2⟩
 ·refine .inl ⟨mulP n1 n2,?_⟩;have q:=dq' nbb (show x.b * x.b * r < x.a * x.a by unfold nrm at n1; grind) ndd (show y.b * y.b * r < y.a * y.a by unfold nrm at n2; grind);exact sqL (mulP p1 p2) (by grind)
 ·refine .inr ⟨?_,?_⟩
  ·have:=mulP (a:=nrm x) (b:=-nrm y) n1 (by grind); grind
  ·have q:=dq' nbb (show x.b * x.b * r < x.a * x.a by unfold nrm at n1; grind) (sqNN y.a) (show y.a * y.a < y.b * y.b * r by unfold nrm at n2; grind);refine sqL (mulP p1 p2) ?_
   by_cases c:x.b * y.a * (x.b * y.a) < x.a * y.b * (x.a * y.b)
   ·exact c
   ·have:=bE' (a:=x.b * y.a * (x.b * y.a) - x.a * y.b * (x.a * y.b)) (b:=r) (by grind) (Std.le_of_lt hr)
    grind
 ·refine .inr ⟨?_,?_⟩
  ·have:=mulP (a:=-nrm x) (b:=nrm y) (by grind) n2; grind
  ·have q:=dq' (sqNN x.a) (show x.a * x.a < x.b * x.b * r by unfold nrm at n1; grind) ndd (show y.b * y.b * r < y.a * y.a by unfold nrm at n2; grind);have:0 < x.b * y.a + x.a * y.b:=by
    refine sqL (mulP p1 p2) ?_
    by_cases c:x.a * y.b * (x.a * y.b) < x.b * y.a * (x.b * y.a)
    ·exact c
    ·have:=bE' (a:=x.a * y.b * (x.a * y.b) - x.b * y.a * (x.b * y.a)) (b:=r) (by grind) (Std.le_of_lt hr)
     grind
   grind
 ·refine .inl ⟨?_,?_⟩
  ·have:=mulP (a:=-nrm x) (b:=-nrm y) (by grind) (by grind); grind
  ·have q:=dq' (sqNN x.a) (show x.a * x.a < x.b * x.b * r by unfold nrm at n1; grind) (sqNN y.a) (show y.a * y.a < y.b * y.b * r by unfold nrm at n2; grind);have:0 < x.b * y.b * r + x.a * y.a:=sqL (mulP (mulP p1 p2) hr) (by grind)
   grind
theorem jv' (hn:∀z:F.C,z * z≠r) (hr:0 < r) {x y:Ext r} (h1:Pos x) (h2:Pos y):Pos (x + y):=by
 have rr:=mulP hr hr;have nbb:=bE' (sqNN x.b) (Std.le_of_lt hr);have ndd:=bE' (sqNN y.b) (Std.le_of_lt hr);have mixed:∀x y:Ext r,(0 < nrm x/\0 < x.a)->(nrm y < 0/\0 < y.b)->Pos (x + y):=by
  intro x y ⟨n1,p1⟩ ⟨n2,p2⟩;have nbb:=bE' (sqNN x.b) (Std.le_of_lt hr);have h0:x + y≠0:=fun z=>by
   have za:=congrArg Ext.a z;have zb:=congrArg Ext.b z;rw [bz',bl'] at za;rw [bA',bI'] at zb;have ea:y.a=-x.a:=by grind
   have eb:y.b=-x.b:=by grind
   unfold nrm at n1 n2;rw [ea,eb] at n2
   grind
  have n0:nrm (x + y)≠0:=fun z=>h0 (nrm_0 hn z);unfold Pos
  by_cases c:0 < nrm (x + y)
  ·refine .inl ⟨c,?_⟩;rw [bz']
   by_cases d:0 < x.a + y.a
   ·exact d
   ·exfalso;unfold nrm at n1 n2 c;rw [bz',bA'] at c;have nvv:=bE' (sqNN (x.b + y.b)) (Std.le_of_lt hr);have u0:-(x.a + y.a)≠0:=fun z=>by
     have:x.a + y.a=0:=by grind
     rw [this] at c; grind
    have up:0 < -(x.a + y.a):=by grind
    have q:=dq' nbb (show x.b * x.b * r < x.a * x.a by grind) nvv (show (x.b + y.b) * (x.b + y.b) * r < -(x.a + y.a) * -(x.a + y.a) by grind);have q2:=sqL (p:=x.a * -(x.a + y.a)) (q:=x.b * (x.b + y.b) * r) (mulP p1 up) (by grind)
    grind
  ·refine .inr ⟨by grind,?_⟩;rw [bA']
   by_cases d:0 < x.b + y.b
   ·exact d
   ·exfalso;have c':nrm (x + y) < 0:=by grind
    unfold nrm at n1 n2 c';rw [bz',bA'] at c';have naa:=sqNN (x.a + y.a);have v0:-(x.b + y.b)≠0:=fun z=>by
     have:x.b + y.b=0:=by grind
     rw [this] at c'; grind
    have vp:0 < -(x.b + y.b):=by grind
    have q:=dq' (sqNN y.a) (show y.a * y.a < y.b * y.b * r by grind) naa (show (x.a + y.a) * (x.a + y.a) < (x.b + y.b) * (x.b + y.b) * r by grind);have q2:=sqL (p:=y.b * -(x.b + y.b) * r) (q:=y.a * (x.a + y.a)) (mulP (mulP p2 vp) hr) (by grind)
    grind
 rcases h1 with h1 | h1 <;> rcases h2 with h2 | h2
 ·obtain ⟨n1,p1⟩:=h1;obtain ⟨n2,p2⟩:=h2;refine .inl ⟨?_,by rw [bz']; grind⟩;unfold nrm at *;rw [bz',bA'];have q:=dq' nbb (show x.b * x.b * r < x.a * x.a by grind) ndd (show y.b * y.b * r < y.a * y.a by grind);have q2:=sqL (p:=x.a * y.a) (q:=-(x.b * y.b * r)) (mulP p1 p2) (by grind)
  grind
 ·exact mixed x y h1 h2
 ·have:=mixed y x h2 h1
  rwa [Semiring.add_comm] at this
 ·obtain ⟨n1,p1⟩:=h1;obtain ⟨n2,p2⟩:=h2;refine .inr ⟨?_,by rw [bA']; grind⟩;unfold nrm at *;rw [bz',bA'];have q:=dq' (sqNN x.a) (show x.a * x.a < x.b * x.b * r by grind) (sqNN y.a) (show y.a * y.a < y.b * y.b * r by grind);have q2:=sqL (p:=x.b * y.b * r) (q:=-(x.a * y.a)) (mulP (mulP p1 p2) hr) (by grind)
  grind
theorem lt_def {x y:Ext r}:x < y↔Pos (y - x):=Iff.rfl
theorem iv' {x y:Ext r}:x<=y↔x=y\/Pos (y - x):=Iff.rfl
theorem jw' (x y z:Ext r):(y - x) + (z - y)=z - x:=by grind
theorem linE (hn:∀z:F.C,z * z≠r) (hr:0 < r):Std.IsLinearOrder (Ext r) where
 le_refl x:=.inl rfl
 le_trans x y z h1 h2:=by
  rcases h1 with rfl | h1
  ·exact h2
  ·rcases h2 with rfl | h2
   ·exact .inr h1
   ·exact .inr (by have:=jv' hn hr h1 h2; rwa [jw'] at this)
 le_antisymm x y h1 h2:=by
  rcases h1 with rfl | h1
  ·rfl
  ·rcases h2 with rfl | h2
   ·rfl
   ·exact (gF' h1 (by rwa [show -(y - x)=x - y by grind])).elim
 le_total x y:=by
  rcases tri hn hr (y - x) with z | z | z
  ·exact .inl (.inl (by grind))
  ·exact .inl (.inr z)
  ·exact .inr (.inr (by rwa [show -(y - x)=x - y by grind] at z))
theorem lltE:Std.LawfulOrderLT (Ext r) where
 lt_iff x y:=by
  constructor
  ·intro h;refine ⟨.inr h,fun z=>?_⟩;rcases z with rfl | z
   ·rw [lt_def,show y - y=0 by grind] at h; exact hZ' h
   ·exact gF' h (by rwa [show -(y - x)=x - y by grind])
  ·intro ⟨h1,h2⟩;rcases h1 with rfl | h1
   ·exact (h2 (.inl rfl)).elim
   ·exact h1
theorem ordE (hn:∀z:F.C,z * z≠r) (hr:0 < r):@OrderedRing (Ext r) _ _ _ ((linE hn hr).toIsPartialOrder.toIsPreorder) :=
  letI:=(linE hn hr)
  { add_le_left_iff:=fun {a b} c=>by
      rw [iv',iv',show b + c - (a + c)=b - a by grind]
      constructor
      · rintro (rfl | h)
        · exact .inl rfl
        · exact .inr h
      · rintro (h | h)
        · exact .inl (by grind)
        · exact .inr h
    zero_lt_one:=by
      rw [lt_def];refine .inl ⟨?_,?_⟩
      · unfold nrm; rw [js',kA',cm',cP',bl',bI'];have:=OrderedRing.zero_lt_one (R:=F.C)
        grind
      · rw [js',cm',bl']; have:=OrderedRing.zero_lt_one (R:=F.C); grind
    mul_lt_mul_of_pos_left:=fun {a b c} h1 h2=>by
      rw [lt_def] at *;have:=gG' hr h2 h1
      rwa [show (c - 0) * (b - a)=c * b - c * a by grind] at this
    mul_lt_mul_of_pos_right:=fun {a b c} h1 h2=>by
      rw [lt_def] at *;have:=gG' hr h2 h1
      rwa [show (c - 0) * (b - a)=b * c - a * c by grind] at this }
end
end Ext
noncomputable def extOF (F:OF) (r:F.C) (hr:0 < r) (hn:∀z:F.C,z * z≠r):OF where
 C:=Ext r
 fld:=Ext.fieldE hn
 le:=inferInstance
 lt:=inferInstance
 llt:=Ext.lltE
 lin:=Ext.linE hn hr
 ord:=Ext.ordE hn hr
noncomputable def ratOF:OF where
 C:=Rat
 fld:=inferInstance
 le:=inferInstance
 lt:=inferInstance
 llt:=inferInstance
 lin:=inferInstance
 ord:=inferInstance
end Mine
namespace Mine
open PySem DL L2
open Lean.Grind
noncomputable def exOf {F:OF} (of:List Int->F.C) (r:List Int) (hr:0 < of r) (hn:∀z:F.C,z * z≠of r):List Int->(extOF F (of r) hr hn).C:=fun x=>(⟨of (frH x),of (bhH x)⟩:Ext (of r))
inductive Tow:(rs:List (List Int))->(F:OF)->(List Int->F.C)->Prop
 | nil:Tow [] ratOF (fun x=>(((x.headD 0:Int):Rat)))
 | cons {rs:List (List Int)} {F:OF} {of:List Int->F.C} (T:Tow rs F of) (r:List Int) (hl:r.length=2 ^ rs.length) (hr:0 < of r) (hn:∀z:F.C,z * z≠of r) :
   Tow (r :: rs) (extOF F (of r) hr hn) (exOf of r hr hn)
theorem Tow.sc {rs:List (List Int)} {F:OF} {of:List Int->F.C} (T:Tow rs F of):Sc rs:=by
 induction T with
 | nil=>trivial
 | cons T r hl hr hn ih=>exact ⟨hl,ih⟩
theorem jx' {x y:List Int} (h:x.length=y.length):frH (addL x y)=addL (frH x) (frH y):=by
 have hl:(addL x y).length=x.length:=by unfold addL; rw [List.length_zipWith]; omega
 unfold frH;rw [hl,<- h];unfold addL;rw [List.take_zipWith]
theorem jy' {x y:List Int} (h:x.length=y.length):bhH (addL x y)=addL (bhH x) (bhH y):=by
 have hl:(addL x y).length=x.length:=by unfold addL; rw [List.length_zipWith]; omega
 unfold bhH;rw [hl,<- h];unfold addL;rw [List.drop_zipWith]
theorem dr' {a b:List Int} (h:a.length=b.length):frH (a ++ b)=a:=by
 unfold frH;rw [List.length_append,<- h,show (a.length + a.length) / 2=a.length by omega,List.take_left'];rfl
theorem dt' {a b:List Int} (h:a.length=b.length):bhH (a ++ b)=b:=by
 unfold bhH;rw [List.length_append,<- h,show (a.length + a.length) / 2=a.length by omega,List.drop_left'];rfl
theorem jz' (f:Int->Int) (x:List Int):frH (x.map f)=(frH x).map f:=by unfold frH; rw [List.length_map,List.map_take]
theorem jA' (f:Int->Int) (x:List Int):bhH (x.map f)=(bhH x).map f:=by unfold bhH; rw [List.length_map,List.map_drop]
theorem jB' (x:List Int):frH x ++ bhH x=x:=List.take_append_drop _ x
section
variable {rs:List (List Int)} {F:OF} {of:List Int->F.C}
theorem ec' (T:Tow rs F of):∀{x y:List Int},x.length=2 ^ rs.length->y.length=2 ^ rs.length->of (addL x y)=of x + of y:=by
 induction T with
 | nil =>
  intro x y hx hy
  match x,y,hx,hy with
  | [a],[b],_,_=>exact Rat.intCast_add a b
 | @cons rs F of T r hl hr hn ih =>
  intro x y hx hy;refine Ext.eqs (r:=of r) ?_ ?_
  ·show of (frH (addL x y))=of (frH x) + of (frH y);rw [jx' (hx.trans hy.symm),ih (aE' hx) (aE' hy)]
  ·show of (bhH (addL x y))=of (bhH x) + of (bhH y);rw [jy' (hx.trans hy.symm),ih (aF' hx) (aF' hy)]
theorem ed' (T:Tow rs F of):∀{x y:List Int},x.length=2 ^ rs.length->y.length=2 ^ rs.length->of (pt rs x y)=of x * of y:=by
 induction T with
 | nil =>
  intro x y hx hy
  match x,y,hx,hy with
  | [a],[b],_,_=>exact Rat.intCast_mul a b
 | @cons rs F of T r hl hr hn ih =>
  intro x y hx hy;have S:=T.sc;have a:=aE' hx;have b:=aF' hx;have c:=aE' hy;have d:=aF' hy;have l1:=as' rs _ _ S a c;have l2:=as' rs _ _ S (as' rs _ _ S b d) hl;have l3:=as' rs _ _ S a d;have l4:=as' rs _ _ S b c;have f1:=aY' l1 l2;have f2:=aY' l3 l4;refine Ext.eqs (r:=of r) ?_ ?_
  ·show of (frH (pt (r :: rs) x y))=of (frH x) * of (frH y) + of (bhH x) * of (bhH y) * of r;rw [pt,dr' (f1.trans f2.symm),ec' T l1 l2,ih a c,ih (as' rs _ _ S b d) hl,ih b d]
  ·show of (bhH (pt (r :: rs) x y))=of (frH x) * of (bhH y) + of (bhH x) * of (frH y);rw [pt,dt' (f1.trans f2.symm),ec' T l3 l4,ih a d,ih b c]
theorem bj' (T:Tow rs F of) (k:Int):∀{x:List Int},x.length=2 ^ rs.length->of (x.map (k * ·))=(k:F.C) * of x:=by
 induction T with
 | nil =>
  intro x hx
  match x,hx with
  | [a],_=>exact Rat.intCast_mul k a
 | @cons rs F of T r hl hr hn ih =>
  intro x hx;refine Ext.eqs (r:=of r) ?_ ?_
  ·show of (frH (x.map (k * ·)))=(k:F.C) * of (frH x) + (0:F.C) * of (bhH x) * of r;rw [jz',ih (aE' hx)]; grind
  ·show of (bhH (x.map (k * ·)))=(k:F.C) * of (bhH x) + (0:F.C) * of (frH x);rw [jA',ih (aF' hx)]; grind
theorem kC' (T:Tow rs F of):∀{x y:List Int},x.length=2 ^ rs.length->y.length=2 ^ rs.length->of x=of y->x=y:=by
 induction T with
 | nil =>
  intro x y hx hy e
  match x,y,hx,hy with
  | [a],[b],_,_=>have:a=b:=Rat.intCast_inj.mp e; rw [this]
 | @cons rs F of T r hl hr hn ih =>
  intro x y hx hy e;have q1:of (frH x)=of (frH y):=congrArg (Ext.a (r:=of r)) e;have q2:of (bhH x)=of (bhH y):=congrArg (Ext.b (r:=of r)) e;have w1:=ih (aE' hx) (aE' hy) q1;have w2:=ih (aF' hx) (aF' hy) q2;rw [<- jB' x,<- jB' y,w1,w2]
theorem fe' (T:Tow rs F of) {x:List Int} (hx:x.length=2 ^ rs.length):of (x.map fun t=>-t)=-of x:=by
 rw [<- eB',bj' T (-1) hx,Ring.intCast_neg];have:((1:Int):F.C)=1:=Ring.intCast_one;rw [this]; grind
theorem dc' (T:Tow rs F of):∀(k:Int),of (k :: List.replicate (2 ^ rs.length - 1) 0)=(k:F.C):=by
 induction T with
 | nil=>intro k; rfl
 | @cons rs F of T r hl hr hn ih =>
  intro k;have p:=Nat.two_pow_pos rs.length;have e:k :: List.replicate (2 ^ (r :: rs).length - 1) 0=(k :: List.replicate (2 ^ rs.length - 1) 0) ++ (0 :: List.replicate (2 ^ rs.length - 1) 0):=by
   rw [List.cons_append]
   congr 1
   rw [<- List.replicate_succ,List.replicate_append_replicate]
   congr 1
   rw [List.length_cons,Nat.pow_succ]; omega
  rw [e];refine Ext.eqs (r:=of r) ?_ ?_
  ·show of (frH _)=(k:F.C);rw [dr' (by simp),ih]
  ·show of (bhH _)=(0:F.C);rw [dt' (by simp),ih]; exact Ring.intCast_zero
theorem du' (T:Tow rs F of):of (List.replicate (2 ^ rs.length) 0)=0:=by
 have:=dc' T 0;rw [Ring.intCast_zero] at this;rw [<- this]
 congr 1
 rw [<- List.replicate_succ]
 congr 1
 have p:=Nat.two_pow_pos rs.length;omega
theorem aT' (T:Tow rs F of):∀{k:Int},0 < k->0 < (k:F.C):=by
 intro k hk;obtain ⟨n,rfl⟩:=Int.eq_ofNat_of_zero_le (Int.le_of_lt hk);rw [Ring.intCast_natCast];have:∀n:Nat,0 < ((n + 1:Nat):F.C):=by
  intro n
  induction n with
  | zero =>
   have h1:=OrderedRing.zero_lt_one (R:=F.C);have e:((0 + 1:Nat):F.C)=1:=Semiring.natCast_one;rw [e]; exact h1
  | succ n ih =>
   have h1:=OrderedRing.zero_lt_one (R:=F.C);rw [Semiring.natCast_succ]
   grind
 match n,hk with
 | n + 1,_=>exact this n
theorem aS' (T:Tow rs F of) {k:Int} (h:k≠0):(k:F.C)≠0:=by
 rcases Int.lt_or_gt_of_ne h with c | c
 ·have:=aT' T (k:=-k) (by omega);rw [Ring.intCast_neg] at this
  grind
 ·have:=aT' T c
  grind
end
theorem Ext.pos0 {F:OF} {r:F.C} (x:Ext r):(0:Ext r) < x↔Ext.Pos x:=by
 rw [Ext.lt_def,show x - 0=x by grind]
theorem kD' {F:OF} {r:F.C} {hr:0 < r} {hn:∀z:F.C,z * z≠r} (x:(extOF F r hr hn).C):0 < x↔Ext.Pos (r:=r) x:=Ext.pos0 (r:=r) x
open Classical in
theorem eF' {F:OF} {r:F.C} {hr:0 < r} {hn:∀z:F.C,z * z≠r} (x:(extOF F r hr hn).C) :
  sgn x=if sgn (Ext.a x)=sgn (Ext.b x)\/sgn (Ext.b x)=0 then sgn (Ext.a x) else if sgn (Ext.a x)=0 then sgn (Ext.b x) else sgn (Ext.a x) * sgn (Ext.nrm x):=by
 have x0:x=0↔(Ext.a x=0/\Ext.b x=0):=⟨fun h=>by rw [h]; exact ⟨rfl,rfl⟩,fun h=>Ext.eqs h.1 h.2⟩;have xp:0 < x↔(0 < Ext.nrm x/\0 < Ext.a x)\/(Ext.nrm x < 0/\0 < Ext.b x):=kD' x;have n0:Ext.nrm x=0->x=0:=fun h=>Ext.nrm_0 hn h;have nd:Ext.nrm x=Ext.a x * Ext.a x - Ext.b x * Ext.b x * r:=rfl;have bb:=bE' (sqNN (Ext.b x)) (Std.le_of_lt hr);have aa:=sqNN (Ext.a x);have hs:sgn x=if Ext.nrm x=0 then 0 else if 0 < Ext.nrm x then sgn (Ext.a x) else sgn (Ext.b x):=by
  rcases cl' (Ext.nrm x) with ⟨h,e⟩ | ⟨h,e⟩ | ⟨h,e⟩
  ·rw [if_pos h]; exact sgn_0.mpr (n0 h)
  ·have h':Ext.nrm x≠0:=by grind
   have a0:Ext.a x≠0:=fun z=>by rw [nd,z] at h; grind
   have hx:x≠0:=fun z=>a0 (x0.mp z).1;rw [if_neg h',if_pos h];rcases cl' (Ext.a x) with ⟨h2,e2⟩ | ⟨h2,e2⟩ | ⟨h2,e2⟩
   ·exact (a0 h2).elim
   ·rw [e2]; exact sgn_p.mpr (xp.mpr (.inl ⟨h,h2⟩))
   ·rw [e2]; refine sgn_n.mpr ?_;have:¬0 < x:=fun z=>by rcases xp.mp z with q | q <;> grind
    grind
  ·have h':Ext.nrm x≠0:=by grind
   have h'':¬0 < Ext.nrm x:=by grind
   have b0:Ext.b x≠0:=fun z=>by rw [nd,z] at h; grind
   have hx:x≠0:=fun z=>b0 (x0.mp z).2;rw [if_neg h',if_neg h''];rcases cl' (Ext.b x) with ⟨h2,e2⟩ | ⟨h2,e2⟩ | ⟨h2,e2⟩
   ·exact (b0 h2).elim
   ·rw [e2]; exact sgn_p.mpr (xp.mpr (.inr ⟨h,h2⟩))
   ·rw [e2]; refine sgn_n.mpr ?_;have:¬0 < x:=fun z=>by rcases xp.mp z with q | q <;> grind
    grind
 rw [hs];have cb:Ext.b x=0->Ext.nrm x=Ext.a x * Ext.a x:=fun z=>by rw [nd,z]; grind
 have ca:Ext.a x=0->Ext.nrm x=-(Ext.b x * Ext.b x * r):=fun z=>by rw [nd,z]; grind
 rcases cl' (Ext.a x) with ⟨ha,ea⟩ | ⟨ha,ea⟩ | ⟨ha,ea⟩ <;> rcases cl' (Ext.b x) with ⟨hb,eb⟩ | ⟨hb,eb⟩ | ⟨hb,eb⟩ <;> rcases cl' (Ext.nrm x) with ⟨h,e⟩ | ⟨h,e⟩ | ⟨h,e⟩ <;> rw [ea,eb,e] <;>
  first
  | (have:=n0 h; have:=x0.mp this; grind)
  | (rw [if_neg (show ¬Ext.nrm x=0 by grind)]; first | (rw [if_pos h]; rfl) | (rw [if_neg (show ¬0 < Ext.nrm x by grind)]; rfl))
  | (have c1:=cb hb; have:=sqP (a:=Ext.a x) (by grind); grind)
  | (have c1:=ca ha; have:=mulP (sqP (a:=Ext.b x) (by grind)) hr; grind)
  | (have c1:=cb hb; grind)
  | (have c1:=ca ha; grind)
  | (rw [if_pos h]; rfl)
theorem jC' {x y:List Int} {b c:Int} (hx:Nf x b) (hy:Nf y c) (e:x.map (c * ·)=y.map (b * ·)):x=y/\b=c:=by
 have e1:=dX' c x b.natAbs;have e2:=dX' b y c.natAbs;rw [hx.one,e,Nat.mul_comm] at e1;rw [hy.one] at e2;have p1:=hx.pos;have p2:=hy.pos;have:b=c:=by omega
 subst this;refine ⟨?_,rfl⟩;have inj:∀(x y:List Int),x.map (b * ·)=y.map (b * ·)->x=y:=by
  intro x
  induction x with
  | nil=>intro y h; cases y with | nil=>rfl | cons _ _=>simp at h
  | cons a x ih =>
   intro y h
   cases y with
   | nil=>simp at h
   | cons a' y =>
    simp only [List.map_cons,List.cons.injEq] at h;rw [Int.eq_of_mul_eq_mul_left (by omega) h.1,ih y h.2]
 exact inj x y e
noncomputable def Nm {F:OF} (of:List Int->F.C) (k n:Nat) (d:D) (v:F.C):Prop :=
 ∃x b,d=num x b/\Nf x b/\x.length=2 ^ k/\Bd n x/\b.natAbs < 2 ^ n/\v=of x / (b:F.C)
section
variable {rs:List (List Int)} {F:OF} {of:List Int->F.C}
theorem Nm.mono {k n m:Nat} {d:D} {v:F.C} (h:Nm of k n d v) (e:n<=m):Nm of k m d v:=by
 obtain ⟨x,b,h1,h2,h3,h4,h5,h6⟩:=h;exact ⟨x,b,h1,h2,h3,h4.mono e,Nat.lt_of_lt_of_le h5 (Nat.pow_le_pow_right (by decide) e),h6⟩
theorem kE' {a b c d:F.C} (hb:b≠0) (hd:d≠0) (h:a / b=c / d):d * a=b * c:=by grind
theorem cn' (T:Tow rs F of) {n m:Nat} {d e:D} {v:F.C} (h1:Nm of rs.length n d v) (h2:Nm of rs.length m e v):d=e:=by
 obtain ⟨x,b,rfl,nx,lx,_,_,ex⟩:=h1;obtain ⟨y,c,rfl,ny,ly,_,_,ey⟩:=h2;have pb:=nx.pos;have pc:=ny.pos;have b0:=aS' T (show b≠0 by omega);have c0:=aS' T (show c≠0 by omega);have e:=kE' b0 c0 (ex.symm.trans ey);rw [<- bj' T c lx,<- bj' T b ly] at e;obtain ⟨rfl,rfl⟩:=jC' nx ny (kC' T (by simpa using lx) (by simpa using ly) e);rfl
open Classical in
theorem kF' (T:Tow rs F of) {n m:Nat} {d e:D} {v w:F.C} (h1:Nm of rs.length n d v) (h2:Nm of rs.length m e w):eqD d e=.ok (.bl (decide (v=w))):=by
 by_cases c:v=w
 ·subst c;have:=cn' T h1 h2;subst this;obtain ⟨x,b,rfl,_⟩:=h1;rw [gz']; simp
 ·obtain ⟨x,b,rfl,nx,lx,_,_,ex⟩:=h1;obtain ⟨y,b',rfl,ny,ly,_,_,ey⟩:=h2;rw [gz'];have:¬(x=y/\b=b'):=fun z=>c (by rw [ex,ey,z.1,z.2]);simp only [c,decide_false]
  congr 2
  simpa using this
theorem iw' (T:Tow rs F of) {ts:List Int} {b:Int} {n:Nat} (hl:ts.length=2 ^ rs.length) (hb:b≠0) (h1:Bd n ts) (h2:b.natAbs < 2 ^ n) :
  ∃K x c,K≠0/\ts=x.map (K * ·)/\b=K * c/\Nf x c/\x.length=2 ^ rs.length/\K.natAbs < 2 ^ n/\Nm of rs.length n (num x c) (of ts / (b:F.C)):=by
 obtain ⟨K,x,c,k0,e1,e2,nf,el⟩:=lg' ts hb;have cp:=nf.pos;have xl:x.length=2 ^ rs.length:=el.trans hl;have kb:K.natAbs < 2 ^ n:=by
  rw [e2,Int.natAbs_mul] at h2;exact Nat.lt_of_le_of_lt (Nat.le_mul_of_pos_right _ (by omega)) h2
 refine ⟨K,x,c,k0,e1,e2,nf,xl,kb,x,c,rfl,nf,xl,fun t ht=>?_,?_,?_⟩
 ·have:=h1 (K * t) (by rw [e1]; exact List.mem_map.mpr ⟨t,ht,rfl⟩);rw [Int.natAbs_mul] at this;exact Nat.lt_of_le_of_lt (Nat.le_mul_of_pos_left _ (by omega)) this
 ·rw [e2,Int.natAbs_mul] at h2;exact Nat.lt_of_le_of_lt (Nat.le_mul_of_pos_left _ (by omega)) h2
 ·have kz:=aS' T k0;have cz:=aS' T (show c≠0 by omega);rw [e1,e2,bj' T K xl,Ring.intCast_mul]
  grind
theorem dv' (T:Tow rs F of) {n:Nat} (hn:0 < n):Nm of rs.length n (num (List.replicate (2 ^ rs.length) 0) 1) 0:=by
 have p:1 < 2 ^ n:=by
  have:=Nat.pow_le_pow_right (show 2 > 0 by decide) hn;have e:2 ^ (0 + 1)=2:=rfl;rw [e] at this; omega
 refine ⟨_,1,rfl,fI' _,by simp,fun t ht=>?_,p,?_⟩
 ·rw [List.eq_of_mem_replicate ht]; exact Nat.two_pow_pos n
 ·rw [du' T]; grind
theorem kG' (T:Tow rs F of) {n:Nat} {k:Int} (hn:0 < n) (hk:k.natAbs < 2 ^ n):Nm of rs.length n (num (k :: List.replicate (2 ^ rs.length - 1) 0) 1) (k:F.C):=by
 have p:1 < 2 ^ n:=by
  have:=Nat.pow_le_pow_right (show 2 > 0 by decide) hn;have e:2 ^ (0 + 1)=2:=rfl;rw [e] at this; omega
 have q:=Nat.two_pow_pos rs.length;refine ⟨_,1,rfl,kx' _,by simp; omega,fun t ht=>?_,p,?_⟩
 ·rcases List.mem_cons.mp ht with z | z
  ·rw [z]; exact hk
  ·rw [List.eq_of_mem_replicate z]; exact Nat.two_pow_pos n
 ·rw [dc' T];have:((1:Int):F.C)=1:=Ring.intCast_one;rw [this]; grind
theorem Nm.zero_iff (T:Tow rs F of) {n:Nat} {x:List Int} {b:Int} {v:F.C} (h:Nm of rs.length n (num x b) v):v=0↔zA x=true:=by
 have hz:=dv' T (n:=1) (by decide)
 constructor
 ·intro e;subst e;have:=cn' T h hz;obtain ⟨y,c,e,_,ly,_,_,_⟩:=h;simp only [num,D.tup.injEq,List.cons.injEq,D.int.injEq,and_true] at this;obtain ⟨q,_⟩:=this;unfold zA;have:∀t∈x,t=0:=fun t ht=>by
   have:D.int t∈(List.replicate (2 ^ rs.length) (0:Int)).map D.int:=by rw [<- q]; exact List.mem_map.mpr ⟨t,ht,rfl⟩
   obtain ⟨u,hu,e⟩:=List.mem_map.mp this;rw [List.eq_of_mem_replicate hu] at e;injection e with e; exact e.symm
  rw [List.all_eq_true];intro t ht; rw [this t ht]; rfl
 ·intro e;obtain ⟨y,c,e',ny,ly,_,_,ev⟩:=h;simp only [num,D.tup.injEq,List.cons.injEq,D.int.injEq,and_true] at e';have:x=y:=by
   have inj:∀(x y:List Int),x.map D.int=y.map D.int->x=y:=by
    intro x
    induction x with
    | nil=>intro y h; cases y with | nil=>rfl | cons _ _=>simp at h
    | cons a x ih =>
     intro y h
     cases y with
     | nil=>simp at h
     | cons a' y =>
      simp only [List.map_cons,List.cons.injEq,D.int.injEq] at h;rw [h.1,ih y h.2]
   exact inj _ _ e'.1
  subst this;have:x=List.replicate (2 ^ rs.length) 0:=by
   rw [<- ly];refine List.eq_replicate_iff.mpr ⟨rfl,fun t ht=>?_⟩;unfold zA at e;rw [List.all_eq_true] at e;have:=e t ht;simpa using this
  rw [ev,this,du' T]; grind
end
abbrev hd0:List Int->ratOF.C:=fun x=>(((x.headD 0:Int):Rat))
noncomputable def NS {F:OF} (d:F.C):Prop:=∀z:F.C,z * z≠d
theorem jD' {n r:Int} (hr:0<=r) (h1:r * r < n) (h2:n < (r + 1) * (r + 1)) (z:Rat):z * z≠(n:Rat):=by
 intro e;have hd:((z.den:Int):Rat)≠0:=fun q=>z.den_nz (by have:=Rat.intCast_eq_zero_iff.mp q; omega);have hz:z * ((z.den:Int):Rat)=(z.num:Rat):=by
  have:=Rat.num_divInt_den z;rw [Rat.divInt_eq_div] at this
  grind
 have e2:((z.num * z.num:Int):Rat)=(((z.den:Int) * (z.den:Int) * n:Int):Rat):=by
  rw [Rat.intCast_mul,Rat.intCast_mul,Rat.intCast_mul,<- hz,<- e]
  grind
 have:=nosq hr h1 h2 (Rat.intCast_inj.mp e2);have:=z.den_nz;omega
theorem gH' {n r:Int} (hr:0<=r) (h1:r * r < n) (h2:n < (r + 1) * (r + 1)):NS (F:=ratOF) ((n:Int):Rat):=jD' hr h1 h2
section
variable {F:OF} {r:F.C} {hr:0 < r} {hn:∀z:F.C,z * z≠r}
noncomputable def mkE (hr:0 < r) (hn:∀z:F.C,z * z≠r) (a b:F.C):(extOF F r hr hn).C:=(⟨a,b⟩:Ext r)
theorem ia' {d:F.C} (h1:NS d) (h2:NS (d * r)):NS (mkE hr hn d 0):=by
 intro z e;have ea:Ext.a (r:=r) z * Ext.a z + Ext.b z * Ext.b z * r=d:=congrArg (Ext.a (r:=r)) e;have eb:Ext.a (r:=r) z * Ext.b z + Ext.b z * Ext.a z=0:=congrArg (Ext.b (r:=r)) e;generalize Ext.a (r:=r) z=a at *;generalize Ext.b (r:=r) z=b at *;have t:a * b=0:=by
  have:(2:F.C)≠0:=by
   have:=OrderedRing.zero_lt_one (R:=F.C)
   grind
  have q:(2:F.C) * (a * b)=0:=by grind
  rcases mul0 q with q | q
  ·exact (this q).elim
  ·exact q
 rcases mul0 t with q | q
 ·exact h2 (b * r) (by subst q; grind)
 ·exact h1 a (by subst q; grind)
theorem ix' {d:Ext r} (h:Ext.nrm d < 0):NS (F:=extOF F r hr hn) d:=by
 intro z e;have:Ext.nrm (r:=r) z * Ext.nrm z=Ext.nrm d:=(Ext.nrm_mul (r:=r) z z).symm.trans (congrArg (Ext.nrm (r:=r)) e);have:=sqNN (Ext.nrm (r:=r) z)
 grind
theorem eG' {a b:F.C} (ha:0<=a) (hb:0 < b):0 < mkE hr hn a b:=by
 have es:=eF' (mkE hr hn a b);have eb:sgn b=1:=sgn_p.mpr hb;have es':sgn (mkE hr hn a b)=if sgn a=sgn b\/sgn b=0 then sgn a else if sgn a=0 then sgn b else sgn a * sgn (Ext.nrm (⟨a,b⟩:Ext r)):=es
 refine sgn_p.mp ?_;rw [es',eb];rcases cl' a with ⟨h,e⟩ | ⟨h,e⟩ | ⟨h,e⟩
 ·rw [e]; rfl
 ·rw [e]; rfl
 ·exfalso; grind
theorem bW' {a:F.C} (ha:0 < a):0 < mkE hr hn a 0:=by
 have es:=eF' (mkE hr hn a 0);have ea:sgn a=1:=sgn_p.mpr ha;have e0:sgn (0:F.C)=0:=sgn_0.mpr rfl;have es':sgn (mkE hr hn a 0)=if sgn a=sgn (0:F.C)\/sgn (0:F.C)=0 then sgn a else if sgn a=0 then sgn (0:F.C) else sgn a * sgn (Ext.nrm (⟨a,0⟩:Ext r)):=es
 refine sgn_p.mp ?_;rw [es',ea,e0]; rfl
end
noncomputable def IsSc (rs:List (List Int)):Prop:=∃(F:OF) (of:List Int->F.C),Tow rs F of
theorem iy' {m r:Int} (hr:0<=r) (h1:r * r < m) (h2:m < (r + 1) * (r + 1)):∃(hp:0 < hd0 [m]) (hn:∀z:ratOF.C,z * z≠hd0 [m]),Tow [[m]] (extOF ratOF (hd0 [m]) hp hn) (exOf hd0 [m] hp hn):=by
 have hp:0 < hd0 [m]:=by
  have:0 < m:=Int.lt_of_le_of_lt (Int.mul_nonneg hr hr) h1;exact (Rat.intCast_pos.mpr this:(0:Rat) < ((m:Int):Rat))
 exact ⟨hp,gH' hr h1 h2,Tow.cons Tow.nil [m] rfl hp (gH' hr h1 h2)⟩
theorem eH' {a b:Int} (h:a < b):((a:Int):Rat) < ((b:Int):Rat):=Rat.intCast_lt_intCast.mpr h
theorem lh' {a b:Int} (h:a<=b):((a:Int):Rat)<=((b:Int):Rat):=Rat.intCast_le_intCast.mpr h
theorem frH2 (a b:Int):frH [a,b]=[a]:=by simp [frH]
theorem bhH2 (a b:Int):bhH [a,b]=[b]:=by simp [bhH]
theorem frH4 (a b c d:Int):frH [a,b,c,d]=[a,b]:=by simp [frH]
theorem bhH4 (a b c d:Int):bhH [a,b,c,d]=[c,d]:=by simp [bhH]
theorem exE {F:OF} {of:List Int->F.C} {r:List Int} {hr:0 < of r} {hn:∀z:F.C,z * z≠of r} {x y z:List Int} (h1:frH x=y) (h2:bhH x=z):exOf of r hr hn x=mkE hr hn (of y) (of z):=by subst h1 h2; rfl
theorem ex2 {m:Int} {hp:0 < hd0 [m]} {hn:∀z:ratOF.C,z * z≠hd0 [m]} (a b:Int):exOf hd0 [m] hp hn [a,b]=mkE hp hn ((a:Int):Rat) ((b:Int):Rat):=exE (frH2 a b) (bhH2 a b)
theorem gI' {m r c b e k:Int} (hr:0 < r) (h1:r * r < m) (h2:m < (r + 1) * (r + 1)) (hb:0 < b) (hc0:0<=c) (hc:c<=b * r) (he:0<=e) (hk:e < k):IsSc [[m]]/\IsSc [[c,b],[m]]/\IsSc [[e,0,k,0],[c,b],[m]]:=by
 obtain ⟨hp,hn,T1⟩:=iy' (Int.le_of_lt hr) h1 h2;have T1':IsSc [[m]]:=⟨_,_,T1⟩;have m1:1 < m:=by
  have:=Int.mul_le_mul (show 1<=r by omega) (show 1<=r by omega) (by decide) (by omega);omega
 have p2:0 < exOf (F:=ratOF) hd0 [m] hp hn [c,b]:=by rw [ex2]; exact eG' (F:=ratOF) (lh' hc0) (eH' hb)
 have n2:Ext.nrm (F:=ratOF) (r:=((m:Int):Rat)) ⟨((c:Int):Rat),((b:Int):Rat)⟩ < (0:Rat):=by
  have q:c * c - b * b * m < 0:=by
   have q1:=Int.mul_le_mul hc hc hc0 (Int.mul_nonneg (Int.le_of_lt hb) (Int.le_of_lt hr));have q2:=Int.mul_lt_mul_of_pos_left h1 (Int.mul_pos hb hb);have e1:b * r * (b * r)=b * b * (r * r):=by grind
   omega
  have:=eH' q;rw [show ((c * c - b * b * m:Int):Rat)=((c:Int):Rat) * ((c:Int):Rat) - ((b:Int):Rat) * ((b:Int):Rat) * ((m:Int):Rat) by rw [Rat.intCast_sub,Rat.intCast_mul,Rat.intCast_mul,Rat.intCast_mul]] at this;exact this
 have s2:NS (exOf (F:=ratOF) hd0 [m] hp hn [c,b]):=by rw [ex2]; exact ix' (F:=ratOF) n2
 have T2:=Tow.cons T1 [c,b] rfl p2 s2;refine ⟨T1',⟨_,_,T2⟩,?_⟩;have e4:frH [e,0,k,0]=[e,0]:=frH4 ..;have e5:bhH [e,0,k,0]=[k,0]:=bhH4 ..;have pk:0 < exOf (F:=ratOF) hd0 [m] hp hn [k,0]:=by
  rw [ex2]; exact bW' (F:=ratOF) (eH' (show 0 < k by omega))
 have pe:0<=exOf (F:=ratOF) hd0 [m] hp hn [e,0]:=by
  by_cases z:e=0
  ·subst z;have:exOf (F:=ratOF) hd0 [m] hp hn [0,0]=0:=by rw [ex2]; exact Ext.eqs (F:=ratOF) rfl rfl
   rw [this]; exact Std.le_refl _
  ·rw [ex2]; exact Std.le_of_lt (bW' (F:=ratOF) (eH' (show 0 < e by omega)))
 have p3:=eG' (F:=extOF ratOF _ hp hn) (r:=exOf (F:=ratOF) hd0 [m] hp hn [c,b]) (hr:=p2) (hn:=s2) pe pk;have n3:Ext.nrm (F:=extOF ratOF _ hp hn) (r:=exOf (F:=ratOF) hd0 [m] hp hn [c,b]) ⟨exOf (F:=ratOF) hd0 [m] hp hn [e,0],exOf (F:=ratOF) hd0 [m] hp hn [k,0]⟩ < 0:=by
  have ne_:exOf (F:=ratOF) hd0 [m] hp hn [e,0]=((e:Int):(extOF ratOF _ hp hn).C):=dc' T1 e;have nk_:exOf (F:=ratOF) hd0 [m] hp hn [k,0]=((k:Int):(extOF ratOF _ hp hn).C):=dc' T1 k;have nm_:exOf (F:=ratOF) hd0 [m] hp hn [m,0]=((m:Int):(extOF ratOF _ hp hn).C):=dc' T1 m;have nc_:exOf (F:=ratOF) hd0 [m] hp hn [c,0]=((c:Int):(extOF ratOF _ hp hn).C):=dc' T1 c;have hs:∃s:(extOF ratOF _ hp hn).C,0 < s/\s * s=((m:Int):(extOF ratOF _ hp hn).C)/\exOf (F:=ratOF) hd0 [m] hp hn [c,b]=((c:Int):(extOF ratOF _ hp hn).C) + ((b:Int):(extOF ratOF _ hp hn).C) * s:=by
   refine ⟨exOf (F:=ratOF) hd0 [m] hp hn [0,1],by rw [ex2]; exact eG' (F:=ratOF) (Std.le_refl _) (eH' (by decide)),?_,?_⟩
   ·rw [<- nm_,ex2,ex2];refine Ext.eqs (F:=ratOF) ?_ ?_
    ·show ((0:Int):Rat) * ((0:Int):Rat) + ((1:Int):Rat) * ((1:Int):Rat) * ((m:Int):Rat)=((m:Int):Rat);rw [show ((0:Int):Rat)=0 from rfl,show ((1:Int):Rat)=1 from rfl]; grind
    ·show ((0:Int):Rat) * ((1:Int):Rat) + ((1:Int):Rat) * ((0:Int):Rat)=((0:Int):Rat);rw [show ((0:Int):Rat)=0 from rfl,show ((1:Int):Rat)=1 from rfl]; grind
   ·rw [ex2,ex2];refine Ext.eqs (F:=ratOF) ?_ ?_
    ·show ((c:Int):Rat)=((c:Int):Rat) + (((b:Int):Rat) * ((0:Int):Rat) + (0:Rat) * ((1:Int):Rat) * ((m:Int):Rat));rw [show ((0:Int):Rat)=0 from rfl]; grind
    ·show ((b:Int):Rat)=(0:Rat) + (((b:Int):Rat) * ((1:Int):Rat) + (0:Rat) * ((0:Int):Rat));rw [show ((0:Int):Rat)=0 from rfl,show ((1:Int):Rat)=1 from rfl]; grind
  obtain ⟨s,sp,ss,hv⟩:=hs;unfold Ext.nrm;dsimp only;rw [ne_,nk_,hv];have cm1:(1:(extOF ratOF _ hp hn).C) < ((m:Int):(extOF ratOF _ hp hn).C):=by
   have:=aT' T1 (k:=m - 1) (by omega);rw [Ring.intCast_sub,Ring.intCast_one] at this; grind
  have cc0:0<=((c:Int):(extOF ratOF _ hp hn).C):=by
   by_cases z:c=0
   ·rw [z,Ring.intCast_zero]; exact Std.le_refl _
   ·exact Std.le_of_lt (aT' T1 (by omega))
  have ce0:0<=((e:Int):(extOF ratOF _ hp hn).C):=by
   by_cases z:e=0
   ·rw [z,Ring.intCast_zero]; exact Std.le_refl _
   ·exact Std.le_of_lt (aT' T1 (by omega))
  have cek:((e:Int):(extOF ratOF _ hp hn).C) < ((k:Int):(extOF ratOF _ hp hn).C):=by
   have:=aT' T1 (k:=k - e) (by omega);rw [Ring.intCast_sub] at this; grind
  have cb1:1<=((b:Int):(extOF ratOF _ hp hn).C):=by
   by_cases z:b=1
   ·rw [z,Ring.intCast_one]; exact Std.le_refl _
   ·have:=aT' T1 (k:=b - 1) (by omega);rw [Ring.intCast_sub,Ring.intCast_one] at this; grind
  generalize ((m:Int):(extOF ratOF _ hp hn).C)=M at *;generalize ((c:Int):(extOF ratOF _ hp hn).C)=A at *;generalize ((b:Int):(extOF ratOF _ hp hn).C)=B at *;generalize ((e:Int):(extOF ratOF _ hp hn).C)=E at *;generalize ((k:Int):(extOF ratOF _ hp hn).C)=K at *;have s1:1 < s:=by
   by_cases q:1 < s
   ·exact q
   ·have:=bE' (a:=1 - s) (b:=1 + s) (by grind) (by grind)
    grind
  have bs:1 < B * s:=by
   have:=bE' (a:=B - 1) (b:=s) (by grind) (by grind)
   grind
  have ee:=dq' ce0 cek ce0 cek;have kk:=sqNN K;have q:=bE' (a:=K * K) (b:=A + B * s - 1) kk (by grind)
  grind
 have ee:exOf (exOf hd0 [m] hp hn) [c,b] p2 s2 [e,0,k,0]=mkE p2 s2 (exOf hd0 [m] hp hn [e,0]) (exOf hd0 [m] hp hn [k,0]):=exE e4 e5;exact ⟨_,_,Tow.cons T2 [e,0,k,0] rfl (by rw [ee]; exact p3) (by rw [ee]; exact ix' (F:=extOF ratOF _ hp hn) n3)⟩
theorem bm' {p q s:Int} (hp:0 < p) (hq:0 < q) (hs:0 < s) (h:∀n∈[p,q,q * p,s,s * p,s * q,s * q * p],∃r:Int,0<=r/\r * r < n/\n < (r + 1) * (r + 1)):IsSc [[p]]/\IsSc [[q,0],[p]]/\IsSc [[s,0,0,0],[q,0],[p]]:=by
 have ns:∀n∈[p,q,q * p,s,s * p,s * q,s * q * p],NS (F:=ratOF) ((n:Int):Rat):=fun n hn=>by
  obtain ⟨r,a,b,c⟩:=h n hn;exact gH' a b c
 obtain ⟨r,a,b,c⟩:=h p (by simp);obtain ⟨h1,h2,T1⟩:=iy' a b c;have p2:0 < exOf (F:=ratOF) hd0 [p] h1 h2 [q,0]:=by rw [ex2]; exact bW' (F:=ratOF) (eH' hq)
 have n2:NS (exOf (F:=ratOF) hd0 [p] h1 h2 [q,0]):=by
  rw [ex2];exact ia' (F:=ratOF) (ns q (by simp)) (by
  have:=ns (q * p) (by simp);rw [Rat.intCast_mul] at this; exact this)
 have T2:=Tow.cons T1 [q,0] rfl p2 n2;refine ⟨⟨_,_,T1⟩,⟨_,_,T2⟩,?_⟩;have zz:exOf (F:=ratOF) hd0 [p] h1 h2 [0,0]=0:=by rw [ex2]; exact Ext.eqs (F:=ratOF) rfl rfl
 have p3:=bW' (F:=extOF ratOF _ h1 h2) (r:=exOf (F:=ratOF) hd0 [p] h1 h2 [q,0]) (hr:=p2) (hn:=n2) (a:=exOf (F:=ratOF) hd0 [p] h1 h2 [s,0]) (by rw [ex2]; exact bW' (F:=ratOF) (eH' hs));have a1:NS (exOf (F:=ratOF) hd0 [p] h1 h2 [s,0]):=by
  rw [ex2];exact ia' (F:=ratOF) (ns s (by simp)) (by
  have:=ns (s * p) (by simp);rw [Rat.intCast_mul] at this; exact this)
 have a2:NS (exOf (F:=ratOF) hd0 [p] h1 h2 [s,0] * exOf (F:=ratOF) hd0 [p] h1 h2 [q,0]):=by
  have e:exOf (F:=ratOF) hd0 [p] h1 h2 [s,0] * exOf (F:=ratOF) hd0 [p] h1 h2 [q,0]=exOf (F:=ratOF) hd0 [p] h1 h2 [s * q,0]:=by
   rw [ex2,ex2,ex2];refine Ext.eqs (F:=ratOF) ?_ ?_
   ·show ((s:Int):Rat) * ((q:Int):Rat) + ((0:Int):Rat) * ((0:Int):Rat) * ((p:Int):Rat)=(((s * q:Int)):Rat);rw [Rat.intCast_mul,show ((0:Int):Rat)=0 from rfl]; grind
   ·show ((s:Int):Rat) * ((0:Int):Rat) + ((0:Int):Rat) * ((q:Int):Rat)=((0:Int):Rat);rw [show ((0:Int):Rat)=0 from rfl]; grind
  rw [e,ex2];exact ia' (F:=ratOF) (ns (s * q) (by simp)) (by
   have:=ns (s * q * p) (by simp);rw [Rat.intCast_mul] at this; exact this)
 have n3:=ia' (F:=extOF ratOF _ h1 h2) (r:=exOf (F:=ratOF) hd0 [p] h1 h2 [q,0]) (hr:=p2) (hn:=n2) a1 a2;have ee:exOf (F:=extOF ratOF _ h1 h2) (exOf (F:=ratOF) hd0 [p] h1 h2) [q,0] p2 n2 [s,0,0,0]=mkE p2 n2 (exOf (F:=ratOF) hd0 [p] h1 h2 [s,0]) 0:=(exE (frH4 s 0 0 0) (bhH4 s 0 0 0)).trans (by rw [zz]);exact ⟨_,_,Tow.cons T2 [s,0,0,0] rfl (by rw [ee]; exact p3) (by rw [ee]; exact n3)⟩
end Mine
namespace DL
open PySem PySem.Spec PyProof.Rows L2
end DL
local macro_rules
 | `(tactic| push_cast [$xs,*]) => `(tactic| simp only [DL.ap_seq, DL.sq_nxt, DL.sq_ret, DL.sq_err, DL.ap_set, DL.on_ok, DL.on_err, DL.ont_ok, DL.onl_ok, DL.ap_if, DL.ap_two, DL.ap_bF, DL.ap_bT, DL.ap_bL, DL.ap_cons, DL.ap_tup, DL.ap_lst, DL.ap_ret, DL.ap_expr, DL.ap_neg, DL.neg_ok, DL.ap_notT, DL.ap_andT, DL.ap_orT, DL.ap_andV, DL.ap_for, DL.ap_slice, DL.ap_part, DL.ap_noPart, DL.part_int, DL.out_ret, DL.out_err, DL.cmp_ok, DL.add_ok, DL.sub_ok, DL.bool_ok, DL.truth_bl, DL.abs_ok, DL.len_tup, DL.len_lst, DL.tuple_lst, DL.seq_tup, DL.seq_lst, DL.vw_val, DL.vw_arg, DL.eqI, DL.neI, DL.bnd_ok, DL.mulE_i, DL.sl0, DL.st0, DL.sl1, DL.st1, DL.sl2, DL.st2, DL.sl3, DL.st3, DL.sl4, DL.st4, DL.sl5, DL.st5, DL.sl6, DL.st6, DL.sl7, DL.st7, DL.sl8, DL.st8, DL.sl9, DL.st9, DL.sl10, DL.st10, DL.tup1, DL.tup2, DL.lst2, DL.tup3, DL.tup4, DL.lst4, DL.lst5, DL.lst6, DL.ix_tup0, DL.ix_lst0, DL.ix_tup1, DL.ix_lst1, DL.ix_tup2, DL.ix_lst2, DL.ix_lst3, ↓reduceIte, decide_true, decide_false, Bool.not_true, Bool.not_false, Bool.false_eq_true, Int.reduceEq, Int.reduceNe, Int.reduceLT, Int.reduceLE, Nat.reduceAdd, DL.cN0, DL.cN1, DL.cN2, List.length_cons, List.length_nil, $xs,*])
namespace Mine
open PySem DL L2
open Lean.Grind
section
variable {F:OF} {r:F.C} {hr:0 < r} {hn:∀z:F.C,z * z≠r}
end
section
variable {rs:List (List Int)} {F:OF} {of:List Int->F.C}
end
end Mine
set_option maxHeartbeats 4000000
namespace Bk
open PySem PySem.Spec PyProof.Rows L2 DL
noncomputable def is_int:D->Option Bool
 | .non=>some false
 | .bl _=>some true
 | .int _=>some true
 | .str _=>some false
 | .tup _=>some false
 | .lst _=>some false
 | .dct=>some false
 | _=>none
noncomputable def is_bool:D->Option Bool
 | .non=>some false
 | .bl _=>some true
 | .int _=>some false
 | .str _=>some false
 | .tup _=>some false
 | .lst _=>some false
 | .dct=>some false
 | _=>none
noncomputable def is_tuple:D->Option Bool
 | .non=>some false
 | .bl _=>some false
 | .int _=>some false
 | .str _=>some false
 | .tup _=>some true
 | .lst _=>some false
 | .dct=>some false
 | _=>none
noncomputable def absAt (i:Nat) (δ:DS):Nat:=match δ[i]? with
 | some (some sv)=>(match sv.view with | .int i=>i.natAbs + 1 | _=>0)
 | _=>0
noncomputable def fuel_qH_1:DS->Nat:=absAt 3
noncomputable def b_qH:DS->Out :=
 (seqD (setD 2 (bindF (consD (slotD 0) (fun _=>.ok [])) absG)) (seqD (setD 3 (bindF (consD (slotD 1) (fun _=>.ok [])) absG)) (seqD (whileF fuel_qH_1 (bindT (two (slotD 3) (fun _=>.ok (.int 0)) neD) boolD) (seqD (setD 4 (two (slotD 2) (slotD 3) modD)) (seqD (setD 2 (slotD 3)) (setD 3 (slotD 4))))) (retD (slotD 2)))))
noncomputable def F_qH:List D->Res D:=fnD 2 5 b_qH
noncomputable def b_qI:DS->Out :=
 (retD (tupF (consD (two (two (slotD 0) (fun _=>.ok (.int 0)) ixD) (two (tupF (consD (fun _=>.ok (.int 0)) (fun _=>.ok []))) (two (two (fun _=>.ok (.int 1)) (slotD 1) shlD) (bindF (consD (two (slotD 0) (fun _=>.ok (.int 0)) ixD) (fun _=>.ok [])) lenG) subD) mulE) addD) (consD (two (slotD 0) (fun _=>.ok (.int 1)) ixD) (fun _=>.ok [])))))
noncomputable def F_qI:List D->Res D:=fnD 2 2 b_qI
noncomputable def b_qh:DS->Out :=
 (retD (bindF (consD (compD 1 [] (tgtN 0) (two (slotD 0) (fun _=>.ok (.int 0)) eqD) (bindL (slotD 0) seqItems)) (fun _=>.ok [])) allG))
noncomputable def F_qh:List D->Res D:=fnD 1 1 b_qh
noncomputable def b_qo:DS->Out :=
 (retD (sliceF (slotD 0) noPart (partF (two (bindF (consD (slotD 0) (fun _=>.ok [])) lenG) (fun _=>.ok (.int 2)) fdivD))))
noncomputable def F_qo:List D->Res D:=fnD 1 1 b_qo
noncomputable def b_qi:DS->Out :=
 (retD (sliceF (slotD 0) (partF (two (bindF (consD (slotD 0) (fun _=>.ok [])) lenG) (fun _=>.ok (.int 2)) fdivD)) noPart))
noncomputable def F_qi:List D->Res D:=fnD 1 1 b_qi
noncomputable def b_qf:DS->Out :=
 (retD (bindF (consD (compD 1 [] (tgtN 0) (negF (slotD 0)) (bindL (slotD 0) seqItems)) (fun _=>.ok [])) tupleG))
noncomputable def F_qf:List D->Res D:=fnD 1 1 b_qf
noncomputable def b_qA:DS->Out :=
 (seqD (ifS (bindT (two (slotD 1) (bindF (consD (slotD 0) (fun _=>.ok [])) lenG) (cmpD fun i j=>decide (i < j))) boolD) (retD (two (slotD 0) (slotD 1) ixD)) Out.nxt) (retD (fun _=>.ok (.int 0))))
noncomputable def F_qA:List D->Res D:=fnD 2 2 b_qA
noncomputable def b_qu:DS->Out :=
 (retD (andV (bindF (slotD 0) (isG Bk.is_int)) (notV (bindF (slotD 0) (isG Bk.is_bool)))))
noncomputable def F_qu:List D->Res D:=fnD 1 1 b_qu
noncomputable def fuel_qq_1:DS->Nat:=absAt 1
noncomputable def b_qq:DS->Out :=
 (seqD (whileF fuel_qq_1 (bindT (two (slotD 1) (fun _=>.ok (.int 0)) neD) boolD) (seqD (setD 2 (two (slotD 0) (slotD 1) modD)) (seqD (setD 0 (slotD 1)) (setD 1 (slotD 2))))) (retD (bindF (consD (slotD 0) (fun _=>.ok [])) absG)))
noncomputable def F_qq:List D->Res D:=fnD 2 3 b_qq
noncomputable def b_qw:DS->Out :=
 (retD (bindF (consD (compD 2 [] (tupTgt [0,1]) (two (slotD 0) (slotD 1) addD) (bindRg (consD (slotD 0) (consD (slotD 1) (fun _=>.ok []))) zipG)) (fun _=>.ok [])) tupleG))
noncomputable def F_qw:List D->Res D:=fnD 2 2 b_qw
noncomputable def b_qp:DS->Out :=
 (retD (bindF (consD (compD 1 [0] (tgtN 0) (two (slotD 1) (slotD 0) mulE) (bindL (slotD 1) seqItems)) (fun _=>.ok [])) tupleG))
noncomputable def F_qp:List D->Res D:=fnD 2 2 b_qp
noncomputable def b_qM:DS->Out :=
 (seqD (ifS (bindT (two (slotD 1) (fun _=>.ok (.int 0)) eqD) boolD) (raiseD "NoOver" (consD (fun _=>.ok (.str "no number has the bottom nought")) (fun _=>.ok []))) Out.nxt) (seqD (setD 2 (slotD 1)) (seqD (forS (tgtN 3) (bindL (slotD 0) seqItems) (setD 2 (bindF (consD (slotD 2) (consD (slotD 3) (fun _=>.ok []))) F_qH))) (seqD (ifS (bindT (two (slotD 1) (fun _=>.ok (.int 0)) (cmpD fun i j=>decide (i < j))) boolD) (setD 2 (negF (slotD 2))) Out.nxt) (retD (tupF (consD (bindF (consD (compD 1 [2] (tgtN 0) (two (slotD 0) (slotD 1) fdivD) (bindL (slotD 0) seqItems)) (fun _=>.ok [])) tupleG) (consD (two (slotD 1) (slotD 2) fdivD) (fun _=>.ok [])))))))))
noncomputable def F_qM:List D->Res D:=fnD 2 4 b_qM
noncomputable def b_qE:DS->Out :=
 (retD (tupF (consD (bindF (consD (two (slotD 0) (fun _=>.ok (.int 0)) ixD) (fun _=>.ok [])) F_qf) (consD (two (slotD 0) (fun _=>.ok (.int 1)) ixD) (fun _=>.ok [])))))
noncomputable def F_qE:List D->Res D:=fnD 1 1 b_qE
noncomputable def b_qc:DS->Out :=
 (seqD (ifS (orT (notT (bindT (bindF (slotD 0) (isG Bk.is_tuple)) truthD)) (orT (bindT (two (bindF (consD (slotD 0) (fun _=>.ok [])) lenG) (fun _=>.ok (.int 2)) neD) boolD) (notT (bindT (bindF (two (slotD 0) (fun _=>.ok (.int 0)) ixD) (isG Bk.is_tuple)) truthD)))) (retD (fun _=>.ok (.bl false))) Out.nxt) (seqD (ifS (orT (bindT (two (bindF (consD (two (slotD 0) (fun _=>.ok (.int 0)) ixD) (fun _=>.ok [])) lenG) (slotD 1) neD) boolD) (orT (notT (bindT (bindF (consD (two (slotD 0) (fun _=>.ok (.int 1)) ixD) (fun _=>.ok [])) F_qu) truthD)) (bindT (two (two (slotD 0) (fun _=>.ok (.int 1)) ixD) (fun _=>.ok (.int 1)) (cmpD fun i j=>decide (i < j))) boolD))) (retD (fun _=>.ok (.bl false))) Out.nxt) (seqD (setD 2 (two (slotD 0) (fun _=>.ok (.int 1)) ixD)) (seqD (forS (tgtN 3) (bindL (two (slotD 0) (fun _=>.ok (.int 0)) ixD) seqItems) (seqD (ifS (notT (bindT (bindF (consD (slotD 3) (fun _=>.ok [])) F_qu) truthD)) (retD (fun _=>.ok (.bl false))) Out.nxt) (setD 2 (bindF (consD (slotD 2) (consD (slotD 3) (fun _=>.ok []))) F_qq)))) (retD (two (slotD 2) (fun _=>.ok (.int 1)) eqD))))))
noncomputable def F_qc:List D->Res D:=fnD 2 4 b_qc
noncomputable def b_qF:DS->Out :=
 (retD (tupF (consD (bindF (consD (bindF (consD (two (slotD 1) (fun _=>.ok (.int 1)) ixD) (consD (two (slotD 0) (fun _=>.ok (.int 0)) ixD) (fun _=>.ok []))) F_qp) (consD (bindF (consD (two (slotD 0) (fun _=>.ok (.int 1)) ixD) (consD (two (slotD 1) (fun _=>.ok (.int 0)) ixD) (fun _=>.ok []))) F_qp) (fun _=>.ok []))) F_qw) (consD (two (two (slotD 0) (fun _=>.ok (.int 1)) ixD) (two (slotD 1) (fun _=>.ok (.int 1)) ixD) mulE) (fun _=>.ok [])))))
noncomputable def F_qF:List D->Res D:=fnD 2 2 b_qF
noncomputable def b_qN:DS->Out :=
 (seqD (setD 2 (compD 2 [1,0] (tupTgt [0,1]) (two (two (slotD 0) (two (slotD 2) (fun _=>.ok (.int 1)) ixD) mulE) (two (slotD 1) (two (slotD 3) (fun _=>.ok (.int 1)) ixD) mulE) addD) (bindRg (consD (two (slotD 0) (fun _=>.ok (.int 0)) ixD) (consD (two (slotD 1) (fun _=>.ok (.int 0)) ixD) (fun _=>.ok []))) zipG))) (retD (bindF (consD (bindF (consD (slotD 2) (fun _=>.ok [])) tupleG) (consD (two (two (slotD 0) (fun _=>.ok (.int 1)) ixD) (two (slotD 1) (fun _=>.ok (.int 1)) ixD) mulE) (fun _=>.ok []))) F_qM)))
noncomputable def F_qN:List D->Res D:=fnD 2 3 b_qN
noncomputable def b_qB:DS->Out :=
 (retD (bindF (consD (slotD 0) (consD (tupF (consD (bindF (consD (negF (fun _=>.ok (.int 1))) (consD (two (slotD 1) (fun _=>.ok (.int 0)) ixD) (fun _=>.ok []))) F_qp) (consD (two (slotD 1) (fun _=>.ok (.int 1)) ixD) (fun _=>.ok [])))) (fun _=>.ok []))) F_qF))
noncomputable def F_qB:List D->Res D:=fnD 2 2 b_qB
noncomputable def b_qK:DS->Out :=
 (retD (bindF (consD (slotD 0) (consD (bindF (consD (slotD 1) (fun _=>.ok [])) F_qE) (fun _=>.ok []))) F_qN))
noncomputable def F_qK:List D->Res D:=fnD 2 2 b_qK
noncomputable def b_qt:DS->Out :=
 (retD (bindF (consD (compD 2 [] (tupTgt [0,1]) (two (slotD 0) (slotD 1) addD) (bindRg (consD (slotD 0) (consD (slotD 1) (fun _=>.ok []))) zipG)) (fun _=>.ok [])) tupleG))
noncomputable def F_qt:List D->Res D:=fnD 2 2 b_qt
noncomputable def b_qv:DS->Out :=
 (seqD (setD 3 (lstF (consD (fun _=>.ok (.int 271828183)) (consD (fun _=>.ok (.int 314159269)) (consD (fun _=>.ok (.int 161803399)) (consD (fun _=>.ok (.int 141421357)) (consD (fun _=>.ok (.int 173205081)) (fun _=>.ok [])))))))) (seqD (setD 3 (two (slotD 3) (lstF (consD (fun _=>.ok (.int 223606797)) (consD (fun _=>.ok (.int 244948975)) (consD (fun _=>.ok (.int 264575131)) (consD (fun _=>.ok (.int 331662479)) (consD (fun _=>.ok (.int 360555127)) (fun _=>.ok []))))))) addD)) (retD (two (two (two (two (slotD 0) (fun _=>.ok (.int 1)) addD) (two (slotD 3) (slotD 1) ixD) mulE) (fun _=>.ok (.int 1000000007)) modD) (slotD 2) modD))))
noncomputable def F_qv:List D->Res D:=fnD 3 4 b_qv
noncomputable def b_qg:DS->Out :=
 (seqD (setD 2 (two (fun _=>.ok (.int 1)) (bindF (consD (slotD 0) (consD (fun _=>.ok (.int 0)) (consD (fun _=>.ok (.int 6)) (fun _=>.ok [])))) F_qv) addD)) (seqD (setD 3 (two (two (two (slotD 2) (slotD 2) mulE) (fun _=>.ok (.int 1)) addD) (bindF (consD (slotD 0) (consD (fun _=>.ok (.int 1)) (consD (two (fun _=>.ok (.int 2)) (slotD 2) mulE) (fun _=>.ok [])))) F_qv) addD)) (seqD (setD 4 (two (fun _=>.ok (.int 1)) (bindF (consD (slotD 0) (consD (fun _=>.ok (.int 2)) (consD (fun _=>.ok (.int 3)) (fun _=>.ok [])))) F_qv) addD)) (seqD (setD 5 (two (fun _=>.ok (.int 1)) (bindF (consD (slotD 0) (consD (fun _=>.ok (.int 3)) (consD (fun _=>.ok (.int 3)) (fun _=>.ok [])))) F_qv) addD)) (seqD (setD 6 (tupF (consD (tupF (consD (slotD 3) (fun _=>.ok []))) (consD (tupF (consD (bindF (consD (slotD 0) (consD (fun _=>.ok (.int 4)) (consD (two (two (slotD 4) (slotD 2) mulE) (fun _=>.ok (.int 1)) addD) (fun _=>.ok [])))) F_qv) (consD (slotD 4) (fun _=>.ok [])))) (consD (tupF (consD (bindF (consD (slotD 0) (consD (fun _=>.ok (.int 5)) (consD (slotD 5) (fun _=>.ok [])))) F_qv) (consD (fun _=>.ok (.int 0)) (consD (slotD 5) (consD (fun _=>.ok (.int 0)) (fun _=>.ok [])))))) (fun _=>.ok [])))))) (seqD (ifS (bindT (two (bindF (consD (slotD 0) (consD (fun _=>.ok (.int 6)) (consD (fun _=>.ok (.int 3)) (fun _=>.ok [])))) F_qv) (fun _=>.ok (.int 0)) eqD) boolD) (seqD (setD 7 (lstF (consD (fun _=>.ok (.int 2)) (consD (fun _=>.ok (.int 3)) (consD (fun _=>.ok (.int 5)) (consD (fun _=>.ok (.int 7)) (consD (fun _=>.ok (.int 11)) (consD (fun _=>.ok (.int 13)) (fun _=>.ok []))))))))) (seqD (setD 8 (bindF (consD (slotD 0) (consD (fun _=>.ok (.int 7)) (consD (fun _=>.ok (.int 6)) (fun _=>.ok [])))) F_qv)) (setD 6 (tupF (consD (tupF (consD (two (slotD 7) (slotD 8) ixD) (fun _=>.ok []))) (consD (tupF (consD (two (slotD 7) (two (two (slotD 8) (fun _=>.ok (.int 1)) addD) (fun _=>.ok (.int 6)) modD) ixD) (consD (fun _=>.ok (.int 0)) (fun _=>.ok [])))) (consD (tupF (consD (two (slotD 7) (two (two (slotD 8) (fun _=>.ok (.int 2)) addD) (fun _=>.ok (.int 6)) modD) ixD) (consD (fun _=>.ok (.int 0)) (consD (fun _=>.ok (.int 0)) (consD (fun _=>.ok (.int 0)) (fun _=>.ok [])))))) (fun _=>.ok [])))))))) Out.nxt) (retD (sliceF (slotD 6) noPart (partF (slotD 1))))))))))
noncomputable def F_qg:List D->Res D:=fnD 2 9 b_qg
noncomputable def b_qs (R:List D->Res D):DS->Out :=
 (seqD (ifS (bindT (two (bindF (consD (slotD 0) (fun _=>.ok [])) lenG) (fun _=>.ok (.int 0)) eqD) boolD) (retD (tupF (consD (two (two (slotD 1) (fun _=>.ok (.int 0)) ixD) (two (slotD 2) (fun _=>.ok (.int 0)) ixD) mulE) (fun _=>.ok [])))) Out.nxt) (seqD (setD 3 (sliceF (slotD 0) noPart (partF (negF (fun _=>.ok (.int 1)))))) (seqD (setD 4 (bindF (consD (slotD 1) (fun _=>.ok [])) F_qo)) (seqD (setD 5 (bindF (consD (slotD 1) (fun _=>.ok [])) F_qi)) (seqD (setD 6 (bindF (consD (slotD 2) (fun _=>.ok [])) F_qo)) (seqD (setD 7 (bindF (consD (slotD 2) (fun _=>.ok [])) F_qi)) (seqD (setD 8 (bindF (consD (slotD 3) (consD (bindF (consD (slotD 3) (consD (slotD 5) (consD (slotD 7) (fun _=>.ok [])))) R) (consD (two (slotD 0) (negF (fun _=>.ok (.int 1))) ixD) (fun _=>.ok [])))) R)) (seqD (setD 9 (bindF (consD (bindF (consD (slotD 3) (consD (slotD 4) (consD (slotD 6) (fun _=>.ok [])))) R) (consD (slotD 8) (fun _=>.ok []))) F_qt)) (seqD (setD 10 (bindF (consD (bindF (consD (slotD 3) (consD (slotD 4) (consD (slotD 7) (fun _=>.ok [])))) R) (consD (bindF (consD (slotD 3) (consD (slotD 5) (consD (slotD 6) (fun _=>.ok [])))) R) (fun _=>.ok []))) F_qt)) (retD (two (slotD 9) (slotD 10) addD)))))))))))
noncomputable def Fr_qs:Nat->List D->Res D
 | 0=>fun _=>.stuck
 | n + 1=>fnD 3 11 (b_qs (Fr_qs n))
noncomputable def F_qs:List D->Res D:=Fr_qs 4
noncomputable def b_qb (R:List D->Res D):DS->Out :=
 (seqD (ifS (bindT (two (bindF (consD (slotD 1) (fun _=>.ok [])) lenG) (fun _=>.ok (.int 1)) eqD) boolD) (retD (tupF (consD (two (two (slotD 1) (fun _=>.ok (.int 0)) ixD) (two (slotD 2) (fun _=>.ok (.int 0)) ixD) mulE) (fun _=>.ok [])))) Out.nxt) (seqD (setD 3 (two (bindF (consD (slotD 1) (fun _=>.ok [])) lenG) (fun _=>.ok (.int 2)) fdivD)) (seqD (setD 4 (sliceF (slotD 0) noPart (partF (negF (fun _=>.ok (.int 1)))))) (seqD (setD 5 (bindF (consD (slotD 4) (consD (sliceF (slotD 1) (partF (slotD 3)) noPart) (consD (sliceF (slotD 2) (partF (slotD 3)) noPart) (fun _=>.ok [])))) R)) (seqD (setD 6 (bindF (consD (bindF (consD (slotD 4) (consD (sliceF (slotD 1) noPart (partF (slotD 3))) (consD (sliceF (slotD 2) noPart (partF (slotD 3))) (fun _=>.ok [])))) R) (consD (bindF (consD (slotD 4) (consD (two (slotD 0) (negF (fun _=>.ok (.int 1))) ixD) (consD (slotD 5) (fun _=>.ok [])))) R) (fun _=>.ok []))) F_qw)) (seqD (setD 7 (bindF (consD (slotD 4) (consD (sliceF (slotD 1) noPart (partF (slotD 3))) (consD (sliceF (slotD 2) (partF (slotD 3)) noPart) (fun _=>.ok [])))) R)) (retD (two (slotD 6) (bindF (consD (slotD 7) (consD (bindF (consD (slotD 4) (consD (sliceF (slotD 1) (partF (slotD 3)) noPart) (consD (sliceF (slotD 2) noPart (partF (slotD 3))) (fun _=>.ok [])))) R) (fun _=>.ok []))) F_qw) addD))))))))
noncomputable def Fr_qb:Nat->List D->Res D
 | 0=>fun _=>.stuck
 | n + 1=>fnD 3 8 (b_qb (Fr_qb n))
noncomputable def F_qb:List D->Res D:=Fr_qb 4
noncomputable def b_qL:DS->Out :=
 (retD (bindF (consD (bindF (consD (slotD 0) (consD (two (slotD 1) (fun _=>.ok (.int 0)) ixD) (consD (two (slotD 2) (fun _=>.ok (.int 0)) ixD) (fun _=>.ok [])))) F_qs) (consD (two (two (slotD 1) (fun _=>.ok (.int 1)) ixD) (two (slotD 2) (fun _=>.ok (.int 1)) ixD) mulE) (fun _=>.ok []))) F_qM))
noncomputable def F_qL:List D->Res D:=fnD 3 3 b_qL
noncomputable def b_qk:DS->Out :=
 (retD (tupF (consD (bindF (consD (slotD 0) (consD (two (slotD 1) (fun _=>.ok (.int 0)) ixD) (consD (two (slotD 2) (fun _=>.ok (.int 0)) ixD) (fun _=>.ok [])))) F_qb) (consD (two (two (slotD 1) (fun _=>.ok (.int 1)) ixD) (two (slotD 2) (fun _=>.ok (.int 1)) ixD) mulE) (fun _=>.ok [])))))
noncomputable def F_qk:List D->Res D:=fnD 3 3 b_qk
noncomputable def b_qJ:DS->Out :=
 (retD (tupF (consD (two (bindF (consD (two (slotD 0) (fun _=>.ok (.int 0)) ixD) (fun _=>.ok [])) F_qo) (bindF (consD (bindF (consD (two (slotD 0) (fun _=>.ok (.int 0)) ixD) (fun _=>.ok [])) F_qi) (fun _=>.ok [])) F_qf) addD) (consD (two (slotD 0) (fun _=>.ok (.int 1)) ixD) (fun _=>.ok [])))))
noncomputable def F_qJ:List D->Res D:=fnD 1 1 b_qJ
noncomputable def b_qz:DS->Out :=
 (seqD (setD 2 (sliceF (slotD 0) noPart (partF (negF (fun _=>.ok (.int 1)))))) (seqD (setD 3 (bindF (consD (slotD 1) (fun _=>.ok [])) F_qo)) (seqD (setD 4 (bindF (consD (slotD 1) (fun _=>.ok [])) F_qi)) (seqD (setD 5 (bindF (consD (slotD 2) (consD (bindF (consD (slotD 2) (consD (slotD 4) (consD (slotD 4) (fun _=>.ok [])))) F_qs) (consD (two (slotD 0) (negF (fun _=>.ok (.int 1))) ixD) (fun _=>.ok [])))) F_qs)) (retD (bindF (consD (bindF (consD (slotD 2) (consD (slotD 3) (consD (slotD 3) (fun _=>.ok [])))) F_qs) (consD (bindF (consD (slotD 5) (fun _=>.ok [])) F_qf) (fun _=>.ok []))) F_qt))))))
noncomputable def F_qz:List D->Res D:=fnD 2 6 b_qz
noncomputable def b_qO:DS->Out :=
 (retD (bindF (consD (bindF (consD (slotD 0) (consD (two (slotD 1) (fun _=>.ok (.int 0)) ixD) (fun _=>.ok []))) F_qz) (consD (two (two (slotD 1) (fun _=>.ok (.int 1)) ixD) (two (slotD 1) (fun _=>.ok (.int 1)) ixD) mulE) (fun _=>.ok []))) F_qM))
noncomputable def F_qO:List D->Res D:=fnD 2 2 b_qO
noncomputable def b_qx:DS->Out :=
 (retD (bindF (consD (two (slotD 0) (fun _=>.ok (.int 0)) ixD) (fun _=>.ok [])) F_qh))
noncomputable def F_qx:List D->Res D:=fnD 1 1 b_qx
noncomputable def b_qD (R:List D->Res D):DS->Out :=
 (seqD (ifS (bindT (two (bindF (consD (slotD 0) (fun _=>.ok [])) lenG) (fun _=>.ok (.int 0)) eqD) boolD) (retD (bindF (consD (tupF (consD (two (slotD 1) (fun _=>.ok (.int 1)) ixD) (fun _=>.ok []))) (consD (two (two (slotD 1) (fun _=>.ok (.int 0)) ixD) (fun _=>.ok (.int 0)) ixD) (fun _=>.ok []))) F_qM)) Out.nxt) (seqD (setD 2 (bindF (consD (sliceF (slotD 0) noPart (partF (negF (fun _=>.ok (.int 1))))) (consD (bindF (consD (slotD 0) (consD (slotD 1) (fun _=>.ok []))) F_qO) (fun _=>.ok []))) R)) (retD (bindF (consD (slotD 0) (consD (bindF (consD (slotD 1) (fun _=>.ok [])) F_qJ) (consD (bindF (consD (slotD 2) (consD (bindF (consD (slotD 0) (fun _=>.ok [])) lenG) (fun _=>.ok []))) F_qI) (fun _=>.ok [])))) F_qL))))
noncomputable def Fr_qD:Nat->List D->Res D
 | 0=>fun _=>.stuck
 | n + 1=>fnD 2 3 (b_qD (Fr_qD n))
noncomputable def F_qD:List D->Res D:=Fr_qD 4
noncomputable def b_qP:DS->Out :=
 (seqD (ifS (bindT (bindF (consD (slotD 2) (fun _=>.ok [])) F_qx) truthD) (raiseD "NoOver" (consD (fun _=>.ok (.str "no number is told over nought")) (fun _=>.ok []))) Out.nxt) (retD (bindF (consD (slotD 0) (consD (slotD 1) (consD (bindF (consD (slotD 0) (consD (slotD 2) (fun _=>.ok []))) F_qD) (fun _=>.ok [])))) F_qL)))
noncomputable def F_qP:List D->Res D:=fnD 3 3 b_qP
noncomputable def b_qm (R:List D->Res D):DS->Out :=
 (seqD (ifS (bindT (two (bindF (consD (slotD 1) (fun _=>.ok [])) lenG) (fun _=>.ok (.int 1)) eqD) boolD) (retD (two (bindF (consD (two (two (slotD 1) (fun _=>.ok (.int 0)) ixD) (fun _=>.ok (.int 0)) (cmpD fun i j=>decide (j < i))) (fun _=>.ok [])) intG) (bindF (consD (two (two (slotD 1) (fun _=>.ok (.int 0)) ixD) (fun _=>.ok (.int 0)) (cmpD fun i j=>decide (i < j))) (fun _=>.ok [])) intG) subD)) Out.nxt) (seqD (setD 2 (two (bindF (consD (slotD 1) (fun _=>.ok [])) lenG) (fun _=>.ok (.int 2)) fdivD)) (seqD (setD 3 (sliceF (slotD 0) noPart (partF (negF (fun _=>.ok (.int 1)))))) (seqD (setD 4 (bindF (consD (slotD 3) (consD (sliceF (slotD 1) noPart (partF (slotD 2))) (fun _=>.ok []))) R)) (seqD (setD 5 (bindF (consD (slotD 3) (consD (sliceF (slotD 1) (partF (slotD 2)) noPart) (fun _=>.ok []))) R)) (seqD (ifS (orT (bindT (two (slotD 4) (slotD 5) eqD) boolD) (bindT (two (slotD 5) (fun _=>.ok (.int 0)) eqD) boolD)) (retD (slotD 4)) Out.nxt) (seqD (ifS (bindT (two (slotD 4) (fun _=>.ok (.int 0)) eqD) boolD) (retD (slotD 5)) Out.nxt) (seqD (setD 6 (bindF (consD (slotD 3) (consD (sliceF (slotD 1) (partF (slotD 2)) noPart) (consD (sliceF (slotD 1) (partF (slotD 2)) noPart) (fun _=>.ok [])))) F_qb)) (seqD (setD 7 (bindF (consD (negF (fun _=>.ok (.int 1))) (consD (bindF (consD (slotD 3) (consD (two (slotD 0) (negF (fun _=>.ok (.int 1))) ixD) (consD (slotD 6) (fun _=>.ok [])))) F_qb) (fun _=>.ok []))) F_qp)) (retD (two (slotD 4) (bindF (consD (slotD 3) (consD (bindF (consD (bindF (consD (slotD 3) (consD (sliceF (slotD 1) noPart (partF (slotD 2))) (consD (sliceF (slotD 1) noPart (partF (slotD 2))) (fun _=>.ok [])))) F_qb) (consD (slotD 7) (fun _=>.ok []))) F_qw) (fun _=>.ok []))) R) mulE)))))))))))
noncomputable def Fr_qm:Nat->List D->Res D
 | 0=>fun _=>.stuck
 | n + 1=>fnD 2 8 (b_qm (Fr_qm n))
noncomputable def F_qm:List D->Res D:=Fr_qm 4
end Bk
set_option exponentiation.threshold 300000
namespace Bk
open PySem PySem.Spec PyProof.Rows L2 DL Mine
theorem cL' (i:Int):F_qu [.int i]=.ok (.bl true):=rfl
noncomputable def cell (ns:List Int) (k:Nat):Int:=ns.getD k 0
theorem ff' (ns:List Int) (k:Nat):F_qA [.lst (ns.map .int),.int k]=.ok (.int (cell ns k)):=by
 show outD (b_qA [some (.arg (.lst (ns.map .int))),some (.arg (.int k))])=_;unfold b_qA cell;push_cast [List.length_map]
 by_cases h:k < ns.length
 ·have h':((k:Int) < (ns.length:Int)):=by omega
  have hz:(ns.map D.int)[k]? = some (.int ns[k]):=by simp [h]
  simp only [h',decide_true,↓reduceIte,sq_ret,out_ret,cZ' _ k _ hz,on_ok];simp [h]
 ·have h':¬((k:Int) < (ns.length:Int)):=by omega
  have hz:ns[k]? = none:=List.getElem?_eq_none (by omega);simp only [h',decide_false,Bool.false_eq_true,↓reduceIte,sq_nxt,on_ok,out_ret];simp [hz];rfl
abbrev lcc:DS->Res Bool:=bindT (two (slotD 1) (fun _=>.ok (.int 0)) neD) boolD
abbrev lcb:DS->Out:=seqD (setD 2 (two (slotD 0) (slotD 1) modD)) (seqD (setD 0 (slotD 1)) (setD 1 (slotD 2)))
theorem gJ':∀(n:Nat) (s0 s1:SV) (z:Option SV) (x y:Int),s0.view=.int x->s1.view=.int y->y.natAbs < n ->
  ∃s0' s1' z' g,whileD lcc lcb n [some s0,some s1,z]=.nxt [some s0',s1',z']/\s0'.view=.int g/\g.natAbs=Int.gcd x y
 | 0,_,_,_,_,_,_,_,h=>absurd h (Nat.not_lt_zero _)
 | n + 1,s0,s1,z,x,y,h0,h1,h=>by
  rw [whileD];have e:lcc [some s0,some s1,z]=.ok (!decide (y=0)):=by
   simp only [lcc,ap_seq,sq_nxt,sq_ret,sq_err,ap_set,on_ok,on_err,ont_ok,onl_ok,ap_if,ap_two,ap_bF,ap_bT,ap_bL,ap_cons,ap_tup,ap_lst,ap_ret,ap_expr,ap_neg,neg_ok,ap_notT,ap_andT,ap_orT,ap_andV,ap_for,ap_slice,ap_part,ap_noPart,part_int,out_ret,out_err,cmp_ok,add_ok,sub_ok,bool_ok,truth_bl,abs_ok,len_tup,len_lst,tuple_lst,seq_tup,seq_lst,vw_val,vw_arg,eqI,neI,bnd_ok,mulE_i,sl0,st0,sl1,st1,sl2,st2,sl3,st3,sl4,st4,sl5,st5,sl6,st6,sl7,st7,sl8,st8,sl9,st9,sl10,st10,tup1,tup2,lst2,tup3,tup4,lst4,lst5,lst6,ix_tup0,ix_lst0,ix_tup1,ix_lst1,ix_tup2,ix_lst2,ix_lst3,↓reduceIte,decide_true,decide_false,Bool.not_true,Bool.not_false,Bool.false_eq_true,Int.reduceEq,Int.reduceNe,Int.reduceLT,Int.reduceLE,Nat.reduceAdd,cN0,cN1,cN2,List.length_cons,List.length_nil,h1]
  rw [e]
  by_cases c:y=0
  ·subst c;exact ⟨s0,some s1,z,x,rfl,h0,by simp⟩
  ·simp only [c,decide_false,Bool.not_false];have e2:lcb [some s0,some s1,z]=.nxt [some (.val (.int y)),some (.val (.int (Int.fmod x y))),some (.val (.int (Int.fmod x y)))]:=by
    simp only [lcb,ap_seq,sq_nxt,sq_ret,sq_err,ap_set,on_ok,on_err,ont_ok,onl_ok,ap_if,ap_two,ap_bF,ap_bT,ap_bL,ap_cons,ap_tup,ap_lst,ap_ret,ap_expr,ap_neg,neg_ok,ap_notT,ap_andT,ap_orT,ap_andV,ap_for,ap_slice,ap_part,ap_noPart,part_int,out_ret,out_err,cmp_ok,add_ok,sub_ok,bool_ok,truth_bl,abs_ok,len_tup,len_lst,tuple_lst,seq_tup,seq_lst,vw_val,vw_arg,eqI,neI,bnd_ok,mulE_i,sl0,st0,sl1,st1,sl2,st2,sl3,st3,sl4,st4,sl5,st5,sl6,st6,sl7,st7,sl8,st8,sl9,st9,sl10,st10,tup1,tup2,lst2,tup3,tup4,lst4,lst5,lst6,ix_tup0,ix_lst0,ix_tup1,ix_lst1,ix_tup2,ix_lst2,ix_lst3,↓reduceIte,decide_true,decide_false,Bool.not_true,Bool.not_false,Bool.false_eq_true,Int.reduceEq,Int.reduceNe,Int.reduceLT,Int.reduceLE,Nat.reduceAdd,cN0,cN1,cN2,List.length_cons,List.length_nil,h1,h0,modI c]
   rw [e2];obtain ⟨s0',s1',z',g,q1,q2,q3⟩:=gJ' n (.val (.int y)) (.val (.int (Int.fmod x y))) (some (.val (.int (Int.fmod x y)))) y (Int.fmod x y) rfl rfl (by have:=fJ' x c; omega);exact ⟨s0',s1',z',g,q1,q2,by rw [q3,hT']⟩
theorem cs' (a b:Int):F_qq [.int a,.int b]=.ok (.int (cm a b)):=by
 show outD (b_qq [some (.arg (.int a)),some (.arg (.int b)),none])=_;unfold b_qq;obtain ⟨s0',s1',z',g,q1,q2,q3⟩:=gJ' (b.natAbs + 1) (.arg (.int a)) (.arg (.int b)) none a b rfl rfl (Nat.lt_succ_self _);rw [ap_seq];show outD ((whileD lcc lcb (b.natAbs + 1) [some (.arg (.int a)),some (.arg (.int b)),none]).seq _)=_;rw [q1];push_cast [q2,q3];rfl
abbrev cc:DS->Res Bool:=bindT (two (slotD 3) (fun _=>.ok (.int 0)) neD) boolD
abbrev cb:DS->Out:=(seqD (setD 4 (two (slotD 2) (slotD 3) modD)) (seqD (setD 2 (slotD 3)) (setD 3 (slotD 4))))
theorem cM' (p q:Option SV):∀(n:Nat) (x y:Int) (z:Option SV),0<=x->0<=y->y.toNat < n ->
  ∃z',whileD cc cb n [p,q,some (.val (.int x)),some (.val (.int y)),z]=.nxt [p,q,some (.val (.int (cm x y))),some (.val (.int 0)),z']
 | 0,_,_,_,_,_,h=>absurd h (Nat.not_lt_zero _)
 | n + 1,x,y,z,hx,hy,h=>by
  rw [whileD];have e:cc [p,q,some (.val (.int x)),some (.val (.int y)),z]=.ok (!decide (y=0)):=rfl;rw [e]
  by_cases c:y=0
  ·subst c;exact ⟨z,by rw [jn' hx]; rfl⟩
  ·simp only [c,decide_false,Bool.not_false];have e2:cb [p,q,some (.val (.int x)),some (.val (.int y)),z]=.nxt [p,q,some (.val (.int y)),some (.val (.int (Int.fmod x y))),some (.val (.int (Int.fmod x y)))]:=by
    simp only [cb,ap_seq,sq_nxt,sq_ret,sq_err,ap_set,on_ok,on_err,ont_ok,onl_ok,ap_if,ap_two,ap_bF,ap_bT,ap_bL,ap_cons,ap_tup,ap_lst,ap_ret,ap_expr,ap_neg,neg_ok,ap_notT,ap_andT,ap_orT,ap_andV,ap_for,ap_slice,ap_part,ap_noPart,part_int,out_ret,out_err,cmp_ok,add_ok,sub_ok,bool_ok,truth_bl,abs_ok,len_tup,len_lst,tuple_lst,seq_tup,seq_lst,vw_val,vw_arg,eqI,neI,bnd_ok,mulE_i,sl0,st0,sl1,st1,sl2,st2,sl3,st3,sl4,st4,sl5,st5,sl6,st6,sl7,st7,sl8,st8,sl9,st9,sl10,st10,tup1,tup2,lst2,tup3,tup4,lst4,lst5,lst6,ix_tup0,ix_lst0,ix_tup1,ix_lst1,ix_tup2,ix_lst2,ix_lst3,↓reduceIte,decide_true,decide_false,Bool.not_true,Bool.not_false,Bool.false_eq_true,Int.reduceEq,Int.reduceNe,Int.reduceLT,Int.reduceLE,Nat.reduceAdd,cN0,cN1,cN2,List.length_cons,List.length_nil,modI c]
   rw [e2];have yp:0 < y:=by omega
   obtain ⟨z',e⟩:=cM' p q n y (Int.fmod x y) (some (.val (.int (Int.fmod x y)))) hy (Int.fmod_nonneg_of_pos x yp) (by have:=Int.fmod_lt_of_pos x yp; omega);refine ⟨z',?_⟩;rw [jm' hx hy] at e;exact e
theorem ib' (a b:Int):F_qH [.int a,.int b]=.ok (.int (cm a b)):=by
 show outD (b_qH [some (.arg (.int a)),some (.arg (.int b)),none,none,none])=_;unfold b_qH;obtain ⟨z',e⟩:=cM' (some (.arg (.int a))) (some (.arg (.int b))) (((b.natAbs:Int)).natAbs + 1) a.natAbs b.natAbs none (by omega) (by omega) (by omega);rw [ku'] at e;push_cast [DL.ap_seq];show outD ((whileD cc cb (((b.natAbs:Int)).natAbs + 1) [some (.arg (.int a)),some (.arg (.int b)),some (.val (.int (a.natAbs:Nat))),some (.val (.int (b.natAbs:Nat))),none]).seq _)=_;rw [e]; rfl
theorem kH' {ts:List Int} {b K:Int} (h:Nf ts b) (hK:K≠0) (hts:ts≠[]) (hl:ts.length<=63) (hb:K.natAbs < 2 ^ 8000) :
  F_qM [.tup ((ts.map (K * ·)).map .int),.int (K * b)]=.ok (num ts b):=by
 show outD (b_qM [some (.arg (.tup ((ts.map (K * ·)).map .int))),some (.arg (.int (K * b))),none,none])=_;unfold b_qM;have bp:=h.pos;have nb:¬(K * b=0):=fun z=>by
  rcases Int.mul_eq_zero.mp z with q | q
  ·exact hK q
  ·omega
 obtain ⟨z',e⟩:=cx' (i:=3) (f:=cm) (b:=setD 2 (bindF (consD (slotD 2) (consD (slotD 3) (fun _=>.ok []))) F_qH))
  (fun acc z=>[some (.val (.tup ((ts.map (K * ·)).map .int))),some (.val (.int (K * b))),some (.val (.int acc)),z])
  (fun acc z t=>by push_cast [ib']) (ts.map (K * ·)) (K * b) none
 rw [dY' h hK hts] at e;have th:thaw [some (SV.arg (.tup ((ts.map (K * ·)).map .int))),some (.arg (.int (K * b))),some (.val (.int (K * b))),none]=[some (.val (.tup ((ts.map (K * ·)).map .int))),some (.val (.int (K * b))),some (.val (.int (K * b))),none]:=rfl;push_cast [nb,th,e];have th2:thawO (Out.nxt [some (.val (.tup ((ts.map (K * ·)).map .int))),some (.val (.int (K * b))),some (.val (.int (K.natAbs:Nat))),z'])=.nxt [some (.val (.tup ((ts.map (K * ·)).map .int))),some (.val (.int (K * b))),some (.val (.int (K.natAbs:Nat))),z'.map thaw2]:=rfl;simp only [th2,sq_nxt];have last:∀z2:Option SV,outD (retD (tupF (consD (bindF (consD (compD 1 [2] (tgtN 0) (two (slotD 0) (slotD 1) fdivD) (bindL (slotD 0) seqItems)) (fun _=>.ok [])) tupleG) (consD (two (slotD 1) (slotD 2) fdivD) (fun _=>.ok []))))
   [some (.val (.tup ((ts.map (K * ·)).map .int))),some (.val (.int (K * b))),some (.val (.int K)),z2])=.ok (num ts b):=by
  intro z2;have cp:compD 1 [2] (tgtN 0) (two (slotD 0) (slotD 1) fdivD) (bindL (slotD 0) seqItems) [some (.val (.tup ((ts.map (K * ·)).map .int))),some (.val (.int (K * b))),some (.val (.int K)),z2]=.ok (.lst ((ts.map (K * ·)).map fun t=>.int (Int.fdiv t K))) :=
   bd' (rest:=[some (.arg (.int K))]) rfl rfl (by rw [List.length_map]; exact Nat.le_trans hl (by decide)) fun t _=>by
    push_cast [fH' hK hb]
  push_cast [cp,fH' hK hb];rw [List.map_map];simp only [Function.comp_def,cg' _ _ hK]
 by_cases c:K * b < 0
 ·have kn:-((K.natAbs:Nat):Int)=K:=by
   rcases Int.lt_or_le K 0 with q | q
   ·omega
   ·have:=Int.mul_nonneg q (Int.le_of_lt bp); omega
  push_cast [c,kn];exact last _
 ·have kn:((K.natAbs:Nat):Int)=K:=by
   rcases Int.lt_or_le K 0 with q | q
   ·have:=Int.mul_neg_of_neg_of_pos q bp; omega
   ·omega
  push_cast [c,kn];exact last _
theorem ic' {ts:List Int} {b:Int} (n:Nat) (h:Nf ts b) (hn:ts.length=n) (hts:ts≠[]):F_qc [num ts b,.int n]=.ok (.bl true):=by
 show outD (b_qc [some (.arg (num ts b)),some (.arg (.int n)),none,none])=_;unfold b_qc;have bp:=h.pos;have hb1:¬(b < 1):=by omega
 obtain ⟨z',e⟩:=cx' (i:=3) (f:=cm) (b:=seqD (ifS (notT (bindT (bindF (consD (slotD 3) (fun _=>.ok [])) F_qu) truthD)) (retD (fun _=>.ok (.bl false))) Out.nxt) (setD 2 (bindF (consD (slotD 2) (consD (slotD 3) (fun _=>.ok []))) F_qq)))
  (fun acc z=>[some (.val (num ts b)),some (.val (.int n)),some (.val (.int acc)),z])
  (fun acc z t=>by push_cast [cs',cL']) ts b none
 have th:thaw [some (SV.arg (num ts b)),some (.arg (.int n)),some (.val (.int b)),none]=[some (.val (num ts b)),some (.val (.int n)),some (.val (.int b)),none]:=rfl;have one:ts.foldl cm b=1:=by rw [eX' _ _ hts,h.one]; rfl
 have it1:∀ds,isG is_tuple (.tup ds)=.ok (.bl true):=fun _=>rfl;push_cast [it1,List.length_map,hn,cL',hb1,th,e,one];rfl
theorem eI' (x:List Int):F_qo [TI x]=.ok (TI (frH x)):=by
 show outD (b_qo [some (.arg (TI x))])=_;unfold b_qo frH;push_cast [List.length_map,br',ci']
theorem w_behind (x:List Int):F_qi [TI x]=.ok (TI (bhH x)):=by
 show outD (b_qi [some (.arg (TI x))])=_;unfold b_qi bhH;push_cast [List.length_map,br',cj']
theorem mulB {a b:Int} (h:a.natAbs < 2 ^ 200000) (h2:b.natAbs < 2 ^ 200000):mulD (.int a) (.int b)=.ok (.int (a * b)):=by
 unfold mulD;have e:200000<=2 ^ 20:=by decide
 exact if_pos (.inl ⟨Nat.le_trans (intBits_le h) e,Nat.le_trans (intBits_le h2) e⟩)
theorem bX' {n m:Nat} (e:n<=m):2 ^ n<=2 ^ m:=Nat.pow_le_pow_right (by decide) e
theorem upB {x n:Nat} (h:x < 2 ^ n) (e:n<=200000):x < 2 ^ 200000:=Nat.lt_of_lt_of_le h (bX' e)
theorem up8 {x n:Nat} (h:x < 2 ^ n) (e:n<=8000):x < 2 ^ 8000:=Nat.lt_of_lt_of_le h (bX' e)
theorem bN' (x y:List Int) (hl:x.length<=1000):F_qt [TI x,TI y]=.ok (TI (addL x y)):=by
 show outD (b_qt [some (.arg (TI x)),some (.arg (TI y))])=_;unfold b_qt;have c:=ck' (fe:=two (slotD 0) (slotD 1) addD) (fi:=bindRg (consD (slotD 0) (consD (slotD 1) (fun _=>.ok []))) zipG) (fr:=[]) (δ:=[some (.arg (TI x)),some (.arg (TI y))]) (rest:=[]) (xs:=x) (ys:=y) (g:=fun a b=>.int (a + b))
  (rngF (ds:=[TI x,TI y]) rfl rfl) rfl (Nat.le_trans hl (by decide)) fun a _ b _=>by push_cast [DL.ap_seq]
 rw [zipI] at c;push_cast [c]
theorem bk' (x:List Int) (hl:x.length<=1000):F_qf [TI x]=.ok (TI (x.map fun t=>-t)):=by
 show outD (b_qf [some (.arg (TI x))])=_;unfold b_qf;have c:=bd' (fe:=negF (slotD 0)) (fi:=bindL (slotD 0) seqItems) (fr:=[]) (δ:=[some (.arg (TI x))]) (rest:=[]) (ts:=x) (g:=fun t=>.int (-t))
  (by push_cast [DL.ap_seq]) rfl (Nat.le_trans hl (by decide)) fun t ht=>by push_cast [DL.ap_seq]
 have e:(x.map fun t=>D.int (-t))=(x.map fun t=>-t).map .int:=by rw [List.map_map]; rfl
 rw [e] at c;push_cast [c]
noncomputable def eT (ρ:Nat):Nat->Nat
 | 0=>0
 | k + 1=>2 * eT ρ k + ρ + 1
theorem ptB {ρ:Nat}:∀(rs:List (List Int)) {x y:List Int} {p q:Nat},(∀r∈rs,Bd ρ r)->Bd p x->Bd q y->Bd (p + q + eT ρ rs.length) (pt rs x y)
 | [],x,y,p,q,_,h1,h2=>fun t ht=>by
  rw [pt,List.mem_singleton] at ht;rw [ht]; show _ < 2 ^ (p + q); exact cK' h1.head h2.head
 | r :: rs,x,y,p,q,hr,h1,h2=>by
  have hr':∀r∈rs,Bd ρ r:=fun u hu=>hr u (List.mem_cons_of_mem _ hu);have ac:=ptB rs hr' h1.fr h2.fr;have bd:=ptB rs hr' h1.bh h2.bh;have ad:=ptB rs hr' h1.fr h2.bh;have bc:=ptB rs hr' h1.bh h2.fr;have sq:=ptB rs hr' bd (hr r (by simp));rw [pt];show Bd (p + q + (2 * eT ρ rs.length + ρ + 1)) _;refine Bd.app (Bd.mono ((ac.mono (by omega)).add sq) (by omega)) (Bd.mono (ad.add bc) (by omega))
theorem w_tt {ρ:Nat}:∀(rs:List (List Int)) (n:Nat) (x y:List Int) (p q:Nat),rs.length < n->Sc rs->(∀r∈rs,Bd ρ r)->x.length=2 ^ rs.length->y.length=2 ^ rs.length->Bd p x->Bd q y->p + q + eT ρ rs.length<=200000->rs.length<=8 ->
  Fr_qs n [RT rs,TI x,TI y]=.ok (TI (pt rs x y))
 | _,0,_,_,_,_,h,_,_,_,_,_,_,_,_=>absurd h (Nat.not_lt_zero _)
 | [],n + 1,x,y,p,q,_,_,_,hx,hy,bx,by_,hb,_=>by
  show outD (b_qs (Fr_qs n) [some (.arg (RT [])),some (.arg (TI x)),some (.arg (TI y)),none,none,none,none,none,none,none,none])=_;unfold b_qs;have e1:=upB bx.head (show p<=200000 by omega);have e2:=upB by_.head (show q<=200000 by omega);push_cast [List.reverse_nil,List.map_nil,eZ' (aR' (k:=0) hx),eZ' (aR' (k:=0) hy),mulB e1 e2];rfl
 | r :: rs,n + 1,x,y,p,q,hn,S,hr,hx,hy,bx,by_,hb,h8=>by
  obtain ⟨hr1,S⟩:=S;have hb:p + q + (2 * eT ρ rs.length + ρ + 1)<=200000:=hb;have h8:rs.length + 1<=8:=h8;have hr':∀r∈rs,Bd ρ r:=fun u hu=>hr u (List.mem_cons_of_mem _ hu);have a:=aE' hx;have b:=aF' hx;have c:=aE' hy;have d:=aF' hy;have hn':rs.length < n:=Nat.lt_of_succ_lt_succ hn;have i1:=w_tt rs n (frH x) (frH y) p q hn' S hr' a c bx.fr by_.fr (by omega) (by omega);have i2:=w_tt rs n (bhH x) (bhH y) p q hn' S hr' b d bx.bh by_.bh (by omega) (by omega);have i3:=w_tt rs n (frH x) (bhH y) p q hn' S hr' a d bx.fr by_.bh (by omega) (by omega);have i4:=w_tt rs n (bhH x) (frH y) p q hn' S hr' b c bx.bh by_.fr (by omega) (by omega);have i5:=w_tt rs n (pt rs (bhH x) (bhH y)) r (p + q + eT ρ rs.length) ρ hn' S hr' (as' rs _ _ S b d) hr1 (ptB rs hr' bx.bh by_.bh) (hr r (by simp)) (by omega) (by omega);have small:2 ^ rs.length<=256:=Nat.le_trans (Nat.pow_le_pow_right (by decide) (show rs.length<=8 by omega)) (by decide);have l1:=as' rs _ _ S a c;have l2:=as' rs _ _ S (as' rs _ _ S b d) hr1;have l3:=as' rs _ _ S a d;have l4:=as' rs _ _ S b c;have p1:=bN' (pt rs (frH x) (frH y)) (pt rs (pt rs (bhH x) (bhH y)) r) (by omega);have p2:=bN' (pt rs (frH x) (bhH y)) (pt rs (bhH x) (frH y)) (by omega);have f1:=aY' l1 l2;have f2:=aY' l3 l4;have ad:=fa' (a:=addL (pt rs (frH x) (frH y)) (pt rs (pt rs (bhH x) (bhH y)) r)) (b:=addL (pt rs (frH x) (bhH y)) (pt rs (bhH x) (frH y))) (aR' f1) (by omega);show outD (b_qs (Fr_qs n) [some (.arg (RT (r :: rs))),some (.arg (TI x)),some (.arg (TI y)),none,none,none,none,none,none,none,none])=_;unfold b_qs;have z:¬(((rs.length + 1:Nat):Int)=0):=by omega
  push_cast [List.length_map,List.length_reverse,z,bi',dp',eI',w_behind,i1,i2,i3,i4,i5,p1,p2,ad,pt]
section
variable {rs:List (List Int)} {F:OF} {of:List Int->F.C} {ρ:Nat}
theorem aU' {k:Nat} (h:k<=3):2 ^ k<=8:=Nat.le_trans (Nat.pow_le_pow_right (by decide) h) (by decide)
theorem n_qM (T:Tow rs F of) (h3:rs.length<=3) {ts:List Int} {b:Int} {n:Nat} (hl:ts.length=2 ^ rs.length) (hb:b≠0) (h1:Bd n ts) (h2:b.natAbs < 2 ^ n) (hn:n<=8000) :
  ∃d,F_qM [TI ts,.int b]=.ok d/\Nm of rs.length n d (of ts / (b:F.C)):=by
 obtain ⟨K,x,c,k0,e1,e2,nf,xl,kb,hN⟩:=iw' T hl hb h1 h2;refine ⟨_,?_,hN⟩;rw [e1,e2];exact kH' nf k0 (aR' xl) (by have:=aU' h3; omega) (up8 kb hn)
theorem n_qN (T:Tow rs F of) (h3:rs.length<=3) {p q:Nat} {d e:D} {u v:F.C} (h1:Nm of rs.length p d u) (h2:Nm of rs.length q e v) (hn:p + q + 1<=8000) :
  ∃z,F_qN [d,e]=.ok z/\Nm of rs.length (p + q + 1) z (u + v):=by
 obtain ⟨x,b,rfl,nx,lx,bx,bb,ex⟩:=h1;obtain ⟨y,c,rfl,ny,ly,b_y,bc,ey⟩:=h2;have pb:=nx.pos;have pc:=ny.pos;have e8:=aU' h3;have hb:=upB bb (show p<=200000 by omega);have hc:=upB bc (show q<=200000 by omega);have sl:(sumL x y b c).length=2 ^ rs.length:=jq' lx ly b c;have sb:Bd (p + q + 1) (sumL x y b c):=by
  rw [<- db'];have b1:=bV' bx bc;have b2:=bV' b_y bb;rw [Nat.add_comm q p] at b1;exact b1.add b2
 have bcb:(b * c).natAbs < 2 ^ (p + q + 1):=Nat.lt_of_lt_of_le (cK' bb bc) (bX' (by omega));obtain ⟨z,ez,hz⟩:=n_qM T h3 sl (Int.ne_of_gt (Int.mul_pos pb pc)) sb bcb hn;have val:of (sumL x y b c) / ((b * c:Int):F.C)=u + v:=by
  have b0:=aS' T (show b≠0 by omega);have c0:=aS' T (show c≠0 by omega);rw [<- db',ec' T (by simpa using lx) (by simpa using ly),bj' T _ lx,bj' T _ ly,Lean.Grind.Ring.intCast_mul,ex,ey]
  grind
 rw [val] at hz;refine ⟨z,?_,hz⟩;show outD (b_qN [some (.arg (num x b)),some (.arg (num y c)),none])=_;unfold b_qN;have cp:=ck' (fe:=two (two (slotD 0) (two (slotD 2) (fun _=>.ok (.int 1)) ixD) mulE) (two (slotD 1) (two (slotD 3) (fun _=>.ok (.int 1)) ixD) mulE) addD) (fi:=bindRg (consD (two (slotD 0) (fun _=>.ok (.int 0)) ixD) (consD (two (slotD 1) (fun _=>.ok (.int 0)) ixD) (fun _=>.ok []))) zipG) (fr:=[1,0]) (δ:=[some (.arg (num x b)),some (.arg (num y c)),none]) (rest:=[some (.arg (num y c)),some (.arg (num x b))]) (xs:=x) (ys:=y) (g:=fun s t=>.int (s * c + t * b))
  (rngF (ds:=[TI x,TI y]) (by push_cast [DL.ap_seq]) rfl) rfl (Nat.le_trans (show x.length<=63 by omega) (by decide)) fun s hs t ht=>by push_cast [mulB (upB (bx s hs) (show p<=200000 by omega)) hc,mulB (upB (b_y t ht) (show q<=200000 by omega)) hb]
 have e:(List.zipWith (fun s t=>D.int (s * c + t * b)) x y)=(sumL x y b c).map .int:=by unfold sumL; rw [List.map_zipWith]
 rw [e] at cp;push_cast [cp,mulB hb hc,ez]
theorem n_qE (T:Tow rs F of) (h3:rs.length<=3) {p:Nat} {d:D} {u:F.C} (h1:Nm of rs.length p d u):∃z,F_qE [d]=.ok z/\Nm of rs.length p z (-u):=by
 obtain ⟨x,b,rfl,nx,lx,bx,bb,ex⟩:=h1;have pb:=nx.pos;have e8:=aU' h3;refine ⟨num (x.map fun t=>-t) b,?_,_,_,rfl,ky' nx,by simpa using lx,fb' bx,bb,?_⟩
 ·show outD (b_qE [some (.arg (num x b))])=_;unfold b_qE;push_cast [bk' x (by omega)]
 ·rw [fe' T lx,ex];have b0:=aS' T (show b≠0 by omega)
  grind
theorem n_qK (T:Tow rs F of) (h3:rs.length<=3) {p q:Nat} {d e:D} {u v:F.C} (h1:Nm of rs.length p d u) (h2:Nm of rs.length q e v) (hn:p + q + 1<=8000) :
  ∃z,F_qK [d,e]=.ok z/\Nm of rs.length (p + q + 1) z (u - v):=by
 obtain ⟨e',q1,q2⟩:=n_qE T h3 h2;obtain ⟨z,q3,q4⟩:=n_qN T h3 h1 q2 hn;refine ⟨z,?_,by rwa [show u + -v=u - v by grind] at q4⟩;show outD (b_qK [some (.arg d),some (.arg e)])=_;unfold b_qK;push_cast [q1,q3]
theorem n_qL (T:Tow rs F of) (h3:rs.length<=3) (hr:∀r∈rs,Bd ρ r) {p q:Nat} {d e:D} {u v:F.C} (h1:Nm of rs.length p d u) (h2:Nm of rs.length q e v) (hn:p + q + eT ρ rs.length<=8000) :
  ∃z,F_qL [RT rs,d,e]=.ok z/\Nm of rs.length (p + q + eT ρ rs.length) z (u * v):=by
 obtain ⟨x,b,rfl,nx,lx,bx,bb,ex⟩:=h1;obtain ⟨y,c,rfl,ny,ly,b_y,bc,ey⟩:=h2;have pb:=nx.pos;have pc:=ny.pos;have S:=T.sc;have t:F_qs [RT rs,TI x,TI y]=_:=w_tt rs 4 x y p q (by omega) S hr lx ly bx b_y (by omega) (by omega);have bcb:(b * c).natAbs < 2 ^ (p + q + eT ρ rs.length):=Nat.lt_of_lt_of_le (cK' bb bc) (bX' (by omega));obtain ⟨z,ez,hz⟩:=n_qM T h3 (as' rs x y S lx ly) (Int.ne_of_gt (Int.mul_pos pb pc)) (ptB rs hr bx b_y) bcb hn;have val:of (pt rs x y) / ((b * c:Int):F.C)=u * v:=by
  have b0:=aS' T (show b≠0 by omega);have c0:=aS' T (show c≠0 by omega);rw [ed' T lx ly,Lean.Grind.Ring.intCast_mul,ex,ey]
  grind
 rw [val] at hz;refine ⟨z,?_,hz⟩;show outD (b_qL [some (.arg (RT rs)),some (.arg (num x b)),some (.arg (num y c))])=_;unfold b_qL;push_cast [t,mulB (upB bb (show p<=200000 by omega)) (upB bc (show q<=200000 by omega)),ez]
open Classical in
theorem dw' (T:Tow rs F of) (h3:rs.length<=3) {p:Nat} {d:D} {u:F.C} (h1:Nm of rs.length p d u):F_qx [d]=.ok (.bl (decide (u=0))):=by
 have h0:=h1;obtain ⟨x,b,rfl,nx,lx,bx,bb,ex⟩:=h1;have e8:=aU' h3;have an:F_qh [TI x]=.ok (.bl (zA x)):=by
  show outD (b_qh [some (.arg (TI x))])=_;unfold b_qh;have c:=bd' (fe:=two (slotD 0) (fun _=>.ok (.int 0)) eqD) (fi:=bindL (slotD 0) seqItems) (fr:=[]) (δ:=[some (.arg (TI x))]) (rest:=[]) (ts:=x) (g:=fun t=>.bl (decide (t=0)))
   (by push_cast [DL.ap_seq]) rfl (Nat.le_trans (show x.length<=63 by omega) (by decide)) fun t ht=>by push_cast [DL.ap_seq]
  have e:(x.map fun t=>D.bl (decide (t=0)))=(x.map fun t=>decide (t=0)).map .bl:=by rw [List.map_map]; rfl
  rw [e] at c;push_cast [c,kz']
  congr 2
  unfold zA;rw [List.all_map]; rfl
 show outD (b_qx [some (.arg (num x b))])=_;unfold b_qx;push_cast [an]
 congr 2
 have:=h0.zero_iff T
 by_cases c:u=0
 ·rw [this.mp c]; simp [c]
 ·have:zA x=false:=by
   cases h:zA x with
   | false=>rfl
   | true=>exact (c (this.mpr h)).elim
  rw [this]; simp [c]
end
theorem gK' (n:Nat) (a b:List Int):gN n (a ++ b)=gN (gN n a) b:=by unfold gN; rw [List.foldl_append]
section
variable {F:OF}
theorem jE' {a c b r:F.C} (hb:b≠0):(a * a - c * c * r) / (b * b)=a / b * (a / b) - c / b * (c / b) * r:=by grind
end
section
variable {rs:List (List Int)} {F:OF} {of:List Int->F.C} {ρ:Nat}
section
variable {r:F.C} {hr:0 < r} {hn:∀z:F.C,z * z≠r}
theorem gL' (x:(extOF F r hr hn).C) (c:Int) (hc:(c:F.C)≠0):Ext.a (r:=r) (x / (c:(extOF F r hr hn).C))=Ext.a (r:=r) x / (c:F.C):=by
 show Ext.a x * ((c:F.C) / ((c:F.C) * (c:F.C) - (0:F.C) * (0:F.C) * r)) + Ext.b x * (-(0:F.C) / ((c:F.C) * (c:F.C) - (0:F.C) * (0:F.C) * r)) * r=_
 grind
theorem gM' (x:(extOF F r hr hn).C) (c:Int) (hc:(c:F.C)≠0):Ext.b (r:=r) (x / (c:(extOF F r hr hn).C))=Ext.b (r:=r) x / (c:F.C):=by
 show Ext.a x * (-(0:F.C) / ((c:F.C) * (c:F.C) - (0:F.C) * (0:F.C) * r)) + Ext.b x * ((c:F.C) / ((c:F.C) * (c:F.C) - (0:F.C) * (0:F.C) * r))=_
 grind
noncomputable def cj (x:(extOF F r hr hn).C):(extOF F r hr hn).C:=(⟨Ext.a (r:=r) x,-Ext.b (r:=r) x⟩:Ext r)
noncomputable def em (x:F.C):(extOF F r hr hn).C:=(⟨x,0⟩:Ext r)
theorem kI' (x y:F.C):em (hr:=hr) (hn:=hn) (x * y)=em x * em y:=Ext.eqs (r:=r) (show x * y=x * y + 0 * 0 * r by grind) (show (0:F.C)=x * 0 + 0 * y by grind)
theorem kJ' (x:(extOF F r hr hn).C):x * cj x=em (Ext.nrm (r:=r) x):=by
 refine Ext.eqs (r:=r) ?_ ?_
 ·show Ext.a x * Ext.a x + Ext.b x * -Ext.b x * r=Ext.a x * Ext.a x - Ext.b x * Ext.b x * r
  grind
 ·show Ext.a x * -Ext.b x + Ext.b x * Ext.a x=(0:F.C)
  grind
theorem iz' (x:(extOF F r hr hn).C) (h:x≠0):Ext.nrm (r:=r) x≠0:=fun z=>h (Ext.nrm_0 hn z)
theorem kK' (x:(extOF F r hr hn).C) (h:x≠0):x⁻¹=cj x * em ((Ext.nrm (r:=r) x)⁻¹):=by
 have e1:=kJ' x;have n0:=iz' x h;have e2:em (hr:=hr) (hn:=hn) (Ext.nrm (r:=r) x) * em ((Ext.nrm (r:=r) x)⁻¹)=1:=by
  rw [<- kI',show Ext.nrm (r:=r) x * (Ext.nrm (r:=r) x)⁻¹=1 by grind]; rfl
 have e3:x * (cj x * em ((Ext.nrm (r:=r) x)⁻¹))=1:=by
  rw [<- Lean.Grind.Semiring.mul_assoc,e1,e2]
 grind
end
theorem iA' {r:List Int} {hr:0 < of r} {hn:∀z:F.C,z * z≠of r} {v:(extOF F (of r) hr hn).C} {x:List Int} {b:Int} (hb:(b:F.C)≠0) (e:v=exOf of r hr hn x / (b:(extOF F (of r) hr hn).C)):Ext.a (r:=of r) v=of (frH x) / (b:F.C)/\Ext.b (r:=of r) v=of (bhH x) / (b:F.C):=by
 rw [e];exact ⟨gL' _ b hb,gM' _ b hb⟩
theorem gN' {r:List Int} {hr:0 < of r} {hn:∀z:F.C,z * z≠of r} {v:(extOF F (of r) hr hn).C} {x:List Int} {b:Int} (hb:(b:F.C)≠0) (e1:Ext.a (r:=of r) v=of (frH x) / (b:F.C)) (e2:Ext.b (r:=of r) v=of (bhH x) / (b:F.C)):v=exOf of r hr hn x / (b:(extOF F (of r) hr hn).C) :=
 Ext.eqs (r:=of r) (e1.trans (gL' (exOf of r hr hn x) b hb).symm) (e2.trans (gM' (exOf of r hr hn x) b hb).symm)
theorem n_qJ (T:Tow rs F of) (h3:rs.length < 3) {r:List Int} {hr:0 < of r} {hn:∀z:F.C,z * z≠of r} {p:Nat} {d:D} {v:(extOF F (of r) hr hn).C} (h:Nm (exOf of r hr hn) (rs.length + 1) p d v) :
  ∃z,F_qJ [d]=.ok z/\Nm (exOf of r hr hn) (rs.length + 1) p z (cj v):=by
 obtain ⟨x,b,rfl,nx,lx,bx,bb,ex⟩:=h;have pb:=nx.pos;have b0:=aS' T (show b≠0 by omega);have lf:=aE' lx;have lb:=aF' lx;have e8:=aU' (k:=rs.length) (by omega);have ad:=fa' (a:=frH x) (b:=(bhH x).map fun t=>-t) (aR' lf) (by rw [List.length_map]; omega);have ll:(frH x).length=((bhH x).map fun t=>-t).length:=by rw [List.length_map,lf,lb]
 refine ⟨num (frH x ++ (bhH x).map fun t=>-t) b,?_,_,_,rfl,⟨pb,?_⟩,?_,Bd.app bx.fr (fb' bx.bh),bb,?_⟩
 ·show outD (b_qJ [some (.arg (num x b))])=_;unfold b_qJ;push_cast [eI',w_behind,bk' (bhH x) (by omega),ad]
 ·rw [gK',gC',<- gK',jB']; exact nx.one
 ·rw [List.length_append,List.length_map,lf,lb,Nat.pow_succ]; omega
 ·obtain ⟨e1,e2⟩:=iA' b0 ex;refine gN' b0 ?_ ?_
  ·rw [dr' ll]; exact e1
  ·rw [dt' ll,fe' T lb];show -Ext.b v=_;rw [e2]; grind
noncomputable def ntL (r:List Int) (rs:List (List Int)) (x:List Int):List Int:=addL (pt rs (frH x) (frH x)) ((pt rs (pt rs (bhH x) (bhH x)) r).map fun t=>-t)
theorem gO' (S:Sc rs) {r x:List Int} (hl:r.length=2 ^ rs.length) (lx:x.length=2 ^ (rs.length + 1)):(ntL r rs x).length=2 ^ rs.length :=
 aY' (as' rs _ _ S (aE' lx) (aE' lx)) (by rw [List.length_map]; exact as' rs _ _ S (as' rs _ _ S (aF' lx) (aF' lx)) hl)
theorem iB' {r x:List Int} (hr:Bd ρ r) (hrs:∀r∈rs,Bd ρ r) {p:Nat} (h:Bd p x):Bd (2 * p + eT ρ (rs.length + 1)) (ntL r rs x):=by
 have a:=ptB rs hrs h.fr h.fr;have b:=ptB rs hrs (ptB rs hrs h.bh h.bh) hr;have:=(a.mono (show p + p + eT ρ rs.length<=p + p + eT ρ rs.length + ρ + eT ρ rs.length by omega)).add (fb' b);exact this.mono (by show _<=2 * p + (2 * eT ρ rs.length + ρ + 1); omega)
theorem eJ' (S:Sc rs) (h3:rs.length < 3) {r x:List Int} (hl:r.length=2 ^ rs.length) (hr:Bd ρ r) (hrs:∀r∈rs,Bd ρ r) {p:Nat} (lx:x.length=2 ^ (rs.length + 1)) (h:Bd p x) (hp:2 * p + eT ρ (rs.length + 1)<=200000) :
  F_qz [RT (r :: rs),TI x]=.ok (TI (ntL r rs x)):=by
 have lf:=aE' lx;have lb:=aF' lx;have e8:=aU' (k:=rs.length) (by omega);have hp':2 * p + (2 * eT ρ rs.length + ρ + 1)<=200000:=hp;have t1:F_qs [RT rs,TI (frH x),TI (frH x)]=_:=w_tt rs 4 _ _ p p (by omega) S hrs lf lf h.fr h.fr (by omega) (by omega);have t2:F_qs [RT rs,TI (bhH x),TI (bhH x)]=_:=w_tt rs 4 _ _ p p (by omega) S hrs lb lb h.bh h.bh (by omega) (by omega);have l2:=as' rs _ _ S lb lb;have t3:F_qs [RT rs,TI (pt rs (bhH x) (bhH x)),TI r]=_:=w_tt rs 4 _ _ (p + p + eT ρ rs.length) ρ (by omega) S hrs l2 hl (ptB rs hrs h.bh h.bh) hr (by omega) (by omega);have l3:=as' rs _ _ S l2 hl;have l1:=as' rs _ _ S lf lf;have g:=bk' (pt rs (pt rs (bhH x) (bhH x)) r) (by omega);have pl:=bN' (pt rs (frH x) (frH x)) ((pt rs (pt rs (bhH x) (bhH x)) r).map fun t=>-t) (by omega);show outD (b_qz [some (.arg (RT (r :: rs))),some (.arg (TI x)),none,none,none,none])=_;unfold b_qz ntL;push_cast [bi',dp',eI',w_behind,t1,t2,t3,g,pl]
theorem iC' (T:Tow rs F of) {r x:List Int} (hl:r.length=2 ^ rs.length) (lx:x.length=2 ^ (rs.length + 1)):of (ntL r rs x)=of (frH x) * of (frH x) - of (bhH x) * of (bhH x) * of r:=by
 have S:=T.sc;have lf:=aE' lx;have lb:=aF' lx;unfold ntL;rw [ec' T (as' rs _ _ S lf lf) (by rw [List.length_map]; exact as' rs _ _ S (as' rs _ _ S lb lb) hl),fe' T (as' rs _ _ S (as' rs _ _ S lb lb) hl),ed' T lf lf,ed' T (as' rs _ _ S lb lb) hl,ed' T lb lb]
 grind
theorem n_qO (T:Tow rs F of) (h3:rs.length < 3) {r:List Int} (hl:r.length=2 ^ rs.length) {hr:0 < of r} {hn:∀z:F.C,z * z≠of r} (hrr:Bd ρ r) (hrs:∀r∈rs,Bd ρ r) {p:Nat} {d:D} {v:(extOF F (of r) hr hn).C} (h:Nm (exOf of r hr hn) (rs.length + 1) p d v) (hp:2 * p + eT ρ (rs.length + 1)<=8000) :
  ∃z,F_qO [RT (r :: rs),d]=.ok z/\Nm of rs.length (2 * p + eT ρ (rs.length + 1)) z (Ext.nrm (r:=of r) v):=by
 obtain ⟨x,b,rfl,nx,lx,bx,bb,ex⟩:=h;have pb:=nx.pos;have b0:=aS' T (show b≠0 by omega);have S:=T.sc;have nt:=eJ' S h3 hl hrr hrs lx bx (by omega);have bb2:(b * b).natAbs < 2 ^ (2 * p + eT ρ (rs.length + 1)):=Nat.lt_of_lt_of_le (cK' bb bb) (bX' (by omega));obtain ⟨z,ez,hz⟩:=n_qM T (by omega) (gO' S hl lx) (Int.ne_of_gt (Int.mul_pos pb pb)) (iB' hrr hrs bx) bb2 hp;obtain ⟨e1,e2⟩:=iA' b0 ex;have val:of (ntL r rs x) / ((b * b:Int):F.C)=Ext.nrm (r:=of r) v:=by
  unfold Ext.nrm;rw [iC' T hl lx,Lean.Grind.Ring.intCast_mul,e1,e2];exact jE' b0
 rw [val] at hz;refine ⟨z,?_,hz⟩;show outD (b_qO [some (.arg (RT (r :: rs))),some (.arg (num x b))])=_;unfold b_qO;have hbB:=upB bb (show p<=200000 by omega);push_cast [nt,mulB hbB hbB,ez]
theorem jF' (T:Tow rs F of) (h3:rs.length < 3) {r:List Int} {hr:0 < of r} {hn:∀z:F.C,z * z≠of r} {p:Nat} {d:D} {v:F.C} (h:Nm of rs.length p d v) :
  ∃z,F_qI [d,.int ((rs.length + 1:Nat):Int)]=.ok z/\Nm (exOf of r hr hn) (rs.length + 1) p z (em v):=by
 obtain ⟨x,b,rfl,nx,lx,bx,bb,ex⟩:=h;have pb:=nx.pos;have b0:=aS' T (show b≠0 by omega);have e8:=aU' (k:=rs.length) (by omega);have ll:x.length=(List.replicate (2 ^ rs.length) (0:Int)).length:=by simpa using lx
 refine ⟨num (x ++ List.replicate (2 ^ rs.length) 0) b,?_,_,_,rfl,⟨pb,?_⟩,?_,Bd.app bx fun t ht=>by rw [List.eq_of_mem_replicate ht]; exact Nat.two_pow_pos p,bb,?_⟩
 ·show outD (b_qI [some (.arg (num x b)),some (.arg (.int ((rs.length + 1:Nat):Int)))])=_;unfold b_qI;have su:((2 ^ (rs.length + 1):Nat):Int) - (x.length:Int)=((2 ^ rs.length:Nat):Int):=by
   rw [lx,Nat.pow_succ]; omega
  have lx':((List.map D.int x).length:Int)=(x.length:Int):=by rw [List.length_map]
  push_cast [jr' (rs.length + 1) (by omega),lx'];rw [su];push_cast [gD' (2 ^ rs.length) (by omega),jp' (a:=x) (b:=List.replicate (2 ^ rs.length) 0) (by rw [List.length_replicate]; omega)]
 ·rw [gK',nx.one,gB']
 ·rw [List.length_append,List.length_replicate,lx,Nat.pow_succ]; omega
 ·refine gN' b0 ?_ ?_
  ·rw [dr' ll]; exact ex
  ·rw [dt' ll,du' T];show (0:F.C)=_
   grind
noncomputable def SOk (ρ:Nat):Nat->Nat->Prop
 | 0,p=>p<=200000
 | k + 1,p=>2 * p + eT ρ (k + 1)<=200000/\SOk ρ k (2 * p + eT ρ (k + 1))
theorem SOk.mono {ρ:Nat}:∀{k p q:Nat},SOk ρ k q->p<=q->SOk ρ k p
 | 0,_,_,h,e=>Nat.le_trans e h
 | k + 1,p,q,⟨h1,h2⟩,e=>⟨by omega,SOk.mono (k:=k) h2 (by omega)⟩
theorem jG' (T:Tow rs F of) (k:Int):sgn (k:F.C)=sg k:=by
 rcases fd' k with ⟨h,e⟩ | ⟨h,e⟩ | ⟨h,e⟩ <;> rw [e]
 ·rw [h]; exact sgn_0.mpr Lean.Grind.Ring.intCast_zero
 ·exact sgn_p.mpr (aT' T h)
 ·have:=aT' T (k:=-k) (by omega);rw [Lean.Grind.Ring.intCast_neg] at this;exact sgn_n.mpr (by grind)
theorem ee' (x:F.C):(sgn x).natAbs < 2 ^ 200000:=by
 refine Nat.lt_of_lt_of_le (show (sgn x).natAbs < 2 ^ 1 by rcases cl' x with ⟨_,e⟩ | ⟨_,e⟩ | ⟨_,e⟩ <;> rw [e] <;> decide) (bX' (by decide))
theorem jH' (T:Tow rs F of) {u:F.C} {b:Int} (hb:0 < b):sgn (u / (b:F.C))=sgn u:=by
 have bp:=aT' T hb;have h1:sgn ((b:F.C) * (u / (b:F.C)))=sgn (u / (b:F.C)):=by rw [sgn_mul,sgn_p.mpr bp,Int.one_mul]
 rw [<- h1]; congr 1; grind
open Classical in
noncomputable def fabs {F:OF} (u:F.C):F.C:=if u < 0 then -u else u
noncomputable def oB (ρ:Nat):Nat->Nat->Nat
 | 0,p=>p
 | k + 1,p=>p + oB ρ k (2 * p + eT ρ (k + 1)) + eT ρ (k + 1)
theorem li' (ρ:Nat):∀(k p:Nat),p<=oB ρ k p
 | 0,p=>Nat.le_refl _
 | k + 1,p=>by show p<=p + oB ρ k (2 * p + eT ρ (k + 1)) + eT ρ (k + 1); omega
theorem n_qD (T:Tow rs F of):∀(n p:Nat) (d:D) (u:F.C),rs.length < n->rs.length<=3->(∀r∈rs,Bd ρ r)->Nm of rs.length p d u->u≠0->oB ρ rs.length p<=8000 ->
  ∃z,Fr_qD n [RT rs,d]=.ok z/\Nm of rs.length (oB ρ rs.length p) z (u⁻¹):=by
 induction T with
 | nil =>
  intro n p d u hn h3 hrs h u0 hp
  match n,hn with
  | n + 1,_ =>
   obtain ⟨x,b,rfl,nx,lx,bx,bb,ex⟩:=h
   match x,lx with
   | [a],_ =>
    have pb:=nx.pos;have a0:a≠0:=fun z=>u0 (by rw [ex,z]; show ((0:Int):Rat) / _=0; rw [show ((0:Int):Rat)=0 from rfl]; grind)
    have ab:a.natAbs < 2 ^ p:=bx a (by simp);obtain ⟨z,ez,hz⟩:=n_qM Tow.nil (by decide) (ts:=[b]) (b:=a) (n:=p) rfl a0 (fun t ht=>by rw [List.mem_singleton.mp ht]; exact bb) ab hp;have val:(((b:Int):Rat)) / ((a:Int):Rat)=(((a:Int):Rat) / ((b:Int):Rat))⁻¹:=by
     have h1:((a:Int):Rat)≠0:=fun z=>a0 (Rat.intCast_eq_zero_iff.mp z);have h2:((b:Int):Rat)≠0:=fun z=>absurd (Rat.intCast_eq_zero_iff.mp z) (by omega)
     grind
    refine ⟨z,?_,?_⟩
    ·show outD (b_qD (Fr_qD n) [some (.arg (RT [])),some (.arg (num [a] b)),none])=_;unfold b_qD;have ix0:ixD (TI [a]) (.int 0)=.ok (.int a):=ix_tup0 _ _;have ez':F_qM [.tup [.int b],.int a]=.ok z:=ez;push_cast [List.reverse_nil,List.map_nil,List.map_cons,ix0,ez']
    ·rw [ex];have hz':Nm (F:=ratOF) (fun x=>((x.headD 0:Int):Rat)) 0 p z ((((b:Int):Rat)) / ((a:Int):Rat)):=hz;rw [val] at hz';exact hz'
 | @cons rs F of T r hl hr hn' ih =>
  intro n p d u hn h3 hrs h u0 hp
  match n,hn with
  | n + 1,hn =>
   have h3':rs.length + 1<=3:=h3;have hp':p + oB ρ rs.length (2 * p + eT ρ (rs.length + 1)) + eT ρ (rs.length + 1)<=8000:=hp;have hrs':∀r∈rs,Bd ρ r:=fun u hu=>hrs u (List.mem_cons_of_mem _ hu);have le:=li' ρ rs.length (2 * p + eT ρ (rs.length + 1));obtain ⟨m,em_,hm⟩:=n_qO T (by omega) hl (hr:=hr) (hn:=hn') (hrs r (by simp)) hrs' h (by omega);obtain ⟨b,eb,hb⟩:=ih n _ m _ (Nat.lt_of_succ_lt_succ hn) (by omega) hrs' hm (iz' u u0) (by omega);obtain ⟨t,et,ht⟩:=n_qJ T (by omega) h;obtain ⟨l,el,hl'⟩:=jF' T (by omega) (r:=r) (hr:=hr) (hn:=hn') hb;have TT:=Tow.cons T r hl hr hn';obtain ⟨z,ez,hz⟩:=n_qL TT h3 hrs ht hl' hp';rw [<- kK' u u0] at hz;refine ⟨z,?_,hz⟩;show outD (b_qD (Fr_qD n) [some (.arg (RT (r :: rs))),some (.arg d),none])=_;unfold b_qD;have zz:¬(((rs.length + 1:Nat):Int)=0):=by omega
   push_cast [List.length_map,List.length_reverse,zz,bi',em_,eb,et,el,ez]
theorem n_qP (T:Tow rs F of) (h3:rs.length<=3) (hrs:∀r∈rs,Bd ρ r) {p q:Nat} {d e:D} {u v:F.C} (h1:Nm of rs.length p d u) (h2:Nm of rs.length q e v) (v0:v≠0) (hn:p + oB ρ rs.length q + eT ρ rs.length<=8000) :
  ∃z,F_qP [RT rs,d,e]=.ok z/\Nm of rs.length (p + oB ρ rs.length q + eT ρ rs.length) z (u / v):=by
 obtain ⟨i,ei,hi⟩:=n_qD T 4 q e v (by omega) h3 hrs h2 v0 (by omega);obtain ⟨z,ez,hz⟩:=n_qL T h3 hrs h1 hi hn;rw [show u * v⁻¹=u / v by grind] at hz;refine ⟨z,?_,hz⟩;have no:=dw' T h3 h2;have ei':F_qD [RT rs,e]=.ok i:=ei;show outD (b_qP [some (.arg (RT rs)),some (.arg d),some (.arg e)])=_;unfold b_qP;push_cast [no,v0,ei',ez]
end
theorem jI' (l:Nat) (h:l<=3):ixD (.lst [.int 1,.int 2,.int 4,.int 8]) (.int l)=.ok (.int ((2 ^ l:Nat):Int)):=by
 have:l=0\/l=1\/l=2\/l=3:=by omega
 rcases this with z | z | z | z <;> subst z
 ·exact ix_lst0 _ _
 ·exact ix_lst1 _ _ _
 ·exact ix_lst2 _ _ _ _
 ·exact ix_lst3 _ _ _ _ _
theorem up {x n:Nat} (h:x < 2 ^ n) (m:Nat) (e:n<=m):x < 2 ^ m:=Nat.lt_of_lt_of_le h (Nat.pow_le_pow_right (by decide) e)
noncomputable def mixV:List Int:=[271828183,314159269,161803399,141421357,173205081,223606797,244948975,264575131,331662479,360555127]
noncomputable def mix (c:Int) (k:Nat) (m:Int):Int:=Int.fmod (Int.fmod ((c + 1) * mixV.getD k 0) 1000000007) m
theorem bJ' (c:Int) (k:Nat) {m:Int} (h:0 < m):0<=mix c k m/\mix c k m < m:=⟨Int.fmod_nonneg_of_pos _ h,Int.fmod_lt_of_pos _ h⟩
theorem bc' (c:Int) (k:Nat) (m:Int) (hk:k < 10) (hm:0 < m):F_qv [.int c,.int k,.int m]=.ok (.int (mix c k m)):=by
 show outD (b_qv [some (.arg (.int c)),some (.arg (.int k)),some (.arg (.int m)),none])=_;unfold b_qv mix;have ad:addD (.lst [.int 271828183,.int 314159269,.int 161803399,.int 141421357,.int 173205081]) (.lst [.int 223606797,.int 244948975,.int 264575131,.int 331662479,.int 360555127])=.ok (.lst (mixV.map .int)):=rfl;have hl:k < mixV.length:=hk;have hg:(mixV.map D.int)[k]? = some (.int (mixV.getD k 0)):=by
  rw [List.getElem?_map,List.getD_eq_getElem?_getD,List.getElem?_eq_getElem hl]; rfl
 have hs:∀v∈mixV,v.natAbs < 2 ^ 64:=by decide
 have hv:(mixV.getD k 0).natAbs < 2 ^ 64:=by
  rw [List.getD_eq_getElem?_getD,List.getElem?_eq_getElem hl]; exact hs _ (List.getElem_mem hl)
 push_cast [ad,cZ' _ k _ hg,mulR hv,modI (show (1000000007:Int)≠0 by decide),modI (Int.ne_of_gt hm)]
theorem lj':IsSc [[2]]/\IsSc [[3,0],[2]]/\IsSc [[5,0,0,0],[3,0],[2]]:=bm' (by decide) (by decide) (by decide) fun n hn=>by
 simp only [List.mem_cons,List.not_mem_nil,or_false] at hn;rcases hn with rfl | rfl | rfl | rfl | rfl | rfl | rfl
 ·exact ⟨1,by decide,by decide,by decide⟩
 ·exact ⟨1,by decide,by decide,by decide⟩
 ·exact ⟨2,by decide,by decide,by decide⟩
 ·exact ⟨2,by decide,by decide,by decide⟩
 ·exact ⟨3,by decide,by decide,by decide⟩
 ·exact ⟨3,by decide,by decide,by decide⟩
 ·exact ⟨5,by decide,by decide,by decide⟩
theorem lk':IsSc [[3]]/\IsSc [[5,0],[3]]/\IsSc [[7,0,0,0],[5,0],[3]]:=bm' (by decide) (by decide) (by decide) fun n hn=>by
 simp only [List.mem_cons,List.not_mem_nil,or_false] at hn;rcases hn with rfl | rfl | rfl | rfl | rfl | rfl | rfl
 ·exact ⟨1,by decide,by decide,by decide⟩
 ·exact ⟨2,by decide,by decide,by decide⟩
 ·exact ⟨3,by decide,by decide,by decide⟩
 ·exact ⟨2,by decide,by decide,by decide⟩
 ·exact ⟨4,by decide,by decide,by decide⟩
 ·exact ⟨5,by decide,by decide,by decide⟩
 ·exact ⟨10,by decide,by decide,by decide⟩
theorem ll':IsSc [[5]]/\IsSc [[7,0],[5]]/\IsSc [[11,0,0,0],[7,0],[5]]:=bm' (by decide) (by decide) (by decide) fun n hn=>by
 simp only [List.mem_cons,List.not_mem_nil,or_false] at hn;rcases hn with rfl | rfl | rfl | rfl | rfl | rfl | rfl
 ·exact ⟨2,by decide,by decide,by decide⟩
 ·exact ⟨2,by decide,by decide,by decide⟩
 ·exact ⟨5,by decide,by decide,by decide⟩
 ·exact ⟨3,by decide,by decide,by decide⟩
 ·exact ⟨7,by decide,by decide,by decide⟩
 ·exact ⟨8,by decide,by decide,by decide⟩
 ·exact ⟨19,by decide,by decide,by decide⟩
theorem lm':IsSc [[7]]/\IsSc [[11,0],[7]]/\IsSc [[13,0,0,0],[11,0],[7]]:=bm' (by decide) (by decide) (by decide) fun n hn=>by
 simp only [List.mem_cons,List.not_mem_nil,or_false] at hn;rcases hn with rfl | rfl | rfl | rfl | rfl | rfl | rfl
 ·exact ⟨2,by decide,by decide,by decide⟩
 ·exact ⟨3,by decide,by decide,by decide⟩
 ·exact ⟨8,by decide,by decide,by decide⟩
 ·exact ⟨3,by decide,by decide,by decide⟩
 ·exact ⟨9,by decide,by decide,by decide⟩
 ·exact ⟨11,by decide,by decide,by decide⟩
 ·exact ⟨31,by decide,by decide,by decide⟩
theorem ln':IsSc [[11]]/\IsSc [[13,0],[11]]/\IsSc [[2,0,0,0],[13,0],[11]]:=bm' (by decide) (by decide) (by decide) fun n hn=>by
 simp only [List.mem_cons,List.not_mem_nil,or_false] at hn;rcases hn with rfl | rfl | rfl | rfl | rfl | rfl | rfl
 ·exact ⟨3,by decide,by decide,by decide⟩
 ·exact ⟨3,by decide,by decide,by decide⟩
 ·exact ⟨11,by decide,by decide,by decide⟩
 ·exact ⟨1,by decide,by decide,by decide⟩
 ·exact ⟨4,by decide,by decide,by decide⟩
 ·exact ⟨5,by decide,by decide,by decide⟩
 ·exact ⟨16,by decide,by decide,by decide⟩
theorem lo':IsSc [[13]]/\IsSc [[2,0],[13]]/\IsSc [[3,0,0,0],[2,0],[13]]:=bm' (by decide) (by decide) (by decide) fun n hn=>by
 simp only [List.mem_cons,List.not_mem_nil,or_false] at hn;rcases hn with rfl | rfl | rfl | rfl | rfl | rfl | rfl
 ·exact ⟨3,by decide,by decide,by decide⟩
 ·exact ⟨1,by decide,by decide,by decide⟩
 ·exact ⟨5,by decide,by decide,by decide⟩
 ·exact ⟨1,by decide,by decide,by decide⟩
 ·exact ⟨6,by decide,by decide,by decide⟩
 ·exact ⟨2,by decide,by decide,by decide⟩
 ·exact ⟨8,by decide,by decide,by decide⟩
theorem gP' (i:Int) (h0:0<=i) (h6:i < 6):∃v1 v2 v3:Int,ixD (.lst [.int 2,.int 3,.int 5,.int 7,.int 11,.int 13]) (.int i)=.ok (.int v1)/\ixD (.lst [.int 2,.int 3,.int 5,.int 7,.int 11,.int 13]) (.int (Int.fmod (i + 1) 6))=.ok (.int v2)/\ixD (.lst [.int 2,.int 3,.int 5,.int 7,.int 11,.int 13]) (.int (Int.fmod (i + 2) 6))=.ok (.int v3)/\v1.natAbs < 2 ^ 10/\v2.natAbs < 2 ^ 10/\v3.natAbs < 2 ^ 10/\IsSc [[v1]]/\IsSc [[v2,0],[v1]]/\IsSc [[v3,0,0,0],[v2,0],[v1]]:=by
 have:i=0\/i=1\/i=2\/i=3\/i=4\/i=5:=by omega
 rcases this with z | z | z | z | z | z <;> rw [z]
 ·exact ⟨2,3,5,rfl,rfl,rfl,by decide,by decide,by decide,lj'⟩
 ·exact ⟨3,5,7,rfl,rfl,rfl,by decide,by decide,by decide,lk'⟩
 ·exact ⟨5,7,11,rfl,rfl,rfl,by decide,by decide,by decide,ll'⟩
 ·exact ⟨7,11,13,rfl,rfl,rfl,by decide,by decide,by decide,lm'⟩
 ·exact ⟨11,13,2,rfl,rfl,rfl,by decide,by decide,by decide,ln'⟩
 ·exact ⟨13,2,3,rfl,rfl,rfl,by decide,by decide,by decide,lo'⟩
theorem bd1 {n:Nat} {a:Int} (h:a.natAbs < 2 ^ n):Bd n [a]:=fun t ht=>by rw [List.mem_singleton.mp ht]; exact h
theorem bdc {n:Nat} {a:Int} {l:List Int} (h:a.natAbs < 2 ^ n) (hl:Bd n l):Bd n (a :: l):=fun t ht=>(List.mem_cons.mp ht).elim (fun z=>by rw [z]; exact h) (hl t)
theorem kL' (c:Int):∃R1 R2 R3:List Int,R1.length=1/\R2.length=2/\R3.length=4/\Bd 10 R1/\Bd 10 R2/\Bd 10 R3/\(IsSc [R1]/\IsSc [R2,R1]/\IsSc [R3,R2,R1])/\∀level:Nat,F_qg [.int c,.int level]=.ok (.tup ([TI R1,TI R2,TI R3].take level)):=by
 have b0:=bJ' c 0 (m:=6) (by decide);have x0:F_qv [.int c,.int 0,.int 6]=_:=bc' c 0 6 (by decide) (by decide);generalize mix c 0 6=y0 at b0 x0;have sq:(1 + y0) * (1 + y0)<=6 * 6:=Int.mul_le_mul (by omega) (by omega) (by omega) (by decide);have sq0:0<=(1 + y0) * (1 + y0):=Int.mul_nonneg (by omega) (by omega);have b1:=bJ' c 1 (m:=2 * (1 + y0)) (by omega);have x1:F_qv [.int c,.int 1,.int (2 * (1 + y0))]=_:=bc' c 1 (2 * (1 + y0)) (by decide) (by omega);generalize mix c 1 (2 * (1 + y0))=y1 at b1 x1;have b2:=bJ' c 2 (m:=3) (by decide);have x2:F_qv [.int c,.int 2,.int 3]=_:=bc' c 2 3 (by decide) (by decide);generalize mix c 2 3=y2 at b2 x2;have b3:=bJ' c 3 (m:=3) (by decide);have x3:F_qv [.int c,.int 3,.int 3]=_:=bc' c 3 3 (by decide) (by decide);generalize mix c 3 3=y3 at b3 x3;have br:(1 + y2) * (1 + y0)<=3 * 6:=Int.mul_le_mul (by omega) (by omega) (by omega) (by decide);have br0:0<=(1 + y2) * (1 + y0):=Int.mul_nonneg (by omega) (by omega);have b4:=bJ' c 4 (m:=(1 + y2) * (1 + y0) + 1) (by omega);have x4:F_qv [.int c,.int 4,.int ((1 + y2) * (1 + y0) + 1)]=_:=bc' c 4 ((1 + y2) * (1 + y0) + 1) (by decide) (by omega);generalize mix c 4 ((1 + y2) * (1 + y0) + 1)=y4 at b4 x4;have b5:=bJ' c 5 (m:=1 + y3) (by omega);have x5:F_qv [.int c,.int 5,.int (1 + y3)]=_:=bc' c 5 (1 + y3) (by decide) (by omega);generalize mix c 5 (1 + y3)=y5 at b5 x5;have x6:F_qv [.int c,.int 6,.int 3]=_:=bc' c 6 3 (by decide) (by decide);generalize mix c 6 3=y6 at x6;have b7:=bJ' c 7 (m:=6) (by decide);have x7:F_qv [.int c,.int 7,.int 6]=_:=bc' c 7 6 (by decide) (by decide);generalize mix c 7 6=y7 at b7 x7;have big:(1024:Nat)=2 ^ 10:=by decide
 have tiny:∀{a:Int},0<=a->a < 1000->a.natAbs < 2 ^ 1000:=fun {a} h1 h2=>Nat.lt_of_lt_of_le (show a.natAbs < 2 ^ 10 by rw [<- big]; omega) (Nat.pow_le_pow_right (by decide) (by decide));have m1:=mulI (a:=1 + y0) (b:=1 + y0) (tiny (by omega) (by omega)) (tiny (by omega) (by omega));have m2:=mulI (a:=2) (b:=1 + y0) (tiny (by omega) (by omega)) (tiny (by omega) (by omega));have m3:=mulI (a:=1 + y2) (b:=1 + y0) (tiny (by omega) (by omega)) (tiny (by omega) (by omega));have z10:(0:Int).natAbs < 2 ^ 10:=by decide
 by_cases h:y6=0
 ·obtain ⟨v1,v2,v3,e1,e2,e3,w1,w2,w3,sc⟩:=gP' y7 b7.1 b7.2;refine ⟨[v1],[v2,0],[v3,0,0,0],rfl,rfl,rfl,bd1 w1,bdc w2 (bd1 z10),bdc w3 (bdc z10 (bdc z10 (bd1 z10))),sc,fun level=>?_⟩;show outD (b_qg [some (.arg (.int c)),some (.arg (.int level)),none,none,none,none,none,none,none])=_;unfold b_qg;push_cast [x0,x1,x2,x3,x4,x5,x6,x7,m1,m2,m3,h,e1,e2,e3,modI (show (6:Int)≠0 by decide),bU'];rfl
 ·have ex:(1 + y0 + 1) * (1 + y0 + 1)=(1 + y0) * (1 + y0) + 2 * (1 + y0) + 1:=by grind
  have sn:=gI' (m:=(1 + y0) * (1 + y0) + 1 + y1) (r:=1 + y0) (c:=y4) (b:=1 + y2) (e:=y5) (k:=1 + y3) (by omega) (by omega) (by omega) (by omega) (by omega) (by omega) (by omega) (by omega);refine ⟨[(1 + y0) * (1 + y0) + 1 + y1],[y4,1 + y2],[y5,0,1 + y3,0],rfl,rfl,rfl,bd1 (by rw [<- big]; omega),bdc (by rw [<- big]; omega) (bd1 (by rw [<- big]; omega)),bdc (by rw [<- big]; omega) (bdc z10 (bdc (by rw [<- big]; omega) (bd1 z10))),sn,fun level=>?_⟩;show outD (b_qg [some (.arg (.int c)),some (.arg (.int level)),none,none,none,none,none,none,none])=_;unfold b_qg;push_cast [x0,x1,x2,x3,x4,x5,x6,m1,m2,m3,h,bU'];rfl
theorem id' (c:Int) (level:Nat) (h:level<=3):∃rs F of,F_qg [.int c,.int level]=.ok (RT rs)/\Tow rs F of/\rs.length=level/\∀r∈rs,Bd 10 r:=by
 obtain ⟨R1,R2,R3,l1,l2,l3,b1,b2,b3,⟨s1,s2,s3⟩,e⟩:=kL' c;have:level=0\/level=1\/level=2\/level=3:=by omega
 rcases this with z | z | z | z <;> subst z <;> rw [e]
 ·exact ⟨[],_,_,rfl,Tow.nil,rfl,fun r hr=>by cases hr⟩
 ·obtain ⟨F,of,T⟩:=s1;exact ⟨[R1],F,of,rfl,T,rfl,fun r hr=>by rw [List.mem_singleton.mp hr]; exact b1⟩
 ·obtain ⟨F,of,T⟩:=s2;refine ⟨[R2,R1],F,of,rfl,T,rfl,fun r hr=>?_⟩;rcases List.mem_cons.mp hr with z | z
  ·rw [z]; exact b2
  ·rw [List.mem_singleton.mp z]; exact b1
 ·obtain ⟨F,of,T⟩:=s3;refine ⟨[R3,R2,R1],F,of,rfl,T,rfl,fun r hr=>?_⟩;rcases List.mem_cons.mp hr with z | z
  ·rw [z]; exact b3
  ·rcases List.mem_cons.mp z with z | z
   ·rw [z]; exact b2
   ·rw [List.mem_singleton.mp z]; exact b1
theorem dx' (x y:List Int) (hl:x.length<=1000):F_qw [TI x,TI y]=.ok (TI (addL x y)):=by
 show outD (b_qw [some (.arg (TI x)),some (.arg (TI y))])=_;unfold b_qw;have c:=ck' (fe:=two (slotD 0) (slotD 1) addD) (fi:=bindRg (consD (slotD 0) (consD (slotD 1) (fun _=>.ok []))) zipG) (fr:=[]) (δ:=[some (.arg (TI x)),some (.arg (TI y))]) (rest:=[]) (xs:=x) (ys:=y) (g:=fun a b=>.int (a + b))
  (rngF (ds:=[TI x,TI y]) rfl rfl) rfl (Nat.le_trans hl (by decide)) fun a _ b _=>by push_cast [DL.ap_seq]
 rw [zipI] at c;push_cast [c]
theorem bY' (k:Int) (x:List Int) (hl:x.length<=1000) (hk:k.natAbs < 2 ^ 200000) (hx:Bd 200000 x):F_qp [.int k,TI x]=.ok (TI (x.map (k * ·))):=by
 show outD (b_qp [some (.arg (.int k)),some (.arg (TI x))])=_;unfold b_qp;have c:=bd' (fe:=two (slotD 1) (slotD 0) mulE) (fi:=bindL (slotD 1) seqItems) (fr:=[0]) (δ:=[some (.arg (.int k)),some (.arg (TI x))]) (rest:=[some (.arg (.int k))]) (ts:=x) (g:=fun t=>.int (k * t))
  (by push_cast [DL.ap_seq]) rfl (Nat.le_trans hl (by decide)) fun t ht=>by push_cast [mulB hk (hx t ht)]
 rw [hU'] at c;push_cast [c]
theorem w_lt {ρ:Nat}:∀(rs:List (List Int)) (n:Nat) (x y:List Int) (p q:Nat),rs.length < n->Sc rs->(∀r∈rs,Bd ρ r)->x.length=2 ^ rs.length->y.length=2 ^ rs.length->Bd p x->Bd q y->p + q + eT ρ rs.length<=200000->rs.length<=8 ->
  Fr_qb n [RT rs,TI x,TI y]=.ok (TI (lt rs x y))
 | _,0,_,_,_,_,h,_,_,_,_,_,_,_,_=>absurd h (Nat.not_lt_zero _)
 | [],n + 1,x,y,p,q,_,_,_,hx,hy,bx,by_,hb,_=>by
  show outD (b_qb (Fr_qb n) [some (.arg (RT [])),some (.arg (TI x)),some (.arg (TI y)),none,none,none,none,none])=_;unfold b_qb;have e1:=upB bx.head (show p<=200000 by omega);have e2:=upB by_.head (show q<=200000 by omega);have hx':x.length=1:=hx;push_cast [List.length_map,hx',eZ' (aR' (k:=0) hx),eZ' (aR' (k:=0) hy),mulB e1 e2];rfl
 | r :: rs,n + 1,x,y,p,q,hn,S,hr,hx,hy,bx,by_,hb,h8=>by
  obtain ⟨hr1,S⟩:=S;have hb:p + q + (2 * eT ρ rs.length + ρ + 1)<=200000:=hb;have h8:rs.length + 1<=8:=h8;have hr':∀r∈rs,Bd ρ r:=fun u hu=>hr u (List.mem_cons_of_mem _ hu);have a:=aE' hx;have b:=aF' hx;have c:=aE' hy;have d:=aF' hy;have hn':rs.length < n:=Nat.lt_of_succ_lt_succ hn;have i1:=w_lt rs n (frH x) (frH y) p q hn' S hr' a c bx.fr by_.fr (by omega) (by omega);have i2:=w_lt rs n (bhH x) (bhH y) p q hn' S hr' b d bx.bh by_.bh (by omega) (by omega);have i3:=w_lt rs n (frH x) (bhH y) p q hn' S hr' a d bx.fr by_.bh (by omega) (by omega);have i4:=w_lt rs n (bhH x) (frH y) p q hn' S hr' b c bx.bh by_.fr (by omega) (by omega);have i5:=w_lt rs n r (lt rs (bhH x) (bhH y)) ρ (p + q + eT ρ rs.length) hn' S hr' hr1 (by rw [bG']; exact as' rs _ _ S b d) (hr r (by simp)) (by rw [bG']; exact ptB rs hr' bx.bh by_.bh) (by omega) (by omega);have small:2 ^ rs.length<=256:=Nat.le_trans (Nat.pow_le_pow_right (by decide) (show rs.length<=8 by omega)) (by decide);have l1:(lt rs (frH x) (frH y)).length=2 ^ rs.length:=by rw [bG']; exact as' rs _ _ S a c
  have l2:(lt rs r (lt rs (bhH x) (bhH y))).length=2 ^ rs.length:=by rw [bG',bG']; exact as' rs _ _ S hr1 (as' rs _ _ S b d)
  have l3:(lt rs (frH x) (bhH y)).length=2 ^ rs.length:=by rw [bG']; exact as' rs _ _ S a d
  have l4:(lt rs (bhH x) (frH y)).length=2 ^ rs.length:=by rw [bG']; exact as' rs _ _ S b c
  have p1:=dx' (lt rs (frH x) (frH y)) (lt rs r (lt rs (bhH x) (bhH y))) (by omega);have p2:=dx' (lt rs (frH x) (bhH y)) (lt rs (bhH x) (frH y)) (by omega);have f1:=aY' l1 l2;have f2:=aY' l3 l4;have ad:=fa' (a:=addL (lt rs (frH x) (frH y)) (lt rs r (lt rs (bhH x) (bhH y)))) (b:=addL (lt rs (frH x) (bhH y)) (lt rs (bhH x) (frH y))) (aR' f1) (by omega);show outD (b_qb (Fr_qb n) [some (.arg (RT (r :: rs))),some (.arg (TI x)),some (.arg (TI y)),none,none,none,none,none])=_;unfold b_qb;have z:¬((x.length:Int)=1):=by
   rw [hx]; show ¬(((2 ^ (rs.length + 1):Nat):Int)=1);have:=Nat.two_pow_pos rs.length;rw [Nat.pow_succ]; omega
  have fx:x.take (x.length / 2)=frH x:=rfl;have bx':x.drop (x.length / 2)=bhH x:=rfl;have e:x.length / 2=y.length / 2:=by rw [hx,hy]
  have fy:y.take (x.length / 2)=frH y:=by rw [e]; rfl
  have by':y.drop (x.length / 2)=bhH y:=by rw [e]; rfl
  push_cast [List.length_map,z,br',bi',dp',ci',cj',fx,bx',fy,by',i1,i2,i3,i4,i5,p1,p2,ad,lt]
noncomputable def Rw {F:OF} (of:List Int->F.C) (k n:Nat) (d:D) (v:F.C):Prop :=
 ∃x b,d=num x b/\0 < b/\x.length=2 ^ k/\Bd n x/\b.natAbs < 2 ^ n/\v=of x / (b:F.C)
section
variable {rs:List (List Int)} {F:OF} {of:List Int->F.C} {ρ:Nat}
theorem _root_.Mine.Nm.rw {k n:Nat} {d:D} {v:F.C} (h:Nm of k n d v):Rw of k n d v:=by
 obtain ⟨x,b,h1,h2,h3,h4,h5,h6⟩:=h;exact ⟨x,b,h1,h2.pos,h3,h4,h5,h6⟩
theorem Rw.mono {k n m:Nat} {d:D} {v:F.C} (h:Rw of k n d v) (e:n<=m):Rw of k m d v:=by
 obtain ⟨x,b,h1,h2,h3,h4,h5,h6⟩:=h;exact ⟨x,b,h1,h2,h3,h4.mono e,Nat.lt_of_lt_of_le h5 (bX' e),h6⟩
theorem fl_mul {a b c d:F.C}:a * c / (b * d)=a / b * (c / d):=by grind
theorem kM' {a b c d:F.C} (hb:b≠0) (hd:d≠0):(d * a + b * c) / (b * d)=a / b + c / d:=by grind
theorem be' (T:Tow rs F of) (h3:rs.length<=3) (hr:∀r∈rs,Bd ρ r) {p q:Nat} {d e:D} {u v:F.C} (h1:Rw of rs.length p d u) (h2:Rw of rs.length q e v) (hn:p + q + eT ρ rs.length<=200000) :
  ∃z,F_qk [RT rs,d,e]=.ok z/\Rw of rs.length (p + q + eT ρ rs.length) z (u * v):=by
 obtain ⟨x,b,rfl,pb,lx,bx,bb,ex⟩:=h1;obtain ⟨y,c,rfl,pc,ly,b_y,bc,ey⟩:=h2;have S:=T.sc;have t:F_qb [RT rs,TI x,TI y]=_:=w_lt rs 4 x y p q (by omega) S hr lx ly bx b_y hn (by omega);rw [bG'] at t;refine ⟨num (pt rs x y) (b * c),?_,_,_,rfl,Int.mul_pos pb pc,as' rs x y S lx ly,ptB rs hr bx b_y,Nat.lt_of_lt_of_le (cK' bb bc) (bX' (by omega)),?_⟩
 ·show outD (b_qk [some (.arg (RT rs)),some (.arg (num x b)),some (.arg (num y c))])=_;unfold b_qk;push_cast [t,mulB (upB bb (show p<=200000 by omega)) (upB bc (show q<=200000 by omega))]
 ·rw [ed' T lx ly,Lean.Grind.Ring.intCast_mul,ex,ey]; exact fl_mul.symm
theorem kN' (T:Tow rs F of) (h3:rs.length<=3) {p q:Nat} {d e:D} {u v:F.C} (h1:Rw of rs.length p d u) (h2:Rw of rs.length q e v) (hn:p + q + 1<=200000) :
  ∃z,F_qF [d,e]=.ok z/\Rw of rs.length (p + q + 1) z (u + v):=by
 obtain ⟨x,b,rfl,pb,lx,bx,bb,ex⟩:=h1;obtain ⟨y,c,rfl,pc,ly,b_y,bc,ey⟩:=h2;have e8:=aU' h3;have hb:=upB bb (show p<=200000 by omega);have hc:=upB bc (show q<=200000 by omega);have s1:=bY' c x (by omega) hc (bx.mono (by omega));have s2:=bY' b y (by omega) hb (b_y.mono (by omega));have ad:=dx' (x.map (c * ·)) (y.map (b * ·)) (by rw [List.length_map]; omega);refine ⟨num (addL (x.map (c * ·)) (y.map (b * ·))) (b * c),?_,_,_,rfl,Int.mul_pos pb pc,aY' (by simpa using lx) (by simpa using ly),?_,Nat.lt_of_lt_of_le (cK' bb bc) (bX' (by omega)),?_⟩
 ·show outD (b_qF [some (.arg (num x b)),some (.arg (num y c))])=_;unfold b_qF;push_cast [s1,s2,ad,mulB hb hc]
 ·have b1:=bV' bx bc;have b2:=bV' b_y bb;rw [Nat.add_comm q p] at b1;exact b1.add b2
 ·rw [ec' T (by simpa using lx) (by simpa using ly),bj' T _ lx,bj' T _ ly,Lean.Grind.Ring.intCast_mul,ex,ey];exact (kM' (aS' T (show b≠0 by omega)) (aS' T (show c≠0 by omega))).symm
theorem gQ' (T:Tow rs F of) {p:Nat} {d:D} {u:F.C} (h:Nm of rs.length p d u):F_qc [d,.int ((2 ^ rs.length:Nat):Int)]=.ok (.bl true):=by
 obtain ⟨x,b,rfl,nx,lx,bx,bb,ex⟩:=h;exact ic' (2 ^ rs.length) nx lx (aR' lx)
end
theorem gR' {k:Nat} (h:k<=3):eT 10 k<=77:=by
 have:k=0\/k=1\/k=2\/k=3:=by omega
 rcases this with z | z | z | z <;> subst z <;> decide
theorem oB3 {k p:Nat} (h:k<=3):oB 10 k p<=15 * p + 770:=by
 have:k=0\/k=1\/k=2\/k=3:=by omega
 rcases this with z | z | z | z <;> subst z <;> simp only [oB,eT] <;> omega
theorem SOk3 {k p:Nat} (h:k<=3) (hp:p<=20000):SOk 10 k p:=by
 have:k=0\/k=1\/k=2\/k=3:=by omega
 rcases this with z | z | z | z <;> subst z <;> simp only [SOk,eT] <;> omega
section
variable {rs:List (List Int)} {F:OF} {of:List Int->F.C} {ρ:Nat}
end
end Bk
namespace Bk
open PySem PySem.Spec PyProof.Rows L2 DL
noncomputable def b_qr:DS->Out :=
 (retD (bindF (consD (two (bindF (consD (slotD 0) (consD (slotD 1) (fun _=>.ok []))) F_qA) (two (fun _=>.ok (.int 97)) (slotD 1) mulE) addD) (consD (two (slotD 1) (fun _=>.ok (.int 10)) modD) (consD (fun _=>.ok (.int 1000000007)) (fun _=>.ok [])))) F_qv))
noncomputable def F_qr:List D->Res D:=fnD 2 2 b_qr
noncomputable def b_qy:DS->Out :=
 (seqD (setD 2 (slotD 1)) (seqD (forS (tgtN 3) (bindL (slotD 0) seqItems) (setD 2 (bindF (consD (slotD 2) (consD (slotD 3) (fun _=>.ok []))) F_qq))) (retD (tupF (consD (bindF (consD (compD 1 [2] (tgtN 0) (two (slotD 0) (slotD 1) fdivD) (bindL (slotD 0) seqItems)) (fun _=>.ok [])) tupleG) (consD (two (slotD 1) (slotD 2) fdivD) (fun _=>.ok [])))))))
noncomputable def F_qy:List D->Res D:=fnD 2 4 b_qy
noncomputable def b_qj:DS->Out :=
 (seqD (ownC 2 (compD 1 [0] (tgtN 0) (two (bindF (consD (slotD 1) (consD (slotD 0) (consD (fun _=>.ok (.int 9)) (fun _=>.ok [])))) F_qv) (fun _=>.ok (.int 4)) subD) (bindRg (consD (two (lstF (consD (fun _=>.ok (.int 1)) (consD (fun _=>.ok (.int 2)) (consD (fun _=>.ok (.int 4)) (consD (fun _=>.ok (.int 8)) (fun _=>.ok [])))))) (slotD 1) ixD) (fun _=>.ok [])) rng1))) (seqD (ifS (bindT (two (two (slotD 0) (fun _=>.ok (.int 3)) modD) (fun _=>.ok (.int 0)) eqD) boolD) (ownC 2 (two (sliceF (slotD 2) noPart (partF (fun _=>.ok (.int 1)))) (compD 1 [] (tgtN 0) (fun _=>.ok (.int 0)) (bindL (sliceF (slotD 2) (partF (fun _=>.ok (.int 1))) noPart) seqItems)) catG)) Out.nxt) (seqD (ifS (bindT (two (two (slotD 0) (fun _=>.ok (.int 5)) modD) (fun _=>.ok (.int 2)) eqD) boolD) (putD 2 (noX (fun _=>.ok (.int 0))) (two (two (two (slotD 0) (fun _=>.ok (.int 5)) fdivD) (two (two (fun _=>.ok (.int 2)) (two (fun _=>.ok (.int 10)) (fun _=>.ok (.int 20)) powD) mulE) (fun _=>.ok (.int 1)) addD) modD) (two (fun _=>.ok (.int 10)) (fun _=>.ok (.int 20)) powD) subD)) Out.nxt) (retD (bindF (consD (slotD 2) (consD (two (fun _=>.ok (.int 1)) (bindF (consD (slotD 0) (consD (fun _=>.ok (.int 9)) (consD (fun _=>.ok (.int 4)) (fun _=>.ok [])))) F_qv) addD) (fun _=>.ok []))) F_qy)))))
noncomputable def F_qj:List D->Res D:=fnD 2 3 b_qj
noncomputable def b_qa:DS->Out :=
 (seqD (ifS (orT (notT (bindT (bindF (slotD 0) (isG Bk.is_tuple)) truthD)) (bindT (two (bindF (consD (slotD 0) (fun _=>.ok [])) lenG) (slotD 1) neD) boolD)) (retD (fun _=>.ok (.bl false))) Out.nxt) (retD (bindF (consD (compD 1 [2] (tgtN 0) (bindF (consD (slotD 0) (consD (slotD 1) (fun _=>.ok []))) F_qc) (bindL (slotD 0) seqItems)) (fun _=>.ok [])) allG)))
noncomputable def F_qa:List D->Res D:=fnD 3 3 b_qa
noncomputable def b_law_by_line:DS->Out :=
 (seqD (setD 3 (bindF (consD (bindF (consD (slotD 0) (consD (two (slotD 1) (fun _=>.ok (.int 0)) ixD) (consD (two (slotD 2) (fun _=>.ok (.int 0)) ixD) (fun _=>.ok [])))) F_qk) (consD (bindF (consD (slotD 0) (consD (two (slotD 1) (fun _=>.ok (.int 1)) ixD) (consD (two (slotD 2) (fun _=>.ok (.int 1)) ixD) (fun _=>.ok [])))) F_qk) (fun _=>.ok []))) F_qF)) (retD (bindF (consD (slotD 3) (consD (two (slotD 1) (fun _=>.ok (.int 2)) ixD) (fun _=>.ok []))) F_qB)))
noncomputable def F_law_by_line:List D->Res D:=fnD 3 4 b_law_by_line
noncomputable def b_ql:DS->Out :=
 (retD (bindF (consD (bindF (consD (slotD 0) (consD (two (slotD 1) (fun _=>.ok (.int 0)) ixD) (consD (two (slotD 2) (fun _=>.ok (.int 1)) ixD) (fun _=>.ok [])))) F_qk) (consD (bindF (consD (slotD 0) (consD (two (slotD 1) (fun _=>.ok (.int 1)) ixD) (consD (two (slotD 2) (fun _=>.ok (.int 0)) ixD) (fun _=>.ok [])))) F_qk) (fun _=>.ok []))) F_qB))
noncomputable def F_ql:List D->Res D:=fnD 3 3 b_ql
end Bk
namespace Bk
open PySem PySem.Spec PyProof.Rows L2 DL Mine
theorem ct' (ds:List D):(SV.own ds).view=.lst ds:=Eq.trans rfl rfl
theorem gS' (b:Bool):intG [.bl b]=.ok (.int (if b then 1 else 0)):=Eq.trans rfl rfl
theorem dy' (ts:List Int):flatDs (ts.map .int)=true:=by
 induction ts with
 | nil=>rfl
 | cons t ts ih=>rw [List.map_cons,flatDs,ih]; rfl
theorem eK' (i:Nat) {f:DS->Res D} {δ:DS} {ds:List D} (h:f δ=.ok (.lst ds)):ownC i f δ=.nxt (δ.set i (some (.own ds))):=by unfold ownC; rw [h]
theorem iD' {i:Nat} {fi fe:DS->Res D} {δ:DS} {ds:List D} {d:D} {z:Int} {j:Nat} (h1:δ[i]? = some (some (.own ds))) (h2:fe δ=.ok d) (h3:fi δ=.ok (.int z)) (h4:ixN ds.length z=some j) (h5:flatDs ds=true) (h6:flatD d=true):putD i fi fe δ=.nxt (setS i ds j d δ):=by
 unfold putD;rw [h1]; dsimp only;rw [h2]; dsimp only [onD];rw [h3]; dsimp only [onD];rw [h4]; dsimp only;rw [if_pos ⟨h5,h6⟩]
theorem jJ' {n k:Nat} (h:k < n):ixN n (k:Int)=some k:=by
 unfold ixN;rw [if_pos (by omega),if_pos (by omega)]
 congr 1
section
variable {rs:List (List Int)} {F:OF} {of:List Int->F.C} {ρ:Nat}
theorem jK' (T:Tow rs F of):∀(n:Nat) (x:List Int) (p:Nat),rs.length < n->rs.length<=3->(∀r∈rs,Bd ρ r)->x.length=2 ^ rs.length->Bd p x->SOk ρ rs.length p ->
  Fr_qm n [RT rs,TI x]=.ok (.int (sgn (of x))):=by
 induction T with
 | nil =>
  intro n x p hn h3 hrs lx bx hs
  match n,hn,x,lx with
  | n + 1,_,[a],_ =>
   show outD (b_qm (Fr_qm n) [some (.arg (RT [])),some (.arg (TI [a])),none,none,none,none,none,none])=_;unfold b_qm;have ix0:ixD (TI [a]) (.int 0)=.ok (.int a):=ix_tup0 _ _;have e:sgn (F:=ratOF) (((a:Int):Rat))=sg a:=jG' Tow.nil a;show _=Res.ok (D.int (sgn (F:=ratOF) (((a:Int):Rat))));rw [e];have l1:((List.map D.int [a]).length:Int)=1:=rfl;rcases fd' a with ⟨h,e⟩ | ⟨h,e⟩ | ⟨h,e⟩ <;> rw [e]
   ·subst h;push_cast [l1,ix0,gS']; rfl
   ·have h1:¬(a < 0):=by omega
    push_cast [l1,ix0,gS',h,h1]; rfl
   ·have h1:¬(0 < a):=by omega
    push_cast [l1,ix0,gS',h,h1]; rfl
 | @cons rs F of T r hl hr hn' ih =>
  intro n x p hn h3 hrs lx bx hs
  match n,hn with
  | n + 1,hn =>
   obtain ⟨hs1,hs2⟩:=hs;have h3':rs.length + 1<=3:=h3;have hrs':∀r∈rs,Bd ρ r:=fun u hu=>hrs u (List.mem_cons_of_mem _ hu);have hrr:=hrs r (by simp);have hn2:rs.length < n:=Nat.lt_of_succ_lt_succ hn;have S:=T.sc;have lf:=aE' lx;have lb:=aF' lx;have e8:=aU' (k:=rs.length) (by omega);have hp':2 * p + (2 * eT ρ rs.length + ρ + 1)<=200000:=hs1;have i1:=ih n (frH x) p hn2 (by omega) hrs' lf bx.fr (hs2.mono (by omega));have i2:=ih n (bhH x) p hn2 (by omega) hrs' lb bx.bh (hs2.mono (by omega));have t2:F_qb [RT rs,TI (bhH x),TI (bhH x)]=_:=w_lt rs 4 _ _ p p (by omega) S hrs' lb lb bx.bh bx.bh (by omega) (by omega);rw [bG'] at t2;have l2:=as' rs _ _ S lb lb;have t3:F_qb [RT rs,TI r,TI (pt rs (bhH x) (bhH x))]=_:=w_lt rs 4 _ _ ρ (p + p + eT ρ rs.length) (by omega) S hrs' hl l2 hrr (ptB rs hrs' bx.bh bx.bh) (by omega) (by omega);rw [bG',ch' rs r (pt rs (bhH x) (bhH x))] at t3;have t1:F_qb [RT rs,TI (frH x),TI (frH x)]=_:=w_lt rs 4 _ _ p p (by omega) S hrs' lf lf bx.fr bx.fr (by omega) (by omega);rw [bG'] at t1;have l3:=as' rs _ _ S l2 hl;have l1:=as' rs _ _ S lf lf;have sc:=bY' (-1) (pt rs (pt rs (bhH x) (bhH x)) r) (by omega) (Nat.lt_of_lt_of_le (show Int.natAbs (-1) < 2 ^ 1 by decide) (bX' (by decide))) ((ptB rs hrs' (ptB rs hrs' bx.bh bx.bh) hrr).mono (by omega));rw [eB'] at sc;have ad:=dx' (pt rs (frH x) (frH x)) ((pt rs (pt rs (bhH x) (bhH x)) r).map fun t=>-t) (by omega);have i3:=ih n (ntL r rs x) _ hn2 (by omega) hrs' (gO' S hl lx) (iB' hrr hrs' bx) hs2;rw [iC' T hl lx] at i3;have nt:addL (pt rs (frH x) (frH x)) ((pt rs (pt rs (bhH x) (bhH x)) r).map fun t=>-t)=ntL r rs x:=rfl;rw [nt] at ad;have es:=eF' (hr:=hr) (hn:=hn') (exOf of r hr hn' x);have es':sgn (exOf of r hr hn' x)=if sgn (of (frH x))=sgn (of (bhH x))\/sgn (of (bhH x))=0 then sgn (of (frH x)) else if sgn (of (frH x))=0 then sgn (of (bhH x)) else sgn (of (frH x)) * sgn (of (frH x) * of (frH x) - of (bhH x) * of (bhH x) * of r):=es
   rw [es'];have z:¬((x.length:Int)=1):=by
    rw [lx]; show ¬(((2 ^ (rs.length + 1):Nat):Int)=1);have:=Nat.two_pow_pos rs.length;rw [Nat.pow_succ]; omega
   have fx:x.take (x.length / 2)=frH x:=rfl;have bx':x.drop (x.length / 2)=bhH x:=rfl;show outD (b_qm (Fr_qm n) [some (.arg (RT (r :: rs))),some (.arg (TI x)),none,none,none,none,none,none])=_;unfold b_qm;generalize of (frH x) * of (frH x) - of (bhH x) * of (bhH x) * of r=nn at *;have mu:=mulB (ee' (of (frH x))) (ee' nn)
   by_cases c1:sgn (of (frH x))=sgn (of (bhH x))
   ·rw [if_pos (.inl c1)];push_cast [List.length_map,z,br',ci',cj',fx,bx',bi',i1,i2,c1]
   ·by_cases c2:sgn (of (bhH x))=0
    ·rw [if_pos (.inr c2)];have c1':¬(sgn (of (frH x))=0):=fun q=>c1 (by rw [q,c2]);push_cast [List.length_map,z,br',ci',cj',fx,bx',bi',i1,i2,c2,c1']
    ·rw [if_neg (fun q=>q.elim c1 c2)]
     by_cases c3:sgn (of (frH x))=0
     ·rw [if_pos c3];have c1':¬(0=sgn (of (bhH x))):=fun q=>c2 q.symm;push_cast [List.length_map,z,br',ci',cj',fx,bx',bi',i1,i2,c2,c3,c1']
     ·rw [if_neg c3];push_cast [List.length_map,z,br',ci',cj',fx,bx',bi',dp',i1,i2,c1,c2,c3,t1,t2,t3,sc,ad,i3,mu]
end
end Bk
namespace Bk
open PySem PySem.Spec PyProof.Rows L2 DL Mine Lean.Grind
section
variable {F:OF} {r:F.C} {hr:0 < r} {hn:∀z:F.C,z * z≠r}
end
section
variable {rs:List (List Int)} {F:OF} {of:List Int->F.C} {ρ:Nat}
noncomputable def hB (ρ:Nat):Nat->Nat->Nat
 | 0,p=>p
 | k + 1,p=>hB ρ k p + hB ρ k ρ + 1
theorem kO' (T:Tow rs F of) {a b:Int} (h:a<=b):((a:Int):F.C)<=((b:Int):F.C):=by
 by_cases c:a=b
 ·rw [c]; exact Std.le_refl _
 ·have:=aT' T (k:=b - a) (by omega);rw [Ring.intCast_sub] at this; grind
theorem lt_int (T:Tow rs F of) {a b:Int} (h:((a:Int):F.C) < ((b:Int):F.C)):a < b:=by
 rcases Int.lt_or_le a b with c | c
 ·exact c
 ·have:=kO' T c; grind
end
theorem fg' {t:TGD} {b:DS->Out} {d:D} {ds:List D} {δ δ1 δ2:DS} (h1:t d δ=some δ1) (h2:b δ1=.nxt δ2):forD t b (d :: ds) δ=forD t b ds δ2:=by
 rw [forD,h1];dsimp only;rw [h2]
theorem ie' {t:TGD} {b:DS->Out} {δ:DS}:forD t b [] δ=.nxt δ:=Eq.trans rfl rfl
section
variable {rs:List (List Int)} {F:OF} {of:List Int->F.C} {ρ:Nat}
theorem iE' (T:Tow rs F of) (h3:rs.length<=3) {p q:Nat} {d e:D} {u v:F.C} (h1:Rw of rs.length p d u) (h2:Rw of rs.length q e v) (hn:p + q + 1<=200000) :
  ∃z,F_qB [d,e]=.ok z/\Rw of rs.length (p + q + 1) z (u - v):=by
 obtain ⟨y,c,rfl,pc,ly,b_y,bc,ey⟩:=h2;have e8:=aU' h3;have s1:=bY' (-1) y (by omega) (Nat.lt_of_lt_of_le (show Int.natAbs (-1) < 2 ^ 1 by decide) (bX' (by decide))) (b_y.mono (by omega));rw [eB'] at s1;have hneg:Rw of rs.length q (num (y.map fun t=>-t) c) (-v):=⟨_,_,rfl,pc,by simpa using ly,fb' b_y,bc,by
  rw [fe' T ly,ey];have c0:=aS' T (show c≠0 by omega)
  grind⟩
 obtain ⟨z,ez,hz⟩:=kN' T h3 h1 hneg hn;refine ⟨z,?_,by rwa [show u + -v=u - v by grind] at hz⟩;show outD (b_qB [some (.arg d),some (.arg (num y c))])=_;unfold b_qB;push_cast [s1,ez]
theorem cy' (T:Tow rs F of) (h3:rs.length<=3) (hr:∀r∈rs,Bd 10 r) {p:Nat} {x:List Int} {b:Int} {u:F.C} (h:Rw of rs.length p (num x b) u) (hp:p<=20000):F_qm [RT rs,TI x]=.ok (.int (sgn u)):=by
 obtain ⟨y,c,e,pc,ly,b_y,bc,ey⟩:=h;have e1:x=y:=by
  simp only [num,D.tup.injEq,List.cons.injEq,D.int.injEq,and_true] at e;have inj:∀(x y:List Int),x.map D.int=y.map D.int->x=y:=by
   intro x
   induction x with
   | nil=>intro y h; cases y with | nil=>rfl | cons _ _=>simp at h
   | cons a x ih =>
    intro y h
    cases y with
    | nil=>simp at h
    | cons a' y =>
     simp only [List.map_cons,List.cons.injEq,D.int.injEq] at h;rw [h.1,ih y h.2]
  exact inj _ _ e.1
 subst e1;have i:F_qm [RT rs,TI x]=_:=jK' T 4 x p (by omega) h3 hr ly b_y (SOk3 h3 hp);rw [i,ey,jH' T pc]
theorem dz' (ns:List Int) (k:Nat):∃c,F_qr [.lst (ns.map .int),.int (k:Int)]=.ok (.int c):=by
 have hc:=ff' ns k;have mu:mulD (.int 97) (.int (k:Int))=.ok (.int (97 * (k:Int))):=by
  unfold mulD;exact if_pos (.inr (.inl (intBits_le (show Int.natAbs 97 < 2 ^ 64 by decide))))
 have mo:=modI (a:=(k:Int)) (show (10:Int)≠0 by decide);obtain ⟨j,hj⟩:∃j:Nat,Int.fmod (k:Int) 10=(j:Int)/\j < 10:=by
  have a:=Int.fmod_nonneg_of_pos (k:Int) (b:=10) (by decide);have b:=Int.fmod_lt_of_pos (k:Int) (b:=10) (by decide);exact ⟨(Int.fmod (k:Int) 10).toNat,by omega,by omega⟩
 rw [hj.1] at mo;have mx:=bc' (cell ns k + 97 * (k:Int)) j 1000000007 hj.2 (by decide);refine ⟨mix (cell ns k + 97 * (k:Int)) j 1000000007,?_⟩
 ·show outD (b_qr [some (.arg (.lst (ns.map .int))),some (.arg (.int (k:Int)))])=_;unfold b_qr;push_cast [hc,mu,mo,mx]
theorem eL' (T:Tow rs F of) (h3:rs.length<=3) {p:Nat} {x:List Int} {b:Int} (lx:x.length=2 ^ rs.length) (bx:Bd p x) (pb:0 < b) (bb:b.natAbs < 2 ^ p) (hp:p<=8000) {w:D} (hw:w=.lst (x.map .int)\/w=TI x):∃z,F_qy [w,.int b]=.ok z/\Nm of rs.length p z (of x / (b:F.C)):=by
 obtain ⟨K,y,c,k0,e1,e2,nf,yl,kb,hN⟩:=iw' T lx (show b≠0 by omega) bx bb;refine ⟨_,?_,hN⟩;have cp:=nf.pos;have kp:0 < K:=by
  rcases Int.lt_or_le 0 K with q | q
  ·exact q
  ·have:=Int.mul_nonpos_of_nonpos_of_nonneg q (Int.le_of_lt cp); omega
 have k8:K.natAbs < 2 ^ 8000:=up8 kb hp;have e8:=aU' h3;have hs:x.foldl cm b=K:=by
  rw [e1,e2,dY' nf k0 (aR' yl)]; omega
 have si:seqItems w=.ok (x.map .int):=by rcases hw with z | z <;> rw [z] <;> rfl
 obtain ⟨z',e⟩:=cx' (i:=3) (f:=cm) (b:=setD 2 (bindF (consD (slotD 2) (consD (slotD 3) (fun _=>.ok []))) F_qq))
  (fun acc z=>[some (.val w),some (.val (.int b)),some (.val (.int acc)),z])
  (fun acc z t=>by push_cast [cs']) x b none
 rw [hs] at e;have th:thaw [some (SV.arg w),some (.arg (.int b)),some (.val (.int b)),none]=[some (.val w),some (.val (.int b)),some (.val (.int b)),none]:=rfl;have th2:thawO (Out.nxt [some (.val w),some (.val (.int b)),some (.val (.int K)),z'])=.nxt [some (.val w),some (.val (.int b)),some (.val (.int K)),z'.map thaw2]:=rfl;have cp':∀z2,compD 1 [2] (tgtN 0) (two (slotD 0) (slotD 1) fdivD) (bindL (slotD 0) seqItems) [some (.val w),some (.val (.int b)),some (.val (.int K)),z2]=.ok (.lst (x.map fun t=>.int (Int.fdiv t K))):=fun z2 =>
  bd' (rest:=[some (.arg (.int K))]) (by push_cast [si]) rfl (Nat.le_trans (show x.length<=63 by omega) (by decide)) fun t _=>by
   push_cast [fH' k0 k8]
 have cl:x.map (fun t=>D.int (Int.fdiv t K))=y.map .int:=by
  rw [e1,List.map_map];simp only [Function.comp_def,cg' _ _ k0]
 have cb':Int.fdiv b K=c:=by rw [e2,cg' _ _ k0]
 show outD (b_qy [some (.arg w),some (.arg (.int b)),none,none])=_;unfold b_qy;push_cast [si,th,e,th2,cp',cl,fH' k0 k8,cb']
theorem gT' (ds:List D) (k:Nat):cutD (.lst ds) none (some (k:Int))=.ok (.lst (ds.take k)):=by
 have h:=bU' ds k;have h':Res.ok (D.tup (cutL ds none (some (k:Int))))=.ok (.tup (ds.take k)):=h;injection h' with h'
 injection h' with h'
 show Res.ok (D.lst (cutL ds none (some (k:Int))))=_;rw [h']
theorem gU' (ds:List D) (k:Nat):cutD (.lst ds) (some (k:Int)) none=.ok (.lst (ds.drop k)):=by
 have h:=do' ds k
 have h':Res.ok (D.tup (cutL ds (some (k:Int)) none))=.ok (.tup (ds.drop k)):=h;injection h' with h'
 injection h' with h'
 show Res.ok (D.lst (cutL ds (some (k:Int)) none))=_;rw [h']
theorem ef' (T:Tow rs F of) (h3:rs.length<=3) (c:Int):∃d v,F_qj [.int c,.int (rs.length:Int)]=.ok d/\Nm of rs.length 70 d v:=by
 have e8:=aU' h3;have p0:=Nat.two_pow_pos rs.length;have m3:modD (.int c) (.int 3)=_:=modI (show (3:Int)≠0 by decide);have m5:modD (.int c) (.int 5)=_:=modI (show (5:Int)≠0 by decide);have d5:fdivD (.int c) (.int 5)=_:=fH' (show (5:Int)≠0 by decide) (Nat.lt_of_lt_of_le (show 5 < 2 ^ 3 by decide) (Nat.pow_le_pow_right (by decide) (by decide)));generalize Int.fdiv c 5=q at *;have p20:powD (.int 10) (.int 20)=.ok (.int (10 ^ 20)):=rfl;have mu2:mulD (.int 2) (.int (10 ^ 20))=.ok (.int (2 * 10 ^ 20)):=mulB (Nat.lt_of_lt_of_le (show Int.natAbs 2 < 2 ^ 2 by decide) (bX' (by decide))) (Nat.lt_of_lt_of_le (show Int.natAbs (10 ^ 20) < 2 ^ 70 by decide) (bX' (by decide)));have mB:=modI (a:=q) (show (2 * 10 ^ 20 + 1:Int)≠0 by decide);have b0:=Int.fmod_nonneg_of_pos q (show (0:Int) < 2 * 10 ^ 20 + 1 by decide);have b1:=Int.fmod_lt_of_pos q (show (0:Int) < 2 * 10 ^ 20 + 1 by decide);generalize Int.fmod q (2 * 10 ^ 20 + 1)=big at *;have x9:F_qv [.int c,.int 9,.int 4]=_:=bc' c 9 4 (by decide) (by decide);have b9:=bJ' c 9 (m:=4) (by decide);generalize mix c 9 4=bot at *;have e70:(1180591620717411303424:Nat)=2 ^ 70:=by decide
 let tops:List Int:=((List.range (2 ^ rs.length)).map fun (k:Nat)=>(k:Int)).map fun t=>mix c t.toNat 9 - 4
 have tl:tops.length=2 ^ rs.length:=by simp [tops]
 have tb:Bd 70 tops:=fun t ht=>by
  obtain ⟨u,_,rfl⟩:=List.mem_map.mp ht;have:=bJ' c u.toNat (m:=9) (by decide);rw [<- e70]; omega
 have mi:=jI' rs.length h3;have c0:(compD 1 [0] (tgtN 0) (two (bindF (consD (slotD 1) (consD (slotD 0) (consD (fun _=>.ok (.int 9)) (fun _=>.ok [])))) F_qv) (fun _=>.ok (.int 4)) subD) (bindRg (consD (two (lstF (consD (fun _=>.ok (.int 1)) (consD (fun _=>.ok (.int 2)) (consD (fun _=>.ok (.int 4)) (consD (fun _=>.ok (.int 8)) (fun _=>.ok [])))))) (slotD 1) ixD) (fun _=>.ok [])) rng1)) [some (.arg (.int c)),some (.arg (.int (rs.length:Int))),none]=.ok (.lst (tops.map .int)):=by
  have:=bd' (fe:=(two (bindF (consD (slotD 1) (consD (slotD 0) (consD (fun _=>.ok (.int 9)) (fun _=>.ok [])))) F_qv) (fun _=>.ok (.int 4)) subD)) (fi:=(bindRg (consD (two (lstF (consD (fun _=>.ok (.int 1)) (consD (fun _=>.ok (.int 2)) (consD (fun _=>.ok (.int 4)) (consD (fun _=>.ok (.int 8)) (fun _=>.ok [])))))) (slotD 1) ixD) (fun _=>.ok [])) rng1)) (fr:=[0]) (δ:=[some (.arg (.int c)),some (.arg (.int (rs.length:Int))),none]) (rest:=[some (.arg (.int c))])
   (ts:=(List.range (2 ^ rs.length)).map fun (k:Nat)=>(k:Int)) (g:=fun t=>.int (mix c t.toNat 9 - 4)) (rngF (ds:=[.int ((2 ^ rs.length:Nat):Int)]) (by push_cast [mi]) (gA' _ (by omega))) rfl (by simp only [List.length_map,List.length_range]; exact Nat.le_trans e8 (by decide)) fun t ht=>by
    obtain ⟨j,hj,rfl⟩:=List.mem_map.mp ht;have hj':j < 2 ^ rs.length:=List.mem_range.mp hj;push_cast [bc' c j 9 (by omega) (by decide),Int.toNat_natCast]
  rw [this];simp only [tops,List.map_map,Function.comp_def]
 have mid:∃ts:List Int,ts.length=2 ^ rs.length/\Bd 70 ts/\(ifS (bindT (two (two (slotD 0) (fun _=>.ok (.int 3)) modD) (fun _=>.ok (.int 0)) eqD) boolD) (ownC 2 (two (sliceF (slotD 2) noPart (partF (fun _=>.ok (.int 1)))) (compD 1 [] (tgtN 0) (fun _=>.ok (.int 0)) (bindL (sliceF (slotD 2) (partF (fun _=>.ok (.int 1))) noPart) seqItems)) catG)) Out.nxt) [some (.arg (.int c)),some (.arg (.int (rs.length:Int))),some (.own (tops.map .int))]=.nxt [some (.arg (.int c)),some (.arg (.int (rs.length:Int))),some (.own (ts.map .int))]:=by
  by_cases h:Int.fmod c 3=0
  ·refine ⟨tops.take 1 ++ List.replicate (2 ^ rs.length - 1) 0,by simp [tl]; omega,Bd.app (fun t ht=>tb t (List.mem_of_mem_take ht)) (fun t ht=>by rw [List.eq_of_mem_replicate ht]; decide),?_⟩;have cz:compD 1 [] (tgtN 0) (fun _=>.ok (.int 0)) (bindL (sliceF (slotD 2) (partF (fun _=>.ok (.int 1))) noPart) seqItems) [some (.arg (.int c)),some (.arg (.int (rs.length:Int))),some (.own (tops.map .int))]=.ok (.lst ((List.replicate (2 ^ rs.length - 1) (0:Int)).map .int)):=by
    have:=bd' (fe:=fun _=>.ok (.int 0)) (fi:=bindL (sliceF (slotD 2) (partF (fun _=>.ok (.int 1))) noPart) seqItems) (fr:=[]) (δ:=[some (.arg (.int c)),some (.arg (.int (rs.length:Int))),some (.own (tops.map .int))]) (rest:=[]) (ts:=tops.drop 1) (g:=fun _=>.int 0)
     (by
      have cd:cutD (.lst (tops.map .int)) (some 1) none=.ok (.lst ((tops.map .int).drop 1)):=gU' _ 1;push_cast [ct',cd,List.map_drop]) rfl (by rw [List.length_drop,tl]; exact Nat.le_trans (show 2 ^ rs.length - 1<=63 by omega) (by decide)) fun t ht=>rfl
    rw [this,jo',List.length_drop,tl];simp
   have ct:cutD (.lst (tops.map .int)) none (some 1)=.ok (.lst ((tops.map .int).take 1)):=gT' _ 1;have cg:catG (.lst ((tops.map .int).take 1)) (.lst ((List.replicate (2 ^ rs.length - 1) (0:Int)).map .int))=.ok (.lst ((tops.take 1 ++ List.replicate (2 ^ rs.length - 1) 0).map .int)):=by
    show (if ((tops.map D.int).take 1).length + ((List.replicate (2 ^ rs.length - 1) (0:Int)).map D.int).length<=sizeLine then Res.ok (D.lst ((tops.map D.int).take 1 ++ (List.replicate (2 ^ rs.length - 1) (0:Int)).map D.int)) else .stuck)=_
    have bigL:(1000:Nat)<=sizeLine:=by decide
    rw [if_pos (by simp; omega),List.map_append,List.map_take]
   have oc:=eK' 2 (f:=two (sliceF (slotD 2) noPart (partF (fun _=>.ok (.int 1)))) (compD 1 [] (tgtN 0) (fun _=>.ok (.int 0)) (bindL (sliceF (slotD 2) (partF (fun _=>.ok (.int 1))) noPart) seqItems)) catG) (δ:=[some (.arg (.int c)),some (.arg (.int (rs.length:Int))),some (.own (tops.map .int))]) (ds:=(tops.take 1 ++ List.replicate (2 ^ rs.length - 1) 0).map .int) (by
    push_cast [ct',ct,cz,cg])
   push_cast [m3,h,oc]
  ·exact ⟨tops,tl,tb,by push_cast [m3,h]⟩
 obtain ⟨ts,sl,sb,es⟩:=mid;have mid2:∃ts':List Int,ts'.length=2 ^ rs.length/\Bd 70 ts'/\(ifS (bindT (two (two (slotD 0) (fun _=>.ok (.int 5)) modD) (fun _=>.ok (.int 2)) eqD) boolD) (putD 2 (noX (fun _=>.ok (.int 0))) (two (two (two (slotD 0) (fun _=>.ok (.int 5)) fdivD) (two (two (fun _=>.ok (.int 2)) (two (fun _=>.ok (.int 10)) (fun _=>.ok (.int 20)) powD) mulE) (fun _=>.ok (.int 1)) addD) modD) (two (fun _=>.ok (.int 10)) (fun _=>.ok (.int 20)) powD) subD)) Out.nxt) [some (.arg (.int c)),some (.arg (.int (rs.length:Int))),some (.own (ts.map .int))]=.nxt [some (.arg (.int c)),some (.arg (.int (rs.length:Int))),some (.own (ts'.map .int))]:=by
  by_cases h:Int.fmod c 5=2
  ·refine ⟨ts.set 0 (big - 10 ^ 20),by rw [List.length_set]; exact sl,fun t ht=>?_,?_⟩
   ·rcases List.mem_or_eq_of_mem_set ht with z | z
    ·exact sb t z
    ·rw [z,<- e70]; omega
   ·have hp:(putD 2 (noX (fun _=>.ok (.int 0))) (two (two (two (slotD 0) (fun _=>.ok (.int 5)) fdivD) (two (two (fun _=>.ok (.int 2)) (two (fun _=>.ok (.int 10)) (fun _=>.ok (.int 20)) powD) mulE) (fun _=>.ok (.int 1)) addD) modD) (two (fun _=>.ok (.int 10)) (fun _=>.ok (.int 20)) powD) subD)) [some (.arg (.int c)),some (.arg (.int (rs.length:Int))),some (.own (ts.map .int))]=.nxt [some (.arg (.int c)),some (.arg (.int (rs.length:Int))),some (.own ((ts.set 0 (big - 10 ^ 20)).map .int))]:=by
     have:=iD' (i:=2) (fi:=(noX (fun _=>.ok (.int 0)))) (fe:=(two (two (two (slotD 0) (fun _=>.ok (.int 5)) fdivD) (two (two (fun _=>.ok (.int 2)) (two (fun _=>.ok (.int 10)) (fun _=>.ok (.int 20)) powD) mulE) (fun _=>.ok (.int 1)) addD) modD) (two (fun _=>.ok (.int 10)) (fun _=>.ok (.int 20)) powD) subD))
      (δ:=[some (.arg (.int c)),some (.arg (.int (rs.length:Int))),some (.own (ts.map .int))]) (ds:=ts.map .int) (d:=.int (big - 10 ^ 20)) (z:=0) (j:=0) rfl (by push_cast [d5,p20,mu2,mB]) (kr' rfl) (jJ' (k:=0) (by rw [List.length_map,sl]; exact p0)) (dy' _) rfl
     rw [this];unfold setS;rw [List.map_set];have fl:=dy' ts;simp only [List.map_cons,List.map_nil,Option.bind_some,keepSV,fl,st2,↓reduceIte]
    simp only [ap_if,ap_bT,ap_two,sl0,bnd_ok,vw_arg,m5,h,eqI,bool_ok,ont_ok,decide_true,↓reduceIte,hp]
  ·exact ⟨ts,sl,sb,by push_cast [m5,h]⟩
 obtain ⟨ts',sl',sb',es'⟩:=mid2;have bb:(1 + bot).natAbs < 2 ^ 70:=by rw [<- e70]; omega
 obtain ⟨z,ez,hz⟩:=eL' T h3 sl' sb' (show 0 < 1 + bot by omega) bb (by decide) (.inl rfl);refine ⟨z,_,?_,hz⟩;show outD (b_qj [some (.arg (.int c)),some (.arg (.int (rs.length:Int))),none])=_;unfold b_qj;rw [ap_seq,eK' 2 c0];simp only [sq_nxt,st2,ap_seq (ifS _ _ _),es,es'];push_cast [x9,ct',ez]
end
theorem okT {p:Prop} {i:Decidable p} {r:Res D} (h:r=.ok (.bl (@decide p i))) (c:p):r=.ok (.bl true):=by rw [h,_root_.decide_eq_true c]
theorem okF {p:Prop} {i:Decidable p} {r:Res D} (h:r=.ok (.bl (@decide p i))) (c:¬p):r=.ok (.bl false):=by rw [h,_root_.decide_eq_false c]
section
variable {rs:List (List Int)} {F:OF} {of:List Int->F.C} {ρ:Nat}
theorem if' (T:Tow rs F of) (h3:rs.length<=3) (hr:∀r∈rs,Bd ρ r) {p1 p2 p3 q:Nat} {d0 d1 d2 e1 e2:D} {r2:List D} {a b c x y:F.C} (l0:Rw of rs.length p1 d0 a) (l1:Rw of rs.length p2 d1 b) (l2:Rw of rs.length p3 d2 c) (x1:Rw of rs.length q e1 x) (x2:Rw of rs.length q e2 y) (hn:p1 + q + eT ρ rs.length + (p2 + q + eT ρ rs.length) + 1 + p3 + 1<=20000) :
  ∃z,F_law_by_line [RT rs,.tup [d0,d1,d2],.tup (e1 :: e2 :: r2)]=.ok z/\Rw of rs.length (p1 + q + eT ρ rs.length + (p2 + q + eT ρ rs.length) + 1 + p3 + 1) z (a * x + b * y - c):=by
 obtain ⟨w1,ew1,hw1⟩:=be' T h3 hr l0 x1 (by omega);obtain ⟨w2,ew2,hw2⟩:=be' T h3 hr l1 x2 (by omega);obtain ⟨w,ew,hw⟩:=kN' T h3 hw1 hw2 (by omega);obtain ⟨z,ez,hz⟩:=iE' T h3 hw l2 (by omega);refine ⟨z,?_,hz⟩;show outD (b_law_by_line [some (.arg (RT rs)),some (.arg (.tup [d0,d1,d2])),some (.arg (.tup (e1 :: e2 :: r2))),none])=_;unfold b_law_by_line;push_cast [ew1,ew2,ew,ez]
theorem jL' (a:List Int) (p:Int):okD 7 (num a p)=true:=by
 show ([D.tup (a.map .int),D.int p]:List D).all (okD 6)=true;simp only [List.all_cons,List.all_nil,Bool.and_true];rw [show okD 6 (D.tup (a.map .int))=(a.map D.int).all (okD 5) from rfl,eY']; rfl
theorem kP' (a b:List Int) (p q:Int):okD 8 (.tup [num a p,num b q])=true:=by
 show ([num a p,num b q]:List D).all (okD 7)=true;simp only [List.all_cons,List.all_nil,Bool.and_true,jL']
end
end Bk
namespace K23
open PySem PySem.Spec PyProof.Rows L2 DL Bk Mine
noncomputable def is_NoMeet:D->Option Bool
 | .excf c _ _=>if c = "NoMeet" then some true else none
 | .non=>some false
 | _=>none
noncomputable def is_ValueError:D->Option Bool
 | .excf c _ _=>if c = "NoMeet" then some true else none
 | .non=>some false
 | _=>none
noncomputable def is_NoLine:D->Option Bool
 | .excf c _ _=>if c = "NoMeet" then some false else none
 | .non=>some false
 | _=>none
noncomputable def sub_HallError (c:Str):Option Bool:=if c = "NoMeet" then some true else none
noncomputable def isa_number (c:Str):Bool:=c == "NoMeet"
abbrev co':V->Prop:=fun _=>True
theorem fL' {K:PySem.W.Frag} {fe:DS->Res D} (δ:DS) (d:D) (H:Hp) (v:V) (_:fe δ=.ok d) (_:Rep K H d v):co' v:=trivial
noncomputable def top (i:Nat):Stmt:=PySem.Challenge.pw_compasshall_k23_lines_meet.main.body.getD i (.Pass ⟨0,0,0,0⟩)
abbrev st_qH:Stmt:=top 6
abbrev st_qI:Stmt:=top 13
abbrev st_qh:Stmt:=top 15
abbrev st_qo:Stmt:=top 16
abbrev st_qi:Stmt:=top 17
abbrev st_qt:Stmt:=top 18
abbrev st_qf:Stmt:=top 19
abbrev st_qA:Stmt:=top 31
abbrev st_qu:Stmt:=top 32
abbrev st_qv:Stmt:=top 33
abbrev st_qw:Stmt:=top 36
abbrev st_qp:Stmt:=top 37
abbrev st_qq:Stmt:=top 43
abbrev st_qM:Stmt:=top 8
abbrev st_qE:Stmt:=top 11
abbrev st_qx:Stmt:=top 14
abbrev st_qJ:Stmt:=top 22
abbrev st_qr:Stmt:=top 34
abbrev st_qg:Stmt:=top 35
abbrev st_qF:Stmt:=top 40
abbrev st_qc:Stmt:=top 44
abbrev st_qy:Stmt:=top 46
abbrev st_qN:Stmt:=top 9
abbrev st_qB:Stmt:=top 41
abbrev st_qj:Stmt:=top 47
abbrev st_qa:Stmt:=top 51
abbrev st_qK:Stmt:=top 10
abbrev st_qC:Stmt:=top 52
abbrev st_qs:Stmt:=top 20
abbrev st_qb:Stmt:=top 38
abbrev st_qL:Stmt:=top 12
abbrev st_qz:Stmt:=top 24
abbrev st_qk:Stmt:=top 39
abbrev st_qO:Stmt:=top 23
abbrev st_qG:Stmt:=top 29
abbrev st_qd:Stmt:=top 49
abbrev st_ql:Stmt:=top 50
abbrev st_qm:Stmt:=top 45
abbrev st_qD:Stmt:=top 26
abbrev st_qP:Stmt:=top 25
abbrev st_qe:Stmt:=top 28
abbrev st_qn:Stmt:=top 53
abbrev bK':Stmt:=top 54
theorem sc_qH:FnScope ["a", "b", "one", "other", "rest"] ["a", "b"] (defScope st_qH):=⟨rfl,rfl,rfl,by decide +kernel,rfl,by decide +kernel,by decide +kernel⟩
theorem sc_qI:FnScope ["x", "many"] ["x", "many"] (defScope st_qI):=⟨rfl,rfl,rfl,by decide +kernel,rfl,by decide +kernel,by decide +kernel⟩
theorem sc_qh:FnScope ["tops"] ["tops"] (defScope st_qh):=⟨rfl,rfl,rfl,by decide +kernel,rfl,by decide +kernel,by decide +kernel⟩
theorem sc_qo:FnScope ["tops"] ["tops"] (defScope st_qo):=⟨rfl,rfl,rfl,by decide +kernel,rfl,by decide +kernel,by decide +kernel⟩
theorem sc_qi:FnScope ["tops"] ["tops"] (defScope st_qi):=⟨rfl,rfl,rfl,by decide +kernel,rfl,by decide +kernel,by decide +kernel⟩
theorem sc_qt:FnScope ["one", "other"] ["one", "other"] (defScope st_qt):=⟨rfl,rfl,rfl,by decide +kernel,rfl,by decide +kernel,by decide +kernel⟩
theorem sc_qf:FnScope ["tops"] ["tops"] (defScope st_qf):=⟨rfl,rfl,rfl,by decide +kernel,rfl,by decide +kernel,by decide +kernel⟩
theorem sc_qA:FnScope ["_law_script", "_law_k"] ["_law_script", "_law_k"] (defScope st_qA):=⟨rfl,rfl,rfl,by decide +kernel,rfl,by decide +kernel,by decide +kernel⟩
theorem sc_qu:FnScope ["_law_found"] ["_law_found"] (defScope st_qu):=⟨rfl,rfl,rfl,by decide +kernel,rfl,by decide +kernel,by decide +kernel⟩
theorem sc_qv:FnScope ["_law_cell_here", "_law_k", "_law_many", "_law_some"] ["_law_cell_here", "_law_k", "_law_many"] (defScope st_qv):=⟨rfl,rfl,rfl,by decide +kernel,rfl,by decide +kernel,by decide +kernel⟩
theorem sc_qw:FnScope ["_law_one", "_law_other"] ["_law_one", "_law_other"] (defScope st_qw):=⟨rfl,rfl,rfl,by decide +kernel,rfl,by decide +kernel,by decide +kernel⟩
theorem sc_qp:FnScope ["_law_k", "_law_one"] ["_law_k", "_law_one"] (defScope st_qp):=⟨rfl,rfl,rfl,by decide +kernel,rfl,by decide +kernel,by decide +kernel⟩
theorem sc_qq:FnScope ["_law_one", "_law_other", "_law_rest"] ["_law_one", "_law_other"] (defScope st_qq):=⟨rfl,rfl,rfl,by decide +kernel,rfl,by decide +kernel,by decide +kernel⟩
theorem sc_qM:FnScope ["tops", "bottom", "shared", "top"] ["tops", "bottom"] (defScope st_qM):=⟨rfl,rfl,rfl,by decide +kernel,rfl,by decide +kernel,by decide +kernel⟩
theorem sc_qE:FnScope ["x"] ["x"] (defScope st_qE):=⟨rfl,rfl,rfl,by decide +kernel,rfl,by decide +kernel,by decide +kernel⟩
theorem sc_qx:FnScope ["x"] ["x"] (defScope st_qx):=⟨rfl,rfl,rfl,by decide +kernel,rfl,by decide +kernel,by decide +kernel⟩
theorem sc_qJ:FnScope ["x"] ["x"] (defScope st_qJ):=⟨rfl,rfl,rfl,by decide +kernel,rfl,by decide +kernel,by decide +kernel⟩
theorem sc_qr:FnScope ["_law_script", "_law_k"] ["_law_script", "_law_k"] (defScope st_qr):=⟨rfl,rfl,rfl,by decide +kernel,rfl,by decide +kernel,by decide +kernel⟩
theorem sc_qg:FnScope ["_law_cell_here", "_law_many", "_law_r", "_law_m", "_law_b", "_law_k", "_law_roots", "_law_primes", "_law_at"] ["_law_cell_here", "_law_many"] (defScope st_qg):=⟨rfl,rfl,rfl,by decide +kernel,rfl,by decide +kernel,by decide +kernel⟩
theorem sc_qF:FnScope ["_law_one", "_law_other"] ["_law_one", "_law_other"] (defScope st_qF):=⟨rfl,rfl,rfl,by decide +kernel,rfl,by decide +kernel,by decide +kernel⟩
theorem sc_qc:FnScope ["_law_found", "_law_many", "_law_shared", "_law_top"] ["_law_found", "_law_many"] (defScope st_qc):=⟨rfl,rfl,rfl,by decide +kernel,rfl,by decide +kernel,by decide +kernel⟩
theorem sc_qy:FnScope ["_law_tops", "_law_bottom", "_law_shared", "_law_top"] ["_law_tops", "_law_bottom"] (defScope st_qy):=⟨rfl,rfl,rfl,by decide +kernel,rfl,by decide +kernel,by decide +kernel⟩
theorem sc_qN:FnScope ["x", "y", "tops"] ["x", "y"] (defScope st_qN):=⟨rfl,rfl,rfl,by decide +kernel,rfl,by decide +kernel,by decide +kernel⟩
theorem sc_qB:FnScope ["_law_one", "_law_other"] ["_law_one", "_law_other"] (defScope st_qB):=⟨rfl,rfl,rfl,by decide +kernel,rfl,by decide +kernel,by decide +kernel⟩
theorem sc_qj:FnScope ["_law_cell_here", "_law_many", "_law_tops"] ["_law_cell_here", "_law_many"] (defScope st_qj):=⟨rfl,rfl,rfl,by decide +kernel,rfl,by decide +kernel,by decide +kernel⟩
theorem sc_qa:FnScope ["_law_found", "_law_count", "_law_many"] ["_law_found", "_law_count", "_law_many"] (defScope st_qa):=⟨rfl,rfl,rfl,by decide +kernel,rfl,by decide +kernel,by decide +kernel⟩
theorem sc_qK:FnScope ["x", "y"] ["x", "y"] (defScope st_qK):=⟨rfl,rfl,rfl,by decide +kernel,rfl,by decide +kernel,by decide +kernel⟩
theorem sc_qC:FnScope ["_law_script", "_law_at", "_law_many", "_law_line_here", "_law_nought"] ["_law_script", "_law_at", "_law_many"] (defScope st_qC):=⟨rfl,rfl,rfl,by decide +kernel,rfl,by decide +kernel,by decide +kernel⟩
theorem sc_qs:FnScope ["roots", "one", "other", "beneath", "a", "b", "c", "d", "squared", "front", "behind"] ["roots", "one", "other"] (defScope st_qs):=⟨rfl,rfl,rfl,by decide +kernel,rfl,by decide +kernel,by decide +kernel⟩
theorem sc_qb:FnScope ["_law_roots", "_law_one", "_law_other", "_law_half", "_law_below", "_law_both", "_law_left", "_law_cross"] ["_law_roots", "_law_one", "_law_other"] (defScope st_qb):=⟨rfl,rfl,rfl,by decide +kernel,rfl,by decide +kernel,by decide +kernel⟩
theorem sc_qL:FnScope ["roots", "x", "y"] ["roots", "x", "y"] (defScope st_qL):=⟨rfl,rfl,rfl,by decide +kernel,rfl,by decide +kernel,by decide +kernel⟩
theorem sc_qz:FnScope ["roots", "tops", "beneath", "a", "b", "squared"] ["roots", "tops"] (defScope st_qz):=⟨rfl,rfl,rfl,by decide +kernel,rfl,by decide +kernel,by decide +kernel⟩
theorem sc_qk:FnScope ["_law_roots", "_law_one", "_law_other"] ["_law_roots", "_law_one", "_law_other"] (defScope st_qk):=⟨rfl,rfl,rfl,by decide +kernel,rfl,by decide +kernel,by decide +kernel⟩
theorem sc_qO:FnScope ["roots", "x"] ["roots", "x"] (defScope st_qO):=⟨rfl,rfl,rfl,by decide +kernel,rfl,by decide +kernel,by decide +kernel⟩
theorem sc_qG:FnScope ["roots", "a", "b", "c", "d"] ["roots", "a", "b", "c", "d"] (defScope st_qG):=⟨rfl,rfl,rfl,by decide +kernel,rfl,by decide +kernel,by decide +kernel⟩
theorem sc_qd:FnScope ["_law_roots", "_law_line_here", "_law_point_here", "_law_both"] ["_law_roots", "_law_line_here", "_law_point_here"] (defScope st_qd):=⟨rfl,rfl,rfl,by decide +kernel,rfl,by decide +kernel,by decide +kernel⟩
theorem sc_ql:FnScope ["_law_roots", "_law_one", "_law_other"] ["_law_roots", "_law_one", "_law_other"] (defScope st_ql):=⟨rfl,rfl,rfl,by decide +kernel,rfl,by decide +kernel,by decide +kernel⟩
theorem sc_qm:FnScope ["_law_roots", "_law_tops", "_law_half", "_law_below", "_law_here", "_law_there", "_law_square", "_law_other"] ["_law_roots", "_law_tops"] (defScope st_qm):=⟨rfl,rfl,rfl,by decide +kernel,rfl,by decide +kernel,by decide +kernel⟩
theorem sc_qD:FnScope ["roots", "y", "beneath"] ["roots", "y"] (defScope st_qD):=⟨rfl,rfl,rfl,by decide +kernel,rfl,by decide +kernel,by decide +kernel⟩
theorem sc_qP:FnScope ["roots", "x", "y"] ["roots", "x", "y"] (defScope st_qP):=⟨rfl,rfl,rfl,by decide +kernel,rfl,by decide +kernel,by decide +kernel⟩
theorem sc_qe:FnScope ["roots", "line", "other", "across", "x", "y"] ["roots", "line", "other"] (defScope st_qe):=⟨rfl,rfl,rfl,by decide +kernel,rfl,by decide +kernel,by decide +kernel⟩
theorem sc_qn:FnScope ["_law_roots", "_law_line_here", "_law_other", "_law_met", "e"] ["_law_roots", "_law_line_here", "_law_other"] (defScope st_qn):=⟨rfl,rfl,rfl,by decide +kernel,rfl,by decide +kernel,by decide +kernel⟩
theorem sc_law:FnScope ["_law_script", "_law_many", "_law_roots", "_law_line_here", "_law_other", "_law_way", "_law_by", "_law_parts", "_law_point_here", "_law_one"] ["_law_script"] (defScope bK'):=⟨rfl,rfl,rfl,by decide +kernel,rfl,by decide +kernel,by decide +kernel⟩
noncomputable def b_qC:DS->Out :=
 (seqD (ownC 3 (compD 1 [2,0,1] (tgtN 0) (bindF (consD (two (two (bindF (consD (slotD 2) (consD (two (slotD 3) (slotD 0) addD) (fun _=>.ok []))) F_qr) (two (fun _=>.ok (.int 3)) (slotD 3) mulE) addD) (slotD 0) addD) (consD (slotD 1) (fun _=>.ok []))) F_qj) (bindRg (consD (fun _=>.ok (.int 3)) (fun _=>.ok [])) rng1))) (seqD (setD 4 (bindF (consD (bindF (consD (fun _=>.ok (.int 0)) (consD (two (two (slotD 3) (fun _=>.ok (.int 0)) ixD) (fun _=>.ok (.int 0)) ixD) (fun _=>.ok []))) F_qp) (consD (fun _=>.ok (.int 1)) (fun _=>.ok []))) F_qy)) (seqD (ifS (andT (bindT (two (two (slotD 3) (fun _=>.ok (.int 0)) ixD) (slotD 4) eqD) boolD) (bindT (two (two (slotD 3) (fun _=>.ok (.int 1)) ixD) (slotD 4) eqD) boolD)) (putD 3 (noX (two (bindF (consD (slotD 0) (consD (slotD 1) (fun _=>.ok []))) F_qA) (fun _=>.ok (.int 2)) modD)) (tupF (consD (two (tupF (consD (fun _=>.ok (.int 1)) (fun _=>.ok []))) (sliceF (two (slotD 4) (fun _=>.ok (.int 0)) ixD) (partF (fun _=>.ok (.int 1))) noPart) addD) (consD (fun _=>.ok (.int 1)) (fun _=>.ok []))))) Out.nxt) (retD (bindF (consD (slotD 3) (fun _=>.ok [])) tupleG)))))
noncomputable def F_qC:List D->Res D:=fnD 3 5 b_qC
noncomputable def b_qG:DS->Out :=
 (retD (bindF (consD (bindF (consD (slotD 0) (consD (slotD 1) (consD (slotD 4) (fun _=>.ok [])))) F_qL) (consD (bindF (consD (slotD 0) (consD (slotD 3) (consD (slotD 2) (fun _=>.ok [])))) F_qL) (fun _=>.ok []))) F_qK))
noncomputable def F_qG:List D->Res D:=fnD 5 5 b_qG
noncomputable def b_qd:DS->Out :=
 (seqD (setD 3 (bindF (consD (bindF (consD (slotD 0) (consD (two (slotD 1) (fun _=>.ok (.int 0)) ixD) (consD (two (slotD 2) (fun _=>.ok (.int 0)) ixD) (fun _=>.ok [])))) F_qk) (consD (bindF (consD (slotD 0) (consD (two (slotD 1) (fun _=>.ok (.int 1)) ixD) (consD (two (slotD 2) (fun _=>.ok (.int 1)) ixD) (fun _=>.ok [])))) F_qk) (fun _=>.ok []))) F_qF)) (retD (bindF (consD (slotD 3) (consD (two (slotD 1) (fun _=>.ok (.int 2)) ixD) (fun _=>.ok []))) F_qB)))
noncomputable def F_qd:List D->Res D:=fnD 3 4 b_qd
noncomputable def b_qe:DS->Out :=
 (seqD (setD 3 (bindF (consD (slotD 0) (consD (two (slotD 1) (fun _=>.ok (.int 0)) ixD) (consD (two (slotD 1) (fun _=>.ok (.int 1)) ixD) (consD (two (slotD 2) (fun _=>.ok (.int 0)) ixD) (consD (two (slotD 2) (fun _=>.ok (.int 1)) ixD) (fun _=>.ok [])))))) F_qG)) (seqD (ifS (bindT (bindF (consD (slotD 3) (fun _=>.ok [])) F_qx) truthD) (raiseF "NoMeet" "number" (slotD 3)) Out.nxt) (seqD (setD 4 (bindF (consD (slotD 0) (consD (two (slotD 1) (fun _=>.ok (.int 2)) ixD) (consD (two (slotD 1) (fun _=>.ok (.int 1)) ixD) (consD (two (slotD 2) (fun _=>.ok (.int 2)) ixD) (consD (two (slotD 2) (fun _=>.ok (.int 1)) ixD) (fun _=>.ok [])))))) F_qG)) (seqD (setD 5 (bindF (consD (slotD 0) (consD (two (slotD 1) (fun _=>.ok (.int 0)) ixD) (consD (two (slotD 1) (fun _=>.ok (.int 2)) ixD) (consD (two (slotD 2) (fun _=>.ok (.int 0)) ixD) (consD (two (slotD 2) (fun _=>.ok (.int 2)) ixD) (fun _=>.ok [])))))) F_qG)) (retD (tupF (consD (bindF (consD (slotD 0) (consD (slotD 4) (consD (slotD 3) (fun _=>.ok [])))) F_qP) (consD (bindF (consD (slotD 0) (consD (slotD 5) (consD (slotD 3) (fun _=>.ok [])))) F_qP) (fun _=>.ok [])))))))))
noncomputable def F_qe:List D->Res D:=fnD 3 6 b_qe
noncomputable def b_qn:DS->Out :=
 (seqD (setD 3 (fun _=>.ok .non)) (seqD (tryD 4 sub_HallError (exprD (bindF (consD (slotD 0) (consD (slotD 1) (consD (slotD 2) (fun _=>.ok [])))) F_qe)) (setD 3 (slotD 4))) (seqD (ifS (orT (notT (bindT (bindF (slotD 3) (isG is_NoMeet)) truthD)) (orT (bindT (bindF (slotD 3) (isG is_NoLine)) truthD) (notT (bindT (bindF (slotD 3) (isG is_ValueError)) truthD)))) (retD (fun _=>.ok (.bl false))) Out.nxt) (retD (two (bindF (slotD 3) (attrG isa_number "number")) (bindF (consD (bindF (consD (fun _=>.ok (.int 0)) (consD (two (two (slotD 1) (fun _=>.ok (.int 0)) ixD) (fun _=>.ok (.int 0)) ixD) (fun _=>.ok []))) F_qp) (consD (fun _=>.ok (.int 1)) (fun _=>.ok []))) F_qy) eqD)))))
noncomputable def F_qn:List D->Res D:=fnD 3 5 b_qn
noncomputable def b_law:DS->Out :=
 (seqD (setD 1 (bindF (consD (bindF (consD (slotD 0) (consD (fun _=>.ok (.int 0)) (fun _=>.ok []))) F_qA) (consD (fun _=>.ok (.int 9)) (consD (fun _=>.ok (.int 4)) (fun _=>.ok [])))) F_qv)) (seqD (setD 2 (bindF (consD (bindF (consD (slotD 0) (consD (fun _=>.ok (.int 1)) (fun _=>.ok []))) F_qr) (consD (slotD 1) (fun _=>.ok []))) F_qg)) (seqD (setD 3 (bindF (consD (slotD 0) (consD (fun _=>.ok (.int 2)) (consD (slotD 1) (fun _=>.ok [])))) F_qC)) (seqD (setD 4 (bindF (consD (slotD 0) (consD (fun _=>.ok (.int 5)) (consD (slotD 1) (fun _=>.ok [])))) F_qC)) (seqD (setD 5 (two (bindF (consD (slotD 0) (consD (fun _=>.ok (.int 8)) (fun _=>.ok []))) F_qA) (fun _=>.ok (.int 6)) modD)) (seqD (setD 6 (bindF (consD (bindF (consD (slotD 0) (consD (fun _=>.ok (.int 9)) (fun _=>.ok []))) F_qr) (consD (slotD 1) (fun _=>.ok []))) F_qj)) (seqD (ifS (andT (bindT (two (slotD 5) (fun _=>.ok (.int 2)) (cmpD fun i j=>decide (i < j))) boolD) (bindT (two (bindF (consD (slotD 2) (consD (two (slotD 6) (fun _=>.ok (.int 0)) ixD) (fun _=>.ok []))) F_qm) (fun _=>.ok (.int 0)) neD) boolD)) (seqD (setD 7 (compD 1 [2,6] (tgtN 0) (bindF (consD (slotD 1) (consD (slotD 0) (consD (slotD 2) (fun _=>.ok [])))) F_qk) (bindL (slotD 3) seqItems))) (seqD (setD 4 (tupF (consD (bindF (consD (two (two (slotD 7) (fun _=>.ok (.int 0)) ixD) (fun _=>.ok (.int 0)) ixD) (consD (two (two (slotD 7) (fun _=>.ok (.int 0)) ixD) (fun _=>.ok (.int 1)) ixD) (fun _=>.ok []))) F_qy) (consD (bindF (consD (two (two (slotD 7) (fun _=>.ok (.int 1)) ixD) (fun _=>.ok (.int 0)) ixD) (consD (two (two (slotD 7) (fun _=>.ok (.int 1)) ixD) (fun _=>.ok (.int 1)) ixD) (fun _=>.ok []))) F_qy) (consD (two (slotD 4) (fun _=>.ok (.int 2)) ixD) (fun _=>.ok [])))))) (ifS (bindT (two (slotD 5) (fun _=>.ok (.int 0)) eqD) boolD) (setD 4 (two (sliceF (slotD 4) noPart (partF (fun _=>.ok (.int 2)))) (tupF (consD (bindF (consD (two (two (slotD 7) (fun _=>.ok (.int 2)) ixD) (fun _=>.ok (.int 0)) ixD) (consD (two (two (slotD 7) (fun _=>.ok (.int 2)) ixD) (fun _=>.ok (.int 1)) ixD) (fun _=>.ok []))) F_qy) (fun _=>.ok []))) addD)) Out.nxt))) Out.nxt) (seqD (ifS (bindT (two (bindF (consD (slotD 2) (consD (two (bindF (consD (slotD 2) (consD (slotD 3) (consD (slotD 4) (fun _=>.ok [])))) F_ql) (fun _=>.ok (.int 0)) ixD) (fun _=>.ok []))) F_qm) (fun _=>.ok (.int 0)) eqD) boolD) (retD (andV (bindF (consD (slotD 2) (consD (slotD 3) (consD (slotD 4) (fun _=>.ok [])))) F_qn) (bindF (consD (slotD 2) (consD (slotD 4) (consD (slotD 3) (fun _=>.ok [])))) F_qn))) Out.nxt) (seqD (setD 8 (bindF (consD (slotD 2) (consD (slotD 3) (consD (slotD 4) (fun _=>.ok [])))) F_qe)) (seqD (ifS (orT (notT (bindT (bindF (consD (slotD 8) (consD (fun _=>.ok (.int 2)) (consD (two (lstF (consD (fun _=>.ok (.int 1)) (consD (fun _=>.ok (.int 2)) (consD (fun _=>.ok (.int 4)) (consD (fun _=>.ok (.int 8)) (fun _=>.ok [])))))) (slotD 1) ixD) (fun _=>.ok [])))) F_qa) truthD)) (bindT (two (bindF (consD (slotD 2) (consD (slotD 4) (consD (slotD 3) (fun _=>.ok [])))) F_qe) (slotD 8) neD) boolD)) (retD (fun _=>.ok (.bl false))) Out.nxt) (seqD (forS (tgtN 9) (bindL (lstF (consD (slotD 3) (consD (slotD 4) (fun _=>.ok [])))) seqItems) (ifS (bindT (two (bindF (consD (slotD 2) (consD (two (bindF (consD (slotD 2) (consD (slotD 9) (consD (slotD 8) (fun _=>.ok [])))) F_qd) (fun _=>.ok (.int 0)) ixD) (fun _=>.ok []))) F_qm) (fun _=>.ok (.int 0)) neD) boolD) (retD (fun _=>.ok (.bl false))) Out.nxt)) (retD (fun _=>.ok (.bl true))))))))))))))
noncomputable def F_law:List D->Res D:=fnD 1 10 b_law
structure Adr where
 c_HallError:Addr
 c_NoOver:Addr
 c_NoLine:Addr
 c_NoMeet:Addr
structure Txt (K:PySem.W.Frag) (mg:Str->Option Value) (a:Adr):Prop where
 m_HallError:mg "HallError" = some (.ref a.c_HallError)
 m_NoOver:mg "NoOver" = some (.ref a.c_NoOver)
 n_NoOver:PySem.W.nsIn K mainGlobals "NoOver" = some (some (.ref a.c_NoOver))
 x_NoOver:PySem.W.excIn K a.c_NoOver [.type "ValueError",.type "Exception",.type "BaseException",.type "object"] "ValueError.__new__" = true
 m_NoLine:mg "NoLine" = some (.ref a.c_NoLine)
 m_NoMeet:mg "NoMeet" = some (.ref a.c_NoMeet)
 n_NoMeet:PySem.W.nsIn K mainGlobals "NoMeet" = some (some (.ref a.c_NoMeet))
 s_HallError:∀x C,PySem.W.nsIn K mainGlobals x=some (some (.ref C))->sub_HallError x=some true->PySem.W.exmOne K (.ref C) (.ref a.c_HallError)=some true
 i_int:∀d b,Bk.is_int d=some b->IsOk K (.type "int") b d
 i_bool:∀d b,Bk.is_bool d=some b->IsOk K (.type "bool") b d
 i_tuple:∀d b,Bk.is_tuple d=some b->IsOk K (.type "tuple") b d
 i_NoMeet:∀d b,is_NoMeet d=some b->IsOk K (.ref a.c_NoMeet) b d
 i_NoLine:∀d b,is_NoLine d=some b->IsOk K (.ref a.c_NoLine) b d
 i_ValueError:∀d b,is_ValueError d=some b->IsOk K (.type "ValueError") b d
 a_number:∀c,isa_number c=true->∀C,PySem.W.nsIn K mainGlobals c=some (some (.ref C))->ExcCls K C/\PySem.W.findIn K (.ref C) "number" = some none
 z_ValueError:mg "ValueError" = none
 z_abs:mg "abs" = none
 z_all:mg "all" = none
 z_bool:mg "bool" = none
 z_int:mg "int" = none
 z_isinstance:mg "isinstance" = none
 z_len:mg "len" = none
 z_range:mg "range" = none
 z_tuple:mg "tuple" = none
 z_zip:mg "zip" = none
section
variable {P:Program} {w:World} {K:PySem.W.Frag} {mg:Str->Option Value} {base:Heap} {a:Adr}
abbrev cq':Stmt:=clsDef (top 4) 0
theorem fM':FnScope ["self", "number"] ["self", "number"] (defScope cq'):=⟨rfl,rfl,rfl,by decide +kernel,rfl,by decide +kernel,by decide +kernel⟩
theorem fN' (T:Txt K mg a) (L:Xk K a.c_NoMeet a.c_HallError "NoMeet.__init__" cq' "number"):Oki P w K mg base a.c_NoMeet "number" co':=kt' L fM' (fun _ _ _ _ _ h=>h _) fun f cdv A outer s H E Z=>gX' (iJ' (jj' Z rfl T.m_HallError (fT' (pv 0) (fT' ih' ka')) (by decide))) (iI' (jk' Z (pv 0) (pv 1)))
theorem ok_qH (T:Txt K mg a) (F:Ent K mg "common" st_qH ["a", "b"]) :
  Okf P w K mg base 1 "common" F_qH:=by
 have q:=fnO P w base 0 b_qH F sc_qH fun _ _ _ _ _ _ _ hr=>by
  unfold b_qH;exact (ae' (ah' 2 (aw' ge' gf' rfl T.z_abs (by decide +kernel) (aa' (ab' 0) ac')) sc_qH.nd) (ae' (ah' 3 (aw' ge' gf' rfl T.z_abs (by decide +kernel) (aa' (ab' 1) ac')) sc_qH.nd) (ae' (dL' fuel_qH_1 (at' (dP' hr.units) cr' (ab' 3) ad' (ax' _)) (ae' (ah' 4 (am' bu' bt' (ab' 2) (ab' 3)) sc_qH.nd) (ae' (ah' 2 (ab' 3) sc_qH.nd) (ag' (ah' 3 (ab' 4) sc_qH.nd))))) (ag' (ai' (ab' 2))))))
 exact q
theorem ok_qI (T:Txt K mg a) (F:Ent K mg "lifted" st_qI ["x", "many"]) :
  Okf P w K mg base 1 "lifted" F_qI:=by
 have q:=fnO P w base 0 b_qI F sc_qI fun _ _ _ _ _ _ _ hr=>by
  unfold b_qI;exact (ag' (ai' (aI' (aa' (am' aH' aG' (aj' (ab' 0) ad') (am' aD' aC' (aI' (aa' ad' ac')) (am' eO' eN' (am' kj' kh' ad' (ab' 1)) (aw' bg' bf' rfl T.z_len (by decide +kernel) (aa' (aj' (ab' 0) ad') ac'))))) (aa' (aj' (ab' 0) ad') ac')))))
 exact q
theorem ok_qh (T:Txt K mg a) (F:Ent K mg "are_noughts" st_qh ["tops"]) :
  Okf P w K mg base 1 "are_noughts" F_qh:=by
 have q:=fnO P w base 0 b_qh F sc_qh fun _ _ _ _ _ _ _ hr=>by
  unfold b_qh;exact (ag' (ai' (aw' (iq' rfl) gp' rfl T.z_all (by decide +kernel) (aa' (bp' (N':=["top"]) (m:=1) (fr:=[]) cF' rfl (aK' (by decide)) (bb' (ab' 0)) (fun _ _ _ _=>aM' 0 (show List.Nodup (["top"]:List Str) by decide +kernel)) (fun _ _ _ _=>(dI' (bw' hr.units) aV' (ab' 0) ad' (ax' _)))) ac'))))
 exact q
theorem ok_qo (T:Txt K mg a) (F:Ent K mg "front_tops" st_qo ["tops"]) :
  Okf P w K mg base 1 "front_tops" F_qo:=by
 have q:=fnO P w base 0 b_qo F sc_qo fun _ _ _ _ _ _ _ hr=>by
  unfold b_qo;exact (ag' (ai' (ar' (ab' 0) ao' (aq' (am' bo' bn' (aw' bg' bf' rfl T.z_len (by decide +kernel) (aa' (ab' 0) ac')) ad')))))
 exact q
theorem ok_qi (T:Txt K mg a) (F:Ent K mg "behind_tops" st_qi ["tops"]) :
  Okf P w K mg base 1 "behind_tops" F_qi:=by
 have q:=fnO P w base 0 b_qi F sc_qi fun _ _ _ _ _ _ _ hr=>by
  unfold b_qi;exact (ag' (ai' (ar' (ab' 0) (aq' (am' bo' bn' (aw' bg' bf' rfl T.z_len (by decide +kernel) (aa' (ab' 0) ac')) ad')) ao')))
 exact q
theorem ok_qt (T:Txt K mg a) (F:Ent K mg "plus_tops" st_qt ["one", "other"]) :
  Okf P w K mg base 1 "plus_tops" F_qt:=by
 have q:=fnO P w base 0 b_qt F sc_qt fun _ _ _ _ _ _ _ hr=>by
  unfold b_qt;exact (ag' (ai' (aQ' bh' ba' rfl T.z_tuple (by decide +kernel) (aa' (bp' (N':=["first", "second"]) (m:=2) (fr:=[]) cF' rfl (cH' (by decide) (by decide)) (ew' rfl T.z_zip (aa' (ab' 0) (aa' (ab' 1) ac'))) (fun _ _ _ _=>eo' rfl (fun _=>aO' 0 (show List.Nodup (["first", "second"]:List Str) by decide +kernel) (aO' 1 (show List.Nodup (["first", "second"]:List Str) by decide +kernel) bC'))) (fun _ _ _ _=>(am' aH' aG' (ab' 0) (ab' 1)))) ac'))))
 exact q
theorem ok_qf (T:Txt K mg a) (F:Ent K mg "against_tops" st_qf ["tops"]) :
  Okf P w K mg base 1 "against_tops" F_qf:=by
 have q:=fnO P w base 0 b_qf F sc_qf fun _ _ _ _ _ _ _ hr=>by
  unfold b_qf;exact (ag' (ai' (aQ' bh' ba' rfl T.z_tuple (by decide +kernel) (aa' (bp' (N':=["top"]) (m:=1) (fr:=[]) cF' rfl (aK' (by decide)) (bb' (ab' 0)) (fun _ _ _ _=>aM' 0 (show List.Nodup (["top"]:List Str) by decide +kernel)) (fun _ _ _ _=>(aW' (ab' 0)))) ac'))))
 exact q
theorem ok_qA (T:Txt K mg a) (F:Ent K mg "_law_cell" st_qA ["_law_script", "_law_k"]) :
  Okf P w K mg base 1 "_law_cell" F_qA:=by
 have q:=fnO P w base 0 b_qA F sc_qA fun _ _ _ _ _ _ _ hr=>by
  unfold b_qA;exact (ae' (aJ' (at' gc' (cU' _) (ab' 1) (aw' bg' bf' rfl T.z_len (by decide +kernel) (aa' (ab' 0) ac')) (ax' _)) (ag' (ai' (aj' (ab' 0) (ab' 1)))) av') (ag' (ai' ad')))
 exact q
theorem ok_qu (T:Txt K mg a) (F:Ent K mg "_law_whole" st_qu ["_law_found"]) :
  Okf P w K mg base 1 "_law_whole" F_qu:=by
 have q:=fnO P w base 0 b_qu F sc_qu fun _ _ _ _ _ _ _ hr=>by
  unfold b_qu;exact (ag' (ai' (ik' (aZ' T.i_int (ab' 0) (ce' rfl T.z_int (by decide +kernel)) rfl T.z_isinstance) (ij' (kf' (aZ' T.i_bool (ab' 0) (ce' rfl T.z_bool (by decide +kernel)) rfl T.z_isinstance))))))
 exact q
theorem ok_qv (T:Txt K mg a) (F:Ent K mg "_law_mixed" st_qv ["_law_cell_here", "_law_k", "_law_many"]) :
  Okf P w K mg base 1 "_law_mixed" F_qv:=by
 have q:=fnO P w base 0 b_qv F sc_qv fun _ _ _ _ _ _ _ hr=>by
  unfold b_qv;exact (ae' (ah' 3 (cV' (aa' ad' (aa' ad' (aa' ad' (aa' ad' (aa' ad' ac')))))) sc_qv.nd) (ae' (ah' 3 (am' aH' aG' (ab' 3) (cV' (aa' ad' (aa' ad' (aa' ad' (aa' ad' (aa' ad' ac'))))))) sc_qv.nd) (ag' (ai' (am' bu' bt' (am' bu' bt' (am' aD' aC' (am' aH' aG' (ab' 0) ad') (aj' (ab' 3) (ab' 1))) ad') (ab' 2))))))
 exact q
theorem ok_qw (T:Txt K mg a) (F:Ent K mg "_law_added" st_qw ["_law_one", "_law_other"]) :
  Okf P w K mg base 1 "_law_added" F_qw:=by
 have q:=fnO P w base 0 b_qw F sc_qw fun _ _ _ _ _ _ _ hr=>by
  unfold b_qw;exact (ag' (ai' (aQ' bh' ba' rfl T.z_tuple (by decide +kernel) (aa' (bp' (N':=["_law_a", "_law_b"]) (m:=2) (fr:=[]) cF' rfl (cH' (by decide) (by decide)) (ew' rfl T.z_zip (aa' (ab' 0) (aa' (ab' 1) ac'))) (fun _ _ _ _=>eo' rfl (fun _=>aO' 0 (show List.Nodup (["_law_a", "_law_b"]:List Str) by decide +kernel) (aO' 1 (show List.Nodup (["_law_a", "_law_b"]:List Str) by decide +kernel) bC'))) (fun _ _ _ _=>(am' aH' aG' (ab' 0) (ab' 1)))) ac'))))
 exact q
theorem ok_qp (T:Txt K mg a) (F:Ent K mg "_law_scaled" st_qp ["_law_k", "_law_one"]) :
  Okf P w K mg base 1 "_law_scaled" F_qp:=by
 have q:=fnO P w base 0 b_qp F sc_qp fun _ _ _ _ _ _ _ hr=>by
  unfold b_qp;exact (ag' (ai' (aQ' bh' ba' rfl T.z_tuple (by decide +kernel) (aa' (bp' (N':=["_law_a", "_law_k"]) (m:=1) (fr:=[0]) (bD' (defScope st_qp) ["_law_k", "_law_one"] rfl rfl rfl rfl rfl (by decide +kernel)) rfl (aK' (by decide)) (bb' (ab' 1)) (fun _ _ _ _=>aM' 0 (show List.Nodup (["_law_a", "_law_k"]:List Str) by decide +kernel)) (fun _ _ _ _=>(am' aD' aC' (ab' 1) (ab' 0)))) ac'))))
 exact q
theorem ok_qq (T:Txt K mg a) (F:Ent K mg "_law_common" st_qq ["_law_one", "_law_other"]) :
  Okf P w K mg base 1 "_law_common" F_qq:=by
 have q:=fnO P w base 0 b_qq F sc_qq fun _ _ _ _ _ _ _ hr=>by
  unfold b_qq;exact (ae' (dL' fuel_qq_1 (at' (dP' hr.units) cr' (ab' 1) ad' (ax' _)) (ae' (ah' 2 (am' bu' bt' (ab' 0) (ab' 1)) sc_qq.nd) (ae' (ah' 0 (ab' 1) sc_qq.nd) (ag' (ah' 1 (ab' 2) sc_qq.nd))))) (ag' (ai' (aw' ge' gf' rfl T.z_abs (by decide +kernel) (aa' (ab' 0) ac')))))
 exact q
theorem ok_qM (T:Txt K mg a) (F:Ent K mg "made" st_qM ["tops", "bottom"]) (G_qH:Okf P w K mg base 1 "common" F_qH) :
  Okf P w K mg base 2 "made" F_qM:=by
 have q:=fnO P w base 1 b_qM F sc_qM fun _ _ _ _ _ _ _ hr=>by
  unfold b_qM;exact (ae' (aJ' (at' (bw' hr.units) aV' (ab' 1) ad' (ax' _)) (ag' (dO' rfl PySem.F.excBase_ValueError T.n_NoOver T.x_NoOver rfl T.m_NoOver (aa' ii' ac') (by decide) (hlen:=fun δ ds h=>dT' h))) av') (ae' (ah' 2 (ab' 1) sc_qM.nd) (ae' (dl' rfl (bb' (ab' 0)) (aM' 3 sc_qM.nd) (ag' (ah' 2 (cl G_qH hr (aa' (ab' 2) (aa' (ab' 3) ac'))) sc_qM.nd))) (ae' (aJ' (at' gc' (cU' _) (ab' 1) ad' (ax' _)) (ag' (ah' 2 (aW' (ab' 2)) sc_qM.nd)) av') (ag' (ai' (aI' (aa' (aQ' bh' ba' rfl T.z_tuple (by decide +kernel) (aa' (bp' (N':=["top", "shared"]) (m:=1) (fr:=[2]) (bD' (defScope st_qM) ["tops", "bottom", "shared", "top"] rfl rfl rfl rfl rfl (by decide +kernel)) rfl (aK' (by decide)) (bb' (ab' 0)) (fun _ _ _ _=>aM' 0 (show List.Nodup (["top", "shared"]:List Str) by decide +kernel)) (fun _ _ _ _=>(am' bo' bn' (ab' 0) (ab' 1)))) ac')) (aa' (am' bo' bn' (ab' 1) (ab' 2)) ac')))))))))
 exact q
theorem ok_qE (T:Txt K mg a) (F:Ent K mg "against" st_qE ["x"]) (G_qf:Okf P w K mg base 1 "against_tops" F_qf) :
  Okf P w K mg base 2 "against" F_qE:=by
 have q:=fnO P w base 1 b_qE F sc_qE fun _ _ _ _ _ _ _ hr=>by
  unfold b_qE;exact (ag' (ai' (aI' (aa' (cl G_qf hr (aa' (aj' (ab' 0) ad') ac')) (aa' (aj' (ab' 0) ad') ac')))))
 exact q
theorem ok_qx (T:Txt K mg a) (F:Ent K mg "is_nought" st_qx ["x"]) (G_qh:Okf P w K mg base 1 "are_noughts" F_qh) :
  Okf P w K mg base 2 "is_nought" F_qx:=by
 have q:=fnO P w base 1 b_qx F sc_qx fun _ _ _ _ _ _ _ hr=>by
  unfold b_qx;exact (ag' (ai' (cl G_qh hr (aa' (aj' (ab' 0) ad') ac'))))
 exact q
theorem ok_qJ (T:Txt K mg a) (F:Ent K mg "turned" st_qJ ["x"]) (G_qo:Okf P w K mg base 1 "front_tops" F_qo) (G_qf:Okf P w K mg base 1 "against_tops" F_qf) (G_qi:Okf P w K mg base 1 "behind_tops" F_qi) :
  Okf P w K mg base 2 "turned" F_qJ:=by
 have q:=fnO P w base 1 b_qJ F sc_qJ fun _ _ _ _ _ _ _ hr=>by
  unfold b_qJ;exact (ag' (ai' (aI' (aa' (am' aH' aG' (cl G_qo hr (aa' (aj' (ab' 0) ad') ac')) (cl G_qf hr (aa' (cl G_qi hr (aa' (aj' (ab' 0) ad') ac')) ac'))) (aa' (aj' (ab' 0) ad') ac')))))
 exact q
theorem ok_qr (T:Txt K mg a) (F:Ent K mg "_law_spread" st_qr ["_law_script", "_law_k"]) (G_qv:Okf P w K mg base 1 "_law_mixed" F_qv) (G_qA:Okf P w K mg base 1 "_law_cell" F_qA) :
  Okf P w K mg base 2 "_law_spread" F_qr:=by
 have q:=fnO P w base 1 b_qr F sc_qr fun _ _ _ _ _ _ _ hr=>by
  unfold b_qr;exact (ag' (ai' (cl G_qv hr (aa' (am' aH' aG' (cl G_qA hr (aa' (ab' 0) (aa' (ab' 1) ac'))) (am' aD' aC' ad' (ab' 1))) (aa' (am' bu' bt' (ab' 1) ad') (aa' ad' ac'))))))
 exact q
theorem ok_qg (T:Txt K mg a) (F:Ent K mg "_law_scaffold" st_qg ["_law_cell_here", "_law_many"]) (G_qv:Okf P w K mg base 1 "_law_mixed" F_qv) :
  Okf P w K mg base 2 "_law_scaffold" F_qg:=by
 have q:=fnO P w base 1 b_qg F sc_qg fun _ _ _ _ _ _ _ hr=>by
  unfold b_qg;exact (ae' (ah' 2 (am' aH' aG' ad' (cl G_qv hr (aa' (ab' 0) (aa' ad' (aa' ad' ac'))))) sc_qg.nd) (ae' (ah' 3 (am' aH' aG' (am' aH' aG' (am' aD' aC' (ab' 2) (ab' 2)) ad') (cl G_qv hr (aa' (ab' 0) (aa' ad' (aa' (am' aD' aC' ad' (ab' 2)) ac'))))) sc_qg.nd) (ae' (ah' 4 (am' aH' aG' ad' (cl G_qv hr (aa' (ab' 0) (aa' ad' (aa' ad' ac'))))) sc_qg.nd) (ae' (ah' 5 (am' aH' aG' ad' (cl G_qv hr (aa' (ab' 0) (aa' ad' (aa' ad' ac'))))) sc_qg.nd) (ae' (ah' 6 (aI' (aa' (aI' (aa' (ab' 3) ac')) (aa' (aI' (aa' (cl G_qv hr (aa' (ab' 0) (aa' ad' (aa' (am' aH' aG' (am' aD' aC' (ab' 4) (ab' 2)) ad') ac')))) (aa' (ab' 4) ac'))) (aa' (aI' (aa' (cl G_qv hr (aa' (ab' 0) (aa' ad' (aa' (ab' 5) ac')))) (aa' ad' (aa' (ab' 5) (aa' ad' ac'))))) ac')))) sc_qg.nd) (ae' (aJ' (at' (bw' hr.units) aV' (cl G_qv hr (aa' (ab' 0) (aa' ad' (aa' ad' ac')))) ad' (ax' _)) (ae' (ah' 7 (cV' (aa' ad' (aa' ad' (aa' ad' (aa' ad' (aa' ad' (aa' ad' ac'))))))) sc_qg.nd) (ae' (ah' 8 (cl G_qv hr (aa' (ab' 0) (aa' ad' (aa' ad' ac')))) sc_qg.nd) (ag' (ah' 6 (aI' (aa' (aI' (aa' (aj' (ab' 7) (ab' 8)) ac')) (aa' (aI' (aa' (aj' (ab' 7) (am' bu' bt' (am' aH' aG' (ab' 8) ad') ad')) (aa' ad' ac'))) (aa' (aI' (aa' (aj' (ab' 7) (am' bu' bt' (am' aH' aG' (ab' 8) ad') ad')) (aa' ad' (aa' ad' (aa' ad' ac'))))) ac')))) sc_qg.nd)))) av') (ag' (ai' (ar' (ab' 6) ao' (aq' (ab' 1)))))))))))
 exact q
theorem ok_qF (T:Txt K mg a) (F:Ent K mg "_law_sum" st_qF ["_law_one", "_law_other"]) (G_qw:Okf P w K mg base 1 "_law_added" F_qw) (G_qp:Okf P w K mg base 1 "_law_scaled" F_qp) :
  Okf P w K mg base 2 "_law_sum" F_qF:=by
 have q:=fnO P w base 1 b_qF F sc_qF fun _ _ _ _ _ _ _ hr=>by
  unfold b_qF;exact (ag' (ai' (aI' (aa' (cl G_qw hr (aa' (cl G_qp hr (aa' (aj' (ab' 1) ad') (aa' (aj' (ab' 0) ad') ac'))) (aa' (cl G_qp hr (aa' (aj' (ab' 0) ad') (aa' (aj' (ab' 1) ad') ac'))) ac'))) (aa' (am' aD' aC' (aj' (ab' 0) ad') (aj' (ab' 1) ad')) ac')))))
 exact q
theorem ok_qc (T:Txt K mg a) (F:Ent K mg "_law_is_number" st_qc ["_law_found", "_law_many"]) (G_qq:Okf P w K mg base 1 "_law_common" F_qq) (G_qu:Okf P w K mg base 1 "_law_whole" F_qu) :
  Okf P w K mg base 2 "_law_is_number" F_qc:=by
 have q:=fnO P w base 1 b_qc F sc_qc fun _ _ _ _ _ _ _ hr=>by
  unfold b_qc;exact (ae' (aJ' (PWD.pt (bP' (bB' (aN' (aZ' T.i_tuple (ab' 0) (ce' rfl T.z_tuple (by decide +kernel)) rfl T.z_isinstance))) (bP' (at' (dP' hr.units) cr' (aw' bg' bf' rfl T.z_len (by decide +kernel) (aa' (ab' 0) ac')) ad' (ax' _)) (cc' (bB' (aN' (aZ' T.i_tuple (aj' (ab' 0) ad') (ce' rfl T.z_tuple (by decide +kernel)) rfl T.z_isinstance))))))) (ag' (ai' dH')) av') (ae' (aJ' (PWD.pt (bP' (at' (dP' hr.units) cr' (aw' bg' bf' rfl T.z_len (by decide +kernel) (aa' (aj' (ab' 0) ad') ac')) (ab' 1) (ax' _)) (bP' (bB' (aN' (cl G_qu hr (aa' (aj' (ab' 0) ad') ac')))) (cc' (at' gc' (cU' _) (aj' (ab' 0) ad') ad' (ax' _)))))) (ag' (ai' dH')) av') (ae' (ah' 2 (aj' (ab' 0) ad') sc_qc.nd) (ae' (dl' rfl (bb' (aj' (ab' 0) ad')) (aM' 3 sc_qc.nd) (ae' (aJ' (bB' (aN' (cl G_qu hr (aa' (ab' 3) ac')))) (ag' (ai' dH')) av') (ag' (ah' 2 (cl G_qq hr (aa' (ab' 2) (aa' (ab' 3) ac'))) sc_qc.nd)))) (ag' (ai' (dI' (bw' hr.units) aV' (ab' 2) ad' (ax' _))))))))
 exact q
theorem ok_qy (T:Txt K mg a) (F:Ent K mg "_law_least" st_qy ["_law_tops", "_law_bottom"]) (G_qq:Okf P w K mg base 1 "_law_common" F_qq) :
  Okf P w K mg base 2 "_law_least" F_qy:=by
 have q:=fnO P w base 1 b_qy F sc_qy fun _ _ _ _ _ _ _ hr=>by
  unfold b_qy;exact (ae' (ah' 2 (ab' 1) sc_qy.nd) (ae' (dl' rfl (bb' (ab' 0)) (aM' 3 sc_qy.nd) (ag' (ah' 2 (cl G_qq hr (aa' (ab' 2) (aa' (ab' 3) ac'))) sc_qy.nd))) (ag' (ai' (aI' (aa' (aQ' bh' ba' rfl T.z_tuple (by decide +kernel) (aa' (bp' (N':=["_law_top", "_law_shared"]) (m:=1) (fr:=[2]) (bD' (defScope st_qy) ["_law_tops", "_law_bottom", "_law_shared", "_law_top"] rfl rfl rfl rfl rfl (by decide +kernel)) rfl (aK' (by decide)) (bb' (ab' 0)) (fun _ _ _ _=>aM' 0 (show List.Nodup (["_law_top", "_law_shared"]:List Str) by decide +kernel)) (fun _ _ _ _=>(am' bo' bn' (ab' 0) (ab' 1)))) ac')) (aa' (am' bo' bn' (ab' 1) (ab' 2)) ac')))))))
 exact q
theorem ok_qN (T:Txt K mg a) (F:Ent K mg "plus" st_qN ["x", "y"]) (G_qM:Okf P w K mg base 2 "made" F_qM) :
  Okf P w K mg base 3 "plus" F_qN:=by
 have q:=fnO P w base 2 b_qN F sc_qN fun _ _ _ _ _ _ _ hr=>by
  unfold b_qN;exact (ae' (cD' 2 (N':=["one", "other", "y", "x"]) (m:=2) (fr:=[1,0]) (bD' (defScope st_qN) ["x", "y", "tops"] rfl rfl rfl rfl rfl (by decide +kernel)) rfl (cH' (by decide) (by decide)) (ew' rfl T.z_zip (aa' (aj' (ab' 0) ad') (aa' (aj' (ab' 1) ad') ac'))) (fun _ _ _ _=>eo' rfl (fun _=>aO' 0 (show List.Nodup (["one", "other", "y", "x"]:List Str) by decide +kernel) (aO' 1 (show List.Nodup (["one", "other", "y", "x"]:List Str) by decide +kernel) bC'))) (fun _ _ _ _=>(am' aH' aG' (am' aD' aC' (ab' 0) (aj' (ab' 2) ad')) (am' aD' aC' (ab' 1) (aj' (ab' 3) ad')))) sc_qN.nd) (ag' (ai' (cl G_qM hr (aa' (aQ' bh' ba' rfl T.z_tuple (by decide +kernel) (aa' (ab' 2) ac')) (aa' (am' aD' aC' (aj' (ab' 0) ad') (aj' (ab' 1) ad')) ac'))))))
 exact q
theorem ok_qB (T:Txt K mg a) (F:Ent K mg "_law_less" st_qB ["_law_one", "_law_other"]) (G_qF:Okf P w K mg base 2 "_law_sum" F_qF) (G_qp:Okf P w K mg base 1 "_law_scaled" F_qp) :
  Okf P w K mg base 3 "_law_less" F_qB:=by
 have q:=fnO P w base 2 b_qB F sc_qB fun _ _ _ _ _ _ _ hr=>by
  unfold b_qB;exact (ag' (ai' (cl G_qF hr (aa' (ab' 0) (aa' (aI' (aa' (cl G_qp hr (aa' (aW' ad') (aa' (aj' (ab' 1) ad') ac'))) (aa' (aj' (ab' 1) ad') ac'))) ac')))))
 exact q
theorem ok_qj (T:Txt K mg a) (F:Ent K mg "_law_drawn" st_qj ["_law_cell_here", "_law_many"]) (G_qy:Okf P w K mg base 2 "_law_least" F_qy) (G_qv:Okf P w K mg base 1 "_law_mixed" F_qv) :
  Okf P w K mg base 3 "_law_drawn" F_qj:=by
 have q:=fnO P w base 2 b_qj F sc_qj fun _ _ _ _ _ _ _ hr=>by
  unfold b_qj;exact (ae' (cI' 2 (N':=["_law_k", "_law_cell_here"]) (m:=1) (fr:=[0]) (bD' (defScope st_qj) ["_law_cell_here", "_law_many", "_law_tops"] rfl rfl rfl rfl rfl (by decide +kernel)) rfl (aK' (by decide)) (cY' rfl T.z_range (aa' (aj' (cV' (aa' ad' (aa' ad' (aa' ad' (aa' ad' ac'))))) (ab' 1)) ac')) (fun _ _ _ _=>aM' 0 (show List.Nodup (["_law_k", "_law_cell_here"]:List Str) by decide +kernel)) (fun _ _ _ _=>(am' eO' eN' (cl G_qv hr (aa' (ab' 1) (aa' (ab' 0) (aa' ad' ac')))) ad')) sc_qj.nd) (ae' (aJ' (at' (bw' hr.units) aV' (am' bu' bt' (ab' 0) ad') ad' (ax' _)) (ag' (fC' 2 (ar' (ab' 2) ao' (aq' ad')) (bp' (N':=["_law_top"]) (m:=1) (fr:=[]) cF' rfl (aK' (by decide)) (bb' (ar' (ab' 2) (aq' ad') ao')) (fun _ _ _ _=>aM' 0 (show List.Nodup (["_law_top"]:List Str) by decide +kernel)) (fun _ _ _ _=>ad')) sc_qj.nd)) av') (ae' (aJ' (at' (bw' hr.units) aV' (am' bu' bt' (ab' 0) ad') ad' (ax' _)) (ag' (gu' 2 (am' eO' eN' (am' bu' bt' (am' bo' bn' (ab' 0) ad') (am' aH' aG' (am' aD' aC' ad' (am' io' il' ad' ad')) ad')) (am' io' il' ad' ad')) (it' ad') (is' _))) av') (ag' (ai' (cl G_qy hr (aa' (ab' 2) (aa' (am' aH' aG' ad' (cl G_qv hr (aa' (ab' 0) (aa' ad' (aa' ad' ac'))))) ac'))))))))
 exact q
theorem ok_qa (T:Txt K mg a) (F:Ent K mg "_law_are_numbers" st_qa ["_law_found", "_law_count", "_law_many"]) (G_qc:Okf P w K mg base 2 "_law_is_number" F_qc) :
  Okf P w K mg base 3 "_law_are_numbers" F_qa:=by
 have q:=fnO P w base 2 b_qa F sc_qa fun _ _ _ _ _ _ _ hr=>by
  unfold b_qa;exact (ae' (aJ' (PWD.pt (bP' (bB' (aN' (aZ' T.i_tuple (ab' 0) (ce' rfl T.z_tuple (by decide +kernel)) rfl T.z_isinstance))) (cc' (at' (dP' hr.units) cr' (aw' bg' bf' rfl T.z_len (by decide +kernel) (aa' (ab' 0) ac')) (ab' 1) (ax' _))))) (ag' (ai' dH')) av') (ag' (ai' (aw' (iq' rfl) gp' rfl T.z_all (by decide +kernel) (aa' (bp' (N':=["_law_x", "_law_many"]) (m:=1) (fr:=[2]) (bD' (defScope st_qa) ["_law_found", "_law_count", "_law_many"] rfl rfl rfl rfl rfl (by decide +kernel)) rfl (aK' (by decide)) (bb' (ab' 0)) (fun _ _ _ _=>aM' 0 (show List.Nodup (["_law_x", "_law_many"]:List Str) by decide +kernel)) (fun _ _ _ _=>(cl G_qc hr (aa' (ab' 0) (aa' (ab' 1) ac'))))) ac')))))
 exact q
theorem ok_qK (T:Txt K mg a) (F:Ent K mg "minus" st_qK ["x", "y"]) (G_qN:Okf P w K mg base 3 "plus" F_qN) (G_qE:Okf P w K mg base 2 "against" F_qE) :
  Okf P w K mg base 4 "minus" F_qK:=by
 have q:=fnO P w base 3 b_qK F sc_qK fun _ _ _ _ _ _ _ hr=>by
  unfold b_qK;exact (ag' (ai' (cl G_qN hr (aa' (ab' 0) (aa' (cl G_qE hr (aa' (ab' 1) ac')) ac')))))
 exact q
theorem ok_qC (T:Txt K mg a) (F:Ent K mg "_law_line" st_qC ["_law_script", "_law_at", "_law_many"]) (G_qy:Okf P w K mg base 2 "_law_least" F_qy) (G_qj:Okf P w K mg base 3 "_law_drawn" F_qj) (G_qp:Okf P w K mg base 1 "_law_scaled" F_qp) (G_qA:Okf P w K mg base 1 "_law_cell" F_qA) (G_qr:Okf P w K mg base 2 "_law_spread" F_qr) :
  Okf P w K mg base 4 "_law_line" F_qC:=by
 have q:=fnO P w base 3 b_qC F sc_qC fun _ _ _ _ _ _ _ hr=>by
  unfold b_qC;exact (ae' (cI' 3 (N':=["_law_k", "_law_many", "_law_script", "_law_at"]) (m:=1) (fr:=[2,0,1]) (bD' (defScope st_qC) ["_law_script", "_law_at", "_law_many", "_law_line_here", "_law_nought"] rfl rfl rfl rfl rfl (by decide +kernel)) rfl (aK' (by decide)) (cY' rfl T.z_range (aa' ad' ac')) (fun _ _ _ _=>aM' 0 (show List.Nodup (["_law_k", "_law_many", "_law_script", "_law_at"]:List Str) by decide +kernel)) (fun _ _ _ _=>(cl G_qj hr (aa' (am' aH' aG' (am' aH' aG' (cl G_qr hr (aa' (ab' 2) (aa' (am' aH' aG' (ab' 3) (ab' 0)) ac'))) (am' aD' aC' ad' (ab' 3))) (ab' 0)) (aa' (ab' 1) ac')))) sc_qC.nd) (ae' (ah' 4 (cl G_qy hr (aa' (cl G_qp hr (aa' ad' (aa' (aj' (aj' (ab' 3) ad') ad') ac'))) (aa' ad' ac'))) sc_qC.nd) (ae' (aJ' (PWD.pt (gb' (at' (bw' hr.units) aV' (aj' (ab' 3) ad') (ab' 4) (ax' _)) (eM' (at' (bw' hr.units) aV' (aj' (ab' 3) ad') (ab' 4) (ax' _))))) (ag' (gu' 3 (aI' (aa' (am' aH' aG' (aI' (aa' ad' ac')) (ar' (aj' (ab' 4) ad') (aq' ad') ao')) (aa' ad' ac'))) (it' (am' bu' bt' (cl G_qA hr (aa' (ab' 0) (aa' (ab' 1) ac'))) ad')) (is' _))) av') (ag' (ai' (aQ' bh' ba' rfl T.z_tuple (by decide +kernel) (aa' (ab' 3) ac')))))))
 exact q
theorem step_qs (T:Txt K mg a) (F:Ent K mg "times_tops" st_qs ["roots", "one", "other"]) (G_qo:Okf P w K mg base 1 "front_tops" F_qo) (G_qi:Okf P w K mg base 1 "behind_tops" F_qi) (G_qt:Okf P w K mg base 1 "plus_tops" F_qt) {R:List D->Res D} {k:Nat} (hk:1<=k) (G_qs:Okf P w K mg base k "times_tops" R) :
  Okf P w K mg base (k + 1) "times_tops" (fnD 3 11 (b_qs R)):=by
 have q:=fnO P w base k (b_qs R) F sc_qs fun _ _ _ _ _ _ _ hr=>by
  unfold b_qs;exact (ae' (aJ' (at' (bw' hr.units) aV' (aw' bg' bf' rfl T.z_len (by decide +kernel) (aa' (ab' 0) ac')) ad' (ax' _)) (ag' (ai' (aI' (aa' (am' aD' aC' (aj' (ab' 1) ad') (aj' (ab' 2) ad')) ac')))) av') (ae' (ah' 3 (ar' (ab' 0) ao' (aq' (aW' ad'))) sc_qs.nd) (ae' (ah' 4 (cl G_qo hr (aa' (ab' 1) ac')) sc_qs.nd) (ae' (ah' 5 (cl G_qi hr (aa' (ab' 1) ac')) sc_qs.nd) (ae' (ah' 6 (cl G_qo hr (aa' (ab' 2) ac')) sc_qs.nd) (ae' (ah' 7 (cl G_qi hr (aa' (ab' 2) ac')) sc_qs.nd) (ae' (ah' 8 (cl G_qs hr (aa' (ab' 3) (aa' (cl G_qs hr (aa' (ab' 3) (aa' (ab' 5) (aa' (ab' 7) ac')))) (aa' (aj' (ab' 0) (aW' ad')) ac')))) sc_qs.nd) (ae' (ah' 9 (cl G_qt hr (aa' (cl G_qs hr (aa' (ab' 3) (aa' (ab' 4) (aa' (ab' 6) ac')))) (aa' (ab' 8) ac'))) sc_qs.nd) (ae' (ah' 10 (cl G_qt hr (aa' (cl G_qs hr (aa' (ab' 3) (aa' (ab' 4) (aa' (ab' 7) ac')))) (aa' (cl G_qs hr (aa' (ab' 3) (aa' (ab' 5) (aa' (ab' 6) ac')))) ac'))) sc_qs.nd) (ag' (ai' (am' aH' aG' (ab' 9) (ab' 10)))))))))))))
 exact q
theorem all_qs (T:Txt K mg a) (F:Ent K mg "times_tops" st_qs ["roots", "one", "other"]) (G_qo:Okf P w K mg base 1 "front_tops" F_qo) (G_qi:Okf P w K mg base 1 "behind_tops" F_qi) (G_qt:Okf P w K mg base 1 "plus_tops" F_qt):∀n,Okf P w K mg base (1 + 1 * n) "times_tops" (Fr_qs n)
 | 0=>okf0 F _
 | n + 1=>step_qs T F G_qo G_qi G_qt (Nat.le_add_right _ _) (all_qs T F G_qo G_qi G_qt  n)
theorem ok_qs (T:Txt K mg a) (F:Ent K mg "times_tops" st_qs ["roots", "one", "other"]) (G_qo:Okf P w K mg base 1 "front_tops" F_qo) (G_qi:Okf P w K mg base 1 "behind_tops" F_qi) (G_qt:Okf P w K mg base 1 "plus_tops" F_qt) :
  Okf P w K mg base 5 "times_tops" F_qs:=all_qs T F G_qo G_qi G_qt  4
theorem step_qb (T:Txt K mg a) (F:Ent K mg "_law_tops_times" st_qb ["_law_roots", "_law_one", "_law_other"]) (G_qw:Okf P w K mg base 1 "_law_added" F_qw) {R:List D->Res D} {k:Nat} (hk:1<=k) (G_qb:Okf P w K mg base k "_law_tops_times" R) :
  Okf P w K mg base (k + 1) "_law_tops_times" (fnD 3 8 (b_qb R)):=by
 have q:=fnO P w base k (b_qb R) F sc_qb fun _ _ _ _ _ _ _ hr=>by
  unfold b_qb;exact (ae' (aJ' (at' (bw' hr.units) aV' (aw' bg' bf' rfl T.z_len (by decide +kernel) (aa' (ab' 1) ac')) ad' (ax' _)) (ag' (ai' (aI' (aa' (am' aD' aC' (aj' (ab' 1) ad') (aj' (ab' 2) ad')) ac')))) av') (ae' (ah' 3 (am' bo' bn' (aw' bg' bf' rfl T.z_len (by decide +kernel) (aa' (ab' 1) ac')) ad') sc_qb.nd) (ae' (ah' 4 (ar' (ab' 0) ao' (aq' (aW' ad'))) sc_qb.nd) (ae' (ah' 5 (cl G_qb hr (aa' (ab' 4) (aa' (ar' (ab' 1) (aq' (ab' 3)) ao') (aa' (ar' (ab' 2) (aq' (ab' 3)) ao') ac')))) sc_qb.nd) (ae' (ah' 6 (cl G_qw hr (aa' (cl G_qb hr (aa' (ab' 4) (aa' (ar' (ab' 1) ao' (aq' (ab' 3))) (aa' (ar' (ab' 2) ao' (aq' (ab' 3))) ac')))) (aa' (cl G_qb hr (aa' (ab' 4) (aa' (aj' (ab' 0) (aW' ad')) (aa' (ab' 5) ac')))) ac'))) sc_qb.nd) (ae' (ah' 7 (cl G_qb hr (aa' (ab' 4) (aa' (ar' (ab' 1) ao' (aq' (ab' 3))) (aa' (ar' (ab' 2) (aq' (ab' 3)) ao') ac')))) sc_qb.nd) (ag' (ai' (am' aH' aG' (ab' 6) (cl G_qw hr (aa' (ab' 7) (aa' (cl G_qb hr (aa' (ab' 4) (aa' (ar' (ab' 1) (aq' (ab' 3)) ao') (aa' (ar' (ab' 2) ao' (aq' (ab' 3))) ac')))) ac'))))))))))))
 exact q
theorem all_qb (T:Txt K mg a) (F:Ent K mg "_law_tops_times" st_qb ["_law_roots", "_law_one", "_law_other"]) (G_qw:Okf P w K mg base 1 "_law_added" F_qw):∀n,Okf P w K mg base (1 + 1 * n) "_law_tops_times" (Fr_qb n)
 | 0=>okf0 F _
 | n + 1=>step_qb T F G_qw (Nat.le_add_right _ _) (all_qb T F G_qw  n)
theorem ok_qb (T:Txt K mg a) (F:Ent K mg "_law_tops_times" st_qb ["_law_roots", "_law_one", "_law_other"]) (G_qw:Okf P w K mg base 1 "_law_added" F_qw) :
  Okf P w K mg base 5 "_law_tops_times" F_qb:=all_qb T F G_qw  4
theorem ok_qL (T:Txt K mg a) (F:Ent K mg "times" st_qL ["roots", "x", "y"]) (G_qM:Okf P w K mg base 2 "made" F_qM) (G_qs:Okf P w K mg base 5 "times_tops" F_qs) :
  Okf P w K mg base 6 "times" F_qL:=by
 have q:=fnO P w base 5 b_qL F sc_qL fun _ _ _ _ _ _ _ hr=>by
  unfold b_qL;exact (ag' (ai' (cl G_qM hr (aa' (cl G_qs hr (aa' (ab' 0) (aa' (aj' (ab' 1) ad') (aa' (aj' (ab' 2) ad') ac')))) (aa' (am' aD' aC' (aj' (ab' 1) ad') (aj' (ab' 2) ad')) ac')))))
 exact q
theorem ok_qz (T:Txt K mg a) (F:Ent K mg "norm_tops" st_qz ["roots", "tops"]) (G_qo:Okf P w K mg base 1 "front_tops" F_qo) (G_qi:Okf P w K mg base 1 "behind_tops" F_qi) (G_qs:Okf P w K mg base 5 "times_tops" F_qs) (G_qt:Okf P w K mg base 1 "plus_tops" F_qt) (G_qf:Okf P w K mg base 1 "against_tops" F_qf) :
  Okf P w K mg base 6 "norm_tops" F_qz:=by
 have q:=fnO P w base 5 b_qz F sc_qz fun _ _ _ _ _ _ _ hr=>by
  unfold b_qz;exact (ae' (ah' 2 (ar' (ab' 0) ao' (aq' (aW' ad'))) sc_qz.nd) (ae' (ah' 3 (cl G_qo hr (aa' (ab' 1) ac')) sc_qz.nd) (ae' (ah' 4 (cl G_qi hr (aa' (ab' 1) ac')) sc_qz.nd) (ae' (ah' 5 (cl G_qs hr (aa' (ab' 2) (aa' (cl G_qs hr (aa' (ab' 2) (aa' (ab' 4) (aa' (ab' 4) ac')))) (aa' (aj' (ab' 0) (aW' ad')) ac')))) sc_qz.nd) (ag' (ai' (cl G_qt hr (aa' (cl G_qs hr (aa' (ab' 2) (aa' (ab' 3) (aa' (ab' 3) ac')))) (aa' (cl G_qf hr (aa' (ab' 5) ac')) ac')))))))))
 exact q
theorem ok_qk (T:Txt K mg a) (F:Ent K mg "_law_product" st_qk ["_law_roots", "_law_one", "_law_other"]) (G_qb:Okf P w K mg base 5 "_law_tops_times" F_qb) :
  Okf P w K mg base 6 "_law_product" F_qk:=by
 have q:=fnO P w base 5 b_qk F sc_qk fun _ _ _ _ _ _ _ hr=>by
  unfold b_qk;exact (ag' (ai' (aI' (aa' (cl G_qb hr (aa' (ab' 0) (aa' (aj' (ab' 1) ad') (aa' (aj' (ab' 2) ad') ac')))) (aa' (am' aD' aC' (aj' (ab' 1) ad') (aj' (ab' 2) ad')) ac')))))
 exact q
theorem ok_qO (T:Txt K mg a) (F:Ent K mg "norm" st_qO ["roots", "x"]) (G_qM:Okf P w K mg base 2 "made" F_qM) (G_qz:Okf P w K mg base 6 "norm_tops" F_qz) :
  Okf P w K mg base 7 "norm" F_qO:=by
 have q:=fnO P w base 6 b_qO F sc_qO fun _ _ _ _ _ _ _ hr=>by
  unfold b_qO;exact (ag' (ai' (cl G_qM hr (aa' (cl G_qz hr (aa' (ab' 0) (aa' (aj' (ab' 1) ad') ac'))) (aa' (am' aD' aC' (aj' (ab' 1) ad') (aj' (ab' 1) ad')) ac')))))
 exact q
theorem ok_qG (T:Txt K mg a) (F:Ent K mg "crossed" st_qG ["roots", "a", "b", "c", "d"]) (G_qK:Okf P w K mg base 4 "minus" F_qK) (G_qL:Okf P w K mg base 6 "times" F_qL) :
  Okf P w K mg base 7 "crossed" F_qG:=by
 have q:=fnO P w base 6 b_qG F sc_qG fun _ _ _ _ _ _ _ hr=>by
  unfold b_qG;exact (ag' (ai' (cl G_qK hr (aa' (cl G_qL hr (aa' (ab' 0) (aa' (ab' 1) (aa' (ab' 4) ac')))) (aa' (cl G_qL hr (aa' (ab' 0) (aa' (ab' 3) (aa' (ab' 2) ac')))) ac')))))
 exact q
theorem ok_qd (T:Txt K mg a) (F:Ent K mg "_law_by_line" st_qd ["_law_roots", "_law_line_here", "_law_point_here"]) (G_qF:Okf P w K mg base 2 "_law_sum" F_qF) (G_qB:Okf P w K mg base 3 "_law_less" F_qB) (G_qk:Okf P w K mg base 6 "_law_product" F_qk) :
  Okf P w K mg base 7 "_law_by_line" F_qd:=by
 have q:=fnO P w base 6 b_qd F sc_qd fun _ _ _ _ _ _ _ hr=>by
  unfold b_qd;exact (ae' (ah' 3 (cl G_qF hr (aa' (cl G_qk hr (aa' (ab' 0) (aa' (aj' (ab' 1) ad') (aa' (aj' (ab' 2) ad') ac')))) (aa' (cl G_qk hr (aa' (ab' 0) (aa' (aj' (ab' 1) ad') (aa' (aj' (ab' 2) ad') ac')))) ac'))) sc_qd.nd) (ag' (ai' (cl G_qB hr (aa' (ab' 3) (aa' (aj' (ab' 1) ad') ac'))))))
 exact q
theorem ok_ql (T:Txt K mg a) (F:Ent K mg "_law_crossed" st_ql ["_law_roots", "_law_one", "_law_other"]) (G_qB:Okf P w K mg base 3 "_law_less" F_qB) (G_qk:Okf P w K mg base 6 "_law_product" F_qk) :
  Okf P w K mg base 7 "_law_crossed" F_ql:=by
 have q:=fnO P w base 6 b_ql F sc_ql fun _ _ _ _ _ _ _ hr=>by
  unfold b_ql;exact (ag' (ai' (cl G_qB hr (aa' (cl G_qk hr (aa' (ab' 0) (aa' (aj' (ab' 1) ad') (aa' (aj' (ab' 2) ad') ac')))) (aa' (cl G_qk hr (aa' (ab' 0) (aa' (aj' (ab' 1) ad') (aa' (aj' (ab' 2) ad') ac')))) ac')))))
 exact q
theorem step_qm (T:Txt K mg a) (F:Ent K mg "_law_sign_of" st_qm ["_law_roots", "_law_tops"]) (G_qb:Okf P w K mg base 5 "_law_tops_times" F_qb) (G_qp:Okf P w K mg base 1 "_law_scaled" F_qp) (G_qw:Okf P w K mg base 1 "_law_added" F_qw) {R:List D->Res D} {k:Nat} (hk:5<=k) (G_qm:Okf P w K mg base k "_law_sign_of" R) :
  Okf P w K mg base (k + 1) "_law_sign_of" (fnD 2 8 (b_qm R)):=by
 have q:=fnO P w base k (b_qm R) F sc_qm fun _ _ _ _ _ _ _ hr=>by
  unfold b_qm;exact (ae' (aJ' (at' (bw' hr.units) aV' (aw' bg' bf' rfl T.z_len (by decide +kernel) (aa' (ab' 1) ac')) ad' (ax' _)) (ag' (ai' (am' eO' eN' (aQ' ir' ne_int rfl T.z_int (by decide +kernel) (aa' (dI' ld' (cU' _) (aj' (ab' 1) ad') ad' (ax' _)) ac')) (aQ' ir' ne_int rfl T.z_int (by decide +kernel) (aa' (dI' gc' (cU' _) (aj' (ab' 1) ad') ad' (ax' _)) ac'))))) av') (ae' (ah' 2 (am' bo' bn' (aw' bg' bf' rfl T.z_len (by decide +kernel) (aa' (ab' 1) ac')) ad') sc_qm.nd) (ae' (ah' 3 (ar' (ab' 0) ao' (aq' (aW' ad'))) sc_qm.nd) (ae' (ah' 4 (cl G_qm hr (aa' (ab' 3) (aa' (ar' (ab' 1) ao' (aq' (ab' 2))) ac'))) sc_qm.nd) (ae' (ah' 5 (cl G_qm hr (aa' (ab' 3) (aa' (ar' (ab' 1) (aq' (ab' 2)) ao') ac'))) sc_qm.nd) (ae' (aJ' (PWD.pt (bP' (at' (bw' hr.units) aV' (ab' 4) (ab' 5) (ax' _)) (cc' (at' (bw' hr.units) aV' (ab' 5) ad' (ax' _))))) (ag' (ai' (ab' 4))) av') (ae' (aJ' (at' (bw' hr.units) aV' (ab' 4) ad' (ax' _)) (ag' (ai' (ab' 5))) av') (ae' (ah' 6 (cl G_qb hr (aa' (ab' 3) (aa' (ar' (ab' 1) (aq' (ab' 2)) ao') (aa' (ar' (ab' 1) (aq' (ab' 2)) ao') ac')))) sc_qm.nd) (ae' (ah' 7 (cl G_qp hr (aa' (aW' ad') (aa' (cl G_qb hr (aa' (ab' 3) (aa' (aj' (ab' 0) (aW' ad')) (aa' (ab' 6) ac')))) ac'))) sc_qm.nd) (ag' (ai' (am' aD' aC' (ab' 4) (cl G_qm hr (aa' (ab' 3) (aa' (cl G_qw hr (aa' (cl G_qb hr (aa' (ab' 3) (aa' (ar' (ab' 1) ao' (aq' (ab' 2))) (aa' (ar' (ab' 1) ao' (aq' (ab' 2))) ac')))) (aa' (ab' 7) ac'))) ac')))))))))))))))
 exact q
theorem all_qm (T:Txt K mg a) (F:Ent K mg "_law_sign_of" st_qm ["_law_roots", "_law_tops"]) (G_qb:Okf P w K mg base 5 "_law_tops_times" F_qb) (G_qp:Okf P w K mg base 1 "_law_scaled" F_qp) (G_qw:Okf P w K mg base 1 "_law_added" F_qw):∀n,Okf P w K mg base (5 + 1 * n) "_law_sign_of" (Fr_qm n)
 | 0=>okf0 F _
 | n + 1=>step_qm T F G_qb G_qp G_qw (Nat.le_add_right _ _) (all_qm T F G_qb G_qp G_qw  n)
theorem ok_qm (T:Txt K mg a) (F:Ent K mg "_law_sign_of" st_qm ["_law_roots", "_law_tops"]) (G_qb:Okf P w K mg base 5 "_law_tops_times" F_qb) (G_qp:Okf P w K mg base 1 "_law_scaled" F_qp) (G_qw:Okf P w K mg base 1 "_law_added" F_qw) :
  Okf P w K mg base 9 "_law_sign_of" F_qm:=all_qm T F G_qb G_qp G_qw  4
theorem step_qD (T:Txt K mg a) (F:Ent K mg "one_over" st_qD ["roots", "y"]) (G_qL:Okf P w K mg base 6 "times" F_qL) (G_qM:Okf P w K mg base 2 "made" F_qM) (G_qO:Okf P w K mg base 7 "norm" F_qO) (G_qJ:Okf P w K mg base 2 "turned" F_qJ) (G_qI:Okf P w K mg base 1 "lifted" F_qI) {R:List D->Res D} {k:Nat} (hk:7<=k) (G_qD:Okf P w K mg base k "one_over" R) :
  Okf P w K mg base (k + 1) "one_over" (fnD 2 3 (b_qD R)):=by
 have q:=fnO P w base k (b_qD R) F sc_qD fun _ _ _ _ _ _ _ hr=>by
  unfold b_qD;exact (ae' (aJ' (at' (bw' hr.units) aV' (aw' bg' bf' rfl T.z_len (by decide +kernel) (aa' (ab' 0) ac')) ad' (ax' _)) (ag' (ai' (cl G_qM hr (aa' (aI' (aa' (aj' (ab' 1) ad') ac')) (aa' (aj' (aj' (ab' 1) ad') ad') ac'))))) av') (ae' (ah' 2 (cl G_qD hr (aa' (ar' (ab' 0) ao' (aq' (aW' ad'))) (aa' (cl G_qO hr (aa' (ab' 0) (aa' (ab' 1) ac'))) ac'))) sc_qD.nd) (ag' (ai' (cl G_qL hr (aa' (ab' 0) (aa' (cl G_qJ hr (aa' (ab' 1) ac')) (aa' (cl G_qI hr (aa' (ab' 2) (aa' (aw' bg' bf' rfl T.z_len (by decide +kernel) (aa' (ab' 0) ac')) ac'))) ac'))))))))
 exact q
theorem all_qD (T:Txt K mg a) (F:Ent K mg "one_over" st_qD ["roots", "y"]) (G_qL:Okf P w K mg base 6 "times" F_qL) (G_qM:Okf P w K mg base 2 "made" F_qM) (G_qO:Okf P w K mg base 7 "norm" F_qO) (G_qJ:Okf P w K mg base 2 "turned" F_qJ) (G_qI:Okf P w K mg base 1 "lifted" F_qI):∀n,Okf P w K mg base (7 + 1 * n) "one_over" (Fr_qD n)
 | 0=>okf0 F _
 | n + 1=>step_qD T F G_qL G_qM G_qO G_qJ G_qI (Nat.le_add_right _ _) (all_qD T F G_qL G_qM G_qO G_qJ G_qI  n)
theorem ok_qD (T:Txt K mg a) (F:Ent K mg "one_over" st_qD ["roots", "y"]) (G_qL:Okf P w K mg base 6 "times" F_qL) (G_qM:Okf P w K mg base 2 "made" F_qM) (G_qO:Okf P w K mg base 7 "norm" F_qO) (G_qJ:Okf P w K mg base 2 "turned" F_qJ) (G_qI:Okf P w K mg base 1 "lifted" F_qI) :
  Okf P w K mg base 11 "one_over" F_qD:=all_qD T F G_qL G_qM G_qO G_qJ G_qI  4
theorem ok_qP (T:Txt K mg a) (F:Ent K mg "over" st_qP ["roots", "x", "y"]) (G_qx:Okf P w K mg base 2 "is_nought" F_qx) (G_qL:Okf P w K mg base 6 "times" F_qL) (G_qD:Okf P w K mg base 11 "one_over" F_qD) :
  Okf P w K mg base 12 "over" F_qP:=by
 have q:=fnO P w base 11 b_qP F sc_qP fun _ _ _ _ _ _ _ hr=>by
  unfold b_qP;exact (ae' (aJ' (aN' (cl G_qx hr (aa' (ab' 2) ac'))) (ag' (dO' rfl PySem.F.excBase_ValueError T.n_NoOver T.x_NoOver rfl T.m_NoOver (aa' ii' ac') (by decide) (hlen:=fun δ ds h=>dT' h))) av') (ag' (ai' (cl G_qL hr (aa' (ab' 0) (aa' (ab' 1) (aa' (cl G_qD hr (aa' (ab' 0) (aa' (ab' 2) ac'))) ac')))))))
 exact q
theorem ok_qe (T:Txt K mg a) (F:Ent K mg "meet_of_lines" st_qe ["roots", "line", "other"]) (G_qG:Okf P w K mg base 7 "crossed" F_qG) (G_qx:Okf P w K mg base 2 "is_nought" F_qx) (G_qP:Okf P w K mg base 12 "over" F_qP) (G_NoMeet:Oki P w K mg base a.c_NoMeet "number" co') :
  Okf P w K mg base 13 "meet_of_lines" F_qe:=by
 have q:=fnO P w base 12 b_qe F sc_qe fun _ _ _ _ _ _ _ hr=>by
  unfold b_qe;exact (ae' (ah' 3 (cl G_qG hr (aa' (ab' 0) (aa' (aj' (ab' 1) ad') (aa' (aj' (ab' 1) ad') (aa' (aj' (ab' 2) ad') (aa' (aj' (ab' 2) ad') ac')))))) sc_qe.nd) (ae' (aJ' (aN' (cl G_qx hr (aa' (ab' 3) ac'))) (ag' (rz G_NoMeet hr rfl T.n_NoMeet rfl T.m_NoMeet (ab' 3) fL')) av') (ae' (ah' 4 (cl G_qG hr (aa' (ab' 0) (aa' (aj' (ab' 1) ad') (aa' (aj' (ab' 1) ad') (aa' (aj' (ab' 2) ad') (aa' (aj' (ab' 2) ad') ac')))))) sc_qe.nd) (ae' (ah' 5 (cl G_qG hr (aa' (ab' 0) (aa' (aj' (ab' 1) ad') (aa' (aj' (ab' 1) ad') (aa' (aj' (ab' 2) ad') (aa' (aj' (ab' 2) ad') ac')))))) sc_qe.nd) (ag' (ai' (aI' (aa' (cl G_qP hr (aa' (ab' 0) (aa' (ab' 4) (aa' (ab' 3) ac')))) (aa' (cl G_qP hr (aa' (ab' 0) (aa' (ab' 5) (aa' (ab' 3) ac')))) ac')))))))))
 exact q
theorem ok_qn (T:Txt K mg a) (F:Ent K mg "_law_refused" st_qn ["_law_roots", "_law_line_here", "_law_other"]) (G_qe:Okf P w K mg base 13 "meet_of_lines" F_qe) (G_qy:Okf P w K mg base 2 "_law_least" F_qy) (G_qp:Okf P w K mg base 1 "_law_scaled" F_qp) :
  Okf P w K mg base 14 "_law_refused" F_qn:=by
 have q:=fnO P w base 13 b_qn F sc_qn fun _ _ _ _ _ _ _ hr=>by
  unfold b_qn;exact (ae' (ah' 3 ke' sc_qn.nd) (ae' (iX' 4 rfl ⟨rfl,rfl⟩ sc_qn.nd rfl T.m_HallError T.s_HallError (ag' (hA' (cl G_qe hr (aa' (ab' 0) (aa' (ab' 1) (aa' (ab' 2) ac')))))) (fun _=>(ag' (ah' 3 (ab' 4) sc_qn.nd)))) (ae' (aJ' (PWD.pt (bP' (bB' (aN' (aZ' T.i_NoMeet (ab' 3) (eT' rfl T.m_NoMeet) rfl T.z_isinstance))) (bP' (aN' (aZ' T.i_NoLine (ab' 3) (eT' rfl T.m_NoLine) rfl T.z_isinstance)) (cc' (bB' (aN' (aZ' T.i_ValueError (ab' 3) (ce' rfl T.z_ValueError (by decide +kernel)) rfl T.z_isinstance))))))) (ag' (ai' dH')) av') (ag' (ai' (dI' (bw' hr.units) aV' (gv' T.a_number (ab' 3)) (cl G_qy hr (aa' (cl G_qp hr (aa' ad' (aa' (aj' (aj' (ab' 1) ad') ad') ac'))) (aa' ad' ac'))) (ax' _)))))))
 exact q
theorem kQ' (T:Txt K mg a) {f:Addr} {fd:FuncData} (F:Fun K "law" "law" bK' f fd) (G_qv:Okf P w K mg base 1 "_law_mixed" F_qv) (G_qg:Okf P w K mg base 2 "_law_scaffold" F_qg) (G_qC:Okf P w K mg base 4 "_law_line" F_qC) (G_qj:Okf P w K mg base 3 "_law_drawn" F_qj) (G_qe:Okf P w K mg base 13 "meet_of_lines" F_qe) (G_qA:Okf P w K mg base 1 "_law_cell" F_qA) (G_qr:Okf P w K mg base 2 "_law_spread" F_qr) (G_qm:Okf P w K mg base 9 "_law_sign_of" F_qm) (G_qk:Okf P w K mg base 6 "_law_product" F_qk) (G_qy:Okf P w K mg base 2 "_law_least" F_qy) (G_qn:Okf P w K mg base 14 "_law_refused" F_qn) (G_qa:Okf P w K mg base 3 "_law_are_numbers" F_qa) (G_ql:Okf P w K mg base 7 "_law_crossed" F_ql) (G_qd:Okf P w K mg base 7 "_law_by_line" F_qd) :
  FnOk P w K mg base (CX1 P w) 15 f fd ["_law_script"] (spD K F_law):=by
 exact km' (P:=P) (w:=w) (base:=base) (N:=["_law_script", "_law_many", "_law_roots", "_law_line_here", "_law_other", "_law_way", "_law_by", "_law_parts", "_law_point_here", "_law_one"]) (ps:=["_law_script"]) (k:=14) (body:=b_law) F sc_law fun cdv A outer s H E hr=>by
  unfold b_law;exact (ae' (ah' 1 (cl G_qv hr (aa' (cl G_qA hr (aa' (ab' 0) (aa' ad' ac'))) (aa' ad' (aa' ad' ac')))) sc_law.nd) (ae' (ah' 2 (cl G_qg hr (aa' (cl G_qr hr (aa' (ab' 0) (aa' ad' ac'))) (aa' (ab' 1) ac'))) sc_law.nd) (ae' (ah' 3 (cl G_qC hr (aa' (ab' 0) (aa' ad' (aa' (ab' 1) ac')))) sc_law.nd) (ae' (ah' 4 (cl G_qC hr (aa' (ab' 0) (aa' ad' (aa' (ab' 1) ac')))) sc_law.nd) (ae' (ah' 5 (am' bu' bt' (cl G_qA hr (aa' (ab' 0) (aa' ad' ac'))) ad') sc_law.nd) (ae' (ah' 6 (cl G_qj hr (aa' (cl G_qr hr (aa' (ab' 0) (aa' ad' ac'))) (aa' (ab' 1) ac'))) sc_law.nd) (ae' (aJ' (PWD.pt (gb' (at' gc' (cU' _) (ab' 5) ad' (ax' _)) (eM' (at' (dP' hr.units) cr' (cl G_qm hr (aa' (ab' 2) (aa' (aj' (ab' 6) ad') ac'))) ad' (ax' _))))) (ae' (cD' 7 (N':=["_law_x", "_law_roots", "_law_by"]) (m:=1) (fr:=[2,6]) (bD' (defScope bK') ["_law_script", "_law_many", "_law_roots", "_law_line_here", "_law_other", "_law_way", "_law_by", "_law_parts", "_law_point_here", "_law_one"] rfl rfl rfl rfl rfl (by decide +kernel)) rfl (aK' (by decide)) (bb' (ab' 3)) (fun _ _ _ _=>aM' 0 (show List.Nodup (["_law_x", "_law_roots", "_law_by"]:List Str) by decide +kernel)) (fun _ _ _ _=>(cl G_qk hr (aa' (ab' 1) (aa' (ab' 0) (aa' (ab' 2) ac'))))) sc_law.nd) (ae' (ah' 4 (aI' (aa' (cl G_qy hr (aa' (aj' (aj' (ab' 7) ad') ad') (aa' (aj' (aj' (ab' 7) ad') ad') ac'))) (aa' (cl G_qy hr (aa' (aj' (aj' (ab' 7) ad') ad') (aa' (aj' (aj' (ab' 7) ad') ad') ac'))) (aa' (aj' (ab' 4) ad') ac')))) sc_law.nd) (ag' (aJ' (at' (bw' hr.units) aV' (ab' 5) ad' (ax' _)) (ag' (ah' 4 (am' aH' aG' (ar' (ab' 4) ao' (aq' ad')) (aI' (aa' (cl G_qy hr (aa' (aj' (aj' (ab' 7) ad') ad') (aa' (aj' (aj' (ab' 7) ad') ad') ac'))) ac'))) sc_law.nd)) av')))) av') (ae' (aJ' (at' (bw' hr.units) aV' (cl G_qm hr (aa' (ab' 2) (aa' (aj' (cl G_ql hr (aa' (ab' 2) (aa' (ab' 3) (aa' (ab' 4) ac')))) ad') ac'))) ad' (ax' _)) (ag' (ai' (ik' (cl G_qn hr (aa' (ab' 2) (aa' (ab' 3) (aa' (ab' 4) ac')))) (ij' (cl G_qn hr (aa' (ab' 2) (aa' (ab' 4) (aa' (ab' 3) ac')))))))) av') (ae' (ah' 8 (cl G_qe hr (aa' (ab' 2) (aa' (ab' 3) (aa' (ab' 4) ac')))) sc_law.nd) (ae' (aJ' (PWD.pt (bP' (bB' (aN' (cl G_qa hr (aa' (ab' 8) (aa' ad' (aa' (aj' (cV' (aa' ad' (aa' ad' (aa' ad' (aa' ad' ac'))))) (ab' 1)) ac')))))) (cc' (at' (dP' hr.units) cr' (cl G_qe hr (aa' (ab' 2) (aa' (ab' 4) (aa' (ab' 3) ac')))) (ab' 8) (ax' _))))) (ag' (ai' dH')) av') (ae' (dl' rfl (bb' (cV' (aa' (ab' 3) (aa' (ab' 4) ac')))) (aM' 9 sc_law.nd) (ag' (aJ' (at' (dP' hr.units) cr' (cl G_qm hr (aa' (ab' 2) (aa' (aj' (cl G_qd hr (aa' (ab' 2) (aa' (ab' 9) (aa' (ab' 8) ac')))) ad') ac'))) ad' (ax' _)) (ag' (ai' dH')) av'))) (ag' (ai' dH')))))))))))))
end
end K23
namespace K23
open PySem PySem.Spec PyProof.Rows L2 DL Mine Bk Lean.Grind
theorem gV' (x f:Str) (fe:DS->Res D) (δ:DS):raiseF x f fe δ=onD (fe δ) δ fun d=>.err ⟨x,some (f,d)⟩ δ:=by
 unfold raiseF
 cases fe δ <;> rfl
section
variable {rs:List (List Int)} {F:OF} {of:List Int->F.C} {ρ:Nat}
theorem n_qG (T:Tow rs F of) (h3:rs.length<=3) (hr:∀r∈rs,Bd ρ r) {p:Nat} {da db dc dd:D} {a b c d:F.C} (ha:Nm of rs.length p da a) (hb:Nm of rs.length p db b) (hc:Nm of rs.length p dc c) (hd:Nm of rs.length p dd d) (hn:2 * (p + p + eT ρ rs.length) + 1<=8000) :
  ∃z,F_qG [RT rs,da,db,dc,dd]=.ok z/\Nm of rs.length (2 * (p + p + eT ρ rs.length) + 1) z (a * d - c * b):=by
 obtain ⟨x,ex,hx⟩:=n_qL T h3 hr ha hd (by omega);obtain ⟨y,ey,hy⟩:=n_qL T h3 hr hc hb (by omega);obtain ⟨z,ez,hz⟩:=n_qK T h3 hx hy (by omega);refine ⟨z,?_,hz.mono (by omega)⟩;show outD (b_qG [some (.arg (RT rs)),some (.arg da),some (.arg db),some (.arg dc),some (.arg dd)])=_;unfold b_qG;push_cast [ex,ey,ez]
theorem ig' (T:Tow rs F of) (h3:rs.length<=3) (hr:∀r∈rs,Bd 10 r) {p:Nat} {d0 d1 d2 e0 e1 e2:D} {u0 u1 v0 v1:F.C} (a0:Nm of rs.length p d0 u0) (a1:Nm of rs.length p d1 u1) (b0:Nm of rs.length p e0 v0) (b1:Nm of rs.length p e1 v1) (hp:p<=1000) (eq:u0 * v1 - v0 * u1=0) :
  F_qe [RT rs,.tup [d0,d1,d2],.tup [e0,e1,e2]]=.err ⟨"NoMeet",some ("number",num (List.replicate (2 ^ rs.length) 0) 1)⟩:=by
 have e77:eT 10 rs.length<=77:=gR' h3;obtain ⟨z,ez,hz⟩:=n_qG T h3 hr a0 a1 b0 b1 (by omega);rw [eq] at hz;have no:=dw' T h3 hz;have no':F_qx [z]=.ok (.bl true):=okT no rfl;have uz:=cn' T hz (dv' T (n:=2) (by decide));show outD (b_qe [some (.arg (RT rs)),some (.arg (.tup [d0,d1,d2])),some (.arg (.tup [e0,e1,e2])),none,none,none])=_;unfold b_qe;subst uz;push_cast [ez,no',gV']
theorem iF' (T:Tow rs F of) (h3:rs.length<=3) (hr:∀r∈rs,Bd 10 r) {d0 d1 d2 e0 e1 e2:D} {u0 u1 u2 v0 v1 v2:F.C} (a0:Nm of rs.length 70 d0 u0) (a1:Nm of rs.length 70 d1 u1) (a2:Nm of rs.length 70 d2 u2) (b0:Nm of rs.length 70 e0 v0) (b1:Nm of rs.length 70 e1 v1) (b2:Nm of rs.length 70 e2 v2) (ne:u0 * v1 - v0 * u1≠0) :
  ∃z1 z2,F_qe [RT rs,.tup [d0,d1,d2],.tup [e0,e1,e2]]=.ok (.tup [z1,z2])/\Nm of rs.length 7900 z1 ((u2 * v1 - v2 * u1) / (u0 * v1 - v0 * u1))/\Nm of rs.length 7900 z2 ((u0 * v2 - v0 * u2) / (u0 * v1 - v0 * u1)):=by
 have e77:eT 10 rs.length<=77:=gR' h3;have o1:=oB3 (p:=435) h3;obtain ⟨z,ez,hz⟩:=n_qG T h3 hr a0 a1 b0 b1 (by omega);obtain ⟨x,ex,hx⟩:=n_qG T h3 hr a2 a1 b2 b1 (by omega);obtain ⟨y,ey,hy⟩:=n_qG T h3 hr a0 a2 b0 b2 (by omega);have no:=dw' T h3 hz;have no':F_qx [z]=.ok (.bl false):=okF no ne;obtain ⟨z1,e1',h1⟩:=n_qP T h3 hr (hx.mono (show _<=435 by omega)) (hz.mono (show _<=435 by omega)) ne (by omega);obtain ⟨z2,e2',h2⟩:=n_qP T h3 hr (hy.mono (show _<=435 by omega)) (hz.mono (show _<=435 by omega)) ne (by omega);refine ⟨z1,z2,?_,h1.mono (by omega),h2.mono (by omega)⟩;show outD (b_qe [some (.arg (RT rs)),some (.arg (.tup [d0,d1,d2])),some (.arg (.tup [e0,e1,e2])),none,none,none])=_;unfold b_qe;push_cast [ez,no',ex,ey,e1',e2']
theorem cN' (T:Tow rs F of) (h3:rs.length<=3) {p:Nat} {x:List Int} (lx:x.length=2 ^ rs.length) (bx:Bd p x) (hp:p<=8000):F_qp [.int 0,TI x]=.ok (TI (List.replicate (2 ^ rs.length) 0))/\F_qy [TI (List.replicate (2 ^ rs.length) 0),.int 1]=.ok (num (List.replicate (2 ^ rs.length) 0) 1):=by
 have e8:=aU' h3;have sc:=bY' 0 x (by omega) (Nat.lt_of_lt_of_le (show Int.natAbs 0 < 2 ^ 1 by decide) (bX' (by decide))) (bx.mono (by omega));have zz:x.map ((0:Int) * ·)=List.replicate (2 ^ rs.length) 0:=by
  rw [<- lx,<- jo' (0:Int) x];exact List.map_congr_left fun t _=>Int.zero_mul t
 rw [zz] at sc;obtain ⟨z,ez,hz⟩:=eL' T h3 (x:=List.replicate (2 ^ rs.length) 0) (b:=1) (p:=70) (by simp) (fun t ht=>by rw [List.eq_of_mem_replicate ht]; decide) (by decide) (by decide) (by decide) (.inr rfl);refine ⟨sc,?_⟩;rw [ez];have v0:of (List.replicate (2 ^ rs.length) 0) / ((1:Int):F.C)=0:=by rw [du' T]; grind
 rw [v0] at hz;rw [cn' T hz (dv' T (n:=2) (by decide))]
theorem eh' (T:Tow rs F of) (h3:rs.length<=3) (hr:∀r∈rs,Bd 10 r) {p:Nat} {d0 d1 d2 e0 e1 e2:D} {u0 u1 v0 v1:F.C} (a0:Nm of rs.length p d0 u0) (a1:Nm of rs.length p d1 u1) (b0:Nm of rs.length p e0 v0) (b1:Nm of rs.length p e1 v1) (hp:p<=1000) (eq:u0 * v1 - v0 * u1=0) :
  F_qn [RT rs,.tup [d0,d1,d2],.tup [e0,e1,e2]]=.ok (.bl true):=by
 have nm:=ig' T h3 hr (d2:=d2) (e2:=e2) a0 a1 b0 b1 hp eq;obtain ⟨x,b,rfl,_,lx,bx,_⟩:=a0;obtain ⟨sc,ls⟩:=cN' T h3 lx bx (by omega);have hx:∀s3:Option SV,((exprD (bindF (consD (slotD 0) (consD (slotD 1) (consD (slotD 2) (fun _=>.ok [])))) F_qe)) [some (.arg (RT rs)),some (.arg (.tup [num x b,d1,d2])),some (.arg (.tup [e0,e1,e2])),s3,none])=.err ⟨"NoMeet",some ("number",num (List.replicate (2 ^ rs.length) 0) 1)⟩ [some (.arg (RT rs)),some (.arg (.tup [num x b,d1,d2])),some (.arg (.tup [e0,e1,e2])),s3,none]:=fun s3=>by
  push_cast [nm]
 show outD (b_qn [some (.arg (RT rs)),some (.arg (.tup [num x b,d1,d2])),some (.arg (.tup [e0,e1,e2])),none,none])=_;unfold b_qn;have t:(tryD 4 sub_HallError (exprD (bindF (consD (slotD 0) (consD (slotD 1) (consD (slotD 2) (fun _=>.ok [])))) F_qe)) (setD 3 (slotD 4))) [some (.arg (RT rs)),some (.arg (.tup [num x b,d1,d2])),some (.arg (.tup [e0,e1,e2])),some (.val .non),none]=.nxt [some (.arg (RT rs)),some (.arg (.tup [num x b,d1,d2])),some (.arg (.tup [e0,e1,e2])),some (.val (.excf "NoMeet" "number" (num (List.replicate (2 ^ rs.length) 0) 1))),none]:=by
  unfold tryD;rw [hx]; rfl
 have i1:∀d,isG is_NoMeet (.excf "NoMeet" "number" d)=.ok (.bl true):=fun _=>rfl;have i2:∀d,isG is_ValueError (.excf "NoMeet" "number" d)=.ok (.bl true):=fun _=>rfl;have i3:∀d,isG is_NoLine (.excf "NoMeet" "number" d)=.ok (.bl false):=fun _=>rfl;have at_:∀d,attrG isa_number "number" (.excf "NoMeet" "number" d)=.ok d:=fun _=>rfl;have eqz:eqD (num (List.replicate (2 ^ rs.length) 0) 1) (num (List.replicate (2 ^ rs.length) 0) 1)=.ok (.bl true):=by rw [gz']; simp
 rw [ap_seq,ap_set,on_ok,sq_nxt,ap_seq];rw [show ([some (.arg (RT rs)),some (.arg (.tup [num x b,d1,d2])),some (.arg (.tup [e0,e1,e2])),none,none]:DS).set 3 (some (SV.val .non))=[some (.arg (RT rs)),some (.arg (.tup [num x b,d1,d2])),some (.arg (.tup [e0,e1,e2])),some (.val .non),none] from rfl,t,sq_nxt]
 push_cast [i1,i2,i3,at_,sc,ls,eqz]
end
section
variable {rs:List (List Int)} {F:OF} {of:List Int->F.C} {ρ:Nat}
theorem bZ' (x:List Int) (b:Int):flatD (num x b)=true:=by
 show flatDs [D.tup (x.map .int),D.int b]=true;rw [flatDs,flatDs,flatDs,flatD,dy']; rfl
theorem iG' (T:Tow rs F of) (h3:rs.length<=3) (ns:List Int) (k:Nat):∃d0 d1 d2 v0 v1 v2,F_qC [.lst (ns.map .int),.int (k:Int),.int (rs.length:Int)]=.ok (.tup [d0,d1,d2])/\Nm of rs.length 70 d0 v0/\Nm of rs.length 70 d1 v1/\Nm of rs.length 70 d2 v2:=by
 have e8:=aU' h3;have p0:=Nat.two_pow_pos rs.length;have mu:mulD (.int 3) (.int (k:Int))=.ok (.int (3 * (k:Int))):=by
  unfold mulD;exact if_pos (.inr (.inl (intBits_le (show Int.natAbs 3 < 2 ^ 64 by decide))))
 have el:∀j:Nat,∃d v,eltD (tgtN 0) ((bindF (consD (two (two (bindF (consD (slotD 2) (consD (two (slotD 3) (slotD 0) addD) (fun _=>.ok []))) F_qr) (two (fun _=>.ok (.int 3)) (slotD 3) mulE) addD) (slotD 0) addD) (consD (slotD 1) (fun _=>.ok []))) F_qj)) [none,some (.arg (.int (rs.length:Int))),some (.arg (.lst (ns.map .int))),some (.arg (.int (k:Int)))] (.int (j:Int))=.ok d/\Nm of rs.length 70 d v:=fun j=>by
  obtain ⟨c,e1⟩:=dz' ns (k + j);have k1:(k:Int) + (j:Int)=((k + j:Nat):Int):=by omega
  obtain ⟨d,v,q,h⟩:=ef' T h3 (c + 3 * (k:Int) + (j:Int));refine ⟨d,v,?_,h⟩;show (match (bindF (consD (two (two (bindF (consD (slotD 2) (consD (two (slotD 3) (slotD 0) addD) (fun _=>.ok []))) F_qr) (two (fun _=>.ok (.int 3)) (slotD 3) mulE) addD) (slotD 0) addD) (consD (slotD 1) (fun _=>.ok []))) F_qj) [some (.val (.int (j:Int))),some (.arg (.int (rs.length:Int))),some (.arg (.lst (ns.map .int))),some (.arg (.int (k:Int)))] with | .ok z=>Res.ok z | _=>.stuck)=_
  push_cast [k1,e1,mu,q]
 obtain ⟨d0,v0,q0,h0⟩:=el 0;obtain ⟨d1,v1,q1,h1⟩:=el 1;obtain ⟨d2,v2,q2,h2⟩:=el 2;have cc:(compD 1 [2,0,1] (tgtN 0) (bindF (consD (two (two (bindF (consD (slotD 2) (consD (two (slotD 3) (slotD 0) addD) (fun _=>.ok []))) F_qr) (two (fun _=>.ok (.int 3)) (slotD 3) mulE) addD) (slotD 0) addD) (consD (slotD 1) (fun _=>.ok []))) F_qj) (bindRg (consD (fun _=>.ok (.int 3)) (fun _=>.ok [])) rng1)) [some (.arg (.lst (ns.map .int))),some (.arg (.int (k:Int))),some (.arg (.int (rs.length:Int))),none,none]=.ok (.lst [d0,d1,d2]):=by
  unfold compD;have hi:bindRg (consD (fun _=>.ok (.int 3)) (fun _=>.ok [])) rng1 [some (.arg (.lst (ns.map .int))),some (.arg (.int (k:Int))),some (.arg (.int (rs.length:Int))),none,none]=.ok [.int ((0:Nat):Int),.int ((1:Nat):Int),.int ((2:Nat):Int)]:=rngF (ds:=[.int ((3:Nat):Int)]) rfl (gA' 3 (by decide));have hc:compS 1 [2,0,1] [some (.arg (.lst (ns.map .int))),some (.arg (.int (k:Int))),some (.arg (.int (rs.length:Int))),none,none]=[none,some (.arg (.int (rs.length:Int))),some (.arg (.lst (ns.map .int))),some (.arg (.int (k:Int)))]:=rfl;rw [hi,Res.bind_ok,hc,mapR,q0,Res.bind_ok,mapR,q1,Res.bind_ok,mapR,q2,Res.bind_ok];rfl
 have zn:=dv' T (n:=70) (by decide);have z1:=kG' T (n:=70) (k:=1) (by decide) (by decide);have h0':=h0;obtain ⟨x,b,rfl,_,lx,bx,_⟩:=h0';obtain ⟨sc,ls⟩:=cN' T h3 lx bx (by decide);have eq0:=kF' T h0 zn;have eq1:=kF' T h1 zn;have tg:∀ds,tupleG [.lst ds]=.ok (.tup ds):=fun _=>rfl
 suffices h:∃e0 e1 w0 w1,(ifS (andT (bindT (two (two (slotD 3) (fun _=>.ok (.int 0)) ixD) (slotD 4) eqD) boolD) (bindT (two (two (slotD 3) (fun _=>.ok (.int 1)) ixD) (slotD 4) eqD) boolD)) (putD 3 (noX (two (bindF (consD (slotD 0) (consD (slotD 1) (fun _=>.ok []))) F_qA) (fun _=>.ok (.int 2)) modD)) (tupF (consD (two (tupF (consD (fun _=>.ok (.int 1)) (fun _=>.ok []))) (sliceF (two (slotD 4) (fun _=>.ok (.int 0)) ixD) (partF (fun _=>.ok (.int 1))) noPart) addD) (consD (fun _=>.ok (.int 1)) (fun _=>.ok []))))) Out.nxt) [some (.arg (.lst (ns.map .int))),some (.arg (.int (k:Int))),some (.arg (.int (rs.length:Int))),some (.own [num x b,d1,d2]),some (.val (num (List.replicate (2 ^ rs.length) 0) 1))]=.nxt [some (.arg (.lst (ns.map .int))),some (.arg (.int (k:Int))),some (.arg (.int (rs.length:Int))),some (.own [e0,e1,d2]),some (.val (num (List.replicate (2 ^ rs.length) 0) 1))]/\Nm of rs.length 70 e0 w0/\Nm of rs.length 70 e1 w1 by
  obtain ⟨e0,e1,w0,w1,es,g0,g1⟩:=h;refine ⟨e0,e1,d2,w0,w1,v2,?_,g0,g1,h2⟩;show outD (b_qC [some (.arg (.lst (ns.map .int))),some (.arg (.int (k:Int))),some (.arg (.int (rs.length:Int))),none,none])=_;unfold b_qC;rw [ap_seq,eK' 3 cc,sq_nxt];simp only [ap_seq (setD _ _),ap_set,ap_bF,ap_cons,bnd_ok,st3,sl3,ct',ap_two,ix_lst0,ix_tup0,sc,ls,on_ok,st4,sq_nxt];rw [ap_seq,es,sq_nxt];push_cast [ct',tg]
 by_cases c0:v0=0
 ·by_cases c1:v1=0
  ·have eq0':=okT eq0 c0;have eq1':=okT eq1 c1;have hc:=ff' ns k;have m2:modD (.int (cell ns k)) (.int 2)=_:=modI (show (2:Int)≠0 by decide);have ct:cutD (TI (List.replicate (2 ^ rs.length) 0)) (some 1) none=.ok (TI (List.replicate (2 ^ rs.length - 1) 0)):=by
    have:=do' ((List.replicate (2 ^ rs.length) (0:Int)).map D.int) 1
    rw [<- List.map_drop,List.drop_replicate] at this;exact this
   have ad:addD (.tup [.int 1]) (TI (List.replicate (2 ^ rs.length - 1) 0))=.ok (TI (1 :: List.replicate (2 ^ rs.length - 1) 0)):=fa' (a:=[1]) (b:=List.replicate (2 ^ rs.length - 1) 0) (by simp) (by simp; omega);have h1':=h1;have h2':=h2;obtain ⟨x1,b1,rfl,_⟩:=h1';obtain ⟨x2,b2,rfl,_⟩:=h2';have f0:=bZ' x b;have f1:=bZ' x1 b1;have f2:=bZ' x2 b2;have fz:=bZ' (List.replicate (2 ^ rs.length) 0) 1;have fd:=bZ' (1 :: List.replicate (2 ^ rs.length - 1) 0) 1;have fl:flatDs [num x b,num x1 b1,num x2 b2]=true:=by rw [flatDs,flatDs,flatDs,flatDs,f0,f1,f2]; rfl
   have r0:=Int.fmod_nonneg_of_pos (cell ns k) (b:=2) (by decide);have r1:=Int.fmod_lt_of_pos (cell ns k) (b:=2) (by decide);generalize Int.fmod (cell ns k) 2=r at *;have ev:∀(z:Int) (j:Nat),r=z->ixN 3 z=some j->(ifS (andT (bindT (two (two (slotD 3) (fun _=>.ok (.int 0)) ixD) (slotD 4) eqD) boolD) (bindT (two (two (slotD 3) (fun _=>.ok (.int 1)) ixD) (slotD 4) eqD) boolD)) (putD 3 (noX (two (bindF (consD (slotD 0) (consD (slotD 1) (fun _=>.ok []))) F_qA) (fun _=>.ok (.int 2)) modD)) (tupF (consD (two (tupF (consD (fun _=>.ok (.int 1)) (fun _=>.ok []))) (sliceF (two (slotD 4) (fun _=>.ok (.int 0)) ixD) (partF (fun _=>.ok (.int 1))) noPart) addD) (consD (fun _=>.ok (.int 1)) (fun _=>.ok []))))) Out.nxt) [some (.arg (.lst (ns.map .int))),some (.arg (.int (k:Int))),some (.arg (.int (rs.length:Int))),some (.own [num x b,num x1 b1,num x2 b2]),some (.val (num (List.replicate (2 ^ rs.length) 0) 1))]=.nxt [some (.arg (.lst (ns.map .int))),some (.arg (.int (k:Int))),some (.arg (.int (rs.length:Int))),some (.own ([num x b,num x1 b1,num x2 b2].set j (num (1 :: List.replicate (2 ^ rs.length - 1) 0) 1))),some (.val (num (List.replicate (2 ^ rs.length) 0) 1))]:=fun z j er hj=>by
    subst er;have hp:=iD' (i:=3) (fi:=(noX (two (bindF (consD (slotD 0) (consD (slotD 1) (fun _=>.ok []))) F_qA) (fun _=>.ok (.int 2)) modD))) (fe:=(tupF (consD (two (tupF (consD (fun _=>.ok (.int 1)) (fun _=>.ok []))) (sliceF (two (slotD 4) (fun _=>.ok (.int 0)) ixD) (partF (fun _=>.ok (.int 1))) noPart) addD) (consD (fun _=>.ok (.int 1)) (fun _=>.ok []))))) (δ:=[some (.arg (.lst (ns.map .int))),some (.arg (.int (k:Int))),some (.arg (.int (rs.length:Int))),some (.own [num x b,num x1 b1,num x2 b2]),some (.val (num (List.replicate (2 ^ rs.length) 0) 1))]) (ds:=[num x b,num x1 b1,num x2 b2]) (d:=num (1 :: List.replicate (2 ^ rs.length - 1) 0) 1) (z:=r) (j:=j) rfl
     (by push_cast [ct,ad]) (by unfold noX; push_cast [hc,m2]) hj fl fd
    have hs:setS 3 [num x b,num x1 b1,num x2 b2] j (num (1 :: List.replicate (2 ^ rs.length - 1) 0) 1) [some (.arg (.lst (ns.map .int))),some (.arg (.int (k:Int))),some (.arg (.int (rs.length:Int))),some (.own [num x b,num x1 b1,num x2 b2]),some (.val (num (List.replicate (2 ^ rs.length) 0) 1))]=[some (.arg (.lst (ns.map .int))),some (.arg (.int (k:Int))),some (.arg (.int (rs.length:Int))),some (.own ([num x b,num x1 b1,num x2 b2].set j (num (1 :: List.replicate (2 ^ rs.length - 1) 0) 1))),some (.val (num (List.replicate (2 ^ rs.length) 0) 1))]:=by
     unfold setS;simp only [List.map_cons,List.map_nil,Option.bind_some,keepSV,fl,fz,st3,↓reduceIte]
    rw [hs] at hp;push_cast [ct',eq0',eq1',hp]
   rcases (show r=0\/r=1 by omega) with er | er
   ·exact ⟨_,_,_,_,ev 0 0 er rfl,z1,h1⟩
   ·exact ⟨_,_,_,_,ev 1 1 er rfl,h0,z1⟩
  ·have eq0':=okT eq0 c0;have eq1':=okF eq1 c1;exact ⟨_,_,_,_,by push_cast [ct',eq0',eq1'],h0,h1⟩
 ·have eq0':=okF eq0 c0;exact ⟨_,_,_,_,by push_cast [ct',eq0'],h0,h1⟩
theorem jM' (T:Tow rs F of) (h3:rs.length<=3) {p1 p2:Nat} {d1 d2:D} {u1 u2:F.C} (a1:Nm of rs.length p1 d1 u1) (a2:Nm of rs.length p2 d2 u2):F_qa [.tup [d1,d2],.int 2,.int ((2 ^ rs.length:Nat):Int)]=.ok (.bl true):=by
 have i1:=gQ' T a1;have i2:=gQ' T a2;show outD (b_qa [some (.arg (.tup [d1,d2])),some (.arg (.int 2)),some (.arg (.int ((2 ^ rs.length:Nat):Int)))])=_;unfold b_qa;have it1:∀ds,isG Bk.is_tuple (.tup ds)=.ok (.bl true):=fun _=>rfl;have cc:compD 1 [2] (tgtN 0) (bindF (consD (slotD 0) (consD (slotD 1) (fun _=>.ok []))) F_qc) (bindL (slotD 0) seqItems) [some (.arg (.tup [d1,d2])),some (.arg (.int 2)),some (.arg (.int ((2 ^ rs.length:Nat):Int)))]=.ok (.lst [.bl true,.bl true]):=by
  have el:∀d,F_qc [d,.int ((2 ^ rs.length:Nat):Int)]=.ok (.bl true)->eltD (tgtN 0) (bindF (consD (slotD 0) (consD (slotD 1) (fun _=>.ok []))) F_qc) [none,some (.arg (.int ((2 ^ rs.length:Nat):Int)))] d=.ok (.bl true):=fun d h=>by
   show (match bindF (consD (slotD 0) (consD (slotD 1) (fun _=>.ok []))) F_qc [some (.val d),some (.arg (.int ((2 ^ rs.length:Nat):Int)))] with | .ok z=>Res.ok z | _=>.stuck)=_
   push_cast [h]
  unfold compD;have hi:bindL (slotD 0) seqItems [some (.arg (.tup [d1,d2])),some (.arg (.int 2)),some (.arg (.int ((2 ^ rs.length:Nat):Int)))]=.ok [d1,d2]:=rfl;have hc:compS 1 [2] [some (.arg (.tup [d1,d2])),some (.arg (.int 2)),some (.arg (.int ((2 ^ rs.length:Nat):Int)))]=[none,some (.arg (.int ((2 ^ rs.length:Nat):Int)))]:=rfl;rw [hi,Res.bind_ok,hc,mapR,el d1 i1,Res.bind_ok,mapR,el d2 i2,Res.bind_ok];rfl
 have al:allG [.lst [.bl true,.bl true]]=.ok (.bl true):=rfl;push_cast [it1,cc,al]
theorem fh' (T:Tow rs F of) (h3:rs.length<=3) (hr:∀r∈rs,Bd ρ r) {p:Nat} {d1 d2 e1 e2:D} {r1 r2:List D} {u1 u2 v1 v2:F.C} (a1:Rw of rs.length p d1 u1) (a2:Rw of rs.length p d2 u2) (b1:Rw of rs.length p e1 v1) (b2:Rw of rs.length p e2 v2) (hn:2 * (p + p + eT ρ rs.length) + 1<=20000) :
  ∃z,F_ql [RT rs,.tup (d1 :: d2 :: r1),.tup (e1 :: e2 :: r2)]=.ok z/\Rw of rs.length (2 * (p + p + eT ρ rs.length) + 1) z (u1 * v2 - u2 * v1):=by
 obtain ⟨w1,ew1,hw1⟩:=be' T h3 hr a1 b2 (by omega);obtain ⟨w2,ew2,hw2⟩:=be' T h3 hr a2 b1 (by omega);obtain ⟨z,ez,hz⟩:=iE' T h3 hw1 hw2 (by omega);refine ⟨z,?_,hz.mono (by omega)⟩;show outD (b_ql [some (.arg (RT rs)),some (.arg (.tup (d1 :: d2 :: r1))),some (.arg (.tup (e1 :: e2 :: r2)))])=_;unfold b_ql;push_cast [ew1,ew2,ez]
end
section
variable {rs:List (List Int)} {F:OF} {of:List Int->F.C} {ρ:Nat}
theorem kR' (a b:List Int) (p q:Int):neD (.tup [num a p,num b q]) (.tup [num a p,num b q])=.ok (.bl false):=by
 unfold neD;rw [if_pos ⟨kP' a b p q,kP' a b p q⟩];have e:PyData.eqv (toP (.tup [num a p,num b q])) (toP (.tup [num a p,num b q]))=(PyData.eqv (toP (num a p)) (toP (num a p)) && (PyData.eqv (toP (num b q)) (toP (num b q)) && true)):=by
  simp only [toP,toPs,PyData.eqv,PyData.eqvAll]
 rw [e,eA',eA'];simp
theorem ix4 {n:Nat} (h:n<=3):ixD (.lst [.int 1,.int 2,.int 4,.int 8]) (.int (n:Int))=.ok (.int ((2 ^ n:Nat):Int)):=by
 have:n=0\/n=1\/n=2\/n=3:=by omega
 rcases this with z | z | z | z <;> subst z <;> rfl
theorem lp' {u0 u1 u2 v0 v1 v2:F.C} (h:u0 * v1 - v0 * u1≠0):(v2 * u1 - u2 * v1) / (v0 * u1 - u0 * v1)=(u2 * v1 - v2 * u1) / (u0 * v1 - v0 * u1):=by grind
theorem lq' {u0 u1 u2 v0 v1 v2:F.C} (h:u0 * v1 - v0 * u1≠0):u0 * ((u2 * v1 - v2 * u1) / (u0 * v1 - v0 * u1)) + u1 * ((u0 * v2 - v0 * u2) / (u0 * v1 - v0 * u1)) - u2=0:=by grind
theorem lr' {u0 u1 u2 v0 v1 v2:F.C} (h:u0 * v1 - v0 * u1≠0):v0 * ((u2 * v1 - v2 * u1) / (u0 * v1 - v0 * u1)) + v1 * ((u0 * v2 - v0 * u2) / (u0 * v1 - v0 * u1)) - v2=0:=by grind
theorem kS' {u0 u1 v0 v1:F.C}:u0 * v1 - u1 * v0=u0 * v1 - v0 * u1:=by grind
theorem kT' (T:Tow rs F of) (h3:rs.length<=3) (hr:∀r∈rs,Bd 10 r) {p:Nat} {d0 d1 d2 e0 e1 e2:D} {u0 u1 v0 v1:F.C} (a0:Nm of rs.length p d0 u0) (a1:Nm of rs.length p d1 u1) (b0:Nm of rs.length p e0 v0) (b1:Nm of rs.length p e1 v1) (hp:p<=1000) (eq:u0 * v1 - v0 * u1=0) (s0 s1 s5 s6 s7:Option SV) :
  outD ((seqD (ifS (bindT (two (bindF (consD (slotD 2) (consD (two (bindF (consD (slotD 2) (consD (slotD 3) (consD (slotD 4) (fun _=>.ok [])))) F_ql) (fun _=>.ok (.int 0)) ixD) (fun _=>.ok []))) F_qm) (fun _=>.ok (.int 0)) eqD) boolD) (retD (andV (bindF (consD (slotD 2) (consD (slotD 3) (consD (slotD 4) (fun _=>.ok [])))) F_qn) (bindF (consD (slotD 2) (consD (slotD 4) (consD (slotD 3) (fun _=>.ok [])))) F_qn))) Out.nxt) (seqD (setD 8 (bindF (consD (slotD 2) (consD (slotD 3) (consD (slotD 4) (fun _=>.ok [])))) F_qe)) (seqD (ifS (orT (notT (bindT (bindF (consD (slotD 8) (consD (fun _=>.ok (.int 2)) (consD (two (lstF (consD (fun _=>.ok (.int 1)) (consD (fun _=>.ok (.int 2)) (consD (fun _=>.ok (.int 4)) (consD (fun _=>.ok (.int 8)) (fun _=>.ok [])))))) (slotD 1) ixD) (fun _=>.ok [])))) F_qa) truthD)) (bindT (two (bindF (consD (slotD 2) (consD (slotD 4) (consD (slotD 3) (fun _=>.ok [])))) F_qe) (slotD 8) neD) boolD)) (retD (fun _=>.ok (.bl false))) Out.nxt) (seqD (forS (tgtN 9) (bindL (lstF (consD (slotD 3) (consD (slotD 4) (fun _=>.ok [])))) seqItems) (ifS (bindT (two (bindF (consD (slotD 2) (consD (two (bindF (consD (slotD 2) (consD (slotD 9) (consD (slotD 8) (fun _=>.ok [])))) F_qd) (fun _=>.ok (.int 0)) ixD) (fun _=>.ok []))) F_qm) (fun _=>.ok (.int 0)) neD) boolD) (retD (fun _=>.ok (.bl false))) Out.nxt)) (retD (fun _=>.ok (.bl true))))))) [s0,s1,some (.val (RT rs)),some (.val (.tup [d0,d1,d2])),some (.val (.tup [e0,e1,e2])),s5,s6,s7,none,none])=.ok (.bl true):=by
 have e77:eT 10 rs.length<=77:=gR' h3;obtain ⟨w,ew,hw⟩:=fh' T h3 hr (r1:=[d2]) (r2:=[e2]) a0.rw a1.rw b0.rw b1.rw (by omega);rw [kS',eq] at hw;obtain ⟨x,b,rfl⟩:∃x b,w=num x b:=by obtain ⟨x,b,h,_⟩:=hw; exact ⟨x,b,h⟩
 have sg:=cy' T h3 hr hw (by omega);rw [sgn_0.mpr rfl] at sg;have r1:=eh' T h3 hr (d2:=d2) (e2:=e2) a0 a1 b0 b1 hp eq;have r2:=eh' T h3 hr (d2:=e2) (e2:=d2) b0 b1 a0 a1 hp (by grind);push_cast [ew,sg,r1,r2]
theorem ls' (T:Tow rs F of) (h3:rs.length<=3) (hr:∀r∈rs,Bd 10 r) {d0 d1 d2 e0 e1 e2:D} {u0 u1 u2 v0 v1 v2:F.C} (a0:Nm of rs.length 70 d0 u0) (a1:Nm of rs.length 70 d1 u1) (a2:Nm of rs.length 70 d2 u2) (b0:Nm of rs.length 70 e0 v0) (b1:Nm of rs.length 70 e1 v1) (b2:Nm of rs.length 70 e2 v2) (ne:u0 * v1 - v0 * u1≠0) (l:D) (s5 s6:SV) :
  outD ((seqD (ifS (bindT (two (bindF (consD (slotD 2) (consD (two (bindF (consD (slotD 2) (consD (slotD 3) (consD (slotD 4) (fun _=>.ok [])))) F_ql) (fun _=>.ok (.int 0)) ixD) (fun _=>.ok []))) F_qm) (fun _=>.ok (.int 0)) eqD) boolD) (retD (andV (bindF (consD (slotD 2) (consD (slotD 3) (consD (slotD 4) (fun _=>.ok [])))) F_qn) (bindF (consD (slotD 2) (consD (slotD 4) (consD (slotD 3) (fun _=>.ok [])))) F_qn))) Out.nxt) (seqD (setD 8 (bindF (consD (slotD 2) (consD (slotD 3) (consD (slotD 4) (fun _=>.ok [])))) F_qe)) (seqD (ifS (orT (notT (bindT (bindF (consD (slotD 8) (consD (fun _=>.ok (.int 2)) (consD (two (lstF (consD (fun _=>.ok (.int 1)) (consD (fun _=>.ok (.int 2)) (consD (fun _=>.ok (.int 4)) (consD (fun _=>.ok (.int 8)) (fun _=>.ok [])))))) (slotD 1) ixD) (fun _=>.ok [])))) F_qa) truthD)) (bindT (two (bindF (consD (slotD 2) (consD (slotD 4) (consD (slotD 3) (fun _=>.ok [])))) F_qe) (slotD 8) neD) boolD)) (retD (fun _=>.ok (.bl false))) Out.nxt) (seqD (forS (tgtN 9) (bindL (lstF (consD (slotD 3) (consD (slotD 4) (fun _=>.ok [])))) seqItems) (ifS (bindT (two (bindF (consD (slotD 2) (consD (two (bindF (consD (slotD 2) (consD (slotD 9) (consD (slotD 8) (fun _=>.ok [])))) F_qd) (fun _=>.ok (.int 0)) ixD) (fun _=>.ok []))) F_qm) (fun _=>.ok (.int 0)) neD) boolD) (retD (fun _=>.ok (.bl false))) Out.nxt)) (retD (fun _=>.ok (.bl true))))))) [some (.arg l),some (.val (.int (rs.length:Int))),some (.val (RT rs)),some (.val (.tup [d0,d1,d2])),some (.val (.tup [e0,e1,e2])),some s5,some s6,none,none,none])=.ok (.bl true):=by
 have e77:eT 10 rs.length<=77:=gR' h3;obtain ⟨w,ew,hw⟩:=fh' T h3 hr (r1:=[d2]) (r2:=[e2]) a0.rw a1.rw b0.rw b1.rw (by omega);rw [kS'] at hw;obtain ⟨x,b,rfl⟩:∃x b,w=num x b:=by obtain ⟨x,b,h,_⟩:=hw; exact ⟨x,b,h⟩
 have sg:=cy' T h3 hr hw (by omega);have sn:¬(sgn (u0 * v1 - v0 * u1)=0):=fun z=>ne (sgn_0.mp z);obtain ⟨z1,z2,em,hz1,hz2⟩:=iF' T h3 hr a0 a1 a2 b0 b1 b2 ne;obtain ⟨y1,y2,em',hy1,hy2⟩:=iF' T h3 hr b0 b1 b2 a0 a1 a2 (by grind);rw [lp' ne] at hy1;rw [show (v0 * u2 - u0 * v2) / (v0 * u1 - u0 * v1)=(u0 * v2 - v0 * u2) / (u0 * v1 - v0 * u1) by grind] at hy2;rw [cn' T hy1 hz1,cn' T hy2 hz2] at em';have an:=jM' T h3 hz1 hz2;have i4:=ix4 h3;have np:neD (.tup [z1,z2]) (.tup [z1,z2])=.ok (.bl false):=by
  obtain ⟨a,p,rfl,_⟩:=hz1;obtain ⟨b,q,rfl,_⟩:=hz2;exact kR' a b p q
 have by2:∀{t0 t1 t2:D} {w0 w1 w2:F.C},Nm of rs.length 70 t0 w0->Nm of rs.length 70 t1 w1->Nm of rs.length 70 t2 w2->w0 * ((u2 * v1 - v2 * u1) / (u0 * v1 - v0 * u1)) + w1 * ((u0 * v2 - v0 * u2) / (u0 * v1 - v0 * u1)) - w2=0->∀s9:Option SV,
   (ifS (bindT (two (bindF (consD (slotD 2) (consD (two (bindF (consD (slotD 2) (consD (slotD 9) (consD (slotD 8) (fun _=>.ok [])))) F_qd) (fun _=>.ok (.int 0)) ixD) (fun _=>.ok []))) F_qm) (fun _=>.ok (.int 0)) neD) boolD) (retD (fun _=>.ok (.bl false))) Out.nxt) [some (.val l),some (.val (.int (rs.length:Int))),some (.val (RT rs)),some (.val (.tup [d0,d1,d2])),some (.val (.tup [e0,e1,e2])),some (thaw1 s5),some (thaw1 s6),none,some (.val (.tup [z1,z2])),some (.val (.tup [t0,t1,t2]))]
   = .nxt [some (.val l),some (.val (.int (rs.length:Int))),some (.val (RT rs)),some (.val (.tup [d0,d1,d2])),some (.val (.tup [e0,e1,e2])),some (thaw1 s5),some (thaw1 s6),none,some (.val (.tup [z1,z2])),some (.val (.tup [t0,t1,t2]))]:=fun {t0 t1 t2 w0 w1 w2} c0 c1 c2 e s9=>by
  obtain ⟨g,eg,hg⟩:=if' T h3 hr (r2:=[]) c0.rw c1.rw c2.rw hz1.rw hz2.rw (by omega)
  rw [e] at hg;obtain ⟨y,c,rfl⟩:∃y c,g=num y c:=by obtain ⟨y,c,h,_⟩:=hg; exact ⟨y,c,h⟩
  have sg:=cy' T h3 hr hg (by omega);rw [sgn_0.mpr rfl] at sg;have eg':F_qd [RT rs,.tup [t0,t1,t2],.tup [z1,z2]]=.ok (num y c):=eg;push_cast [eg',sg]
 have f1:=by2 a0 a1 a2 (lq' ne) none;have f2:=by2 b0 b1 b2 (lr' ne) none;have fo:forD (tgtN 9) (ifS (bindT (two (bindF (consD (slotD 2) (consD (two (bindF (consD (slotD 2) (consD (slotD 9) (consD (slotD 8) (fun _=>.ok [])))) F_qd) (fun _=>.ok (.int 0)) ixD) (fun _=>.ok []))) F_qm) (fun _=>.ok (.int 0)) neD) boolD) (retD (fun _=>.ok (.bl false))) Out.nxt) [.tup [d0,d1,d2],.tup [e0,e1,e2]] [some (.val l),some (.val (.int (rs.length:Int))),some (.val (RT rs)),some (.val (.tup [d0,d1,d2])),some (.val (.tup [e0,e1,e2])),some (thaw1 s5),some (thaw1 s6),none,some (.val (.tup [z1,z2])),none]
   = .nxt [some (.val l),some (.val (.int (rs.length:Int))),some (.val (RT rs)),some (.val (.tup [d0,d1,d2])),some (.val (.tup [e0,e1,e2])),some (thaw1 s5),some (thaw1 s6),none,some (.val (.tup [z1,z2])),some (.val (.tup [e0,e1,e2]))]:=by
  refine Eq.trans (fg' ?_ f1) ?_
  ·rfl
  refine Eq.trans (fg' ?_ f2) ?_
  ·rfl
  exact ie'
 have th:thaw [some (.arg l),some (.val (.int (rs.length:Int))),some (.val (RT rs)),some (.val (.tup [d0,d1,d2])),some (.val (.tup [e0,e1,e2])),some s5,some s6,none,some (.val (.tup [z1,z2])),none]=[some (.val l),some (.val (.int (rs.length:Int))),some (.val (RT rs)),some (.val (.tup [d0,d1,d2])),some (.val (.tup [e0,e1,e2])),some (thaw1 s5),some (thaw1 s6),none,some (.val (.tup [z1,z2])),none]:=rfl;have tho:∀δ,thawO (Out.nxt δ)=.nxt (δ.map (Option.map thaw2)):=fun _=>rfl;push_cast [ew,sg,sn,em,em',an,i4,np,th,fo,tho]
end
theorem lt' (ns:List Int) (_:ns.length<=63):F_law [.lst (ns.map .int)]=.ok (.bl true):=by
 show outD (b_law [some (.arg (.lst (ns.map .int))),none,none,none,none,none,none,none,none,none])=_;unfold b_law;have c0:F_qA [.lst (ns.map .int),.int 0]=_:=ff' ns 0;have c8:F_qA [.lst (ns.map .int),.int 8]=_:=ff' ns 8;have mx:F_qv [.int (cell ns 0),.int 9,.int 4]=_:=bc' (cell ns 0) 9 4 (by decide) (by decide);have bd:=bJ' (cell ns 0) 9 (m:=4) (by decide);generalize mix (cell ns 0) 9 4=lv at *;obtain ⟨l,rfl⟩:=Int.eq_ofNat_of_zero_le bd.1;have l3:l<=3:=by omega
 obtain ⟨k1,es1⟩:=dz' ns 1;obtain ⟨k9,es9⟩:=dz' ns 9;obtain ⟨rs,F,of,hs,T,rl,hr⟩:=id' k1 l l3;subst rl;have e77:eT 10 rs.length<=77:=gR' l3;obtain ⟨d0,d1,d2,u0,u1,u2,el,a0,a1,a2⟩:=iG' T l3 ns 2;obtain ⟨e0,e1,e2,v0,v1,v2,el',b0,b1,b2⟩:=iG' T l3 ns 5;obtain ⟨g,t,eg,hg⟩:=ef' T l3 k9;have es1':F_qr [.lst (ns.map .int),.int 1]=.ok (.int k1):=es1;have es9':F_qr [.lst (ns.map .int),.int 9]=.ok (.int k9):=es9;have l2':F_qC [.lst (ns.map .int),.int 2,.int (rs.length:Int)]=_:=el;have l5':F_qC [.lst (ns.map .int),.int 5,.int (rs.length:Int)]=_:=el';have m6:modD (.int (cell ns 8)) (.int 6)=_:=modI (show (6:Int)≠0 by decide);have w0:=Int.fmod_nonneg_of_pos (cell ns 8) (b:=6) (by decide);generalize Int.fmod (cell ns 8) 6=way at *;obtain ⟨x,b,rfl⟩:∃x b,g=num x b:=by obtain ⟨x,b,h,_⟩:=hg; exact ⟨x,b,h⟩
 have sg:=cy' T l3 hr hg.rw (by omega);have key:outD ((seqD (ifS (andT (bindT (two (slotD 5) (fun _=>.ok (.int 2)) (cmpD fun i j=>decide (i < j))) boolD) (bindT (two (bindF (consD (slotD 2) (consD (two (slotD 6) (fun _=>.ok (.int 0)) ixD) (fun _=>.ok []))) F_qm) (fun _=>.ok (.int 0)) neD) boolD)) (seqD (setD 7 (compD 1 [2,6] (tgtN 0) (bindF (consD (slotD 1) (consD (slotD 0) (consD (slotD 2) (fun _=>.ok [])))) F_qk) (bindL (slotD 3) seqItems))) (seqD (setD 4 (tupF (consD (bindF (consD (two (two (slotD 7) (fun _=>.ok (.int 0)) ixD) (fun _=>.ok (.int 0)) ixD) (consD (two (two (slotD 7) (fun _=>.ok (.int 0)) ixD) (fun _=>.ok (.int 1)) ixD) (fun _=>.ok []))) F_qy) (consD (bindF (consD (two (two (slotD 7) (fun _=>.ok (.int 1)) ixD) (fun _=>.ok (.int 0)) ixD) (consD (two (two (slotD 7) (fun _=>.ok (.int 1)) ixD) (fun _=>.ok (.int 1)) ixD) (fun _=>.ok []))) F_qy) (consD (two (slotD 4) (fun _=>.ok (.int 2)) ixD) (fun _=>.ok [])))))) (ifS (bindT (two (slotD 5) (fun _=>.ok (.int 0)) eqD) boolD) (setD 4 (two (sliceF (slotD 4) noPart (partF (fun _=>.ok (.int 2)))) (tupF (consD (bindF (consD (two (two (slotD 7) (fun _=>.ok (.int 2)) ixD) (fun _=>.ok (.int 0)) ixD) (consD (two (two (slotD 7) (fun _=>.ok (.int 2)) ixD) (fun _=>.ok (.int 1)) ixD) (fun _=>.ok []))) F_qy) (fun _=>.ok []))) addD)) Out.nxt))) Out.nxt) (seqD (ifS (bindT (two (bindF (consD (slotD 2) (consD (two (bindF (consD (slotD 2) (consD (slotD 3) (consD (slotD 4) (fun _=>.ok [])))) F_ql) (fun _=>.ok (.int 0)) ixD) (fun _=>.ok []))) F_qm) (fun _=>.ok (.int 0)) eqD) boolD) (retD (andV (bindF (consD (slotD 2) (consD (slotD 3) (consD (slotD 4) (fun _=>.ok [])))) F_qn) (bindF (consD (slotD 2) (consD (slotD 4) (consD (slotD 3) (fun _=>.ok [])))) F_qn))) Out.nxt) (seqD (setD 8 (bindF (consD (slotD 2) (consD (slotD 3) (consD (slotD 4) (fun _=>.ok [])))) F_qe)) (seqD (ifS (orT (notT (bindT (bindF (consD (slotD 8) (consD (fun _=>.ok (.int 2)) (consD (two (lstF (consD (fun _=>.ok (.int 1)) (consD (fun _=>.ok (.int 2)) (consD (fun _=>.ok (.int 4)) (consD (fun _=>.ok (.int 8)) (fun _=>.ok [])))))) (slotD 1) ixD) (fun _=>.ok [])))) F_qa) truthD)) (bindT (two (bindF (consD (slotD 2) (consD (slotD 4) (consD (slotD 3) (fun _=>.ok [])))) F_qe) (slotD 8) neD) boolD)) (retD (fun _=>.ok (.bl false))) Out.nxt) (seqD (forS (tgtN 9) (bindL (lstF (consD (slotD 3) (consD (slotD 4) (fun _=>.ok [])))) seqItems) (ifS (bindT (two (bindF (consD (slotD 2) (consD (two (bindF (consD (slotD 2) (consD (slotD 9) (consD (slotD 8) (fun _=>.ok [])))) F_qd) (fun _=>.ok (.int 0)) ixD) (fun _=>.ok []))) F_qm) (fun _=>.ok (.int 0)) neD) boolD) (retD (fun _=>.ok (.bl false))) Out.nxt)) (retD (fun _=>.ok (.bl true)))))))) [some (.arg (.lst (ns.map .int))),some (.val (.int (rs.length:Int))),some (.val (RT rs)),some (.val (.tup [d0,d1,d2])),some (.val (.tup [e0,e1,e2])),some (.val (.int way)),some (.val (num x b)),none,none,none])=.ok (.bl true):=by
  have plain:outD ((seqD (ifS (bindT (two (bindF (consD (slotD 2) (consD (two (bindF (consD (slotD 2) (consD (slotD 3) (consD (slotD 4) (fun _=>.ok [])))) F_ql) (fun _=>.ok (.int 0)) ixD) (fun _=>.ok []))) F_qm) (fun _=>.ok (.int 0)) eqD) boolD) (retD (andV (bindF (consD (slotD 2) (consD (slotD 3) (consD (slotD 4) (fun _=>.ok [])))) F_qn) (bindF (consD (slotD 2) (consD (slotD 4) (consD (slotD 3) (fun _=>.ok [])))) F_qn))) Out.nxt) (seqD (setD 8 (bindF (consD (slotD 2) (consD (slotD 3) (consD (slotD 4) (fun _=>.ok [])))) F_qe)) (seqD (ifS (orT (notT (bindT (bindF (consD (slotD 8) (consD (fun _=>.ok (.int 2)) (consD (two (lstF (consD (fun _=>.ok (.int 1)) (consD (fun _=>.ok (.int 2)) (consD (fun _=>.ok (.int 4)) (consD (fun _=>.ok (.int 8)) (fun _=>.ok [])))))) (slotD 1) ixD) (fun _=>.ok [])))) F_qa) truthD)) (bindT (two (bindF (consD (slotD 2) (consD (slotD 4) (consD (slotD 3) (fun _=>.ok [])))) F_qe) (slotD 8) neD) boolD)) (retD (fun _=>.ok (.bl false))) Out.nxt) (seqD (forS (tgtN 9) (bindL (lstF (consD (slotD 3) (consD (slotD 4) (fun _=>.ok [])))) seqItems) (ifS (bindT (two (bindF (consD (slotD 2) (consD (two (bindF (consD (slotD 2) (consD (slotD 9) (consD (slotD 8) (fun _=>.ok [])))) F_qd) (fun _=>.ok (.int 0)) ixD) (fun _=>.ok []))) F_qm) (fun _=>.ok (.int 0)) neD) boolD) (retD (fun _=>.ok (.bl false))) Out.nxt)) (retD (fun _=>.ok (.bl true))))))) [some (.arg (.lst (ns.map .int))),some (.val (.int (rs.length:Int))),some (.val (RT rs)),some (.val (.tup [d0,d1,d2])),some (.val (.tup [e0,e1,e2])),some (.val (.int way)),some (.val (num x b)),none,none,none])=.ok (.bl true):=by
   by_cases c:u0 * v1 - v0 * u1=0
   ·exact kT' T l3 hr a0 a1 b0 b1 (by decide) c _ _ _ _ _
   ·exact ls' T l3 hr a0 a1 a2 b0 b1 b2 c _ _ _
  rw [ap_seq]
  by_cases w2:way < 2
  ·by_cases t0:t=0
   ·rw [sgn_0.mpr t0] at sg;have i:(ifS (andT (bindT (two (slotD 5) (fun _=>.ok (.int 2)) (cmpD fun i j=>decide (i < j))) boolD) (bindT (two (bindF (consD (slotD 2) (consD (two (slotD 6) (fun _=>.ok (.int 0)) ixD) (fun _=>.ok []))) F_qm) (fun _=>.ok (.int 0)) neD) boolD)) (seqD (setD 7 (compD 1 [2,6] (tgtN 0) (bindF (consD (slotD 1) (consD (slotD 0) (consD (slotD 2) (fun _=>.ok [])))) F_qk) (bindL (slotD 3) seqItems))) (seqD (setD 4 (tupF (consD (bindF (consD (two (two (slotD 7) (fun _=>.ok (.int 0)) ixD) (fun _=>.ok (.int 0)) ixD) (consD (two (two (slotD 7) (fun _=>.ok (.int 0)) ixD) (fun _=>.ok (.int 1)) ixD) (fun _=>.ok []))) F_qy) (consD (bindF (consD (two (two (slotD 7) (fun _=>.ok (.int 1)) ixD) (fun _=>.ok (.int 0)) ixD) (consD (two (two (slotD 7) (fun _=>.ok (.int 1)) ixD) (fun _=>.ok (.int 1)) ixD) (fun _=>.ok []))) F_qy) (consD (two (slotD 4) (fun _=>.ok (.int 2)) ixD) (fun _=>.ok [])))))) (ifS (bindT (two (slotD 5) (fun _=>.ok (.int 0)) eqD) boolD) (setD 4 (two (sliceF (slotD 4) noPart (partF (fun _=>.ok (.int 2)))) (tupF (consD (bindF (consD (two (two (slotD 7) (fun _=>.ok (.int 2)) ixD) (fun _=>.ok (.int 0)) ixD) (consD (two (two (slotD 7) (fun _=>.ok (.int 2)) ixD) (fun _=>.ok (.int 1)) ixD) (fun _=>.ok []))) F_qy) (fun _=>.ok []))) addD)) Out.nxt))) Out.nxt) [some (.arg (.lst (ns.map .int))),some (.val (.int (rs.length:Int))),some (.val (RT rs)),some (.val (.tup [d0,d1,d2])),some (.val (.tup [e0,e1,e2])),some (.val (.int way)),some (.val (num x b)),none,none,none]=.nxt [some (.arg (.lst (ns.map .int))),some (.val (.int (rs.length:Int))),some (.val (RT rs)),some (.val (.tup [d0,d1,d2])),some (.val (.tup [e0,e1,e2])),some (.val (.int way)),some (.val (num x b)),none,none,none]:=by
     push_cast [w2,sg]
    rw [i,sq_nxt]; exact plain
   ·have sn:¬(sgn t=0):=fun z=>t0 (sgn_0.mp z);obtain ⟨p0,q0,r0⟩:=be' T l3 hr a0.rw hg.rw (by omega);obtain ⟨p1,q1,r1⟩:=be' T l3 hr a1.rw hg.rw (by omega);obtain ⟨p2,q2,r2⟩:=be' T l3 hr a2.rw hg.rw (by omega);have least:∀{p:D} {v:F.C},Rw of rs.length (70 + 70 + eT 10 rs.length) p v->∃y c z,p=num y c/\F_qy [TI y,.int c]=.ok z/\Nm of rs.length 300 z v:=fun {p v} h=>by
     obtain ⟨y,c,rfl,pc,ly,b_y,bc,ey⟩:=h;obtain ⟨z,ez,hz⟩:=eL' T l3 ly b_y pc bc (by omega) (.inr rfl);rw [<- ey] at hz;exact ⟨y,c,z,rfl,ez,hz.mono (by omega)⟩
    obtain ⟨y0,c0',z0,rfl,ez0,hz0⟩:=least r0;obtain ⟨y1,c1',z1,rfl,ez1,hz1⟩:=least r1;obtain ⟨y2,c2',z2,rfl,ez2,hz2⟩:=least r2;have cc:compD 1 [2,6] (tgtN 0) (bindF (consD (slotD 1) (consD (slotD 0) (consD (slotD 2) (fun _=>.ok [])))) F_qk) (bindL (slotD 3) seqItems) [some (.arg (.lst (ns.map .int))),some (.val (.int (rs.length:Int))),some (.val (RT rs)),some (.val (.tup [d0,d1,d2])),some (.val (.tup [e0,e1,e2])),some (.val (.int way)),some (.val (num x b)),none,none,none]=.ok (.lst [num y0 c0',num y1 c1',num y2 c2']):=by
     have elt:∀d z,F_qk [RT rs,d,num x b]=.ok z->eltD (tgtN 0) (bindF (consD (slotD 1) (consD (slotD 0) (consD (slotD 2) (fun _=>.ok [])))) F_qk) [none,some (.arg (RT rs)),some (.arg (num x b))] d=.ok z:=fun d z h=>by
      show (match bindF (consD (slotD 1) (consD (slotD 0) (consD (slotD 2) (fun _=>.ok [])))) F_qk [some (.val d),some (.arg (RT rs)),some (.arg (num x b))] with | .ok z=>Res.ok z | _=>.stuck)=_
      push_cast [h]
     unfold compD;have hi:bindL (slotD 3) seqItems [some (.arg (.lst (ns.map .int))),some (.val (.int (rs.length:Int))),some (.val (RT rs)),some (.val (.tup [d0,d1,d2])),some (.val (.tup [e0,e1,e2])),some (.val (.int way)),some (.val (num x b)),none,none,none]=.ok [d0,d1,d2]:=rfl;have hc:compS 1 [2,6] [some (.arg (.lst (ns.map .int))),some (.val (.int (rs.length:Int))),some (.val (RT rs)),some (.val (.tup [d0,d1,d2])),some (.val (.tup [e0,e1,e2])),some (.val (.int way)),some (.val (num x b)),none,none,none]=[none,some (.arg (RT rs)),some (.arg (num x b))]:=rfl;rw [hi,Res.bind_ok,hc,mapR,elt d0 _ q0,Res.bind_ok,mapR,elt d1 _ q1,Res.bind_ok,mapR,elt d2 _ q2,Res.bind_ok];rfl
    have cr:u0 * (u1 * t) - u0 * t * u1=0:=by grind
    have ct:∀a b c:D,cutD (.tup [a,b,c]) none (some 2)=.ok (.tup [a,b]):=fun a b c=>bU' [a,b,c] 2;have ad:∀a b c:D,addD (.tup [a,b]) (.tup [c])=.ok (.tup [a,b,c]):=fun a b c=>rfl;have i:∃z3,(ifS (andT (bindT (two (slotD 5) (fun _=>.ok (.int 2)) (cmpD fun i j=>decide (i < j))) boolD) (bindT (two (bindF (consD (slotD 2) (consD (two (slotD 6) (fun _=>.ok (.int 0)) ixD) (fun _=>.ok []))) F_qm) (fun _=>.ok (.int 0)) neD) boolD)) (seqD (setD 7 (compD 1 [2,6] (tgtN 0) (bindF (consD (slotD 1) (consD (slotD 0) (consD (slotD 2) (fun _=>.ok [])))) F_qk) (bindL (slotD 3) seqItems))) (seqD (setD 4 (tupF (consD (bindF (consD (two (two (slotD 7) (fun _=>.ok (.int 0)) ixD) (fun _=>.ok (.int 0)) ixD) (consD (two (two (slotD 7) (fun _=>.ok (.int 0)) ixD) (fun _=>.ok (.int 1)) ixD) (fun _=>.ok []))) F_qy) (consD (bindF (consD (two (two (slotD 7) (fun _=>.ok (.int 1)) ixD) (fun _=>.ok (.int 0)) ixD) (consD (two (two (slotD 7) (fun _=>.ok (.int 1)) ixD) (fun _=>.ok (.int 1)) ixD) (fun _=>.ok []))) F_qy) (consD (two (slotD 4) (fun _=>.ok (.int 2)) ixD) (fun _=>.ok [])))))) (ifS (bindT (two (slotD 5) (fun _=>.ok (.int 0)) eqD) boolD) (setD 4 (two (sliceF (slotD 4) noPart (partF (fun _=>.ok (.int 2)))) (tupF (consD (bindF (consD (two (two (slotD 7) (fun _=>.ok (.int 2)) ixD) (fun _=>.ok (.int 0)) ixD) (consD (two (two (slotD 7) (fun _=>.ok (.int 2)) ixD) (fun _=>.ok (.int 1)) ixD) (fun _=>.ok []))) F_qy) (fun _=>.ok []))) addD)) Out.nxt))) Out.nxt) [some (.arg (.lst (ns.map .int))),some (.val (.int (rs.length:Int))),some (.val (RT rs)),some (.val (.tup [d0,d1,d2])),some (.val (.tup [e0,e1,e2])),some (.val (.int way)),some (.val (num x b)),none,none,none]=.nxt [some (.arg (.lst (ns.map .int))),some (.val (.int (rs.length:Int))),some (.val (RT rs)),some (.val (.tup [d0,d1,d2])),some (.val (.tup [z0,z1,z3])),some (.val (.int way)),some (.val (num x b)),some (.val (.lst [num y0 c0',num y1 c1',num y2 c2'])),none,none]:=by
     by_cases w00:way=0
     ·subst w00;exact ⟨z2,by push_cast [w2,sg,sn,cc,ez0,ez1,ez2,ct,ad]⟩
     ·exact ⟨e2,by push_cast [w2,sg,sn,cc,ez0,ez1,w00]⟩
    obtain ⟨z3,i⟩:=i;rw [i,sq_nxt];exact kT' T l3 hr (a0.mono (show 70<=300 by decide)) (a1.mono (show 70<=300 by decide)) hz0 hz1 (by decide) cr _ _ _ _ _
  ·have i:(ifS (andT (bindT (two (slotD 5) (fun _=>.ok (.int 2)) (cmpD fun i j=>decide (i < j))) boolD) (bindT (two (bindF (consD (slotD 2) (consD (two (slotD 6) (fun _=>.ok (.int 0)) ixD) (fun _=>.ok []))) F_qm) (fun _=>.ok (.int 0)) neD) boolD)) (seqD (setD 7 (compD 1 [2,6] (tgtN 0) (bindF (consD (slotD 1) (consD (slotD 0) (consD (slotD 2) (fun _=>.ok [])))) F_qk) (bindL (slotD 3) seqItems))) (seqD (setD 4 (tupF (consD (bindF (consD (two (two (slotD 7) (fun _=>.ok (.int 0)) ixD) (fun _=>.ok (.int 0)) ixD) (consD (two (two (slotD 7) (fun _=>.ok (.int 0)) ixD) (fun _=>.ok (.int 1)) ixD) (fun _=>.ok []))) F_qy) (consD (bindF (consD (two (two (slotD 7) (fun _=>.ok (.int 1)) ixD) (fun _=>.ok (.int 0)) ixD) (consD (two (two (slotD 7) (fun _=>.ok (.int 1)) ixD) (fun _=>.ok (.int 1)) ixD) (fun _=>.ok []))) F_qy) (consD (two (slotD 4) (fun _=>.ok (.int 2)) ixD) (fun _=>.ok [])))))) (ifS (bindT (two (slotD 5) (fun _=>.ok (.int 0)) eqD) boolD) (setD 4 (two (sliceF (slotD 4) noPart (partF (fun _=>.ok (.int 2)))) (tupF (consD (bindF (consD (two (two (slotD 7) (fun _=>.ok (.int 2)) ixD) (fun _=>.ok (.int 0)) ixD) (consD (two (two (slotD 7) (fun _=>.ok (.int 2)) ixD) (fun _=>.ok (.int 1)) ixD) (fun _=>.ok []))) F_qy) (fun _=>.ok []))) addD)) Out.nxt))) Out.nxt) [some (.arg (.lst (ns.map .int))),some (.val (.int (rs.length:Int))),some (.val (RT rs)),some (.val (.tup [d0,d1,d2])),some (.val (.tup [e0,e1,e2])),some (.val (.int way)),some (.val (num x b)),none,none,none]=.nxt [some (.arg (.lst (ns.map .int))),some (.val (.int (rs.length:Int))),some (.val (RT rs)),some (.val (.tup [d0,d1,d2])),some (.val (.tup [e0,e1,e2])),some (.val (.int way)),some (.val (num x b)),none,none,none]:=by
    push_cast [w2]
   rw [i,sq_nxt]; exact plain
 simp only [ap_seq (setD _ _),ap_set,ap_bF,ap_two (bindF _ _) _ modD,ap_cons,bnd_ok,sl0,sl1,vw_arg,vw_val,c0,c8,m6,mx,on_ok,st1,sq_nxt,es1',es9',hs,st2,l2',st3,l5',st4,st5,eg,st6];exact key
theorem ej' {K:PySem.W.Frag} {H:Hp}:∀ns:List Int,Reps K H (ns.map .int) (ns.map V.int)
 | []=>.nil
 | n :: ns=>.cons mkI (ej' ns)
end K23
namespace K23
open PySem PySem.Spec PyProof.Rows L2 DL
theorem all_mk {l:PySem.W.OpenLaw} {w:World} {K:PySem.W.Frag} {h:Heap} {mg:Str->Option Value} {fa c_HallError c_NoOver c_NoLine c_NoMeet f_law:Addr} (X:K.In h) (G:h.Ns mainGlobals mg) (hfa:mg "law" = some (.ref fa))
  {od_law an_law:Option Addr} {sl_law:Array (Option Value)} {oc_law kV_law dc_law pm_law cd_law ct_law:Value}
  (n_HallError:PySem.W.nsIn K mainGlobals "HallError" = some (some (.ref c_HallError)))
  (n_NoOver:PySem.W.nsIn K mainGlobals "NoOver" = some (some (.ref c_NoOver)))
  (x_NoOver:PySem.W.excIn K c_NoOver [.type "ValueError",.type "Exception",.type "BaseException",.type "object"] "ValueError.__new__" = true)
  (n_NoLine:PySem.W.nsIn K mainGlobals "NoLine" = some (some (.ref c_NoLine)))
  (n_NoMeet:PySem.W.nsIn K mainGlobals "NoMeet" = some (some (.ref c_NoMeet)))
  (xk_NoMeet:Xk K c_NoMeet c_HallError "NoMeet.__init__" cq' "number")
  (no_number_NoMeet:PySem.W.findIn K (.ref c_NoMeet) "number" = some none)
  (l_qH:Lk K "common" st_qH)
  (l_qI:Lk K "lifted" st_qI)
  (l_qh:Lk K "are_noughts" st_qh)
  (l_qo:Lk K "front_tops" st_qo)
  (l_qi:Lk K "behind_tops" st_qi)
  (l_qt:Lk K "plus_tops" st_qt)
  (l_qf:Lk K "against_tops" st_qf)
  (l_qA:Lk K "_law_cell" st_qA)
  (l_qu:Lk K "_law_whole" st_qu)
  (l_qv:Lk K "_law_mixed" st_qv)
  (l_qw:Lk K "_law_added" st_qw)
  (l_qp:Lk K "_law_scaled" st_qp)
  (l_qq:Lk K "_law_common" st_qq)
  (l_qM:Lk K "made" st_qM)
  (l_qE:Lk K "against" st_qE)
  (l_qx:Lk K "is_nought" st_qx)
  (l_qJ:Lk K "turned" st_qJ)
  (l_qr:Lk K "_law_spread" st_qr)
  (l_qg:Lk K "_law_scaffold" st_qg)
  (l_qF:Lk K "_law_sum" st_qF)
  (l_qc:Lk K "_law_is_number" st_qc)
  (l_qy:Lk K "_law_least" st_qy)
  (l_qN:Lk K "plus" st_qN)
  (l_qB:Lk K "_law_less" st_qB)
  (l_qj:Lk K "_law_drawn" st_qj)
  (l_qa:Lk K "_law_are_numbers" st_qa)
  (l_qK:Lk K "minus" st_qK)
  (l_qC:Lk K "_law_line" st_qC)
  (l_qs:Lk K "times_tops" st_qs)
  (l_qb:Lk K "_law_tops_times" st_qb)
  (l_qL:Lk K "times" st_qL)
  (l_qz:Lk K "norm_tops" st_qz)
  (l_qk:Lk K "_law_product" st_qk)
  (l_qO:Lk K "norm" st_qO)
  (l_qG:Lk K "crossed" st_qG)
  (l_qd:Lk K "_law_by_line" st_qd)
  (l_ql:Lk K "_law_crossed" st_ql)
  (l_qm:Lk K "_law_sign_of" st_qm)
  (l_qD:Lk K "one_over" st_qD)
  (l_qP:Lk K "over" st_qP)
  (l_qe:Lk K "meet_of_lines" st_qe)
  (l_qn:Lk K "_law_refused" st_qn)
  (n_law:PySem.W.nsIn K mainGlobals "law" = some (some (.ref f_law)))
  (l_law:K.lookup f_law=some ⟨oc_law,od_law,.func (PySem.W.fnOf "law" "law" (defArgs bK') (defBody bK') (defScope bK') .none kV_law dc_law pm_law an_law cd_law ct_law),sl_law⟩)
  (c_law:PySem.W.codeIn K cd_law "law" = true)
  (k_law:PySem.W.keepIn K (.ref f_law)=true)
  (z_ValueError:PySem.W.nsIn K mainGlobals "ValueError" = some none)
  (z_abs:PySem.W.nsIn K mainGlobals "abs" = some none)
  (z_all:PySem.W.nsIn K mainGlobals "all" = some none)
  (z_bool:PySem.W.nsIn K mainGlobals "bool" = some none)
  (z_int:PySem.W.nsIn K mainGlobals "int" = some none)
  (z_isinstance:PySem.W.nsIn K mainGlobals "isinstance" = some none)
  (z_len:PySem.W.nsIn K mainGlobals "len" = some none)
  (z_range:PySem.W.nsIn K mainGlobals "range" = some none)
  (z_tuple:PySem.W.nsIn K mainGlobals "tuple" = some none)
  (z_zip:PySem.W.nsIn K mainGlobals "zip" = some none)
  (e0_NoMeet:PySem.W.findIn K (.ref c_NoMeet) "__getattribute__" = some (some (.builtin "BaseException.__getattribute__")))
  (e1_NoMeet:PySem.W.findIn K (.ref c_NoMeet) "__getattr__" = some none)
  (e2_NoMeet:PySem.W.hasDictIn K c_NoMeet=true)
  (e3_NoMeet:PySem.W.findIn K (.ref c_NoMeet) "__class__" = some (some (.builtin "object.__class__")))
  (e6_NoMeet:PySem.W.mroIn K c_NoMeet (.type "object")=some true)
  (e7_NoMeet:PySem.W.mroIn K c_NoMeet (.type "BaseException")=some true)
  (e4:PySem.W.specialIn K (.builtin "object.__class__") "__get__" = some (some (.builtin "getset_descriptor.__get__")))
  (e5:PySem.W.takesIn K (.builtin "object.__class__")=some true)
  (s_NoMeet_HallError:PySem.W.exmOne K (.ref c_NoMeet) (.ref c_HallError)=some true)
  (i_int_int:PySem.W.kitOne K (.type "int") (.type "int")=some true)
  (i_bool_int:PySem.W.kitOne K (.type "bool") (.type "int")=some true)
  (i_NoneType_int:PySem.W.kitOne K (.type "NoneType") (.type "int")=some false)
  (i_str_int:PySem.W.kitOne K (.type "str") (.type "int")=some false)
  (i_tuple_int:PySem.W.kitOne K (.type "tuple") (.type "int")=some false)
  (i_list_int:PySem.W.kitOne K (.type "list") (.type "int")=some false)
  (i_dict_int:PySem.W.kitOne K (.type "dict") (.type "int")=some false)
  (i_int_bool:PySem.W.kitOne K (.type "int") (.type "bool")=some false)
  (i_bool_bool:PySem.W.kitOne K (.type "bool") (.type "bool")=some true)
  (i_NoneType_bool:PySem.W.kitOne K (.type "NoneType") (.type "bool")=some false)
  (i_str_bool:PySem.W.kitOne K (.type "str") (.type "bool")=some false)
  (i_tuple_bool:PySem.W.kitOne K (.type "tuple") (.type "bool")=some false)
  (i_list_bool:PySem.W.kitOne K (.type "list") (.type "bool")=some false)
  (i_dict_bool:PySem.W.kitOne K (.type "dict") (.type "bool")=some false)
  (i_int_tuple:PySem.W.kitOne K (.type "int") (.type "tuple")=some false)
  (i_bool_tuple:PySem.W.kitOne K (.type "bool") (.type "tuple")=some false)
  (i_NoneType_tuple:PySem.W.kitOne K (.type "NoneType") (.type "tuple")=some false)
  (i_str_tuple:PySem.W.kitOne K (.type "str") (.type "tuple")=some false)
  (i_tuple_tuple:PySem.W.kitOne K (.type "tuple") (.type "tuple")=some true)
  (i_list_tuple:PySem.W.kitOne K (.type "list") (.type "tuple")=some false)
  (i_dict_tuple:PySem.W.kitOne K (.type "dict") (.type "tuple")=some false)
  (i_NoneType_NoMeet:PySem.W.kitOne K (.type "NoneType") (.ref c_NoMeet)=some false)
  (i_NoMeet_NoMeet:PySem.W.kitOne K (.ref c_NoMeet) (.ref c_NoMeet)=some true)
  (i_NoneType_ValueError:PySem.W.kitOne K (.type "NoneType") (.type "ValueError")=some false)
  (i_NoMeet_ValueError:PySem.W.kitOne K (.ref c_NoMeet) (.type "ValueError")=some true)
  (i_NoneType_NoLine:PySem.W.kitOne K (.type "NoneType") (.ref c_NoLine)=some false)
  (i_NoMeet_NoLine:PySem.W.kitOne K (.ref c_NoMeet) (.ref c_NoLine)=some false)
  : ∃fd:FuncData,(∀(s:Shared) (v:Value),BindsTo s fd ⟨[v],[]⟩ [("_law_script",v)])/\∀base:Heap,K.In base->base.Ns mainGlobals mg->FnOk l.prog w K mg base (CX1 l.prog w) 15 fa fd ["_law_script"] (spD K F_law):=by
 have e:=hfa.symm.trans (PySem.W.mg_of X G n_law)
 cases e
 have F_law:=fZ' (st:=bK') l_law c_law k_law;have T:Txt K mg { c_HallError:=c_HallError,c_NoOver:=c_NoOver,c_NoLine:=c_NoLine,c_NoMeet:=c_NoMeet }:={
  m_HallError:=PySem.W.mg_of X G n_HallError
  m_NoOver:=PySem.W.mg_of X G n_NoOver
  n_NoOver:=n_NoOver
  x_NoOver:=x_NoOver
  m_NoLine:=PySem.W.mg_of X G n_NoLine
  m_NoMeet:=PySem.W.mg_of X G n_NoMeet
  n_NoMeet:=n_NoMeet
  z_ValueError:=PySem.W.mg_none_of X G z_ValueError
  z_abs:=PySem.W.mg_none_of X G z_abs
  z_all:=PySem.W.mg_none_of X G z_all
  z_bool:=PySem.W.mg_none_of X G z_bool
  z_int:=PySem.W.mg_none_of X G z_int
  z_isinstance:=PySem.W.mg_none_of X G z_isinstance
  z_len:=PySem.W.mg_none_of X G z_len
  z_range:=PySem.W.mg_none_of X G z_range
  z_tuple:=PySem.W.mg_none_of X G z_tuple
  z_zip:=PySem.W.mg_none_of X G z_zip
  a_number:=by
   intro c hc C hC;unfold isa_number at hc;simp only [beq_iff_eq] at hc;subst hc; cases n_NoMeet.symm.trans hC; exact ⟨⟨e0_NoMeet,e1_NoMeet,e2_NoMeet,e3_NoMeet,e4,e5,e6_NoMeet,e7_NoMeet⟩,no_number_NoMeet⟩
  s_HallError:=by
   intro x C hC hs;unfold sub_HallError at hs
   split at hs
   ·rename_i e; subst e; cases n_NoMeet.symm.trans hC; exact s_NoMeet_HallError
   ·cases hs
  i_int:=by
   intro d b hd
   cases d <;> simp only [Bk.is_int] at hd <;> cases hd <;> first | exact i_int_int | exact i_bool_int | exact i_NoneType_int | exact i_str_int | exact i_tuple_int | exact i_list_int | exact i_dict_int
  i_bool:=by
   intro d b hd
   cases d <;> simp only [Bk.is_bool] at hd <;> cases hd <;> first | exact i_int_bool | exact i_bool_bool | exact i_NoneType_bool | exact i_str_bool | exact i_tuple_bool | exact i_list_bool | exact i_dict_bool
  i_tuple:=by
   intro d b hd
   cases d <;> simp only [Bk.is_tuple] at hd <;> cases hd <;> first | exact i_int_tuple | exact i_bool_tuple | exact i_NoneType_tuple | exact i_str_tuple | exact i_tuple_tuple | exact i_list_tuple | exact i_dict_tuple
  i_NoMeet:=by
   intro d b hd
   cases d with
   | excf c _ _ =>
    simp only [is_NoMeet] at hd
    split at hd
    ·rename_i e; subst e; cases hd; intro C hC; cases n_NoMeet.symm.trans hC; exact ⟨⟨e0_NoMeet,e1_NoMeet,e2_NoMeet,e3_NoMeet,e4,e5,e6_NoMeet,e7_NoMeet⟩,i_NoMeet_NoMeet⟩
    ·cases hd
   | non=>simp only [is_NoMeet] at hd; cases hd; exact i_NoneType_NoMeet
   | _=>cases hd
  i_NoLine:=by
   intro d b hd
   cases d with
   | excf c _ _ =>
    simp only [is_NoLine] at hd
    split at hd
    ·rename_i e; subst e; cases hd; intro C hC; cases n_NoMeet.symm.trans hC; exact ⟨⟨e0_NoMeet,e1_NoMeet,e2_NoMeet,e3_NoMeet,e4,e5,e6_NoMeet,e7_NoMeet⟩,i_NoMeet_NoLine⟩
    ·cases hd
   | non=>simp only [is_NoLine] at hd; cases hd; exact i_NoneType_NoLine
   | _=>cases hd
  i_ValueError:=by
   intro d b hd
   cases d with
   | excf c _ _ =>
    simp only [is_ValueError] at hd
    split at hd
    ·rename_i e; subst e; cases hd; intro C hC; cases n_NoMeet.symm.trans hC; exact ⟨⟨e0_NoMeet,e1_NoMeet,e2_NoMeet,e3_NoMeet,e4,e5,e6_NoMeet,e7_NoMeet⟩,i_NoMeet_ValueError⟩
    ·cases hd
   | non=>simp only [is_ValueError] at hd; cases hd; exact i_NoneType_ValueError
   | _=>cases hd
 }
 refine ⟨PySem.W.fnOf "law" "law" (defArgs bK') (defBody bK') (defScope bK') .none kV_law dc_law pm_law an_law cd_law ct_law,fun s v=>.of_eq rfl,fun base _ _=>?_⟩;have G_NoMeet:=fN' (P:=l.prog) (w:=w) (base:=base) T xk_NoMeet;have G_qH:=ok_qH (P:=l.prog) (w:=w) (base:=base) T (ent2 X G l_qH);have G_qI:=ok_qI (P:=l.prog) (w:=w) (base:=base) T (ent2 X G l_qI);have G_qh:=ok_qh (P:=l.prog) (w:=w) (base:=base) T (ent1 X G l_qh);have G_qo:=ok_qo (P:=l.prog) (w:=w) (base:=base) T (ent1 X G l_qo);have G_qi:=ok_qi (P:=l.prog) (w:=w) (base:=base) T (ent1 X G l_qi);have G_qt:=ok_qt (P:=l.prog) (w:=w) (base:=base) T (ent2 X G l_qt);have G_qf:=ok_qf (P:=l.prog) (w:=w) (base:=base) T (ent1 X G l_qf);have G_qA:=ok_qA (P:=l.prog) (w:=w) (base:=base) T (ent2 X G l_qA);have G_qu:=ok_qu (P:=l.prog) (w:=w) (base:=base) T (ent1 X G l_qu);have G_qv:=ok_qv (P:=l.prog) (w:=w) (base:=base) T (ent3 X G l_qv);have G_qw:=ok_qw (P:=l.prog) (w:=w) (base:=base) T (ent2 X G l_qw);have G_qp:=ok_qp (P:=l.prog) (w:=w) (base:=base) T (ent2 X G l_qp);have G_qq:=ok_qq (P:=l.prog) (w:=w) (base:=base) T (ent2 X G l_qq);have G_qM:=ok_qM T (ent2 X G l_qM) G_qH;have G_qE:=ok_qE T (ent1 X G l_qE) G_qf;have G_qx:=ok_qx T (ent1 X G l_qx) G_qh;have G_qJ:=ok_qJ T (ent1 X G l_qJ) G_qo G_qf G_qi;have G_qr:=ok_qr T (ent2 X G l_qr) G_qv G_qA;have G_qg:=ok_qg T (ent2 X G l_qg) G_qv;have G_qF:=ok_qF T (ent2 X G l_qF) G_qw G_qp;have G_qc:=ok_qc T (ent2 X G l_qc) G_qq G_qu;have G_qy:=ok_qy T (ent2 X G l_qy) G_qq;have G_qN:=ok_qN T (ent2 X G l_qN) G_qM;have G_qB:=ok_qB T (ent2 X G l_qB) G_qF G_qp;have G_qj:=ok_qj T (ent2 X G l_qj) G_qy G_qv;have G_qa:=ok_qa T (ent3 X G l_qa) G_qc;have G_qK:=ok_qK T (ent2 X G l_qK) G_qN G_qE;have G_qC:=ok_qC T (ent3 X G l_qC) G_qy G_qj G_qp G_qA G_qr;have G_qs:=ok_qs T (ent3 X G l_qs) G_qo G_qi G_qt;have G_qb:=ok_qb T (ent3 X G l_qb) G_qw;have G_qL:=ok_qL T (ent3 X G l_qL) G_qM G_qs;have G_qz:=ok_qz T (ent2 X G l_qz) G_qo G_qi G_qs G_qt G_qf;have G_qk:=ok_qk T (ent3 X G l_qk) G_qb;have G_qO:=ok_qO T (ent2 X G l_qO) G_qM G_qz;have G_qG:=ok_qG T (ent5 X G l_qG) G_qK G_qL;have G_qd:=ok_qd T (ent3 X G l_qd) G_qF G_qB G_qk;have G_ql:=ok_ql T (ent3 X G l_ql) G_qB G_qk;have G_qm:=ok_qm T (ent2 X G l_qm) G_qb G_qp G_qw;have G_qD:=ok_qD T (ent2 X G l_qD) G_qL G_qM G_qO G_qJ G_qI;have G_qP:=ok_qP T (ent3 X G l_qP) G_qx G_qL G_qD;have G_qe:=ok_qe T (ent3 X G l_qe) G_qG G_qx G_qP G_NoMeet;have G_qn:=ok_qn T (ent3 X G l_qn) G_qe G_qy G_qp;exact kQ' T F_law G_qv G_qg G_qC G_qj G_qe G_qA G_qr G_qm G_qk G_qy G_qn G_qa G_ql G_qd
theorem walk {l:PySem.W.OpenLaw} {q:Program} {loose:List Str} {XP:(Str->Option Value)->Heap->Prop} {YP:World->Heap->Prop} {d:DefRec} {K:Params->PySem.W.Frag} (hn:l.most=some 63) (hdf:d.params.defaults=[])
  (hY:∀(w:World) (h:Heap),YP w h->(K w.params).In h)
  (F:∀(w:World) (mg:Str->Option Value) (fa:Addr) (h:Heap),(K w.params).In h->h.Ns mainGlobals mg->mg d.name=some (.ref fa) ->
   ∃fd:FuncData,(∀(s:Shared) (u:Value),BindsTo s fd ⟨[u],[]⟩ [("_law_script",u)])/\∀base:Heap,(K w.params).In base->base.Ns mainGlobals mg->FnOk l.prog w (K w.params) mg base (CX1 l.prog w) 15 fa fd ["_law_script"] (spD (K w.params) F_law)) :
  PySem.W.WalkO q loose XP YP l.row.toRowW d [] (fun f vs=>PySem.call f vs) :=
 L2.walk_of (n:=63) (k:=15) (x:="_law_script") (CX:=fun w=>CX1 l.prog w) (sp:=fun w=>spD (K w.params) F_law) hn (by decide) hdf ⟨rfl,by decide,by decide⟩ hY F
  (fun w H a ns hl _ hS=>⟨[.lst (ns.map .int)],.cons (mkL hS (ej' ns)) .nil,by rw [lt' ns hl]; exact fun v H' _ r=>by rw [Rep] at r; exact r⟩)
  fun _ _ _ _ _ z=>by obtain ⟨_,_,_,_,_,_,_,_,_,_,z⟩:=z; exact z
end K23
open PySem PySem.W PyProof.Rows
def PySem.W.Fast.tw1855059714821940075:Unit:=()
def PySem.W.Fast.tw10962712214411003623:Unit:=()
def PySem.W.Fast.tw9154418422160211203:Unit:=()
def PySem.W.Fast.tw9706797933904461144:Unit:=()
def PySem.W.Fast.tw141011850784210667:Unit:=()
def PySem.W.Fast.tw10062347052121010271:Unit:=()
def PySem.W.Fast.tw9646307207303568023:Unit:=()
def PySem.W.Fast.tw16884577130044926480:Unit:=()
def PySem.W.Fast.tw8209250282142314874:Unit:=()
def PySem.W.Fast.tw17772301532742038940:Unit:=()
def PySem.W.Fast.tw13925943548633167833:Unit:=()
def PySem.W.Fast.tw4353396426281969049:Unit:=()
def PySem.W.Fast.tw14933632998506885434:Unit:=()
def PySem.W.Fast.tw8939428550202836719:Unit:=()
def PySem.W.Fast.tw17731108012745147562:Unit:=()
def PySem.W.Fast.tw559008673091191075:Unit:=()
def PySem.W.Fast.tw4587371961387468008:Unit:=()
def PySem.W.Fast.tw5137685942403263812:Unit:=()
def PySem.W.Fast.tw279864426522812674:Unit:=()
def PySem.W.Fast.tw14780496233865939466:Unit:=()
def PySem.W.Fast.tw7042100144082960827:Unit:=()
def PySem.W.Fast.tw18181757738301571613:Unit:=()
def PySem.W.Fast.tw15085083959843985719:Unit:=()
def PySem.W.Fast.tw17400063669980749366:Unit:=()
def PySem.W.Fast.tw8560736861732685903:Unit:=()
def PySem.W.Fast.tw2300102452834175762:Unit:=()
def PySem.W.Fast.tw4638788090931272546:Unit:=()
def PySem.W.Fast.tw13488353461787608965:Unit:=()
def PySem.W.Fast.tw9609898925672804954:Unit:=()
def PySem.W.Fast.tw169375678438205118:Unit:=()
def PySem.W.Fast.tw10504189172011985437:Unit:=()
def PySem.W.Fast.tw5995468885940916732:Unit:=()
def PySem.W.Fast.tw10608023516097899840:Unit:=()
def PySem.W.Fast.tw5924742011701933429:Unit:=()
def PySem.W.Fast.tw14163875194274213814:Unit:=()
def PySem.W.Fast.tw2168810508719634623:Unit:=()
def PySem.W.Fast.tw169066402535587393:Unit:=()
def PySem.W.Fast.tw7888687750852300476:Unit:=()
def PySem.W.Fast.tw2262104786458073207:Unit:=()
def PySem.W.Fast.tw3562348459681492794:Unit:=()
def PySem.W.Fast.tw16302352147405258055:Unit:=()
def PySem.W.Fast.tw1829998191063140296:Unit:=()
def PySem.W.Fast.tw14353798869244882869:Unit:=()
def PySem.W.Fast.tw10198289312707861154:Unit:=()
def PySem.W.Fast.tw7098127472668639041:Unit:=()
def PySem.W.Fast.tw2433058792111774377:Unit:=()
def PySem.W.Fast.tw6698256275053533079:Unit:=()
def PySem.W.Fast.tw5904605753237360769:Unit:=()
def PySem.W.Fast.tw1008726994098845118:Unit:=()
def PySem.W.Fast.tw16618055564221566231:Unit:=()
set_option maxRecDepth 100000 in
set_option maxHeartbeats 0 in
theorem PySem.Challenge.cw_compasshall_k23_lines_meet_holds : PySem.Challenge.rw_compasshall_k23_lines_meet.Holds := by
  w_on; o_law; k_head; (case hw => w_witness2)
  k_fill
  refine K23.walk (l := PySem.Challenge.rw_compasshall_k23_lines_meet) rfl rfl (fun w h Y => PySem.W.kIn_of Y) ?F
  case F =>
    intro w mg fa h KX G hmg
    refine' K23.all_mk KX G hmg ?q0 ?q1 ?q2 ?q3 ?q4 ?q5 ?q6 ?q7 ?q8 ?q9 ?q10 ?q11 ?q12 ?q13 ?q14 ?q15 ?q16 ?q17 ?q18 ?q19 ?q20 ?q21 ?q22 ?q23 ?q24 ?q25 ?q26 ?q27 ?q28 ?q29 ?q30 ?q31 ?q32 ?q33 ?q34 ?q35 ?q36 ?q37 ?q38 ?q39 ?q40 ?q41 ?q42 ?q43 ?q44 ?q45 ?q46 ?q47 ?q48 ?q49 ?q50 ?q51 ?q52 ?q53 ?q54 ?q55 ?q56 ?q57 ?q58 ?q59 ?q60 ?q61 ?q62 ?q63 ?q64 ?q65 ?q66 ?q67 ?q68 ?q69 ?q70 ?q71 ?q72 ?q73 ?q74 ?q75 ?q76 ?q77 ?q78 ?q79 ?q80 ?q81 ?q82 ?q83 ?q84 ?q85 ?q86 ?q87 ?q88 ?q89 ?q90 ?q91 ?q92 ?q93 ?q94 ?q95 ?q96 ?q97 ?q98
    case q0 | q1 => k_is
    case q2 => k_exc
    case q3 | q4 => k_is
    case q5 => (refine' DL.xk_mk ?a ?b ?c ?d ?e ?f ?g ?h ?i ?j ?k ?l; (case a => k_is); (case b => k_is); (case c => k_is); (case d => k_is); (case e => k_is); (case f => k_exc); (case g => k_is); (case h => k_is); (case i => k_is); (case j => k_is); (case k => k_is); (case l => k_is))
    case q6 => k_is
    case q7 | q8 | q9 | q10 | q11 | q12 | q13 | q14 | q15 | q16 | q17 | q18 | q19 | q20 | q21 | q22 | q23 | q24 | q25 | q26 | q27 | q28 | q29 | q30 | q31 | q32 | q33 | q34 | q35 | q36 | q37 | q38 | q39 | q40 | q41 | q42 | q43 | q44 | q45 | q46 | q47 | q48 => (refine' DL.lk_mk ?a ?b ?c ?d; (case a => k_is); (case b => k_is); (case c => k_is); (case d => k_is))
    case q49 | q50 | q51 | q52 | q53 | q54 | q55 | q56 | q57 | q58 | q59 | q60 | q61 | q62 | q63 | q64 | q65 | q66 | q67 | q68 | q69 | q70 => k_is
    case q71 => kts_exm
    case q72 | q73 | q74 | q75 | q76 | q77 | q78 | q79 | q80 | q81 | q82 | q83 | q84 | q85 | q86 | q87 | q88 | q89 | q90 | q91 | q92 | q93 | q94 | q95 | q96 | q97 | q98 => kit_is
