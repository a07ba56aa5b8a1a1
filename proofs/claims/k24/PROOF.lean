import PyProof.Rows.All
import Wide.All
import OpenK.AllK
import Wide.FinOn
import Lean
import PyProof.EqAt
import PyProof.EqKinds
import PyProof.TupleCall
import PySem.Challenge.RW_compasshall_k24_lines_meet_rings
noncomputable section
open PySem.W List
set_option Elab.async false
set_option linter.all false
set_option maxRecDepth 100000
namespace L2
open PySem PySem.Spec PyProof.Rows
abbrev Key:=Sum Int Str
noncomputable def vZ:Key->Value->Bool
 | .inl k,v=>Value.isInt k v
 | .inr x,v=>Value.isStrOf x v
noncomputable def Gb (w:World):Key->Int
 | .inl k=>hashInt k
 | .inr x=>hashStr w x
theorem vo:∀{k:Key} {v:Value},vZ k v=true->(∃i t,k=Sum.inl i/\v=Value.int i t)\/(∃x t,k=Sum.inr x/\v=Value.str x t)
 | .inl i,v,h=>by
  obtain ⟨t,e⟩:=Value.isInt_shape (k:=i) (v:=v) h;exact .inl ⟨i,t,rfl,e⟩
 | .inr x,v,h=>by
  obtain ⟨t,e⟩:=Value.isStrOf_shape (x:=x) (v:=v) h;exact .inr ⟨x,t,rfl,e⟩
theorem Od (a b:Int):decide ((Sum.inl a:Key)=Sum.inl b)=(a == b):=by
 by_cases e:a=b
 ·subst e; simp
 ·have h:¬(Sum.inl a:Key)=Sum.inl b:=fun q=>e (Sum.inl.inj q);rw [decide_eq_false h];exact (beq_eq_false_iff_ne.mpr e).symm
theorem mN' (a b:Str):decide ((Sum.inr a:Key)=Sum.inr b)=decide (a=b):=by
 by_cases e:a=b
 ·subst e; simp
 ·have h:¬(Sum.inr a:Key)=Sum.inr b:=fun q=>e (Sum.inr.inj q);rw [decide_eq_false h,decide_eq_false e]
theorem Oe (a:Int) (b:Str):decide ((Sum.inl a:Key)=Sum.inr b)=false:=decide_eq_false (fun q=>nomatch q)
theorem Og (a:Str) (b:Int):decide ((Sum.inr a:Key)=Sum.inl b)=false:=decide_eq_false (fun q=>nomatch q)
noncomputable def jV (prog:Program) (w:World):PySem.KeyKind prog w Key where
 is:=vZ
 hash:=Gb w
 inj:=fun v a b ha hb=>by
  rcases vo ha with ⟨i,t,rfl,rfl⟩ | ⟨x,t,rfl,rfl⟩
  ·rcases vo hb with ⟨j,u,rfl,e⟩ | ⟨y,u,rfl,e⟩
   ·injection e with e1 _; rw [e1]
   ·exact nomatch e
  ·rcases vo hb with ⟨j,u,rfl,e⟩ | ⟨y,u,rfl,e⟩
   ·exact nomatch e
   ·injection e with e1 _; rw [e1]
 byValue:=fun k v h=>by
  rcases vo h with ⟨i,t,rfl,rfl⟩ | ⟨x,t,rfl,rfl⟩ <;> rfl
 pyHash:=fun hv h=>by
  rcases vo hv with ⟨i,t,rfl,rfl⟩ | ⟨x,t,rfl,rfl⟩
  ·exact wpAny_pyHash_int h
  ·exact wpAny_pyHash_str h
 eqBool:=fun hu hv h=>by
  rcases vo hu with ⟨i,t,rfl,rfl⟩ | ⟨x,t,rfl,rfl⟩
  ·rcases vo hv with ⟨j,u,rfl,rfl⟩ | ⟨y,u,rfl,rfl⟩
   ·rw [Od] at h; exact wpAny_eqBool_int h
   ·rw [Oe] at h; exact SeqAt.EqAt.int_str i t y u _ _ _ _ h
  ·rcases vo hv with ⟨j,u,rfl,rfl⟩ | ⟨y,u,rfl,rfl⟩
   ·rw [Og] at h; exact SeqAt.EqAt.str_int x t j u _ _ _ _ h
   ·rw [mN'] at h; exact wpAny_eqBool_str h
 «strs»:=fun k x t v h=>by
  rcases vo h with ⟨i,u,rfl,e⟩ | ⟨y,u,rfl,e⟩
  ·exact nomatch e
  ·injection e with e1 _
   subst e1
   cases v <;> rfl
inductive V where
 | non | bl (b:Bool) | int (i:Int) | str (x:Str) | byt (b:Array UInt8) | flt (b:UInt64) | ref (a:Addr) | ty (n:String)
 deriving DecidableEq
noncomputable def RelV:V->Value->Prop
 | .non,u=>u=Value.none
 | .bl b,u=>u=Value.bool b
 | .int i,u=>∃t,u=Value.int i t
 | .str x,u=>∃t,u=Value.str x t
 | .byt b,u=>∃t,u=Value.bytes b t
 | .flt b,u=>∃t,u=Value.float b t
 | .ref a,u=>u=Value.ref a
 | .ty n,u=>u=Value.type n
abbrev Vals:List V->List Value->Prop:=Paired RelV
theorem Vals.length {xs:List V} {us:List Value} (r:Vals xs us):xs.length=us.length:=Paired.length r
theorem Vals.get:∀{xs:List V} {us:List Value} {i:Nat} {x:V},Vals xs us->xs[i]? = some x->∃u,us[i]? = some u/\RelV x u
 | _,_,_,_,.nil,e=>by simp at e
 | _,_,0,_,.cons r _,e=>by simp at e; subst e; exact ⟨_,rfl,r⟩
 | _,_,i + 1,x,.cons _ t,e=>by
  obtain ⟨u,h1,h2⟩:=Vals.get (i:=i) (x:=x) t (by simpa using e);exact ⟨u,by simpa using h1,h2⟩
theorem Vals.set {x:V} {u:Value} (r:RelV x u):∀{xs:List V} {us:List Value} (i:Nat),Vals xs us->Vals (xs.set i x) (us.set i u)
 | _,_,_,.nil=>.nil
 | _,_,0,.cons _ t=>.cons r t
 | _,_,i + 1,.cons q t=>.cons q (Vals.set r i t)
theorem Vals.append:∀{xs ys:List V} {us ws:List Value},Vals xs us->Vals ys ws->Vals (xs ++ ys) (us ++ ws)
 | _,_,_,_,.nil,s=>s
 | _,_,_,_,.cons r t,s=>.cons r (Vals.append t s)
theorem Vals.take:∀{xs:List V} {us:List Value} (n:Nat),Vals xs us->Vals (xs.take n) (us.take n)
 | _,_,0,_=>.nil
 | _,_,_ + 1,.nil=>.nil
 | _,_,n + 1,.cons r t=>.cons r (Vals.take n t)
theorem Vals.drop:∀{xs:List V} {us:List Value} (n:Nat),Vals xs us->Vals (xs.drop n) (us.drop n)
 | _,_,0,r=>r
 | _,_,_ + 1,.nil=>.nil
 | _,_,n + 1,.cons _ t=>Vals.drop n t
noncomputable def wY:Option V->Option Value->Prop
 | some v,some u=>RelV v u
 | none,none=>True
 | _,_=>False
noncomputable def KV {κ:Type}:List (κ×V)->List (κ×Value)->Prop:=Paired fun (p:κ×V) (q:κ×Value)=>p.1=q.1/\RelV p.2 q.2
noncomputable def kV:Key->V
 | .inl i=>.int i
 | .inr x=>.str x
inductive HO where
 | lst (xs:List V)
 | tup (xs:List V)
 | dK (kvs:List (Key×V)) | dT (kvs:List (List Key×V))
 | set (S:Int->Bool) (n:Nat)
 | ins (C dx:Addr) (fs:List (Str×V))
 | own (x:Addr)
 | xd (fs:List (Str×V))
 | met (f x:Addr)
 | rng (lo hi:Int)
 | frz (o:Obj) (u:HO)
 | tbl (ps:Array Value)
 | ext (φ:Heap->Prop)
abbrev Hp:=Addr->Option HO
noncomputable def upd (H:Hp) (a:Addr) (o:HO):Hp:=fun b=>if b=a then some o else H b
theorem gW {H:Hp} {a:Addr} {o:HO}:upd H a o a=some o:=by unfold upd; rw [if_pos rfl]
theorem as' {H:Hp} {a b:Addr} {o:HO} (h:b≠a):upd H a o b=H b:=by unfold upd; rw [if_neg h]
theorem qG {H:Hp} {a b:Addr} {o:HO} (h:H a=some o) (h':H b=none):a≠b:=by
 intro e; subst e; rw [h] at h'; cases h'
section
variable (P:Program) (w:World)
noncomputable def ObjOk (H:Hp) (h:Heap) (a:Addr):HO->Prop
 | .lst xs=>xs.length<=sizeLine/\∃(its:List Value) (n:Nat),Vals xs its/\h.get? a=some { cls:=.type "list",data:=.seq its.toArray n }
 | .tup xs=>xs.length<=sizeLine/\∃its:List Value,Vals xs its/\IsTup h a its.toArray
 | .dK kvs=>kvs.length<=sizeLine/\(a == sysModules)=false/\∃vs,KV kvs vs/\h.DictOf (jV P w) a vs
 | .dT kvs=>kvs.length<=sizeLine/\(a == sysModules)=false/\∃xs:List (List Key×Addr×Value),
   Paired (fun (p:List Key×V) (q:List Key×Addr×Value)=>p.1=q.1/\H q.2.1=some (.tup (p.1.map kV))/\RelV p.2 q.2.2) kvs xs /\
   ∃o es ep,h.get? a=some o/\o.ExactDict/\o.data=.dict es ep/\es.toList=xs.map (entryOfKey (tupleKind (jV P w)))/\(xs.map (·.1)).Nodup
 | .set S n=>h.SetOf (intKind P w) a S n
 | .ins C dx fs=>H dx=some (.own a)/\fs.length<=1000/\dx≠a/\h.get? a=some (instObj C dx) /\
   ∃mA,h.Ns1 dx mA/\(∀f,wY (fs.lookup f) (mA f))/\PySem.Within mA (fs.map (·.1))
 | .own _=>∃o,h.get? a=some o
 | .xd fs=>∃mA,h.Ns1 a mA/\∀f,wY (fs.lookup f) (mA f)
 | .rng lo hi=>∃t u v,h.get? a=some { cls:=.type "range",data:=.fields #[.int lo t,.int hi u,.int 1 v] }
 | .frz o u=>h.get? a=some o/\ObjOk H h a u
 | .tbl ps=>h.get? a=some { cls:=.none,data:=.fields ps }
 | .met f x=>h.get? a=some (methodObj (.ref f) (.ref x))
 | .ext φ=>φ h/\(∃o,h.get? a=some o)/\∀h1 h2:Heap,φ h1->(∀o,h1.get? a=some o->h2.get? a=some o)->φ h2
noncomputable def HOk (H:Hp) (h:Heap):Prop:=∀a o,H a=some o->ObjOk P w H h a o
end
section
variable {P:Program} {w:World} {H H':Hp} {h h':Heap} {a:Addr} {o:HO}
theorem ObjOk.lt (x:ObjOk P w H h a o):a < h.objs.size:=by
 cases o with
 | lst xs=>obtain ⟨_,_,_,_,e⟩:=x; exact Heap.lt_size e
 | tup xs=>obtain ⟨_,_,_,p⟩:=x; exact p.lt
 | dK kvs=>obtain ⟨_,_,_,_,o,_,_,e,_⟩:=x; exact Heap.lt_size e
 | dT kvs=>obtain ⟨_,_,_,_,o,_,_,e,_⟩:=x; exact Heap.lt_size e
 | set S n=>obtain ⟨o,_,_,_,e,_⟩:=x; exact Heap.lt_size e
 | ins C dx fs=>obtain ⟨_,_,_,e,_⟩:=x; exact Heap.lt_size e
 | own y=>obtain ⟨_,e⟩:=x; exact Heap.lt_size e
 | xd fs=>obtain ⟨_,⟨_,_,_,e,_⟩,_⟩:=x; exact Heap.lt_size e
 | rng lo hi=>obtain ⟨_,_,_,e⟩:=x; exact Heap.lt_size e
 | frz ob u=>obtain ⟨e,_⟩:=x; exact Heap.lt_size e
 | tbl ps=>exact Heap.lt_size (show h.get? a=some _ from x)
 | met f y=>exact Heap.lt_size (show h.get? a=some _ from x)
 | ext φ=>obtain ⟨_,⟨_,e⟩,_⟩:=x; exact Heap.lt_size e
theorem Paired.mapP {α β:Type} {F G:α->β->Prop}:∀{l₁:List α} {l₂:List β},Paired F l₁ l₂->(∀a b,F a b->G a b)->Paired G l₁ l₂
 | _,_,.nil,_=>.nil
 | _,_,.cons r t,f=>.cons (f _ _ r) (Paired.mapP t f)
theorem ObjOk.stay (x:ObjOk P w H h a o) (k:∀b u,(b=a\/H b=some (.own a))->h.get? b=some u->h'.get? b=some u)
  (ho:∀b,H b=some (.own a)->H' b=some (.own a)) (ht:∀b xs,H b=some (.tup xs)->H' b=some (.tup xs)):ObjOk P w H' h' a o:=by
 induction o with
 | lst xs=>obtain ⟨z,its,n,r,e⟩:=x; exact ⟨z,its,n,r,k _ _ (.inl rfl) e⟩
 | tup xs=>obtain ⟨z,its,r,ob,e,c⟩:=x; exact ⟨z,its,r,ob,k _ _ (.inl rfl) e,c⟩
 | dK kvs=>obtain ⟨z,y,vs,r,ob,es,ep,e,c⟩:=x; exact ⟨z,y,vs,r,ob,es,ep,k _ _ (.inl rfl) e,c⟩
 | dT kvs =>
  obtain ⟨z,y,xs,r,ob,es,ep,e,c⟩:=x;exact ⟨z,y,xs,Paired.mapP r fun p q z=>⟨z.1,ht _ _ z.2.1,z.2.2⟩,ob,es,ep,k _ _ (.inl rfl) e,c⟩
 | set S n=>obtain ⟨ob,es,ep,t,e,c⟩:=x; exact ⟨ob,es,ep,t,k _ _ (.inl rfl) e,c⟩
 | ins C dx fs =>
  obtain ⟨d,z,ne,e,mA,⟨od,es,ep,e2,c⟩,r⟩:=x;exact ⟨ho _ d,z,ne,k _ _ (.inl rfl) e,mA,⟨od,es,ep,k _ _ (.inr d) e2,c⟩,r⟩
 | own y=>obtain ⟨ob,e⟩:=x; exact ⟨ob,k _ _ (.inl rfl) e⟩
 | xd fs=>obtain ⟨mA,⟨od,es,ep,e,c⟩,r⟩:=x; exact ⟨mA,⟨od,es,ep,k _ _ (.inl rfl) e,c⟩,r⟩
 | rng lo hi=>obtain ⟨t,u,v,e⟩:=x; exact ⟨t,u,v,k _ _ (.inl rfl) e⟩
 | frz ob u ih=>obtain ⟨e,q⟩:=x; exact ⟨k _ _ (.inl rfl) e,ih q⟩
 | tbl ps =>
  have e:h.get? a=some { cls:=.none,data:=.fields ps }:=x;show h'.get? a=some { cls:=.none,data:=.fields ps };exact k a _ (.inl rfl) e
 | met f y =>
  have e:h.get? a=some (methodObj (.ref f) (.ref y)):=x;show h'.get? a=some (methodObj (.ref f) (.ref y));exact k a _ (.inl rfl) e
 | ext φ=>obtain ⟨p,⟨o,e⟩,st⟩:=x; exact ⟨st _ _ p fun o q=>k _ _ (.inl rfl) q,⟨o,k _ _ (.inl rfl) e⟩,st⟩
theorem HOk.lt (x:HOk P w H h) (e:H a=some o):a < h.objs.size:=(x a o e).lt
theorem HOk.fresh (x:HOk P w H h) (e:h.objs.size<=a):H a=none:=by
 cases q:H a with
 | none=>rfl
 | some u=>exact absurd (Nat.lt_of_lt_of_le (x.lt q) e) (Nat.lt_irrefl _)
theorem HOk.kept (x:HOk P w H h) (k:∀b u,h.get? b=some u->h'.get? b=some u):HOk P w H h':=fun a o e =>
 (x a o e).stay (fun b u _ q=>k b u q) (fun _ q=>q) fun _ _ q=>q
theorem HOk.laid (x:HOk P w H h) (k:∀b u,h.get? b=some u->h'.get? b=some u) (hp:h.objs.size<=a) (new:ObjOk P w (upd H a o) h' a o):HOk P w (upd H a o) h':=fun b u e=>by
 have hn:=x.fresh hp
 by_cases hb:b=a
 ·subst hb; rw [gW] at e; cases e; exact new
 ·rw [as' hb] at e;exact (x b u e).stay (fun c v _ q=>k c v q) (fun c q=>by rw [as' (qG q hn)]; exact q) fun c xs q=>by rw [as' (qG q hn)]; exact q
end
noncomputable def Rd (H:Hp) (a:Addr) (u:HO):Prop:=H a=some u\/∃o,H a=some (.frz o u)
theorem Rd.of {H:Hp} {a:Addr} {u:HO} (h:H a=some u):Rd H a u:=.inl h
theorem Rd.ok {P:Program} {w:World} {H:Hp} {h:Heap} {a:Addr} {u:HO} (r:Rd H a u) (x:HOk P w H h):ObjOk P w H h a u:=by
 rcases r with r | ⟨o,r⟩
 ·exact x a u r
 ·obtain ⟨_,q⟩:=x a _ r;exact q
noncomputable def DY:Option HO->Prop
 | some (.lst _)=>True
 | some (.dK _)=>True
 | some (.dT _)=>True
 | some (.set _ _)=>True
 | some (.ins _ _ _)=>True
 | some (.ext _)=>True
 | _=>False
section
variable {P:Program} {w:World} {H:Hp} {h h':Heap} {x e:Addr} {o':HO}
theorem HOk.write (ok:HOk P w H h) (mu:DY (H x)) (he:e=x\/H e=some (.own x)) (k:∀b u,b≠e->h.get? b=some u->h'.get? b=some u) (heo:∃u,h'.get? e=some u)
  (new:ObjOk P w (upd H x o') h' x o'):HOk P w (upd H x o') h':=fun b u q=>by
 have nown:∀c y,H c=some (.own y)->c≠x:=fun c y r z=>by subst z; rw [r] at mu; exact mu
 have ntup:∀c xs,H c=some (.tup xs)->c≠x:=fun c xs r z=>by subst z; rw [r] at mu; exact mu
 by_cases hb:b=x
 ·subst hb; rw [gW] at q; cases q; exact new
 ·rw [as' hb] at q
  by_cases hbe:b=e
  ·have q':H b=some (.own x):=by
    rcases he with z | z
    ·exact absurd (hbe.trans z) hb
    ·rw [hbe]; exact z
   rw [q] at q'; cases q';obtain ⟨v,hv⟩:=heo;exact ⟨v,by rw [hbe]; exact hv⟩
  ·refine (ok b u q).stay (fun c v hc r=>k c v ?_ r) (fun c r=>by rw [as' (nown c b r)]; exact r) fun c xs r=>by rw [as' (ntup c xs r)]; exact r
   rcases hc with rfl | hc
   ·exact hbe
   ·rintro rfl
    rcases he with z | z
    ·exact nown c b hc z
    ·rw [hc] at z; cases z; exact hb rfl
end
structure Un (fs ex:List Addr) (H H':Hp) (h h':Heap):Prop where
 keep:∀b o,h.get? b=some o->H b=none->b∉fs->b∉ex->h'.get? b=some o
 slot:∀b o,h.get? b=some o->H b=none->b∈fs->b∉ex->∃sl,h'.get? b=some { o with slots:=sl }
 free:∀b o,h.get? b=some o->H b=none->b∉ex->H' b=none
 there:∀b o,h.get? b=some o->b∉ex->∃o',h'.get? b=some o'
 tups:∀b xs,H b=some (.tup xs)->H' b=some (.tup xs)
 frzs:∀b o u,H b=some (.frz o u)->H' b=some (.frz o u)
 tbls:∀b ps,H b=some (.tbl ps)->∃more,H' b=some (.tbl (ps ++ more))
section
variable {fs fs' ex ex':List Addr} {H H1 H2:Hp} {h h1 h2 h':Heap} {a x e:Addr} {o:HO}
theorem Un.any (u:Un fs ex H H1 h h1) {b:Addr} {ob:Obj} (q:h.get? b=some ob) (n:H b=none) (hx:b∉ex):∃sl,h1.get? b=some { ob with slots:=sl }:=by
 by_cases hb:b∈fs
 ·exact u.slot b ob q n hb hx
 ·exact ⟨ob.slots,u.keep b ob q n hb hx⟩
theorem Un.trans (a:Un fs ex H H1 h h1) (b:Un fs ex H1 H2 h1 h2):Un fs ex H H2 h h2 where
 keep:=fun c ob q n hc hx=>b.keep c ob (a.keep c ob q n hc hx) (a.free c ob q n hx) hc hx
 slot:=fun c ob q n hc hx=>by
  obtain ⟨sl,e1⟩:=a.slot c ob q n hc hx;obtain ⟨sl',e2⟩:=b.slot c _ e1 (a.free c ob q n hx) hc hx;exact ⟨sl',e2⟩
 free:=fun c ob q n hx=>by
  obtain ⟨o',e1⟩:=a.there c ob q hx;exact b.free c o' e1 (a.free c ob q n hx) hx
 there:=fun c ob q hx=>by
  obtain ⟨o',e1⟩:=a.there c ob q hx;exact b.there c o' e1 hx
 tups:=fun c xs q=>b.tups c xs (a.tups c xs q)
 frzs:=fun c ob xs q=>b.frzs c ob xs (a.frzs c ob xs q)
 tbls:=fun c ps q=>by
  obtain ⟨m1,e1⟩:=a.tbls c ps q;obtain ⟨m2,e2⟩:=b.tbls c _ e1;exact ⟨m1 ++ m2,by rw [e2,Array.append_assoc]⟩
theorem Un.kept (k:∀b u,h.get? b=some u->h'.get? b=some u):Un fs ex H H h h' :=
 ⟨fun b ob q _ _ _=>k b ob q,fun b ob q _ _ _=>⟨ob.slots,k b ob q⟩,fun _ _ _ n _=>n,fun b ob q _=>⟨ob,k b ob q⟩,fun _ _ q=>q,fun _ _ _ q=>q,fun _ ps q=>⟨#[],by rw [q]; simp⟩⟩
theorem Un.refl:Un fs ex H H h h:=Un.kept fun _ _ q=>q
theorem Un.laid (k:∀b u,h.get? b=some u->h'.get? b=some u) (hp:h.objs.size<=a) (hn:H a=none):Un fs ex H (upd H a o) h h' where
 keep:=fun b u q _ _ _=>k b u q
 slot:=fun b u q _ _ _=>⟨u.slots,k b u q⟩
 free:=fun b u q n _=>by rw [as' (Nat.ne_of_lt (Nat.lt_of_lt_of_le (Heap.lt_size q) hp))]; exact n
 there:=fun b u q _=>⟨u,k b u q⟩
 tups:=fun b xs q=>by rw [as' (qG q hn)]; exact q
 frzs:=fun b u xs q=>by rw [as' (qG q hn)]; exact q
 tbls:=fun b ps q=>⟨#[],by rw [as' (qG q hn),q]; simp⟩
theorem Un.write (mu:DY (H x)) (he:e=x\/H e=some (.own x)) (k:∀b u,b≠e->h.get? b=some u->h'.get? b=some u) (heo:∃u,h'.get? e=some u):Un fs ex H (upd H x o) h h':=by
 have hx:∀b,H b=none->b≠x:=fun b n z=>by subst z; rw [n] at mu; exact mu
 have hb:∀b,H b=none->b≠e:=fun b n z=>by
  subst z;rcases he with r | r
  ·exact hx b n r
  ·rw [n] at r; cases r
 have hm:∀b u,H b=some u->¬DY (some u)->b≠x:=fun b u q nm z=>by subst z; rw [q] at mu; exact nm mu
 refine ⟨fun b u q n _ _=>k b u (hb b n) q,fun b u q n _ _=>⟨u.slots,k b u (hb b n) q⟩,fun b u q n _=>by rw [as' (hx b n)]; exact n,fun b u q _=>?_,
  fun b xs q=>by rw [as' (hm b _ q fun z=>z)]; exact q,fun b u xs q=>by rw [as' (hm b _ q fun z=>z)]; exact q,fun b ps q=>⟨#[],by rw [as' (hm b _ q fun z=>z),q]; simp⟩⟩
 by_cases hbe:b=e
 ·subst hbe; exact heo
 ·exact ⟨u,k b u hbe q⟩
theorem Un.mono (u:Un fs ex H H1 h h1) (hs:∀b∈fs,b∈fs') (hx:∀b∈ex,b∈ex'):Un fs' ex' H H1 h h1 :=
 ⟨fun b ob q n hb he=>u.keep b ob q n (fun z=>hb (hs b z)) fun z=>he (hx b z),fun _ _ q n _ he=>u.any q n fun z=>he (hx _ z),fun b ob q n he=>u.free b ob q n fun z=>he (hx b z),fun b ob q he=>u.there b ob q fun z=>he (hx b z),u.tups,u.frzs,u.tbls⟩
end
noncomputable def trk (h:Heap) (H:Hp):List Addr:=(List.range h.objs.size).filter fun a=>(H a).isSome
noncomputable def jW (h:Heap) (H:Hp):Heap:=hideAll h (trk h H)
theorem hY' (h:Heap) (H:Hp):(jW h H).objs.size=h.objs.size:=hideAll_size _ _
theorem Oh {h:Heap} {H:Hp} {b:Addr} {o:Obj} (e:h.get? b=some o) (n:H b=none):(jW h H).get? b=some o :=
 hideAll_get _ e fun hm=>by
  have q:(H b).isSome=true:=(mem_filter.mp hm).2;rw [n] at q; simp at q
theorem Oi {h:Heap} {H:Hp} {b:Addr} {o:Obj} (e:(jW h H).get? b=some o):h.get? b=some o/\H b=none:=by
 have e':h.get? b=some o:=of_hideAll (trk h H) e;refine ⟨e',?_⟩
 cases q:H b with
 | none=>rfl
 | some x =>
  have hm:b∈trk h H:=mem_filter.mpr ⟨mem_range.mpr (Heap.lt_size e'),by simp [q]⟩;have z:(jW h H).get? b=none:=hideAll_none (trk h H) hm;rw [z] at e; cases e
noncomputable def vq (g h:Heap) (L:Addr):List (Addr×Obj):=(List.range h.objs.size).filterMap fun a=>if a=L\/(g.get? a).isSome=true then none else (h.get? a).map fun o=>(a,o)
noncomputable def rest (g h:Heap) (L d:Addr):List (Addr×Obj):=(vq g h L).filter fun p=>decide (p.1≠d)
structure Mod (K:Frag) (mg:Str->Option Value) (base:Heap):Prop where
 kin:K.In base
 glob:base.Ns mainGlobals mg
 blt:∃mb,base.Ns builtinsNs mb/\∀x:Str,x≠"__name__"->mb x=bootBuiltins x
 nolimit:base.NoLimit
structure Cx where
 prog:Program
 w:World
 K:Frag
 mg:Str->Option Value
 base:Heap
 A:Around
 N:List Str
 s₀:Shared
 H₀:Hp
 env:Env
 outer:List Env
 stack:List Env
 ex:List Addr
 fn:Str->Bool
 calm:Bool
 pn:List (Addr×Obj)
 xe:Value->Shared->Prop
noncomputable def frs (l:List Env):List Addr:=l.filterMap (·.frame)
abbrev Cx.fs (X:Cx):List Addr:=frs X.outer
noncomputable def wZ (sc:Scope) (x:Str):Prop:=sc.names.lookup x=some .local\/sc.names.lookup x=some .cell\/sc.names.lookup x=some .free
noncomputable def Loc (sc:Scope) (x:Str):Prop:=sc.names.lookup x=some .local\/sc.names.lookup x=some .cell
noncomputable def Look (env:Env) (h:Heap) (m:Str->Option Value) (x:Str) (u:Value):Prop :=
 (env.kindOf x=some .local/\m x=some u)\/((env.kindOf x=some .cell\/env.kindOf x=some .free)/\∃c,env.cells.lookup x=some c/\h.IsCell c (some u))
structure Cx.Ok (X:Cx):Prop where
 mod:Mod X.K X.mg X.base
 kind:X.env.scope.kind=.function
 glob:X.env.globals=mainGlobals
 blt:X.env.builtins=builtinsNs
 above:X.s₀.heap.objs.size<=X.env.locals
 inj:∀x y c,X.env.cells.lookup x=some c->X.env.cells.lookup y=some c->x=y
 has:∀x,(X.env.kindOf x=some .cell\/X.env.kindOf x=some .free)->∃c,X.env.cells.lookup x=some c
 cab:∀x c,X.fn x=true->X.env.cells.lookup x=some c->X.s₀.heap.objs.size<=c
 hd:X.calm=true->X.A.handled=none
 frames:X.A.frames=some X.stack
 stk:X.stack=X.outer\/(X.stack=X.env :: X.outer/\X.env.frame=some X.env.locals)
 exf:∀b∈X.ex,b≠X.env.locals/\∀x c,X.env.cells.lookup x=some c->c≠b
 bs:∀b o,X.base.get? b=some o->X.s₀.heap.get? b=some o/\X.H₀ b=none
 bsz:X.base.objs.size<=X.s₀.heap.objs.size
 noex:∀b o,X.base.get? b=some o->b∉X.ex
 exfs:∀b∈X.ex,b∉X.fs
 funs:X.s₀.heap.FunFrames X.base X.outer
 frf:∀b∈X.fs,X.H₀ b=none
structure Inv (X:Cx) (pins:List (Addr×Obj)) (σ:List (Option V)) (H:Hp) (s:Shared):Prop where
 ok:X.Ok
 os:s.os=X.s₀.os
 bare:AllBare s.gens
 base:Un X.fs X.ex X.H₀ H X.s₀.heap s.heap
 loc:∃m,s.heap.Ns X.env.locals m/\∀(i:Nat) (x:Str) (v:V),X.N[i]? = some x->σ[i]? = some (some v)->wZ X.env.scope x->∃u,RelV v u/\Look X.env s.heap m x u
 cell:∀x c,X.env.cells.lookup x=some c->∃v,s.heap.IsCell c v
 free:H X.env.locals=none
 freeC:∀x c,X.env.cells.lookup x=some c->H c=none
 pin:∀p∈X.pn ++ pins,s.heap.get? p.1=some p.2/\H p.1=none/\p.1≠X.env.locals/\p.1∉X.fs/\∀v,p.2.data≠.cell v
 hok:HOk X.prog X.w H s.heap
 len:σ.length=X.N.length
section
variable {X:Cx} {pins:List (Addr×Obj)} {σ:List (Option V)} {H H':Hp} {s:Shared} {h':Heap}
theorem Cx.Ok.nofr (ok:X.Ok) {b:Addr} {o:Obj} (e:X.base.get? b=some o):b∉X.fs:=fun hb=>by
 have:=(ok.funs.mem hb).1;rw [e] at this; cases this
theorem Inv.bs (I:Inv X pins σ H s):∀b o,X.base.get? b=some o->s.heap.get? b=some o/\H b=none:=fun b o e =>
 ⟨I.base.keep b o (I.ok.bs b o e).1 (I.ok.bs b o e).2 (I.ok.nofr e) (I.ok.noex b o e),I.base.free b o (I.ok.bs b o e).1 (I.ok.bs b o e).2 (I.ok.noex b o e)⟩
theorem Inv.bk (I:Inv X pins σ H s):∀b o,X.base.get? b=some o->s.heap.get? b=some o:=fun b o e=>(I.bs b o e).1
theorem Inv.mod (I:Inv X pins σ H s):Mod X.K X.mg X.base:=I.ok.mod
theorem Inv.kIn (I:Inv X pins σ H s):X.K.In s.heap:=I.ok.mod.kin.keeps I.bk
theorem Inv.nolimit (I:Inv X pins σ H s):s.heap.NoLimit:=I.ok.mod.nolimit.keeps I.bk
theorem Inv.fr (I:Inv X pins σ H s):∃m,Fr X.base X.env.locals s.heap m :=
 let ⟨m,hn,_⟩:=I.loc
 ⟨m,hn,I.bk,Nat.le_trans I.ok.bsz I.ok.above⟩
theorem Inv.lt (I:Inv X pins σ H s):X.env.locals < s.heap.objs.size:=let ⟨_,hn,_⟩:=I.loc; hn.lt
theorem Inv.sz (I:Inv X pins σ H s):X.s₀.heap.objs.size<=s.heap.objs.size:=Nat.le_trans I.ok.above (Nat.le_of_lt I.lt)
theorem Inv.nofs (I:Inv X pins σ H s) {a:Addr} (h:s.heap.objs.size<=a):a∉X.fs:=fun hb=>by
 obtain ⟨_,o,ho,_⟩:=I.ok.funs.mem hb;exact absurd (Nat.lt_of_lt_of_le (Heap.lt_size ho) (Nat.le_trans I.sz h)) (Nat.lt_irrefl _)
theorem Inv.cne (I:Inv X pins σ H s):∀x c,X.env.cells.lookup x=some c->c≠X.env.locals:=fun x c e z=>by
 obtain ⟨v,o,ho,hd⟩:=I.cell x c e;obtain ⟨m,⟨o',es,ep,ho',hd',_⟩,_⟩:=I.loc;rw [z,ho'] at ho; cases ho; rw [hd'] at hd; cases hd
theorem Inv.funs (I:Inv X pins σ H s):s.heap.FunFrames X.base X.outer:=by
 have all:∀(l:List Env),(∀b∈frs l,b∈X.fs)->X.s₀.heap.FunFrames X.base l->s.heap.FunFrames X.base l:=by
  intro l
  induction l with
  | nil=>intro _ _; trivial
  | cons env r ih =>
   intro hs hl;obtain ⟨hk,⟨L,o,hf,hn,ho,hd⟩,hr⟩:=hl;have hL:L∈X.fs:=hs L (by unfold frs; rw [filterMap_cons,hf]; exact mem_cons_self);obtain ⟨sl,e⟩:=I.base.slot L o ho (I.ok.frf L hL) hL fun z=>I.ok.exfs L z hL;exact ⟨hk,⟨L,_,hf,hn,e,hd⟩,ih (fun b hb=>hs b (by unfold frs; rw [filterMap_cons,hf]; exact mem_cons_of_mem _ hb)) hr⟩
 exact all X.outer (fun _ hb=>hb) I.ok.funs
theorem Inv.stack (I:Inv X pins σ H s):s.heap.FunFrames X.base X.stack:=by
 rcases I.ok.stk with e | ⟨e,hf⟩
 ·rw [e]; exact I.funs
 ·rw [e];obtain ⟨m,hn,_⟩:=I.loc;refine .cons (by rw [I.ok.kind]; decide) hf hn ?_ I.funs;exact Heap.get?_none_of_le (Nat.le_trans I.ok.bsz I.ok.above)
theorem Inv.stkSub (I:Inv X pins σ H s):∀b∈frs X.stack,b∈X.env.locals :: X.fs:=fun b hb=>by
 rcases I.ok.stk with e | ⟨e,hf⟩
 ·rw [e] at hb; exact mem_cons_of_mem _ hb
 ·rw [e] at hb;unfold frs at hb;rw [filterMap_cons,hf] at hb;exact hb
theorem Inv.stkFree (I:Inv X pins σ H s):∀b∈frs X.stack,H b=none:=fun b hb=>by
 rcases mem_cons.mp (I.stkSub b hb) with e | hb
 ·rw [e]; exact I.free
 ·obtain ⟨_,o,ho,_⟩:=I.ok.funs.mem hb;exact I.base.free b o ho (I.ok.frf b hb) fun z=>I.ok.exfs b z hb
theorem Inv.step {g':Array GenState} {t':Nat} {d':Drawn} {ch:List Addr} (I:Inv X pins σ H s)
  (hch:∀b∈ch,(b∈X.ex\/X.s₀.heap.objs.size<=b)/\b≠X.env.locals/\(∀x c,X.env.cells.lookup x=some c->c≠b)/\∀p∈X.pn ++ pins,p.1≠b)
  (keep:∀b o,b≠X.env.locals->b∉X.fs->b∉ch->s.heap.get? b=some o->H b=none->h'.get? b=some o)
  (slot:∀b o,b≠X.env.locals->b∈X.fs->b∉ch->s.heap.get? b=some o->H b=none->∃sl,h'.get? b=some { o with slots:=sl }) (free:∀b o,b∉ch->s.heap.get? b=some o->H b=none->H' b=none)
  (there:∀b o,b∉ch->s.heap.get? b=some o->∃o',h'.get? b=some o')
  (tups:∀b xs,H b=some (.tup xs)->H' b=some (.tup xs)) (frzs:∀b o u,H b=some (.frz o u)->H' b=some (.frz o u)) (tbls:∀b ps,H b=some (.tbl ps)->∃more,H' b=some (.tbl (ps ++ more)))
  (ns:∀m,s.heap.Ns X.env.locals m->h'.Ns X.env.locals m) (hok:HOk X.prog X.w H' h') (hg:AllBare g') :
  Inv X pins σ H' { s with heap:=h',gens:=g',drawn:=d',toks:=t' }:=by
 have neL:∀b o,X.s₀.heap.get? b=some o->b≠X.env.locals:=fun b o e=>Nat.ne_of_lt (Nat.lt_of_lt_of_le (Heap.lt_size e) I.ok.above);have neC:∀b o,X.s₀.heap.get? b=some o->b∉X.ex->b∉ch:=fun b o e hx hb=>by
  rcases (hch b hb).1 with z | z
  ·exact hx z
  ·exact absurd (Nat.lt_of_lt_of_le (Heap.lt_size e) z) (Nat.lt_irrefl _)
 have cellK:∀x c,X.env.cells.lookup x=some c->∀v,s.heap.IsCell c v->h'.IsCell c v:=fun x c e v ⟨o,ho,hd⟩=>by
  have nch:c∉ch:=fun z=>(hch c z).2.2.1 x c e rfl
  by_cases hc:c∈X.fs
  ·obtain ⟨sl,q⟩:=slot c o (I.cne x c e) hc nch ho (I.freeC x c e);exact ⟨_,q,hd⟩
  ·exact ⟨o,keep c o (I.cne x c e) hc nch ho (I.freeC x c e),hd⟩
 refine ⟨I.ok,I.os,hg,⟨fun b o e n hb hx=>?_,fun b o e n hb hx=>?_,fun b o e n hx=>?_,fun b o e hx=>?_,fun b xs e=>tups b xs (I.base.tups b xs e),fun b o xs e=>frzs b o xs (I.base.frzs b o xs e),fun b ps e=>?_⟩,?_,fun x c e=>?_,?_,fun x c e=>?_,fun p hp=>?_,hok,I.len⟩
 ·exact keep b o (neL b o e) hb (neC b o e hx) (I.base.keep b o e n hb hx) (I.base.free b o e n hx)
 ·obtain ⟨sl,e1⟩:=I.base.slot b o e n hb hx;obtain ⟨sl',e2⟩:=slot b _ (neL b o e) hb (neC b o e hx) e1 (I.base.free b o e n hx);exact ⟨sl',e2⟩
 ·obtain ⟨o',e1⟩:=I.base.there b o e hx;exact free b o' (neC b o e hx) e1 (I.base.free b o e n hx)
 ·obtain ⟨o',e1⟩:=I.base.there b o e hx;exact there b o' (neC b o e hx) e1
 ·obtain ⟨m1,e1⟩:=I.base.tbls b ps e;obtain ⟨m2,e2⟩:=tbls b _ e1;exact ⟨m1 ++ m2,by rw [e2,Array.append_assoc]⟩
 ·obtain ⟨m,hn,hl⟩:=I.loc;refine ⟨m,ns m hn,fun i x v e1 e2 e3=>?_⟩;obtain ⟨u,r,l⟩:=hl i x v e1 e2 e3;refine ⟨u,r,?_⟩;rcases l with l | ⟨k,c,e,z⟩
  ·exact .inl l
  ·exact .inr ⟨k,c,e,cellK x c e _ z⟩
 ·obtain ⟨v,z⟩:=I.cell x c e;exact ⟨v,cellK x c e v z⟩
 ·obtain ⟨m,⟨o,_,_,ho,_⟩,_⟩:=I.loc;exact free _ o (fun z=>(hch _ z).2.1 rfl) ho I.free
 ·obtain ⟨v,o,ho,hd⟩:=I.cell x c e;exact free c o (fun z=>(hch c z).2.2.1 x c e rfl) ho (I.freeC x c e)
 ·obtain ⟨e,n,ne,nf,d⟩:=I.pin p hp;have nch:p.1∉ch:=fun z=>(hch p.1 z).2.2.2 p hp rfl;exact ⟨keep p.1 p.2 ne nf nch e n,free p.1 p.2 nch e n,ne,nf,d⟩
theorem Inv.un {t':Nat} (I:Inv X pins σ H s) (u:Un X.fs [] H H' s.heap h') (hok:HOk X.prog X.w H' h'):Inv X pins σ H' { s with heap:=h',toks:=t' }:=by
 obtain ⟨m,⟨o,es,ep,ho,r⟩,_⟩:=id I.loc;obtain ⟨sl,hL⟩:=u.any ho I.free (by simp);exact I.step (g':=s.gens) (d':=s.drawn) (ch:=[]) (fun _ z=>nomatch z) (fun b o _ hb _ e n=>u.keep b o e n hb (by simp)) (fun b o _ hb _ e n=>u.slot b o e n hb (by simp)) (fun b o _ e n=>u.free b o e n (by simp)) (fun b o _ e=>u.there b o e (by simp)) u.tups u.frzs u.tbls (fun m' hm=>by
  obtain ⟨o',es',ep',ho',r'⟩:=hm;rw [ho] at ho'; cases ho';exact ⟨_,es',ep',hL,r'⟩) hok I.bare
theorem Inv.call {g':Array GenState} {t':Nat} {d':Drawn} {ch:List Addr} (I:Inv X pins σ H s) (u:Un (frs X.stack) ch H H' s.heap h') (hok:HOk X.prog X.w H' h') (hg:AllBare g')
  (hch:∀b∈ch,(b∈X.ex\/X.s₀.heap.objs.size<=b)/\b≠X.env.locals/\(∀x c,X.env.cells.lookup x=some c->c≠b)/\∀p∈X.pn ++ pins,p.1≠b) :
  Inv X pins σ H' { s with heap:=h',gens:=g',drawn:=d',toks:=t' }:=by
 obtain ⟨m,⟨o,es,ep,ho,r⟩,_⟩:=id I.loc;obtain ⟨sl,hL⟩:=u.any ho I.free fun z=>(hch _ z).2.1 rfl;exact I.step (ch:=ch) hch (fun b o hL hb hc e n=>u.keep b o e n (fun z=>(mem_cons.mp (I.stkSub b z)).elim hL hb) hc) (fun b o _ _ hc e n=>u.any e n hc) (fun b o hc e n=>u.free b o e n hc) (fun b o hc e=>u.there b o e hc) u.tups u.frzs u.tbls (fun m' hm=>by
  obtain ⟨o',es',ep',ho',r'⟩:=hm;rw [ho] at ho'; cases ho';exact ⟨_,es',ep',hL,r'⟩) hok hg
theorem Inv.turned {t':Nat} {it:Addr} (I:Inv X pins σ H s) (k:∀b o,b≠it->s.heap.get? b=some o->h'.get? b=some o) (hn:H it=none) (hL:it≠X.env.locals)
  (h1:it∈X.ex\/X.s₀.heap.objs.size<=it) (h2:∀x c,X.env.cells.lookup x=some c->c≠it) (h3:∀p∈X.pn ++ pins,p.1≠it):Inv X pins σ H { s with heap:=h',toks:=t' }:=by
 have nit:∀b u,H b=some u->b≠it:=fun b u e z=>by rw [z,hn] at e; cases e
 refine I.step (g':=s.gens) (d':=s.drawn) (ch:=[it]) (fun b hb=>?_) (fun b o _ _ hc e _=>k b o (fun z=>hc (by simp [z])) e) (fun b o _ _ hc e _=>⟨o.slots,k b o (fun z=>hc (by simp [z])) e⟩) (fun _ _ _ _ n=>n)
  (fun b o hc e=>⟨o,k b o (fun z=>hc (by simp [z])) e⟩) (fun _ _ e=>e) (fun _ _ _ e=>e) (fun b ps e=>⟨#[],by rw [e]; simp⟩) (fun m hm=>?_) (fun b u e=>?_) I.bare
 ·have e:b=it:=by simpa using hb
  subst e;exact ⟨h1,hL,h2,h3⟩
 ·obtain ⟨o,es,ep,ho,r⟩:=hm;exact ⟨o,es,ep,k _ o (Ne.symm hL) ho,r⟩
 ·refine (I.hok b u e).stay (fun c v hc q=>k c v ?_ q) (fun _ q=>q) fun _ _ q=>q;rcases hc with z | z
  ·rw [z]; exact nit b u e
  ·exact nit c _ z
theorem Inv.tok (I:Inv X pins σ H s) (t:Nat):Inv X pins σ H { s with toks:=t }:=I.un (h':=s.heap) (t':=t) Un.refl I.hok
theorem Inv.kept {t':Nat} (I:Inv X pins σ H s) (k:∀b u,s.heap.get? b=some u->h'.get? b=some u):Inv X pins σ H { s with heap:=h',toks:=t' }:=I.un (Un.kept k) (I.hok.kept k)
theorem Inv.laid {a:Addr} {o:HO} {t':Nat} (I:Inv X pins σ H s) (k:∀b u,s.heap.get? b=some u->h'.get? b=some u) (hp:s.heap.objs.size<=a) (new:ObjOk X.prog X.w (upd H a o) h' a o) :
  Inv X pins σ (upd H a o) { s with heap:=h',toks:=t' }:=I.un (Un.laid k hp (I.hok.fresh hp)) (I.hok.laid k hp new)
theorem Inv.write {x e:Addr} {o:HO} {t':Nat} (I:Inv X pins σ H s) (mu:DY (H x)) (he:e=x\/H e=some (.own x)) (k:∀b u,b≠e->s.heap.get? b=some u->h'.get? b=some u) (heo:∃u,h'.get? e=some u)
  (new:ObjOk X.prog X.w (upd H x o) h' x o):Inv X pins σ (upd H x o) { s with heap:=h',toks:=t' }:=I.un (Un.write mu he k heo) (I.hok.write mu he k heo new)
theorem Inv.weak {σ':List (Option V)} (I:Inv X pins σ H s) (hl:σ'.length=σ.length) (w:∀(i:Nat) v,σ'[i]? = some (some v)->σ[i]? = some (some v)):Inv X pins σ' H s :=
 ⟨I.ok,I.os,I.bare,I.base,let ⟨m,hn,hl'⟩:=I.loc; ⟨m,hn,fun i x v e1 e2 e3=>hl' i x v e1 (w i v e2) e3⟩,I.cell,I.free,I.freeC,I.pin,I.hok,hl.trans I.len⟩
theorem Inv.pins_of {pins':List (Addr×Obj)} (I:Inv X pins σ H s) (h:∀p∈pins',s.heap.get? p.1=some p.2/\H p.1=none/\p.1≠X.env.locals/\p.1∉X.fs/\∀v,p.2.data≠.cell v):Inv X pins' σ H s :=
 ⟨I.ok,I.os,I.bare,I.base,I.loc,I.cell,I.free,I.freeC,fun p hp=>(mem_append.mp hp).elim (fun z=>I.pin p (mem_append_left _ z)) (h p),I.hok,I.len⟩
theorem Gd {N:List Str} (hN:N.Nodup) {i j:Nat} {x:Str} (a:N[i]? = some x) (b:N[j]? = some x):i=j:=by
 obtain ⟨h1,e1⟩:=List.getElem?_eq_some_iff.mp a;obtain ⟨h2,e2⟩:=List.getElem?_eq_some_iff.mp b;exact (getElem_inj hN).mp (e1.trans e2.symm)
theorem Ge {M:Model} {A:Around} {E:Value->Shared->Prop} {i:Nat} {x:Str} {v:V} {u:Value} {Q:Unit->Shared->Prop} (I:Inv X pins σ H s) (hN:X.N.Nodup) (hi:X.N[i]? = some x) (hx:Loc X.env.scope x) (r:RelV v u)
  (h:∀s',Inv X pins (σ.set i (some v)) H s'->(∃a,Heap.SameBut a s.heap s'.heap/\(a=X.env.locals\/X.env.cells.lookup x=some a))->Q () s') (hf:X.fn x=true\/X.env.scope.names.lookup x=some .local:=by first | exact .inl rfl | exact .inr rfl | assumption):wpAny M A (storeName X.env x u) Q E s:=by
 obtain ⟨m,hn,hl⟩:=id I.loc;have hcls:(X.env.scope.kind == .class || (X.env.scope.kind == .module && X.env.locals != X.env.globals))=false:=by rw [I.ok.kind]; rfl
 have hiσ:i < σ.length:=by rw [I.len]; exact (List.getElem?_eq_some_iff.mp hi).1
 have cne:=I.cne;have tracked:∀{a:Addr} {h':Heap},(∃o,s.heap.get? a=some o/\H a=none)->Heap.SameBut a s.heap h'->HOk X.prog X.w H h':=fun {a h'} ha hs b ob e=>by
  obtain ⟨_,_,hfree⟩:=ha;refine (I.hok b ob e).stay (fun c w' hc q=>(hs.2 c ?_).trans q) (fun _ q=>q) fun _ _ q=>q
  rintro rfl
  rcases hc with rfl | hc
  ·rw [hfree] at e; cases e
  ·rw [hfree] at hc; cases hc
 rcases hx with hk | hk
 ·refine wpAny_storeName_local hk hn (fun h' hn' hs=>?_) hcls;obtain ⟨oL,_,_,hoL,_⟩:=id hn;refine h _ ⟨I.ok,I.os,I.bare,⟨fun b o e n hb hx=>?_,fun b o e n hb hx=>?_,I.base.free,fun b o e hx=>?_,I.base.tups,I.base.frzs,I.base.tbls⟩,⟨_,hn',fun j y v' e1 e2 e3=>?_⟩,fun y c e=>?_,I.free,I.freeC,fun p hp=>?_,tracked ⟨oL,hoL,I.free⟩ hs,by simpa using I.len⟩ ⟨_,hs,.inl rfl⟩
  ·exact (hs.2 b (Nat.ne_of_lt (Nat.lt_of_lt_of_le (Heap.lt_size e) I.ok.above))).trans (I.base.keep b o e n hb hx)
  ·obtain ⟨sl,e1⟩:=I.base.slot b o e n hb hx;exact ⟨sl,(hs.2 b (Nat.ne_of_lt (Nat.lt_of_lt_of_le (Heap.lt_size e) I.ok.above))).trans e1⟩
  ·obtain ⟨o',e1⟩:=I.base.there b o e hx;exact ⟨o',(hs.2 b (Nat.ne_of_lt (Nat.lt_of_lt_of_le (Heap.lt_size e) I.ok.above))).trans e1⟩
  ·by_cases hj:j=i
   ·subst hj;rw [hi] at e1; cases e1;rw [List.getElem?_set_self hiσ] at e2
    cases e2
    exact ⟨u,r,.inl ⟨hk,by simp⟩⟩
   ·rw [List.getElem?_set_ne (Ne.symm hj)] at e2;obtain ⟨u',r',q⟩:=hl j y v' e1 e2 e3;refine ⟨u',r',?_⟩;rcases q with ⟨k,e⟩ | ⟨k,c,e,z⟩
    ·refine .inl ⟨k,?_⟩;have:y≠x:=fun e=>hj (Gd hN e1 (e ▸ hi));simp [this,e]
    ·exact .inr ⟨k,c,e,z.sameBut hs (cne y c e)⟩
  ·obtain ⟨w',z⟩:=I.cell y c e;exact ⟨w',z.sameBut hs (cne y c e)⟩
  ·obtain ⟨e,n,ne,nf,d⟩:=I.pin p hp;exact ⟨(hs.2 p.1 ne).trans e,n,ne,nf,d⟩
 ·have hfn:X.fn x=true:=by
   rcases hf with z | z
   ·exact z
   ·rw [z] at hk; cases hk
  obtain ⟨c,hc⟩:=I.ok.has x (.inl hk);obtain ⟨w',z⟩:=I.cell x c hc;refine wpAny_storeName_cell I.ok.kind hk hc z (fun h' hc' hs=>?_);obtain ⟨oc,hoc,hocd⟩:=id z;refine h { s with heap:=h' } ⟨I.ok,I.os,I.bare,⟨fun b o e n hb hx=>?_,fun b o e n hb hx=>?_,I.base.free,fun b o e hx=>?_,I.base.tups,I.base.frzs,I.base.tbls⟩,⟨m,hn.sameBut hs (Ne.symm (cne x c hc)),fun j y v' e1 e2 e3=>?_⟩,fun y c' e=>?_,I.free,I.freeC,fun p hp=>?_,tracked ⟨oc,hoc,I.freeC x c hc⟩ hs,by simpa using I.len⟩ ⟨c,hs,.inr hc⟩
  ·exact (hs.2 b (Nat.ne_of_lt (Nat.lt_of_lt_of_le (Heap.lt_size e) (I.ok.cab x c hfn hc)))).trans (I.base.keep b o e n hb hx)
  ·obtain ⟨sl,e1⟩:=I.base.slot b o e n hb hx;exact ⟨sl,(hs.2 b (Nat.ne_of_lt (Nat.lt_of_lt_of_le (Heap.lt_size e) (I.ok.cab x c hfn hc)))).trans e1⟩
  ·obtain ⟨o',e1⟩:=I.base.there b o e hx;exact ⟨o',(hs.2 b (Nat.ne_of_lt (Nat.lt_of_lt_of_le (Heap.lt_size e) (I.ok.cab x c hfn hc)))).trans e1⟩
  ·by_cases hj:j=i
   ·subst hj;rw [hi] at e1; cases e1;rw [List.getElem?_set_self hiσ] at e2
    cases e2
    exact ⟨u,r,.inr ⟨.inl hk,c,hc,hc'⟩⟩
   ·rw [List.getElem?_set_ne (Ne.symm hj)] at e2;obtain ⟨u',r',q⟩:=hl j y v' e1 e2 e3;refine ⟨u',r',?_⟩;rcases q with q | ⟨k,c',e,z'⟩
    ·exact .inl q
    ·refine .inr ⟨k,c',e,z'.sameBut hs ?_⟩
     rintro rfl
     exact hj (Gd hN e1 (I.ok.inj _ _ _ e hc ▸ hi))
  ·by_cases hcc:c'=c
   ·subst hcc; exact ⟨_,hc'⟩
   ·obtain ⟨w2,z2⟩:=I.cell y c' e;exact ⟨w2,z2.sameBut hs hcc⟩
  ·obtain ⟨e,n,ne,nf,d⟩:=I.pin p hp;refine ⟨(hs.2 p.1 ?_).trans e,n,ne,nf,d⟩;intro q;rw [q,hoc] at e;have q':oc=p.2:=Option.some.inj e;exact d w' (by rw [<- q']; exact hocd)
theorem zf {M:Model} {A:Around} {E:Value->Shared->Prop} {i:Nat} {x:Str} {v:V} {u:Value} {Q:Unit->Shared->Prop} (I:Inv X pins σ H s) (hN:X.N.Nodup) (hi:X.N[i]? = some x) (hx:Loc X.env.scope x) (r:RelV v u)
  (h:∀s',Inv X pins (σ.set i (some v)) H s'->Q () s') (hf:X.fn x=true\/X.env.scope.names.lookup x=some .local:=by first | exact .inl rfl | exact .inr rfl | assumption):wpAny M A (storeName X.env x u) Q E s :=
 Ge I hN hi hx r (fun s' I' _=>h s' I') hf
theorem Inv.call' {s':Shared} {ch:List Addr} (I:Inv X pins σ H s) (ho:s'.os=s.os) (u:Un (frs X.stack) ch H H' s.heap s'.heap) (hok:HOk X.prog X.w H' s'.heap) (hg:AllBare s'.gens)
  (hch:∀b∈ch,(b∈X.ex\/X.s₀.heap.objs.size<=b)/\b≠X.env.locals/\(∀x c,X.env.cells.lookup x=some c->c≠b)/\∀p∈X.pn ++ pins,p.1≠b):Inv X pins σ H' s':=by
 obtain ⟨h',g',d',t',o'⟩:=s';have e:o'=s.os:=ho;subst e;exact I.call (g':=g') (t':=t') (d':=d') u hok hg hch
end
abbrev XK:=Value->Option Addr->Hp->Prop
abbrev St:=List (Option V)
abbrev VK:=V->Hp->Prop
abbrev TE:=St->Hp->VK->Prop
abbrev TT:=St->Hp->(Bool->Hp->Prop)->Prop
abbrev TA:=St->Hp->(List V->Hp->Prop)->Prop
structure Ends where
 nx:St->Hp->Prop
 rt:VK
 bk:St->Hp->Prop:=fun _ _=>False
 ct:St->Hp->Prop:=fun _ _=>False
abbrev TS:=Ends->St->Hp->Prop
noncomputable def EP (X:Cx) (pins:List (Addr×Obj)) (σ:St) (Q:VK) (u:Value) (s':Shared):Prop:=∃v H',Inv X pins σ H' s'/\RelV v u/\Q v H'
noncomputable def TP (X:Cx) (pins:List (Addr×Obj)) (σ:St) (Q:Bool->Hp->Prop) (b:Bool) (s':Shared):Prop:=∃H',Inv X pins σ H' s'/\Q b H'
noncomputable def AP (X:Cx) (pins:List (Addr×Obj)) (σ:St) (Q:List V->Hp->Prop) (us:List Value) (s':Shared):Prop:=∃vs H',Inv X pins σ H' s'/\Vals vs us/\Q vs H'
noncomputable def SP (X:Cx) (pins:List (Addr×Obj)) (D:Ends) (f:Flow) (s':Shared):Prop :=
 match f with
 | .next=>∃σ' H',Inv X pins σ' H' s'/\D.nx σ' H'
 | .brk=>∃σ' H',Inv X pins σ' H' s'/\D.bk σ' H'
 | .cont=>∃σ' H',Inv X pins σ' H' s'/\D.ct σ' H'
 | .ret u=>∃v σ' H',Inv X pins σ' H' s'/\RelV v u/\D.rt v H'
noncomputable def PE (X:Cx) (e:Expr) (t:TE):Prop :=
 ∀(pins:List (Addr×Obj)) (s:Shared) (σ:St) (H:Hp) (Q:VK),Inv X pins σ H s->t σ H Q->wpAny (model X.prog X.w) X.A (eval e X.env) (EP X pins σ Q) X.xe s
noncomputable def PT (X:Cx) (e:Expr) (t:TT):Prop :=
 ∀(pins:List (Addr×Obj)) (s:Shared) (σ:St) (H:Hp) (Q:Bool->Hp->Prop),Inv X pins σ H s->t σ H Q->wpAny (model X.prog X.w) X.A (isTrue e X.env (eval e X.env)) (TP X pins σ Q) X.xe s
noncomputable def PW (X:Cx) (e:Expr) (t:TT):Prop :=
 ∀(whole:Sem Value) (pins:List (Addr×Obj)) (s:Shared) (σ:St) (H:Hp) (Q:Bool->Hp->Prop),Inv X pins σ H s->t σ H Q->wpAny (model X.prog X.w) X.A (isTrue e X.env whole) (TP X pins σ Q) X.xe s
theorem PW.pt {X:Cx} {e:Expr} {t:TT} (h:PW X e t):PT X e t:=h _
noncomputable def PA (X:Cx) (es:List Expr) (t:TA):Prop :=
 ∀(pos:Pos) (pins:List (Addr×Obj)) (s:Shared) (σ:St) (H:Hp) (Q:List V->Hp->Prop),Inv X pins σ H s->t σ H Q->wpAny (model X.prog X.w) X.A (spliced (backTo pos (starEach es X.env))) (AP X pins σ Q) X.xe s
noncomputable def PS (X:Cx) (st:Stmt) (t:TS):Prop :=
 ∀(pins:List (Addr×Obj)) (s:Shared) (σ:St) (H:Hp) (D:Ends),Inv X pins σ H s->t D σ H->wpAny (model X.prog X.w) X.A (exec st X.env) (SP X pins D) X.xe s
noncomputable def PSs (X:Cx) (st:List Stmt) (t:TS):Prop :=
 ∀(pins:List (Addr×Obj)) (s:Shared) (σ:St) (H:Hp) (D:Ends),Inv X pins σ H s->t D σ H->wpAny (model X.prog X.w) X.A (execs st X.env) (SP X pins D) X.xe s
theorem gn {α:Type} {t:Sem α} {Q Q':α->Shared->Prop} {M:Model} {A:Around} {E:Value->Shared->Prop} {s:Shared} (h:wpAny M A t Q E s) (hQ:∀a s,Q a s->Q' a s):wpAny M A t Q' E s:=wpAny_mono h hQ fun _ _ x=>x
section
variable {X:Cx}
noncomputable def qH (i:Nat):TE:=fun σ H Q=>∃v,σ[i]? = some (some v)/\Q v H
noncomputable def tC (v:V):TE:=fun _ H Q=>Q v H
theorem D_ {i:Nat} {x:Str} {pos:Pos} (hN:X.N[i]? = some x) (hv:wZ X.env.scope x) (hd:(x == ("__debug__" : Str))=false:=by decide) (hcd:(x == ("__classdict__" : Str))=false:=by decide):PE X (.Name x pos) (qH i):=by
 intro pins s σ H Q I h;obtain ⟨v,e,h⟩:=h;obtain ⟨m,hn,hl⟩:=I.loc;obtain ⟨u,r,l⟩:=hl i x v hN e hv;have fin:EP X pins σ Q u s:=⟨v,H,I,r,h⟩;rcases l with ⟨hk,hm⟩ | ⟨hk,c,hc,hcell⟩
 ·exact wpAny_Name (wpAny_loadName_local I.ok.kind hk hn hm fin) hd
 ·rcases hk with hk | hk
  ·exact wpAny_Name (wpAny_loadName_cell I.ok.kind hk hc hcell fin) hd
  ·exact wpAny_Name (wpAny_loadName_free I.ok.kind hk hc hcell fin hcd) hd
theorem Oj {i j pos}:PE X (.Constant (.int i) j pos) (tC (.int i)):=fun _ _ _ H _ I h=>wpAny_Constant_int ⟨.int i,H,I.tok _,⟨_,rfl⟩,h⟩
theorem Ol {b j pos}:PE X (.Constant (.bool b) j pos) (tC (.bl b)):=fun _ _ _ H _ I h=>Constant_bool ⟨.bl b,H,I,rfl,h⟩
theorem Om {j pos}:PE X (.Constant .none j pos) (tC .non):=fun _ _ _ H _ I h=>Constant_none ⟨.non,H,I,rfl,h⟩
theorem JB {x j pos}:PE X (.Constant (.str x) j pos) (tC (.str x)):=fun _ _ _ H _ I h=>Calls.Constant_str ⟨.str x,H,I.tok _,⟨_,rfl⟩,h⟩
noncomputable def Gl (X:Cx) (x:Str):Prop:=X.env.kindOf x=some .globalImplicit
theorem v5 {E:Value->Shared->Prop} {pins:List (Addr×Obj)} {s:Shared} {σ:St} {H:Hp} {x:Str} {u:Value} {pos:Pos} {Q:Value->Shared->Prop} (I:Inv X pins σ H s) (hg:Gl X x) (hm:X.mg x=some u) (h:Q u s)
  (hd:(x == ("__debug__" : Str))=false:=by decide):wpAny (model X.prog X.w) X.A (eval (.Name x pos) X.env) Q E s :=
 Calls.Name_function_global I.ok.kind hg (Calls.loadGlobal_global (by rw [I.ok.glob]; exact I.mod.glob.keeps I.bk) hm h) hd
theorem dc' {E:Value->Shared->Prop} {pins:List (Addr×Obj)} {s:Shared} {σ:St} {H:Hp} {x:Str} {u:Value} {pos:Pos} {Q:Value->Shared->Prop} (I:Inv X pins σ H s) (hg:Gl X x) (hm:X.mg x=none) (hv:bootBuiltins x=some u) (h:Q u s)
  (hn:x≠"__name__":=by decide) (hd:(x == ("__debug__" : Str))=false:=by decide):wpAny (model X.prog X.w) X.A (eval (.Name x pos) X.env) Q E s:=by
 obtain ⟨mb,h1,h2⟩:=I.mod.blt;exact Calls.Name_function_global I.ok.kind hg (Calls.loadGlobal_builtin (by rw [I.ok.glob]; exact I.mod.glob.keeps I.bk) hm (by rw [I.ok.blt]; exact h1.keeps I.bk) ((h2 x hn).trans hv) h) hd
theorem Oo {x:Str} {v:V} {u:Value} {pos:Pos} (hg:Gl X x) (hm:X.mg x=some u) (r:RelV v u) (hd:(x == ("__debug__" : Str))=false:=by decide):PE X (.Name x pos) (tC v) :=
 fun _ _ _ H _ I h=>v5 I hg hm ⟨v,H,I,r,h⟩ hd
noncomputable def Oq (ta tb:TE) (k:Int->Int->Hp->Prop):St->Hp->Prop:=fun σ H=>ta σ H fun x H1=>tb σ H1 fun y H2=>∃i j,x=.int i/\y=.int j/\k i j H2
variable {a b:Expr} {ta tb:TE} {pos:Pos}
noncomputable def pR (p:Int->Int->Bool) (ta tb:TE):TE:=fun σ H Q=>Oq ta tb (fun i j H2=>Q (.bl (p i j)) H2) σ H
abbrev Wc:TE->TE->TE:=pR fun i j=>decide (i < j)
abbrev Wd:TE->TE->TE:=pR fun i j=>decide (i<=j)
abbrev We:TE->TE->TE:=pR fun i j=>decide (j < i)
abbrev Wf:TE->TE->TE:=pR fun i j=>decide (j<=i)
abbrev Ot:TE->TE->TE:=pR fun i j=>decide (i=j)
abbrev Ou:TE->TE->TE:=pR fun i j=>!decide (i=j)
noncomputable def tB (t:TE):TT:=fun σ H Q=>t σ H fun x H1=>∃c,x=.bl c/\Q c H1
variable {tA tB':TT} {rest:List Expr}
end
noncomputable def SqL (K:Frag) (H:Hp) (a:Addr) (xs:List V):Prop :=
 Rd H a (.lst xs) \/
  ∃(o:Obj) (its:Array Value) (n:Nat),K.lookup a=some o/\o.cls=.type "list"/\o.dict=none/\o.data=.seq its n/\its.size<=sizeLine/\Vals xs its.toList
noncomputable def SqT (K:Frag) (H:Hp) (a:Addr) (xs:List V):Prop :=
 Rd H a (.tup xs) \/
  ∃(o:Obj) (its:Array Value) (n:Nat),K.lookup a=some o/\o.cls=.type "tuple"/\o.data=.seq its n/\its.size<=sizeLine/\Vals xs its.toList
noncomputable def Gf:Value->Option V
 | .none=>some .non
 | .bool b=>some (.bl b)
 | .int i _=>some (.int i)
 | .str x _=>some (.str x)
 | .bytes b _=>some (.byt b)
 | .float b _=>some (.flt b)
 | .ref a=>some (.ref a)
 | .type n=>some (.ty n)
 | _=>none
theorem RelV.abs {x:V} {u:Value} (r:RelV x u):Gf u=some x:=by
 cases x with
 | non=>cases r; rfl
 | bl _=>cases r; rfl
 | int _=>obtain ⟨t,rfl⟩:=r; rfl
 | str _=>obtain ⟨t,rfl⟩:=r; rfl
 | byt _=>obtain ⟨t,rfl⟩:=r; rfl
 | flt _=>obtain ⟨t,rfl⟩:=r; rfl
 | ref _=>cases r; rfl
 | ty _=>cases r; rfl
theorem RelV.inj {x y:V} {u:Value} (r:RelV x u) (q:RelV y u):x=y:=Option.some.inj (r.abs.symm.trans q.abs)
theorem Vals.inj:∀{xs ys:List V} {us:List Value},Vals xs us->Vals ys us->xs=ys
 | _,_,_,.nil,.nil=>rfl
 | _,_,_,.cons r t,.cons r' t'=>by rw [r.inj r',Vals.inj t t']
section
variable {X:Cx} {pins:List (Addr×Obj)} {σ:St} {H:Hp} {s:Shared} {a:Addr} {xs ys:List V}
theorem SqL.of {K:Frag} (h:H a=some (.lst xs)):SqL K H a xs:=.inl (.inl h)
theorem SqT.of {K:Frag} (h:H a=some (.tup xs)):SqT K H a xs:=.inl (.inl h)
theorem Inv.list (I:Inv X pins σ H s) (h:SqL X.K H a xs):∃its:List Value,Vals xs its/\PlainL s.heap a its.toArray/\xs.length<=sizeLine:=by
 rcases h with h | ⟨o,its,n,hk,hc,hd,hs,hz,r⟩
 ·obtain ⟨z,its,n,r,e⟩:=h.ok I.hok;exact ⟨its,r,⟨_,n,e,rfl,rfl,rfl⟩,z⟩
 ·refine ⟨its.toList,r,⟨o,n,I.kIn a o hk,hc,hd,by simpa using hs⟩,?_⟩;have e:=r.length;simp only [Array.length_toList] at e;omega
theorem Inv.tuple (I:Inv X pins σ H s) (h:SqT X.K H a xs):∃its:List Value,Vals xs its/\IsTup s.heap a its.toArray/\xs.length<=sizeLine:=by
 rcases h with h | ⟨o,its,n,hk,hc,hs,hz,r⟩
 ·obtain ⟨z,its,r,p⟩:=h.ok I.hok;exact ⟨its,r,p,z⟩
 ·refine ⟨its.toList,r,⟨o,I.kIn a o hk,hc,n,by simpa using hs⟩,?_⟩;have e:=r.length;simp only [Array.length_toList] at e;omega
theorem Inv.list_inj (I:Inv X pins σ H s) (h:SqL X.K H a xs) (h':SqL X.K H a ys):xs=ys:=by
 obtain ⟨its,r,⟨o,n,e,_,_,d⟩,_⟩:=I.list h;obtain ⟨its',r',⟨o',n',e',_,_,d'⟩,_⟩:=I.list h';rw [e] at e'; cases e';rw [d] at d';injection d' with d1 _
 have:its=its':=by simpa using congrArg Array.toList d1
 subst this;exact r.inj r'
theorem Inv.tuple_inj (I:Inv X pins σ H s) (h:SqT X.K H a xs) (h':SqT X.K H a ys):xs=ys:=by
 obtain ⟨its,r,⟨o,e,_,n,d⟩,_⟩:=I.tuple h;obtain ⟨its',r',⟨o',e',_,n',d'⟩,_⟩:=I.tuple h';rw [e] at e'; cases e';rw [d] at d';injection d' with d1 _
 have:its=its':=by simpa using congrArg Array.toList d1
 subst this;exact r.inj r'
end
abbrev Cx.wish (X:Cx) (E:Value->Shared->Prop):Cx:={ X with xe:=E }
abbrev Cx.nox (X:Cx):Cx:=X.wish fun _ _=>False
theorem Cx.Ok.wish {X:Cx} (ok:X.Ok) (E:Value->Shared->Prop):(X.wish E).Ok :=
 ⟨ok.mod,ok.kind,ok.glob,ok.blt,ok.above,ok.inj,ok.has,ok.cab,ok.hd,ok.frames,ok.stk,ok.exf,ok.bs,ok.bsz,ok.noex,ok.exfs,ok.funs,ok.frf⟩
theorem Cx.Ok.unwish {X:Cx} {E:Value->Shared->Prop} (ok:(X.wish E).Ok):X.Ok :=
 ⟨ok.mod,ok.kind,ok.glob,ok.blt,ok.above,ok.inj,ok.has,ok.cab,ok.hd,ok.frames,ok.stk,ok.exf,ok.bs,ok.bsz,ok.noex,ok.exfs,ok.funs,ok.frf⟩
section
variable {X:Cx} {pins:List (Addr×Obj)} {σ:St} {H:Hp} {s:Shared} {E:Value->Shared->Prop}
theorem Inv.wish (I:Inv X pins σ H s) (E:Value->Shared->Prop):Inv (X.wish E) pins σ H s:=⟨I.ok.wish E,I.os,I.bare,I.base,I.loc,I.cell,I.free,I.freeC,I.pin,I.hok,I.len⟩
theorem Inv.unwish (I:Inv (X.wish E) pins σ H s):Inv X pins σ H s:=⟨I.ok.unwish,I.os,I.bare,I.base,I.loc,I.cell,I.free,I.freeC,I.pin,I.hok,I.len⟩
theorem SP.unwish {D:Ends} {f:Flow} {s':Shared} (h:SP (X.wish E) pins D f s'):SP X pins D f s':=by
 cases f with
 | next=>obtain ⟨σ',H',I,q⟩:=h; exact ⟨σ',H',I.unwish,q⟩
 | brk=>obtain ⟨σ',H',I,q⟩:=h; exact ⟨σ',H',I.unwish,q⟩
 | cont=>obtain ⟨σ',H',I,q⟩:=h; exact ⟨σ',H',I.unwish,q⟩
 | ret u=>obtain ⟨v,σ',H',I,r,q⟩:=h; exact ⟨v,σ',H',I.unwish,r,q⟩
theorem PE.nox {e:Expr} {t:TE} (h:PE X.nox e t):PE X e t:=fun pins s σ H Q I hw =>
 wpAny_mono (h pins s σ H Q (I.wish _) hw) (fun _ _ ⟨v,H',I',r,q⟩=>⟨v,H',I'.unwish,r,q⟩) fun _ _ z=>False.elim z
theorem PT.nox {e:Expr} {t:TT} (h:PT X.nox e t):PT X e t:=fun pins s σ H Q I hw =>
 wpAny_mono (h pins s σ H Q (I.wish _) hw) (fun _ _ ⟨H',I',q⟩=>⟨H',I'.unwish,q⟩) fun _ _ z=>False.elim z
theorem PSs.nox {st:List Stmt} {t:TS} (h:PSs X.nox st t):PSs X st t:=fun pins s σ H D I hw =>
 wpAny_mono (h pins s σ H D (I.wish _) hw) (fun _ _ q=>q.unwish) fun _ _ z=>False.elim z
end
section
variable {X:Cx} {st:Stmt} {rest:List Stmt} {t u:TS} {e:Expr} {te:TE} {pos:Pos}
noncomputable def zg (t u:TS):TS:=fun D σ H=>t { D with nx:=u D } σ H
theorem Ov (h1:PS X st t) (h2:PSs X rest u):PSs X (st :: rest) (zg t u):=by
 intro pins s σ H D I h;refine wpAny_execs_cons (gn (h1 pins s σ H { D with nx:=u D } I h) fun f s1 q=>?_)
 cases f with
 | next =>
  obtain ⟨σ',H',I',q⟩:=q;exact h2 pins s1 σ' H' D I' q
 | ret v=>exact q
 | brk=>exact q
 | cont=>exact q
theorem ls' (h1:PS X st t):PSs X [st] t:=by
 intro pins s σ H D I h;refine wpAny_execs_cons (gn (h1 pins s σ H D I h) fun f s1 q=>?_)
 cases f with
 | next=>exact wpAny_execs_nil q
 | ret v=>exact q
 | brk=>exact q
 | cont=>exact q
theorem Inv.quiet {pins:List (Addr×Obj)} {σ:St} {H:Hp} {s:Shared} (I:Inv X pins σ H s):interactive X.env=false:=by simp [interactive,I.ok.kind]
noncomputable def v7 (te:TE):TS:=fun D σ H=>te σ H fun _ H1=>D.nx σ H1
theorem lt' (he:PE X e te) (hs:swapsWith e none pos.line X.env=pure false:=by rfl):PS X (.Expr e pos) (v7 te):=by
 intro pins s σ H D I h;exact wpAny_Expr_any (gn (he pins s σ H _ I h) fun v s1 ⟨x,H1,I1,r1,q1⟩=>⟨σ,H1,I1,q1⟩) I.quiet hs
end
abbrev TG:=V->St->Hp->(St->Hp->Prop)->Prop
abbrev v9:=List V->St->Hp->(St->Hp->Prop)->Prop
noncomputable def PG (X:Cx) (target:Expr) (t:TG):Prop :=
 ∀(pins:List (Addr×Obj)) (s:Shared) (σ:St) (H:Hp) (v:V) (u:Value) (Q:St->Hp->Prop),Inv X pins σ H s->RelV v u->t v σ H Q ->
  wpAny (model X.prog X.w) X.A (assign target X.env u) (fun _ s'=>∃σ' H',Inv X pins σ' H' s'/\Q σ' H') X.xe s
noncomputable def v_ (X:Cx) (ts:List Expr) (t:v9):Prop :=
 ∀(pins:List (Addr×Obj)) (s:Shared) (σ:St) (H:Hp) (vs:List V) (us:List Value) (Q:St->Hp->Prop),Inv X pins σ H s->Vals vs us->t vs σ H Q ->
  wpAny (model X.prog X.w) X.A (assignInOrder ((assignEach ts X.env).map (·.2)) us) (fun _ s'=>∃σ' H',Inv X pins σ' H' s'/\Q σ' H') X.xe s
abbrev Gg:=V->V->V->Hp->(Hp->Prop)->Prop
noncomputable def Gh (X:Cx) (t:Gg):Prop :=
 ∀(pins:List (Addr×Obj)) (s:Shared) (σ:St) (H:Hp) (o i v:V) (ov iv u:Value) (Q:Hp->Prop),Inv X pins σ H s->RelV o ov->RelV i iv->RelV v u->t o i v H Q ->
  wpAny (model X.prog X.w) X.A (setItem ov iv u) (fun _ s'=>∃H',Inv X pins σ H' s'/\Q H') X.xe s
abbrev Wg:=V->V->Hp->VK->Prop
section
variable {X:Cx} {pos:Pos}
noncomputable def zj (i:Nat):TG:=fun v σ H Q=>Q (σ.set i (some v)) H
theorem JC {i:Nat} {x:Str} (hN:X.N.Nodup) (hi:X.N[i]? = some x) (hx:Loc X.env.scope x) (hf:X.fn x=true\/X.env.scope.names.lookup x=some .local:=by first | exact .inl rfl | exact .inr rfl | assumption):PG X (.Name x pos) (zj i):=by
 intro pins s σ H v u Q I r h;exact wpAny_assign_Name (zf I hN hi hx r (fun s' I'=>⟨_,H,I',h⟩) hf)
noncomputable def Gi:v9:=fun vs σ H Q=>vs=[]/\Q σ H
noncomputable def zm (t:TG) (u:v9):v9:=fun vs σ H Q=>∃v r,vs=v :: r/\t v σ H fun σ' H'=>u r σ' H' Q
theorem Ow:v_ X [] Gi:=by
 intro pins s σ H vs us Q I r h;obtain ⟨e,h⟩:=h;subst e
 cases r
 exact assignInOrder_nil ⟨σ,H,I,h⟩
theorem Ox {e:Expr} {es:List Expr} {t:TG} {u:v9} (h1:PG X e t) (h2:v_ X es u)
  (hs:(assignEach (e :: es) X.env).map (·.2)=assign e X.env :: (assignEach es X.env).map (·.2):=by rfl):v_ X (e :: es) (zm t u):=by
 intro pins s σ H vs us Q I r h;obtain ⟨v,vr,e1,h⟩:=h;subst e1
 cases r with
 | cons r rr =>
  rw [hs];refine assignInOrder_cons (gn (h1 pins s σ H _ _ _ I r h) fun _ s1 ⟨σ1,H1,I1,q1⟩=>?_);exact h2 pins s1 σ1 H1 _ _ Q I1 rr q1
noncomputable def Gj (K:Frag) (n:Nat) (t:v9):TG:=fun v σ H Q=>∃a xs,v=.ref a/\SqT K H a xs/\xs.length=n/\t xs σ H Q
theorem Oz {es:List Expr} {k:Nat} {t:v9} {n:Nat} (hc:X.calm=true) (h:v_ X es t)
  (hn:(assignEach es X.env).length=n:=by rfl) (hst:(assignEach es X.env).findIdx? (·.1)=none:=by rfl):PG X (.Tuple es k pos) (Gj X.K n t):=by
 intro pins s σ H v u Q I r hw;obtain ⟨a,xs,e1,hq,hl,hw⟩:=hw;subst e1
 cases r
 obtain ⟨its,rv,ht,hz⟩:=I.tuple hq;refine assign_Tuple_tuple (I.ok.hd hc) ht (by simp [hn,<- hl,rv.length]) hst fun h' hx=>?_;have I1:Inv X pins σ H { s with heap:=h' }:=I.kept (t':=s.toks) fun b o e=>hx b o (Nat.ne_of_lt (Heap.lt_size e)) e
 exact h pins _ σ H xs _ Q I1 (by simpa using rv) hw
end
section
variable {X:Cx} {pos:Pos}
noncomputable def xf (c:TT) (tb:TS):TS:=fun D σ H=>∃W:Nat->St->Hp->Prop,(∃m,W m σ H)/\∀m σ H,W m σ H ->
 c σ H fun b H1=>if b=true then ∃N:St->Hp->Prop,(∀σ' H',N σ' H'->∃m',m' < m/\W m' σ' H')/\tb { D with nx:=N,ct:=N,bk:=D.nx } σ H1 else D.nx σ H1
theorem OD {c:Expr} {body:List Stmt} {tc:TT} {tb:TS} (hp:PassesOwn (model X.prog X.w) X.A X.env X.xe) (hc:PT X c tc) (hb:PSs X body tb):PS X (.While c body [] pos) (xf tc tb):=by
 intro pins s σ H D I h;obtain ⟨W,⟨m0,w0⟩,turn⟩:=h;refine wpAny_While (codeAny_whileLoop (fun n s'=>∃σ' H',Inv X pins σ' H' s'/\W n σ' H') ?_ m0 ⟨σ,H,I,w0⟩)
 rintro n s1 ⟨σ1,H1,I1,w1⟩
 refine wpAny_passesOwn hp (gn (hc pins s1 σ1 H1 _ I1 (turn n σ1 H1 w1)) fun b s2 ⟨H2,I2,q2⟩=>?_)
 cases b with
 | true =>
  obtain ⟨N,hN,q2⟩:=q2;rw [if_pos rfl];refine wpAny_passesOwn hp (gn (hb pins s2 σ1 H2 _ I2 q2) fun f s3 q3=>?_)
  cases f with
  | next =>
   obtain ⟨σ3,H3,I3,n3⟩:=q3;obtain ⟨m',hm,w3⟩:=hN σ3 H3 n3;exact ⟨m',hm,σ3,H3,I3,w3⟩
  | cont =>
   obtain ⟨σ3,H3,I3,n3⟩:=q3;obtain ⟨m',hm,w3⟩:=hN σ3 H3 n3;exact ⟨m',hm,σ3,H3,I3,w3⟩
  | brk=>exact q3
  | ret v=>exact q3
 | false =>
  rw [if_neg Bool.false_ne_true];exact wpAny_execs_nil ⟨σ1,H2,I2,q2⟩
end
structure It where
 go:Nat->Hp->Prop
 yld:Nat->Hp->V->Hp->Prop
 stop:Nat->Hp->Prop
noncomputable def gZ (X:Cx) (pins:List (Addr×Obj)) (H:Hp) (b:Addr):Prop :=
 H b=none/\b≠X.env.locals/\b∉X.fs/\(b∈X.ex\/X.s₀.heap.objs.size<=b)/\(∀x c,X.env.cells.lookup x=some c->c≠b)/\∀p∈X.pn ++ pins,p.1≠b
theorem Inv.fpOk {X:Cx} {pins:List (Addr×Obj)} {σ:St} {H H':Hp} {s:Shared} {b:Addr} (I:Inv X pins σ H s) (hb:s.heap.objs.size<=b) (hn:H' b=none):gZ X pins H' b:=by
 refine ⟨hn,Nat.ne_of_gt (Nat.lt_of_lt_of_le I.lt hb),I.nofs hb,.inr (Nat.le_trans I.sz hb),fun x c e z=>?_,fun p hp z=>?_⟩
 ·obtain ⟨v,q⟩:=I.cell x c e;exact absurd (Nat.lt_of_lt_of_le q.lt (by rw [z]; exact hb)) (Nat.lt_irrefl _)
 ·exact absurd (Nat.lt_of_lt_of_le (Heap.lt_size (I.pin p hp).1) (by rw [z]; exact hb)) (Nat.lt_irrefl _)
structure Turn (P:Program) (w:World) (K:Frag) (tg:Expr) (J:It) (fp:List Addr) (it:Addr) (tn:Nat->Heap->Prop):Prop where
 mem:it∈fp
 obj:∀i h,tn i h->∀b∈fp,∃o,h.get? b=some o/\∀v,o.data≠.cell v
 keep:∀i h h',tn i h->(∀b∈fp,∀o,h.get? b=some o->h'.get? b=some o)->tn i h'
 item:∀(X:Cx),X.prog=P->X.w=w->X.K=K->X.calm=true->∀(i:Nat) (pins:List (Addr×Obj)) (s:Shared) (σ:St) (H:Hp) (E:Value->Shared->Prop),Inv X pins σ H s->(∀b∈fp,gZ X pins H b)->tn i s.heap->J.go i H ->
  wpAny (model P w) X.A (pyNext (.ref it)) (fun r s1=>∃u,r=some u /\
   wpAny (model P w) X.A (letOwnedTupleGo tg (.ref it) u) (fun _ s2=>∃x H',Inv X pins σ H' s2/\RelV x u/\J.yld i H x H'/\tn (i + 1) s2.heap/\∀b∈fp,H' b=none) E s1) E s
 done:∀(X:Cx),X.prog=P->X.w=w->X.K=K->X.calm=true->∀(i:Nat) (pins:List (Addr×Obj)) (s:Shared) (σ:St) (H:Hp) (E:Value->Shared->Prop),Inv X pins σ H s->(∀b∈fp,gZ X pins H b)->tn i s.heap->J.stop i H ->
  wpAny (model P w) X.A (pyNext (.ref it)) (fun r s1=>r=none/\Inv X pins σ H s1) E s
 self:∀(A:Around) (i:Nat) (s:Shared) (Q:Value->Shared->Prop) (E:Value->Shared->Prop),tn i s.heap->Q (.ref it) s->wpAny (model P w) A (pyIter (.ref it)) Q E s
abbrev TI:=St->Hp->(It->Hp->Prop)->Prop
noncomputable def PIE (X:Cx) (pins:List (Addr×Obj)) (σ:St) (tg:Expr) (R:It->Hp->Prop) (itv:Value) (s2:Shared):Prop :=
 ∃(it:Addr) (fp:List Addr) (tn:Nat->Heap->Prop) (J:It) (H':Hp),itv=.ref it/\Inv X pins σ H' s2/\Turn X.prog X.w X.K tg J fp it tn/\tn 0 s2.heap/\(∀b∈fp,gZ X pins H' b)/\R J H'
noncomputable def PI (X:Cx) (tg iter:Expr) (wi:TI):Prop :=
 ∀(pins:List (Addr×Obj)) (s:Shared) (σ:St) (H:Hp) (R:It->Hp->Prop),Inv X pins σ H s->wi σ H R ->
  wpAny (model X.prog X.w) X.A (eval iter X.env) (fun v s1=>wpAny (model X.prog X.w) X.A (pyIter v) (PIE X pins σ tg R) X.xe s1) X.xe s
theorem Ea {M:Model} {A:Around} {E:Value->Shared->Prop} {s:Shared} {tg:Expr} {it:Addr} {u:Value} {o:Obj} {n:String} {vs:Array Value} {Q:Unit->Shared->Prop} (ho:s.heap.get? it=some o) (hc:o.cls=.type n) (hd:o.data=.fields vs)
    (hn:["enumerate", "zip", "dict_itemiterator", "dict_reverseitemiterator", "odict_iterator", "itertools.zip_longest", "itertools.pairwise"].contains n=false) (hQ:Q () s):wpAny M A (letOwnedTupleGo tg (.ref it) u) Q E s:=by
  unfold letOwnedTupleGo
  cases tg <;> first
    | exact wpAny_pure hQ
    | (cases u <;> first
        | exact wpAny_pure hQ
        | (refine wpAny_bind (wpAny_load ho ?_)
           rw [hc,hd];show wpAny M A (if (["enumerate", "zip", "dict_itemiterator", "dict_reverseitemiterator", "odict_iterator", "itertools.zip_longest", "itertools.pairwise"].contains n && vs[0]? == some (rawInt _))=true then _ else _) Q E s
           rw [if_neg (by intro h; rw [hn,Bool.false_and] at h; cases h)];exact wpAny_pure hQ))
noncomputable def JD (K:Frag) (a:Addr):It :=
 ⟨fun i H=>∃xs x,SqL K H a xs/\xs[i]? = some x,fun i H x H'=>H'=H/\∀xs,SqL K H a xs->xs[i]? = some x,fun i H=>∃xs,SqL K H a xs/\xs.length<=i⟩
noncomputable def JF (K:Frag) (a:Addr):It :=
 ⟨fun i H=>∃xs x,SqT K H a xs/\xs[i]? = some x,fun i H x H'=>H'=H/\∀xs,SqT K H a xs->xs[i]? = some x,fun i H=>∃xs,SqT K H a xs/\xs.length<=i⟩
noncomputable def zr (lo:Int) (n:Nat):It:=⟨fun i _=>i < n,fun i H x H'=>H'=H/\x=.int (lo + i),fun i _=>n<=i⟩
theorem OJ {P:Program} {w:World} {K:Frag} {tg:Expr} (a it:Addr):Turn P w K tg (JD K a) [it] it (fun i h=>h.IsListIter it a i) where
 mem:=by simp
 obj:=fun i h st b hb=>by
  have e:b=it:=by simpa using hb
  subst e;obtain ⟨o,e,c,d⟩:=st;exact ⟨o,e,fun v z=>by rw [d] at z; cases z⟩
 keep:=fun i h h' st k=>st.at fun o e=>k it (by simp) o e
 item:=by
  intro X hP hw hK hc i pins s σ H E I hf st hg;subst hP hw hK;obtain ⟨xs,x,hq,hx⟩:=hg;obtain ⟨its,rv,p,hz⟩:=I.list hq;obtain ⟨u,hu,ru⟩:=rv.get hx;obtain ⟨f0,f1,f2,f3,f4,f5⟩:=hf it (by simp);refine wpAny_pyNext_list_item st p.isList (x:=u) (by simpa using hu) fun h' st' sb=>?_;have I1:Inv X pins σ H { s with heap:=h' }:=I.turned (t':=s.toks) (fun b o hb e=>(sb.2 b hb).trans e) f0 f1 f3 f4 f5
  obtain ⟨o,e,c,d⟩:=id st';exact ⟨u,rfl,Ea (s:={ s with heap:=h' }) e c d (by decide) ⟨x,H,I1,ru,⟨rfl,fun ys hy=>by rw [I.list_inj hy hq]; exact hx⟩,st',fun b hb=>(hf b hb).1⟩⟩
 done:=by
  intro X hP hw hK hc i pins s σ H E I hf st hg;subst hP hw hK;obtain ⟨xs,hq,hx⟩:=hg;obtain ⟨its,rv,p,hz⟩:=I.list hq;obtain ⟨f0,f1,f2,f3,f4,f5⟩:=hf it (by simp);have hl:=rv.length;exact wpAny_pyNext_list_end (I.ok.hd hc) st p.isList (by simp; omega) fun h' eb=>⟨rfl,I.turned (t':=s.toks) (fun b o hb e=>eb b o hb e) f0 f1 f3 f4 f5⟩
 self:=fun _ _ _ _ _ st h=>wpAny_pyIter_listiter st h
theorem O1 {P:Program} {w:World} {K:Frag} {tg:Expr} (a it:Addr):Turn P w K tg (JF K a) [it] it (fun i h=>h.IsTupleIter it a i) where
 mem:=by simp
 obj:=fun i h st b hb=>by
  have e:b=it:=by simpa using hb
  subst e;obtain ⟨o,e,c,d⟩:=st;exact ⟨o,e,fun v z=>by rw [d] at z; cases z⟩
 keep:=fun i h h' st k=>st.at fun o e=>k it (by simp) o e
 item:=by
  intro X hP hw hK hc i pins s σ H E I hf st hg;subst hP hw hK;obtain ⟨xs,x,hq,hx⟩:=hg;obtain ⟨its,rv,p,hz⟩:=I.tuple hq;obtain ⟨u,hu,ru⟩:=rv.get hx;obtain ⟨f0,f1,f2,f3,f4,f5⟩:=hf it (by simp);refine wpAny_pyNext_tuple_item st (show s.heap.IsTuple a its.toArray from p) (x:=u) (by simpa using hu) fun h' st' sb=>?_
  have I1:Inv X pins σ H { s with heap:=h' }:=I.turned (t':=s.toks) (fun b o hb e=>(sb.2 b hb).trans e) f0 f1 f3 f4 f5
  obtain ⟨o,e,c,d⟩:=id st';exact ⟨u,rfl,Ea (s:={ s with heap:=h' }) e c d (by decide) ⟨x,H,I1,ru,⟨rfl,fun ys hy=>by rw [I.tuple_inj hy hq]; exact hx⟩,st',fun b hb=>(hf b hb).1⟩⟩
 done:=by
  intro X hP hw hK hc i pins s σ H E I hf st hg;subst hP hw hK;obtain ⟨xs,hq,hx⟩:=hg;obtain ⟨its,rv,p,hz⟩:=I.tuple hq;obtain ⟨f0,f1,f2,f3,f4,f5⟩:=hf it (by simp);have hl:=rv.length;exact wpAny_pyNext_tuple_end (I.ok.hd hc) st (show s.heap.IsTuple a its.toArray from p) (by simp; omega) fun h' eb=>⟨rfl,I.turned (t':=s.toks) (fun b o hb e=>eb b o hb e) f0 f1 f3 f4 f5⟩
 self:=fun _ _ _ _ _ st h=>wpAny_pyIter_tupleiter st h
theorem O2 {P:Program} {w:World} {K:Frag} {tg:Expr} (it:Addr) (lo:Int) (n:Nat):Turn P w K tg (zr lo n) [it] it (fun i h=>IsRangeIter h it (lo + (i:Nat) * 1) ((n:Int) - (i:Nat)) 1) where
 mem:=by simp
 obj:=fun i h st b hb=>by
  have e:b=it:=by simpa using hb
  subst e;exact ⟨_,st,fun v z=>by
   have z':Data.fields _=Data.cell v:=z
   cases z'⟩
 keep:=fun i h h' st k=>k it (by simp) _ st
 item:=by
  intro X hP hw hK hc i pins s σ H E I hf st hg;subst hP hw hK;obtain ⟨f0,f1,f2,f3,f4,f5⟩:=hf it (by simp);have W:=Walks.range (prog:=X.prog) (w:=X.w) (I.ok.hd hc) it lo 1 n;refine W.item i s _ _ hg st fun v h' tk hv st' kk=>?_;obtain ⟨t,rfl⟩:=hv;have I1:Inv X pins σ H { s with heap:=h',toks:=tk }:=I.turned (fun b o hb e=>kk b o (by simpa using hb) e) f0 f1 f3 f4 f5
  refine ⟨_,rfl,Ea (s:={ s with heap:=h',toks:=tk }) (n:="range_iterator") st' rfl rfl (by decide) ⟨.int (lo + i),H,I1,⟨t,?_⟩,⟨rfl,rfl⟩,st',fun b hb=>(hf b hb).1⟩⟩
  rw [Int.mul_one]
 done:=by
  intro X hP hw hK hc i pins s σ H E I hf st hg;subst hP hw hK;obtain ⟨f0,f1,f2,f3,f4,f5⟩:=hf it (by simp);exact wpAny_pyNext_range_end (I.ok.hd hc) st (by have:n<=i:=hg; omega) fun h' eb=>⟨rfl,I.turned (t':=s.toks) (fun b o hb e=>eb b o hb e) f0 f1 f3 f4 f5⟩
 self:=fun _ _ _ _ _ st h=>wpAny_pyIter_rangeiter st h
section
variable {X:Cx} {tg:Expr}
theorem O3 {pins:List (Addr×Obj)} {σ:St} {H:Hp} {s:Shared} {R:It->Hp->Prop} {E:Value->Shared->Prop} {lo hi:Int} {t u v:Tok} {tk:Nat} (I:Inv X pins σ H s) (h1:-(2 ^ 62)<=lo) (h2:lo < 2 ^ 62) (h3:-(2 ^ 62)<=hi) (h4:hi < 2 ^ 62)
  (q:R (zr lo (hi - lo).toNat) H):wpAny (model X.prog X.w) X.A (pyIter (.ref s.heap.objs.size)) (PIE X pins σ tg R) E { s with heap:=s.heap.push { cls:=.type "range",data:=.fields #[.int lo t,.int hi u,.int 1 v] },toks:=tk }:=by
 refine wpAny_pyIter_range (IsRange.new ..) (small_one h1 h2 h3 h4) ?_;have I1:Inv X pins σ H { s with heap:=s.heap.push { cls:=.type "range",data:=.fields #[.int lo t,.int hi u,.int 1 v] },toks:=tk }:=I.kept fun b o e=>Heap.get?_push_of_some _ e
 refine ⟨(s.heap.push { cls:=.type "range",data:=.fields #[.int lo t,.int hi u,.int 1 v] }).objs.size,[(s.heap.push { cls:=.type "range",data:=.fields #[.int lo t,.int hi u,.int 1 v] }).objs.size],_,_,H,rfl,
  I1.kept (t':=tk) fun b o e=>Heap.get?_push_of_some _ e,O2 _ lo (hi - lo).toNat,?_,fun b hb=>?_,q⟩
 ·have e1:lo + ((0:Nat):Int) * 1=lo:=by simp
  have e2:(((hi - lo).toNat:Nat):Int) - ((0:Nat):Int)=Builtin.Range.rangeSize lo hi 1:=by rw [rangeSize_one]; split <;> omega
  show IsRangeIter _ _ (lo + ((0:Nat):Int) * 1) ((((hi - lo).toNat:Nat):Int) - ((0:Nat):Int)) 1;rw [e1,e2];exact Heap.get?_push_size _ rfl
 ·have e:b=(s.heap.push { cls:=.type "range",data:=.fields #[.int lo t,.int hi u,.int 1 v] }).objs.size:=by simpa using hb
  subst e;exact I1.fpOk (Nat.le_refl _) (I1.hok.fresh (Nat.le_refl _))
noncomputable def Gk (wi:TI) (g:TG) (tb:TS):TS:=fun D σ H=>wi σ H fun J H1=>∃W:Nat->Nat->St->Hp->Prop,(∃m,W 0 m σ H1)/\∀i m σ H,W i m σ H ->
 (J.stop i H/\D.nx σ H)\/(J.go i H/\∃N:St->Hp->Prop,(∀σ' H',N σ' H'->∃m',m' < m/\W (i + 1) m' σ' H')/\∀x H',J.yld i H x H'->g x σ H' fun σ2 H2=>tb { D with nx:=N,ct:=N,bk:=D.nx } σ2 H2)
noncomputable def jX (fp:List Addr) (h:Heap):List (Addr×Obj):=fp.filterMap fun b=>(h.get? b).map fun o=>(b,o)
theorem cn' {fp:List Addr} {h:Heap} {b:Addr} {o:Obj} (hb:b∈fp) (e:h.get? b=some o):(b,o)∈jX fp h:=mem_filterMap.mpr ⟨b,hb,by rw [e]; rfl⟩
theorem O4 {fp:List Addr} {h:Heap} {p:Addr×Obj} (hp:p∈jX fp h):p.1∈fp/\h.get? p.1=some p.2:=by
 obtain ⟨b,hb,e⟩:=mem_filterMap.mp hp
 cases q:h.get? b with
 | none=>rw [q] at e; cases e
 | some o =>
  rw [q] at e;have e':(b,o)=p:=Option.some.inj e;subst e';exact ⟨hb,q⟩
theorem Inv.pinned {pins:List (Addr×Obj)} {σ:St} {H:Hp} {s:Shared} {fp:List Addr} (I:Inv X pins σ H s) (hf:∀b∈fp,gZ X pins H b) (ho:∀b∈fp,∃o,s.heap.get? b=some o/\∀v,o.data≠.cell v):Inv X (pins ++ jX fp s.heap) σ H s :=
 I.pins_of fun p hp=>(mem_append.mp hp).elim (fun z=>I.pin p (mem_append_right _ z)) fun z=>by
  obtain ⟨hb,e⟩:=O4 z;obtain ⟨f0,f1,f2,_⟩:=hf p.1 hb;obtain ⟨o,e',d⟩:=ho p.1 hb;rw [e] at e'; cases e';exact ⟨e,f0,f1,f2,d⟩
theorem Inv.unpinned {pins pl:List (Addr×Obj)} {σ:St} {H:Hp} {s:Shared} (I:Inv X (pins ++ pl) σ H s):Inv X pins σ H s:=I.pins_of fun p hp=>I.pin p (mem_append_right _ (mem_append_left _ hp))
theorem O5 {iter:Expr} {body:List Stmt} {wi:TI} {g:TG} {tb:TS} {pos:Pos} (hp:PassesOwn (model X.prog X.w) X.A X.env X.xe) (hc:X.calm=true) (hi:PI X tg iter wi) (hg:PG X tg g) (hb:PSs X body tb)
  (hs:∀x,foldedSetIterable iter X.env x=pure x:=by intro _; rfl):PS X (.For tg iter body [] pos) (Gk wi g tb):=by
 intro pins s σ H D I h;refine wpAny_For (gn (hi pins s σ H _ I h) fun v s1 h1=>gn h1 fun itv s2 h2=>?_) hs;obtain ⟨it,fp,tn,J,H2,e,I2,T,st2,f2,W,⟨m0,w0⟩,turn⟩:=h2;subst e;have stat:∀{H':Hp},(∀b∈fp,H' b=none)->∀b∈fp,gZ X pins H' b:=fun hn b hb=>⟨hn b hb,(f2 b hb).2⟩;refine codeAny_forLoop_any (fun n s'=>∃i σ' H',Inv X pins σ' H' s'/\tn i s'.heap/\(∀b∈fp,H' b=none)/\W i n σ' H') ?_ m0 ⟨0,σ,H2,I2,st2,fun b hb=>(f2 b hb).1,w0⟩
 rintro n s3 ⟨i,σ3,H3,I3,st3,fr3,w3⟩
 rcases turn i n σ3 H3 w3 with ⟨stop,qn⟩ | ⟨go,N,hN,step⟩
 ·refine wpAny_passesOwn hp (gn (T.done X rfl rfl rfl hc i pins s3 σ3 H3 X.xe I3 (stat fr3) st3 stop) fun r s4 ⟨hr,I4⟩=>?_)
  subst hr;exact wpAny_execs_nil ⟨σ3,H3,I4,qn⟩
 ·refine wpAny_passesOwn hp (gn (T.item X rfl rfl rfl hc i pins s3 σ3 H3 X.xe I3 (stat fr3) st3 go) fun r s4 ⟨u,hr,h4⟩=>?_);subst hr;refine wpAny_passesOwn hp (gn h4 fun _ s5 ⟨x,H5,I5,r5,y5,st5,fr5⟩=>?_);have I5':=I5.pinned (stat fr5) (T.obj _ _ st5);refine wpAny_passesOwn hp (gn (hg _ s5 σ3 H5 x u _ I5' r5 (step x H5 y5)) fun _ s6 ⟨σ6,H6,I6,q6⟩=>?_);refine wpAny_passesOwn hp (gn (hb _ s6 σ6 H6 _ I6 q6) fun f s7 q7=>?_);have again:∀{σ7:St} {H7:Hp},Inv X (pins ++ jX fp s5.heap) σ7 H7 s7->N σ7 H7->∃m,m < n/\∃i σ' H',Inv X pins σ' H' s7/\tn i s7.heap/\(∀b∈fp,H' b=none)/\W i m σ' H':=fun {σ7 H7} I7 n7=>by
   obtain ⟨m',hm,w7⟩:=hN σ7 H7 n7;refine ⟨m',hm,i + 1,σ7,H7,I7.unpinned,T.keep _ _ _ st5 fun b hb o e=>(I7.pin (b,o) (mem_append_right _ (mem_append_right _ (cn' hb e)))).1,fun b hb=>?_,w7⟩;obtain ⟨o,e,d⟩:=T.obj _ _ st5 b hb;exact (I7.pin (b,o) (mem_append_right _ (mem_append_right _ (cn' hb e)))).2.1
  cases f with
  | next=>obtain ⟨σ7,H7,I7,n7⟩:=q7; exact again I7 n7
  | cont=>obtain ⟨σ7,H7,I7,n7⟩:=q7; exact again I7 n7
  | brk=>obtain ⟨σ7,H7,I7,q7⟩:=q7; exact ⟨σ7,H7,I7.unpinned,q7⟩
  | ret v=>obtain ⟨x7,σ7,H7,I7,r7,q7⟩:=q7; exact ⟨x7,σ7,H7,I7.unpinned,r7,q7⟩
end
abbrev R2:=V->V->Hp->VK->Prop
noncomputable def OpR (X:Cx) (f:Value->Value->Sem Value) (r:R2):Prop :=
 ∀(pins:List (Addr×Obj)) (s:Shared) (σ:St) (H:Hp) (x y:V) (v u:Value) (Q:VK),Inv X pins σ H s->RelV x v->RelV y u->r x y H Q ->
  wpAny (model X.prog X.w) X.A (f v u) (EP X pins σ Q) X.xe s
noncomputable def JG (X:Cx) (f:Value->Sem Value) (r:V->Hp->VK->Prop):Prop :=
 ∀(pins:List (Addr×Obj)) (s:Shared) (σ:St) (H:Hp) (x:V) (v:Value) (Q:VK),Inv X pins σ H s->RelV x v->r x H Q ->
  wpAny (model X.prog X.w) X.A (f v) (EP X pins σ Q) X.xe s
noncomputable def CallR (X:Cx) (f:Value) (r:List V->Hp->VK->Prop):Prop :=
 ∀(pins:List (Addr×Obj)) (s:Shared) (σ:St) (H:Hp) (xs:List V) (us:List Value) (Q:VK),Inv X pins σ H s->Vals xs us->r xs H Q ->
  wpAny (model X.prog X.w) X.A (call f us) (EP X pins σ Q) X.xe s
noncomputable def Gm (X:Cx) (r:V->Hp->(Bool->Hp->Prop)->Prop):Prop :=
 ∀(pins:List (Addr×Obj)) (s:Shared) (σ:St) (H:Hp) (x:V) (v:Value) (Q:Bool->Hp->Prop),Inv X pins σ H s->RelV x v->r x H Q ->
  wpAny (model X.prog X.w) X.A (truthy v) (TP X pins σ Q) X.xe s
noncomputable def rI (C:Int->Int->Prop) (g:Int->Int->V):R2:=fun x y H Q=>∃i j,x=.int i/\y=.int j/\C i j/\Q (g i j) H
noncomputable def wg (g:Int->Int->V):R2:=fun x y H Q=>∃i j,x=.int i/\y=.int j/\Q (g i j) H
noncomputable def rU (g:Int->V):V->Hp->VK->Prop:=fun x H Q=>∃i,x=.int i/\Q (g i) H
section
variable {X:Cx} {a b c:Expr} {ta tb tc:TE} {pos:Pos}
theorem zu {f:Value->Value->Sem Value} {C:Int->Int->Prop} {g:Int->Int->Int}
  (rule:∀(i j:Int) (t u:Tok) (s:Shared) (Q:Value->Shared->Prop) (E:Value->Shared->Prop),C i j->Q (.int (g i j) s.toks) { s with toks:=s.toks + 1 }->wpAny (model X.prog X.w) X.A (f (.int i t) (.int j u)) Q E s) :
  OpR X f (rI C fun i j=>.int (g i j)):=by
 intro pins s σ H x y v u Q I rx ry h;obtain ⟨i,j,rfl,rfl,hc,q⟩:=h;obtain ⟨t,rfl⟩:=rx;obtain ⟨t',rfl⟩:=ry;exact rule i j t t' s _ _ hc ⟨.int (g i j),H,I.tok _,⟨_,rfl⟩,q⟩
theorem zx {f:Value->Value->Sem Value} {g:Int->Int->Int}
  (rule:∀(i j:Int) (t u:Tok) (s:Shared) (Q:Value->Shared->Prop) (E:Value->Shared->Prop),Q (.int (g i j) s.toks) { s with toks:=s.toks + 1 }->wpAny (model X.prog X.w) X.A (f (.int i t) (.int j u)) Q E s) :
  OpR X f (wg fun i j=>.int (g i j)):=by
 intro pins s σ H x y v u Q I rx ry h;obtain ⟨i,j,rfl,rfl,q⟩:=h;obtain ⟨t,rfl⟩:=rx;obtain ⟨t',rfl⟩:=ry;exact rule i j t t' s _ _ ⟨.int (g i j),H,I.tok _,⟨_,rfl⟩,q⟩
theorem zy {f:Value->Value->Sem Value} {g:Int->Int->Bool}
  (rule:∀(i j:Int) (t u:Tok) (s:Shared) (Q:Value->Shared->Prop) (E:Value->Shared->Prop),Q (.bool (g i j)) s->wpAny (model X.prog X.w) X.A (f (.int i t) (.int j u)) Q E s) :
  OpR X f (wg fun i j=>.bl (g i j)):=by
 intro pins s σ H x y v u Q I rx ry h;obtain ⟨i,j,rfl,rfl,q⟩:=h;obtain ⟨t,rfl⟩:=rx;obtain ⟨t',rfl⟩:=ry;exact rule i j t t' s _ _ ⟨.bl (g i j),H,I,rfl,q⟩
noncomputable def zB (i j:Int):Prop:=0<=j/\j<=1000000/\i.natAbs < 2 ^ 64
noncomputable def CMul (i j:Int):Prop:=(-(2 ^ 64) < i/\i < 2 ^ 64)\/(-(2 ^ 64) < j/\j < 2 ^ 64)
theorem CMul.ok {i j:Int} (h:CMul i j):IntMulOk i j:=by
 rcases h with ⟨h1,h2⟩ | ⟨h1,h2⟩
 ·exact .of_left (intBits_le_64 h1 h2)
 ·exact .of_right (intBits_le_64 h1 h2)
theorem op_add:OpR X (binaryOp .Add) (wg fun i j=>.int (i + j)):=zx fun _ _ _ _ _ _ _ q=>add_int q
theorem O6:OpR X (binaryOp .Sub) (wg fun i j=>.int (i - j)):=zx fun _ _ _ _ _ _ _ q=>sub_int q
theorem lv':OpR X (binaryOp .Mod) (rI (fun _ j=>j≠0) fun i j=>.int (i.fmod j)):=zu fun _ _ _ _ _ _ _ hc q=>mod_int' hc q
theorem O7:OpR X (binaryOp .Pow) (rI zB fun i j=>.int (i ^ j.toNat)):=zu fun _ _ _ _ _ _ _ hc q=>pow_int_small hc.1 hc.2.1 hc.2.2 q
theorem O8:OpR X (binaryOp .LShift) (rI zB fun i j=>.int (i * 2 ^ j.toNat)):=zu fun _ _ _ _ _ _ _ hc q=>lshift_int_small hc.1 hc.2.1 hc.2.2 q
theorem unI {f:Value->Sem Value} {g:Int->Int}
  (rule:∀(i:Int) (t:Tok) (s:Shared) (Q:Value->Shared->Prop) (E:Value->Shared->Prop),Q (.int (g i) s.toks) { s with toks:=s.toks + 1 }->wpAny (model X.prog X.w) X.A (f (.int i t)) Q E s) :
  JG X f (rU fun i=>.int (g i)):=by
 intro pins s σ H x v Q I rx h;obtain ⟨i,rfl,q⟩:=h;obtain ⟨t,rfl⟩:=rx;exact rule i t s _ _ ⟨.int (g i),H,I.tok _,⟨_,rfl⟩,q⟩
theorem O9:JG X (unaryOp .USub) (rU fun i=>.int (-i)):=unI fun _ _ _ _ _ q=>neg_int q
end
section
variable {X:Cx} {a b c:Expr} {ta tb tc:TE} {pos:Pos}
theorem JH {pins:List (Addr×Obj)} {σ:St} {H:Hp} {s:Shared} {Q:VK} {k k':Bool} (I:Inv X pins σ H s) (q:Q (.bl k) H) (e:k=k'):EP X pins σ Q (.bool k') s:=by
 subst e;exact ⟨.bl k,H,I,rfl,q⟩
theorem O_:OpR X (compareOp .Lt) (wg fun i j=>.bl (decide (i < j))):=zy fun _ _ _ _ _ _ _ q=>lt_int q
theorem Pa:OpR X (compareOp .Gt) (wg fun i j=>.bl (decide (j < i))):=zy fun _ _ _ _ _ _ _ q=>gt_int q
theorem Pb:OpR X (compareOp .Is) (fun x y H Q=>y=.non/\Q (.bl (decide (x=.non))) H):=by
 intro pins s σ H x y v u Q I rx ry h;obtain ⟨rfl,q⟩:=h
 cases ry
 refine is_none_gen (JH I q ?_)
 cases x <;> first
  | (cases rx; rfl)
  | (obtain ⟨t,rfl⟩:=rx; rfl)
theorem Pg:OpR X (compareOp .IsNot) (fun x y H Q=>y=.non/\Q (.bl (!decide (x=.non))) H):=by
 intro pins s σ H x y v u Q I rx ry h;obtain ⟨rfl,q⟩:=h
 cases ry
 refine isnot_none_gen (JH I q ?_)
 cases x <;> first
  | (cases rx; rfl)
  | (obtain ⟨t,rfl⟩:=rx; rfl)
theorem OpR.or {f:Value->Value->Sem Value} {r r':R2} (h:OpR X f r) (h':OpR X f r'):OpR X f (fun x y H Q=>r x y H Q\/r' x y H Q):=by
 intro pins s σ H x y v u Q I rx ry q;rcases q with q | q
 ·exact h pins s σ H x y v u Q I rx ry q
 ·exact h' pins s σ H x y v u Q I rx ry q
theorem cA (b:Expr) {op:CmpOp} (h:op≠.In:=by decide) (h2:op≠.NotIn:=by decide):behindInMarks op b=false:=by
 have e1:(op == CmpOp.In)=false:=by cases op <;> first | rfl | exact absurd rfl h
 have e2:(op == CmpOp.NotIn)=false:=by cases op <;> first | rfl | exact absurd rfl h2
 cases b <;> simp [behindInMarks,e1,e2]
noncomputable def Gn (K:Frag) (x:V) (H:Hp) (k:Bool):Prop :=
 match x with
 | .non=>k=false
 | .bl b=>k=b
 | .int i=>k=(i != 0)
 | .str y=>y.length<=sizeLine/\k=((y.length:Int) != 0)
 | .byt y=>y.size<=sizeLine/\k=((y.size:Int) != 0)
 | .ref p=>(∃xs,SqL K H p xs/\k = !xs.isEmpty)\/(∃xs,SqT K H p xs/\k = !xs.isEmpty)\/∃kvs,H p=some (.dK kvs)/\k = !kvs.isEmpty
 | _=>False
theorem Ph {κ:Type} {kvs:List (κ×V)} {vs:List (κ×Value)} (r:KV kvs vs):(!vs.isEmpty) = !kvs.isEmpty:=by
 cases r <;> rfl
theorem JK {xs:List V} {its:List Value} (r:Vals xs its):(!its.toArray.isEmpty) = !xs.isEmpty:=by
 cases r <;> simp
theorem yK:(sizeLine:Nat) < 2 ^ 63:=by rw [sizeLine_eq]; decide
theorem Pj:Gm X (fun x H Q=>∃k,Gn X.K x H k/\Q k H):=by
 intro pins s σ H x v Q I rx h;obtain ⟨k,e,q⟩:=h;have hl:=yK;have hs:sizeLine=16777216:=sizeLine_eq
 cases x with
 | non =>
  cases rx
  have e':k=false:=e;subst e';exact truthy_none ⟨H,I,q⟩
 | bl b =>
  cases rx
  have e':k=b:=e;subst e';exact wpAny_truthy_bool ⟨H,I,q⟩
 | int i =>
  obtain ⟨t,rfl⟩:=rx;have e':k=(i != 0):=e;subst e';exact PySem.P.truthy_int ⟨H,I,q⟩
 | str y =>
  obtain ⟨t,rfl⟩:=rx;obtain ⟨hy,e'⟩:y.length<=sizeLine/\k=((y.length:Int) != 0):=e;subst e';exact PySem.P.truthy_str (by omega) ⟨H,I.tok _,q⟩
 | byt y =>
  obtain ⟨t,rfl⟩:=rx;obtain ⟨hy,e'⟩:y.size<=sizeLine/\k=((y.size:Int) != 0):=e;subst e';exact truthy_bytes (by omega) ⟨H,I.tok _,q⟩
 | ref p =>
  cases rx
  have e':(∃xs,SqL X.K H p xs/\k = !xs.isEmpty)\/(∃xs,SqT X.K H p xs/\k = !xs.isEmpty)\/∃kvs,H p=some (.dK kvs)/\k = !kvs.isEmpty:=e;rcases e' with ⟨xs,hx,e'⟩ | ⟨xs,hx,e'⟩ | ⟨kvs,hx,e'⟩
  ·subst e';obtain ⟨its,r,pl,hz⟩:=I.list hx;have hlen:=r.length;exact wpAny_truthy_list pl.isList (by simp only [size_toArray]; omega) ⟨H,I.tok _,by rw [JK r]; exact q⟩
  ·subst e';obtain ⟨its,r,pl,hz⟩:=I.tuple hx;have hlen:=r.length;exact truthy_tuple pl (by simp only [size_toArray]; omega) ⟨H,I.tok _,by rw [JK r]; exact q⟩
  ·subst e';obtain ⟨hz,hS,vs,r,m⟩:kvs.length<=sizeLine/\(p == sysModules)=false/\∃vs,KV kvs vs/\s.heap.DictOf (jV X.prog X.w) p vs:=I.hok p _ hx;have hlen:kvs.length=vs.length:=Paired.length r;exact wpAny_truthy_dict hS m (by omega) ⟨H,I.tok _,by rw [Ph r]; exact q⟩
 | _=>exact (show False from e).elim
theorem op_add_str:OpR X (binaryOp .Add) (fun x y H Q=>∃i j,x=.str i/\y=.str j/\i.length + j.length<=sizeLine/\Q (.str (i ++ j)) H):=by
 intro pins s σ H x y v u Q I rx ry h;obtain ⟨i,j,rfl,rfl,hz,q⟩:=h;obtain ⟨t,rfl⟩:=rx;obtain ⟨t',rfl⟩:=ry;exact add_str (fun t' tk=>⟨.str (i ++ j),H,I.tok _,⟨_,rfl⟩,q⟩) hz
theorem vals1 {x:V} {us:List Value} (r:Vals [x] us):∃u,us=[u]/\RelV x u:=by
 cases r with
 | cons r1 r2=>cases r2; exact ⟨_,rfl,r1⟩
theorem Pk:CallR X (.builtin "abs") (fun xs H Q=>∃i,xs=[.int i]/\Q (.int (if i < 0 then -i else i)) H):=by
 intro pins s σ H xs us Q I r h;obtain ⟨i,rfl,q⟩:=h;obtain ⟨u,rfl,t,rfl⟩:=vals1 r;exact call_abs_int fun u tk=>⟨.int (if i < 0 then -i else i),H,I.tok _,⟨_,rfl⟩,q⟩
noncomputable def zE (K:Frag) (x:V) (H:Hp) (n:Nat):Prop :=
 match x with
 | .str y=>y.length<=sizeLine/\n=y.length
 | .byt y=>y.size<=sizeLine/\n=y.size
 | .ref p=>(∃xs,SqL K H p xs/\n=xs.length)\/∃xs,SqT K H p xs/\n=xs.length
 | _=>False
theorem Pn:CallR X (.builtin "len") (fun xs H Q=>∃x n,xs=[x]/\zE X.K x H n/\Q (.int n) H):=by
 intro pins s σ H xs us Q I r h;obtain ⟨x,n,rfl,e,q⟩:=h;obtain ⟨u,rfl,rx⟩:=vals1 r;have hl:=yK;have hs:sizeLine=16777216:=sizeLine_eq
 cases x with
 | str y =>
  obtain ⟨t,rfl⟩:=rx;obtain ⟨hy,e'⟩:y.length<=sizeLine/\n=y.length:=e;subst e';exact len_str (by omega) ⟨.int _,H,I.tok _,⟨_,rfl⟩,q⟩
 | byt y =>
  obtain ⟨t,rfl⟩:=rx;obtain ⟨hy,e'⟩:y.size<=sizeLine/\n=y.size:=e;subst e';exact len_bytes (by omega) ⟨.int _,H,I.tok _,⟨_,rfl⟩,q⟩
 | ref p =>
  cases rx
  have e':(∃xs,SqL X.K H p xs/\n=xs.length)\/∃xs,SqT X.K H p xs/\n=xs.length:=e;rcases e' with ⟨xs,hx,e'⟩ | ⟨xs,hx,e'⟩
  ·subst e';obtain ⟨its,r',pl,hz⟩:=I.list hx;have hlen:=r'.length;exact Calls.call_len_list pl.isList (by simp only [size_toArray]; omega) ⟨.int xs.length,H,I.tok _,⟨_,by simp only [size_toArray]; rw [hlen]⟩,q⟩
  ·subst e';obtain ⟨its,r',pl,hz⟩:=I.tuple hx;have hlen:=r'.length;exact len_tuple pl (by simp only [size_toArray]; omega) ⟨.int xs.length,H,I.tok _,⟨_,by simp only [size_toArray]; rw [hlen]⟩,q⟩
 | _=>exact (show False from e).elim
end
structure ObjM (h:Heap) (x dx C:Addr) (mA:Str->Option Value):Prop where
 obj:h.get? x=some (instObj C dx)
 ns:h.Ns1 dx mA
 ne:dx≠x
theorem JL {h:Heap} {dx:Addr} {mA:Str->Option Value} (n:h.Ns1 dx mA):∃od,h.get? dx=some od/\∀name,lookIn name od=some (mA name):=by
 obtain ⟨o,es,ep,ho,hd,hk,_,hm⟩:=n;refine ⟨o,ho,fun name=>?_⟩;have e:=hm name;unfold nsFind findBy at e;rw [<- Array.find?_toList] at e;unfold lookIn;rw [hd];dsimp only
 split
 ·rename_i y q;rw [q] at e;exact congrArg some e
 ·rename_i q;rw [q] at e;have a:es.toList.any (·.refKey)=false:=by
   rw [any_eq_false];intro y hy;obtain ⟨z,t,hkey⟩:=hk y (Array.mem_toList_iff.mp hy);simp [DictEntry.refKey,hkey]
  have a':¬es.toList.any (·.refKey)=true:=by rw [a]; exact Bool.false_ne_true
  rw [if_neg a'];exact congrArg some e
theorem ObjM.look {h:Heap} {x dx C:Addr} {mA:Str->Option Value} (I:ObjM h x dx C mA):∃od,InstAt h x (instObj C dx) C (some od)/\∀name,lookIn name od=some (mA name) :=
 let ⟨od,ho,hl⟩:=JL I.ns
 ⟨od,⟨I.obj,rfl,rfl,ho⟩,hl⟩
section
variable {prog:Program} {w:World} {A:Around} {E:Value->Shared->Prop} {s:Shared} {K:Frag} {x dx C f:Addr} {mA:Str->Option Value} {name:Str} {v:Value}
end
section
variable {P:Program} {w:World} {H H':Hp} {h h':Heap} {a C dx:Addr} {fs fs':List (Str×V)}
theorem Pq (hok:HOk P w H h) (e:H a=some (.ins C dx fs)):∃mA,ObjM h a dx C mA/\(∀f,wY (fs.lookup f) (mA f))/\PySem.Within mA (fs.map (·.1))/\fs.length<=1000/\H dx=some (.own a):=by
 obtain ⟨d,z,ne,ob,mA,n,r,q⟩:=(show ObjOk P w H h a (.ins C dx fs) from hok a _ e)
 exact ⟨mA,⟨ob,n,ne⟩,r,q,z,d⟩
end
structure Cls (K:Frag) (C:Addr):Prop where
 pg:plainGet K C Str.empty=true
 hd:hasDictIn K C=true
 po:plainOver K C=true
 sa:findIn K (.ref C) "__setattr__" = some (some (.builtin "object.__setattr__"))
theorem Cls.get {K:Frag} {C:Addr} (c:Cls K C) (f:Str):plainGet K C f=true:=c.pg
structure Con (K:Frag) (C:Addr) (f:Str) (v:V) (u:Value):Prop where
 at_:findIn K (.ref C) f=some (some u)
 rel:RelV v u
 get:specialIn K u "__get__" = some none
 cp:copiedNames.contains f=false
structure Meth (K:Frag) (C:Addr) (m:Str) (f:Addr):Prop where
 at_:findIn K (.ref C) m=some (some (.ref f))
 fn:isFn K (.ref f)=true
 kp:keepIn K (.ref f)=true
section
variable {X:Cx} {pins:List (Addr×Obj)} {σ:St} {H:Hp} {s:Shared} {a C dx:Addr} {fs:List (Str×V)} {f:Str} {v:V} {A:Around} {E:Value->Shared->Prop}
theorem Inv.made (I:Inv X pins σ H s):Inv X pins σ (upd (upd H s.heap.objs.size (.own (s.heap.objs.size + 1))) (s.heap.objs.size + 1) (.ins C s.heap.objs.size []))
    { s with heap:=(s.heap.push emptyDict).push (instObj C s.heap.objs.size) }:=by
  have e1:(s.heap.push emptyDict).get? s.heap.objs.size=some emptyDict:=Heap.get?_push_size s.heap rfl;have e2:((s.heap.push emptyDict).push (instObj C s.heap.objs.size)).get? (s.heap.objs.size + 1)=some (instObj C s.heap.objs.size):=by
    have:=Heap.get?_push_size (s.heap.push emptyDict) (o:=instObj C s.heap.objs.size) rfl
    rwa [Heap.size_push] at this
  have e3:(s.heap.push emptyDict).Ns s.heap.objs.size (fun _=>none):=⟨emptyDict,#[],_,e1,rfl,(fun e he=>absurd he (by simp)),fun _=>rfl⟩;have I1:=I.laid (a:=s.heap.objs.size) (o:=.own (s.heap.objs.size + 1)) (h':=s.heap.push emptyDict) (t':=s.toks) (fun b u q=>Heap.get?_push_of_some _ q) (Nat.le_refl _) ⟨_,e1⟩;refine I1.laid (a:=s.heap.objs.size + 1) (o:=.ins C s.heap.objs.size []) (t':=s.toks) (fun b u q=>Heap.get?_push_of_some _ q) (Nat.le_of_eq (Heap.size_push _ _)) ?_;have ne:s.heap.objs.size≠s.heap.objs.size + 1:=Nat.ne_of_lt (Nat.lt_succ_self _);refine ⟨by rw [as' ne,gW],Nat.zero_le _,ne,e2,fun _=>none,(Heap.Ns1.of_empty e3).at fun o q=>Heap.get?_push_of_some _ q,fun _=>True.intro,fun y hy=>absurd rfl hy⟩
theorem Pr {prog:Program} {w:World} {env:Env} {e:Expr} {f:Str} {pos:Pos} {s:Shared} {Q:Value->Shared->Prop} (hb:attributeBase e f env (eval e env)=eval e env)
  (h:wpAny (model prog w) A (eval e env) (fun o s₁=>wpAny (model prog w) A (getAttr o f true) Q E s₁) E s):wpAny (model prog w) A (eval (.Attribute e f pos) env) Q E s :=
 Attribute_any_ h (by rw [arm_eval_Attribute,hb])
end
section
variable {X:Cx} {o e value:Expr} {f:Str} {pos pos' tpos:Pos} {ta tv:TE}
end
section
variable {X:Cx} {pins:List (Addr×Obj)} {σ:St} {H:Hp} {s:Shared} {A:Around} {E:Value->Shared->Prop} {Q:Value->Shared->Prop} {c:Value} {b:Bool}
inductive TyOf (K:Frag) (H:Hp):V->Value->Prop where
 | non:TyOf K H .non (.type "NoneType")
 | bl (x:Bool):TyOf K H (.bl x) (.type "bool")
 | int (i:Int):TyOf K H (.int i) (.type "int")
 | str (x:Str):TyOf K H (.str x) (.type "str")
 | flt (x:UInt64):TyOf K H (.flt x) (.type "float")
 | lst {a:Addr} {xs:List V} (e:H a=some (.lst xs)):TyOf K H (.ref a) (.type "list")
 | frz {a:Addr} {o:Obj} {xs:List V} (e:H a=some (.frz o (.lst xs))):TyOf K H (.ref a) (.type "list")
 | tup {a:Addr} {xs:List V} (e:H a=some (.tup xs)):TyOf K H (.ref a) (.type "tuple")
 | dK {a:Addr} {kvs:List (Key×V)} (e:H a=some (.dK kvs)):TyOf K H (.ref a) (.type "dict")
 | dT {a:Addr} {kvs:List (List Key×V)} (e:H a=some (.dT kvs)):TyOf K H (.ref a) (.type "dict")
 | ins {a C dx:Addr} {fs:List (Str×V)} (e:H a=some (.ins C dx fs)) (cl:Cls K C) (ha:findIn K (.ref C) "__class__" = some (some (.builtin "object.__class__")))
   (hn:specialIn K (.builtin "object.__class__") "__get__" = some (some (.builtin "getset_descriptor.__get__"))) (htk:takesIn K (.builtin "object.__class__")=some true)
   (hm:mroIn K C (.type "object")=some true):TyOf K H (.ref a) (.ref C)
theorem Eb {x:V} {u t:Value} (I:Inv X pins σ H s) (rx:RelV x u) (ty:TyOf X.K H x t) (e:kitOne X.K t c=some b) (h:∀tk,Q (.bool b) { s with toks:=tk }) :
  wpAny (model X.prog X.w) A (call (.builtin "isinstance") [u,c]) Q E s:=by
 cases ty with
 | non=>cases (show u=Value.none from rx); exact kia_one kitx_none I.kIn True.intro e (fun z=>nomatch z) h
 | bl y=>cases (show u=Value.bool y from rx); exact kia_one kitx_bool I.kIn True.intro e (fun z=>nomatch z) h
 | int i=>obtain ⟨t,q⟩:=(show ∃t,u=Value.int i t from rx); cases q; exact kia_one kitx_int I.kIn True.intro e (fun z=>nomatch z) h
 | str y=>obtain ⟨t,q⟩:=(show ∃t,u=Value.str y t from rx); cases q; exact kia_one kitx_str I.kIn True.intro e (fun z=>nomatch z) h
 | flt y=>obtain ⟨t,q⟩:=(show ∃t,u=Value.float y t from rx); cases q; exact kia_one kitx_float I.kIn True.intro e (fun z=>nomatch z) h
 | @lst a xs ea =>
  cases (show u=Value.ref a from rx)
  obtain ⟨_,_,n,_,h1⟩:=(show ObjOk X.prog X.w H s.heap a (.lst xs) from I.hok a _ ea)
  exact kia_one kitx_list I.kIn ⟨_,h1,rfl⟩ e (fun z=>nomatch z) h
 | @frz a ob xs ea =>
  cases (show u=Value.ref a from rx)
  obtain ⟨_,_,_,n,_,h1⟩:=(show ObjOk X.prog X.w H s.heap a (.frz ob (.lst xs)) from I.hok a _ ea)
  exact kia_one kitx_list I.kIn ⟨_,h1,rfl⟩ e (fun z=>nomatch z) h
 | @tup a xs ea =>
  cases (show u=Value.ref a from rx)
  obtain ⟨_,_,_,p⟩:=(show ObjOk X.prog X.w H s.heap a (.tup xs) from I.hok a _ ea)
  obtain ⟨o,h1,h2,_⟩:=p;exact kia_one kitx_tuple I.kIn ⟨o,h1,h2⟩ e (fun z=>nomatch z) h
 | @dK a kvs ea =>
  cases (show u=Value.ref a from rx)
  obtain ⟨_,_,vs,_,p⟩:=(show ObjOk X.prog X.w H s.heap a (.dK kvs) from I.hok a _ ea)
  obtain ⟨o,es,ep,h1,h2,_⟩:=p;exact kia_one kitx_dict I.kIn ⟨o,h1,h2.1⟩ e (fun z=>nomatch z) h
 | @dT a kvs ea =>
  cases (show u=Value.ref a from rx)
  obtain ⟨_,_,xs,_,o,es,ep,h1,h2,_⟩:=(show ObjOk X.prog X.w H s.heap a (.dT kvs) from I.hok a _ ea)
  exact kia_one kitx_dict I.kIn ⟨o,h1,h2.1⟩ e (fun z=>nomatch z) h
 | @ins a C dx fs ea cl ha hn htk hm =>
  cases (show u=Value.ref a from rx)
  obtain ⟨mA,O,_⟩:=Pq I.hok ea;obtain ⟨od,J,_⟩:=O.look;exact kia_one (kitx_own (cl.get _) cl.hd ha hn htk hm) I.kIn J e (fun z=>nomatch z) h
end
structure Room (k:Nat) (A:Around):Prop where
 hd:A.handled=none
 dp:A.depth + 3 * k + 5 < recursionLimit
 un:A.units + 16 * k + 200 < cLine
theorem Room.mono {j k:Nat} {A:Around} (r:Room k A) (h:j<=k):Room j A:=⟨r.hd,by have:=r.dp; omega,by have:=r.un; omega⟩
theorem Room.deeper {k:Nat} {A:Around} (r:Room (k + 1) A) (env:Env):Room k (A.deeper env) :=
 ⟨r.hd,by have:=r.dp; show A.depth + 1 + 3 * k + 5 < _; omega,by have:=r.un; show A.units + 3 + 16 * k + 200 < _; omega⟩
theorem Room.in1 {k:Nat} {A:Around} (r:Room (k + 1) A):Room k A.in1 :=
 ⟨r.hd,by have:=r.dp; show A.depth + 3 * k + 5 < _; omega,by have:=r.un; show A.units + 1 + 16 * k + 200 < _; omega⟩
theorem Pu {A:Around} {C:Addr} {us:List Value} {kw:List (Str×Value)}:(A.under (.builtin "type.__call__" ⟨.ref C :: us,kw⟩)).depth=A.depth + 1:=by
 first | rfl | simp [Around.under,Code.weight,Code.isCreation,Code.isGuard,Code.isCaller,Code.frames,Code.isFrame,guardIds]
theorem Px {A:Around} {C:Addr} {us:List Value} {kw:List (Str×Value)}:(A.under (.builtin "type.__call__" ⟨.ref C :: us,kw⟩)).units=A.units + 1:=by
 first | rfl | simp [Around.under,Code.cUnits,Code.frames,Code.isFrame]
theorem Room.make {k:Nat} {A:Around} (r:Room (k + 1) A) (C:Addr) (us:List Value) (kw:List (Str×Value)):Room k (A.under (.builtin "type.__call__" ⟨.ref C :: us,kw⟩)) :=
 ⟨r.hd,by have:=r.dp; rw [Pu]; omega,by have:=r.un; rw [Px]; omega⟩
theorem Room.depth {k:Nat} {A:Around} (r:Room k A):A.depth < recursionLimit:=by have:=r.dp; omega
theorem Room.units {k:Nat} {A:Around} (r:Room k A):A.units + 64 < cLine:=by have:=r.un; omega
noncomputable def zF:TA:=fun _ H Q=>Q [] H
noncomputable def qI (ta:TE) (tr:TA):TA:=fun σ H Q=>ta σ H fun x H1=>tr σ H1 fun xs H2=>Q (x :: xs) H2
section
variable {X:Cx} {e:Expr} {es:List Expr} {te:TE} {t:TA} {pos:Pos}
theorem Py:PA X [] zF:=fun _ _ _ _ H Q I h=>Calls.spliced_nil ⟨[],H,I,.nil,h⟩
theorem ic' (ha:PE X e te) (hr:PA X es t) (hs:starEach (e :: es) X.env=(false,eval e X.env) :: starEach es X.env:=by rfl):PA X (e :: es) (qI te t):=by
 intro pos pins s σ H Q I h;rw [hs];show wpAny _ _ (spliced ((false,eval e X.env) :: backTo pos (starEach es X.env))) _ _ s;refine Calls.spliced_cons (gn (ha pins s σ H _ I h) fun u s1 ⟨x,H1,I1,r1,q1⟩=>?_);exact gn (hr pos pins s1 σ H1 _ I1 q1) fun us s2 ⟨xs,H2,I2,r2,q2⟩=>⟨x :: xs,H2,I2,.cons r1 r2,q2⟩
end
abbrev Sp:=List V->Hp->VK->XK->Prop
abbrev pU:=List Env->Hp->Shared->XK->Value->Shared->Prop
structure Env0 (P:Program) (w:World) (K:Frag) (mg:Str->Option Value) (base:Heap) (A:Around) (outer:List Env) (s:Shared) (H:Hp):Prop where
 frames:A.frames=some outer
 mod:Mod K mg base
 bs:∀b o,base.get? b=some o->s.heap.get? b=some o/\H b=none
 bsz:base.objs.size<=s.heap.objs.size
 funs:s.heap.FunFrames base outer
 frf:∀b∈frs outer,H b=none
 hok:HOk P w H s.heap
 bare:AllBare s.gens
noncomputable def CE (outer:List Env) (P:Program) (w:World) (H:Hp) (s:Shared) (Q:VK) (u:Value) (s':Shared):Prop :=
 ∃v H',s'.os=s.os/\AllBare s'.gens/\Un (frs outer) [] H H' s.heap s'.heap/\HOk P w H' s'.heap/\RelV v u/\Q v H'
noncomputable def CR (CX:pU) (outer:List Env) (P:Program) (w:World) (H:Hp) (s:Shared) (Q:VK) (E:XK) (r:Result) (s':Shared):Prop :=
 match r with
 | .ok (.ret u)=>CE outer P w H s Q u s'
 | .ok _=>False
 | .error e=>CX outer H s E e s'
structure FnOk (P:Program) (w:World) (K:Frag) (mg:Str->Option Value) (base:Heap) (CX:pU) (k:Nat) (f:Addr) (fd:FuncData) (ps:List Str) (sp:Sp):Prop where
 len:∀vs H Q E,sp vs H Q E->vs.length=ps.length
 run:∀(A:Around) (outer:List Env) (s:Shared) (H:Hp) (args:Args) (us:List Value) (vs:List V) (Q:VK) (E:XK),Room k A->Env0 P w K mg base A outer s H->BindsTo s fd args (ps.zip us)->Vals vs us->sp vs H Q E ->
  codeAny (model P w) A (.call (.ref f) args) (CR CX outer P w H s Q E) s
theorem FnOk.mono {P:Program} {w:World} {K:Frag} {mg:Str->Option Value} {base:Heap} {CX:pU} {j k:Nat} {f:Addr} {fd:FuncData} {ps:List Str} {sp:Sp} (F:FnOk P w K mg base CX j f fd ps sp) (h:j<=k) :
  FnOk P w K mg base CX k f fd ps sp:=⟨F.len,fun A outer s H args us vs Q E hr=>F.run A outer s H args us vs Q E (hr.mono h)⟩
theorem Env0.make {P:Program} {w:World} {K:Frag} {mg:Str->Option Value} {base:Heap} {A:Around} {outer:List Env} {s:Shared} {H:Hp} (e:Env0 P w K mg base A outer s H) (C:Addr) (us:List Value) (kw:List (Str×Value)) :
  Env0 P w K mg base (A.under (.builtin "type.__call__" ⟨.ref C :: us,kw⟩)) outer s H:=⟨by first | exact e.frames | (simpa [Around.under,Code.envs,Code.isFrame,pushEnvs] using e.frames),e.mod,e.bs,e.bsz,e.funs,e.frf,e.hok,e.bare⟩
theorem Env0.in1 {P:Program} {w:World} {K:Frag} {mg:Str->Option Value} {base:Heap} {A:Around} {outer:List Env} {s:Shared} {H:Hp} (e:Env0 P w K mg base A outer s H) :
  Env0 P w K mg base A.in1 outer s H:=⟨e.frames,e.mod,e.bs,e.bsz,e.funs,e.frf,e.hok,e.bare⟩
section
variable {X:Cx} {pins:List (Addr×Obj)} {σ:St} {H:Hp} {s s':Shared}
theorem Inv.env0 (I:Inv X pins σ H s):Env0 X.prog X.w X.K X.mg X.base X.A X.stack s H :=
 ⟨I.ok.frames,I.ok.mod,I.bs,Nat.le_trans I.ok.bsz I.sz,I.stack,I.stkFree,I.hok,I.bare⟩
theorem Inv.after {Q:VK} {u:Value} (I:Inv X pins σ H s) (h:CE X.stack X.prog X.w H s Q u s'):EP X pins σ Q u s':=by
 obtain ⟨v,H',os,bare,un,hok,r,q⟩:=h;obtain ⟨hh,g,d,t,os'⟩:=s';obtain rfl:os'=s.os:=os;exact ⟨v,H',I.call (h':=hh) (g':=g) (d':=d) (t':=t) (ch:=[]) un hok bare (fun b z=>absurd z (by simp)),r,q⟩
end
noncomputable def Binds (K:Frag) (fd:FuncData) (ps:List Str) (ds:List Value):Prop :=
 ∀(s:Shared) (us:List Value),K.In s.heap->(us ++ ds).length=ps.length->BindsTo s fd ⟨us,[]⟩ (ps.zip (us ++ ds))
theorem Binds.all {K:Frag} {fd:FuncData} {ps:List Str} (h:∀us:List Value,us.length=ps.length->bindArgs fd ⟨us,[]⟩=pure (ps.zip us)):Binds K fd ps []:=fun s us _ hl=>by
 rw [append_nil] at hl ⊢;exact .of_eq (h us hl)
noncomputable def xg (CX:pU) (X:Cx) (E:XK):Prop:=∀(pins:List (Addr×Obj)) (σ:St) (H:Hp) (s:Shared) (e:Value) (s':Shared),Inv X pins σ H s->CX X.stack H s E e s'->X.xe e s'
section
variable {X:Cx} {CX:pU} {k:Nat} {f C:Addr} {fd:FuncData} {ps:List Str} {sp:Sp} {dvs:List V} {ds:List Value} {E:XK} {x m:Str} {p pos apos:Pos} {e o:Expr} {es:List Expr} {ta:TE} {t:TA}
theorem kE' {pins:List (Addr×Obj)} {σ:St} {H:Hp} {s:Shared} {Q:VK} {us:List Value} {vs:List V} (F:FnOk X.prog X.w X.K X.mg X.base CX k f fd ps sp) (hr:Room k X.A) (hb:Binds X.K fd ps ds) (hd:Vals dvs ds) (hx:xg CX X E)
  (I:Inv X pins σ H s) (r:Vals vs us) (h:sp (vs ++ dvs) H Q E):wpAny (model X.prog X.w) X.A (call (.ref f) us) (EP X pins σ Q) X.xe s:=by
 have r2:Vals (vs ++ dvs) (us ++ ds):=r.append hd;have hl:(us ++ ds).length=ps.length:=by rw [<- r2.length]; exact F.len _ _ _ _ h
 refine wpAny_call (codeAny_mono (F.run X.A X.stack s H ⟨us,[]⟩ (us ++ ds) (vs ++ dvs) Q E hr I.env0 (hb s us I.kIn hl) r2 h) fun r s' hq=>?_)
 cases r with
 | error e=>exact hx pins σ H s e s' I hq
 | ok fl =>
  cases fl with
  | ret u=>exact I.after hq
  | next=>exact False.elim hq
  | brk=>exact False.elim hq
  | cont=>exact False.elim hq
structure Mk (K:Frag) (C f:Addr):Prop where
 makes:makesIn K C=true
 init:findIn K (.ref C) "__init__" = some (some (.ref f))
 fn:isFn K (.ref f)=true
 kp:keepIn K (.ref C)=true
end
section
variable {X:Cx} {CX:pU} {k:Nat} {f C:Addr} {fd:FuncData} {ps ks:List Str} {sp:Sp} {E:XK} {x m:Str} {p pos apos kpos:Pos} {e o:Expr} {es:List Expr} {kws:List Keyword} {te ta:TE} {t tk:TA} {nm:Option Str}
structure KBinds (K:Frag) (fd:FuncData) (ps ks:List Str) (g:List Value->List Value->List Value) (gV:List V->List V->List V):Prop where
 to:∀(s:Shared) (us ws:List Value),K.In s.heap->(g us ws).length=ps.length->BindsTo s fd ⟨us,ks.zip ws⟩ (ps.zip (g us ws))
 rel:∀{vs:List V} {us:List Value} {zs:List V} {ws:List Value},Vals vs us->Vals zs ws->Vals (gV vs zs) (g us ws)
variable {g:List Value->List Value->List Value} {gV:List V->List V->List V}
end
structure FnScope (N P:List Str) (sc:Scope):Prop where
 kind:sc.kind=.function
 co:sc.isCoroutine=false
 gen:sc.isGenerator=false
 nd:N.Nodup
 pre:N.take P.length=P
 par:∀x∈P,sc.names.lookup x=some .local\/sc.names.lookup x=some .cell
 nofree:∀y∈sc.names,y.2≠.free
theorem JM {kindOf:Str->Option NameKind} {x:Str}:∀{binds:List (Str×Value)} {m:Str->Option Value},(∀v,(x,v)∉binds)->bindL kindOf binds m x=m x
 | [],_,_=>rfl
 | (n,v) :: r,m,h=>by
  unfold bindL;rw [JM fun w hw=>h w (mem_cons_of_mem _ hw)]
  split
  ·have:x≠n:=by rintro rfl; exact h v mem_cons_self
   simp [this]
  ·rfl
theorem JN {kindOf:Str->Option NameKind} {x:Str}:∀{binds:List (Str×Value)} {m:Str->Option Value},(∀v,(x,v)∉binds)->bindC kindOf binds m x=m x
 | [],_,_=>rfl
 | (n,v) :: r,m,h=>by
  unfold bindC;rw [JN fun w hw=>h w (mem_cons_of_mem _ hw)]
  split
  ·rfl
  ·have:x≠n:=by rintro rfl; exact h v mem_cons_self
   simp [this]
theorem JP {kindOf:Str->Option NameKind} {x:Str} {v:Value}:∀{P:List Str} {vs:List Value} {i:Nat} {m:Str->Option Value},P.Nodup->P[i]? = some x->vs[i]? = some v->kindOf x=some .local ->
  bindL kindOf (P.zip vs) m x=some v
 | [],_,_,_,_,h,_,_=>by simp at h
 | _ :: _,[],_,_,_,_,h,_=>by simp at h
 | p :: P,w :: vs,0,m,nd,h1,h2,hk=>by
  simp at h1 h2; subst h1; subst h2;show bindL kindOf ((p,w) :: P.zip vs) m p=_;unfold bindL;rw [JM fun v hv=>(nodup_cons.mp nd).1 (of_mem_zip hv).1,if_pos hk];simp
 | p :: P,w :: vs,i + 1,m,nd,h1,h2,hk=>by
  show bindL kindOf ((p,w) :: P.zip vs) m x=_;unfold bindL;exact JP (i:=i) (nodup_cons.mp nd).2 (by simpa using h1) (by simpa using h2) hk
theorem JQ {kindOf:Str->Option NameKind} {x:Str} {v:Value}:∀{P:List Str} {vs:List Value} {i:Nat} {m:Str->Option Value},P.Nodup->P[i]? = some x->vs[i]? = some v->kindOf x≠some .local ->
  bindC kindOf (P.zip vs) m x=some v
 | [],_,_,_,_,h,_,_=>by simp at h
 | _ :: _,[],_,_,_,_,h,_=>by simp at h
 | p :: P,w :: vs,0,m,nd,h1,h2,hk=>by
  simp at h1 h2; subst h1; subst h2;show bindC kindOf ((p,w) :: P.zip vs) m p=_;unfold bindC;rw [JN fun v hv=>(nodup_cons.mp nd).1 (of_mem_zip hv).1,if_neg hk];simp
 | p :: P,w :: vs,i + 1,m,nd,h1,h2,hk=>by
  show bindC kindOf ((p,w) :: P.zip vs) m x=_;unfold bindC;exact JQ (i:=i) (nodup_cons.mp nd).2 (by simpa using h1) (by simpa using h2) hk
noncomputable def start (N:List Str) (vs:List V):St:=vs.map some ++ List.replicate (N.length - vs.length) none
noncomputable def e_ (CX:pU) (P:Program) (w:World) (K:Frag) (mg:Str->Option Value) (base:Heap) (N:List Str) (qual:Str) (scope:Scope) (f:Addr) (cd:Value) (A:Around) (outer:List Env) (s:Shared) (H:Hp) (E:XK):Cx where
 prog:=P
 w:=w
 K:=K
 mg:=mg
 base:=base
 A:=A.deeper (envOfC qual scope s.heap.objs.size f cd)
 N:=N
 s₀:=s
 H₀:=H
 env:=envOfC qual scope s.heap.objs.size f cd
 outer:=outer
 stack:=envOfC qual scope s.heap.objs.size f cd :: outer
 ex:=[]
 calm:=true
 fn:=fun _=>true
 pn:=[]
 xe:=fun e s'=>wpAny (model P w) (A.deeper (envOfC qual scope s.heap.objs.size f cd)) (leaving (envOfC qual scope s.heap.objs.size f cd) e) (fun _ s''=>CX outer H s E e s'') (fun e' s''=>CX outer H s E e' s'') s'
theorem ek' {sc:Scope} {n:Nat} {x:Str} (h:sc.names.lookup x=some .cell):∃c,(cellsFrom n sc.names []).lookup x=some c:=by
 have q:=cellsFrom_some sc.names n [] (.inl h);exact Option.isSome_iff_exists.mp q
theorem id' {CX:pU} {P:Program} {w:World} {K:Frag} {mg:Str->Option Value} {base:Heap} {N ps:List Str} {qual:Str} {scope:Scope} {f:Addr} {cd:Value} {A:Around} {outer:List Env} {s s1:Shared} {H:Hp} {E:XK} {us:List Value} {vs:List V}
  (S:FnScope N ps scope) (hd:A.handled=none) (e0:Env0 P w K mg base A outer s H) (hl:vs.length=ps.length) (r:Vals vs us)
  (x:InCallC s s.heap.objs.size (bindL (envOfC qual scope s.heap.objs.size f cd).kindOf (ps.zip us) fun _=>none) (cellsFrom (s.heap.objs.size + 1) scope.names []) (bindC (envOfC qual scope s.heap.objs.size f cd).kindOf (ps.zip us) fun _=>none) s1) :
  Inv (e_ CX P w K mg base N qual scope f cd A outer s H E) [] (start N vs) H s1:=by
 have hpl:ps.length<=N.length:=by have:=congrArg List.length S.pre; rw [length_take] at this; omega
 obtain ⟨h1,tk,rfl,hk⟩:=x.done
 have noA:∀b:Addr,b∉(e_ CX P w K mg base N qual scope f cd A outer s H E).ex:=fun b z=>absurd (show b∈([]:List Addr) from z) (by simp)
 refine ⟨⟨e0.mod,S.kind,rfl,rfl,Nat.le_refl _,fun y z c h1 h2=>?_,fun y hy=>?_,fun y c _ h=>?_,fun _=>hd,Around.frames_deeper e0.frames,.inr ⟨rfl,rfl⟩,fun b z=>absurd z (noA b),e0.bs,e0.bsz,fun b _ _=>noA b,fun b z=>absurd z (noA b),e0.funs,e0.frf⟩,
  rfl,e0.bare,Un.kept hk,⟨_,x.toInCall.ns,fun i y v h1 h2 h3=>?_⟩,fun y c h=>⟨_,x.cell y c h⟩,e0.hok.fresh (Nat.le_refl _),fun y c h=>?_,fun p hp=>absurd (show p∈([]:List (Addr×Obj)) from hp) (by simp),e0.hok.kept hk,?_⟩
 ·exact name_of_addr x.apart (PySem.mem_of_lookup h1) (PySem.mem_of_lookup h2)
 ·have hy:scope.names.lookup y=some .cell\/scope.names.lookup y=some .free:=hy;rcases hy with hy | hy
  ·exact ek' hy
  ·exact absurd rfl (S.nofree _ (PySem.mem_of_lookup hy))
 ·exact Nat.le_of_lt (x.above y c (PySem.mem_of_lookup h))
 ·have hi:i < vs.length:=by
   unfold start at h2
   by_cases hi:i < vs.length
   ·exact hi
   ·rw [List.getElem?_append_right (by simpa using hi)] at h2;rw [List.getElem?_replicate] at h2
    split at h2 <;> cases h2
  have ha:vs[i]? = some v:=by
   unfold start at h2;rw [List.getElem?_append_left (by simpa using hi),List.getElem?_map] at h2
   cases e:vs[i]? with
   | none=>rw [e] at h2; cases h2
   | some a=>rw [e] at h2; cases h2; rfl
  obtain ⟨u,hu,rv⟩:=r.get ha;have hp:ps[i]? = some y:=by
   rw [<- S.pre,List.getElem?_take_of_lt (by omega)]; exact h1
  have ndP:ps.Nodup:=by rw [<- S.pre]; exact S.nd.sublist (take_sublist _ _)
  refine ⟨u,rv,?_⟩;rcases S.par y (mem_of_getElem? hp) with k | k
  ·exact .inl ⟨k,JP ndP hp hu k⟩
  ·obtain ⟨c,e⟩:=ek' (n:=s.heap.objs.size + 1) k;refine .inr ⟨.inl k,c,e,?_⟩;have q:=x.cell y c e;rw [JQ ndP hp hu (by show scope.names.lookup y≠_; rw [k]; decide)] at q;exact q
 ·exact e0.hok.fresh (Nat.le_of_lt (x.above y c (PySem.mem_of_lookup h)))
 ·unfold start;show _=N.length;rw [length_append,length_map,length_replicate];omega
theorem Ec {CX:pU} {P:Program} {w:World} {K:Frag} {mg:Str->Option Value} {base:Heap} {k:Nat} {f:Addr} {name qual:Str} {params:Arguments} {body:List Stmt} {scope:Scope} {dV kV doc pm cdv ct oc:Value} {an od:Option Addr}
  {osl:Array (Option Value)} {N ps:List Str} {sp:Sp} (lk:K.lookup f=some ⟨oc,od,.func (fnOf name qual params body scope dV kV doc pm an cdv ct),osl⟩) (hcd:codeIn K cdv qual=true) (S:FnScope N ps scope)
  (len:∀vs H Q E,sp vs H Q E->vs.length=ps.length)
  (hbody:∀(A:Around) (outer:List Env) (s:Shared) (H:Hp) (vs:List V) (Q:VK) (E:XK),Room k (A.deeper (envOfC qual scope s.heap.objs.size f cdv))->sp vs H Q E ->
   ∃t,PSs (e_ CX P w K mg base N qual scope f cdv A outer s H E) body t/\t { nx:=fun _ H'=>Q .non H',rt:=Q } (start N vs) H) :
  FnOk P w K mg base CX (k + 1) f (fnOf name qual params body scope dV kV doc pm an cdv ct) ps sp:=by
 refine ⟨len,fun A outer s H args us vs Q E hr e0 hb r hsp=>?_⟩;have hl:=len _ _ _ _ hsp;have KX:K.In s.heap:=e0.mod.kin.keeps fun b o e=>(e0.bs b o e).1;have lim:s.heap.NoLimit:=e0.mod.nolimit.keeps fun b o e=>(e0.bs b o e).1;have hkind:∀y∈ps.zip us,scope.names.lookup y.1=some .local\/(scope.names.lookup y.1=some .cell/\((cellsFrom (s.heap.objs.size + 1) scope.names []).lookup y.1).isSome=true):=fun ⟨n,v⟩ hy=>by
  rcases S.par n (of_mem_zip hy).1 with q | q
  ·exact .inl q
  ·exact .inr ⟨q,cellsFrom_some _ _ _ (.inl q)⟩
 refine codeAny_call_function hr.depth (KX _ _ lk) rfl S.co S.gen rfl (codeRec_of KX hcd) (hb _ _ _ _ ?_);refine wpAny_newFunctionEnv_cells S.kind hkind fun env he s1 x=>?_;subst he;refine ⟨lim.keeps x.toInCall.keep,codeAny_func ?_⟩;obtain ⟨t,ht,hq⟩:=hbody A outer s H vs Q E (hr.deeper _) hsp;have I:Inv (e_ CX P w K mg base N qual scope f cdv A outer s H E) [] (start N vs) H s1:=id' S hr.hd e0 hl r x;refine wpAny_mono (ht [] s1 (start N vs) H _ I hq) (fun fl s' hs=>?_) fun e s' hs=>hs;have fin:∀{σ':St} {H':Hp} {v:V} {u:Value},Inv (e_ CX P w K mg base N qual scope f cdv A outer s H E) [] σ' H' s'->RelV v u->Q v H'->CE outer P w H s Q u s' :=
  fun {σ' H' v u} J rv q=>⟨v,H',J.os,J.bare,J.base,J.hok,rv,q⟩
 cases fl with
 | ret u =>
  obtain ⟨v,σ',H',J,rv,q⟩:=hs;exact fin J rv q
 | next =>
  obtain ⟨σ',H',J,q⟩:=hs;exact fin (v:=V.non) (u:=Value.none) J rfl q
 | brk =>
  obtain ⟨_,_,_,q⟩:=hs;exact False.elim q
 | cont =>
  obtain ⟨_,_,_,q⟩:=hs;exact False.elim q
section
variable {X:Cx} {x:Str} {p pos:Pos} {e:Expr} {es:List Expr} {t:TA} {id T:String} {r:List V->Hp->VK->Prop}
end
end L2
namespace HT
open PySem PyProof.Rows
section
open PySem.SeqAt
open PySem.AutoSeq1 (wpAny_loadPart')
open PySem.MeetsSeq PySem.MeetsSeq2 PySem.MeetsSeq3
end
section
variable {prog:Program} {w:World} {A:Around} {E:Value->Shared->Prop} {s:Shared}
theorem cat_tup {t b:Addr} {vs ws:List Value} {Q:Value->Shared->Prop} (ht:IsTup s.heap t vs.toArray) (hb:IsTup s.heap b ws.toArray) (hv:vs≠[])
  (h1:ws=[]->Q (.ref t) s) (h2:ws≠[]->Q (.ref s.heap.objs.size) { s with heap:=s.heap.push { cls:=.type "tuple",data:=.seq (vs ++ ws).toArray } })
  (hsz:vs.length + ws.length<=sizeLine):wpAny (model prog w) A (binaryOp .Add (.ref t) (.ref b)) Q E s:=by
 obtain ⟨⟨cls,dd,data,sl⟩,ho,hc,n,hd⟩:=id ht;obtain ⟨⟨cls2,dd2,data2,sl2⟩,ho2,hc2,n2,hd2⟩:=id hb;simp only at hc hd hc2 hd2;subst hc hd hc2 hd2;have e:vs.toArray ++ ws.toArray=(vs ++ ws).toArray:=by simp
 by_cases hw:ws=[]
 ·exact concat_meets ⟨_,ho,rfl⟩ ⟨_,ho2,rfl⟩ noFill_tuple_add seq_tuple_add PySem.F.slot_tuple_add PySem.F.entry_tuple_add (PySem.F.args_tuple_add_2 _ _)
   (tuple_addW1 t b vs.toArray ws.toArray n n2 dd dd2 sl sl2 (by simpa using hv) (by simp [hw])) ⟨ho,ho2,h1 hw⟩
 ·refine concat_meets ⟨_,ho,rfl⟩ ⟨_,ho2,rfl⟩ noFill_tuple_add seq_tuple_add PySem.F.slot_tuple_add PySem.F.entry_tuple_add (PySem.F.args_tuple_add_2 _ _)
   (tuple_addW2 t b vs.toArray ws.toArray n n2 dd dd2 sl sl2 (by simpa using hv) (by simpa using hw) (by rw [size_toArray,size_toArray]; exact hsz)) ⟨ho,ho2,?_⟩
  rw [e];exact h2 hw
noncomputable def sIx (n d:Nat):Option Int->Nat
 | none=>d
 | some v=>if v < 0 then (v + (n:Int)).toNat else min v.toNat n
theorem sIx_none (n d:Nat):sIx n d none=d:=rfl
theorem sIx_nat (n d k:Nat):sIx n d (some (k:Int))=min k n:=by
 show (if (k:Int) < 0 then ((k:Int) + (n:Int)).toNat else min (k:Int).toNat n)=min k n
 rw [if_neg (by omega),Int.toNat_natCast]
theorem Pz (n d:Nat) (hd:d<=n) (o:Option Int):sIx n d o<=n:=by
 cases o with
 | none=>exact hd
 | some v =>
  show (if v < 0 then (v + (n:Int)).toNat else min v.toNat n)<=n
  by_cases hv:v < 0
  ·rw [if_pos hv]; omega
  ·rw [if_neg hv]; exact Nat.min_le_right _ _
theorem JR (v:Int) (n d:Nat):(if v < 0 then max (v + (n:Int)) 0 else min v (n:Int))=((sIx n d (some v):Nat):Int):=by
 show (if v < 0 then max (v + (n:Int)) 0 else min v (n:Int))=(((if v < 0 then (v + (n:Int)).toNat else min v.toNat n):Nat):Int)
 by_cases hv:v < 0
 ·simp only [if_pos hv]; omega
 ·simp only [if_neg hv]; omega
theorem PB (lo hi:Option Int) (n:Nat):Builtin.Slice.sliceAdjust lo hi 1 (n:Int)=(((sIx n 0 lo:Nat):Int),((sIx n n hi:Nat):Int)):=by
 have h1:¬((1:Int) < 0):=by omega
 unfold Builtin.Slice.sliceAdjust;simp only [h1,if_false];refine Prod.ext ?_ ?_
 ·cases lo with
  | none=>rfl
  | some v=>exact JR v n 0
 ·cases hi with
  | none=>rfl
  | some v=>exact JR v n n
theorem PJ (i j:Nat):Builtin.Slice.slicePlaces (i:Int) (j:Int) 1=j - i:=by
 unfold Builtin.Slice.slicePlaces;have h1:(1:Int) > 0:=by omega
 simp only [h1,if_true,Int.ediv_one]
 split <;> omega
theorem JS {v:Value} {o:Option Int} {Q:Option Int->Shared->Prop} (p:IsPart v o) (h:Q o s):wpAny (model prog w) A (Builtin.Slice.slicePartIndex v) Q E s:=by
 cases p with
 | none=>exact slicePart_none h
 | int i t=>exact slicePart_int h
theorem JT {sl:Addr} {vl vu:Value} {lo hi:Option Int} {n:Nat} {Q:Int×Int×Nat->Shared->Prop} (hs:s.heap.IsSliceOf sl vl vu .none) (pl:IsPart vl lo) (pu:IsPart vu hi)
  (h:Q (((sIx n 0 lo:Nat):Int),1,sIx n n hi - sIx n 0 lo) s):wpAny (model prog w) A (Builtin.Slice.sliceApplied (.ref sl) (pure (n:Int))) Q E s:=by
 obtain ⟨os,hos,hcs,hds⟩:=id hs;unfold Builtin.Slice.sliceApplied Builtin.Slice.sliceFields;refine wpAny_bind (wpAny_bind (wpAny_field hos hds (x:=vl) rfl (wpAny_bind (wpAny_field hos hds (x:=vu) rfl (wpAny_bind (wpAny_field hos hds (x:=.none) rfl (wpAny_pure ?_)))))));refine wpAny_bind (slicePart_none ?_);show wpAny _ _ (if ((1:Int) == 0)=true then _ else _) _ _ s
 rw [if_neg (by decide)];refine wpAny_bind (JS pl (wpAny_bind (JS pu (wpAny_bind (wpAny_pure ?_)))));show wpAny _ _ (match Builtin.Slice.sliceAdjust lo hi 1 (n:Int) with | (lo,hi)=>pure (lo,(1:Int),Builtin.Slice.slicePlaces lo hi 1)) _ _ s
 rw [PB lo hi n];show wpAny _ _ (pure (((sIx n 0 lo:Nat):Int),(1:Int),Builtin.Slice.slicePlaces ((sIx n 0 lo:Nat):Int) ((sIx n n hi:Nat):Int) 1)) _ _ s;rw [PJ];exact wpAny_pure h
theorem PK (xs:Array Value) (i k:Nat):((List.range k).filterMap fun (m:Nat)=>xs[((i:Int) + (m:Int) * 1).toNat]?).toArray=((xs.toList.drop i).take k).toArray:=by
 have e:(fun (m:Nat)=>xs[((i:Int) + (m:Int) * 1).toNat]?)=fun m=>xs[i + m]?:=by
  funext m
  have:((i:Int) + (m:Int) * 1).toNat=i + m:=by omega
  rw [this]
 rw [e];have:=pick_run xs i k;rw [filterMap_map] at this;have e2:((fun x=>xs[x]?) ∘ fun x=>i + x)=fun m=>xs[i + m]?:=rfl;rw [e2] at this;rw [this]
theorem getItem_tuple_cut {t sl:Addr} {items:Array Value} {vl vu:Value} {lo hi:Option Int} {Q:Value->Shared->Prop} (ht:IsTup s.heap t items) (hs:s.heap.IsSliceOf sl vl vu .none) (pl:IsPart vl lo) (pu:IsPart vu hi)
  (hw:¬(sIx items.size 0 lo=0/\sIx items.size items.size hi=items.size))
  (h:Q (.ref s.heap.objs.size) { s with heap:=s.heap.push { cls:=.type "tuple",data:=.seq ((items.toList.drop (sIx items.size 0 lo)).take (sIx items.size items.size hi - sIx items.size 0 lo)).toArray } })
  (hsz:items.size<=sizeLine):wpAny (model prog w) A (getItem (.ref t) (.ref sl)) Q E s:=by
 have htake:sizeOk (.seq ((items.toList.drop (sIx items.size 0 lo)).take (sIx items.size items.size hi - sIx items.size 0 lo)).toArray):=by
  show ((items.toList.drop (sIx items.size 0 lo)).take (sIx items.size items.size hi - sIx items.size 0 lo)).toArray.size<=sizeLine;rw [size_toArray,length_take,length_drop,Array.length_toList];omega
 have hj:sIx items.size items.size hi<=items.size:=Pz _ _ (Nat.le_refl _) hi;obtain ⟨os,hos,hcs,hds⟩:=id hs;have hTs:s.TypeIs (.ref sl) "slice":=⟨os,hos,hcs⟩;unfold getItem
 try with_reducible refine wpAny_holding ?_
 first | refine wpAny_bind (wpAny_pure ?_) | skip
 refine wpAny_bind (wpAny_sequenceKey ht.typeIs (by decide) ?_);refine wpAny_bind (wpAny_callSpecial?_slot (name:=Str.ofString "__getitem__") ht.typeIs PyProof.Rows.slot_tuple_getitem
  (wpAny_call_entry PyProof.Rows.slot_tuple_getitem ht.typeIs entry_tuple_getitem ?_ (args_tuple_getitem _ _)))
 show wpAny _ _ (Builtin.Tuple.tupleItemsOf (.ref t) >>= _) _ _ s;refine wpAny_bind (tupleItemsOf_ ht ?_);refine wpAny_bind (wpAny_typeOf hTs ?_);rw [if_pos (by decide)];refine wpAny_bind (JT hs pl pu ?_);have hno:¬((((sIx items.size 0 lo:Nat):Int) == 0 && (1:Int) == 1 && (sIx items.size items.size hi - sIx items.size 0 lo) == items.size)=true):=by
  intro q;rw [Bool.and_eq_true,Bool.and_eq_true] at q;have q1:((sIx items.size 0 lo:Nat):Int)=0:=eq_of_beq q.1.1;have q2:sIx items.size items.size hi - sIx items.size 0 lo=items.size:=eq_of_beq q.2;exact hw ⟨by omega,by omega⟩
 show wpAny _ _ (if (((sIx items.size 0 lo:Nat):Int) == 0 && (1:Int) == 1 && (sIx items.size items.size hi - sIx items.size 0 lo) == items.size)=true then _ else _) _ _ s
 rw [if_neg hno,PK]
 first
  | exact wpAny_bind (m:=Builtin.Tuple.tupleExact _) (wpAny_newObj_type (wpAny_pure ⟨_,rfl,wpAny_pure h⟩) htake)
  | exact wpAny_bind (m:=Builtin.Tuple.tupleExact _) (wpAny_newObj_type (wpAny_bind (wpAny_pure (wpAny_pure ⟨_,rfl,wpAny_pure h⟩))) htake)
  | exact wpAny_bind (wpAny_bind (m:=Builtin.Tuple.tupleExact _) (wpAny_newObj_type (wpAny_pure (wpAny_pure ⟨_,rfl,wpAny_pure h⟩)) htake))
  | exact wpAny_bind (wpAny_bind (m:=Builtin.Tuple.tupleExact _) (wpAny_newObj_type (wpAny_pure ⟨_,rfl,wpAny_pure h⟩) htake))
end
end HT
namespace L2
open PySem PySem.Spec PyProof.Rows
abbrev TO:=St->Hp->(Option Int->Hp->Prop)->Prop
section
variable {X:Cx} {e:Expr} {te:TE} {lo hi:Option Expr} {tl th:TO} {pos p2:Pos}
noncomputable def SlR (X:Cx) (r:V->Option Int->Option Int->Hp->VK->Prop):Prop :=
 ∀(pins:List (Addr×Obj)) (s:Shared) (σ:St) (H:Hp) (x:V) (v vl vu:Value) (lo hi:Option Int) (sl:Addr) (Q:VK),Inv X pins σ H s->RelV x v->s.heap.IsSliceOf sl vl vu .none->IsPart vl lo->IsPart vu hi->r x lo hi H Q ->
  ∃T id,typeLookup (.type T) "__getitem__" = pure (some (.builtin id))/\s.TypeIs v T/\wpAny (model X.prog X.w) X.A (getItem v (.ref sl)) (EP X pins σ Q) X.xe s
theorem SlR.or {r r':V->Option Int->Option Int->Hp->VK->Prop} (h:SlR X r) (h':SlR X r'):SlR X (fun x lo hi H Q=>r x lo hi H Q\/r' x lo hi H Q):=by
 intro pins s σ H x v vl vu lo hi sl Q I rx hs pl pu q;rcases q with q | q
 ·exact h pins s σ H x v vl vu lo hi sl Q I rx hs pl pu q
 ·exact h' pins s σ H x v vl vu lo hi sl Q I rx hs pl pu q
noncomputable def lK (xs:List V) (lo hi:Option Int):List V:=(xs.drop (HT.sIx xs.length 0 lo)).take (HT.sIx xs.length xs.length hi - HT.sIx xs.length 0 lo)
theorem JV (xs:List V) (lo hi:Option Int):(lK xs lo hi).length<=xs.length:=by
 unfold lK;rw [length_take,length_drop];omega
noncomputable def zG (K:Frag):V->Option Int->Option Int->Hp->VK->Prop:=fun x lo hi H Q=>∃a xs,x=.ref a/\SqT K H a xs /\
 ¬(HT.sIx xs.length 0 lo=0/\HT.sIx xs.length xs.length hi=xs.length)/\∀p,H p=none->Q (.ref p) (upd H p (.tup (lK xs lo hi)))
theorem sl_tup:SlR X (zG X.K):=by
 intro pins s σ H x v vl vu lo hi sl Q I rx hs pl pu h;obtain ⟨a,xs,rfl,hx,hw,q⟩:=h
 cases rx
 obtain ⟨its,r,ht,hz⟩:=I.tuple hx;have hlen:its.toArray.size=xs.length:=by rw [size_toArray]; exact r.length.symm
 refine ⟨"tuple",_,PyProof.Rows.slot_tuple_getitem.lookup,ht.typeIs,?_⟩;refine HT.getItem_tuple_cut ht hs pl pu (by rw [hlen]; exact hw) ?_ (by rw [hlen]; exact hz);rw [hlen];refine ⟨.ref s.heap.objs.size,_,I.laid (t':=s.toks) (o:=.tup (lK xs lo hi)) (fun b ob q=>Heap.get?_push_of_some _ q) (Nat.le_refl _) ?_,rfl,q _ (I.hok.fresh (Nat.le_refl _))⟩;exact ⟨Nat.le_trans (JV xs lo hi) hz,_,(r.drop (HT.sIx xs.length 0 lo)).take (HT.sIx xs.length xs.length hi - HT.sIx xs.length 0 lo),IsTup.new _ _⟩
noncomputable def wj (K:Frag):R2:=fun x y H Q=>∃a b xs ys,x=.ref a/\y=.ref b/\SqT K H a xs/\SqT K H b ys/\xs≠[]/\xs.length + ys.length<=sizeLine /\
 (ys=[]->Q (.ref a) H)/\(ys≠[]->∀p,H p=none->Q (.ref p) (upd H p (.tup (xs ++ ys))))
theorem Vals.nil_iff {xs:List V} {us:List Value} (r:Vals xs us):us=[]↔xs=[]:=by
 cases r with
 | nil=>simp
 | cons _ _=>simp
theorem PL:OpR X (binaryOp .Add) (wj X.K):=by
 intro pins s σ H x y v u Q I rx ry h;obtain ⟨a,b,xs,ys,rfl,rfl,ha,hb,hx,hz,q1,q2⟩:=h
 cases rx
 cases ry
 obtain ⟨its,r1,p1,_⟩:=I.tuple ha;obtain ⟨its2,r2,p2,_⟩:=I.tuple hb;refine HT.cat_tup p1 p2 (fun z=>hx (r1.nil_iff.mp z)) (fun z=>⟨.ref a,H,I,rfl,q1 (r2.nil_iff.mp z)⟩) (fun z=>?_) (by rw [<- r1.length,<- r2.length]; exact hz);refine ⟨.ref s.heap.objs.size,_,I.laid (t':=s.toks) (o:=.tup (xs ++ ys)) (fun b ob q=>Heap.get?_push_of_some _ q) (Nat.le_refl _) ?_,rfl,q2 (fun w=>z (r2.nil_iff.mpr w)) _ (I.hok.fresh (Nat.le_refl _))⟩;exact ⟨by rw [length_append]; exact hz,_,r1.append r2,IsTup.new _ _⟩
end
noncomputable def jY (n:Nat) (i:Int):Option Nat:=if 0<=i then (if i < n then some i.toNat else none) else if -(n:Int)<=i then some (i + n).toNat else none
noncomputable def jG {α:Type} (xs:List α) (i:Int):Option α:=(jY xs.length i).bind fun j=>xs[j]?
theorem if' {n:Nat} {i:Int} {j:Nat} (h:jY n i=some j):seqIndex? i n=some j/\j < n/\-(n:Int)<=i/\i < n:=by
 unfold jY at h
 by_cases h0:0<=i
 ·rw [if_pos h0] at h
  by_cases h1:i < n
  ·rw [if_pos h1] at h;have e:i.toNat=j:=Option.some.inj h;exact ⟨by rw [seqIndex_of h0 h1,e],by omega,by omega,h1⟩
  ·rw [if_neg h1] at h; cases h
 ·rw [if_neg h0] at h
  by_cases h1:-(n:Int)<=i
  ·rw [if_pos h1] at h;have e:(i + n).toNat=j:=Option.some.inj h;exact ⟨by rw [seqIndex_neg (by omega) h1,e],by omega,h1,by omega⟩
  ·rw [if_neg h1] at h; cases h
theorem Gp {α:Type} {xs:List α} {i:Int} {v:α} (h:jG xs i=some v):∃j,seqIndex? i xs.length=some j/\xs[j]? = some v/\j < xs.length/\-(xs.length:Int)<=i/\i < xs.length:=by
 unfold jG at h
 cases e:jY xs.length i with
 | none=>rw [e] at h; cases h
 | some j =>
  rw [e] at h;obtain ⟨h1,h2,h3,h4⟩:=if' e
  exact ⟨j,h1,h,h2,h3,h4⟩
noncomputable def vz (b:Expr):Prop:=∀o i,subscripted b false o i=operate [o,i] (getItem o i)
noncomputable def IxR (X:Cx) (r:R2):Prop :=
 ∀(value slice:Expr) (pins:List (Addr×Obj)) (s:Shared) (σ:St) (H:Hp) (x y:V) (v u:Value) (Q:VK),Inv X pins σ H s->RelV x v->RelV y u->r x y H Q ->
  subscripted slice false v u=operate [v,u] (getItem v u)->wpAny (model X.prog X.w) X.A (subscriptTail value slice v u) (EP X pins σ Q) X.xe s
noncomputable def MtR (X:Cx) (id:String) (r:V->List V->Hp->VK->Prop):Prop :=
 ∀(pins:List (Addr×Obj)) (s:Shared) (σ:St) (H:Hp) (x:V) (xs:List V) (v:Value) (us:List Value) (Q:VK),Inv X pins σ H s->RelV x v->Vals xs us->r x xs H Q ->
  wpAny (model X.prog X.w) X.A (call (.builtin id) (v :: us)) (EP X pins σ Q) X.xe s
section
variable {X:Cx} {a b:Expr} {ta tb:TE} {pos:Pos}
theorem IxR.or {r r':R2} (h:IxR X r) (h':IxR X r'):IxR X (fun x y H Q=>r x y H Q\/r' x y H Q):=by
 intro value slice pins s σ H x y v u Q I rx ry q hs;rcases q with q | q
 ·exact h value slice pins s σ H x y v u Q I rx ry q hs
 ·exact h' value slice pins s σ H x y v u Q I rx ry q hs
theorem MtR.or {id:String} {r r':V->List V->Hp->VK->Prop} (h:MtR X id r) (h':MtR X id r'):MtR X id (fun x xs H Q=>r x xs H Q\/r' x xs H Q):=by
 intro pins s σ H x xs v us Q I rx rs q;rcases q with q | q
 ·exact h pins s σ H x xs v us Q I rx rs q
 ·exact h' pins s σ H x xs v us Q I rx rs q
noncomputable def zH (K:Frag):R2:=fun x y H Q=>∃p xs i v,x=.ref p/\y=.int i/\SqL K H p xs/\jG xs i=some v/\Q v H
noncomputable def zJ (K:Frag):R2:=fun x y H Q=>∃p xs i v,x=.ref p/\y=.int i/\SqT K H p xs/\jG xs i=some v/\Q v H
noncomputable def zK:R2:=fun x y H Q=>∃z i c,x=.str z/\y=.int i/\z.length<=sizeLine/\jG z.cps.toList i=some c/\Q (.str ⟨#[c]⟩) H
theorem ix_list:IxR X (zH X.K):=by
 intro value slice pins s σ H x y v u Q I rx ry h hs;obtain ⟨p,xs,i,z,rfl,rfl,hq,he,q⟩:=h
 cases rx
 obtain ⟨t,rfl⟩:=ry;obtain ⟨its,r,pl,hz⟩:=I.list hq;obtain ⟨j,h1,h2,h3,h4,h5⟩:=Gp he;obtain ⟨w,ew,rw'⟩:=r.get h2;have hl:=r.length;have hn:=yK;have fin:EP X pins σ Q w s:=⟨z,H,I,rw',q⟩
 by_cases h0:0<=i
 ·have hj:i.toNat=j:=by
   rw [seqIndex_of h0 h5] at h1;exact Option.some.inj h1
  exact item_listR pl.isList h0 (by omega) (by rw [hj]; simpa using ew) fin hs
 ·have hj:(i + (its.toArray.size:Int)).toNat=j:=by
   rw [seqIndex_neg (by omega) h4] at h1;rw [size_toArray,<- hl];exact Option.some.inj h1
  exact subscriptTail_builtinR (x:=w) pl.isList.typeIs slot_list_getitem.lookup
   (wpAny_getItem_list_neg (Q:=fun r s'=>r=w/\EP X pins σ Q r s') pl.isList (by omega) (by rw [size_toArray] <;> omega) (by omega) (by rw [hj]; simpa using ew) ⟨rfl,fin⟩) hs
theorem ix_tup:IxR X (zJ X.K):=by
 intro value slice pins s σ H x y v u Q I rx ry h hs;obtain ⟨p,xs,i,z,rfl,rfl,hq,he,q⟩:=h
 cases rx
 obtain ⟨t,rfl⟩:=ry;obtain ⟨its,r,pl,hz⟩:=I.tuple hq;obtain ⟨j,h1,h2,h3,h4,h5⟩:=Gp he;obtain ⟨w,ew,rw'⟩:=r.get h2;have hl:=r.length;have hn:=yK;have fin:EP X pins σ Q w s:=⟨z,H,I,rw',q⟩;exact subscriptTail_builtinR (x:=w) pl.typeIs slot_tuple_getitem.lookup
  (getItem_tuple (j:=j) (Q:=fun r s'=>r=w/\EP X pins σ Q r s') pl (by omega) (by omega) (by rw [size_toArray,<- hl]; exact h1) (by simpa using ew) ⟨rfl,fin⟩) hs
theorem PN:IxR X zK:=by
 intro value slice pins s σ H x y v u Q I rx ry h hs;obtain ⟨z,i,c,rfl,rfl,hz,he,q⟩:=h;obtain ⟨t,rfl⟩:=rx;obtain ⟨t',rfl⟩:=ry;obtain ⟨j,h1,h2,h3,h4,h5⟩:=Gp he;have hl:z.cps.toList.length=z.length:=by simp [Str.length]
 rw [hl] at h1 h4 h5;have hn:=yK;exact tail_any (typeIs_str s z t) slot_str_getitem.lookup (getItem_str (c:=c) (by
  have e1:decide (i < -(2 ^ 63:Int))=false:=decide_eq_false (by omega);have e2:decide (i>=2 ^ 63)=false:=decide_eq_false (by omega);rw [e1,e2,Bool.or_false]) (by rw [h1]; simpa using h2) ⟨.str ⟨#[c]⟩,H,I.tok _,⟨_,rfl⟩,q⟩) hs
noncomputable def PQ (K:Frag):R2:=fun x y H Q=>zH K x y H Q\/zJ K x y H Q\/zK x y H Q
theorem PX:IxR X (PQ X.K):=ix_list.or (ix_tup.or PN)
theorem P0 (its:List Value) (n j:Nat) (u:Value):Obj.mapSeq (·.setIfInBounds j u) { cls:=.type "list",data:=.seq its.toArray n }={ cls:=.type "list",data:=.seq (its.set j u).toArray n }:=by
 simp [Obj.mapSeq]
theorem Inv.lst {pins:List (Addr×Obj)} {σ:St} {H:Hp} {s:Shared} {p:Addr} {xs:List V} (I:Inv X pins σ H s) (h:H p=some (.lst xs)) :
  ∃(its:List Value) (n:Nat),Vals xs its/\s.heap.get? p=some { cls:=.type "list",data:=.seq its.toArray n }/\xs.length<=sizeLine:=by
 obtain ⟨z,its,n,r,e⟩:=I.hok p _ h;exact ⟨its,n,r,e,z⟩
theorem Inv.lstUpd {pins:List (Addr×Obj)} {σ:St} {H:Hp} {s:Shared} {p:Addr} {xs ys:List V} {its its':List Value} {n n':Nat} {f:Obj->Obj} (I:Inv X pins σ H s) (h:H p=some (.lst xs))
  (ho:s.heap.get? p=some { cls:=.type "list",data:=.seq its.toArray n }) (hf:f { cls:=.type "list",data:=.seq its.toArray n }={ cls:=.type "list",data:=.seq its'.toArray n' }) (r:Vals ys its') (hz:ys.length<=sizeLine) (t:Nat) :
  Inv X pins σ (upd H p (.lst ys)) { s with heap:=s.heap.update p f,toks:=t }:=by
 have e:(s.heap.update p f).get? p=some { cls:=.type "list",data:=.seq its'.toArray n' }:=by
  rw [Heap.get?_update_self f ho (by rw [hf] <;> rfl),hf]
 refine I.write (x:=p) (e:=p) (by rw [h]; trivial) (.inl rfl) (fun b u hb q=>(Heap.get?_update_other _ _ (Ne.symm hb)).trans q) ⟨_,e⟩ ?_;exact ⟨hz,its',n',r,e⟩
noncomputable def zL:V->V->V->Hp->(Hp->Prop)->Prop:=fun o i v H Q=>∃p xs k j,o=.ref p/\i=.int k/\H p=some (.lst xs)/\jY xs.length k=some j/\Q (upd H p (.lst (xs.set j v)))
theorem set_list:Gh X zL:=by
 intro pins s σ H o i v ov iv u Q I ro ri rv h;obtain ⟨p,xs,k,j,rfl,rfl,hp,hj,q⟩:=h
 cases ro
 obtain ⟨t,rfl⟩:=ri;obtain ⟨its,n,r,ho,hz⟩:=I.lst hp;obtain ⟨h1,h2,h3,h4⟩:=if' hj
 have hl:=r.length;have hn:=yK;have I':Inv X pins σ (upd H p (.lst (xs.set j v))) { s with heap:=s.heap.update p (Obj.mapSeq (·.setIfInBounds j u)) } :=
  I.lstUpd hp ho (P0 its n j u) (r.set rv j) (by rw [length_set]; exact hz) s.toks
 by_cases h0:0<=k
 ·have hk:k.toNat=j:=by
   rw [seqIndex_of h0 h4] at h1;exact Option.some.inj h1
  exact ki_setAt ho h0 (by omega) (by rw [size_toArray,<- hl]; exact h4) (by rw [hk]; exact ⟨_,I',q⟩)
 ·have hk:(k + (its.toArray.size:Int)).toNat=j:=by
   rw [seqIndex_neg (by omega) h3] at h1;rw [size_toArray,<- hl];exact Option.some.inj h1
  exact ki_setBack ho (by omega) (by rw [size_toArray,<- hl]; exact h3) (by omega) (by rw [hk]; exact ⟨_,I',q⟩)
theorem P_ (lo hi:Option Int) (n:Nat):(sliceBounds lo hi none n).1=((HT.sIx n 0 lo:Nat):Int)/\(sliceBounds lo hi none n).2.1=((HT.sIx n n hi:Nat):Int)/\(sliceBounds lo hi none n).2.2=1:=by
 refine ⟨?_,?_,rfl⟩
 ·cases lo with
  | none=>simp [sliceBounds,HT.sIx]
  | some i =>
   simp only [sliceBounds,HT.sIx,Option.getD_none,show (1:Int) > 0 by decide,if_true]
   by_cases h:i < 0
   ·simp only [h,if_true] <;> omega
   ·simp only [h,if_false] <;> omega
 ·cases hi with
  | none=>simp [sliceBounds,HT.sIx]
  | some i =>
   simp only [sliceBounds,HT.sIx,Option.getD_none,show (1:Int) > 0 by decide,if_true]
   by_cases h:i < 0
   ·simp only [h,if_true] <;> omega
   ·simp only [h,if_false] <;> omega
theorem Qa (its:List Value) (lo hi:Option Int):slicePick its.toArray lo hi none=((its.drop (HT.sIx its.length 0 lo)).take (HT.sIx its.length its.length hi - HT.sIx its.length 0 lo)).toArray:=by
 obtain ⟨h1,h2,h3⟩:=P_ lo hi its.toArray.size;unfold slicePick;rw [h1,h2,h3];simp only [sliceRange_one,pick_run,size_toArray] <;> rfl
noncomputable def zM (K:Frag):V->Option Int->Option Int->Hp->VK->Prop:=fun x lo hi H Q=>∃a xs,x=.ref a/\SqL K H a xs/\∀p,H p=none->Q (.ref p) (upd H p (.lst (lK xs lo hi)))
theorem sl_list:SlR X (zM X.K):=by
 intro pins s σ H x v vl vu lo hi sl Q I rx hs pl pu h;obtain ⟨a,xs,rfl,hx,q⟩:=h
 cases rx
 obtain ⟨its,r,ht,hz⟩:=I.list hx;have hlen:=r.length;refine ⟨"list",_,slot_list_getitem.lookup,ht.isList.typeIs,?_⟩;refine wpAny_getItem_list_slice ht.isList hs pl pu .none (by simp) ?_ (by rw [size_toArray] <;> omega)
 rw [Qa,<- hlen];refine ⟨.ref s.heap.objs.size,_,I.laid (t':=s.toks) (o:=.lst (lK xs lo hi)) (fun b ob q=>Heap.get?_push_of_some _ q) (Nat.le_refl _) ?_,rfl,q _ (I.hok.fresh (Nat.le_refl _))⟩;exact ⟨Nat.le_trans (JV xs lo hi) hz,_,0,(r.drop (HT.sIx xs.length 0 lo)).take (HT.sIx xs.length xs.length hi - HT.sIx xs.length 0 lo),Heap.get?_push_size _ rfl⟩
noncomputable def gM:V->Bool
 | .non=>true
 | .bl _=>true
 | .int _=>true
 | .str _=>true
 | _=>false
noncomputable def wk:V->V->Bool
 | .non,.non=>true
 | .bl a,.bl b=>a == b
 | .bl a,.int b=>(if a then 1 else 0) == b
 | .int a,.bl b=>a == (if b then 1 else 0)
 | .int a,.int b=>a == b
 | .str a,.str b=>a == b
 | _,_=>false
theorem Qc {A:Around} {s:Shared} {y x:V} {u v:Value} (ry:RelV y u) (rx:RelV x v) (fy:gM y=true) (fx:gM x=true):SeqAt.EqAt A s u v (wk y x):=by
 cases y with
 | non =>
  cases ry
  cases x with
  | non=>cases rx; exact SeqAt.EqAt.same _
  | bl b=>cases rx; exact SeqAt.EqAt.none_bool b
  | int b=>obtain ⟨t,rfl⟩:=rx; exact SeqAt.EqAt.none_int b t
  | str b=>obtain ⟨t,rfl⟩:=rx; exact SeqAt.EqAt.none_str b t
  | _=>exact absurd (show false=true from fx) Bool.false_ne_true
 | bl a =>
  cases ry
  cases x with
  | non=>cases rx; exact SeqAt.EqAt.bool_none a
  | bl b=>cases rx; exact SeqAt.EqAt.bool_bool a b
  | int b=>obtain ⟨t,rfl⟩:=rx; exact SeqAt.EqAt.bool_int a b t
  | str b=>obtain ⟨t,rfl⟩:=rx; exact SeqAt.EqAt.bool_str a b t
  | _=>exact absurd (show false=true from fx) Bool.false_ne_true
 | int a =>
  obtain ⟨t',rfl⟩:=ry
  cases x with
  | non=>cases rx; exact SeqAt.EqAt.int_none a t'
  | bl b=>cases rx; exact SeqAt.EqAt.int_bool a t' b
  | int b=>obtain ⟨t,rfl⟩:=rx; exact SeqAt.EqAt.int_int a t' b t
  | str b=>obtain ⟨t,rfl⟩:=rx; exact SeqAt.EqAt.int_str a t' b t
  | _=>exact absurd (show false=true from fx) Bool.false_ne_true
 | str a =>
  obtain ⟨t',rfl⟩:=ry
  cases x with
  | non=>cases rx; exact SeqAt.EqAt.str_none a t'
  | bl b=>cases rx; exact SeqAt.EqAt.str_bool a t' b
  | int b=>obtain ⟨t,rfl⟩:=rx; exact SeqAt.EqAt.str_int a t' b t
  | str b=>obtain ⟨t,rfl⟩:=rx; exact SeqAt.EqAt.str_str a t' b t
  | _=>exact absurd (show false=true from fx) Bool.false_ne_true
 | _=>exact absurd (show false=true from fy) Bool.false_ne_true
noncomputable def vA (x:V) (u:Value):Bool:=match u with
 | .none=>wk .non x
 | .bool b=>wk (.bl b) x
 | .int i _=>wk (.int i) x
 | .str z _=>wk (.str z) x
 | _=>false
theorem kF' {x y:V} {u:Value} (r:RelV y u) (f:gM y=true):vA x u=wk y x:=by
 cases y with
 | non=>cases r; rfl
 | bl b=>cases r; rfl
 | int i=>obtain ⟨t,rfl⟩:=r; rfl
 | str z=>obtain ⟨t,rfl⟩:=r; rfl
 | _=>exact absurd (show false=true from f) Bool.false_ne_true
theorem Gq {x:V}:∀{xs:List V} {us:List Value},Vals xs us->xs.all gM=true->us.any (vA x)=xs.any fun y=>wk y x
 | _,_,.nil,_=>rfl
 | y :: xs,u :: us,.cons r t,f=>by
  rw [all_cons,Bool.and_eq_true] at f;rw [any_cons,any_cons,kF' r f.1,Gq t f.2]
theorem eq' {A:Around} {s:Shared} {x:V} {v:Value} (rx:RelV x v) (fx:gM x=true):∀{xs:List V} {us:List Value},Vals xs us->xs.all gM=true->∀u∈us,SeqAt.EqAt A s u v (vA x u)
 | _,_,.nil,_=>fun u hu=>by cases hu
 | y :: xs,u :: us,.cons r t,f=>fun u' hu=>by
  rw [all_cons,Bool.and_eq_true] at f;rcases mem_cons.mp hu with rfl | hu
  ·rw [kF' r f.1]; exact Qc r rx f.1 fx
  ·exact eq' rx fx t f.2 u' hu
noncomputable def inV (x:V) (xs:List V):Bool:=xs.any fun y=>wk y x
noncomputable def JW (K:Frag) (neg:Bool):R2:=fun x y H Q=>∃p xs,y=.ref p/\(SqL K H p xs\/SqT K H p xs)/\gM x=true/\xs.all gM=true/\Q (.bl (if neg then !inV x xs else inV x xs)) H
theorem Qd:OpR X (compareOp .NotIn) (JW X.K true):=by
 intro pins s σ H x y v u Q I rx ry h;obtain ⟨p,xs,rfl,hq,fx,fs,q⟩:=h
 cases ry
 rcases hq with hq | hq
 ·obtain ⟨its,r,pl,hz⟩:=I.list hq;refine SeqAt.notIn_listAt (vA x) pl.isList (fun w hw=>eq' rx fx r fs w (by simpa using hw)) ⟨.bl _,H,I,rfl,?_⟩;rw [show its.toArray.any (vA x)=its.any (vA x) by simp,Gq r fs];exact q
 ·obtain ⟨its,r,pl,hz⟩:=I.tuple hq;refine SeqAt.notIn_tupleAt (vA x) pl (fun w hw=>eq' rx fx r fs w (by simpa using hw)) ⟨.bl _,H,I,rfl,?_⟩;rw [show its.toArray.any (vA x)=its.any (vA x) by simp,Gq r fs];exact q
theorem CallR.or {f:Value} {r r':List V->Hp->VK->Prop} (h:CallR X f r) (h':CallR X f r'):CallR X f (fun xs H Q=>r xs H Q\/r' xs H Q):=by
 intro pins s σ H xs us Q I rs q;rcases q with q | q
 ·exact h pins s σ H xs us Q I rs q
 ·exact h' pins s σ H xs us Q I rs q
theorem Qe:CallR X (.type "tuple") (fun xs H Q=>∃p ys,xs=[.ref p]/\((SqL X.K H p ys/\∀l,H l=none->Q (.ref l) (upd H l (.tup ys)))\/(SqT X.K H p ys/\Q (.ref p) H))):=by
 intro pins s σ H xs us Q I r h;obtain ⟨p,ys,rfl,h⟩:=h;obtain ⟨u,rfl,rx⟩:=vals1 r
 cases rx
 rcases h with ⟨hq,q⟩ | ⟨hq,q⟩
 ·obtain ⟨its,r',pl,hz⟩:=I.list hq;have hlen:=r'.length;refine call_tuple_list pl.isList (fun h' kp=>?_) (by simp only [size_toArray] <;> omega)
  have I1:Inv X pins σ H { s with heap:=h' }:=I.kept (t':=s.toks) kp
  have I2:Inv X pins σ (upd H h'.objs.size (.tup ys)) { s with heap:=h'.push { cls:=.type "tuple",data:=.seq its.toArray } } :=
   I1.laid (t':=s.toks) (fun b o e=>Heap.get?_push_of_some _ e) (Nat.le_refl _) (show ObjOk X.prog X.w _ _ _ (.tup ys) from ⟨hz,its,r',IsTup.new _ _⟩)
  exact ⟨.ref h'.objs.size,_,I2,rfl,q _ (I1.hok.fresh (Nat.le_refl _))⟩
 ·obtain ⟨its,r',pl,hz⟩:=I.tuple hq;exact call_tuple_same pl ⟨.ref p,H,I,rfl,q⟩
noncomputable def JX (K:Frag) (T:String) (x:V) (H:Hp):Prop:=match x with
 | .str _=>T = "str"
 | .int _=>T = "int"
 | .ref p=>(T = "list"/\∃xs,SqL K H p xs)\/(T = "tuple"/\∃o,K.lookup p=some o/\o.cls=.type "tuple"/\o.dict=none) \/
   (T = "dict"/\((∃kvs,H p=some (.dK kvs))\/∃kvs,H p=some (.dT kvs)))\/(T = "set"/\∃S n,H p=some (.set S n))
 | _=>False
theorem Qf {pins:List (Addr×Obj)} {σ:St} {H:Hp} {s:Shared} {T:String} {x:V} {v:Value} (I:Inv X pins σ H s) (r:RelV x v) (ty:JX X.K T x H) :
  s.TypeIs v T/\∀a,v=.ref a->∃ob,s.heap.get? a=some ob/\ob.dict=none:=by
 cases x with
 | str z =>
  obtain ⟨t,rfl⟩:=r
  cases (show T = "str" from ty)
  exact ⟨typeIs_str s z t,fun _ e=>nomatch e⟩
 | int i =>
  obtain ⟨t,rfl⟩:=r
  cases (show T = "int" from ty)
  exact ⟨typeIs_int s i t,fun _ e=>nomatch e⟩
 | ref p =>
  cases r
  rcases ty with ⟨rfl,xs,hq⟩ | ⟨rfl,o,hk,hc,hd⟩ | ⟨rfl,hk⟩ | ⟨rfl,S,n,hk⟩
  ·obtain ⟨its,_,pl,_⟩:=I.list hq;refine ⟨pl.isList.typeIs,fun a e=>?_⟩
   cases e
   obtain ⟨o,n,e,c,hd,_⟩:=pl;exact ⟨o,e,hd⟩
  ·refine ⟨⟨o,I.kIn p o hk,hc⟩,fun a e=>?_⟩
   cases e
   exact ⟨o,I.kIn _ o hk,hd⟩
  ·have z:∃o,s.heap.get? p=some o/\o.ExactDict:=by
    rcases hk with ⟨kvs,hk⟩ | ⟨kvs,hk⟩
    ·obtain ⟨_,_,_,_,o,_,_,e,ex,_⟩:=I.hok p _ hk;exact ⟨o,e,ex⟩
    ·obtain ⟨_,_,_,_,o,_,_,e,ex,_⟩:=I.hok p _ hk;exact ⟨o,e,ex⟩
   obtain ⟨o,e,ex⟩:=z;refine ⟨⟨o,e,ex.1⟩,fun a e2=>?_⟩
   cases e2
   exact ⟨o,e,ex.2.1⟩
  ·obtain ⟨o,_,_,_,e,ex,_⟩:=I.hok p _ hk;refine ⟨⟨o,e,ex.1⟩,fun a e2=>?_⟩
   cases e2
   exact ⟨o,e,ex.2.1⟩
 | _=>exact False.elim ty
variable {o e:Expr} {es:List Expr} {to:TE} {t:TA} {name:Str} {apos cpos:Pos} {T id:String} {r:V->List V->Hp->VK->Prop}
end
theorem Vals.one:∀{x:V} {us:List Value},Vals [x] us->∃u,us=[u]/\RelV x u
 | _,_,.cons r .nil=>⟨_,rfl,r⟩
theorem Vals.two:∀{x y:V} {us:List Value},Vals [x,y] us->∃u v,us=[u,v]/\RelV x u/\RelV y v
 | _,_,_,.cons r (.cons q .nil)=>⟨_,_,rfl,r,q⟩
theorem Vals.zero:∀{us:List Value},Vals [] us->us=[]
 | _,.nil=>rfl
theorem Vals.reverse {xs:List V} {us:List Value} (h:Vals xs us):Vals xs.reverse us.reverse:=by
 induction h with
 | nil=>exact .nil
 | cons r t ih=>rw [reverse_cons,reverse_cons]; exact Vals.append ih (.cons r .nil)
theorem Vals.rep {xs:List V} {us:List Value} (h:Vals xs us):∀k:Nat,Vals (List.replicate k xs).flatten (List.replicate k us).flatten
 | 0=>.nil
 | k + 1=>by
  rw [replicate_succ,replicate_succ,flatten_cons,flatten_cons];exact Vals.append h (Vals.rep h k)
theorem foldl_rep (its:List Value):∀(k:Nat) (acc:List Value),
  List.foldl (fun x1 x2=>x1 ++ x2) acc.toArray (List.replicate k its.toArray)=(acc ++ (List.replicate k its).flatten).toArray
 | 0,acc=>by simp
 | k + 1,acc=>by
  have e:acc.toArray ++ its.toArray=(acc ++ its).toArray:=by simp
  have e2:(acc ++ its) ++ (List.replicate k its).flatten=acc ++ (List.replicate (k + 1) its).flatten:=by
   rw [replicate_succ,flatten_cons,append_assoc]
  rw [<- e2,<- foldl_rep its k (acc ++ its),<- e,replicate_succ,foldl_cons]
section
variable {X:Cx} {pins:List (Addr×Obj)} {σ:St} {H:Hp} {s:Shared} {l b:Addr} {xs ys zs:List V}
theorem Inv.lset {its its':List Value} {n:Nat} {f:Array Value->Array Value} {t':Nat} (I:Inv X pins σ H s) (hH:H l=some (.lst xs))
  (e:s.heap.get? l=some { cls:=.type "list",data:=.seq its.toArray n }) (hf:f its.toArray=its'.toArray) (hv:Vals ys its') (hz:ys.length<=sizeLine) :
  Inv X pins σ (upd H l (.lst ys)) { s with heap:=s.heap.update l (Obj.mapSeq f),toks:=t' }:=by
 have q:=PySem.IsL.update e f;rw [hf] at q;refine I.write (x:=l) (e:=l) (by rw [hH]; exact trivial) (.inl rfl) (fun b' u hb hu=>(Heap.get?_update_other s.heap (Obj.mapSeq f) (Ne.symm hb)).trans hu) ⟨_,q⟩ ?_;exact ⟨hz,its',_,hv,q⟩
theorem Inv.fresh (I:Inv X pins σ H s):H s.heap.objs.size=none:=I.hok.fresh (Nat.le_refl _)
end
section
variable {X:Cx}
theorem len_rep {α:Type} (xs:List α) (k:Nat):(List.replicate k xs).flatten.length=k * xs.length:=by
 induction k with
 | zero=>simp
 | succ k ih=>rw [replicate_succ,flatten_cons,length_append,ih,Nat.succ_mul,Nat.add_comm]
end
section
variable {prog:Program} {w:World} {A:Around} {E:Value->Shared->Prop} {s:Shared}
end
section
variable {X:Cx}
end
end L2
namespace Att
open PySem PySem.W PySem.Calls PyProof.Rows
theorem Qg {P:Params} {h:Heap}:∀(ns:List Int) (vs:List Value),WellAll P h vs (ns.map WData.int)->IntsAre vs ns:=by
 intro ns
 induction ns with
 | nil =>
  intro vs w;rw [map_nil] at w
  cases w
  exact .nil
 | cons n ns ih =>
  intro vs w;rw [map_cons] at w
  cases w with
  | cons a b =>
   cases a
   exact .cons _ _ (ih _ b)
theorem Qh {l:OpenLaw} {n:Nat} (hn:l.most=some n) {P:Params} {h:Heap} {args:List WData} {vals:List Value}
  (hpre:l.row.toRowW.claim.pre args=true) (hwl:WellAll P h vals args) :
  ∃a vs ns,vals=[Value.ref a]/\args=[WData.list (ns.map WData.int)]/\h.get? a=some { cls:=.type "list",data:=.seq vs.toArray }/\IntsAre vs ns/\ns.length<=n:=by
 have hsh:WShape.hasAll [] args [.list .int]=true:=(pre_splitW hpre).1;have hc:l.pre.holds [] { args:=args }=true:=(pre_splitW hpre).2;obtain ⟨d,r,rfl,h1,h2⟩:=hasAllW_cons hsh;obtain rfl:=hasAllW_nil h2;obtain ⟨xs,rfl,h3⟩:=hasW_list h1;obtain ⟨ns,rfl⟩:=items_int h3;have hlen:ns.length<=n:=by
  unfold OpenLaw.pre at hc;have h4:(WTm.not (.lt (.lit (.int (n:Int))) (.len (.arg 0)))).holds [] { args:=[.list (ns.map .int)] }=true:=by
   have h4:=(holds_andW hc).1;rw [hn] at h4;exact h4
  have h5:=condW_of h4 (w_not (w_lt w_lit (w_len_list (w_arg rfl))));rw [length_map] at h5;refine Nat.le_of_not_lt fun q=>?_;have q':(n:Int) < ((ns.length:Nat):Int):=by omega
  first
   | (rw [decide_eq_true q'] at h5; exact absurd h5 (by decide))
   | (simp at h5; omega)
 cases hwl with
 | cons w1 w2 =>
  cases w2
  cases w1 with
  | list ho hall=>exact ⟨_,_,ns,rfl,rfl,ho,Qg ns _ hall,hlen⟩
theorem ih' (l:OpenLaw) (args:List WData):l.row.toRowW.claim.post args (.bool true) args=true :=
 postW_of (r:=l.row.toRowW) (X:=(true == true))
  (show WShape.has [] (.bool true) .bool=true by first | rfl | decide | simp [WShape.has,WShape.arms,WShape.armsAll])
  (show (WTm.eq .res (.lit (.bool true))).value [] { args:=args,res:=some (.bool true),after:=args }=some (.bool (true == true)) from w_eq_bool (w_res rfl) w_lit) rfl
theorem attach_call {l:OpenLaw} {n:Nat} {q:Program} {loose:List Str} {XP:(Str->Option Value)->Heap->Prop} {YP:World->Heap->Prop} {d:DefRec}
  (hn:l.most=some n) (hdf:d.params.defaults=[])
  (call:∀(w:World) (s₀ s₁:Shared) (mg mb:Str->Option Value) (fa:Addr) (o:Obj) (pm cd doc:Value) (a:Addr) (vs:List Value) (ns:List Int),
   Ground q loose [] XP w s₀ mg mb s₁.heap->YP w s₁.heap ->
   s₁.heap.get? fa=some o->o.data=.func (docDef d.name d.params d.body d.scope pm cd doc)->s₁.heap.CodeRec cd d.name->mg d.name=some (.ref fa) ->
   s₁.heap.get? a=some { cls:=.type "list",data:=.seq vs.toArray }->IntsAre vs ns->ns.length<=n->s₁.gens = #[] ->
   codeAny (model l.prog w) callerA (.call (.ref fa) ⟨[.ref a],[]⟩) (fun r s'=>r=.ok (.ret (.bool true))/\OldK s₁.heap s'.heap/\s'.os=s₁.os/\AllBare s'.gens) s₁) :
  WalkO q loose XP YP l.row.toRowW d [] (fun f vs=>PySem.call f vs):=by
 intro w s₀ s₁ mg mb G Y fa o pm cd doc dV kV ho hd hcd hD hmg hg args vals as hpre hlay hrd hwl hlo;obtain rfl:dV=.none:=Dflts.none hD hdf;obtain rfl:kV=.none:=Dflts.noKw hD;obtain ⟨a,vs,ns,rfl,rfl,hobj,hints,hlen⟩:=Qh hn hpre hwl;refine enter_call (codeAny_mono (call w s₀ s₁ mg mb fa o pm cd doc a vs ns G Y ho (fd_plain hd) hcd hmg hobj hints hlen hg) fun r s' hq=>?_);obtain ⟨rfl,h2,h3,h4⟩:=hq;exact ⟨.inl ⟨.bool true,.bool true,[],rfl,fun _=>rfl,.bool true,ih' l _,fun _=>⟨List.Pairwise.nil,fun _ hm=>(nomatch hm)⟩⟩,h2,h3,h4⟩
section
variable {prog:Program} {w:World} {A:Around} {E:Value->Shared->Prop} {s:Shared} {K:Frag}
noncomputable def noObjs (h:Heap):Heap:={ h with objs:=#[] }
end
end Att
namespace L2
open PySem PySem.Spec PyProof.Rows
theorem JZ:∀{vs:List Value} {ns:List Int},IntsAre vs ns->Vals (ns.map V.int) vs
 | _,_,.nil=>.nil
 | _,_,.cons n t h=>.cons ⟨t,rfl⟩ (JZ h)
noncomputable def Only (H:Hp):Prop:=∀b,H b=none\/∃o xs,H b=some (.frz o (.lst xs))
theorem Qi {P:Program} {w:World} {K:Frag} {mg mb:Str->Option Value} {CX:pU} {k:Nat} {fa a:Addr} {fd:FuncData} {x:Str} {sp:Sp} {s₁:Shared} {vs:List Value} {ns:List Int}
  (KX:K.In s₁.heap) (hns:s₁.heap.Ns mainGlobals mg) (hb:s₁.heap.Ns builtinsNs mb) (hbb:∀x:Str,x≠"__name__"->mb x=bootBuiltins x) (hlim:s₁.heap.NoLimit) (hg:s₁.gens = #[])
  (ha:s₁.heap.get? a=some { cls:=.type "list",data:=.seq vs.toArray }) (hi:IntsAre vs ns) (hl:ns.length<=sizeLine) (hr:Room k callerA)
  (F:∀base:Heap,K.In base->base.Ns mainGlobals mg->FnOk P w K mg base CX k fa fd [x] sp) (hbind:∀(s:Shared) (u:Value),BindsTo s fd ⟨[u],[]⟩ [(x,u)])
  (hsp:∀H:Hp,Only H->SqL K H a (ns.map V.int)->sp [.ref a] H (fun v _=>v=.bl true) fun _ _ _=>False)
  (hCX:∀H e s',CX [] H s₁ (fun _ _ _=>False) e s'->False) :
  codeAny (model P w) callerA (.call (.ref fa) ⟨[.ref a],[]⟩) (fun r s'=>r=.ok (.ret (.bool true))/\OldK s₁.heap s'.heap/\s'.os=s₁.os/\AllBare s'.gens) s₁:=by
 have rv:=JZ hi;have lenV:=hi.length;have core:∀H:Hp,Only H->SqL K H a (ns.map V.int)->HOk P w H s₁.heap->(∀b,H b≠none->b=a)->(H a≠none->K.lookup a=none) ->
   codeAny (model P w) callerA (.call (.ref fa) ⟨[.ref a],[]⟩) (fun r s'=>r=.ok (.ret (.bool true))/\OldK s₁.heap s'.heap/\s'.os=s₁.os/\AllBare s'.gens) s₁:=by
  intro H hO hS hok hA hK;have base_of:∀{b:Addr} {o:Obj},s₁.heap.get? b=some o->H b=none->(jW s₁.heap H).get? b=some o:=fun e n=>Oh e n;have noA:∀{b:Addr} {o:Obj} {es:Array DictEntry} {ep:Nat},s₁.heap.get? b=some o->o.data=.dict es ep->H b=none:=fun {b o es ep} e d=>by
   cases q:H b with
   | none=>rfl
   | some u =>
    have e':b=a:=hA b (by rw [q]; simp);subst e';rw [ha] at e; cases e;have d':Data.seq vs.toArray _=Data.dict es ep:=d
    cases d'
  have nsK:∀{b:Addr} {m:Str->Option Value},s₁.heap.Ns b m->(jW s₁.heap H).Ns b m:=fun {b m} ⟨o,es,ep,e,d,r⟩=>⟨o,es,ep,base_of e (noA e d),d,r⟩;have hKb:K.In (jW s₁.heap H):=fun b o e=>base_of (KX b o e) (by
   cases q:H b with
   | none=>rfl
   | some u =>
    have e':b=a:=hA b (by rw [q]; simp);subst e';rw [hK (by rw [q]; simp)] at e; cases e)
  have hM:Mod K mg (jW s₁.heap H):=⟨hKb,nsK hns,⟨mb,nsK hb,hbb⟩,let ⟨mc,h1,h2⟩:=hlim; ⟨mc,nsK h1,h2⟩⟩;have e0:Env0 P w K mg (jW s₁.heap H) callerA [] s₁ H:=⟨rfl,hM,fun b o e=>Oi e,Nat.le_of_eq (hY' _ _),trivial,fun b hb=>absurd (show b∈([]:List Addr) from hb) (by simp),hok,.of_eq hg⟩
  refine codeAny_mono ((F _ hKb (nsK hns)).run callerA [] s₁ H ⟨[.ref a],[]⟩ [.ref a] [.ref a] _ _ hr e0 (hbind s₁ (.ref a)) (.cons rfl .nil) (hsp H hO hS)) fun r s' h=>?_
  cases r with
  | error e=>exact (hCX H e s' h).elim
  | ok fl =>
   cases fl with
   | next=>exact False.elim h
   | brk=>exact False.elim h
   | cont=>exact False.elim h
   | ret u =>
    obtain ⟨v,H',os,bare,un,hok',r',q⟩:=h;have q':v=.bl true:=q;subst q';obtain rfl:u=Value.bool true:=r';refine ⟨rfl,OldK.of_keep fun b o e=>?_,os,bare⟩
    cases q:H b with
    | none=>exact un.keep b o e q (by intro z; exact absurd (show b∈([]:List Addr) from z) (by simp)) (by simp)
    | some u =>
     rcases hO b with z | ⟨ob,xs,z⟩
     ·rw [q] at z; cases z
     ·have z2:=un.frzs b ob _ z;obtain ⟨e1,_⟩:=hok b _ z;obtain ⟨e2,_⟩:=hok' b _ z2;rw [e] at e1; cases e1;exact e2
 cases hk:K.lookup a with
 | some o =>
  have e:=KX a o hk;rw [ha] at e
  cases e
  refine core (fun _=>none) (fun _=>.inl rfl) (.inr ⟨_,vs.toArray,_,hk,rfl,rfl,rfl,by rw [size_toArray,lenV]; exact hl,by simpa using rv⟩) (fun b u z=>by have z':(none:Option HO)=some u:=z; cases z') (fun b z=>absurd rfl z) fun z=>absurd rfl z
 | none =>
  refine core (fun b=>if b=a then some (.frz { cls:=.type "list",data:=.seq vs.toArray } (.lst (ns.map V.int))) else none) (fun b=>?_) (.inl (.inr ⟨{ cls:=.type "list",data:=.seq vs.toArray },if_pos rfl⟩)) (fun b u z=>?_) (fun b z=>?_) fun _=>hk
  ·by_cases hb:b=a
   ·exact .inr ⟨_,_,if_pos hb⟩
   ·exact .inl (if_neg hb)
  ·by_cases hb:b=a
   ·have z':=(if_pos hb).symm.trans z
    cases z'
    subst hb;exact ⟨ha,by rw [length_map]; exact hl,vs,_,rv,ha⟩
   ·have z':=(if_neg hb).symm.trans z
    cases z'
  ·by_cases hb:b=a
   ·exact hb
   ·exact absurd (if_neg hb) z
abbrev KOf {K:Frag} {h:Heap} (_:K.In h):Frag:=K
theorem walk_of {l:OpenLaw} {n k:Nat} {q:Program} {loose:List Str} {XP:(Str->Option Value)->Heap->Prop} {YP:World->Heap->Prop} {d:DefRec} {K:Params->Frag} {CX:World->pU} {sp:World->Sp} {x:Str}
  (hn:l.most=some n) (hn2:n<=sizeLine) (hdf:d.params.defaults=[]) (hr:Room k callerA)
  (hY:∀(w:World) (h:Heap),YP w h->(K w.params).In h)
  (F:∀(w:World) (mg:Str->Option Value) (fa:Addr) (h:Heap),(K w.params).In h->h.Ns mainGlobals mg->mg d.name=some (.ref fa) ->
   ∃fd:FuncData,(∀(s:Shared) (u:Value),BindsTo s fd ⟨[u],[]⟩ [(x,u)]) /\
    ∀base:Heap,(K w.params).In base->base.Ns mainGlobals mg->FnOk l.prog w (K w.params) mg base (CX w) k fa fd [x] (sp w))
  (hsp:∀(w:World) (H:Hp) (a:Addr) (ns:List Int),ns.length<=n->Only H->SqL (K w.params) H a (ns.map V.int)->sp w [.ref a] H (fun v _=>v=.bl true) fun _ _ _=>False)
  (hCX:∀(w:World) (H:Hp) (s:Shared) (e:Value) (s':Shared),CX w [] H s (fun _ _ _=>False) e s'->False) :
  WalkO q loose XP YP l.row.toRowW d [] (fun f vs=>PySem.call f vs):=by
 refine Att.attach_call hn hdf fun w s₀ s₁ mg mb fa o pm cd doc a vs ns G Y ho hd hcd hmg hobj hints hlen hg=>?_;have KX:=hY w _ Y;obtain ⟨fd,hb,hF⟩:=F w mg fa _ KX G.T.g hmg;exact Qi KX G.T.g G.T.b G.T.builtins G.T.nolimit hg hobj hints (Nat.le_trans hlen hn2) hr hF hb (fun H hO hS=>hsp w H a ns hlen hO hS) fun H e s'=>hCX w H s₁ e s'
noncomputable def bO (s:Stmt):Arguments:=match s with
 | .FunctionDef _ a _ _ _ _ _ _ _ _=>a
 | _=>{ posonlyargs:=[],args:=[],vararg:=none,kwonlyargs:=[],kw_defaults:=[],kwarg:=none,defaults:=[] }
noncomputable def bz (s:Stmt):List Stmt:=match s with
 | .FunctionDef _ _ b _ _ _ _ _ _ _=>b
 | _=>[]
noncomputable def az (s:Stmt):Scope:=match s with
 | .FunctionDef _ _ _ _ _ _ sc _ _ _=>sc
 | _=>{ kind:=.function,names:=[],isGenerator:=false,isCoroutine:=false }
abbrev J0:pU:=fun _ _ _ _ _ _=>False
abbrev E0:XK:=fun _ _ _=>False
structure Fun (K:Frag) (x qual:Str) (st:Stmt) (f:Addr) (fd:FuncData):Prop where
 ex:∃(oc:Value) (od:Option Addr) (kV doc pm:Value) (an:Option Addr) (cdv ct:Value) (osl:Array (Option Value)),
  fd=fnOf x qual (bO st) (bz st) (az st) .none kV doc pm an cdv ct/\K.lookup f=some ⟨oc,od,.func fd,osl⟩/\codeIn K cdv qual=true
 kp:keepIn K (.ref f)=true
section
variable {P:Program} {w:World} {K:Frag} {mg:Str->Option Value} {base:Heap}
theorem Fun.ok {x qual:Str} {st:Stmt} {f:Addr} {fd:FuncData} {N ps:List Str} {k:Nat} {sp:Sp} (F:Fun K x qual st f fd) (S:FnScope N ps (az st)) (len:∀vs H Q E,sp vs H Q E->vs.length=ps.length)
  (hbody:∀(cdv:Value) (A:Around) (outer:List Env) (s:Shared) (H:Hp) (vs:List V) (Q:VK) (E:XK),Room k (A.deeper (envOfC qual (az st) s.heap.objs.size f cdv))->sp vs H Q E ->
   ∃t,PSs (e_ J0 P w K mg base N qual (az st) f cdv A outer s H E).nox (bz st) t/\t { nx:=fun _ H'=>Q .non H',rt:=Q } (start N vs) H):FnOk P w K mg base J0 (k + 1) f fd ps sp:=by
 obtain ⟨oc,od,kV,doc,pm,an,cdv,ct,osl,rfl,lk,hcd⟩:=F.ex;refine Ec lk hcd S len fun A outer s H vs Q E hr hsp=>?_;obtain ⟨t,h,q⟩:=hbody cdv A outer s H vs Q E hr hsp;exact ⟨t,h.nox,q⟩
theorem Fun.binds {x qual:Str} {st:Stmt} {f:Addr} {fd:FuncData} {ps:List Str} (F:Fun K x qual st f fd)
  (h:∀(kV doc pm:Value) (an:Option Addr) (cdv ct:Value) (us:List Value),us.length=ps.length->bindArgs (fnOf x qual (bO st) (bz st) (az st) .none kV doc pm an cdv ct) ⟨us,[]⟩=pure (ps.zip us)):Binds K fd ps []:=by
 obtain ⟨oc,od,kV,doc,pm,an,cdv,ct,osl,rfl,lk,hcd⟩:=F.ex;exact .all (h kV doc pm an cdv ct)
theorem Gs {x qual:Str} {st:Stmt} {f:Addr} {oc:Value} {od an:Option Addr} {osl:Array (Option Value)} {kV doc pm cdv ct:Value} (l:K.lookup f=some ⟨oc,od,.func (fnOf x qual (bO st) (bz st) (az st) .none kV doc pm an cdv ct),osl⟩)
  (c:codeIn K cdv qual=true) (k:keepIn K (.ref f)=true):Fun K x qual st f (fnOf x qual (bO st) (bz st) (az st) .none kV doc pm an cdv ct):=⟨⟨oc,od,kV,doc,pm,an,cdv,ct,osl,rfl,l,c⟩,k⟩
end
section
variable {X:Cx}
theorem pv (i:Nat) {x:Str} {pos:Pos} (hN:X.N[i]? = some x:=by rfl) (hv:wZ X.env.scope x:=by first | exact Or.inl rfl | exact Or.inr (Or.inl rfl) | exact Or.inr (Or.inr rfl)) (hd:(x == ("__debug__" : Str))=false:=by decide)
  (hcd:(x == ("__classdict__" : Str))=false:=by decide):PE X (.Name x pos) (qH i):=D_ hN hv hd hcd
end
noncomputable def Same (H H':Hp):Prop:=∀b o,H b=some o->H' b=some o
theorem Same.refl (H:Hp):Same H H:=fun _ _ h=>h
theorem Same.trans {H H1 H2:Hp} (a:Same H H1) (b:Same H1 H2):Same H H2:=fun c o h=>b c o (a c o h)
theorem Same.free {H H':Hp} (e:Same H H') {l:Addr} (h:H' l=Option.none):H l=Option.none:=by
 cases q:H l with
 | none=>rfl
 | some o =>
  rw [e l o q] at h
  cases h
theorem Same.seq {K:Frag} {H H':Hp} {a:Addr} {xs:List V} (e:Same H H') (h:SqL K H a xs):SqL K H' a xs:=by
 rcases h with (h | ⟨o,h⟩) | h
 ·exact .inl (.inl (e _ _ h))
 ·exact .inl (.inr ⟨o,e _ _ h⟩)
 ·exact .inr h
end L2
namespace DL
open PySem PySem.Spec PyProof.Rows L2
abbrev St:=L2.St
inductive D where
 | non
 | bl (b:Bool)
 | int (i:Int)
 | str (x:Str)
 | tup (ds:List D)
 | lst (ds:List D)
 | exc (c:Str)
 | excf (c f:Str) (d:D)
 | dct
structure Exn where
 cls:Str
 pay:Option (Str×D):=none
inductive Res (α:Type) where
 | stuck
 | ok (a:α)
 | err (x:Exn)
noncomputable def Res.bind {α β:Type} (r:Res α) (f:α->Res β):Res β:=match r with
 | .stuck=>.stuck
 | .ok a=>f a
 | .err x=>.err x
@[simp] theorem Res.bind_ok {α β:Type} (a:α) (f:α->Res β):(Res.ok a).bind f=f a:=rfl
@[simp] theorem Res.bind_stuck {α β:Type} (f:α->Res β):(Res.stuck).bind f=.stuck:=rfl
@[simp] theorem Res.bind_err {α β:Type} (x:Exn) (f:α->Res β):(Res.err x).bind f=.err x:=rfl
noncomputable def excAt (a C:Addr) (dd:Option Addr) (h:Heap):Prop:=∃o vs,h.get? a=some o/\o.cls=.ref C/\o.dict=dd/\o.data=.fields vs
section
variable (K:Frag)
mutual
noncomputable def Rep (H:Hp):D->V->Prop
 | .non,v=>v=.non
 | .bl b,v=>v=.bl b
 | .int i,v=>v=.int i
 | .str x,v=>v=.str x
 | .tup ds,v=>∃a xs,v=.ref a/\SqT K H a xs/\Reps H ds xs
 | .lst ds,v=>∃a xs,v=.ref a/\SqL K H a xs/\Reps H ds xs
 | .exc c,v=>∃a C,v=.ref a/\nsIn K mainGlobals c=some (some (.ref C))/\H a=some (.ext (excAt a C none))
 | .excf c f d,v=>∃a C dx u,v=.ref a/\nsIn K mainGlobals c=some (some (.ref C))/\H a=some (.ext (excAt a C (some dx)))/\H dx=some (.xd [(f,u)])/\Rep H d u
 | .dct,v=>∃a,v=.ref a/\H a=some (.ext (KitAt a "dict"))
noncomputable def Reps (H:Hp):List D->List V->Prop
 | [],xs=>xs=[]
 | d :: ds,xs=>∃v vs,xs=v :: vs/\Rep H d v/\Reps H ds vs
end
end
theorem Ed {K:Frag} {H H':Hp} {a:Addr} {xs:List V} (e:Same H H') (h:SqT K H a xs):SqT K H' a xs:=by
 rcases h with (h | ⟨o,h⟩) | h
 ·exact .inl (.inl (e _ _ h))
 ·exact .inl (.inr ⟨o,e _ _ h⟩)
 ·exact .inr h
mutual
theorem Rep.mono {K:Frag} {H H':Hp} (e:Same H H'):∀{d:D} {v:V},Rep K H d v->Rep K H' d v
 | .non,_,h=>by rw [Rep] at h ⊢; exact h
 | .bl _,_,h=>by rw [Rep] at h ⊢; exact h
 | .int _,_,h=>by rw [Rep] at h ⊢; exact h
 | .str _,_,h=>by rw [Rep] at h ⊢; exact h
 | .tup ds,_,h=>by
  rw [Rep] at h ⊢;obtain ⟨a,xs,e1,e2,e3⟩:=h;exact ⟨a,xs,e1,Ed e e2,Reps.mono e e3⟩
 | .lst ds,_,h=>by
  rw [Rep] at h ⊢;obtain ⟨a,xs,e1,e2,e3⟩:=h;exact ⟨a,xs,e1,e.seq e2,Reps.mono e e3⟩
 | .exc _,_,h=>by
  rw [Rep] at h ⊢;obtain ⟨a,C,e1,e2,e3⟩:=h;exact ⟨a,C,e1,e2,e _ _ e3⟩
 | .excf _ _ d,_,h=>by
  rw [Rep] at h ⊢;obtain ⟨a,C,dx,u,e1,e2,e3,e4,e5⟩:=h;exact ⟨a,C,dx,u,e1,e2,e _ _ e3,e _ _ e4,Rep.mono e e5⟩
 | .dct,_,h=>by
  rw [Rep] at h ⊢;obtain ⟨a,e1,e2⟩:=h;exact ⟨a,e1,e _ _ e2⟩
theorem Reps.mono {K:Frag} {H H':Hp} (e:Same H H'):∀{ds:List D} {vs:List V},Reps K H ds vs->Reps K H' ds vs
 | [],_,h=>by rw [Reps] at h ⊢; exact h
 | d :: ds,_,h=>by
  rw [Reps] at h ⊢;obtain ⟨v,vs,e1,e2,e3⟩:=h;exact ⟨v,vs,e1,Rep.mono e e2,Reps.mono e e3⟩
end
theorem Reps.nil {K:Frag} {H:Hp}:Reps K H [] []:=by rw [Reps]
theorem Reps.cons {K:Frag} {H:Hp} {d:D} {v:V} {ds:List D} {vs:List V} (h:Rep K H d v) (t:Reps K H ds vs):Reps K H (d :: ds) (v :: vs):=by
 rw [Reps]; exact ⟨v,vs,rfl,h,t⟩
theorem Reps.nil_of {K:Frag} {H:Hp} {xs:List V} (h:Reps K H [] xs):xs=[]:=by rw [Reps] at h; exact h
theorem Reps.cons_of {K:Frag} {H:Hp} {d:D} {ds:List D} {xs:List V} (h:Reps K H (d :: ds) xs):∃v vs,xs=v :: vs/\Rep K H d v/\Reps K H ds vs:=by rw [Reps] at h; exact h
theorem Reps.length {K:Frag} {H:Hp}:∀{ds:List D} {vs:List V},Reps K H ds vs->vs.length=ds.length
 | [],_,h=>by rw [h.nil_of]; rfl
 | d :: ds,_,h=>by
  obtain ⟨v,vs,rfl,_,t⟩:=h.cons_of;simp [Reps.length t]
theorem Reps.isEmpty {K:Frag} {H:Hp} {ds:List D} {vs:List V} (h:Reps K H ds vs):vs.isEmpty=ds.isEmpty:=by
 cases ds with
 | nil=>rw [h.nil_of]; rfl
 | cons d ds=>obtain ⟨v,vs,rfl,_,_⟩:=h.cons_of; rfl
theorem Reps.get {K:Frag} {H:Hp}:∀{ds:List D} {vs:List V} {i:Nat} {d:D},Reps K H ds vs->ds[i]? = some d->∃v,vs[i]? = some v/\Rep K H d v
 | [],_,i,d,h,e=>by simp at e
 | d' :: ds,_,0,d,h,e=>by
  obtain ⟨v,vs,rfl,r,t⟩:=h.cons_of;simp at e; subst e;exact ⟨v,by simp,r⟩
 | d' :: ds,_,i + 1,d,h,e=>by
  obtain ⟨v,vs,rfl,r,t⟩:=h.cons_of;simp at e;obtain ⟨u,e1,e2⟩:=Reps.get t e;exact ⟨u,by simpa using e1,e2⟩
theorem Reps.get' {K:Frag} {H:Hp}:∀{ds:List D} {vs:List V} {i:Nat} {v:V},Reps K H ds vs->vs[i]? = some v->∃d,ds[i]? = some d/\Rep K H d v
 | [],_,i,v,h,e=>by rw [h.nil_of] at e; simp at e
 | d' :: ds,_,0,v,h,e=>by
  obtain ⟨v',vs,rfl,r,t⟩:=h.cons_of;simp at e; subst e;exact ⟨d',by simp,r⟩
 | d' :: ds,_,i + 1,v,h,e=>by
  obtain ⟨v',vs,rfl,r,t⟩:=h.cons_of;simp at e;obtain ⟨u,e1,e2⟩:=Reps.get' t e;exact ⟨u,by simpa using e1,e2⟩
theorem Reps.append {K:Frag} {H:Hp}:∀{ds es:List D} {vs ws:List V},Reps K H ds vs->Reps K H es ws->Reps K H (ds ++ es) (vs ++ ws)
 | [],_,_,_,h,t=>by rw [h.nil_of]; exact t
 | d :: ds,_,_,_,h,t=>by
  obtain ⟨v,vs,rfl,r,q⟩:=h.cons_of;exact Reps.cons r (Reps.append q t)
theorem Reps.take {K:Frag} {H:Hp}:∀(n:Nat) {ds:List D} {vs:List V},Reps K H ds vs->Reps K H (ds.take n) (vs.take n)
 | 0,_,_,_=>by simpa using Reps.nil
 | n + 1,[],_,h=>by rw [h.nil_of]; simpa using Reps.nil
 | n + 1,d :: ds,_,h=>by
  obtain ⟨v,vs,rfl,r,q⟩:=h.cons_of;simpa using Reps.cons r (Reps.take n q)
theorem Reps.drop {K:Frag} {H:Hp}:∀(n:Nat) {ds:List D} {vs:List V},Reps K H ds vs->Reps K H (ds.drop n) (vs.drop n)
 | 0,_,_,h=>by simpa using h
 | n + 1,[],_,h=>by rw [h.nil_of]; simpa using Reps.nil
 | n + 1,d :: ds,_,h=>by
  obtain ⟨v,vs,rfl,r,q⟩:=h.cons_of;simpa using Reps.drop n q
inductive SV where
 | val (d:D)
 | arg (d:D)
 | own (ds:List D)
abbrev DS:=List (Option SV)
noncomputable def SV.view:SV->D
 | .val d=>d
 | .arg d=>d
 | .own ds=>.lst ds
noncomputable def zN (K:Frag) (G H:Hp):SV->V->Prop
 | .val d,v=>Rep K H d v
 | .arg d,v=>Rep K G d v
 | .own ds,v=>∃a xs,v=.ref a/\H a=some (.lst xs)/\Reps K H ds xs/\G a=none
structure RepSt (K:Frag) (G H:Hp) (σ:St) (δ:DS):Prop where
 same:Same G H
 len:σ.length=δ.length
 at_:∀(i:Nat) (sv:SV),δ[i]? = some (some sv)->∃v,σ[i]? = some (some v)/\zN K G H sv v
 sep:∀(i j:Nat) (ds es:List D) (v:V),i≠j->δ[i]? = some (some (.own ds))->δ[j]? = some (some (.own es))->σ[i]? = some (some v)->σ[j]?≠some (some v)
structure TK (H H':Hp):Prop where
 tup:∀b xs,H b=some (.tup xs)->H' b=some (.tup xs)
 frz:∀b o u,H b=some (.frz o u)->H' b=some (.frz o u)
 trk:∀b,H' b=none->H b=none
theorem _root_.L2.Same.tk {H H':Hp} (e:Same H H'):TK H H':=⟨fun b xs h=>e b _ h,fun b o u h=>e b _ h,fun b h=>e.free h⟩
theorem TK.refl (H:Hp):TK H H:=⟨fun _ _ h=>h,fun _ _ _ h=>h,fun _ h=>h⟩
theorem TK.trans {H H1 H2:Hp} (a:TK H H1) (b:TK H1 H2):TK H H2:=⟨fun c xs h=>b.tup c xs (a.tup c xs h),fun c o u h=>b.frz c o u (a.frz c o u h),fun c h=>a.trk c (b.trk c h)⟩
theorem RepSt.mono {K:Frag} {G H H':Hp} {σ:St} {δ:DS} (R:RepSt K G H σ δ) (e:Same H H'):RepSt K G H' σ δ where
 same:=R.same.trans e
 len:=R.len
 at_:=fun i sv h=>by
  obtain ⟨v,e1,e2⟩:=R.at_ i sv h;refine ⟨v,e1,?_⟩
  cases sv with
  | val d=>exact Rep.mono e e2
  | arg d=>exact e2
  | own ds =>
   obtain ⟨a,xs,q1,q2,q3,q4⟩:=e2;exact ⟨a,xs,q1,e _ _ q2,q3.mono e,q4⟩
 sep:=R.sep
theorem RepSt.view {K:Frag} {G H:Hp} {σ:St} {δ:DS} (R:RepSt K G H σ δ) {i:Nat} {sv:SV} (h:δ[i]? = some (some sv)):∃v,σ[i]? = some (some v)/\Rep K H sv.view v:=by
 obtain ⟨v,e1,e2⟩:=R.at_ i sv h;refine ⟨v,e1,?_⟩
 cases sv with
 | val d=>exact e2
 | arg d=>exact Rep.mono R.same e2
 | own ds =>
  obtain ⟨a,xs,rfl,q2,q3,q4⟩:=e2;show Rep K H (.lst ds) _;rw [Rep];exact ⟨a,xs,rfl,SqL.of q2,q3⟩
theorem RepSt.set {K:Frag} {G H:Hp} {σ:St} {δ:DS} (R:RepSt K G H σ δ) (i:Nat) {d:D} {v:V} (h:Rep K H d v):RepSt K G H (σ.set i (some v)) (δ.set i (some (.val d))) where
 same:=R.same
 len:=by simpa using R.len
 at_:=fun j sv e=>by
  by_cases hj:i=j
  ·subst hj;have hl:i < δ.length:=by
    rw [List.getElem?_set] at e
    by_cases q:i < δ.length
    ·exact q
    ·simp [q] at e
   rw [List.getElem?_set_self hl] at e
   cases e
   exact ⟨v,by rw [List.getElem?_set_self (by rw [R.len]; exact hl)],h⟩
  ·rw [List.getElem?_set_ne hj] at e;obtain ⟨u,e1,e2⟩:=R.at_ j sv e;exact ⟨u,by rw [List.getElem?_set_ne hj]; exact e1,e2⟩
 sep:=fun j k ds es u hjk e1 e2 e3=>by
  have n1:i≠j:=by
   rintro rfl
   rw [List.getElem?_set] at e1
   split at e1
   ·split at e1 <;> cases e1
   ·omega
  have n2:i≠k:=by
   rintro rfl
   rw [List.getElem?_set] at e2
   split at e2
   ·split at e2 <;> cases e2
   ·omega
  rw [List.getElem?_set_ne n1] at e1 e3;rw [List.getElem?_set_ne n2] at e2;rw [List.getElem?_set_ne n2];exact R.sep j k ds es u hjk e1 e2 e3
theorem RepSt.setOwn {K:Frag} {G H H':Hp} {σ:St} {δ:DS} (R:RepSt K G H σ δ) (e:Same H H') (i:Nat) {ds:List D} {a:Addr} {xs:List V} (hn:H a=none) (h:H' a=some (.lst xs)) (r:Reps K H' ds xs) :
  RepSt K G H' (σ.set i (some (.ref a))) (δ.set i (some (.own ds))) where
 same:=R.same.trans e
 len:=by simpa using R.len
 at_:=fun j sv q=>by
  have R':=R.mono e
  by_cases hj:i=j
  ·subst hj;have hl:i < δ.length:=by
    rw [List.getElem?_set] at q
    by_cases z:i < δ.length
    ·exact z
    ·simp [z] at q
   rw [List.getElem?_set_self hl] at q
   cases q
   exact ⟨.ref a,by rw [List.getElem?_set_self (by rw [R.len]; exact hl)],a,xs,rfl,h,r,R.same.free hn⟩
  ·rw [List.getElem?_set_ne hj] at q;obtain ⟨u,e1,e2⟩:=R'.at_ j sv q;exact ⟨u,by rw [List.getElem?_set_ne hj]; exact e1,e2⟩
 sep:=fun j k ds' es u hjk e1 e2 e3=>by
  have old:∀(m:Nat) (fs:List D) (z:V),δ[m]? = some (some (.own fs))->σ[m]? = some (some z)->z≠.ref a:=fun m fs z q1 q2 q3=>by
   obtain ⟨v,w1,b,ys,w2,w3,_⟩:=R.at_ m _ q1;rw [q2] at w1
   cases w1
   rw [q3] at w2
   cases w2
   rw [hn] at w3
   cases w3
  by_cases hj:i=j
  ·subst hj;have nk:i≠k:=hjk;rw [List.getElem?_set_ne nk] at e2;rw [List.getElem?_set_ne nk];intro q;have ev:u=.ref a:=by
    rw [List.getElem?_set] at e3
    split at e3
    ·split at e3
     ·cases e3; rfl
     ·cases e3
    ·omega
   exact old k es u e2 q ev
  ·rw [List.getElem?_set_ne hj] at e1 e3
   by_cases hk:i=k
   ·subst hk;intro q;have ev:u=.ref a:=by
     rw [List.getElem?_set] at q
     split at q
     ·split at q
      ·cases q; rfl
      ·cases q
     ·omega
    exact old j ds' u e1 e3 ev
   ·rw [List.getElem?_set_ne hk] at e2;rw [List.getElem?_set_ne hk];exact R.sep j k ds' es u hjk e1 e2 e3
theorem obj_some {P:Program} {w:World} {H:Hp} {h:Heap} {a:Addr} {o:HO} (x:ObjOk P w H h a o):∃ob,h.get? a=some ob:=by
 cases o with
 | lst xs=>obtain ⟨_,_,_,_,e⟩:=x; exact ⟨_,e⟩
 | tup xs=>obtain ⟨_,_,_,o,e,_⟩:=x; exact ⟨o,e⟩
 | dK kvs=>obtain ⟨_,_,_,_,o,_,_,e,_⟩:=x; exact ⟨o,e⟩
 | dT kvs=>obtain ⟨_,_,_,_,o,_,_,e,_⟩:=x; exact ⟨o,e⟩
 | set S n=>obtain ⟨o,_,_,_,e,_⟩:=x; exact ⟨o,e⟩
 | ins C dx fs=>obtain ⟨_,_,_,e,_⟩:=x; exact ⟨_,e⟩
 | own y=>obtain ⟨o,e⟩:=x; exact ⟨o,e⟩
 | xd fs=>obtain ⟨_,⟨o,_,_,e,_⟩,_⟩:=x; exact ⟨o,e⟩
 | rng lo hi=>obtain ⟨_,_,_,e⟩:=x; exact ⟨_,e⟩
 | frz ob u=>obtain ⟨e,_⟩:=x; exact ⟨_,e⟩
 | tbl ps=>exact ⟨_,show h.get? a=some _ from x⟩
 | met f y=>exact ⟨_,show h.get? a=some _ from x⟩
 | ext φ=>obtain ⟨_,⟨o,e⟩,_⟩:=x; exact ⟨o,e⟩
noncomputable def fj (h:Heap) (e:Addr):Prop:=∀o vs,h.get? e=some o->o.data≠.fields vs
noncomputable def Back (H:Hp) (h h1:Heap):Prop:=∀e,H e=none->fj h1 e->fj h e
theorem Back.refl (H:Hp) (h:Heap):Back H h h:=fun _ _ q=>q
theorem Back.trans {H H1:Hp} {h h1 h2:Heap} (a:Back H h h1) (b:Back H1 h1 h2) (k:∀e,H e=none->fj h2 e->H1 e=none):Back H h h2:=fun e n q=>a e n (b e (k e n q) q)
noncomputable def Fly (h0:Heap) (H:Hp) (h:Heap) (e:Addr) (cls:Value×Option Addr):Prop :=
 fj h0 e/\H e=none/\∃oe vs a0,h.get? e=some oe/\(oe.cls=cls.1/\oe.dict=cls.2)/\oe.data=.fields vs/\vs[0]? = some a0 /\
  (vs[1]? = some .none\/∃T oT ts,vs[1]? = some (.ref T)/\fj h0 T/\H T=none/\T≠e/\h.get? T=some oT/\oT.data=.fields ts/\ts[3]? = some .none)
theorem Fly.back {h0 h1 h:Heap} {H0 H1 H:Hp} {e:Addr} {cls:Value×Option Addr} (f:Fly h1 H h e cls) (e1:TK H0 H1) (e2:TK H1 H) (b:Back H0 h0 h1):Fly h0 H h e cls:=by
 obtain ⟨n,he,oe,vs,a0,q1,q2,q3,q4,q5⟩:=f;refine ⟨b e (e1.trk e (e2.trk e he)) n,he,oe,vs,a0,q1,q2,q3,q4,?_⟩;rcases q5 with q5 | ⟨T,oT,ts,w1,w2,w3,w4⟩
 ·exact .inl q5
 ·exact .inr ⟨T,oT,ts,w1,b T (e1.trk T (e2.trk T w3)) w2,w3,w4⟩
noncomputable def Ef (K:Frag) (H:Hp) (x:Exn) (dd:Option Addr):Prop:=match x.pay with
 | none=>dd=none
 | some (f,d)=>∃dx u,dd=some dx/\H dx=some (.xd [(f,u)])/\Rep K H d u
noncomputable def FlyX (K:Frag) (x:Exn) (h0:Heap) (H:Hp) (h:Heap) (e C:Addr):Prop:=∃dd,Ef K H x dd/\Fly h0 H h e (.ref C,dd)
theorem FlyX.back {K:Frag} {x:Exn} {h0 h1 h:Heap} {H0 H1 H:Hp} {e C:Addr} (f:FlyX K x h1 H h e C) (e1:TK H0 H1) (e2:TK H1 H) (b:Back H0 h0 h1):FlyX K x h0 H h e C:=by
 obtain ⟨dd,p,f⟩:=f;exact ⟨dd,p,f.back e1 e2 b⟩
noncomputable def EPost (X:Cx) (pins:List (Addr×Obj)) (σ:St) (H:Hp) (r:Res D) (u:Value) (s1:Shared):Prop:=∃d v H1,r=.ok d/\Inv X pins σ H1 s1/\RelV v u/\Same H H1/\Rep X.K H1 d v
noncomputable def XPost {α:Type} (X:Cx) (pins:List (Addr×Obj)) (σ:St) (H:Hp) (h0:Heap) (r:Res α) (e:Value) (s1:Shared):Prop :=
 ∃x a C H1,r=.err x/\e=.ref a/\Inv X pins σ H1 s1/\Same H H1/\nsIn X.K mainGlobals x.cls=some (some (.ref C))/\FlyX X.K x h0 H1 s1.heap a C
theorem XPost.back {α β:Type} {X:Cx} {pins:List (Addr×Obj)} {σ:St} {H H1:Hp} {h h1:Heap} {r:Res α} {r':Res β} {e:Value} {s1:Shared} (p:XPost X pins σ H1 h1 r e s1) (e1:Same H H1) (b:Back H h h1) (hr:∀x,r=.err x->r'=.err x):XPost X pins σ H h r' e s1:=by
 obtain ⟨x,a,C,H2,q1,q2,q3,q4,q5,q6⟩:=p;exact ⟨x,a,C,H2,hr x q1,q2,q3,e1.trans q4,q5,q6.back e1.tk q4.tk b⟩
theorem XPost.same {α β:Type} {X:Cx} {pins:List (Addr×Obj)} {σ:St} {H:Hp} {h:Heap} {r:Res α} {r':Res β} {e:Value} {s1:Shared} (p:XPost X pins σ H h r e s1) (hr:∀x,r=.err x->r'=.err x):XPost X pins σ H h r' e s1:=p.back (Same.refl H) (Back.refl H h) hr
theorem XPost.none {α:Type} {X:Cx} {pins:List (Addr×Obj)} {σ:St} {H:Hp} {h0:Heap} {a:α} {e:Value} {s1:Shared} (p:XPost X pins σ H h0 (.ok a) e s1):False:=by
 obtain ⟨x,_,_,_,q,_⟩:=p; cases q
noncomputable def PD (X:Cx) (e:Expr) (f:DS->Res D):Prop :=
 ∀(pins:List (Addr×Obj)) (s:Shared) (σ:St) (G H:Hp) (δ:DS),Inv X pins σ H s->RepSt X.K G H σ δ->f δ≠.stuck ->
  wpAny (model X.prog X.w) X.A (eval e X.env) (EPost X pins σ H (f δ)) (XPost X pins σ H s.heap (f δ)) s
open Classical in
noncomputable def jr (X:Cx) (H:Hp) (h:Heap):List (Addr×Obj) :=
 (List.range h.objs.size).filterMap fun a=>(h.get? a).bind fun o=>if H a=none/\a≠X.env.locals/\a∉X.fs/\(∀v,o.data≠.cell v) then some (a,o) else none
theorem Qj {X:Cx} {H:Hp} {h:Heap} {p:Addr×Obj} (hp:p∈jr X H h):h.get? p.1=some p.2/\H p.1=none/\p.1≠X.env.locals/\p.1∉X.fs/\∀v,p.2.data≠.cell v:=by
 obtain ⟨a,_,e⟩:=mem_filterMap.mp hp
 cases q:h.get? a with
 | none=>rw [q] at e; cases e
 | some o =>
  rw [q] at e;simp only [Option.bind_some] at e
  split at e
  ·rename_i c
   cases e
   exact ⟨q,c⟩
  ·cases e
theorem Qk {X:Cx} {H:Hp} {h:Heap} {a:Addr} {o:Obj} (e:h.get? a=some o) (c:H a=none/\a≠X.env.locals/\a∉X.fs/\∀v,o.data≠.cell v):(a,o)∈jr X H h:=by
 refine mem_filterMap.mpr ⟨a,mem_range.mpr (Heap.lt_size e),?_⟩;rw [e];simp only [Option.bind_some];rw [if_pos c]
section
variable {X:Cx} {pins:List (Addr×Obj)} {s:Shared} {σ:St} {G H:Hp} {δ:DS}
theorem _root_.L2.Inv.all (I:Inv X pins σ H s):Inv X (pins ++ jr X H s.heap) σ H s :=
 I.pins_of fun p hp=>(mem_append.mp hp).elim (fun z=>I.pin p (mem_append_right _ z)) Qj
theorem _root_.L2.Inv.locals_dict (I:Inv X pins σ H s) {o:Obj} {vs:Array Value} (e:s.heap.get? X.env.locals=some o):o.data≠.fields vs:=by
 obtain ⟨m,⟨o',es,ep,ho,hd,_⟩,_⟩:=I.loc;rw [e] at ho; cases ho;rw [hd]; intro z; cases z
theorem _root_.L2.Inv.fs_rec (I:Inv X pins σ H s) {b:Addr} (hb:b∈X.fs) {o:Obj} {vs:Array Value} (e:s.heap.get? b=some o):o.data≠.fields vs:=by
 obtain ⟨_,o',ho,hd⟩:=I.funs.mem hb;rw [e] at ho; cases ho;exact hd vs
theorem _root_.L2.Inv.backTo {σ1:St} {H1:Hp} {s1:Shared} (I:Inv X pins σ H s) (J:Inv X (pins ++ jr X H s.heap) σ1 H1 s1):Back H s.heap s1.heap:=by
 intro e n q o vs ho hd;have hm:(e,o)∈jr X H s.heap:=Qk ho ⟨n,fun z=>by subst z; exact I.locals_dict ho hd,fun z=>I.fs_rec z ho hd,fun v z=>by rw [hd] at z; cases z⟩;exact q o vs (J.pin (e,o) (mem_append_right _ (mem_append_right _ hm))).1 hd
theorem PD.use {e:Expr} {f:DS->Res D} (h:PD X e f) (I:Inv X pins σ H s) (R:RepSt X.K G H σ δ) (hs:f δ≠.stuck) {P E:Value->Shared->Prop}
  (k:∀d u s1 v H1,f δ=.ok d->Inv X pins σ H1 s1->RelV v u->Same H H1->Back H s.heap s1.heap->Rep X.K H1 d v->P u s1)
  (kx:∀e s1,XPost X pins σ H s.heap (f δ) e s1->E e s1):wpAny (model X.prog X.w) X.A (eval e X.env) P E s:=by
 refine wpAny_mono (h (pins ++ jr X H s.heap) s σ G H δ I.all R hs) (fun u s1 ⟨d,v,H1,q1,q2,q3,q4,q5⟩=>k d u s1 v H1 q1 q2.unpinned q3 q4 (I.backTo q2) q5) fun e s1 ⟨x,a,C,H1,q1,q2,q3,q4,q5,q6⟩=>kx e s1 ⟨x,a,C,H1,q1,q2,q3.unpinned,q4,q5,q6⟩
end
section
variable {X:Cx} {e:Expr} {pos:Pos}
theorem dv' {d:D} {v:V} (h:∀E,PE (X.wish E) e (tC v)) (hr:∀H,Rep X.K H d v):PD X e (fun _=>.ok d):=by
 intro pins s σ G H δ I R _;refine wpAny_mono (h (fun _ _=>False) pins s σ H (fun v' H'=>v'=v/\H'=H) (I.wish _) ⟨rfl,rfl⟩) (fun u s1 q=>?_) fun _ _ z=>z.elim;obtain ⟨v',H',I',r',e1,e2⟩:=q;subst e1 e2;exact ⟨d,v',H',rfl,I'.unwish,r',Same.refl _,hr _⟩
theorem aB {i:Int} {j}:PD X (.Constant (.int i) j pos) (fun _=>.ok (.int i)):=dv' (fun _=>Oj) (fun _=>by rw [Rep])
theorem ct' {k:Bool} {j}:PD X (.Constant (.bool k) j pos) (fun _=>.ok (.bl k)):=dv' (fun _=>Ol) (fun _=>by rw [Rep])
theorem qJ {j}:PD X (.Constant .none j pos) (fun _=>.ok .non):=dv' (fun _=>Om) (fun _=>by rw [Rep])
theorem Gu {x:Str} {j}:PD X (.Constant (.str x) j pos) (fun _=>.ok (.str x)):=dv' (fun _=>JB) (fun _=>by rw [Rep])
theorem Ql {x:Str} {d:D} {v:V} {u:Value} (hg:Gl X x) (hm:X.mg x=some u) (r:RelV v u) (hr:∀H,Rep X.K H d v) (hd:(x == ("__debug__" : Str))=false:=by decide):PD X (.Name x pos) (fun _=>.ok d) :=
 dv' (fun _=>Oo hg hm r hd) hr
noncomputable def ak (i:Nat):DS->Res D:=fun δ=>match δ[i]? with | some (some sv)=>.ok sv.view | _=>.stuck
theorem aA (i:Nat) {x:Str} (hN:X.N[i]? = some x:=by rfl) (hv:wZ X.env.scope x:=by first | exact Or.inl rfl | exact Or.inr (Or.inl rfl) | exact Or.inr (Or.inr rfl)) (hd:(x == ("__debug__" : Str))=false:=by decide)
  (hcd:(x == ("__classdict__" : Str))=false:=by decide):PD X (.Name x pos) (ak i):=by
 intro pins s σ G H δ I R hs
 try dsimp only at hs ⊢
 unfold ak at hs ⊢
 split at hs
 ·rename_i sv e;obtain ⟨v,e1,e2⟩:=R.view e;refine wpAny_mono (D_ (X:=X.wish fun _ _=>False) hN hv hd hcd pins s σ H (fun v' H'=>v'=v/\H'=H) (I.wish _) ⟨v,e1,rfl,rfl⟩) (fun u s1 q=>?_) fun _ _ z=>z.elim;obtain ⟨v',H',I',r',e3,e4⟩:=q;subst e3 e4;exact ⟨_,v',H',rfl,I'.unwish,r',Same.refl _,e2⟩
 ·exact (hs rfl).elim
end
noncomputable def OpD (X:Cx) (f:Value->Value->Sem Value) (g:D->D->Res D):Prop :=
 ∀(E:Value->Shared->Prop) (pins:List (Addr×Obj)) (s:Shared) (σ:St) (H:Hp) (x y:V) (v u:Value) (a b d:D),Inv X pins σ H s->RelV x v->RelV y u->Rep X.K H a x->Rep X.K H b y->g a b=.ok d ->
  wpAny (model X.prog X.w) X.A (f v u) (EPost X pins σ H (.ok d)) E s
noncomputable def aX {α:Type} (r:Res α):Prop:=∀x,r≠.err x
noncomputable def two (fa fb:DS->Res D) (g:D->D->Res D):DS->Res D:=fun δ=>(fa δ).bind fun x=>(fb δ).bind fun y=>g x y
theorem oI' {fa fb:DS->Res D} {g:D->D->Res D} {δ:DS} (h:two fa fb g δ≠.stuck):fa δ≠.stuck:=fun q=>h (by unfold two; rw [q]; rfl)
theorem Qm {fa fb:DS->Res D} {g:D->D->Res D} {δ:DS} {x:D} (h:two fa fb g δ≠.stuck) (q1:fa δ=.ok x):fb δ≠.stuck:=fun q=>h (by unfold two; rw [q1,Res.bind_ok,q]; rfl)
theorem Qn {fa fb:DS->Res D} {g:D->D->Res D} {δ:DS} {x y:D} (q1:fa δ=.ok x) (q2:fb δ=.ok y):two fa fb g δ=g x y:=by unfold two; rw [q1,Res.bind_ok,q2,Res.bind_ok]
theorem oL' {fa fb:DS->Res D} {g:D->D->Res D} {δ:DS} {x:Exn} (q1:fa δ=.err x):two fa fb g δ=.err x:=by unfold two; rw [q1]; rfl
theorem Qo {fa fb:DS->Res D} {g:D->D->Res D} {δ:DS} {x:D} {y:Exn} (q1:fa δ=.ok x) (q2:fb δ=.err y):two fa fb g δ=.err y:=by unfold two; rw [q1,Res.bind_ok,q2]; rfl
section
variable {X:Cx} {a b:Expr} {fa fb:DS->Res D} {pos:Pos}
theorem Gv {g:D->D->Res D} {pins:List (Addr×Obj)} {s:Shared} {σ:St} {G H:Hp} {δ:DS} (ha:PD X a fa) (hb:PD X b fb) (I:Inv X pins σ H s) (R:RepSt X.K G H σ δ) (hs:two fa fb g δ≠.stuck) {P:Value->Value->Shared->Prop} {E:Value->Shared->Prop}
  (k:∀x y v u s2 vx vy H2,two fa fb g δ=g x y->Inv X pins σ H2 s2->RelV vx v->RelV vy u->Same H H2->Rep X.K H2 x vx->Rep X.K H2 y vy->P v u s2)
  (kx:∀e s1,XPost X pins σ H s.heap (two fa fb g δ) e s1->E e s1) :
  wpAny (model X.prog X.w) X.A (eval a X.env) (fun v s1=>wpAny (model X.prog X.w) X.A (eval b X.env) (fun u s2=>P v u s2) E s1) E s:=by
 refine ha.use I R (oI' hs) (fun x u s1 v H1 qa I1 r1 e1 b1 p1=>?_) fun e s1 q=>kx e s1 (q.same fun x z=>oL' z);refine hb.use I1 (R.mono e1) (Qm hs qa) (fun y u2 s2 v2 H2 qb I2 r2 e2 b2 p2=>?_) fun e s2 q=>kx e s2 (q.back e1 b1 fun x z=>Qo qa z);exact k x y u u2 s2 v v2 H2 (Qn qa qb) I2 r1 r2 (e1.trans e2) (p1.mono e2) p2
theorem EPost.from {X:Cx} {pins:List (Addr×Obj)} {σ:St} {H H1:Hp} {r r':Res D} {u:Value} {s1:Shared} (p:EPost X pins σ H1 r u s1) (e:Same H H1) (q:r=r'):EPost X pins σ H r' u s1:=by
 obtain ⟨d,v,H2,q1,q2,q3,q4,q5⟩:=p;exact ⟨d,v,H2,q ▸ q1,q2,q3,e.trans q4,q5⟩
theorem Gw {g:D->D->Res D} {pins:List (Addr×Obj)} {s:Shared} {σ:St} {G H:Hp} {δ:DS} {f:Value->Value->Sem Value} (ho:OpD X f g) (hg:∀x y,aX (g x y)) (ha:PD X a fa) (hb:PD X b fb) (I:Inv X pins σ H s) (R:RepSt X.K G H σ δ) (hs:two fa fb g δ≠.stuck) {E:Value->Shared->Prop}
  (kx:∀e s1,XPost X pins σ H s.heap (two fa fb g δ) e s1->E e s1) :
  wpAny (model X.prog X.w) X.A (eval a X.env) (fun v s1=>wpAny (model X.prog X.w) X.A (eval b X.env) (fun u s2=>wpAny (model X.prog X.w) X.A (f v u) (EPost X pins σ H (two fa fb g δ)) E s2) E s1) E s:=by
 refine Gv ha hb I R hs (fun x y v u s2 vx vy H2 q I2 r1 r2 e2 p1 p2=>?_) kx
 cases qg:g x y with
 | stuck=>exact (hs (q.trans qg)).elim
 | err z=>exact (hg x y z qg).elim
 | ok d=>exact gn (ho E pins s2 σ H2 vx vy v u x y d I2 r1 r2 p1 p2 qg) fun w s3 p=>p.from e2 (qg.symm.trans q.symm)
theorem bB {op:Operator} {g:D->D->Res D} (ho:OpD X (binaryOp op) g) (hg:∀x y,aX (g x y)) (ha:PD X a fa) (hb:PD X b fb):PD X (.BinOp a op b pos) (two fa fb g) :=
 fun pins s σ G H δ I R hs=>wpAny_BinOp (Gw ho hg ha hb I R hs fun _ _ q=>q)
theorem qK {op:CmpOp} {g:D->D->Res D} (ho:OpD X (compareOp op) g) (hg:∀x y,aX (g x y)) (ha:PD X a fa) (hb:PD X b fb) (hm:behindInMarks op b=false):PD X (.Compare a [op] [b] pos) (two fa fb g) :=
 fun pins s σ G H δ I R hs=>wpAny_Compare1 (Gw ho hg ha hb I R hs fun _ _ q=>q) hm
theorem OpD.of {f:Value->Value->Sem Value} {r:R2} {g:D->D->Res D} (ho:∀E,OpR (X.wish E) f r)
  (h:∀(H:Hp) (x y:V) (a b d:D) (Q:VK),Rep X.K H a x->Rep X.K H b y->g a b=.ok d->(∀z H',Same H H'->Rep X.K H' d z->Q z H')->r x y H Q):OpD X f g :=
 fun E pins s σ H x y v u a b d I r1 r2 p1 p2 e=>gn (ho E pins s σ H x y v u (fun z H'=>Same H H'/\Rep X.K H' d z) (I.wish _) r1 r2 (h H x y a b d _ p1 p2 e fun z H' a b=>⟨a,b⟩)) fun w s1 ⟨z,H1,I1,r3,e1,p3⟩=>⟨d,z,H1,rfl,I1.unwish,r3,e1,p3⟩
end
noncomputable def o9 (X:Cx) (pins:List (Addr×Obj)) (σ:St) (H:Hp) (r:Res Bool) (u:Bool) (s1:Shared):Prop:=∃H1,r=.ok u/\Inv X pins σ H1 s1/\Same H H1
noncomputable def PTD (X:Cx) (e:Expr) (f:DS->Res Bool):Prop :=
 ∀(pins:List (Addr×Obj)) (s:Shared) (σ:St) (G H:Hp) (δ:DS),Inv X pins σ H s->RepSt X.K G H σ δ->f δ≠.stuck ->
  wpAny (model X.prog X.w) X.A (isTrue e X.env (eval e X.env)) (o9 X pins σ H (f δ)) (XPost X pins σ H s.heap (f δ)) s
noncomputable def PWD (X:Cx) (e:Expr) (f:DS->Res Bool):Prop :=
 ∀(wh:Sem Value) (pins:List (Addr×Obj)) (s:Shared) (σ:St) (G H:Hp) (δ:DS),Inv X pins σ H s->RepSt X.K G H σ δ->f δ≠.stuck ->
  wpAny (model X.prog X.w) X.A (isTrue e X.env wh) (o9 X pins σ H (f δ)) (XPost X pins σ H s.heap (f δ)) s
theorem PWD.pt {X:Cx} {e:Expr} {f:DS->Res Bool} (h:PWD X e f):PTD X e f:=h _
section
variable {X:Cx} {pins:List (Addr×Obj)} {s:Shared} {σ:St} {G H:Hp} {δ:DS}
theorem Gx {t:Sem Bool} {f:DS->Res Bool} (h:∀pins,Inv X pins σ H s->wpAny (model X.prog X.w) X.A t (o9 X pins σ H (f δ)) (XPost X pins σ H s.heap (f δ)) s) (I:Inv X pins σ H s) {P:Bool->Shared->Prop} {E:Value->Shared->Prop}
  (k:∀d s1 H1,f δ=.ok d->Inv X pins σ H1 s1->Same H H1->Back H s.heap s1.heap->P d s1) (kx:∀e s1,XPost X pins σ H s.heap (f δ) e s1->E e s1):wpAny (model X.prog X.w) X.A t P E s:=by
 refine wpAny_mono (h (pins ++ jr X H s.heap) I.all) (fun d s1 ⟨H1,q1,q2,q3⟩=>k d s1 H1 q1 q2.unpinned q3 (I.backTo q2)) fun e s1 ⟨x,a,C,H1,q1,q2,q3,q4,q5,q6⟩=>kx e s1 ⟨x,a,C,H1,q1,q2,q3.unpinned,q4,q5,q6⟩
theorem PTD.use {e:Expr} {f:DS->Res Bool} (h:PTD X e f) (I:Inv X pins σ H s) (R:RepSt X.K G H σ δ) (hs:f δ≠.stuck) {P:Bool->Shared->Prop} {E:Value->Shared->Prop}
  (k:∀d s1 H1,f δ=.ok d->Inv X pins σ H1 s1->Same H H1->Back H s.heap s1.heap->P d s1) (kx:∀e s1,XPost X pins σ H s.heap (f δ) e s1->E e s1):wpAny (model X.prog X.w) X.A (isTrue e X.env (eval e X.env)) P E s :=
 Gx (f:=f) (δ:=δ) (fun pins I=>h pins s σ G H δ I R hs) I k kx
theorem PWD.use {e:Expr} {f:DS->Res Bool} (h:PWD X e f) (wh:Sem Value) (I:Inv X pins σ H s) (R:RepSt X.K G H σ δ) (hs:f δ≠.stuck) {P:Bool->Shared->Prop} {E:Value->Shared->Prop}
  (k:∀d s1 H1,f δ=.ok d->Inv X pins σ H1 s1->Same H H1->Back H s.heap s1.heap->P d s1) (kx:∀e s1,XPost X pins σ H s.heap (f δ) e s1->E e s1):wpAny (model X.prog X.w) X.A (isTrue e X.env wh) P E s :=
 Gx (f:=f) (δ:=δ) (fun pins I=>h wh pins s σ G H δ I R hs) I k kx
end
noncomputable def bf:D->Res Bool
 | .non=>.ok false
 | .bl b=>.ok b
 | .int i=>.ok (i != 0)
 | .str x=>if x.length<=sizeLine then .ok ((x.length:Int) != 0) else .stuck
 | .tup ds=>.ok (!ds.isEmpty)
 | .lst ds=>.ok (!ds.isEmpty)
 | _=>.stuck
noncomputable def aJ:D->Res Bool
 | .bl b=>.ok b
 | _=>.stuck
theorem Gy {d:D} (h:aJ d≠.stuck):∃b,d=.bl b:=by
 cases d with
 | bl b=>exact ⟨b,rfl⟩
 | _=>exact (h rfl).elim
theorem gq {α β:Type} {r:Res α} {f:α->Res β} (h:r.bind f≠.stuck):r≠.stuck:=fun q=>h (by rw [q]; rfl)
theorem iD {α β:Type} {r:Res α} {f:α->Res β} {a:α} (h:r.bind f≠.stuck) (e:r=.ok a):f a≠.stuck:=fun q=>h (by rw [e,Res.bind_ok,q])
theorem gY {α β:Type} {r:Res α} {f:α->Res β} {x:Exn} (e:r=.err x):r.bind f=.err x:=by rw [e]; rfl
section
variable {X:Cx} {a b:Expr} {rest:List Expr} {fa:DS->Res D} {ta tb:DS->Res Bool} {pos:Pos}
theorem cP {op:CmpOp} {fb:DS->Res D} {g:D->D->Res D} (ho:OpD X (compareOp op) g) (hg:∀x y,aX (g x y)) (ha:PD X a fa) (hb:PD X b fb) (hm:behindInMarks op b=false):PTD X (.Compare a [op] [b] pos) (fun δ=>(two fa fb g δ).bind aJ):=by
 intro pins s σ G H δ I R hs
 try dsimp only at hs ⊢
 refine wpAny_isTrue_Compare1 (gn (Gw ho hg ha hb I R (gq hs) (fun _ _ q=>q.same fun x z=>gY z)) fun v s1 h1=>gn h1 fun u s2 h2=>gn h2 fun c s3 ⟨d,x,H1,q1,I1,r1,e1,p1⟩=>?_) hm;obtain ⟨k,rfl⟩:=Gy (iD hs q1);rw [Rep] at p1;subst p1
 cases r1
 exact wpAny_truthy_bool ⟨H1,by rw [q1]; rfl,I1,e1⟩
theorem jH (ha:PD X a fa) (he:∀whole,isTrue a X.env whole=(do let v <- whole; standAt a.pos; holding [v] (truthy v)):=by intro _; rfl):PTD X a (fun δ=>(fa δ).bind bf):=by
 intro pins s σ G H δ I R hs
 try dsimp only at hs ⊢
 refine isTrue_plain (ha.use I R (gq hs) (fun d u s1 v H1 q I1 r1 e1 b1 p1=>?_) fun e s1 q=>q.same fun x z=>gY z) (he _);have hd:=iD hs q;refine wpAny_mono (Pj (X:=X.wish fun _ _=>False) pins s1 σ H1 v u (fun k H2=>bf d=.ok k/\H2=H1) (I1.wish _) r1 ?_) (fun k s2 ⟨H2,I2,q2,e2⟩=>⟨H2,by rw [q,Res.bind_ok]; exact q2,I2.unwish,by rw [e2]; exact e1⟩) fun _ _ z=>z.elim
 cases d with
 | non=>rw [Rep] at p1; subst p1; exact ⟨false,rfl,rfl,rfl⟩
 | bl b=>rw [Rep] at p1; subst p1; exact ⟨b,rfl,rfl,rfl⟩
 | int i=>rw [Rep] at p1; subst p1; exact ⟨_,rfl,rfl,rfl⟩
 | str x =>
  rw [Rep] at p1; subst p1
  by_cases hz:x.length<=sizeLine
  ·exact ⟨_,⟨hz,rfl⟩,by simp only [bf,if_pos hz],rfl⟩
  ·simp only [bf,if_neg hz] at hd; exact (hd rfl).elim
 | tup ds =>
  rw [Rep] at p1;obtain ⟨b,xs,rfl,w1,w2⟩:=p1;exact ⟨!ds.isEmpty,.inr (.inl ⟨xs,w1,by rw [w2.isEmpty]⟩),rfl,rfl⟩
 | lst ds =>
  rw [Rep] at p1;obtain ⟨b,xs,rfl,w1,w2⟩:=p1;exact ⟨!ds.isEmpty,.inl ⟨xs,w1,by rw [w2.isEmpty]⟩,rfl,rfl⟩
 | exc c=>exact (hd rfl).elim
 | excf c f d=>exact (hd rfl).elim
 | dct=>exact (hd rfl).elim
theorem bm' (ha:PTD X a ta):PTD X (.UnaryOp .Not a pos) (fun δ=>(ta δ).bind fun c=>.ok (!c)):=by
 intro pins s σ G H δ I R hs
 try dsimp only at hs ⊢
 exact isTrue_not (ha.use I R (gq hs) (fun d s1 H1 q I1 e1 b1=>⟨H1,by rw [q]; rfl,I1,e1⟩) fun e s1 q=>q.same fun x z=>gY z)
noncomputable def jZ (ta tb:DS->Res Bool):DS->Res Bool:=fun δ=>(ta δ).bind fun c=>if c=true then tb δ else .ok false
noncomputable def jJ (ta tb:DS->Res Bool):DS->Res Bool:=fun δ=>(ta δ).bind fun c=>if c=true then .ok true else tb δ
theorem Eg (ha:PTD X a ta):PWD X (.BoolOp .And [a] pos) ta:=by
 intro wh pins s σ G H δ I R hs
 try dsimp only at hs ⊢
 refine isTrue_and (ha.use I R hs (fun c s1 H1 q I1 e1 b1=>?_) fun e s1 q=>q)
 cases c with
 | true=>exact isTrue_and_nil ⟨H1,q,I1,e1⟩
 | false=>exact ⟨H1,q,I1,e1⟩
theorem qL (ha:PTD X a ta):PWD X (.BoolOp .Or [a] pos) ta:=by
 intro wh pins s σ G H δ I R hs
 try dsimp only at hs ⊢
 refine isTrue_or (ha.use I R hs (fun c s1 H1 q I1 e1 b1=>?_) fun e s1 q=>q)
 cases c with
 | false=>exact isTrue_or_nil ⟨H1,q,I1,e1⟩
 | true=>exact ⟨H1,q,I1,e1⟩
theorem Eh (ha:PTD X a ta) (hb:PWD X (.BoolOp .And (b :: rest) pos) tb):PWD X (.BoolOp .And (a :: b :: rest) pos) (jZ ta tb):=by
 intro wh pins s σ G H δ I R hs
 try dsimp only at hs ⊢
 have hs':(ta δ).bind (fun c=>if c=true then tb δ else .ok false)≠.stuck:=hs
 refine isTrue_and (ha.use I R (gq hs') (fun c s1 H1 q I1 e1 b1=>?_) fun e s1 q=>q.same fun x z=>gY z);have hc:=iD hs' q;have ev:jZ ta tb δ=if c=true then tb δ else .ok false:=by unfold jZ; rw [q]; rfl
 cases c with
 | false=>exact ⟨H1,ev,I1,e1⟩
 | true =>
  rw [if_pos rfl] at ev hc;exact hb.use wh I1 (R.mono e1) hc (fun d s2 H2 q2 I2 e2 b2=>⟨H2,ev.trans q2,I2,e1.trans e2⟩) fun e s2 q2=>q2.back e1 b1 fun x z=>ev.trans z
theorem nD (ha:PTD X a ta) (hb:PWD X (.BoolOp .Or (b :: rest) pos) tb):PWD X (.BoolOp .Or (a :: b :: rest) pos) (jJ ta tb):=by
 intro wh pins s σ G H δ I R hs
 try dsimp only at hs ⊢
 have hs':(ta δ).bind (fun c=>if c=true then .ok true else tb δ)≠.stuck:=hs
 refine isTrue_or (ha.use I R (gq hs') (fun c s1 H1 q I1 e1 b1=>?_) fun e s1 q=>q.same fun x z=>gY z);have hc:=iD hs' q;have ev:jJ ta tb δ=if c=true then .ok true else tb δ:=by unfold jJ; rw [q]; rfl
 cases c with
 | true=>exact ⟨H1,ev,I1,e1⟩
 | false =>
  rw [if_neg Bool.false_ne_true] at ev hc;exact hb.use wh I1 (R.mono e1) hc (fun d s2 H2 q2 I2 e2 b2=>⟨H2,ev.trans q2,I2,e1.trans e2⟩) fun e s2 q2=>q2.back e1 b1 fun x z=>ev.trans z
noncomputable def pW (fa fb:DS->Res D):DS->Res D:=fun δ=>(fa δ).bind fun x=>(aJ x).bind fun c=>if c=true then fb δ else .ok (.bl false)
noncomputable def xj (fa:DS->Res D):DS->Res D:=fun δ=>(fa δ).bind fun x=>(aJ x).bind fun c=>.ok (.bl (!c))
theorem kG' {op} (h:PD X a fa):PD X (.BoolOp op [a] pos) fa:=fun pins s σ G H δ I R hs=>BoolOp_one (h pins s σ G H δ I R hs)
theorem J1 {fb:DS->Res D} (ha:PD X a fa) (hb:PD X (.BoolOp .And (b :: rest) pos) fb):PD X (.BoolOp .And (a :: b :: rest) pos) (pW fa fb):=by
 intro pins s σ G H δ I R hs
 try dsimp only at hs ⊢
 have hs':(fa δ).bind (fun x=>(aJ x).bind fun c=>if c=true then fb δ else .ok (.bl false))≠.stuck:=hs
 refine BoolOp_and (ha.use I R (gq hs') (fun d u s1 v H1 q I1 r1 e1 b1 p1=>?_) fun e s1 q=>q.same fun x z=>gY z);have h2:=iD hs' q;obtain ⟨k,rfl⟩:=Gy (gq h2);rw [Rep] at p1;subst p1
 cases r1
 have ev:pW fa fb δ=if k=true then fb δ else .ok (.bl false):=by unfold pW; rw [q]; rfl
 refine wpAny_truthy_bool ?_
 cases k with
 | false=>exact ⟨_,.bl false,H1,ev,I1,rfl,e1,by rw [Rep]⟩
 | true =>
  rw [if_pos rfl] at ev;exact hb.use I1 (R.mono e1) (fun z=>hs (ev.trans z)) (fun d2 u2 s2 v2 H2 q2 I2 r2 e2 b2 p2=>⟨d2,v2,H2,ev.trans q2,I2,r2,e1.trans e2,p2⟩) fun e s2 q2=>q2.back e1 b1 fun x z=>ev.trans z
theorem Qp (ha:PD X a fa):PD X (.UnaryOp .Not a pos) (xj fa):=by
 intro pins s σ G H δ I R hs
 try dsimp only at hs ⊢
 have hs':(fa δ).bind (fun x=>(aJ x).bind fun c=>Res.ok (D.bl (!c)))≠.stuck:=hs;refine UnaryOp_ (ha.use I R (gq hs') (fun d u s1 v H1 q I1 r1 e1 b1 p1=>?_) fun e s1 q=>q.same fun x z=>gY z);have h2:=iD hs' q;obtain ⟨k,rfl⟩:=Gy (gq h2);rw [Rep] at p1;subst p1
 cases r1
 exact not_of (wpAny_truthy_bool ⟨_,.bl (!k),H1,by unfold xj; rw [q]; rfl,I1,rfl,e1,by rw [Rep]⟩)
noncomputable def yL (tc:DS->Res Bool) (fa fb:DS->Res D):DS->Res D:=fun δ=>(tc δ).bind fun c=>if c=true then fa δ else fb δ
theorem J2 {c:Expr} {tc:DS->Res Bool} {fb:DS->Res D} (hc:PTD X c tc) (ha:PD X a fa) (hb:PD X b fb):PD X (.IfExp c a b pos) (yL tc fa fb):=by
 intro pins s σ G H δ I R hs
 try dsimp only at hs ⊢
 have hs':(tc δ).bind (fun c=>if c=true then fa δ else fb δ)≠.stuck:=hs
 refine wpAny_IfExp (hc.use I R (gq hs') (fun k s1 H1 q I1 e1 b1=>?_) fun e s1 q=>q.same fun x z=>gY z);have ev:yL tc fa fb δ=if k=true then fa δ else fb δ:=by unfold yL; rw [q]; rfl
 cases k with
 | true =>
  rw [if_pos rfl] at ev;exact ha.use I1 (R.mono e1) (fun z=>hs (ev.trans z)) (fun d2 u2 s2 v2 H2 q2 I2 r2 e2 b2 p2=>⟨d2,v2,H2,ev.trans q2,I2,r2,e1.trans e2,p2⟩) fun e s2 q2=>q2.back e1 b1 fun x z=>ev.trans z
 | false =>
  rw [if_neg Bool.false_ne_true] at ev;exact hb.use I1 (R.mono e1) (fun z=>hs (ev.trans z)) (fun d2 u2 s2 v2 H2 q2 I2 r2 e2 b2 p2=>⟨d2,v2,H2,ev.trans q2,I2,r2,e1.trans e2,p2⟩) fun e s2 q2=>q2.back e1 b1 fun x z=>ev.trans z
theorem Qs {op:UnaryOp} {g:D->Res D} (ho:∀(E:Value->Shared->Prop) (pins:List (Addr×Obj)) (s:Shared) (σ:St) (H:Hp) (x:V) (v:Value) (d r:D),Inv X pins σ H s->RelV x v->Rep X.K H d x->g d=.ok r->wpAny (model X.prog X.w) X.A (unaryOp op v) (EPost X pins σ H (.ok r)) E s)
  (hg:∀x,aX (g x)) (ha:PD X a fa):PD X (.UnaryOp op a pos) (fun δ=>(fa δ).bind g):=by
 intro pins s σ G H δ I R hs
 try dsimp only at hs ⊢
 refine UnaryOp_ (ha.use I R (gq hs) (fun d u s1 v H1 q I1 r1 e1 b1 p1=>?_) fun e s1 q=>q.same fun x z=>gY z);have h2:=iD hs q
 cases qg:g d with
 | stuck=>exact (h2 qg).elim
 | err z=>exact (hg d z qg).elim
 | ok r=>exact gn (ho _ pins s1 σ H1 v u d r I1 r1 p1 qg) fun w s2 p=>p.from e1 (by rw [q,Res.bind_ok,qg])
end
end DL
namespace DL
open PySem PySem.Spec PyProof.Rows L2
noncomputable def aK (i:Int):Nat:=Builtin.Int.intBits i
noncomputable def a_:D->D->Res D
 | .int i,.int j=>.ok (.int (i + j))
 | .str x,.str y=>if x.length + y.length<=sizeLine then .ok (.str (x ++ y)) else .stuck
 | .tup xs,.tup ys=>if xs.length + ys.length<=sizeLine then .ok (.tup (xs ++ ys)) else .stuck
 | .lst xs,.lst ys=>if xs.length + ys.length<=sizeLine then .ok (.lst (xs ++ ys)) else .stuck
 | _,_=>.stuck
noncomputable def fZ:D->D->Res D
 | .int i,.int j=>.ok (.int (i - j))
 | _,_=>.stuck
noncomputable def dY:D->D->Res D
 | .int i,.int j=>if (aK i<=2 ^ 20/\aK j<=2 ^ 20)\/aK i<=64\/aK j<=64 then .ok (.int (i * j)) else .stuck
 | _,_=>.stuck
noncomputable def bH:D->D->Res D
 | .int i,.int j=>if j≠0/\Builtin.divisionGoesByPylong i j=false then .ok (.int (Int.fdiv i j)) else .stuck
 | _,_=>.stuck
noncomputable def bR:D->D->Res D
 | .int i,.int j=>if j≠0 then .ok (.int (Int.fmod i j)) else .stuck
 | _,_=>.stuck
noncomputable def nF:D->D->Res D
 | .int i,.int j=>if 0<=j/\j<=1000000/\i.natAbs < 2 ^ 64 then .ok (.int (i ^ j.toNat)) else .stuck
 | _,_=>.stuck
noncomputable def jt:D->D->Res D
 | .int i,.int j=>if 0<=j/\j<=1000000/\i.natAbs < 2 ^ 64 then .ok (.int (i * 2 ^ j.toNat)) else .stuck
 | _,_=>.stuck
noncomputable def j5 (p:Int->Int->Bool):D->D->Res D
 | .int i,.int j=>.ok (.bl (p i j))
 | _,_=>.stuck
theorem nG {α:Type} {c:Prop} [Decidable c] {r r':Res α} (h:aX r) (h':aX r'):aX (if c then r else r'):=by
 intro x; by_cases hc:c
 ·rw [if_pos hc]; exact h x
 ·rw [if_neg hc]; exact h' x
theorem eO {α:Type} {a:α}:aX (Res.ok a):=fun _ h=>nomatch h
theorem dG {α:Type}:aX (Res.stuck:Res α):=fun _ h=>nomatch h
theorem fW (x y:D):aX (a_ x y):=by cases x <;> cases y <;> first | exact dG | exact eO | exact nG eO dG
theorem wu (x y:D):aX (fZ x y):=by cases x <;> cases y <;> first | exact dG | exact eO | exact nG eO dG
theorem Qt (x y:D):aX (dY x y):=by cases x <;> cases y <;> first | exact dG | exact eO | exact nG eO dG
theorem lz (x y:D):aX (bH x y):=by cases x <;> cases y <;> first | exact dG | exact eO | exact nG eO dG
theorem o_ (x y:D):aX (bR x y):=by cases x <;> cases y <;> first | exact dG | exact eO | exact nG eO dG
theorem J5 (x y:D):aX (nF x y):=by cases x <;> cases y <;> first | exact dG | exact eO | exact nG eO dG
theorem J6 (x y:D):aX (jt x y):=by cases x <;> cases y <;> first | exact dG | exact eO | exact nG eO dG
theorem lB (p:Int->Int->Bool) (x y:D):aX (j5 p x y):=by cases x <;> cases y <;> first | exact dG | exact eO | exact nG eO dG
section
variable {X:Cx} {a b:Expr} {fa fb:DS->Res D} {pos:Pos}
theorem c7 {K:Frag} {H:Hp} {i:Int} {v:V} (h:Rep K H (.int i) v):v=.int i:=by rw [Rep] at h; exact h
theorem nH {K:Frag} {H:Hp} {i:Str} {v:V} (h:Rep K H (.str i) v):v=.str i:=by rw [Rep] at h; exact h
theorem Gz {K:Frag} {H:Hp} {i:Bool} {v:V} (h:Rep K H (.bl i) v):v=.bl i:=by rw [Rep] at h; exact h
theorem fB {K:Frag} {H:Hp} {ds:List D} {v:V} (h:Rep K H (.tup ds) v):∃a xs,v=.ref a/\SqT K H a xs/\Reps K H ds xs:=by rw [Rep] at h; exact h
theorem fC {K:Frag} {H:Hp} {ds:List D} {v:V} (h:Rep K H (.lst ds) v):∃a xs,v=.ref a/\SqL K H a xs/\Reps K H ds xs:=by rw [Rep] at h; exact h
theorem j6 {K:Frag} {H:Hp} {i:Int}:Rep K H (.int i) (.int i):=by rw [Rep]
theorem J7 {K:Frag} {H:Hp} {i:Str}:Rep K H (.str i) (.str i):=by rw [Rep]
theorem xm {K:Frag} {H:Hp} {i:Bool}:Rep K H (.bl i) (.bl i):=by rw [Rep]
theorem Qu {K:Frag} {H:Hp}:Rep K H .non .non:=by rw [Rep]
theorem pX {K:Frag} {H:Hp} {a:Addr} {xs:List V} {ds:List D} (h:SqT K H a xs) (r:Reps K H ds xs):Rep K H (.tup ds) (.ref a):=by rw [Rep]; exact ⟨a,xs,rfl,h,r⟩
theorem vB {K:Frag} {H:Hp} {a:Addr} {xs:List V} {ds:List D} (h:SqL K H a xs) (r:Reps K H ds xs):Rep K H (.lst ds) (.ref a):=by rw [Rep]; exact ⟨a,xs,rfl,h,r⟩
theorem iU {H:Hp} {p:Addr} (h:H p=none) (o:HO):Same H (upd H p o):=fun b u q=>by rw [as' (qG q h)]; exact q
theorem lF' {f:Value->Value->Sem Value} {C:Int->Int->Prop} [∀i j,Decidable (C i j)] {h:Int->Int->D} {k:Int->Int->V} {g:D->D->Res D} (ho:∀E,OpR (X.wish E) f (rI C k)) (hk:∀H i j,Rep X.K H (h i j) (k i j))
  (hg:∀x y d,g x y=.ok d->∃i j,x=.int i/\y=.int j/\C i j/\d=h i j):OpD X f g :=
 .of ho fun H x y a b d Q p1 p2 e q=>by
  obtain ⟨i,j,rfl,rfl,c,rfl⟩:=hg a b d e;exact ⟨i,j,c7 p1,c7 p2,c,q _ H (Same.refl H) (hk H i j)⟩
theorem J8 {f:Value->Value->Sem Value} {h:Int->Int->D} {k:Int->Int->V} {g:D->D->Res D} (ho:∀E,OpR (X.wish E) f (wg k)) (hk:∀H i j,Rep X.K H (h i j) (k i j))
  (hg:∀x y d,g x y=.ok d->∃i j,x=.int i/\y=.int j/\d=h i j):OpD X f g :=
 .of ho fun H x y a b d Q p1 p2 e q=>by
  obtain ⟨i,j,rfl,rfl,rfl⟩:=hg a b d e;exact ⟨i,j,c7 p1,c7 p2,q _ H (Same.refl H) (hk H i j)⟩
theorem wy:OpD X (binaryOp .Sub) fZ:=J8 (fun _=>O6) (fun _ _ _=>j6) fun x y d e=>by
 cases x <;> cases y <;> first | (simp [fZ] at e; done) | (simp only [fZ,Res.ok.injEq] at e; exact ⟨_,_,rfl,rfl,e.symm⟩)
theorem J9 {p:Int->Int->Bool} {op:CmpOp} (ho:∀E,OpR (X.wish E) (compareOp op) (wg fun i j=>.bl (p i j))):OpD X (compareOp op) (j5 p):=J8 ho (fun _ _ _=>xm) fun x y d e=>by
 cases x <;> cases y <;> first | (simp [j5] at e; done) | (simp only [j5,Res.ok.injEq] at e; exact ⟨_,_,rfl,rfl,e.symm⟩)
theorem qw:OpD X (compareOp .Lt) (j5 fun i j=>decide (i < j)):=J9 fun _=>O_
theorem yM:OpD X (compareOp .Gt) (j5 fun i j=>decide (j < i)):=J9 fun _=>Pa
theorem Qv:OpR X (binaryOp .Mult) (rI (fun i j=>(aK i<=2 ^ 20/\aK j<=2 ^ 20)\/aK i<=64\/aK j<=64) fun i j=>.int (i * j)):=zu fun _ _ _ _ _ _ _ hc q=>mul_int q (by
 rcases hc with hc | hc | hc
 ·exact PySem.IntMulOk.of_bits hc.1 hc.2
 ·exact PySem.IntMulOk.of_left hc
 ·exact PySem.IntMulOk.of_right hc)
theorem Qw:OpD X (binaryOp .Mult) dY:=lF' (h:=fun i j=>.int (i * j)) (fun _=>Qv) (fun _ _ _=>j6) fun x y d e=>by
 cases x <;> cases y <;> first | (simp [dY] at e; done) | skip
 rename_i i j;simp only [dY] at e
 split at e
 ·rename_i c; cases e; exact ⟨_,_,rfl,rfl,c,rfl⟩
 ·cases e
theorem Qx:OpR X (binaryOp .FloorDiv) (rI (fun i j=>j≠0/\Builtin.divisionGoesByPylong i j=false) fun i j=>.int (i.fdiv j)):=zu fun _ _ _ _ _ _ _ hc q=>floordiv_int hc.1 q (.inl hc.2)
theorem lC:OpD X (binaryOp .FloorDiv) bH:=lF' (h:=fun i j=>.int (i.fdiv j)) (fun _=>Qx) (fun _ _ _=>j6) fun x y d e=>by
 cases x <;> cases y <;> first | (simp [bH] at e; done) | skip
 rename_i i j;simp only [bH] at e
 split at e
 ·rename_i c; cases e; exact ⟨_,_,rfl,rfl,c,rfl⟩
 ·cases e
theorem pq:OpD X (binaryOp .Mod) bR:=lF' (h:=fun i j=>.int (i.fmod j)) (fun _=>lv') (fun _ _ _=>j6) fun x y d e=>by
 cases x <;> cases y <;> first | (simp [bR] at e; done) | skip
 rename_i i j;simp only [bR] at e
 split at e
 ·rename_i c; cases e; exact ⟨_,_,rfl,rfl,c,rfl⟩
 ·cases e
theorem J_:OpD X (binaryOp .Pow) nF:=.of (fun _=>O7) fun H x y a b d Q p1 p2 e q=>by
 cases a <;> cases b <;> first | (simp [nF] at e; done) | skip
 rename_i i j;simp only [nF] at e
 split at e
 ·rename_i c; cases e; exact ⟨i,j,c7 p1,c7 p2,c,q _ H (Same.refl H) j6⟩
 ·cases e
theorem kN':OpD X (binaryOp .LShift) jt:=.of (fun _=>O8) fun H x y a b d Q p1 p2 e q=>by
 cases a <;> cases b <;> first | (simp [jt] at e; done) | skip
 rename_i i j;simp only [jt] at e
 split at e
 ·rename_i c; cases e; exact ⟨i,j,c7 p1,c7 p2,c,q _ H (Same.refl H) j6⟩
 ·cases e
theorem Qy (E:Value->Shared->Prop):OpR (X.wish E) (binaryOp .Add) (wj X.K):=PL
noncomputable def wA (K:Frag):R2:=fun x y H Q=>∃a b ys,x=.ref a/\y=.ref b/\SqT K H a []/\SqT K H b ys/\Q (.ref b) H
theorem Qz:OpR X (binaryOp .Add) (wA X.K):=by
 intro pins s σ H x y v u Q I rx ry h;obtain ⟨a,b,ys,rfl,rfl,h1,h2,q⟩:=h
 cases rx
 cases ry
 obtain ⟨its,r,ht,_⟩:=I.tuple h1;obtain ⟨its2,r2,ht2,_⟩:=I.tuple h2
 cases r
 obtain ⟨⟨cls,dd,data,sl⟩,ho,hc,n,hd⟩:=id ht;obtain ⟨⟨cls2,dd2,data2,sl2⟩,ho2,hc2,n2,hd2⟩:=id ht2;simp only at hc hd hc2 hd2;subst hc hd hc2 hd2;exact concat_meets ⟨_,ho,rfl⟩ ⟨_,ho2,rfl⟩ noFill_tuple_add seq_tuple_add PySem.F.slot_tuple_add PySem.F.entry_tuple_add (PySem.F.args_tuple_add_2 _ _) (tuple_addW0 a b _ its2.toArray n n2 dd dd2 sl sl2 rfl) ⟨ho,ho2,.ref b,H,I,rfl,q⟩
theorem QB (E:Value->Shared->Prop):OpR (X.wish E) (binaryOp .Add) (wA X.K):=Qz
noncomputable def wB (K:Frag):R2:=fun x y H Q=>∃a b xs ys,x=.ref a/\y=.ref b/\SqL K H a xs/\SqL K H b ys/\xs.length + ys.length<=sizeLine/\∀p,H p=none->Q (.ref p) (upd H p (.lst (xs ++ ys)))
theorem QC:OpR X (binaryOp .Add) (wB X.K):=by
 intro pins s σ H x y v u Q I rx ry h;obtain ⟨a,b,xs,ys,rfl,rfl,h1,h2,hz,q⟩:=h
 cases rx
 cases ry
 obtain ⟨its,r,⟨⟨cls,dd,data,sl⟩,n,ho,hc,hdd,hd⟩,_⟩:=I.list h1;obtain ⟨its2,r2,⟨⟨cls2,dd2,data2,sl2⟩,n2,ho2,hc2,hdd2,hd2⟩,_⟩:=I.list h2;simp only at hc hd hc2 hd2;subst hc hd hc2 hd2;have l1:=r.length;have l2:=r2.length;refine concat_meets ⟨_,ho,rfl⟩ ⟨_,ho2,rfl⟩ noFill_list_add seq_list_add PySem.F.slot_list_add PySem.F.entry_list_add (PySem.F.args_list_add_2 _ _) (list_addW a b its.toArray its2.toArray n n2 dd dd2 sl sl2 (by simp only [size_toArray]; omega)) ⟨ho,ho2,?_⟩;have ea:its.toArray ++ its2.toArray=(its ++ its2).toArray:=by simp
 rw [ea];refine ⟨.ref s.heap.objs.size,_,I.laid (t':=s.toks) (o:=.lst (xs ++ ys)) (fun b ob q=>Heap.get?_push_of_some _ q) (Nat.le_refl _) ?_,rfl,q _ (I.hok.fresh (Nat.le_refl _))⟩;exact ⟨by rw [length_append]; omega,its ++ its2,0,r.append r2,Heap.get?_push_size _ rfl⟩
theorem Ka (E:Value->Shared->Prop):OpR (X.wish E) (binaryOp .Add) (wB X.K):=QC
theorem fX:OpD X (binaryOp .Add) a_:=.of (fun E=>op_add.or (op_add_str.or ((Qy E).or ((Ka E).or (QB E))))) fun H x y a b d Q p1 p2 e q=>by
 cases a <;> cases b <;> first | (simp [a_] at e; done) | skip
 ·rename_i i j;simp only [a_,Res.ok.injEq] at e;subst e;exact .inl ⟨i,j,c7 p1,c7 p2,q _ H (Same.refl H) j6⟩
 ·rename_i i j;simp only [a_] at e
  split at e
  ·rename_i c; cases e; exact .inr (.inl ⟨i,j,nH p1,nH p2,c,q _ H (Same.refl H) J7⟩)
  ·cases e
 ·rename_i xs ys;simp only [a_] at e
  split at e
  ·rename_i c
   cases e
   obtain ⟨p,us,rfl,s1,t1⟩:=fB p1;obtain ⟨p',ws,rfl,s2,t2⟩:=fB p2
   by_cases hn:us=[]
   ·subst hn;have hx:xs=[]:=by
     have:=t1.length; exact eq_nil_of_length_eq_zero this.symm
    subst hx;exact .inr (.inr (.inr (.inr ⟨p,p',ws,rfl,rfl,s1,s2,q _ H (Same.refl H) (pX s2 t2)⟩)))
   refine .inr (.inr (.inl ⟨p,p',us,ws,rfl,rfl,s1,s2,hn,?_,fun z=>?_,fun _ z hz=>?_⟩))
   ·rw [t1.length,t2.length]; exact c
   ·have hy:ys=[]:=by
     have:=t2.length; rw [z] at this; exact eq_nil_of_length_eq_zero this.symm
    subst hy;exact q _ H (Same.refl H) (pX s1 (by simpa using t1))
   ·exact q _ _ (iU hz _) (pX (SqT.of gW) ((t1.append t2).mono (iU hz _)))
  ·cases e
 ·rename_i xs ys;simp only [a_] at e
  split at e
  ·rename_i c
   cases e
   obtain ⟨p,us,rfl,s1,t1⟩:=fC p1;obtain ⟨p',ws,rfl,s2,t2⟩:=fC p2;exact .inr (.inr (.inr (.inl ⟨p,p',us,ws,rfl,rfl,s1,s2,by rw [t1.length,t2.length]; exact c,fun z hz=>q _ _ (iU hz _) (vB (SqL.of gW) ((t1.append t2).mono (iU hz _)))⟩)))
  ·cases e
end
noncomputable def zO (X:Cx) (pins:List (Addr×Obj)) (σ:St) (H:Hp) (r:Res (List D)) (us:List Value) (s1:Shared):Prop:=∃ds vs H1,r=.ok ds/\Inv X pins σ H1 s1/\Vals vs us/\Same H H1/\Reps X.K H1 ds vs
noncomputable def PAD (X:Cx) (es:List Expr) (f:DS->Res (List D)):Prop :=
 ∀(pos:Pos) (pins:List (Addr×Obj)) (s:Shared) (σ:St) (G H:Hp) (δ:DS),Inv X pins σ H s->RepSt X.K G H σ δ->f δ≠.stuck ->
  wpAny (model X.prog X.w) X.A (spliced (backTo pos (starEach es X.env))) (zO X pins σ H (f δ)) (XPost X pins σ H s.heap (f δ)) s
noncomputable def aj (f:DS->Res D) (fs:DS->Res (List D)):DS->Res (List D):=fun δ=>(f δ).bind fun d=>(fs δ).bind fun ds=>.ok (d :: ds)
section
variable {X:Cx} {e:Expr} {es:List Expr} {f:DS->Res D} {fs:DS->Res (List D)} {pos:Pos}
theorem PAD.use {pins:List (Addr×Obj)} {s:Shared} {σ:St} {G H:Hp} {δ:DS} (h:PAD X es fs) (I:Inv X pins σ H s) (R:RepSt X.K G H σ δ) (hs:fs δ≠.stuck) {P:List Value->Shared->Prop} {E:Value->Shared->Prop}
  (k:∀ds us s1 vs H1,fs δ=.ok ds->Inv X pins σ H1 s1->Vals vs us->Same H H1->Back H s.heap s1.heap->Reps X.K H1 ds vs->P us s1) (kx:∀e s1,XPost X pins σ H s.heap (fs δ) e s1->E e s1) :
  wpAny (model X.prog X.w) X.A (spliced (backTo pos (starEach es X.env))) P E s:=by
 refine wpAny_mono (h pos (pins ++ jr X H s.heap) s σ G H δ I.all R hs) (fun us s1 ⟨ds,vs,H1,q1,q2,q3,q4,q5⟩=>k ds us s1 vs H1 q1 q2.unpinned q3 q4 (I.backTo q2) q5) fun e s1 ⟨x,a,C,H1,q1,q2,q3,q4,q5,q6⟩=>kx e s1 ⟨x,a,C,H1,q1,q2,q3.unpinned,q4,q5,q6⟩
theorem aC:PAD X [] (fun _=>.ok []):=fun pos pins s σ G H δ I R _=>Calls.spliced_nil ⟨[],[],H,rfl,I,.nil,Same.refl H,Reps.nil⟩
theorem au (ha:PD X e f) (hr:PAD X es fs) (hs:starEach (e :: es) X.env=(false,eval e X.env) :: starEach es X.env:=by rfl):PAD X (e :: es) (aj f fs):=by
 intro pos pins s σ G H δ I R hn;have hn':(f δ).bind (fun d=>(fs δ).bind fun ds=>.ok (d :: ds))≠.stuck:=hn;rw [hs];show wpAny _ _ (spliced ((false,eval e X.env) :: backTo pos (starEach es X.env))) _ _ s;refine Calls.spliced_cons (ha.use I R (gq hn') (fun d u s1 v H1 q I1 r1 e1 b1 p1=>?_) fun e s1 q=>q.same fun x z=>gY z);have hn2:=iD hn' q;refine hr.use I1 (R.mono e1) (gq hn2) (fun ds us s2 vs H2 q2 I2 r2 e2 b2 p2=>⟨d :: ds,v :: vs,H2,by unfold aj; rw [q,Res.bind_ok,q2]; rfl,I2,.cons r1 r2,e1.trans e2,Reps.cons (p1.mono e2) p2⟩) fun e s2 q2=>q2.back e1 b1 fun x z=>by unfold aj; rw [q,Res.bind_ok,z]; rfl
noncomputable def lL (r:Res (List D)):Res D:=r.bind fun ds=>if ds.length<=sizeLine then .ok (.tup ds) else .stuck
noncomputable def gw (r:Res (List D)):Res D:=r.bind fun ds=>if ds.length<=sizeLine then .ok (.lst ds) else .stuck
theorem at' {x1} (h:PAD X es fs):PD X (.Tuple es x1 pos) (fun δ=>lL (fs δ)):=by
 intro pins s σ G H δ I R hs
 try dsimp only at hs ⊢
 have hs':(fs δ).bind (fun ds=>if ds.length<=sizeLine then Res.ok (D.tup ds) else .stuck)≠.stuck:=hs
 refine wpAny_Tuple_spliced (h.use I R (gq hs') (fun ds us s1 vs H1 q I1 r1 e1 b1 p1=>?_) fun e s1 q=>q.same fun x z=>gY z);have h2:=iD hs' q;have hz:ds.length<=sizeLine:=by
  by_cases c:ds.length<=sizeLine
  ·exact c
  ·rw [if_neg c] at h2; exact (h2 rfl).elim
 refine ⟨by rw [<- r1.length,p1.length]; exact hz,?_⟩;have hf:H1 s1.heap.objs.size=none:=I1.hok.fresh (Nat.le_refl _);refine ⟨.tup ds,.ref s1.heap.objs.size,upd H1 s1.heap.objs.size (.tup vs),by unfold lL; rw [q,Res.bind_ok,if_pos hz],I1.laid (t':=s1.toks) (fun b u e=>Heap.get?_push_of_some _ e) (Nat.le_refl _) ?_,rfl,e1.trans (iU hf _),pX (SqT.of gW) (p1.mono (iU hf _))⟩;exact ⟨by rw [p1.length]; exact hz,us,r1,⟨_,Heap.get?_push_size _ rfl,rfl,_,rfl⟩⟩
theorem ca' (h:PAD X es fs):PD X (.List es pos) (fun δ=>gw (fs δ)):=by
 intro pins s σ G H δ I R hs
 try dsimp only at hs ⊢
 have hs':(fs δ).bind (fun ds=>if ds.length<=sizeLine then Res.ok (D.lst ds) else .stuck)≠.stuck:=hs
 refine wpAny_List_spliced (h.use I R (gq hs') (fun ds us s1 vs H1 q I1 r1 e1 b1 p1=>?_) fun e s1 q=>q.same fun x z=>gY z);have h2:=iD hs' q;have hz:ds.length<=sizeLine:=by
  by_cases c:ds.length<=sizeLine
  ·exact c
  ·rw [if_neg c] at h2; exact (h2 rfl).elim
 refine ⟨by rw [<- r1.length,p1.length]; exact hz,?_⟩;have hf:H1 s1.heap.objs.size=none:=I1.hok.fresh (Nat.le_refl _);refine ⟨.lst ds,.ref s1.heap.objs.size,upd H1 s1.heap.objs.size (.lst vs),by unfold gw; rw [q,Res.bind_ok,if_pos hz],I1.laid (t':=s1.toks) (fun b u e=>Heap.get?_push_of_some _ e) (Nat.le_refl _) ?_,rfl,e1.trans (iU hf _),vB (SqL.of gW) (p1.mono (iU hf _))⟩;exact ⟨by rw [p1.length]; exact hz,us,0,r1,Heap.get?_push_size _ rfl⟩
noncomputable def bA:D->D->Res D
 | .tup ds,.int i=>match jG ds i with | some d=>.ok d | none=>.stuck
 | .lst ds,.int i=>match jG ds i with | some d=>.ok d | none=>.stuck
 | .str z,.int i=>if z.length<=sizeLine then (match jG z.cps.toList i with | some c=>.ok (.str ⟨#[c]⟩) | none=>.stuck) else .stuck
 | _,_=>.stuck
theorem QD (x y:D):aX (bA x y):=by
 cases x <;> cases y <;> first | exact dG | skip
 ·simp only [bA]; split <;> first | (split <;> first | exact eO | exact dG) | exact dG
 ·simp only [bA]; split <;> first | exact eO | exact dG
 ·simp only [bA]; split <;> first | exact eO | exact dG
theorem Kc {K:Frag} {H:Hp} {ds:List D} {vs:List V} {i:Int} {d:D} (r:Reps K H ds vs) (e:jG ds i=some d):∃v,jG vs i=some v/\Rep K H d v:=by
 unfold jG at e ⊢;rw [r.length]
 cases q:jY ds.length i with
 | none=>rw [q] at e; cases e
 | some j =>
  rw [q] at e;exact r.get e
theorem aL {o i:Expr} {fo fi:DS->Res D} (ho:PD X o fo) (hi:PD X i fi) (hp:vz i:=by intro _ _; rfl):PD X (.Subscript o i pos) (two fo fi bA):=by
 intro pins s σ G H δ I R hs
 try dsimp only at hs ⊢
 refine Subscript_ (Gv ho hi I R hs (fun x y v u s2 vx vy H2 q I2 r1 r2 e2 p1 p2=>?_) fun _ _ q=>q);have hd:bA x y≠.stuck:=fun z=>hs (q.trans z)
 cases qg:bA x y with
 | stuck=>exact (hd qg).elim
 | err z=>exact (QD x y z qg).elim
 | ok d =>
  refine wpAny_mono (PX (X:=X.wish fun _ _=>False) o i pins s2 σ H2 vx vy v u (fun z H'=>H'=H2/\Rep X.K H2 d z) (I2.wish _) r1 r2 ?_ (hp _ _)) (fun w s3 q3=>?_) fun _ _ z=>z.elim
  rotate_left
  ·obtain ⟨z,H3,I3,r3,e3,p3⟩:=q3;subst e3;exact ⟨d,z,H3,q.trans qg,I3.unwish,r3,e2,p3⟩
  cases x with
  | tup ds =>
   cases y with
   | int k =>
    simp only [bA] at qg
    split at qg
    ·rename_i d' e
     cases qg
     obtain ⟨b,xs,rfl,w1,w2⟩:=fB p1;obtain ⟨z,z1,z2⟩:=Kc w2 e;exact .inr (.inl ⟨b,xs,k,z,rfl,c7 p2,w1,z1,rfl,z2⟩)
    ·cases qg
   | _=>cases qg
  | lst ds =>
   cases y with
   | int k =>
    simp only [bA] at qg
    split at qg
    ·rename_i d' e
     cases qg
     obtain ⟨b,xs,rfl,w1,w2⟩:=fC p1;obtain ⟨z,z1,z2⟩:=Kc w2 e;exact .inl ⟨b,xs,k,z,rfl,c7 p2,w1,z1,rfl,z2⟩
    ·cases qg
   | _=>cases qg
  | str z =>
   cases y with
   | int k =>
    simp only [bA] at qg
    split at qg
    ·rename_i hz
     split at qg
     ·rename_i c e
      cases qg
      exact .inr (.inr ⟨z,k,c,nH p1,c7 p2,hz,e,rfl,J7⟩)
     ·cases qg
    ·cases qg
   | _=>cases qg
  | _=>cases qg
end
noncomputable def CallD (X:Cx) (f:Value) (g:List D->Res D):Prop :=
 ∀(E:Value->Shared->Prop) (pins:List (Addr×Obj)) (s:Shared) (σ:St) (H:Hp) (xs:List V) (us:List Value) (ds:List D) (d:D),Inv X pins σ H s->Vals xs us->Reps X.K H ds xs->g ds=.ok d ->
  wpAny (model X.prog X.w) X.A (call f us) (EPost X pins σ H (.ok d)) E s
theorem CallD.of {X:Cx} {f:Value} {r:List V->Hp->VK->Prop} {g:List D->Res D} (hc:∀E,CallR (X.wish E) f r) (h:∀(H:Hp) (xs:List V) (ds:List D) (d:D) (Q:VK),Reps X.K H ds xs->g ds=.ok d->(∀z H',Same H H'->Rep X.K H' d z->Q z H')->r xs H Q):CallD X f g :=
 fun E pins s σ H xs us ds d I r1 p e=>gn (hc E pins s σ H xs us (fun z H'=>Same H H'/\Rep X.K H' d z) (I.wish _) r1 (h H xs ds d _ p e fun z H' a b=>⟨a,b⟩)) fun w s1 ⟨z,H1,I1,r3,e1,p3⟩=>⟨d,z,H1,rfl,I1.unwish,r3,e1,p3⟩
section
variable {X:Cx} {e:Expr} {es:List Expr} {fs:DS->Res (List D)} {x:Str} {p pos:Pos} {id T:String} {g:List D->Res D}
theorem Kd {pins:List (Addr×Obj)} {s:Shared} {σ:St} {G H:Hp} {δ:DS} {f:Value} (hc:CallD X f g) (hg:∀ds,aX (g ds)) (ha:PAD X es fs) (I:Inv X pins σ H s) (R:RepSt X.K G H σ δ) (hs:(fs δ).bind g≠.stuck) :
  wpAny (model X.prog X.w) X.A (spliced (backTo pos (starEach es X.env))) (fun us s1=>wpAny (model X.prog X.w) X.A (call f us) (EPost X pins σ H ((fs δ).bind g)) (XPost X pins σ H s.heap ((fs δ).bind g)) s1) (XPost X pins σ H s.heap ((fs δ).bind g)) s:=by
 refine ha.use I R (gq hs) (fun ds us s1 vs H1 q I1 r1 e1 b1 p1=>?_) fun e s1 q=>q.same fun x z=>gY z;have h2:=iD hs q
 cases qg:g ds with
 | stuck=>exact (h2 qg).elim
 | err z=>exact (hg ds z qg).elim
 | ok d=>exact gn (hc _ pins s1 σ H1 vs us ds d I1 r1 p1 qg) fun w s2 p=>p.from e1 (by rw [q,Res.bind_ok,qg])
theorem dg (hc:CallD X (.builtin id) g) (hne:∀ds,aX (g ds)) (hg:Gl X x) (hm:X.mg x=none) (hv:bootBuiltins x=some (.builtin id)) (ha:PAD X (e :: es) fs) (hn:x≠"__name__":=by decide) (hdb:(x == ("__debug__" : Str))=false:=by decide)
  (he:starEach (e :: es) X.env=(false,eval e X.env) :: starEach es X.env:=by rfl) (hpl:(backTo pos (starEach es X.env)).any (·.1)=false:=by rfl):PD X (.Call (.Name x p) (e :: es) [] pos) (fun δ=>(fs δ).bind g):=by
 intro pins s σ G H δ I R hs
 try dsimp only at hs ⊢
 refine wpAny_Call_Name_kw (dc' I hg hm hv ?_ hn hdb);exact PyProof.Rows.callWith_builtin1 (Kd hc hne ha I R hs) he hpl
theorem nJ (hc:CallD X (.type T) g) (hne:∀ds,aX (g ds)) (hg:Gl X x) (hm:X.mg x=none) (hv:bootBuiltins x=some (.type T)) (ha:PAD X (e :: es) fs) (hn:x≠"__name__":=by decide) (hdb:(x == ("__debug__" : Str))=false:=by decide)
  (he:starEach (e :: es) X.env=(false,eval e X.env) :: starEach es X.env:=by rfl) (hpl:(backTo pos (starEach es X.env)).any (·.1)=false:=by rfl):PD X (.Call (.Name x p) (e :: es) [] pos) (fun δ=>(fs δ).bind g):=by
 intro pins s σ G H δ I R hs
 try dsimp only at hs ⊢
 refine wpAny_Call_Name_kw (dc' I hg hm hv ?_ hn hdb);exact PyProof.Rows.callWith_type1 (Kd hc hne ha I R hs) he hpl
end
noncomputable def lM:List D->Res D
 | [.int i]=>.ok (.int (if i < 0 then -i else i))
 | _=>.stuck
theorem GC {X:Cx}:CallD X (.builtin "abs") lM:=.of (fun _=>Pk) fun H xs ds d Q r e q=>by
 unfold lM at e
 split at e
 ·rename_i i
  cases e
  obtain ⟨v,vs,rfl,p1,t⟩:=r.cons_of
  cases t.nil_of
  exact ⟨i,by rw [c7 p1],q _ H (Same.refl H) j6⟩
 ·cases e
theorem in' (ds:List D):aX (lM ds):=by
 unfold lM
 split
 ·exact eO
 ·exact dG
noncomputable def bI:List D->Res D
 | [.tup ds]=>.ok (.int ds.length)
 | [.lst ds]=>.ok (.int ds.length)
 | [.str z]=>if z.length<=sizeLine then .ok (.int z.length) else .stuck
 | _=>.stuck
theorem dU (ds:List D):aX (bI ds):=by
 unfold bI
 split <;> first | exact eO | exact dG | exact nG eO dG
theorem QF {X:Cx} (E:Value->Shared->Prop):CallR (X.wish E) (.builtin "len") (fun xs H Q=>∃x n,xs=[x]/\zE X.K x H n/\Q (.int n) H):=Pn
theorem dW {X:Cx}:CallD X (.builtin "len") bI:=.of QF fun H xs ds d Q r e q=>by
 unfold bI at e
 split at e
 ·rename_i es
  cases e
  obtain ⟨v,vs,rfl,p1,t⟩:=r.cons_of
  cases t.nil_of
  obtain ⟨a,ys,rfl,w1,w2⟩:=fB p1;exact ⟨_,es.length,rfl,.inr ⟨ys,w1,w2.length.symm⟩,q _ H (Same.refl H) j6⟩
 ·rename_i es
  cases e
  obtain ⟨v,vs,rfl,p1,t⟩:=r.cons_of
  cases t.nil_of
  obtain ⟨a,ys,rfl,w1,w2⟩:=fC p1;exact ⟨_,es.length,rfl,.inl ⟨ys,w1,w2.length.symm⟩,q _ H (Same.refl H) j6⟩
 ·rename_i z
  split at e
  ·rename_i hz
   cases e
   obtain ⟨v,vs,rfl,p1,t⟩:=r.cons_of
   cases t.nil_of
   cases nH p1
   exact ⟨_,z.length,rfl,⟨hz,rfl⟩,q _ H (Same.refl H) j6⟩
  ·cases e
 ·cases e
inductive Out where
 | stuck
 | nxt (δ:DS)
 | ret (d:D)
 | brk (δ:DS)
 | cnt (δ:DS)
 | err (x:Exn) (δ:DS)
noncomputable def Out.seq (o:Out) (g:DS->Out):Out:=match o with
 | .nxt δ=>g δ
 | o=>o
noncomputable def SPost (X:Cx) (pins:List (Addr×Obj)) (G H:Hp) (o:Out) (fl:Flow) (s1:Shared):Prop:=match fl with
 | .next=>∃δ' σ' H',o=.nxt δ'/\Inv X pins σ' H' s1/\TK H H'/\RepSt X.K G H' σ' δ'
 | .brk=>∃δ' σ' H',o=.brk δ'/\Inv X pins σ' H' s1/\TK H H'/\RepSt X.K G H' σ' δ'
 | .cont=>∃δ' σ' H',o=.cnt δ'/\Inv X pins σ' H' s1/\TK H H'/\RepSt X.K G H' σ' δ'
 | .ret u=>∃d v σ' H',o=.ret d/\Inv X pins σ' H' s1/\TK H H'/\Same G H'/\RelV v u/\Rep X.K H' d v
noncomputable def SX (X:Cx) (pins:List (Addr×Obj)) (G H:Hp) (h0:Heap) (o:Out) (e:Value) (s1:Shared):Prop :=
 ∃x δ' a C σ' H',o=.err x δ'/\e=.ref a/\Inv X pins σ' H' s1/\TK H H'/\RepSt X.K G H' σ' δ'/\nsIn X.K mainGlobals x.cls=some (some (.ref C))/\FlyX X.K x h0 H' s1.heap a C
noncomputable def PSD (X:Cx) (st:Stmt) (f:DS->Out):Prop :=
 ∀(pins:List (Addr×Obj)) (s:Shared) (σ:St) (G H:Hp) (δ:DS),Inv X pins σ H s->RepSt X.K G H σ δ->f δ≠.stuck ->
  wpAny (model X.prog X.w) X.A (exec st X.env) (SPost X pins G H (f δ)) (SX X pins G H s.heap (f δ)) s
noncomputable def PSDs (X:Cx) (st:List Stmt) (f:DS->Out):Prop :=
 ∀(pins:List (Addr×Obj)) (s:Shared) (σ:St) (G H:Hp) (δ:DS),Inv X pins σ H s->RepSt X.K G H σ δ->f δ≠.stuck ->
  wpAny (model X.prog X.w) X.A (execs st X.env) (SPost X pins G H (f δ)) (SX X pins G H s.heap (f δ)) s
noncomputable def j7 (r:Res D) (δ:DS) (k:D->Out):Out:=match r with
 | .stuck=>.stuck
 | .ok d=>k d
 | .err x=>.err x δ
noncomputable def xr (r:Res Bool) (δ:DS) (k:Bool->Out):Out:=match r with
 | .stuck=>.stuck
 | .ok d=>k d
 | .err x=>.err x δ
theorem yN {r:Res D} {δ:DS} {k:D->Out} (h:j7 r δ k≠.stuck):r≠.stuck:=fun q=>h (by rw [q]; rfl)
theorem QG {r:Res Bool} {δ:DS} {k:Bool->Out} (h:xr r δ k≠.stuck):r≠.stuck:=fun q=>h (by rw [q]; rfl)
section
variable {X:Cx} {pins:List (Addr×Obj)} {G H H1:Hp} {h0 h1:Heap} {s1:Shared} {fl:Flow} {o o':Out} {e:Value}
theorem SPost.from (p:SPost X pins G H1 o fl s1) (t:TK H H1) (q:o=o'):SPost X pins G H o' fl s1:=by
 subst q
 cases fl with
 | next=>obtain ⟨δ',σ',H',q1,q2,q3,q4⟩:=p; exact ⟨δ',σ',H',q1,q2,t.trans q3,q4⟩
 | brk=>obtain ⟨δ',σ',H',q1,q2,q3,q4⟩:=p; exact ⟨δ',σ',H',q1,q2,t.trans q3,q4⟩
 | cont=>obtain ⟨δ',σ',H',q1,q2,q3,q4⟩:=p; exact ⟨δ',σ',H',q1,q2,t.trans q3,q4⟩
 | ret u=>obtain ⟨d,v,σ',H',q1,q2,q3,q4,q5,q6⟩:=p; exact ⟨d,v,σ',H',q1,q2,t.trans q3,q4,q5,q6⟩
theorem SX.from (p:SX X pins G H1 h1 o e s1) (t:TK H H1) (b:Back H h0 h1) (q:o=o'):SX X pins G H h0 o' e s1:=by
 subst q;obtain ⟨x,δ',a,C,σ',H',q1,q2,q3,q4,q5,q6,q7⟩:=p;exact ⟨x,δ',a,C,σ',H',q1,q2,q3,t.trans q4,q5,q6,q7.back t q4 b⟩
theorem XPost.sx {α:Type} {σ:St} {δ:DS} {r:Res α} (p:XPost X pins σ H h0 r e s1) (R:RepSt X.K G H σ δ) (q:∀x,r=.err x->o=.err x δ):SX X pins G H h0 o e s1:=by
 obtain ⟨x,a,C,H1,q1,q2,q3,q4,q5,q6⟩:=p;exact ⟨x,δ,a,C,σ,H1,q x q1,q2,q3,q4.tk,R.mono q4,q5,q6⟩
theorem GD {t:Sem Flow} {s:Shared} {σ:St} (h:∀pins,Inv X pins σ H s->wpAny (model X.prog X.w) X.A t (SPost X pins G H o) (SX X pins G H s.heap o) s) (I:Inv X pins σ H s) {P:Flow->Shared->Prop} {E:Value->Shared->Prop}
  (k:∀fl s1,SPost X pins G H o fl s1->Back H s.heap s1.heap->P fl s1) (kx:∀e s1,SX X pins G H s.heap o e s1->E e s1):wpAny (model X.prog X.w) X.A t P E s:=by
 refine wpAny_mono (h (pins ++ jr X H s.heap) I.all) (fun fl s1 p=>?_) fun e s1 ⟨x,δ',a,C,σ',H',q1,q2,q3,q4,q5,q6,q7⟩=>kx e s1 ⟨x,δ',a,C,σ',H',q1,q2,q3.unpinned,q4,q5,q6,q7⟩
 cases fl with
 | next=>obtain ⟨δ',σ',H',q1,q2,q3,q4⟩:=p; exact k .next s1 ⟨δ',σ',H',q1,q2.unpinned,q3,q4⟩ (I.backTo q2)
 | brk=>obtain ⟨δ',σ',H',q1,q2,q3,q4⟩:=p; exact k .brk s1 ⟨δ',σ',H',q1,q2.unpinned,q3,q4⟩ (I.backTo q2)
 | cont=>obtain ⟨δ',σ',H',q1,q2,q3,q4⟩:=p; exact k .cont s1 ⟨δ',σ',H',q1,q2.unpinned,q3,q4⟩ (I.backTo q2)
 | ret u=>obtain ⟨d,v,σ',H',q1,q2,q3,q4,q5,q6⟩:=p; exact k (.ret u) s1 ⟨d,v,σ',H',q1,q2.unpinned,q3,q4,q5,q6⟩ (I.backTo q2)
end
section
variable {X:Cx} {st:Stmt} {rest:List Stmt} {f g:DS->Out} {e:Expr} {fe:DS->Res D} {pos:Pos}
theorem cT:PSDs X [] Out.nxt:=fun pins s σ G H δ I R _=>wpAny_execs_nil ⟨δ,σ,H,rfl,I,TK.refl H,R⟩
noncomputable def aD (f g:DS->Out):DS->Out:=fun δ=>(f δ).seq g
theorem aQ (h1:PSD X st f) (h2:PSDs X rest g):PSDs X (st :: rest) (aD f g):=by
 intro pins s σ G H δ I R hs
 try dsimp only at hs ⊢
 have hf:f δ≠.stuck:=fun q=>hs (by unfold aD; rw [q]; rfl);refine wpAny_execs_cons (GD (fun pins I=>h1 pins s σ G H δ I R hf) I (fun fl s1 p b=>?_) fun e s1 p=>?_)
 ·cases fl with
  | next =>
   obtain ⟨δ',σ',H',q1,q2,q3,q4⟩:=p;have ev:aD f g δ=g δ':=by unfold aD; rw [q1]; rfl
   exact wpAny_mono (h2 pins s1 σ' G H' δ' q2 q4 fun z=>hs (ev.trans z)) (fun fl s2 p2=>p2.from q3 ev.symm) fun e s2 p2=>p2.from q3 b ev.symm
  | brk=>obtain ⟨δ',σ',H',q1,q2,q3,q4⟩:=p; exact ⟨δ',σ',H',by unfold aD; rw [q1]; rfl,q2,q3,q4⟩
  | cont=>obtain ⟨δ',σ',H',q1,q2,q3,q4⟩:=p; exact ⟨δ',σ',H',by unfold aD; rw [q1]; rfl,q2,q3,q4⟩
  | ret u=>obtain ⟨d,v,σ',H',q1,q2⟩:=p; exact ⟨d,v,σ',H',by unfold aD; rw [q1]; rfl,q2⟩
 ·obtain ⟨x,δ',a,C,σ',H',q1,q2⟩:=p;exact ⟨x,δ',a,C,σ',H',by unfold aD; rw [q1]; rfl,q2⟩
theorem aW (h1:PSD X st f):PSDs X [st] f:=by
 intro pins s σ G H δ I R hs
 try dsimp only at hs ⊢
 refine wpAny_execs_cons (wpAny_mono (h1 pins s σ G H δ I R hs) (fun fl s1 p=>?_) fun e s1 p=>p)
 cases fl with
 | next=>exact wpAny_execs_nil p
 | brk=>exact p
 | cont=>exact p
 | ret u=>exact p
theorem Ke:PSD X st (fun _=>.stuck):=fun pins s σ G H δ I R h=>(h rfl).elim
noncomputable def NOut (X:Cx) (G H:Hp) (o:Out) (E:Ends):Prop:=match o with
 | .stuck=>False
 | .nxt δ=>∀σ' H',TK H H'->RepSt X.K G H' σ' δ->E.nx σ' H'
 | .ret d=>∀v H',TK H H'->Same G H'->Rep X.K H' d v->E.rt v H'
 | .brk δ=>∀σ' H',TK H H'->RepSt X.K G H' σ' δ->E.bk σ' H'
 | .cnt δ=>∀σ' H',TK H H'->RepSt X.K G H' σ' δ->E.ct σ' H'
 | .err _ _=>False
noncomputable def sD (X:Cx) (f:DS->Out):TS:=fun E σ H=>∃G δ,RepSt X.K G H σ δ/\NOut X G H (f δ) E
theorem NOut.tk {X:Cx} {G H H1:Hp} {o:Out} {E:Ends} (h:NOut X G H o E) (t:TK H H1):NOut X G H1 o E:=by
 cases o with
 | stuck=>exact h
 | nxt δ=>exact fun σ' H' t' r=>h σ' H' (t.trans t') r
 | ret d=>exact fun v H' t' r=>h v H' (t.trans t') r
 | brk δ=>exact fun σ' H' t' r=>h σ' H' (t.trans t') r
 | cnt δ=>exact fun σ' H' t' r=>h σ' H' (t.trans t') r
 | err x δ=>exact h
theorem Kf {pins:List (Addr×Obj)} {G H:Hp} {o:Out} {E:Ends} {fl:Flow} {s1:Shared} {W:Value->Shared->Prop} (h:NOut X G H o E) (p:SPost X pins G H o fl s1):SP (X.wish W) pins E fl s1:=by
 cases fl with
 | next=>obtain ⟨δ',σ',H',q1,q2,q3,q4⟩:=p; subst q1; exact ⟨σ',H',q2.wish _,h σ' H' q3 q4⟩
 | brk=>obtain ⟨δ',σ',H',q1,q2,q3,q4⟩:=p; subst q1; exact ⟨σ',H',q2.wish _,h σ' H' q3 q4⟩
 | cont=>obtain ⟨δ',σ',H',q1,q2,q3,q4⟩:=p; subst q1; exact ⟨σ',H',q2.wish _,h σ' H' q3 q4⟩
 | ret u=>obtain ⟨d,v,σ',H',q1,q2,q3,q4,q5,q6⟩:=p; subst q1; exact ⟨v,σ',H',q2.wish _,q5,h v H' q3 q4 q6⟩
theorem NOut.ns {G H:Hp} {o:Out} {E:Ends} (h:NOut X G H o E):o≠.stuck:=fun q=>by subst q; exact h
theorem NOut.sx {pins:List (Addr×Obj)} {G H:Hp} {h0:Heap} {o:Out} {E:Ends} {e:Value} {s1:Shared} (h:NOut X G H o E) (p:SX X pins G H h0 o e s1):False:=by
 obtain ⟨x,δ',_,_,_,_,q,_⟩:=p; subst q; exact h
theorem PSDs.ps (h:PSDs X rest f):PSs X.nox rest (sD X f):=by
 intro pins s σ H E I ⟨G,δ,R,n⟩;exact wpAny_mono (h pins s σ G H δ I.unwish R n.ns) (fun fl s1 p=>Kf n p) fun e s1 p=>n.sx p
theorem PSD.ps (h:PSD X st f):PS X.nox st (sD X f):=by
 intro pins s σ H E I ⟨G,δ,R,n⟩;exact wpAny_mono (h pins s σ G H δ I.unwish R n.ns) (fun fl s1 p=>Kf n p) fun e s1 p=>n.sx p
theorem PTD.pt {c:Expr} {tc:DS->Res Bool} (h:PTD X c tc):PT X.nox c (fun σ H Q=>∃G δ d,RepSt X.K G H σ δ/\tc δ=.ok d/\∀H',Same H H'->Q d H'):=by
 intro pins s σ H Q I ⟨G,δ,d,R,q,n⟩;refine wpAny_mono (h pins s σ G H δ I.unwish R (by rw [q]; intro z; cases z)) (fun b s1 ⟨H1,q1,I1,e1⟩=>?_) fun e s1 p=>?_
 ·rw [q] at q1; cases q1;exact ⟨H1,I1.wish _,n H1 e1⟩
 ·rw [q] at p; exact p.none
theorem PD.pe {fe:DS->Res D} (h:PD X e fe):PE X.nox e (fun σ H Q=>∃G δ d,RepSt X.K G H σ δ/\fe δ=.ok d/\∀v H',Same H H'->Rep X.K H' d v->Q v H'):=by
 intro pins s σ H Q I ⟨G,δ,d,R,q,n⟩;refine wpAny_mono (h pins s σ G H δ I.unwish R (by rw [q]; intro z; cases z)) (fun b s1 ⟨d',v,H1,q1,I1,r1,e1,p1⟩=>?_) fun e s1 p=>?_
 ·rw [q] at q1; cases q1;exact ⟨v,H1,I1.wish _,r1,n v H1 e1 p1⟩
 ·rw [q] at p; exact p.none
theorem PAD.pa {es:List Expr} {fs:DS->Res (List D)} (h:PAD X es fs):PA X.nox es (fun σ H Q=>∃G δ ds,RepSt X.K G H σ δ/\fs δ=.ok ds/\∀vs H',Same H H'->Reps X.K H' ds vs->Q vs H'):=by
 intro pos pins s σ H Q I ⟨G,δ,d,R,q,n⟩;refine wpAny_mono (h pos pins s σ G H δ I.unwish R (by rw [q]; intro z; cases z)) (fun b s1 ⟨d',v,H1,q1,I1,r1,e1,p1⟩=>?_) fun e s1 p=>?_
 ·rw [q] at q1; cases q1;exact ⟨v,H1,I1.wish _,r1,n v H1 e1 p1⟩
 ·rw [q] at p; exact p.none
theorem Kg (hne:∀δ x δ',f δ≠.err x δ') (h:PS X.nox st (sD X f)):PSD X st f:=by
 intro pins s σ G H δ I R hs
 try dsimp only at hs ⊢
 let E:Ends:={ nx:=fun σ' H'=>∃δ',f δ=.nxt δ'/\TK H H'/\RepSt X.K G H' σ' δ',rt:=fun v H'=>∃d,f δ=.ret d/\TK H H'/\Same G H'/\Rep X.K H' d v,bk:=fun σ' H'=>∃δ',f δ=.brk δ'/\TK H H'/\RepSt X.K G H' σ' δ',ct:=fun σ' H'=>∃δ',f δ=.cnt δ'/\TK H H'/\RepSt X.K G H' σ' δ' }
 have n:NOut X G H (f δ) E:=by
  cases q:f δ with
  | stuck=>exact (hs q).elim
  | nxt δ'=>exact fun σ' H' t r=>⟨δ',q,t,r⟩
  | brk δ'=>exact fun σ' H' t r=>⟨δ',q,t,r⟩
  | cnt δ'=>exact fun σ' H' t r=>⟨δ',q,t,r⟩
  | ret d=>exact fun v H' t g r=>⟨d,q,t,g,r⟩
  | err x δ'=>exact (hne δ x δ' q).elim
 refine wpAny_mono (h pins s σ H E (I.wish _) ⟨G,δ,R,n⟩) (fun fl s1 p=>?_) fun e s1 p=>p.elim
 cases fl with
 | next=>obtain ⟨σ',H',q2,δ',q1,q3,q4⟩:=p; exact ⟨δ',σ',H',q1,q2.unwish,q3,q4⟩
 | brk=>obtain ⟨σ',H',q2,δ',q1,q3,q4⟩:=p; exact ⟨δ',σ',H',q1,q2.unwish,q3,q4⟩
 | cont=>obtain ⟨σ',H',q2,δ',q1,q3,q4⟩:=p; exact ⟨δ',σ',H',q1,q2.unwish,q3,q4⟩
 | ret u=>obtain ⟨v,σ',H',q2,q5,d,q1,q3,q4,q6⟩:=p; exact ⟨d,v,σ',H',q1,q2.unwish,q3,q4,q5,q6⟩
theorem bC (he:PD X e fe):PSD X (.Return (some e) pos) (fun δ=>j7 (fe δ) δ Out.ret):=by
 intro pins s σ G H δ I R hs
 try dsimp only at hs ⊢
 refine wpAny_Return_some (he.use I R (yN hs) (fun d u s1 v H1 q I1 r1 e1 b1 p1=>⟨d,v,σ,H1,by rw [q]; rfl,I1,e1.tk,R.same.trans e1,r1,p1⟩) fun e s1 q=>q.sx R fun x z=>by rw [z]; rfl)
theorem QH (he:PD X e fe) (hw:swapsWith e none pos.line X.env=pure false:=by rfl):PSD X (.Expr e pos) (fun δ=>j7 (fe δ) δ fun _=>.nxt δ):=by
 intro pins s σ G H δ I R hs
 try dsimp only at hs ⊢
 exact wpAny_Expr_any (he.use I R (yN hs) (fun d u s1 v H1 q I1 r1 e1 b1 p1=>⟨δ,σ,H1,by rw [q]; rfl,I1,e1.tk,R.mono e1⟩) fun e s1 q=>q.sx R fun x z=>by rw [z]; rfl) I.quiet hw
theorem cU {c:Expr} {a b:List Stmt} {tc:DS->Res Bool} {fa fb:DS->Out} (hc:PTD X c tc) (ha:PSDs X a fa) (hb:PSDs X b fb):PSD X (.If c a b pos) (fun δ=>xr (tc δ) δ fun k=>if k=true then fa δ else fb δ):=by
 intro pins s σ G H δ I R hs
 try dsimp only at hs ⊢
 refine wpAny_If (hc.use I R (QG hs) (fun k s1 H1 q I1 e1 b1=>?_) fun e s1 q=>q.sx R fun x z=>by rw [z]; rfl)
 cases k with
 | true =>
  have ev:xr (tc δ) δ (fun k=>if k=true then fa δ else fb δ)=fa δ:=by rw [q]; rfl
  exact wpAny_mono (ha pins s1 σ G H1 δ I1 (R.mono e1) fun z=>hs (ev.trans z)) (fun fl s2 p=>p.from e1.tk ev.symm) fun e s2 p=>p.from e1.tk b1 ev.symm
 | false =>
  have ev:xr (tc δ) δ (fun k=>if k=true then fa δ else fb δ)=fb δ:=by rw [q]; rfl
  exact wpAny_mono (hb pins s1 σ G H1 δ I1 (R.mono e1) fun z=>hs (ev.trans z)) (fun fl s2 p=>p.from e1.tk ev.symm) fun e s2 p=>p.from e1.tk b1 ev.symm
noncomputable def aG (i:Nat) (fe:DS->Res D):DS->Out:=fun δ=>j7 (fe δ) δ fun d=>.nxt (δ.set i (some (.val d)))
theorem bD (i:Nat) {x:Str} {pos':Pos} (he:PD X e fe) (hN:X.N.Nodup) (hi:X.N[i]? = some x:=by rfl) (hx:Loc X.env.scope x:=by first | exact Or.inl rfl | exact Or.inr rfl) (hw:swapsWith e (some (.Name x pos')) pos.line X.env=pure false:=by rfl)
  (hf:X.fn x=true\/X.env.scope.names.lookup x=some .local:=by first | exact .inl rfl | exact .inr rfl | assumption):PSD X (.Assign [.Name x pos'] e pos) (aG i fe):=by
 intro pins s σ G H δ I R hs
 try dsimp only at hs ⊢
 refine wpAny_Assign_Name (he.use I R (yN hs) (fun d u s1 v H1 q I1 r1 e1 b1 p1=>?_) fun e s1 q=>q.sx R fun x z=>by unfold aG; rw [z]; rfl) hw;exact zf I1 hN hi hx r1 (fun s2 I2=>⟨_,_,H1,by unfold aG; rw [q]; rfl,I2,e1.tk,(R.mono e1).set i p1⟩) hf
abbrev gb:=D->DS->Option DS
noncomputable def PGD (X:Cx) (tg:Expr) (t:gb):Prop :=
 ∀(E:Value->Shared->Prop) (pins:List (Addr×Obj)) (s:Shared) (σ:St) (G H:Hp) (δ δ':DS) (d:D) (v:V) (u:Value),Inv X pins σ H s->RelV v u->RepSt X.K G H σ δ->Rep X.K H d v->t d δ=some δ' ->
  wpAny (model X.prog X.w) X.A (assign tg X.env u) (fun _ s1=>∃σ',Inv X pins σ' H s1/\RepSt X.K G H σ' δ') E s
theorem ju (i:Nat) {x:Str} (hN:X.N.Nodup) (hi:X.N[i]? = some x:=by rfl) (hx:Loc X.env.scope x:=by first | exact Or.inl rfl | exact Or.inr rfl) (hf:X.fn x=true\/X.env.scope.names.lookup x=some .local:=by first | exact .inl rfl | exact .inr rfl | assumption) :
  PGD X (.Name x pos) (fun d δ=>some (δ.set i (some (.val d)))):=by
 intro E pins s σ G H δ δ' d v u I r R p e
 cases e
 exact gn (JC (X:=X.wish E) hN hi hx hf pins s σ H v u (fun σ' H'=>σ'=σ.set i (some v)/\H'=H) (I.wish _) r ⟨rfl,rfl⟩) fun _ s1 ⟨σ',H',I',e1,e2⟩=>by
  subst e1 e2;exact ⟨_,I'.unwish,R.set i p⟩
noncomputable def dh:List Nat->List D->DS->Option DS
 | [],[],δ=>some δ
 | i :: is,d :: ds,δ=>dh is ds (δ.set i (some (.val d)))
 | _,_,_=>none
theorem Kh:∀{is:List Nat} {ds:List D} {δ δ':DS},dh is ds δ=some δ'->ds.length=is.length
 | [],[],_,_,_=>rfl
 | [],_ :: _,_,_,h=>by simp [dh] at h
 | _ :: _,[],_,_,h=>by simp [dh] at h
 | i :: is,d :: ds,δ,δ',h=>by
  have:=Kh (is:=is) (ds:=ds) (by simpa [dh] using h);simp [this]
noncomputable def Ei (X:Cx) (is:List Nat):v9:=fun vs σ H Q=>∃G δ ds δ',RepSt X.K G H σ δ/\Reps X.K H ds vs/\dh is ds δ=some δ'/\∀σ',RepSt X.K G H σ' δ'->Q σ' H
theorem GF:v_ X [] (Ei X []):=by
 intro pins s σ H vs us Q I r h;obtain ⟨G,δ,ds,δ',R,p,e,q⟩:=h
 cases ds with
 | nil =>
  cases e
  exact Ow pins s σ H vs us Q I r ⟨p.nil_of,q σ R⟩
 | cons d ds=>cases e
theorem yO (i:Nat) {is:List Nat} {x:Str} {es:List Expr} (hN:X.N.Nodup) (h2:v_ X es (Ei X is)) (hi:X.N[i]? = some x:=by rfl) (hx:Loc X.env.scope x:=by first | exact Or.inl rfl | exact Or.inr rfl)
  (hf:X.fn x=true\/X.env.scope.names.lookup x=some .local:=by first | exact .inl rfl | exact .inr rfl | assumption) (hs:(assignEach (.Name x pos :: es) X.env).map (·.2)=assign (.Name x pos) X.env :: (assignEach es X.env).map (·.2):=by rfl) :
  v_ X (.Name x pos :: es) (Ei X (i :: is)):=by
 intro pins s σ H vs us Q I r h;obtain ⟨G,δ,ds,δ',R,p,e,q⟩:=h
 cases ds with
 | nil=>cases e
 | cons d ds =>
  obtain ⟨v,ws,rfl,p1,p2⟩:=p.cons_of;exact Ox (JC hN hi hx hf) h2 hs pins s σ H _ us Q I r ⟨v,ws,rfl,G,_,ds,δ',R.set i p1,p2,e,q⟩
noncomputable def cW (is:List Nat):gb:=fun d δ=>match d with
 | .tup ds=>dh is ds δ
 | _=>none
theorem GJ {es:List Expr} {k:Nat} {is:List Nat} (hc:X.calm=true) (h:∀E,v_ (X.wish E) es (Ei X is)) (hn:(assignEach es X.env).length=is.length:=by rfl) (hst:(assignEach es X.env).findIdx? (·.1)=none:=by rfl):PGD X (.Tuple es k pos) (cW is):=by
 intro E pins s σ G H δ δ' d v u I r R p e
 cases d with
 | tup ds =>
  obtain ⟨a,xs,rfl,w1,w2⟩:=fB p;exact gn (Oz (X:=X.wish E) hc (h E) hn hst pins s σ H _ u (fun σ' H'=>H'=H/\RepSt X.K G H σ' δ') (I.wish _) r ⟨a,xs,rfl,w1,by rw [w2.length]; exact Kh e,G,δ,ds,δ',R,w2,e,fun σ' R'=>⟨rfl,R'⟩⟩) fun _ s1 ⟨σ',H',I',e1,e2⟩=>by
   subst e1;exact ⟨σ',I'.unwish,e2⟩
 | _=>cases e
end
noncomputable def bJ (c:DS->Res Bool) (b:DS->Out):Nat->DS->Out
 | 0,_=>.stuck
 | n + 1,δ=>match c δ with
  | .ok true=>(match b δ with
   | .nxt δ'=>bJ c b n δ'
   | .cnt δ'=>bJ c b n δ'
   | .brk δ'=>.nxt δ'
   | .ret d=>.ret d
   | _=>.stuck)
  | .ok false=>.nxt δ
  | _=>.stuck
theorem fd' (c:DS->Res Bool) (b:DS->Out):∀(n:Nat) (δ:DS) (x:Exn) (δ':DS),bJ c b n δ≠.err x δ'
 | 0,_,_,_,h=>by simp [bJ] at h
 | n + 1,δ,x,δ',h=>by
  rw [bJ] at h
  split at h
  ·split at h <;> first | exact fd' c b n _ x δ' h | cases h
  ·cases h
  ·cases h
theorem GK {X:Cx} {c:Expr} {body:List Stmt} {tc:DS->Res Bool} {fb:DS->Out} {pos:Pos} (fuel:DS->Nat) (hc:PTD X c tc) (hb:PSDs X body fb) :
  PSD X (.While c body [] pos) (fun δ=>bJ tc fb (fuel δ) δ):=by
 refine Kg (fun δ=>fd' tc fb (fuel δ) δ) fun pins s σ H E I h=>?_;obtain ⟨G,δ,R,h⟩:=h;refine OD PassesOwn.never hc.pt hb.ps pins s σ H E I ⟨fun m σ' H'=>∃δ',RepSt X.K G H' σ' δ'/\NOut X G H' (bJ tc fb m δ') E,⟨fuel δ,δ,R,h⟩,?_⟩
 rintro m σ1 H1 ⟨δ1,R1,h1⟩
 cases m with
 | zero=>exact h1.elim
 | succ m =>
  rw [bJ] at h1
  cases q:tc δ1 with
  | stuck=>simp only [q] at h1; exact h1.elim
  | err x=>simp only [q] at h1; exact h1.elim
  | ok k =>
   refine ⟨G,δ1,k,R1,q,fun H2 e2=>?_⟩
   cases k with
   | false =>
    simp only [q] at h1;rw [if_neg Bool.false_ne_true];exact h1 σ1 H2 e2.tk (R1.mono e2)
   | true =>
    simp only [q] at h1;rw [if_pos rfl];refine ⟨fun σ' H'=>∃δ',RepSt X.K G H' σ' δ'/\NOut X G H' (bJ tc fb m δ') E,fun σ' H' z=>⟨m,Nat.lt_succ_self m,z⟩,G,δ1,R1.mono e2,?_⟩
    cases z:fb δ1 with
    | stuck=>rw [z] at h1; exact h1
    | err x δ'=>rw [z] at h1; exact h1
    | nxt δ'=>rw [z] at h1; exact fun σ' H' t r=>⟨δ',r,h1.tk (e2.tk.trans t)⟩
    | cnt δ'=>rw [z] at h1; exact fun σ' H' t r=>⟨δ',r,h1.tk (e2.tk.trans t)⟩
    | brk δ'=>rw [z] at h1; exact fun σ' H' t r=>h1 σ' H' (e2.tk.trans t) r
    | ret d=>rw [z] at h1; exact fun v H' t g r=>h1 v H' (e2.tk.trans t) g r
noncomputable def di (t:gb) (b:DS->Out):List D->DS->Out
 | [],δ=>.nxt δ
 | d :: ds,δ=>match t d δ with
  | none=>.stuck
  | some δ1=>match b δ1 with
   | .nxt δ'=>di t b ds δ'
   | .cnt δ'=>di t b ds δ'
   | .brk δ'=>.nxt δ'
   | .ret d=>.ret d
   | _=>.stuck
theorem iq' (t:gb) (b:DS->Out):∀(ds:List D) (δ:DS) (x:Exn) (δ':DS),di t b ds δ≠.err x δ'
 | [],_,_,_,h=>by simp [di] at h
 | d :: ds,δ,x,δ',h=>by
  rw [di] at h
  split at h
  ·cases h
  ·split at h <;> first | exact iq' t b ds _ x δ' h | cases h
noncomputable def cH (lo:Int):Nat->List D
 | 0=>[]
 | n + 1=>.int lo :: cH (lo + 1) n
theorem QJ (lo:Int) (n i:Nat) (h:i < n):(cH lo n).drop i=.int (lo + i) :: (cH lo n).drop (i + 1):=by
 induction i generalizing lo n with
 | zero =>
  cases n with
  | zero=>omega
  | succ n=>simp [cH]
 | succ i ih =>
  cases n with
  | zero=>omega
  | succ n =>
   have q:=ih (lo + 1) n (by omega);simp only [cH,drop_succ_cons];rw [q];have:lo + 1 + (i:Int)=lo + ((i + 1:Nat):Int):=by omega
   rw [this]
theorem cE' (lo:Int) (n:Nat):(cH lo n).length=n:=by
 induction n generalizing lo with
 | zero=>rfl
 | succ n ih=>simp [cH,ih]
noncomputable def gD (X:Cx) (t:gb):TG:=fun v σ H Q=>∃G δ d δ',RepSt X.K G H σ δ/\Rep X.K H d v/\t d δ=some δ'/\∀σ',RepSt X.K G H σ' δ'->Q σ' H
noncomputable def Ej (r:Res (List D)) (k:List D->Out):Out:=match r with
 | .ok d=>k d
 | _=>.stuck
theorem QK {r:Res (List D)} {k:List D->Out} (h:∀ds x δ',k ds≠.err x δ') (x:Exn) (δ':DS):Ej r k≠.err x δ':=by
 cases r with
 | ok d=>exact h d x δ'
 | stuck=>intro z; cases z
 | err _=>intro z; cases z
section
variable {X:Cx} {tg iter:Expr} {body:List Stmt} {t:gb} {fb:DS->Out} {pos:Pos} {G H:Hp} {E:Ends}
theorem PGD.pg (h:PGD X tg t):PG X.nox tg (gD X t):=by
 intro pins s σ H v u Q I r hq;obtain ⟨G,δ,d,δ',R,p,e,q⟩:=hq;exact gn (h _ pins s σ G H δ δ' d v u I.unwish r R p e) fun _ s1 ⟨σ',I',R'⟩=>⟨σ',H,I'.wish _,q σ' R'⟩
theorem QL {ds:List D} {d:D} {δ:DS} {v:V} {σ:St} {N:St->Hp->Prop} (R:RepSt X.K G H σ δ) (p:Rep X.K H d v) (h:NOut X G H (di t fb (d :: ds) δ) E)
  (hN:∀δ' σ' H',TK H H'->RepSt X.K G H' σ' δ'->NOut X G H' (di t fb ds δ') E->N σ' H'):gD X t v σ H fun σ2 H2=>sD X fb { E with nx:=N,ct:=N,bk:=E.nx } σ2 H2:=by
 rw [di] at h
 cases z:t d δ with
 | none=>rw [z] at h; exact h.elim
 | some δ1 =>
  rw [z] at h;refine ⟨G,δ,d,δ1,R,p,z,fun σ' R'=>⟨G,δ1,R',?_⟩⟩;simp only at h
  cases q:fb δ1 with
  | stuck=>rw [q] at h; exact h
  | err x δ'=>rw [q] at h; exact h
  | nxt δ'=>rw [q] at h; exact fun σ2 H2 t2 r2=>hN δ' σ2 H2 t2 r2 (h.tk t2)
  | cnt δ'=>rw [q] at h; exact fun σ2 H2 t2 r2=>hN δ' σ2 H2 t2 r2 (h.tk t2)
  | brk δ'=>rw [q] at h; exact fun σ2 H2 t2 r2=>h σ2 H2 t2 r2
  | ret d=>rw [q] at h; exact fun v H2 t2 g r2=>h v H2 t2 g r2
noncomputable def jw:List D->Res (List D)
 | [.int j]=>if -(2 ^ 62)<=j/\j < 2 ^ 62 then .ok (cH 0 j.toNat) else .stuck
 | _=>.stuck
end
theorem QM (o:Obj) (f):(o.mapFields f).dict=o.dict:=by
 obtain ⟨c,d,dt,sl⟩:=o; cases dt <;> rfl
noncomputable def FlyT (h0:Heap) (H:Hp) (h:Heap) (e:Addr) (cls:Value×Option Addr) (fl:Value):Prop :=
 fj h0 e/\H e=none/\∃oe vs a0 T oT ts,h.get? e=some oe/\(oe.cls=cls.1/\oe.dict=cls.2)/\oe.data=.fields vs/\vs[0]? = some a0/\vs[1]? = some (.ref T)/\fj h0 T/\H T=none/\T≠e/\h.get? T=some oT/\oT.data=.fields ts/\ts[3]? = some fl
theorem FlyT.fly {h0:Heap} {H:Hp} {h:Heap} {e:Addr} {cls:Value×Option Addr} (f:FlyT h0 H h e cls .none):Fly h0 H h e cls:=by
 obtain ⟨n,he,oe,vs,a0,T,oT,ts,q1,q2,q3,q4,q5,q6⟩:=f;exact ⟨n,he,oe,vs,a0,q1,q2,q3,q4,.inr ⟨T,oT,ts,q5,q6⟩⟩
noncomputable def fD (h:Heap) (e b:Addr):Prop:=b=e\/∃oe vs,h.get? e=some oe/\oe.data=.fields vs/\vs[1]? = some (.ref b)
structure KF (e:Addr) (fs:List Addr) (h h':Heap):Prop where
 keep:∀b o,h.get? b=some o->b∉fs->¬fD h e b->h'.get? b=some o
 slot:∀b o,h.get? b=some o->b∈fs->¬fD h e b->∃sl,h'.get? b=some { o with slots:=sl }
 there:∀b o,h.get? b=some o->∃o',h'.get? b=some o'
theorem Fly.ex {h0 h:Heap} {H:Hp} {e b:Addr} {cls:Value×Option Addr} (f:Fly h0 H h e cls) (x:fD h e b):fj h0 b/\H b=none/\∃o vs,h.get? b=some o/\o.data=.fields vs:=by
 obtain ⟨n,he,oe,vs,a0,q1,q2,q3,q4,q5⟩:=f;rcases x with rfl | ⟨oe',vs',w1,w2,w3⟩
 ·exact ⟨n,he,oe,vs,q1,q3⟩
 ·rw [q1] at w1; cases w1;rw [q3] at w2; cases w2;rcases q5 with q5 | ⟨T,oT,ts,z1,z2,z3,z4,z5,z6,z7⟩
  ·rw [q5] at w3; cases w3
  ·rw [z1] at w3; cases w3;exact ⟨z2,z3,oT,ts,z5,z6⟩
theorem FlyT.ex {h0 h:Heap} {H:Hp} {e b:Addr} {cls:Value×Option Addr} {fl:Value} (f:FlyT h0 H h e cls fl) (x:fD h e b):fj h0 b/\H b=none/\∃o vs,h.get? b=some o/\o.data=.fields vs:=by
 obtain ⟨n,he,oe,vs,a0,T,oT,ts,q1,q2,q3,q4,z1,z2,z3,z4,z5,z6,z7⟩:=f;rcases x with rfl | ⟨oe',vs',w1,w2,w3⟩
 ·exact ⟨n,he,oe,vs,q1,q3⟩
 ·rw [q1] at w1; cases w1;rw [q3] at w2; cases w2;rw [z1] at w3; cases w3;exact ⟨z2,z3,oT,ts,z5,z6⟩
section
variable {M:Model} {A:Around} {E:Value->Shared->Prop} {s:Shared} {base h0:Heap} {H:Hp} {env:Env} {outer:List Env} {L e:Addr} {Q:Unit->Shared->Prop}
theorem Kl {oe:Obj} {vs:Array Value} {head a0:Value} {hadNext:Bool}
  (hfr:A.frames=some (env :: outer)) (hl:s.heap.FunFrames base (env :: outer)) (hf:env.frame=some L) (hz:h0.objs.size<=s.heap.objs.size) (hn:∀b,s.heap.objs.size<=b->H b=none)
  (nr:fj h0 e) (hH:H e=none) (he:s.heap.get? e=some oe) (hd:oe.data=.fields vs) (hsz:1 < vs.size) (h0':vs[0]? = some a0)
  (h:∀h',(∀b o,b≠e->s.heap.get? b=some o->b∉(env :: outer).filterMap (·.frame)->h'.get? b=some o)->(∀b o,b≠e->s.heap.get? b=some o->∃sl,h'.get? b=some { o with slots:=sl })->FlyT h0 H h' e (oe.cls,oe.dict) (rawInt L)->(∀b,fD h' e b->b=e\/s.heap.objs.size<=b)->Q () { s with heap:=h' }) :
  wpAny M A (do let a <- frameOf env; let pl <- entryPlaceOf L hadNext; let b <- EntryCells.newEntry head a .none (rawInt L) .none pl; setField (.ref e) 1 b) Q E s:=by
 have hene:e∉(env :: outer).filterMap (·.frame):=fun hm=>by
  obtain ⟨_,o,ho,hnf⟩:=hl.mem hm;rw [he] at ho; injection ho with ho; subst ho; exact hnf vs hd
 refine wpAny_bind (wpAny_frameOf_fun hfr hl hf fun h₁ hs₁=>?_);refine wpAny_bind (wpAny_entryPlaceOf fun pl hpl=>?_);unfold EntryCells.newEntry newFields;refine wpAny_bind (wpAny_newObj_type ?_ (hpl.sizeOk5 _ _ _ _ _));have he₁:h₁.get? e=some oe:=(hs₁.2.1 e hene).trans he;generalize hob:({ cls:=.type "traceback",dict:=none,data:=.fields ([head,.ref L,.none,rawInt L,.none] ++ (if pl.isEmpty then List.replicate 6 Value.none else pl)).toArray }:Obj)=ob
 have hobd:ob.data=.fields ([head,.ref L,.none,rawInt L,.none] ++ (if pl.isEmpty then List.replicate 6 Value.none else pl)).toArray:=by rw [<- hob]
 have hobf:ob.isFreed=false:=Obj.isFreed_of_fields hobd;have he₂:=Heap.get?_push_of_some (h:=h₁) ob he₁;refine wpAny_setField he₂ hd hsz ?_;have hTe:h₁.objs.size≠e:=Nat.ne_of_gt (Heap.lt_size he₁);have hd₃:=Obj.data_mapFields hd (·.setIfInBounds 1 (Value.ref h₁.objs.size));have he₃:=Heap.get?_update_self (Obj.mapFields (·.setIfInBounds 1 (Value.ref h₁.objs.size))) he₂ (Obj.isFreed_of_fields hd₃);have hT₃:=(Heap.get?_update_other (h₁.push ob) (Obj.mapFields (·.setIfInBounds 1 (Value.ref h₁.objs.size))) (Ne.symm hTe)).trans (Heap.get?_push_size h₁ hobf);have keep:∀b o,b≠e->h₁.get? b=some o->((h₁.push ob).update e (Obj.mapFields (·.setIfInBounds 1 (Value.ref h₁.objs.size)))).get? b=some o:=fun b o hbe hb=>by
  rw [Heap.get?_update_other _ _ (Ne.symm hbe)];exact Heap.get?_push_of_some _ hb
 refine h _ (fun b o hbe hb hbf=>keep b o hbe ((hs₁.2.1 b hbf).trans hb)) (fun b o hbe hb=>?_) ⟨nr,hH,_,_,a0,h₁.objs.size,_,_,he₃,⟨Obj.cls_mapFields _ _,QM _ _⟩,hd₃,?_,?_,?_,?_,hTe,hT₃,hobd,?_⟩ fun b hx=>?_
 ·obtain ⟨sl,hs⟩:=hs₁.2.2 b o hb;exact ⟨sl,keep b _ hbe hs⟩
 ·rw [Array.getElem?_setIfInBounds_ne (by decide)]; exact h0'
 ·simp [hsz]
 ·intro o vs' ho;have:=Heap.lt_size ho;rw [hs₁.1] at this;exact absurd this (Nat.not_lt.mpr hz)
 ·exact hn _ (by rw [hs₁.1]; exact Nat.le_refl _)
 ·simp
 ·rcases hx with z | ⟨oe',vs',w1,w2,w3⟩
  ·exact .inl z
  ·rw [he₃] at w1; cases w1;rw [hd₃] at w2; cases w2;have w4:(vs.setIfInBounds 1 (Value.ref h₁.objs.size))[1]? = some (.ref h₁.objs.size):=by simp [hsz]
   rw [w4] at w3; cases w3;exact .inr (by rw [hs₁.1]; exact Nat.le_refl _)
theorem Km {cls:Value×Option Addr} {fl:Value} (f:FlyT h0 H s.heap e cls fl) (h:∀h',(∀b o,s.heap.get? b=some o->¬fD s.heap e b->h'.get? b=some o)->(∀b o,s.heap.get? b=some o->∃o',h'.get? b=some o')->FlyT h0 H h' e cls .none->(∀b,fD h' e b->fD s.heap e b)->Q () { s with heap:=h' }):wpAny M A (setFlight (.ref e) none) Q E s:=by
 obtain ⟨nr,hH,oe,vs,a0,T,oT,ts,he,hc,hd,h0',h1,nT,hT,hTe,gT,dT,h3⟩:=f;have hsz:=(Array.getElem?_eq_some_iff.mp h3).1;refine wpAny_setFlight_none he hd h1 gT dT hsz ?_;have other:∀b,b≠T->(s.heap.update T (Obj.mapFields (·.setIfInBounds 3 Value.none))).get? b=s.heap.get? b:=fun b hb=>Heap.get?_update_other _ _ (Ne.symm hb);have hd₃:=Obj.data_mapFields dT (·.setIfInBounds 3 Value.none);have hT₃:=Heap.get?_update_self (Obj.mapFields (·.setIfInBounds 3 Value.none)) gT (Obj.isFreed_of_fields hd₃);refine h _ (fun b o hb hk=>(other b ?_).trans hb) (fun b o hb=>?_) ⟨nr,hH,oe,vs,a0,T,_,_,(other e (Ne.symm hTe)).trans he,hc,hd,h0',h1,nT,hT,hTe,hT₃,hd₃,by simp [hsz]⟩ fun b hx=>?_
 ·rintro rfl
  exact hk (.inr ⟨oe,vs,he,hd,h1⟩)
 ·by_cases hbT:b=T
  ·subst hbT; exact ⟨_,hT₃⟩
  ·exact ⟨o,(other b hbT).trans hb⟩
 ·rcases hx with z | ⟨oe',vs',w1,w2,w3⟩
  ·exact .inl z
  ·exact .inr ⟨oe',vs',(other e (Ne.symm hTe)).symm.trans w1,w2,w3⟩
theorem Ko {cls:Value×Option Addr} (hfr:A.frames=some (env :: outer)) (hl:s.heap.FunFrames base (env :: outer)) (hf:env.frame=some L) (hz:h0.objs.size<=s.heap.objs.size) (hn:∀b,s.heap.objs.size<=b->H b=none)
  (fl:Fly h0 H s.heap e cls) (h:∀h',KF e ((env :: outer).filterMap (·.frame)) s.heap h'->FlyT h0 H h' e cls .none->(∀b,fD h' e b->b=e\/s.heap.objs.size<=b)->Q () { s with heap:=h' }):wpAny M A (noteFrame (.ref e) env) (fun _ s'=>wpAny M A (setFlight (.ref e) none) Q E s') E s:=by
 have hex:=fun {b}=>fl.ex (b:=b);obtain ⟨nr,hH,oe,vs,a0,he,⟨hc,hdd⟩,hd,h0',q⟩:=fl;obtain ⟨c1,c2⟩:=cls;dsimp only at hc hdd;subst hc hdd;unfold noteFrame;simp only [hf];have fin:∀(hm:Heap),(∀b o,s.heap.get? b=some o->¬fD s.heap e b->hm.get? b=some o)->(∀b o,b≠e->s.heap.get? b=some o->∃o',hm.get? b=some o') ->
   ∀h1,(∀b o,b≠e->hm.get? b=some o->b∉(env :: outer).filterMap (·.frame)->h1.get? b=some o)->(∀b o,b≠e->hm.get? b=some o->∃sl,h1.get? b=some { o with slots:=sl })->FlyT h0 H h1 e (oe.cls,oe.dict) (rawInt L)->(∀b,fD h1 e b->b=e\/s.heap.objs.size<=b) ->
   wpAny M A (setFlight (.ref e) none) Q E { s with heap:=h1 }:=by
  intro hm k1 k2 h1 k4 k5 f1 k6;have nx:∀b o,s.heap.get? b=some o->b≠e->¬fD h1 e b:=fun b o hb hbe hx=>by
   rcases k6 b hx with z | z
   ·exact hbe z
   ·exact absurd (Heap.lt_size hb) (Nat.not_lt.mpr z)
  refine Km (s:={ s with heap:=h1 }) f1 fun h2 k7 k8 f2 k9=>h h2 ⟨fun b o hb hbf hx=>?_,fun b o hb hbf hx=>?_,fun b o hb=>?_⟩ f2 fun b hx=>k6 b (k9 b hx)
  ·have hbe:b≠e:=fun z=>hx (.inl z);exact k7 b o (k4 b o hbe (k1 b o hb hx) hbf) (nx b o hb hbe)
  ·have hbe:b≠e:=fun z=>hx (.inl z);obtain ⟨sl,q1⟩:=k5 b o hbe (k1 b o hb hx);exact ⟨sl,k7 b _ q1 (nx b o hb hbe)⟩
  ·by_cases hbe:b=e
   ·subst hbe;obtain ⟨_,_,oe',_,_,_,_,_,q1,_⟩:=f1;exact k8 b oe' q1
   ·obtain ⟨o',q1⟩:=k2 b o hbe hb;obtain ⟨sl,q2⟩:=k5 b o' hbe q1;exact k8 b _ q2
 rcases q with h1 | ⟨T,oT,ts,h1,nT,hT,hTe,gT,dT,h3⟩
 ·refine wpAny_bind (wpAny_field he hd h1 ?_);rw [if_neg (by decide)];exact Kl hfr hl hf hz hn nr hH he hd (Array.getElem?_eq_some_iff.mp h1).1 h0' fun h1 k4 k5 f1 k6=>fin s.heap (fun b o hb _=>hb) (fun b o _ hb=>⟨o,hb⟩) h1 k4 k5 f1 k6
 ·refine wpAny_bind (wpAny_field he hd h1 ?_);rw [if_pos (show (Value.ref T != Value.none)=true from by simp)]
  refine wpAny_bind (wpAny_field gT dT h3 ?_);rw [if_neg (show ¬((Value.none == rawInt L)=true) from by simp [rawInt])]
  refine wpAny_bind (wpAny_setField gT dT (Array.getElem?_eq_some_iff.mp h3).1 ?_);have other:∀b,b≠T->(s.heap.update T (Obj.mapFields (·.setIfInBounds 3 Value.none))).get? b=s.heap.get? b:=fun b hb=>Heap.get?_update_other _ _ (Ne.symm hb);have noRecord:∀b o,s.heap.get? b=some o->(∀vs,o.data≠.fields vs)->b≠T:=fun b o hb hnf q=>by
   rw [q,gT] at hb; injection hb with hb; subst hb; exact hnf ts dT
  have hsize:(s.heap.update T (Obj.mapFields (·.setIfInBounds 3 Value.none))).objs.size=s.heap.objs.size:=by simp [Heap.update]
  have hl':(s.heap.update T (Obj.mapFields (·.setIfInBounds 3 Value.none))).FunFrames base (env :: outer):=hl.of_keeps fun b o hb hnf=>⟨o,(other b (noRecord b o hb hnf)).trans hb,rfl⟩;refine Kl (s:={ s with heap:=s.heap.update T (Obj.mapFields (·.setIfInBounds 3 Value.none)) }) hfr hl' hf (by rw [hsize]; exact hz) (fun b hb=>hn b (by rw [hsize] at hb; exact hb)) nr hH ((other e (Ne.symm hTe)).trans he) hd (Array.getElem?_eq_some_iff.mp h1).1 h0' fun h1' k4 k5 f1 k6=>fin _ (fun b o hb hx=>(other b fun z=>?_).trans hb) (fun b o hbe hb=>?_) h1' k4 k5 f1 (by rw [hsize] at k6; exact k6)
  ·subst z; exact hx (.inr ⟨oe,vs,he,hd,h1⟩)
  ·by_cases hbT:b=T
   ·subst hbT; exact ⟨_,Heap.get?_update_self _ gT (Obj.isFreed_of_fields (Obj.data_mapFields dT (·.setIfInBounds 3 Value.none)))⟩
   ·exact ⟨o,(other b hbT).trans hb⟩
end
theorem KF.plain {e:Addr} {fs:List Addr} {h h':Heap} (k:KF e fs h h') {b:Addr} {o:Obj} (q:h.get? b=some o) (n:¬fD h e b):∃sl,h'.get? b=some { o with slots:=sl }:=by
 by_cases hb:b∈fs
 ·exact k.slot b o q hb n
 ·exact ⟨o.slots,k.keep b o q hb n⟩
theorem _root_.L2.Inv.kf {X:Cx} {pins:List (Addr×Obj)} {σ:St} {H:Hp} {s:Shared} {h':Heap} {t':Nat} {a:Addr} (I:Inv X pins σ H s) (k:KF a (frs X.stack) s.heap h')
  (hr:∀b,fD s.heap a b->(∀o vs,X.s₀.heap.get? b=some o->X.H₀ b=none->b∉X.fs->b∉X.ex->o.data≠.fields vs)/\H b=none/\(∃o vs,s.heap.get? b=some o/\o.data=.fields vs)/\∀p∈X.pn ++ pins,p.1≠b):Inv X pins σ H { s with heap:=h',toks:=t' }:=by
 have old:∀b,b < X.s₀.heap.objs.size->b∉X.fs->b∉frs X.stack:=fun b hb hf hs=>by
  rcases mem_cons.mp (I.stkSub b hs) with z | z
  ·subst z; exact absurd hb (Nat.not_lt.mpr I.ok.above)
  ·exact hf z
 have insub:∀b,b∈X.fs->b∈frs X.stack:=fun b hb=>by
  rcases I.ok.stk with z | ⟨z,hf⟩
  ·rw [z]; exact hb
  ·rw [z]; unfold frs; rw [filterMap_cons,hf]; exact mem_cons_of_mem _ hb
 have norec:∀b o,s.heap.get? b=some o->(∀vs,o.data≠.fields vs)->¬fD s.heap a b:=fun b o hb hd hx=>by
  obtain ⟨_,_,⟨o',vs,e1,e2⟩,_⟩:=hr b hx;rw [hb] at e1; cases e1;exact hd vs e2
 have cellk:∀{c:Addr} {v:Option Value},s.heap.IsCell c v->h'.IsCell c v:=fun {c v} ⟨o,e,d⟩=>by
  obtain ⟨sl,e1⟩:=k.plain e (norec c o e fun vs z=>by rw [d] at z; cases z);exact ⟨_,e1,d⟩
 refine ⟨I.ok,I.os,I.bare,⟨fun b o e n hb hx=>?_,fun b o e n hb hx=>?_,I.base.free,fun b o e hx=>?_,I.base.tups,I.base.frzs,I.base.tbls⟩,?_,fun x c e=>?_,I.free,I.freeC,fun p hpp=>?_,fun b u q=>?_,I.len⟩
 ·have q:=I.base.keep b o e n hb hx;refine k.keep b o q (old b (Heap.lt_size e) hb) fun z=>?_;obtain ⟨n1,_,⟨o',vs,e1,e2⟩,_⟩:=hr b z;rw [q] at e1; cases e1;exact n1 o vs e n hb hx e2
 ·obtain ⟨sl,q⟩:=I.base.slot b o e n hb hx;obtain ⟨_,o',ho,hd⟩:=I.funs.mem hb;rw [q] at ho; cases ho;obtain ⟨sl2,q2⟩:=k.slot b _ q (insub b hb) (norec b _ q hd);exact ⟨sl2,q2⟩
 ·obtain ⟨o',q⟩:=I.base.there b o e hx;exact k.there b o' q
 ·obtain ⟨m,⟨o,es,ep,ho,hd,r⟩,hl⟩:=I.loc;obtain ⟨sl,e1⟩:=k.plain ho (norec _ o ho fun vs z=>by rw [hd] at z; cases z);refine ⟨m,⟨_,es,ep,e1,hd,r⟩,fun i x v h1 h2 h3=>?_⟩;obtain ⟨u,r1,l⟩:=hl i x v h1 h2 h3;refine ⟨u,r1,?_⟩;rcases l with l | ⟨l1,c,l2,l3⟩
  ·exact .inl l
  ·exact .inr ⟨l1,c,l2,cellk l3⟩
 ·obtain ⟨v,q⟩:=I.cell x c e;exact ⟨v,cellk q⟩
 ·obtain ⟨e,n,ne,nf,d⟩:=I.pin p hpp;refine ⟨k.keep p.1 p.2 e (fun z=>?_) (fun z=>(hr p.1 z).2.2.2 p hpp rfl),n,ne,nf,d⟩;rcases mem_cons.mp (I.stkSub _ z) with w | w
  ·exact ne w
  ·exact nf w
 ·refine (I.hok b u q).stay (fun c v hc e=>?_) (fun _ z=>z) fun _ _ z=>z;have hH:H c≠none:=by
   rcases hc with rfl | hc
   ·rw [q]; intro z; cases z
   ·rw [hc]; intro z; cases z
  exact k.keep c v e (fun z=>hH (I.stkFree c z)) fun z=>hH (hr c z).2.1
noncomputable def iJ (P:Program) (w:World):pU:=fun outer H s E e s'=>∃a Cv H',e=.ref a/\s'.os=s.os/\AllBare s'.gens/\Un (frs outer) [] H H' s.heap s'.heap/\HOk P w H' s'.heap/\∃dd,Fly s.heap H' s'.heap a (Cv,dd)/\E Cv dd H'
noncomputable def vC (K:Frag) (F:List D->Res D):Sp:=fun vs H Q E=>∃ds,Reps K H ds vs/\match F ds with
 | .stuck=>False
 | .ok d=>∀v H',Same H H'->Rep K H' d v->Q v H'
 | .err x=>∀C H' dd,nsIn K mainGlobals x.cls=some (some (.ref C))->Same H H'->Ef K H' x dd->E (.ref C) dd H'
section
variable {X:Cx} {k:Nat} {f:Addr} {fd:FuncData} {ps:List Str} {F:List D->Res D} {x:Str} {p pos:Pos} {e:Expr} {es:List Expr} {fs:DS->Res (List D)}
theorem QQ (Fn:FnOk X.prog X.w X.K X.mg X.base (iJ X.prog X.w) k f fd ps (vC X.K F)) (hr:Room k X.A) (hg:Gl X x) (hm:X.mg x=some (.ref f)) (hk:keepIn X.K (.ref f)=true) (hb:Binds X.K fd ps []) (ha:PAD X (e :: es) fs)
  (hdb:(x == ("__debug__" : Str))=false:=by decide) (he:starEach (e :: es) X.env=(false,eval e X.env) :: starEach es X.env:=by rfl) (hpl:(backTo pos (starEach es X.env)).any (·.1)=false:=by rfl) :
  PD X (.Call (.Name x p) (e :: es) [] pos) (fun δ=>(fs δ).bind F):=by
 intro pins s σ G H δ I R hs
 try dsimp only at hs ⊢
 refine wpAny_Call_Name_kw (v5 I hg hm ?_ hdb);refine callWith_K (h₀:=X.base) I.ok.mod.kin hk (ha.use I R (gq hs) (fun ds us s1 vs H1 q I1 r1 e1 b1 p1=>⟨I1.kIn,?_⟩) fun e s1 q=>q.same fun x z=>gY z) he hpl;have h2:=iD hs q;have ev:(fs δ).bind F=F ds:=by rw [q]; rfl
 cases qg:F ds with
 | stuck=>exact (h2 qg).elim
 | ok d =>
  have hsp:vC X.K F vs H1 (fun v H'=>Same H1 H'/\Rep X.K H' d v) (fun _ _ _=>False):=⟨ds,p1,by rw [qg]; exact fun v H' a b=>⟨a,b⟩⟩;have hl:us.length=ps.length:=by rw [<- r1.length]; exact Fn.len _ _ _ _ hsp
  refine wpAny_call (codeAny_mono (Fn.run X.A X.stack s1 H1 ⟨us,[]⟩ us vs _ _ hr I1.env0 (by simpa using hb s1 us I1.kIn (by simpa using hl)) r1 hsp) fun r s' hq=>?_)
  cases r with
  | error e=>obtain ⟨_,_,_,_,_,_,_,_,_,_,z⟩:=hq; exact z.elim
  | ok fl =>
   cases fl with
   | ret u =>
    obtain ⟨v,H',I',r',e',p'⟩:=I1.after hq;exact ⟨d,v,H',ev.trans qg,I',r',e1.trans e',p'⟩
   | next=>exact False.elim hq
   | brk=>exact False.elim hq
   | cont=>exact False.elim hq
 | err z =>
  have hsp:vC X.K F vs H1 (fun v H'=>False) (fun Cv dd H'=>∃C,Cv=.ref C/\nsIn X.K mainGlobals z.cls=some (some (.ref C))/\Same H1 H'/\Ef X.K H' z dd):=⟨ds,p1,by rw [qg]; exact fun C H' dd a b c=>⟨C,rfl,a,b,c⟩⟩;have hl:us.length=ps.length:=by rw [<- r1.length]; exact Fn.len _ _ _ _ hsp
  refine wpAny_call (codeAny_mono (Fn.run X.A X.stack s1 H1 ⟨us,[]⟩ us vs _ _ hr I1.env0 (by simpa using hb s1 us I1.kIn (by simpa using hl)) r1 hsp) fun r s' hq=>?_)
  cases r with
  | error e =>
   obtain ⟨a,Cv,H',rfl,os,bare,un,hok,dd,fly,C,rfl,hC,sm,pay⟩:=hq;exact ⟨z,a,C,H',ev.trans qg,rfl,I1.call' (ch:=[]) os un hok bare (fun b z=>absurd z (by simp)),e1.trans sm,hC,dd,pay,fly.back e1.tk sm.tk b1⟩
  | ok fl =>
   cases fl with
   | ret u =>
    obtain ⟨v,H',_,_,_,_,_,z⟩:=hq;exact z.elim
   | next=>exact False.elim hq
   | brk=>exact False.elim hq
   | cont=>exact False.elim hq
end
noncomputable def dH (n N:Nat) (ds:List D):DS:=ds.map (fun d=>some (.arg d)) ++ List.replicate (N - n) none
noncomputable def outD:Out->Res D
 | .ret d=>.ok d
 | .nxt _=>.ok .non
 | .err x _=>.err x
 | _=>.stuck
noncomputable def bG (n N:Nat) (body:DS->Out):List D->Res D:=fun ds=>if ds.length=n then outD (body (dH n N ds)) else .stuck
theorem Kp {K:Frag} {H:Hp} {ds:List D} {vs:List V} (N:List Str) (r:Reps K H ds vs):RepSt K H H (start N vs) (dH ds.length N.length ds):=by
 have hl:=r.length;refine ⟨Same.refl H,?_,fun i sv e=>?_,fun i j as es v hij e1 e2=>?_⟩
 ·unfold L2.start dH;simp [hl]
 ·unfold dH at e
  by_cases hi:i < ds.length
  ·rw [List.getElem?_append_left (by simpa using hi),List.getElem?_map] at e
   cases q:ds[i]? with
   | none=>rw [q] at e; cases e
   | some d =>
    rw [q] at e;simp only [Option.map_some,Option.some.injEq] at e;subst e;obtain ⟨v,e1,e2⟩:=r.get q;refine ⟨v,?_,e2⟩;unfold L2.start;rw [List.getElem?_append_left (by simpa [hl] using hi),List.getElem?_map,e1];rfl
  ·rw [List.getElem?_append_right (by simpa using hi),List.getElem?_replicate] at e
   split at e <;> cases e
 ·exfalso;unfold dH at e1
  by_cases hi:i < ds.length
  ·rw [List.getElem?_append_left (by simpa using hi),List.getElem?_map] at e1
   cases q:ds[i]? with
   | none=>rw [q] at e1; cases e1
   | some d=>rw [q] at e1; cases e1
  ·rw [List.getElem?_append_right (by simpa using hi),List.getElem?_replicate] at e1
   split at e1 <;> cases e1
section
variable {P:Program} {w:World} {K:Frag} {mg:Str->Option Value} {base:Heap}
theorem QR {N:List Str} {qual:Str} {scope:Scope} {f:Addr} {cdv:Value} {A:Around} {outer:List Env} {s:Shared} {H:Hp} {E:XK} {pins:List (Addr×Obj)} {σ':St} {H':Hp} {s':Shared} {a:Addr} {Cv:Value}
  (I:Inv (e_ (iJ P w) P w K mg base N qual scope f cdv A outer s H E) pins σ' H' s') {dd:Option Addr} (fl:Fly s.heap H' s'.heap a (Cv,dd)) (hE:E Cv dd H') :
  (e_ (iJ P w) P w K mg base N qual scope f cdv A outer s H E).xe (.ref a) s':=by
 show wpAny (model P w) (A.deeper (envOfC qual scope s.heap.objs.size f cdv)) (leaving (envOfC qual scope s.heap.objs.size f cdv) (.ref a)) (fun _ s''=>iJ P w outer H s E (.ref a) s'') _ s';have hz:s.heap.objs.size<=s'.heap.objs.size:=I.sz;have hn:∀b,s'.heap.objs.size<=b->H' b=none:=fun b hb=>I.hok.fresh hb;unfold leaving;refine wpAny_bind (Ko (base:=base) I.ok.frames I.stack rfl hz hn fl fun h2 k2 f2 _=>?_);have I0:Inv (e_ (iJ P w) P w K mg base N qual scope f cdv A outer s H E) [] σ' H' s':=I.pins_of fun p hp=>absurd hp (by simp);have J:=I0.kf (h':=h2) (t':=s'.toks) k2 fun b hx=>by
  obtain ⟨n1,n2,n3⟩:=fl.ex hx;exact ⟨fun o vs e _ _ _=>n1 o vs e,n2,n3,fun p hp=>absurd (show p∈([]:List (Addr×Obj)) ++ [] from hp) (by simp)⟩
 exact ⟨a,Cv,H',rfl,I.os,I.bare,J.base,J.hok,dd,f2.fly,hE⟩
noncomputable def tB (X:Cx) (f:DS->Out):TS:=fun D σ H=>∃G δ,RepSt X.K G H σ δ/\f δ≠.stuck/\(∀pins fl s1,SPost X pins G H (f δ) fl s1->SP X pins D fl s1)/\∀pins s2 e s1,Inv X pins σ H s2->SX X pins G H s2.heap (f δ) e s1->X.xe e s1
theorem PSDs.tb {X:Cx} {st:List Stmt} {f:DS->Out} (h:PSDs X st f):PSs X st (tB X f):=by
 intro pins s σ H D I ⟨G,δ,R,n,k1,k2⟩;exact wpAny_mono (h pins s σ G H δ I R n) (fun fl s1 p=>k1 pins fl s1 p) fun e s1 p=>k2 pins s e s1 I p
theorem nm' {x qual:Str} {st:Stmt} {f:Addr} {fd:FuncData} {N ps:List Str} {k:Nat} {body:DS->Out} (F:Fun K x qual st f fd) (S:FnScope N ps (az st))
  (hb:∀(cdv:Value) (A:Around) (outer:List Env) (s:Shared) (H:Hp) (E:XK),Room k (A.deeper (envOfC qual (az st) s.heap.objs.size f cdv))->PSDs (e_ (iJ P w) P w K mg base N qual (az st) f cdv A outer s H E) (bz st) body) :
  FnOk P w K mg base (iJ P w) (k + 1) f fd ps (vC K (bG ps.length N.length body)):=by
 obtain ⟨oc,od,kV,doc,pm,an,cdv,ct,osl,rfl,lk,hcd⟩:=F.ex;refine Ec lk hcd S (fun vs H Q E ⟨ds,r,h⟩=>?_) fun A outer s H vs Q E hr hsp=>?_
 ·rw [r.length];unfold bG at h
  by_cases c:ds.length=ps.length
  ·exact c
  ·rw [if_neg c] at h; exact h.elim
 ·obtain ⟨ds,r,h⟩:=hsp;have c:ds.length=ps.length:=by
   unfold bG at h
   by_cases c:ds.length=ps.length
   ·exact c
   ·rw [if_neg c] at h; exact h.elim
  have ev:bG ps.length N.length body ds=outD (body (dH ds.length N.length ds)):=by unfold bG; rw [if_pos c,c]
  rw [ev] at h;refine ⟨_,(hb cdv A outer s H E hr).tb,H,dH ds.length N.length ds,Kp N r,fun z=>?_,fun pins fl s1 p=>?_,fun pins s2 e s1 I p=>?_⟩
  ·rw [z] at h; exact h
  ·cases fl with
   | next =>
    obtain ⟨δ',σ',H',q1,q2,q3,q4⟩:=p;rw [q1] at h;exact ⟨σ',H',q2,h .non H' q4.same Qu⟩
   | brk=>obtain ⟨δ',σ',H',q1,_⟩:=p; rw [q1] at h; exact h.elim
   | cont=>obtain ⟨δ',σ',H',q1,_⟩:=p; rw [q1] at h; exact h.elim
   | ret u =>
    obtain ⟨d,v,σ',H',q1,q2,q3,q4,q5,q6⟩:=p;rw [q1] at h;exact ⟨v,σ',H',q2,q5,h v H' q4 q6⟩
  ·obtain ⟨x,δ',a,C,σ',H',q1,rfl,q3,q4,q5,q6,dd,pay,q7⟩:=p;rw [q1] at h;refine QR q3 ?_ (h C H' dd q6 q5.same pay);refine q7.back (h0:=s.heap) (H0:=H) (H1:=H) (TK.refl H) q4 fun e n z o vs ho hd=>?_
   by_cases hf:e∈frs outer
   ·obtain ⟨_,o',ho',hd'⟩:=I.ok.funs.mem hf;have ho2:s.heap.get? e=some o':=ho';rw [ho] at ho2
    cases ho2
    exact hd' vs hd
   ·exact z o vs (I.base.keep e o ho n hf (by intro z; exact absurd z (by show e∉([]:List Addr); simp))) hd
end
theorem is' {K:Frag} {h₀:Heap} {mg:Str->Option Value} {x:Str} {C:Addr} {bmB:List Value} {newId:String} (X:K.In h₀) (hm:mg x=some (.ref C)) (q:excIn K C bmB newId=true):OwnCls x C bmB newId mg h₀:=by
 refine ⟨hm,?_⟩;unfold excIn at q
 split at q
 ·rename_i dd cd sl ho
  split at q
  ·rename_i C' bm k0 k1 k2 k3 n k5 hm hs;simp only [Bool.and_eq_true,beq_iff_eq,Bool.not_eq_true'] at q;obtain ⟨⟨⟨⟨⟨rfl,rfl⟩,hdel⟩,ht⟩,hok⟩,hni⟩:=q;obtain ⟨nm,bs,mro,ns,qn,hd,sn,sub,ab,col,del⟩:=cd;dsimp only at hm hdel hok hni;subst hm hdel;have hsl:sl = #[k0,k1,k2,k3,some (.builtin n),k5]:=by
    obtain ⟨l⟩:=sl;simp only at hs;rw [hs]
   subst hsl;exact ⟨bm,ns,nm,qn,bs,hd,sn,sub,ab,col,dd,k0,k1,k2,k3,k5,_,X _ _ ho,.of_isNs (isNs_of_in X hok),nsMap_none_of_in X hok hni,tail_of_in X ht⟩
  ·cases q
 ·cases q
noncomputable def gA (x:Str) (fs:DS->Res (List D)):DS->Out:=fun δ=>match fs δ with
 | .ok _=>.err ⟨x,none⟩ δ
 | .err y=>.err y δ
 | .stuck=>.stuck
section
variable {X:Cx} {e:Expr} {es:List Expr} {fs:DS->Res (List D)} {np cpos pos:Pos} {x:Str} {C:Addr} {B newId initId:String} {bmB:List Value}
theorem GP (hc:X.calm=true) (FB:ExcBaseFacts B newId initId bmB) (hx:nsIn X.K mainGlobals x=some (some (.ref C))) (q:excIn X.K C bmB newId=true) (hg:Gl X x) (hm:X.mg x=some (.ref C)) (ha:PAD X (e :: es) fs) (hsz:(e :: es).length<=100)
  (hdb:(x == ("__debug__" : Str))=false:=by decide) (he:starEach (e :: es) X.env=(false,eval e X.env) :: starEach es X.env:=by rfl) (hplain:(backTo cpos (starEach es X.env)).any (·.1)=false:=by rfl) (hlen:∀δ ds,fs δ=.ok ds->ds.length<=sizeLine) :
  PSD X (.Raise (some (.Call (.Name x np) (e :: es) [] cpos)) none pos) (gA x fs):=by
 intro pins s σ G H δ I R hs
 try dsimp only at hs ⊢
 have hs':fs δ≠.stuck:=fun z=>hs (by unfold gA; rw [z]);obtain ⟨tl,N,nm,qn,bs,hdct,sn,sub,ab,col,dd,k0,k1,k2,k3,k5,mN,hC,hN,hni,T⟩:=(is' I.ok.mod.kin hm q).obj;refine wpAny_Raise_call_subT (C:=C) (nm:=nm) (q:=qn) (N:=N) (bs:=bs) (bm:=tl) (hdct:=hdct) (sn:=sn) (sub:=sub) (ab:=ab) (col:=col) (dd:=dd) (k0:=k0) (k1:=k1) (k2:=k2) (k3:=k3) (k5:=k5)
  FB (mN:=mN) (T.hasType FB.hasBase) (I.ok.hd hc) (by rw [he]; show (false || (backTo cpos (starEach es X.env)).any (·.1))=false; rw [hplain]; rfl) hni (v5 I hg hm ⟨rfl,?_⟩ hdb)
 have ha':=fun {P:List Value->Shared->Prop} {E:Value->Shared->Prop} k kx=>PAD.use (pos:=cpos) (P:=P) (E:=E) ha I R hs' k kx;rw [he] at ha' ⊢;refine Calls.evalArgs_plain (ha' (fun ds us s1 vs H1 q1 I1 r1 e1 b1 p1=>⟨rfl,?_,I1.bk _ _ hC,hN.keeps I1.bk,T.keeps I1.bk,fun h' a hme=>?_⟩) fun e s1 p=>?_)
 ·rw [<- r1.length,p1.length]; exact hlen δ ds q1
 ·obtain ⟨t,ht,ht2,ht3⟩:=hme.there;have hn:H1 a=none:=by
   cases z:H1 a with
   | none=>rfl
   | some u =>
    obtain ⟨ob,q⟩:=obj_some (I1.hok a u z);rw [hme.new] at q; cases q
  refine ⟨⟨x,none⟩,δ,a,C,σ,H1,by unfold gA; rw [q1],rfl,I1.kept (t':=s1.toks) hme.keeps,e1.tk,R.mono e1,hx,?_⟩;refine ⟨none,rfl,b1 a (e1.free hn) (fun o vs ho=>by rw [hme.new] at ho; cases ho),hn,_,_,_,ht,⟨rfl,rfl⟩,rfl,rfl,.inl rfl⟩
 ·exact p.sx R fun x z=>by unfold gA; rw [z]
end
theorem _root_.L2.Inv.goes {X:Cx} {pins:List (Addr×Obj)} {σ:St} {H:Hp} {s:Shared} {M:Model} {A:Around} {E:Value->Shared->Prop} {Q:Unit->Shared->Prop} {i:Nat} {n:Str} {pos:Pos}
  (I:Inv X pins σ H s) (hN:X.N.Nodup) (hi:X.N[i]? = some n) (hk:X.env.scope.names.lookup n=some .local) (h:∀s',Inv X pins (σ.set i none) H s'->Q () s'):wpAny M A (do bindName X.env n .none; unbindBehindTheSuite X.env n pos) Q E s:=by
 obtain ⟨m,hn,hl⟩:=id I.loc;have hcls:(X.env.scope.kind == .class || (X.env.scope.kind == .module && X.env.locals != X.env.globals))=false:=by rw [I.ok.kind]; rfl
 have cne:=I.cne;refine wpAny_nameGoes_keeps hk hn hcls fun h' v hn' hs=>h _ ?_;obtain ⟨oL,_,_,hoL,_⟩:=id hn;have tracked:HOk X.prog X.w H h':=fun b ob e=>by
  refine (I.hok b ob e).stay (fun c w' hc q=>(hs.2 c ?_).trans q) (fun _ q=>q) fun _ _ q=>q
  rintro rfl
  rcases hc with rfl | hc
  ·rw [I.free] at e; cases e
  ·rw [I.free] at hc; cases hc
 refine ⟨I.ok,I.os,I.bare,⟨fun b o e n hb hx=>?_,fun b o e n hb hx=>?_,I.base.free,fun b o e hx=>?_,I.base.tups,I.base.frzs,I.base.tbls⟩,⟨_,hn',fun j y v' e1 e2 e3=>?_⟩,fun y c e=>?_,I.free,I.freeC,fun p hp=>?_,tracked,by simpa using I.len⟩
 ·exact (hs.2 b (Nat.ne_of_lt (Nat.lt_of_lt_of_le (Heap.lt_size e) I.ok.above))).trans (I.base.keep b o e n hb hx)
 ·obtain ⟨sl,e1⟩:=I.base.slot b o e n hb hx;exact ⟨sl,(hs.2 b (Nat.ne_of_lt (Nat.lt_of_lt_of_le (Heap.lt_size e) I.ok.above))).trans e1⟩
 ·obtain ⟨o',e1⟩:=I.base.there b o e hx;exact ⟨o',(hs.2 b (Nat.ne_of_lt (Nat.lt_of_lt_of_le (Heap.lt_size e) I.ok.above))).trans e1⟩
 ·by_cases hj:j=i
  ·subst hj;rw [List.getElem?_set] at e2
   split at e2
   ·split at e2 <;> cases e2
   ·rename_i z; exact absurd rfl z
  ·rw [List.getElem?_set_ne (Ne.symm hj)] at e2;obtain ⟨u',r',q⟩:=hl j y v' e1 e2 e3;refine ⟨u',r',?_⟩;rcases q with ⟨k,e⟩ | ⟨k,c,e,z⟩
   ·refine .inl ⟨k,?_⟩;have:y≠n:=fun e=>hj (Gd hN e1 (e ▸ hi));simp [this,e]
   ·exact .inr ⟨k,c,e,z.sameBut hs (cne y c e)⟩
 ·obtain ⟨w',z⟩:=I.cell y c e;exact ⟨w',z.sameBut hs (cne y c e)⟩
 ·obtain ⟨e,n,ne,nf,d⟩:=I.pin p hp;exact ⟨(hs.2 p.1 ne).trans e,n,ne,nf,d⟩
theorem RepSt.clear {K:Frag} {G H:Hp} {σ:St} {δ:DS} (R:RepSt K G H σ δ) (i:Nat):RepSt K G H (σ.set i none) (δ.set i none) where
 same:=R.same
 len:=by simpa using R.len
 at_:=fun j sv e=>by
  by_cases hj:i=j
  ·subst hj;rw [List.getElem?_set] at e
   split at e
   ·split at e <;> cases e
   ·rename_i z; exact absurd rfl z
  ·rw [List.getElem?_set_ne hj] at e;obtain ⟨u,e1,e2⟩:=R.at_ j sv e;exact ⟨u,by rw [List.getElem?_set_ne hj]; exact e1,e2⟩
 sep:=fun j k ds es u hjk e1 e2 e3=>by
  have n1:i≠j:=by
   rintro rfl
   rw [List.getElem?_set] at e1
   split at e1
   ·split at e1 <;> cases e1
   ·omega
  have n2:i≠k:=by
   rintro rfl
   rw [List.getElem?_set] at e2
   split at e2
   ·split at e2 <;> cases e2
   ·omega
  rw [List.getElem?_set_ne n1] at e1 e3;rw [List.getElem?_set_ne n2] at e2;rw [List.getElem?_set_ne n2];exact R.sep j k ds es u hjk e1 e2 e3
abbrev _root_.L2.Cx.marked (X:Cx) (a:Addr):Cx:={ X with A:=X.A.mark (some (.ref a)),calm:=false }
theorem _root_.L2.Inv.marked {X:Cx} {pins:List (Addr×Obj)} {σ:St} {H:Hp} {s:Shared} (I:Inv X pins σ H s) (a:Addr):Inv (X.marked a) pins σ H s :=
 ⟨⟨I.ok.mod,I.ok.kind,I.ok.glob,I.ok.blt,I.ok.above,I.ok.inj,I.ok.has,I.ok.cab,fun z=>(by cases z),I.ok.frames,I.ok.stk,I.ok.exf,I.ok.bs,I.ok.bsz,I.ok.noex,I.ok.exfs,I.ok.funs,I.ok.frf⟩,I.os,I.bare,I.base,I.loc,I.cell,I.free,I.freeC,I.pin,I.hok,I.len⟩
theorem _root_.L2.Inv.unmarked {X:Cx} {pins:List (Addr×Obj)} {σ:St} {H:Hp} {s:Shared} {a:Addr} (ok:X.Ok) (I:Inv (X.marked a) pins σ H s):Inv X pins σ H s :=
 ⟨ok,I.os,I.bare,I.base,I.loc,I.cell,I.free,I.freeC,I.pin,I.hok,I.len⟩
theorem _root_.L2.Inv.track {X:Cx} {pins:List (Addr×Obj)} {σ:St} {H:Hp} {s:Shared} {a:Addr} {o:HO} (I:Inv X pins σ H s) (hn:H a=none) (h0:∀ob,X.s₀.heap.get? a=some ob->X.H₀ a=none->a∈X.ex) (hl:a≠X.env.locals) (hc:∀x c,X.env.cells.lookup x=some c->c≠a) (hp:∀p∈X.pn ++ pins,p.1≠a)
  (new:ObjOk X.prog X.w (upd H a o) s.heap a o):Inv X pins σ (upd H a o) s:=by
 refine ⟨I.ok,I.os,I.bare,⟨I.base.keep,I.base.slot,fun b ob e n hx=>?_,I.base.there,fun b xs e=>?_,fun b ob u e=>?_,fun b ps e=>?_⟩,I.loc,I.cell,?_,fun x c e=>?_,fun p hpp=>?_,fun b u q=>?_,I.len⟩
 ·rw [as' (fun z=>?_)]
  ·exact I.base.free b ob e n hx
  ·subst z;exact hx (h0 ob e n)
 ·rw [as' (qG (I.base.tups b xs e) hn)]; exact I.base.tups b xs e
 ·rw [as' (qG (I.base.frzs b ob u e) hn)]; exact I.base.frzs b ob u e
 ·obtain ⟨more,q⟩:=I.base.tbls b ps e;exact ⟨more,by rw [as' (qG q hn)]; exact q⟩
 ·rw [as' (Ne.symm hl)]; exact I.free
 ·rw [as' (hc x c e)]; exact I.freeC x c e
 ·obtain ⟨e,n,ne,nf,d⟩:=I.pin p hpp;exact ⟨e,by rw [as' (hp p hpp)]; exact n,ne,nf,d⟩
 ·by_cases hb:b=a
  ·subst hb; rw [gW] at q; cases q; exact new
  ·rw [as' hb] at q;refine (I.hok b u q).stay (fun c v _ e=>e) (fun c z=>?_) fun c xs z=>?_
   ·rw [as' (qG z hn)]; exact z
   ·rw [as' (qG z hn)]; exact z
noncomputable def Exn.toD (x:Exn):D:=match x.pay with
 | none=>.exc x.cls
 | some (f,d)=>.excf x.cls f d
noncomputable def g8 (i:Nat) (sub:Str->Option Bool) (fb fsu:DS->Out):DS->Out:=fun δ=>match fb δ with
 | .err x δ'=>(match sub x.cls with
  | some true=>(match fsu (δ'.set i (some (.val x.toD))) with
   | .nxt δ2=>.nxt (δ2.set i none)
   | .ret d=>.ret d
   | _=>.stuck)
  | _=>.stuck)
 | o=>o
noncomputable def noObjs (h:Heap):Heap:={ h with objs:=#[] }
theorem Kq (h:Heap) (b:Addr):fj (noObjs h) b:=fun o vs e=>absurd (Heap.lt_size e) (Nat.not_lt_zero _)
section
variable {X:Cx} {body suite:List Stmt} {b₀:Stmt} {fb fsu:DS->Out} {sub:Str->Option Bool} {n c:Str} {C':Addr} {cp hpos pos:Pos}
theorem QS (i:Nat) (hcalm:X.calm=true) (hst:X.stack=X.env :: X.outer/\X.env.frame=some X.env.locals) (hN:X.N.Nodup) (hcn:Gl X c) (hcm:X.mg c=some (.ref C'))
  (hsub:∀x C,nsIn X.K mainGlobals x=some (some (.ref C))->sub x=some true->exmOne X.K (.ref C) (.ref C')=some true) (hb:PSDs X body fb) (hsu:∀a,PSDs (X.marked a) (b₀ :: suite) fsu)
  (hi:X.N[i]? = some n:=by rfl) (hk:X.env.scope.names.lookup n=some .local:=by rfl) (hdb:(c == ("__debug__" : Str))=false:=by decide) :
  PSD X (.Try body [.ExceptHandler (some (.Name c cp)) (some n) (b₀ :: suite) hpos] [] [] pos) (g8 i sub fb fsu):=by
 intro pins s σ G H δ I R hs;have hfb:fb δ≠.stuck:=fun z=>hs (by unfold g8; rw [z]);refine wpAny_Try_except (GD (fun pins I=>hb pins s σ G H δ I R hfb) I (fun fl s1 p b=>?_) fun e s1 p=>?_)
 ·cases fl with
  | next=>obtain ⟨δ',σ',H',q1,q2⟩:=p; exact wpAny_execs_nil ⟨δ',σ',H',by unfold g8; rw [q1],q2⟩
  | brk=>obtain ⟨δ',σ',H',q1,q2⟩:=p; exact ⟨δ',σ',H',by unfold g8; rw [q1],q2⟩
  | cont=>obtain ⟨δ',σ',H',q1,q2⟩:=p; exact ⟨δ',σ',H',by unfold g8; rw [q1],q2⟩
  | ret u=>obtain ⟨d,v,σ',H',q1,q2⟩:=p; exact ⟨d,v,σ',H',by unfold g8; rw [q1],q2⟩
 ·obtain ⟨x,δ',a,C,σ',H',q1,rfl,I1,tk1,R1,hC,dd,pay,fly⟩:=p;have hsx:sub x.cls=some true:=by
   cases z:sub x.cls with
   | none=>exact (hs (by unfold g8; rw [q1]; simp only [z])).elim
   | some k =>
    cases k with
    | true=>rfl
    | false=>exact (hs (by unfold g8; rw [q1]; simp only [z])).elim
  have ev:g8 i sub fb fsu δ=(match fsu (δ'.set i (some (.val x.toD))) with
   | .nxt δ2=>.nxt (δ2.set i none)
   | .ret d=>.ret d
   | _=>.stuck):=by unfold g8; rw [q1]; simp only [hsx]
  have hfs:fsu (δ'.set i (some (.val x.toD)))≠.stuck:=fun z=>hs (by rw [ev,z]);have flyE:Fly (noObjs s.heap) H' s1.heap a (.ref C,dd):=by
   obtain ⟨_,w2,oe,vs,a0,w3,w4,w5,w6,w7⟩:=fly;refine ⟨Kq _ _,w2,oe,vs,a0,w3,w4,w5,w6,?_⟩;rcases w7 with w7 | ⟨T,oT,ts,z1,z2,z3⟩
   ·exact .inl w7
   ·exact .inr ⟨T,oT,ts,z1,Kq _ _,z3⟩
  have own:∀b,fD s1.heap a b->(∀o,X.s₀.heap.get? b=some o->X.H₀ b=none->b∈X.ex)/\H' b=none/\(∃o vs,s1.heap.get? b=some o/\o.data=.fields vs)/\∀p∈X.pn ++ pins,p.1≠b:=fun b hx=>by
   obtain ⟨n1,n2,o1,vs1,g1,d1⟩:=fly.ex hx;refine ⟨fun o e n=>?_,n2,⟨o1,vs1,g1,d1⟩,fun p hp z=>?_⟩
   ·by_cases hxx:b∈X.ex
    ·exact hxx
    ·exfalso
     by_cases hf:b∈X.fs
     ·exact I1.fs_rec hf g1 d1
     ·have k1:=I1.base.keep b o e n hf hxx;have k0:=I.base.keep b o e n hf hxx;rw [g1] at k1; cases k1;exact n1 o1 vs1 k0 d1
   ·subst z;have k1:=(I1.pin p hp).1;have k0:=(I.pin p hp).1;rw [g1] at k1;rw [<- Option.some.inj k1] at k0;exact n1 o1 vs1 k0 d1
  have hfr:X.A.frames=some (X.env :: X.outer):=by rw [I.ok.frames,hst.1]
  have hfun:s1.heap.FunFrames X.base (X.env :: X.outer):=by have:=I1.stack; rw [hst.1] at this; exact this
  have hfs':(X.env :: X.outer).filterMap (·.frame)=frs X.stack:=by rw [hst.1]; rfl
  refine Ko (base:=X.base) hfr hfun hst.2 (Nat.zero_le _) (fun b hb=>I1.hok.fresh hb) flyE fun h2 k2 f2 new2=>?_;rw [hfs'] at k2;have J:=I1.kf (t':=s1.toks) k2 fun b hx=>by
   obtain ⟨w1,w2⟩:=own b hx;exact ⟨fun o vs e n _ hxx=>absurd (w1 o e n) hxx,w2⟩
  have own2:∀b,fD h2 a b->(∀o,X.s₀.heap.get? b=some o->X.H₀ b=none->b∈X.ex)/\H' b=none/\(∃o vs,h2.get? b=some o/\o.data=.fields vs)/\∀p∈X.pn ++ pins,p.1≠b:=fun b hx=>by
   obtain ⟨_,n2,n3⟩:=f2.ex hx;rcases new2 b hx with z | z
   ·subst z;obtain ⟨w1,_,_,w4⟩:=own b (.inl rfl);exact ⟨w1,n2,n3,w4⟩
   ·refine ⟨fun o e _=>absurd (Nat.lt_of_lt_of_le (Heap.lt_size e) (Nat.le_trans I1.sz z)) (Nat.lt_irrefl _),n2,n3,fun p hp w=>?_⟩;have:=Heap.lt_size (I1.pin p hp).1;rw [w] at this;exact absurd this (Nat.not_lt.mpr z)
  have exf2:=f2;obtain ⟨_,hHa,oe,vs,a0,T,oT,ts,ge,⟨ce,dde⟩,de,rest⟩:=exf2;have Jm:=J.marked a;refine wpAny_handleBy_cons (codeAny_handlers_test (v5 (X:=X.marked a) Jm hcn hcm ?_ hdb)) (by intro q; cases q);have LT:Looks (model X.prog X.w) h2 (typeOf (.ref a)) (.ref C):=by
   have ce:oe.cls=.ref C:=ce;rw [<- ce];exact (Looks.ld ge).andThen .now
  refine exm_one J.kIn LT (hsub x.cls C hC hsx) _ _ _ _ (fun _ _ e=>e) ?_;refine codeAny_handlers_suite_as ?_;refine Km (s:={ s1 with heap:=h2,toks:=s1.toks }) f2 fun h3 k3 k3' f3 in3=>?_
  have J3:Inv (X.marked a) pins σ' H' { s1 with heap:=h3,toks:=s1.toks }:=by
   have q:=L2.Inv.kf (X:=X.marked a) (s:={ s1 with heap:=h2,toks:=s1.toks }) (h':=h3) (t':=s1.toks) (a:=a) Jm ⟨fun b o hb _ hx=>k3 b o hb hx,fun b o hb _ hx=>⟨o.slots,k3 b o hb hx⟩,k3'⟩ fun b hx=>by
    obtain ⟨w1,w2⟩:=own2 b hx;exact ⟨fun o vs e n _ hxx=>absurd (w1 o e n) hxx,w2⟩
   exact q
  obtain ⟨_,_,oe3,vs3,_,_,_,_,ge3,⟨ce3,dde3⟩,de3,_⟩:=f3;have hHa':H' a=none:=hHa;have J4:=J3.track (o:=.ext (excAt a C dd)) hHa' (own a (.inl rfl)).1 (fun z=>by
    have g:h3.get? (X.marked a).env.locals=some oe3:=by rw [<- z]; exact ge3
    exact J3.locals_dict g de3) (fun y c' e z=>by
    obtain ⟨v,o,g,d⟩:=J3.cell y _ e;have g':h3.get? a=some o:=by rw [<- z]; exact g
    rw [ge3] at g'; cases g';rw [de3] at d; cases d) (own a (.inl rfl)).2.2.2
   ⟨⟨oe3,vs3,ge3,ce3,dde3,de3⟩,⟨oe3,ge3⟩,fun ha hb ⟨o,vs,g,q⟩ k=>⟨o,vs,k o g,q⟩⟩
  have sm:=iU hHa' (.ext (excAt a C dd));refine zf (X:=X.marked a) J4 hN hi (Or.inl hk) (v:=.ref a) (u:=.ref a) rfl (fun s4 I4=>?_) (Or.inr hk);have R4:RepSt X.K G (upd H' a (.ext (excAt a C dd))) (σ'.set i (some (.ref a))) (δ'.set i (some (.val x.toD))) :=
   (R1.mono sm).set i (by
    unfold Exn.toD;unfold Ef at pay
    cases z:x.pay with
    | none =>
     rw [z] at pay;have pay:dd=none:=pay;subst pay;rw [Rep]; exact ⟨a,C,rfl,hC,gW⟩
    | some fd =>
     obtain ⟨f,d⟩:=fd;rw [z] at pay;obtain ⟨dx,u,rfl,w1,w2⟩:=pay;rw [Rep]; exact ⟨a,C,dx,u,rfl,hC,gW,sm _ _ w1,w2.mono sm⟩)
  refine wpAny_mono (hsu a pins s4 _ G _ _ I4 R4 hfs) (fun fl s5 p=>?_) fun e s5 p=>?_
  ·cases fl with
   | next =>
    obtain ⟨δ2,σ2,H2,q2,I5,t5,R5⟩:=p;refine (I5.unmarked I.ok).goes hN hi hk fun s6 I6=>?_;exact ⟨δ2.set i none,_,H2,by rw [ev,q2],I6,tk1.trans (sm.tk.trans t5),R5.clear i⟩
   | brk=>obtain ⟨δ2,σ2,H2,q2,_⟩:=p; exact (hs (by rw [ev,q2])).elim
   | cont=>obtain ⟨δ2,σ2,H2,q2,_⟩:=p; exact (hs (by rw [ev,q2])).elim
   | ret u =>
    obtain ⟨d,v,σ2,H2,q2,I5,t5,g5,r5,p5⟩:=p;refine (I5.unmarked I.ok).goes hN hi hk fun s6 I6=>?_;exact ⟨d,v,_,H2,by rw [ev,q2],I6,tk1.trans (sm.tk.trans t5),g5,r5,p5⟩
  ·obtain ⟨y,δ2,_,_,_,_,q2,_⟩:=p;exact (hs (by rw [ev,q2])).elim
end
noncomputable def cC (X:Cx) (N':List Str) (scope:Scope) (cl:List (Str×Addr)) (C:Addr) (s:Shared) (H:Hp) (fp:List Addr):Cx where
 prog:=X.prog
 w:=X.w
 K:=X.K
 mg:=X.mg
 base:=X.base
 A:=X.A
 N:=N'
 s₀:=s
 H₀:=H
 env:=compEnvC scope cl C X.env
 outer:=X.stack
 stack:=X.stack
 ex:=fp
 fn:=fun _=>false
 calm:=X.calm
 pn:=[]
 xe:=fun _ _=>False
section
variable {X:Cx} {N':List Str} {scope:Scope} {cl:List (Str×Addr)} {C:Addr} {s:Shared} {H:Hp} {fp:List Addr} {pins:List (Addr×Obj)} {σ:St}
theorem QT (I:Inv X pins σ H s) (hk:scope.kind=.function) (hC:s.heap.objs.size<=C) (hc:∀x c,cl.lookup x=some c->X.env.cells.lookup x=some c)
  (has:∀x,((relabel scope X.env).names.lookup x=some .cell\/(relabel scope X.env).names.lookup x=some .free)->∃c,cl.lookup x=some c) (hf:∀b∈fp,gZ X pins H b/\b < s.heap.objs.size):(cC X N' scope cl C s H fp).Ok where
 mod:=I.ok.mod
 kind:=hk
 glob:=I.ok.glob
 blt:=I.ok.blt
 above:=hC
 inj:=fun x y c h1 h2=>I.ok.inj x y c (hc x c h1) (hc y c h2)
 has:=has
 cab:=fun x c h=>by cases h
 hd:=I.ok.hd
 frames:=I.ok.frames
 stk:=.inl rfl
 exf:=fun b hb=>⟨Nat.ne_of_lt (Nat.lt_of_lt_of_le (hf b hb).2 hC),fun x c h=>(hf b hb).1.2.2.2.2.1 x c (hc x c h)⟩
 bs:=I.bs
 bsz:=Nat.le_trans I.ok.bsz I.sz
 noex:=fun b o e hb=>by
  obtain ⟨_,h1,h2,h3,_⟩:=(hf b hb).1;rcases h3 with z | z
  ·exact I.ok.noex b o e z
  ·exact absurd (Nat.lt_of_lt_of_le (Heap.lt_size e) (Nat.le_trans I.ok.bsz z)) (Nat.lt_irrefl _)
 exfs:=fun b hb z=>by
  obtain ⟨_,h1,h2,_⟩:=(hf b hb).1;rcases mem_cons.mp (I.stkSub b z) with w | w
  ·exact h1 w
  ·exact h2 w
 funs:=I.stack
 frf:=I.stkFree
end
noncomputable def dj (K:Frag) (J:It) (H:Hp) (ds:List D):Prop :=
 ∀H',Same H H'->(∀i d,ds[i]? = some d->J.go i H'/\∀x H'',J.yld i H' x H''->Same H' H''/\Rep K H'' d x)/\J.stop ds.length H'
noncomputable def wC (X:Cx) (pins:List (Addr×Obj)) (σ:St) (H:Hp) (tg:Expr) (r:Res (List D)) (itv:Value) (s2:Shared):Prop :=
 ∃(ds:List D) (it:Addr) (fp:List Addr) (tn:Nat->Heap->Prop) (J:It) (H':Hp),r=.ok ds/\itv=.ref it/\Inv X pins σ H' s2/\Turn X.prog X.w X.K tg J fp it tn/\tn 0 s2.heap/\(∀b∈fp,gZ X pins H' b)/\Same H H'/\dj X.K J H' ds
noncomputable def PID (X:Cx) (tg iter:Expr) (f:DS->Res (List D)):Prop :=
 ∀(pins:List (Addr×Obj)) (s:Shared) (σ:St) (G H:Hp) (δ:DS),Inv X pins σ H s->RepSt X.K G H σ δ->f δ≠.stuck ->
  wpAny (model X.prog X.w) X.A (eval iter X.env) (fun v s1=>wpAny (model X.prog X.w) X.A (pyIter v) (wC X pins σ H tg (f δ)) (XPost X pins σ H s.heap (f δ)) s1) (XPost X pins σ H s.heap (f δ)) s
noncomputable def g_ (x:Str):List D:=x.cps.toList.map fun c=>.str ⟨#[c]⟩
noncomputable def GQ (x:Str):It :=
 ⟨fun i _=>i < x.cps.size,fun i H v H'=>H'=H/\∃c,x.cps[i]? = some c/\v=.str ⟨#[c]⟩,fun i _=>x.cps.size<=i⟩
theorem QV {P:Program} {w:World} {K:Frag} {tg:Expr} (x:Str) (t:Tok) (it:Addr):Turn P w K tg (GQ x) [it] it (fun i h=>h.IsStrIter it "str_ascii_iterator" x t i) where
 mem:=by simp
 obj:=fun i h st b hb=>by
  have e:b=it:=by simpa using hb
  subst e;obtain ⟨o,e,c,d⟩:=st;exact ⟨o,e,fun v z=>by rw [d] at z; cases z⟩
 keep:=fun i h h' st k=>by
  obtain ⟨o,e,c,d⟩:=st;exact ⟨o,k it (by simp) o e,c,d⟩
 item:=by
  intro X hP hw hK hc i pins s σ H E I hf st hg;subst hP hw hK;have hx:x.cps[i]? = some x.cps[i]:=Array.getElem?_eq_getElem hg;obtain ⟨f0,f1,f2,f3,f4,f5⟩:=hf it (by simp);refine wpAny_pyNext_ascii_item st hx fun h' st' sb=>?_;have I1:Inv X pins σ H { s with heap:=h',toks:=s.toks + 1 }:=I.turned (t':=s.toks + 1) (fun b o hb e=>(sb.2 b hb).trans e) f0 f1 f3 f4 f5
  obtain ⟨o,e,c,d⟩:=id st';exact ⟨_,rfl,Ea (s:={ s with heap:=h',toks:=s.toks + 1 }) e c d (by decide) ⟨.str ⟨#[x.cps[i]]⟩,H,I1,⟨_,rfl⟩,⟨rfl,_,hx,rfl⟩,st',fun b hb=>(hf b hb).1⟩⟩
 done:=by
  intro X hP hw hK hc i pins s σ H E I hf st hg;subst hP hw hK;obtain ⟨f0,f1,f2,f3,f4,f5⟩:=hf it (by simp);exact wpAny_pyNext_ascii_end (I.ok.hd hc) st (Array.getElem?_eq_none hg) fun h' eb=>⟨rfl,I.turned (t':=s.toks) (fun b o hb e=>eb b o hb e) f0 f1 f3 f4 f5⟩
 self:=fun _ _ _ _ _ st h=>wpAny_pyIter_striter_ascii st h
theorem hb' {K:Frag} {H:Hp} {x:Str}:dj K (GQ x) H (g_ x):=by
 intro H' e;refine ⟨fun i d hd=>?_,by unfold g_; simp [GQ]⟩;unfold g_ at hd;rw [List.getElem?_map] at hd
 cases z:x.cps.toList[i]? with
 | none=>rw [z] at hd; cases hd
 | some c =>
  rw [z] at hd
  cases hd
  have hl:i < x.cps.size:=by
   have:=List.getElem?_eq_some_iff.mp z;obtain ⟨q,_⟩:=this;simpa using q
  have hc:x.cps[i]? = some c:=by simpa using z
  refine ⟨hl,fun v H'' y=>?_⟩;obtain ⟨rfl,c',h1,rfl⟩:=y;rw [hc] at h1
  cases h1
  exact ⟨Same.refl _,by rw [Rep]⟩
noncomputable def aM:D->Res (List D)
 | .tup ds=>.ok ds
 | .lst ds=>.ok ds
 | .str x=>if x.cps.all (· < 128)=true then .ok (g_ x) else .stuck
 | _=>.stuck
theorem QW {K:Frag} {H:Hp} {a:Addr} {xs:List V} {ds:List D} {X:Cx} {pins:List (Addr×Obj)} {σ:St} {s:Shared} (hq:SqL K H a xs) (r:Reps K H ds xs):dj K (JD K a) H ds:=by
 intro H' e;have hq':=e.seq hq;have r':=r.mono e;refine ⟨fun i d hd=>?_,xs,hq',by rw [r.length]; exact Nat.le_refl _⟩;obtain ⟨v,e1,e2⟩:=r'.get hd;refine ⟨⟨xs,v,hq',e1⟩,fun x H'' y=>?_⟩;obtain ⟨rfl,y⟩:=y;have:=y xs hq';rw [e1] at this
 cases this
 exact ⟨Same.refl _,e2⟩
theorem hg' {K:Frag} {H:Hp} {a:Addr} {xs:List V} {ds:List D} (hq:SqT K H a xs) (r:Reps K H ds xs):dj K (JF K a) H ds:=by
 intro H' e;have hq':=Ed e hq;have r':=r.mono e;refine ⟨fun i d hd=>?_,xs,hq',by rw [r.length]; exact Nat.le_refl _⟩;obtain ⟨v,e1,e2⟩:=r'.get hd;refine ⟨⟨xs,v,hq',e1⟩,fun x H'' y=>?_⟩;obtain ⟨rfl,y⟩:=y;have:=y xs hq';rw [e1] at this
 cases this
 exact ⟨Same.refl _,e2⟩
theorem lD {X:Cx} {tg iter:Expr} {f:DS->Res D} (h:PD X iter f):PID X tg iter (fun δ=>(f δ).bind aM):=by
 intro pins s σ G H δ I R hs
 try dsimp only at hs ⊢
 refine h.use I R (gq hs) (fun d u s1 v H1 q I1 r1 e1 b1 p1=>?_) fun e s1 q=>q.same fun x z=>gY z;have h2:=iD hs q
 cases d with
 | lst ds =>
  obtain ⟨a,xs,rfl,hq,r⟩:=fC p1
  cases r1
  obtain ⟨its,rv,p,hz⟩:=I1.list hq;refine wpAny_pyIter_list p.isList ?_;refine ⟨ds,s1.heap.objs.size,[s1.heap.objs.size],_,_,H1,by rw [q]; rfl,rfl,I1.kept (t':=s1.toks) fun b o e=>Heap.get?_push_of_some _ e,OJ a _,⟨_,Heap.get?_push_size _ rfl,rfl,rfl⟩,fun b hb=>?_,e1,QW (X:=X) (pins:=pins) (σ:=σ) (s:=s1) hq r⟩;have e:b=s1.heap.objs.size:=by simpa using hb
  subst e;exact I1.fpOk (Nat.le_refl _) (I1.hok.fresh (Nat.le_refl _))
 | tup ds =>
  obtain ⟨a,xs,rfl,hq,r⟩:=fB p1
  cases r1
  obtain ⟨its,rv,p,hz⟩:=I1.tuple hq;refine wpAny_pyIter_tuple p ?_;refine ⟨ds,s1.heap.objs.size,[s1.heap.objs.size],_,_,H1,by rw [q]; rfl,rfl,I1.kept (t':=s1.toks) fun b o e=>Heap.get?_push_of_some _ e,O1 a _,⟨_,Heap.get?_push_size _ rfl,rfl,rfl⟩,fun b hb=>?_,e1,hg' hq r⟩;have e:b=s1.heap.objs.size:=by simpa using hb
  subst e;exact I1.fpOk (Nat.le_refl _) (I1.hok.fresh (Nat.le_refl _))
 | str x =>
  rw [nH p1] at r1;obtain ⟨t,rfl⟩:=r1;have ha:x.cps.all (· < 128)=true:=by
   cases z:x.cps.all (· < 128) with
   | true=>rfl
   | false =>
    have h3:(if (x.cps.all fun c=>decide (c < 128))=true then Res.ok (g_ x) else Res.stuck)≠.stuck:=h2
    rw [z] at h3; exact (h3 rfl).elim
  refine wpAny_pyIter_ascii ha ?_;refine ⟨g_ x,s1.heap.objs.size,[s1.heap.objs.size],_,_,H1,by rw [q]; unfold aM; rw [Res.bind_ok]; simp only [ha,if_true],rfl,I1.kept (t':=s1.toks) fun b o e=>Heap.get?_push_of_some _ e,QV x t _,⟨_,Heap.get?_push_size _ rfl,rfl,rfl⟩,fun b hb=>?_,e1,hb'⟩;have e:b=s1.heap.objs.size:=by simpa using hb
  subst e;exact I1.fpOk (Nat.le_refl _) (I1.hok.fresh (Nat.le_refl _))
 | _=>exact (h2 rfl).elim
noncomputable def xu:Option SV->Option SV
 | some sv=>some (.arg sv.view)
 | none=>none
noncomputable def bV (m:Nat) (fr:List Nat) (δ:DS):DS:=List.replicate m none ++ fr.map fun i=>(δ[i]?).elim none xu
noncomputable def mapR (g:D->Res D):List D->Res (List D)
 | []=>.ok []
 | d :: ds=>(g d).bind fun x=>(mapR g ds).bind fun xs=>.ok (x :: xs)
noncomputable def d_ (t:gb) (fe:DS->Res D) (δ':DS) (d:D):Res D:=match t d δ' with
 | some δ1=>(match fe δ1 with | .ok x=>.ok x | _=>.stuck)
 | none=>.stuck
noncomputable def aO (m:Nat) (fr:List Nat) (t:gb) (fe:DS->Res D) (fi:DS->Res (List D)):DS->Res D:=fun δ=>(fi δ).bind fun ds=>gw (mapR (d_ t fe (bV m fr δ)) ds)
noncomputable def fG (m:Nat) (t:gb):Prop:=∀d δ δ1,t d δ=some δ1->δ1.length=δ.length/\∀i,m<=i->δ1[i]? = δ[i]?
theorem RepSt.weak {K:Frag} {G H:Hp} {σ:St} {δ δ1:DS} {m:Nat} (R:RepSt K G H σ δ1) (hl:δ1.length=δ.length) (hm:∀i,m<=i->δ1[i]? = δ[i]?) (hn:∀i,i < m->∀sv,δ[i]?≠some (some sv)):RepSt K G H σ δ where
 same:=R.same
 len:=R.len.trans hl
 at_:=fun i sv e=>by
  by_cases h:i < m
  ·exact (hn i h sv e).elim
  ·exact R.at_ i sv (by rw [hm i (by omega)]; exact e)
 sep:=fun i j ds es v hij e1 e2 e3=>by
  by_cases h1:i < m
  ·exact (hn i h1 _ e1).elim
  ·by_cases h2:j < m
   ·exact (hn j h2 _ e2).elim
   ·exact R.sep i j ds es v hij (by rw [hm i (by omega)]; exact e1) (by rw [hm j (by omega)]; exact e2) e3
theorem GR {m:Nat} {fr:List Nat} {δ:DS} (i:Nat) (h:i < m) (sv:SV):(bV m fr δ)[i]?≠some (some sv):=by
 unfold bV;rw [List.getElem?_append_left (by simpa using h),List.getElem?_replicate,if_pos h];intro z; cases z
noncomputable def jK (m:Nat) (fr:List Nat) (σ:St):St:=List.replicate m none ++ fr.map fun i=>(σ[i]?).elim none id
theorem QX {K:Frag} {G H:Hp} {σ:St} {δ:DS} (m:Nat) (fr:List Nat) (R:RepSt K G H σ δ):RepSt K H H (jK m fr σ) (bV m fr δ) where
 same:=Same.refl H
 len:=by simp [jK,bV]
 at_:=fun i sv e=>by
  by_cases h:i < m
  ·exact (GR i h sv e).elim
  ·unfold bV at e;unfold jK;rw [List.getElem?_append_right (by simpa using h),List.getElem?_map] at e;rw [List.getElem?_append_right (by simpa using h),List.getElem?_map];simp only [length_replicate] at e ⊢
   cases q:fr[i - m]? with
   | none=>rw [q] at e; cases e
   | some k =>
    rw [q] at e;simp only [Option.map_some,Option.some.injEq] at e
    cases q2:δ[k]? with
    | none=>rw [q2] at e; cases e
    | some o =>
     rw [q2] at e
     cases o with
     | none=>cases e
     | some sv' =>
      simp only [Option.elim_some,xu,Option.some.injEq] at e;subst e;obtain ⟨v,e1,e2⟩:=R.view q2;exact ⟨v,by simp [e1],e2⟩
 sep:=fun i j ds es v hij e1 e2 e3=>by
  exfalso
  by_cases h:i < m
  ·exact (GR i h _ e1).elim
  ·unfold bV at e1;rw [List.getElem?_append_right (by simpa using h),List.getElem?_map] at e1;simp only [length_replicate] at e1
   cases q:fr[i - m]? with
   | none=>rw [q] at e1; cases e1
   | some k =>
    rw [q] at e1;simp only [Option.map_some,Option.some.injEq] at e1
    cases q2:δ[k]? with
    | none=>rw [q2] at e1; cases e1
    | some o =>
     rw [q2] at e1
     cases o with
     | none=>cases e1
     | some sv'=>simp [xu] at e1
theorem ev' {g:D->Res D}:∀{ds rs:List D},mapR g ds=.ok rs->rs.length=ds.length
 | [],rs,h=>by simp only [mapR,Res.ok.injEq] at h; subst h; rfl
 | d :: ds,rs,h=>by
  simp only [mapR] at h
  cases q:g d with
  | stuck=>rw [q] at h; cases h
  | err x=>rw [q] at h; cases h
  | ok x =>
   rw [q,Res.bind_ok] at h
   cases q2:mapR g ds with
   | stuck=>rw [q2] at h; cases h
   | err x=>rw [q2] at h; cases h
   | ok xs =>
    rw [q2,Res.bind_ok] at h
    cases h
    simp [ev' q2]
theorem Kr {g:D->Res D}:∀{ds rs:List D} {i:Nat} {d:D},mapR g ds=.ok rs->ds[i]? = some d->∃r,g d=.ok r/\rs[i]? = some r
 | [],rs,i,d,h,e=>by simp at e
 | d' :: ds,rs,i,d,h,e=>by
  simp only [mapR] at h
  cases q:g d' with
  | stuck=>rw [q] at h; cases h
  | err x=>rw [q] at h; cases h
  | ok x =>
   rw [q,Res.bind_ok] at h
   cases q2:mapR g ds with
   | stuck=>rw [q2] at h; cases h
   | err x=>rw [q2] at h; cases h
   | ok xs =>
    rw [q2,Res.bind_ok] at h
    cases h
    cases i with
    | zero=>simp at e; subst e; exact ⟨x,q,by simp⟩
    | succ i =>
     simp at e;obtain ⟨r,e1,e2⟩:=Kr q2 e;exact ⟨r,e1,by simpa using e2⟩
theorem GX {g:D->Res D} (hg:∀d,aX (g d)):∀ds,aX (mapR g ds)
 | []=>eO
 | d :: ds=>by
  intro x h;simp only [mapR] at h
  cases q:g d with
  | stuck=>rw [q] at h; cases h
  | err y=>exact hg d y q
  | ok y =>
   rw [q,Res.bind_ok] at h
   cases q2:mapR g ds with
   | stuck=>rw [q2] at h; cases h
   | err z=>exact GX hg ds z q2
   | ok xs=>rw [q2,Res.bind_ok] at h; cases h
theorem lN' {t:gb} {fe:DS->Res D} {δ':DS} (d:D):aX (d_ t fe δ' d):=by
 intro x h;unfold d_ at h
 split at h
 ·split at h <;> cases h
 ·cases h
noncomputable def wD (cs:List Expr) (env:Env):Sem Bool:=match cs with
 | c :: _=>isTrue c env (eval c env)
 | []=>pure true
theorem QZ (elt target iter:Expr) (cs:List Expr) (scope:Scope) (pos:Pos) (it acc:Value) (env:Env) (hcs:cs.length<=1) :
  compTurn (.ListComp elt [⟨target,iter,cs,0⟩] scope pos) 0 it acc env=(standAt iter.pos >>= fun _=>pyNext it >>= fun r=>match r with
   | none=>pure (.done .next)
   | some v=>letOwnedTupleGo target it v >>= fun _=>assign target env v >>= fun _ =>
    wD cs env >>= fun ok=>(if ok=true then (eval elt env >>= fun x=>call (.builtin "list.append") [acc,x] >>= fun _=>pure ()) else pure ()) >>= fun _ =>
     again (.compLoop (.ListComp elt [⟨target,iter,cs,0⟩] scope pos) 0 it acc env)):=by
 match cs,hcs with
 | [],_=>rfl
 | [c],_ =>
  rw [compTurn_list];simp only [forIn_cons,forIn_nil,if_true,bind_assoc,pure_bind]
  congr 1
  funext _
  congr 1
  funext r
  cases r with
  | none=>rfl
  | some v =>
   dsimp only
   congr 1
   funext _
   congr 1
   funext _
   congr 1
   funext ok
   cases ok with
   | false=>rfl
   | true=>simp only [if_true,bind_assoc,pure_bind]
noncomputable def gC (t:gb) (fc:DS->Res Bool) (fe:DS->Res D) (δ':DS) (d:D):Res D:=match t d δ' with
 | some δ1=>(match fc δ1 with
  | .ok true=>(match fe δ1 with | .ok x=>.ok (.tup [x]) | _=>.stuck)
  | .ok false=>.ok (.tup [])
  | _=>.stuck)
 | none=>.stuck
noncomputable def unI:D->List D
 | .tup xs=>xs
 | _=>[]
noncomputable def ik (t:gb) (fc:DS->Res Bool) (fe:DS->Res D) (δ':DS) (ds:List D):Res D:=if ds.length<=sizeLine then (mapR (gC t fc fe δ') ds).bind (fun rs=>Res.ok (D.lst (rs.flatMap unI))) else .stuck
noncomputable def iu (m:Nat) (fr:List Nat) (t:gb) (fc:DS->Res Bool) (fe:DS->Res D) (fi:DS->Res (List D)):DS->Res D:=fun δ=>(fi δ).bind (ik t fc fe (bV m fr δ))
theorem it' {t:gb} {fc:DS->Res Bool} {fe:DS->Res D} {δ':DS} {d r:D} (h:gC t fc fe δ' d=.ok r):∃δ1,t d δ'=some δ1/\((∃x,fc δ1=.ok true/\fe δ1=.ok x/\r=.tup [x])\/(fc δ1=.ok false/\r=.tup [])):=by
 unfold gC at h
 split at h
 ·rename_i δ1 e
  split at h
  ·rename_i q
   split at h
   ·rename_i x q2
    cases h
    exact ⟨δ1,e,.inl ⟨x,q,q2,rfl⟩⟩
   ·cases h
  ·rename_i q
   cases h
   exact ⟨δ1,e,.inr ⟨q,rfl⟩⟩
  ·cases h
 ·cases h
theorem Q0 {t:gb} {fc:DS->Res Bool} {fe:DS->Res D} {δ':DS} (d:D):aX (gC t fc fe δ' d):=by
 intro x h;unfold gC at h
 split at h
 ·split at h
  ·split at h <;> cases h
  ·cases h
  ·cases h
 ·cases h
theorem Ks {t:gb} {fc:DS->Res Bool} {fe:DS->Res D} {δ':DS}:∀{ds rs:List D},mapR (gC t fc fe δ') ds=.ok rs->(rs.flatMap unI).length<=ds.length
 | [],rs,h=>by simp only [mapR,Res.ok.injEq] at h; subst h; exact Nat.le_refl _
 | d :: ds,rs,h=>by
  simp only [mapR] at h
  cases q:gC t fc fe δ' d with
  | stuck=>rw [q] at h; cases h
  | err x=>rw [q] at h; cases h
  | ok x =>
   rw [q,Res.bind_ok] at h
   cases q2:mapR (gC t fc fe δ') ds with
   | stuck=>rw [q2] at h; cases h
   | err x=>rw [q2] at h; cases h
   | ok xs =>
    rw [q2,Res.bind_ok] at h
    cases h
    have ih:=Ks q2;obtain ⟨δ1,_,w⟩:=it' q;have hx:(unI x).length<=1:=by rcases w with ⟨y,_,_,rfl⟩ | ⟨_,rfl⟩ <;> simp [unI]
    rw [flatMap_cons,length_append,length_cons];omega
noncomputable def Ku (X:Cx) (cs:List Expr) (f:DS->Res Bool):Prop :=
 ∀(pins:List (Addr×Obj)) (s:Shared) (σ:St) (G H:Hp) (δ:DS),Inv X pins σ H s->RepSt X.K G H σ δ->f δ≠.stuck ->
  wpAny (model X.prog X.w) X.A (wD cs X.env) (o9 X pins σ H (f δ)) (XPost X pins σ H s.heap (f δ)) s
section
variable {X:Cx} {m:Nat} {fr:List Nat} {N':List Str} {scope:Scope} {cl:List (Str×Addr)} {tg iter elt:Expr} {cs:List Expr} {pos:Pos} {t:gb} {fc:DS->Res Bool} {fe:DS->Res D} {fi:DS->Res (List D)}
theorem hh' {C:Addr} {s3:Shared} {H2:Hp} {fp:List Addr} {it:Addr} {tn:Nat->Heap->Prop} {J:It} {ds rs:List D} {δ':DS} {acc:Addr} {RR:Result->Shared->Prop} (hcalm:X.calm=true)
  (T:Turn X.prog X.w X.K tg J fp it tn) (Y:dj X.K J H2 ds) (hR:mapR (gC t fc fe δ') ds=.ok rs) (hz:ds.length<=sizeLine) (hkt:fG m t) (hlow:∀i,i < m->∀sv,δ'[i]?≠some (some sv))
  (ht:PGD (cC X N' scope cl C s3 H2 (acc :: fp)) tg t) (hcs:cs.length<=1) (hc:Ku (cC X N' scope cl C s3 H2 (acc :: fp)) cs fc) (he:PD (cC X N' scope cl C s3 H2 (acc :: fp)) elt fe)
  (hacc:acc∉fp) (hfp:∀b∈acc :: fp,b≠C/\b∉frs X.stack/\∀x c,cl.lookup x=some c->c≠b)
  (fin:∀s' σ' H' ys its,Inv (cC X N' scope cl C s3 H2 (acc :: fp)) [] σ' H' s'->Same H2 H'->H' acc=none->(∀b∈fp,H' b=none)->s'.heap.PlainList acc its->Vals ys its.toList->Reps X.K H' (rs.flatMap unI) ys->RR (.ok .next) s')
  {s4:Shared} {σ0:St} {its0:Array Value} (I4:Inv (cC X N' scope cl C s3 H2 (acc :: fp)) [] σ0 H2 s4) (R4:RepSt X.K H2 H2 σ0 δ') (st4:tn 0 s4.heap) (f4:∀b∈acc :: fp,H2 b=none) (p4:s4.heap.PlainList acc #[]) :
  codeAny (model X.prog X.w) X.A (.compLoop (.ListComp elt [⟨tg,iter,cs,0⟩] scope pos) 0 (.ref it) (.ref acc) (compEnvC scope cl C X.env)) RR s4:=by
 let X':=cC X N' scope cl C s3 H2 (acc :: fp)
 have fpok:∀{H':Hp} {pn:List (Addr×Obj)},(∀b∈fp,H' b=none)->(∀b∈fp,∀p∈pn,p.1≠b)->∀b∈fp,gZ X' pn H' b:=fun hn hp b hb =>
  ⟨hn b hb,(hfp b (mem_cons_of_mem _ hb)).1,(hfp b (mem_cons_of_mem _ hb)).2.1,.inl (mem_cons_of_mem _ hb),(hfp b (mem_cons_of_mem _ hb)).2.2,fun p hpp=>hp b hb p (by simpa [X',cC] using hpp)⟩
 refine codeAny_loop rfl (fun n s=>∃i σ' H' ys its,n=ds.length - i/\i<=ds.length/\Inv X' [] σ' H' s/\Same H2 H'/\RepSt X.K H2 H' σ' δ'/\tn i s.heap/\H' acc=none/\(∀b∈fp,H' b=none)/\s.heap.PlainList acc its/\Vals ys its.toList/\Reps X.K H' ((rs.take i).flatMap unI) ys/\ys.length<=i) (fun n s hI=>?_) ds.length
  ⟨0,σ0,H2,[],#[],by simp,Nat.zero_le _,I4,Same.refl _,R4,st4,f4 acc (by simp),fun b hb=>f4 b (mem_cons_of_mem _ hb),p4,.nil,by simpa using Reps.nil,Nat.le_refl _⟩
 obtain ⟨i,σ1,H1,ys,its,rfl,hi,I1,e1,R1,st1,ha1,fr1,p1,v1,r1,hyl⟩:=hI;show wpAny _ _ ((compTurn (.ListComp elt [⟨tg,iter,cs,0⟩] scope pos) 0 (.ref it) (.ref acc) (compEnvC scope cl C X.env)).onRaise (fun x=>do noteFrame x (compEnvC scope cl C X.env); theTreesLotGoes x)) _ _ s
 refine wpAny_noted ?_;rw [QZ _ _ _ _ _ _ _ _ _ hcs];refine wpAny_bind (wpAny_standAt (wpAny_bind ?_));have pk:∀{b:Addr} {o:Obj},True:=trivial
 by_cases hlt:i < ds.length
 ·obtain ⟨d,hd⟩:∃d,ds[i]? = some d:=⟨ds[i],by simp [hlt]⟩;obtain ⟨go,yl⟩:=(Y H1 e1).1 i d hd;obtain ⟨r,hg,hr⟩:=Kr hR hd;obtain ⟨δ1,ht1,hf1⟩:=it' hg;obtain ⟨na,oa⟩:=p1;have pin1:Inv X' [(acc,({ cls:=.type "list",data:=.seq its na }:Obj))] σ1 H1 s:=I1.pins_of fun p hp=>by
   have:p=(acc,({ cls:=.type "list",data:=.seq its na }:Obj)):=by simpa using hp
   subst this;exact ⟨oa,ha1,(hfp acc (by simp)).1,(hfp acc (by simp)).2.1,fun v z=>(by cases z)⟩
  refine wpAny_mono (T.item X' rfl rfl rfl hcalm i _ s σ1 H1 _ pin1 (fpok fr1 fun b hb p hp z=>by
   have:p=(acc,({ cls:=.type "list",data:=.seq its na }:Obj)):=by simpa using hp
   subst this; exact hacc (by rw [show acc=b from z]; exact hb)) st1 go) (fun rv s5 ⟨u,hrv,h5⟩=>?_) fun _ _ z=>z
  subst hrv;refine wpAny_bind (wpAny_mono h5 (fun _ s6 ⟨x,H6,I6,rx,y6,st6,fr6⟩=>?_) fun _ _ z=>z);obtain ⟨e6,px⟩:=yl x H6 y6;have I6':=I6.pinned (fpok fr6 fun b hb p hp z=>by
   have:p=(acc,({ cls:=.type "list",data:=.seq its na }:Obj)):=by simpa using hp
   subst this; exact hacc (by rw [show acc=b from z]; exact hb)) (T.obj _ _ st6)
  have R6:=R1.mono e6;refine wpAny_bind (wpAny_mono (ht _ _ s6 σ1 H2 H6 δ' δ1 d x u I6' rx R6 px ht1) (fun _ s7 ⟨σ7,I7,R7⟩=>?_) fun _ _ z=>z);obtain ⟨hl1,hm1⟩:=hkt d δ' δ1 ht1;have R7':RepSt X.K H2 H6 σ7 δ':=R7.weak hl1 hm1 hlow;have e9:(rs.take (i + 1)).flatMap unI=(rs.take i).flatMap unI ++ unI r:=by rw [take_succ,hr]; simp
  have hfc:fc δ1≠.stuck:=by rcases hf1 with ⟨x,q,_⟩ | ⟨q,_⟩ <;> (rw [q]; intro z; cases z)
  have hfe:∀y,fc δ1≠.err y:=by rcases hf1 with ⟨x,q,_⟩ | ⟨q,_⟩ <;> (intro y; rw [q]; intro z; cases z)
  refine wpAny_bind (Gx (f:=fc) (δ:=δ1) (fun pins I=>hc pins _ _ _ _ _ I R7 hfc) I7 (fun k sk Hk qk Ik ek bk=>?_) fun e s8 q=>by obtain ⟨y,_,_,_,z,_⟩:=q; exact (hfe y z).elim);have oak:=(Ik.pin (acc,({ cls:=.type "list",data:=.seq its na }:Obj)) (by simp)).1;have hak:=(Ik.pin (acc,({ cls:=.type "list",data:=.seq its na }:Obj)) (by simp)).2.1;have fpk:∀b∈fp,∀o,s6.heap.get? b=some o->sk.heap.get? b=some o/\Hk b=none:=fun b hb o e=>by
   have q:=Ik.pin (b,o) (mem_append_right _ (mem_append_right _ (cn' hb e)));exact ⟨q.1,q.2.1⟩
  cases k with
  | false =>
   have hu:unI r=[]:=by
    rcases hf1 with ⟨x,q,_⟩ | ⟨q,rfl⟩
    ·rw [q] at qk; cases qk
    ·rfl
   have Ik':Inv X' [] σ7 Hk sk:=Ik.pins_of fun p hp=>absurd hp (by simp);refine wpAny_bind (wpAny_pure (wpAny_pure ⟨rfl,ds.length - (i + 1),by omega,i + 1,σ7,Hk,ys,its,rfl,hlt,Ik',e1.trans (e6.trans ek),R7'.mono ek,?_,hak,fun b hb=>?_,⟨na,oak⟩,v1,?_,by omega⟩))
   ·refine T.keep _ _ _ st6 fun b hb o e=>(fpk b hb o e).1
   ·obtain ⟨o,e,_⟩:=T.obj _ _ st6 b hb;exact (fpk b hb o e).2
   ·rw [e9,hu,append_nil]; exact r1.mono (e6.trans ek)
  | true =>
   obtain ⟨xk,hfx,hrx⟩:∃x,fe δ1=.ok x/\r=.tup [x]:=by
    rcases hf1 with ⟨x,_,q2,q3⟩ | ⟨q,_⟩
    ·exact ⟨x,q2,q3⟩
    ·rw [q] at qk; cases qk
   subst hrx;refine wpAny_bind (wpAny_bind (he.use Ik (R7.mono ek) (by rw [hfx]; intro z; cases z) (fun d8 u8 s8 v8 H8 q8 I8 r8 e8 b8 p8=>?_) fun e s8 q=>by rw [hfx] at q; exact q.none.elim));rw [hfx] at q8; cases q8;have oa8:=(I8.pin (acc,({ cls:=.type "list",data:=.seq its na }:Obj)) (by simp)).1;have ha8:=(I8.pin (acc,({ cls:=.type "list",data:=.seq its na }:Obj)) (by simp)).2.1;have hsz:its.size<=i:=by have:=v1.length; simp only [Array.length_toList] at this; omega
   refine wpAny_bind (wpAny_list_append_plain (show s8.heap.PlainList acc its from ⟨na,oa8⟩) (fun h9 p9 sb9=>?_) (by omega))
   have I8':Inv X' [] σ7 H8 s8:=I8.pins_of fun p hp=>absurd hp (by simp);have fp8:∀b∈fp,∀o,s6.heap.get? b=some o->s8.heap.get? b=some o/\H8 b=none:=fun b hb o e=>by
    have q:=I8.pin (b,o) (mem_append_right _ (mem_append_right _ (cn' hb e)));exact ⟨q.1,q.2.1⟩
   have nacc:∀b,H8 b≠none->b≠acc:=fun b hb z=>hb (by rw [z]; exact ha8);have I9:Inv X' [] σ7 H8 { s8 with heap:=h9 }:=I8'.call' (ch:=[acc]) rfl
    ⟨fun b o e n hb hx=>(sb9.2 b (by simpa using hx)).trans e,fun b o e n hb hx=>⟨o.slots,(sb9.2 b (by simpa using hx)).trans e⟩,fun b o e n _=>n,fun b o e hx=>⟨o,(sb9.2 b (by simpa using hx)).trans e⟩,fun b xs e=>e,fun b o u e=>e,fun b ps e=>⟨#[],by simpa using e⟩⟩
    (fun b u q=>(I8'.hok b u q).stay (fun c v hc e=>(sb9.2 c (by
     rcases hc with rfl | hc
     ·exact nacc c (by rw [q]; intro z; cases z)
     ·exact nacc c (by rw [hc]; intro z; cases z))).trans e) (fun _ z=>z) fun _ _ z=>z) I8'.bare
    fun b hb=>by
     have e:b=acc:=by simpa using hb
     subst e;exact ⟨.inl (by show b∈b :: fp; simp),(hfp b (by simp)).1,fun x c e=>(hfp b (by simp)).2.2 x c e,fun p hp=>absurd hp (by show p∉([]:List (Addr×Obj)) ++ []; simp)⟩
   refine wpAny_pure (wpAny_pure ⟨rfl,ds.length - (i + 1),by omega,i + 1,σ7,H8,ys ++ [v8],its.push u8,rfl,hlt,I9,e1.trans (e6.trans (ek.trans e8)),R7'.mono (ek.trans e8),?_,ha8,fun b hb=>?_,p9,?_,?_,by rw [length_append]; show _ + 1<=_; omega⟩)
   ·refine T.keep _ _ _ st6 fun b hb o e=>(sb9.2 b (fun z=>hacc (by rw [<- z]; exact hb))).trans (fp8 b hb o e).1
   ·obtain ⟨o,e,_⟩:=T.obj _ _ st6 b hb;exact (fp8 b hb o e).2
   ·rw [Array.toList_push]; exact v1.append (.cons r8 .nil)
   ·rw [e9];exact (r1.mono (e6.trans (ek.trans e8))).append (Reps.cons p8 Reps.nil)
 ·have e:i=ds.length:=by omega
  subst e;obtain ⟨na,oa⟩:=p1;have pin1:Inv X' [(acc,({ cls:=.type "list",data:=.seq its na }:Obj))] σ1 H1 s:=I1.pins_of fun p hp=>by
   have:p=(acc,({ cls:=.type "list",data:=.seq its na }:Obj)):=by simpa using hp
   subst this;exact ⟨oa,ha1,(hfp acc (by simp)).1,(hfp acc (by simp)).2.1,fun v z=>(by cases z)⟩
  refine wpAny_mono (T.done X' rfl rfl rfl hcalm ds.length _ s σ1 H1 _ pin1 (fpok fr1 fun b hb p hp z=>by
   have:p=(acc,({ cls:=.type "list",data:=.seq its na }:Obj)):=by simpa using hp
   subst this; exact hacc (by rw [show acc=b from z]; exact hb)) st1 (Y H1 e1).2) (fun rv s5 ⟨hrv,I5⟩=>?_) fun _ _ z=>z
  subst hrv;refine wpAny_pure ?_;have h:=ev' hR;rw [<- h,take_length] at r1;have oa5:=(I5.pin (acc,({ cls:=.type "list",data:=.seq its na }:Obj)) (by simp)).1;exact fin s5 σ1 H1 ys its (I5.pins_of fun p hp=>absurd hp (by simp)) e1 ha1 fr1 ⟨na,oa5⟩ v1 r1
end
theorem _root_.L2.Inv.but {X:Cx} {pins:List (Addr×Obj)} {σ:St} {H:Hp} {s:Shared} {C:Addr} {h':Heap} {t':Nat} (J:Inv X pins σ H s) (hC:H C=none) (hC0:X.s₀.heap.objs.size<=C) (hCl:C≠X.env.locals) (hCc:∀x c,X.env.cells.lookup x=some c->c≠C)
  (hCp:∀p∈X.pn ++ pins,p.1≠C) (hs:Heap.SameBut C s.heap h'):Inv X pins σ H { s with heap:=h',toks:=t' }:=by
 have nC:∀b,H b≠none->b≠C:=fun b hb z=>hb (by rw [z]; exact hC);refine J.call' (ch:=[C]) (s':={ s with heap:=h',toks:=t' }) rfl
   ⟨fun b o e n hb hx=>(hs.2 b (by simpa using hx)).trans e,fun b o e n hb hx=>⟨o.slots,(hs.2 b (by simpa using hx)).trans e⟩,fun b o e n _=>n,fun b o e hx=>⟨o,(hs.2 b (by simpa using hx)).trans e⟩,fun b xs e=>e,fun b o u e=>e,fun b ps e=>⟨#[],by simpa using e⟩⟩
   (fun b u q=>(J.hok b u q).stay (fun c v hc e=>(hs.2 c (by
    rcases hc with rfl | hc
    ·exact nC c (by rw [q]; intro z; cases z)
    ·exact nC c (by rw [hc]; intro z; cases z))).trans e) (fun _ z=>z) fun _ _ z=>z) J.bare
   fun b hb=>by
    have e:b=C:=by simpa using hb
    subst e;exact ⟨.inr hC0,hCl,hCc,hCp⟩
section
variable {X:Cx} {m:Nat} {fr:List Nat} {N':List Str} {scope:Scope} {cl:List (Str×Addr)} {tg iter elt:Expr} {cs:List Expr} {fc:DS->Res Bool} {pos:Pos} {t:gb} {fe:DS->Res D} {fi:DS->Res (List D)}
structure Around' (X:Cx) (m:Nat) (fr:List Nat) (N':List Str) (scope:Scope) (cl:List (Str×Addr)):Prop where
 clos:closureFor scope X.env=pure cl
 nocell:∀y∈scope.names,y.2≠.cell
 kind:scope.kind=.function
 names:∀x∈scope.names,x.2=.local->scope.names.lookup x.1=some .local
 sub:∀x c,cl.lookup x=some c->X.env.cells.lookup x=some c
 has:∀x,((relabel scope X.env).names.lookup x=some .cell\/(relabel scope X.env).names.lookup x=some .free)->∃c,cl.lookup x=some c
 len:N'.length=m + fr.length
 free:∀j i,fr[j]? = some i->∃x c,N'[m + j]? = some x/\X.N[i]? = some x/\wZ X.env.scope x/\(X.env.kindOf x=some .cell\/X.env.kindOf x=some .free)/\cl.lookup x=some c/\((compEnvC scope cl 0 X.env).kindOf x=some .cell\/(compEnvC scope cl 0 X.env).kindOf x=some .free)
theorem Q3 (W:Around' X m fr N' scope cl) (hcalm:X.calm=true) (hkt:fG m t) (hi:PID X tg iter fi) (ht:∀C s H fp,PGD (cC X N' scope cl C s H fp) tg t) (hcs:cs.length<=1) (hc:∀C s H fp,Ku (cC X N' scope cl C s H fp) cs fc) (he:∀C s H fp,PD (cC X N' scope cl C s H fp) elt fe)
  {pins:List (Addr×Obj)} {s:Shared} {σ:St} {G H:Hp} {δ:DS} (I:Inv X pins σ H s) (R:RepSt X.K G H σ δ) (hs:iu m fr t fc fe fi δ≠.stuck) {E:Value->Shared->Prop} (hE:∀e s1,XPost X pins σ H s.heap (iu m fr t fc fe fi δ) e s1->E e s1)
  {RR:Value->Addr->Result->Shared->Prop}
  (fin:∀a C s' H' ds xs mC,iu m fr t fc fe fi δ=.ok (.lst ds)->Inv X pins σ H' s'->Same H H'->H a=none->H' a=some (.lst xs)->Reps X.K H' ds xs->s'.heap.Ns C mC->H' C=none->C≠a->X.s₀.heap.objs.size<=C->C∉X.fs->C≠X.env.locals->(∀x c,X.env.cells.lookup x=some c->c≠C)->(∀p∈X.pn ++ pins,p.1≠C)->RR (.ref a) C (.ok .next) s') :
  wpAny (model X.prog X.w) X.A (eval iter X.env) (fun x s₁=>wpAny (model X.prog X.w) X.A (pyIter x) (fun itv s₂=>wpAny (model X.prog X.w) X.A (newList []) (fun acc s₃ =>
   wpAny (model X.prog X.w) X.A (newFunctionEnv scope X.env.globals cl [] X.env.qual none .none (some X.env)) (fun cenv s₄ =>
    codeAny (model X.prog X.w) X.A (.compStart (.ListComp elt [⟨tg,iter,cs,0⟩] scope pos) 0 itv acc { cenv with scope:=relabel scope X.env }) (RR acc cenv.locals) s₄) E s₃) E s₂) E s₁) E s:=by
 have hs':(fi δ).bind (ik t fc fe (bV m fr δ))≠.stuck:=hs;refine wpAny_mono (hi pins s σ G H δ I R (gq hs')) (fun v s1 h1=>wpAny_mono h1 (fun itv s2 h2=>?_) fun e s2 q=>hE e s2 (q.same fun x z=>gY z)) fun e s2 q=>hE e s2 (q.same fun x z=>gY z);obtain ⟨ds,it,fp,tn,J,H2,q,rfl,I2,T,st2,f2,e2,Y⟩:=h2;have h3:ik t fc fe (bV m fr δ) ds≠.stuck:=iD hs' q;have hz':ds.length<=sizeLine:=by
  by_cases z:ds.length<=sizeLine
  ·exact z
  ·exact (h3 (by unfold ik; rw [if_neg z])).elim
 have h4:(mapR (gC t fc fe (bV m fr δ)) ds).bind (fun rs=>Res.ok (D.lst (rs.flatMap unI)))≠.stuck:=by unfold ik at h3; rw [if_pos hz'] at h3; exact h3
 have hm:mapR (gC t fc fe (bV m fr δ)) ds≠.stuck:=gq h4
 cases hR:mapR (gC t fc fe (bV m fr δ)) ds with
 | stuck=>exact (hm hR).elim
 | err x=>exact (GX (fun d=>Q0 d) ds x hR).elim
 | ok rs =>
 have hz:(rs.flatMap unI).length<=sizeLine:=Nat.le_trans (Ks hR) hz';have ev:iu m fr t fc fe fi δ=.ok (.lst (rs.flatMap unI)):=by unfold iu; rw [q,Res.bind_ok]; unfold ik; rw [if_pos hz',hR]; rfl
 have R2:=R.mono e2;refine wpAny_newObj_type (wpAny_newFunctionEnv W.nocell (by intro y hy; simp at hy) (fun h₁ hns₁ hsb₁=>?_) W.kind);dsimp only at hns₁ hsb₁ ⊢;generalize hA:s2.heap.objs.size=acc at *;generalize hH3:s2.heap.push { cls:=.type "list",dict:=none,data:=.seq ([]:List Value).toArray }=h3' at hns₁ hsb₁ ⊢;have hC:h3'.objs.size=acc + 1:=by rw [<- hH3,Heap.size_push,hA]
 generalize hCC:h3'.objs.size=C at *;have k3:∀b o,s2.heap.get? b=some o->h3'.get? b=some o:=fun b o e=>by rw [<- hH3]; exact Heap.get?_push_of_some _ e
 have a3:h3'.get? acc=some { cls:=.type "list",dict:=none,data:=.seq ([]:List Value).toArray }:=by rw [<- hH3,<- hA]; exact Heap.get?_push_size _ rfl
 have k4:∀b o,h3'.get? b=some o->h₁.get? b=some o:=fun b o e=>hsb₁.extBut b o (fun z=>by have:=Heap.lt_size e; rw [hCC,z] at this; exact Nat.lt_irrefl _ this) (Heap.get?_push_of_some _ e);have hacc2:H2 acc=none:=I2.hok.fresh (by rw [hA]; exact Nat.le_refl _);have I3:Inv X pins σ H2 { s2 with heap:=h3',toks:=s2.toks }:=I2.kept k3
 have fp2:∀b∈fp,b < acc:=fun b hb=>by
  obtain ⟨o,e,_⟩:=T.obj _ _ st2 b hb;have:=Heap.lt_size e;rw [hA] at this; exact this
 have f3:∀b∈acc :: fp,gZ X pins H2 b/\b < ({ s2 with heap:=h3',toks:=s2.toks }:Shared).heap.objs.size:=fun b hb=>by
  rcases mem_cons.mp hb with z | z
  ·subst z;exact ⟨I2.fpOk (by rw [hA]; exact Nat.le_refl _) hacc2,by show _ < h3'.objs.size; rw [hCC,hC]; exact Nat.lt_succ_self _⟩
  ·exact ⟨f2 b z,by show _ < h3'.objs.size; rw [hCC,hC]; exact Nat.lt_succ_of_lt (fp2 b z)⟩
 have hacc:acc∉fp:=fun z=>Nat.lt_irrefl _ (fp2 acc z);have okX:(cC X N' scope cl C { s2 with heap:=h3',toks:=s2.toks } H2 (acc :: fp)).Ok:=QT I3 W.kind (by show h3'.objs.size<=C; rw [hCC]; exact Nat.le_refl _) W.sub W.has f3
 have hC2:H2 C=none:=I2.hok.fresh (by rw [hA,hC]; exact Nat.le_succ _);have hcells:∀x c,cl.lookup x=some c->∃v,h₁.IsCell c v:=fun x c e=>by
  obtain ⟨v,o,g,d⟩:=I2.cell x c (W.sub x c e);exact ⟨v,o,k4 _ _ (k3 _ _ g),d⟩
 have hos:s2.os=({ s2 with heap:=h3',toks:=s2.toks }:Shared).os:=rfl
 have I4:∀tk,Inv (cC X N' scope cl C { s2 with heap:=h3',toks:=s2.toks } H2 (acc :: fp)) [] (jK m fr σ) H2 { s2 with heap:=h₁,toks:=tk }:=fun tk=>by
  refine ⟨okX,rfl,I2.bare,Un.kept k4,⟨_,hns₁,fun i x v e1 e2 e3=>?_⟩,hcells,hC2,fun x c e=>I2.freeC x c (W.sub x c e),fun p hp=>absurd hp (by show p∉([]:List (Addr×Obj)) ++ []; simp),I3.hok.kept k4,by show _=N'.length; rw [W.len]; simp [jK]⟩;unfold jK at e2
  by_cases hm':i < m
  ·rw [List.getElem?_append_left (by simpa using hm'),List.getElem?_replicate,if_pos hm'] at e2
   cases e2
  ·rw [List.getElem?_append_right (by simpa using hm'),List.getElem?_map] at e2;simp only [length_replicate] at e2
   cases qf:fr[i - m]? with
   | none=>rw [qf] at e2; cases e2
   | some k =>
    rw [qf] at e2;simp only [Option.map_some,Option.some.injEq] at e2;have e2':σ[k]? = some (some v):=by
     cases qk:σ[k]? with
     | none=>rw [qk] at e2; cases e2
     | some w=>rw [qk] at e2; simp only [Option.elim_some,id] at e2; rw [e2]
    obtain ⟨x',c,w1,w2,w3,w4,w5,w6⟩:=W.free (i - m) k qf;have hx:x'=x:=by
     have:m + (i - m)=i:=by omega
     rw [this] at w1;have e1':N'[i]? = some x:=e1;rw [e1'] at w1; cases w1; rfl
    subst hx;obtain ⟨m0,hn0,hl0⟩:=I2.loc;obtain ⟨u,r,l⟩:=hl0 k x' v w2 e2' w3;refine ⟨u,r,?_⟩;rcases l with ⟨l1,_⟩ | ⟨l1,c',l2,o,g,d⟩
    ·rcases w4 with z | z <;> (rw [z] at l1; cases l1)
    ·have hcc:c'=c:=by
      have:=W.sub x' c w5;rw [l2] at this; cases this; rfl
     subst hcc;exact .inr ⟨w6,c',w5,o,k4 _ _ (k3 _ _ g),d⟩
 have R4:=QX m fr R2;have st4:tn 0 h₁:=T.keep 0 _ _ st2 fun b hb o e=>k4 _ _ (k3 _ _ e);have hfp:∀b∈acc :: fp,b≠C/\b∉frs X.stack/\∀x c,cl.lookup x=some c->c≠b:=fun b hb=>by
  obtain ⟨⟨g1,g2,g3,g4,g5,g6⟩,g7⟩:=f3 b hb;refine ⟨Nat.ne_of_lt (by rw [<- hCC]; exact g7),fun z=>?_,fun x c e=>g5 x c (W.sub x c e)⟩;rcases mem_cons.mp (I2.stkSub b z) with w | w
  ·exact g2 w
  ·exact g3 w
 have hCs:s2.heap.objs.size<=C:=by rw [hA,hC]; exact Nat.le_succ _
 have loop:∀tk,codeAny (model X.prog X.w) X.A (.compLoop (.ListComp elt [⟨tg,iter,cs,0⟩] scope pos) 0 (.ref it) (.ref acc) (compEnvC scope cl C X.env)) (RR (.ref acc) C) { s2 with heap:=h₁,toks:=tk }:=fun tk=>by
  refine hh' (m:=m) (its0:=#[]) hcalm T Y hR hz' hkt (fun i h sv=>GR i h sv) (ht C _ H2 (acc :: fp)) hcs (hc C _ H2 (acc :: fp)) (he C _ H2 (acc :: fp)) hacc hfp ?_ (I4 tk) R4 st4 (fun b hb=>(f3 b hb).1.1) ⟨0,k4 _ _ a3⟩;intro s' σ' H' ys its J e' ha' hf' p' v' r';have K1:Inv X pins σ H' s':=I3.call' (ch:=acc :: fp) J.os J.base J.hok J.bare fun b hb=>by
   obtain ⟨⟨g1,g2,g3,g4,g5,g6⟩,g7⟩:=f3 b hb;exact ⟨g4,g2,g5,g6⟩
  obtain ⟨⟨g1,g2,g3,g4,g5,g6⟩,g7⟩:=f3 acc (by simp);obtain ⟨n',o'⟩:=p';have K2:=K1.track (o:=.lst ys) ha' (fun ob e _=>absurd (Nat.lt_of_lt_of_le (Heap.lt_size e) (by rw [<- hA]; exact I2.sz)) (Nat.lt_irrefl _)) g2 g5 g6
   ⟨by rw [r'.length]; exact hz,its.toList,n',v',by simpa using o'⟩
  obtain ⟨mC,hmC,_⟩:=J.loc;have sm:=iU ha' (.lst ys);have hCa:C≠acc:=by omega
  refine fin acc C s' (upd H' acc (.lst ys)) (rs.flatMap unI) ys mC ev K2 (e2.trans (e'.trans sm)) (e2.free hacc2) gW (r'.mono sm) hmC (by rw [as' hCa]; exact J.free) hCa (Nat.le_trans I2.sz hCs) (I2.nofs hCs) (Nat.ne_of_gt (Nat.lt_of_lt_of_le I2.lt hCs)) (fun x c e z=>?_) fun p hp z=>?_
  ·obtain ⟨v,q⟩:=I2.cell x c e;exact absurd (Nat.lt_of_lt_of_le q.lt (by rw [z]; exact hCs)) (Nat.lt_irrefl _)
  ·exact absurd (Nat.lt_of_lt_of_le (Heap.lt_size (I2.pin p hp).1) (by rw [z]; exact hCs)) (Nat.lt_irrefl _)
 exact codeAny_compStart_list (loop _) (T.self X.A 0 _ _ _ st4 (loop _))
theorem compI_true {δ:DS}:iu m fr t (fun _=>.ok true) fe fi δ=aO m fr t fe fi δ:=by
 have el:∀(δ':DS) (d:D),gC t (fun _=>.ok true) fe δ' d=(d_ t fe δ' d).bind fun x=>.ok (.tup [x]):=fun δ' d=>by
  unfold gC d_
  cases t d δ' with
  | none=>rfl
  | some δ1=>cases h:fe δ1 <;> simp only [h] <;> rfl
 have mr:∀(δ':DS) (ds:List D),mapR (gC t (fun _=>.ok true) fe δ') ds=(mapR (d_ t fe δ') ds).bind fun rs=>.ok (rs.map fun x=>.tup [x]):=fun δ' ds=>by
  induction ds with
  | nil=>rfl
  | cons d ds ih =>
   simp only [mapR,el,ih]
   cases d_ t fe δ' d with
   | stuck=>rfl
   | err x=>rfl
   | ok x=>cases mapR (d_ t fe δ') ds <;> rfl
 have un:∀rs:List D,(rs.map fun x=>D.tup [x]).flatMap unI=rs:=fun rs=>by
  induction rs with
  | nil=>rfl
  | cons r rs ih=>rw [map_cons,flatMap_cons,ih]; rfl
 unfold iu aO
 cases fi δ with
 | stuck=>rfl
 | err x=>rfl
 | ok ds =>
  show ik t (fun _=>.ok true) fe (bV m fr δ) ds=gw (mapR (d_ t fe (bV m fr δ)) ds);unfold ik gw;rw [mr]
  cases hR:mapR (d_ t fe (bV m fr δ)) ds with
  | stuck=>split <;> rfl
  | err x=>exact (GX (fun d=>lN' d) ds x hR).elim
  | ok rs =>
   have h:=ev' hR;show (if ds.length<=sizeLine then Res.ok (D.lst ((rs.map fun x=>D.tup [x]).flatMap unI)) else .stuck)=if rs.length<=sizeLine then Res.ok (D.lst rs) else .stuck
   rw [un,h]
theorem GZ (W:Around' X m fr N' scope cl) (hcalm:X.calm=true) (hkt:fG m t) (hi:PID X tg iter fi) (ht:∀C s H fp,PGD (cC X N' scope cl C s H fp) tg t) (he:∀C s H fp,PD (cC X N' scope cl C s H fp) elt fe)
  {pins:List (Addr×Obj)} {s:Shared} {σ:St} {G H:Hp} {δ:DS} (I:Inv X pins σ H s) (R:RepSt X.K G H σ δ) (hs:aO m fr t fe fi δ≠.stuck) {E:Value->Shared->Prop} (hE:∀e s1,XPost X pins σ H s.heap (aO m fr t fe fi δ) e s1->E e s1)
  {RR:Value->Addr->Result->Shared->Prop}
  (fin:∀a C s' H' ds xs mC,aO m fr t fe fi δ=.ok (.lst ds)->Inv X pins σ H' s'->Same H H'->H a=none->H' a=some (.lst xs)->Reps X.K H' ds xs->s'.heap.Ns C mC->H' C=none->C≠a->X.s₀.heap.objs.size<=C->C∉X.fs->C≠X.env.locals->(∀x c,X.env.cells.lookup x=some c->c≠C)->(∀p∈X.pn ++ pins,p.1≠C)->RR (.ref a) C (.ok .next) s') :
  wpAny (model X.prog X.w) X.A (eval iter X.env) (fun x s₁=>wpAny (model X.prog X.w) X.A (pyIter x) (fun itv s₂=>wpAny (model X.prog X.w) X.A (newList []) (fun acc s₃ =>
   wpAny (model X.prog X.w) X.A (newFunctionEnv scope X.env.globals cl [] X.env.qual none .none (some X.env)) (fun cenv s₄ =>
    codeAny (model X.prog X.w) X.A (.compStart (.ListComp elt [⟨tg,iter,[],0⟩] scope pos) 0 itv acc { cenv with scope:=relabel scope X.env }) (RR acc cenv.locals) s₄) E s₃) E s₂) E s₁) E s:=by
 have e:aO m fr t fe fi δ=iu m fr t (fun _=>.ok true) fe fi δ:=compI_true.symm;rw [e] at hs hE;exact Q3 (cs:=[]) W hcalm hkt hi ht (Nat.zero_le 1) (fun C s H fp pins s' σ G H' δ I R _=>wpAny_pure ⟨H',rfl,I,Same.refl _⟩) he I R hs hE fun a C s' H' ds xs mC ev=>fin a C s' H' ds xs mC (e.trans ev)
theorem nq (W:Around' X m fr N' scope cl) (hcalm:X.calm=true) (hkt:fG m t) (hi:PID X tg iter fi) (ht:∀C s H fp,PGD (cC X N' scope cl C s H fp) tg t) (he:∀C s H fp,PD (cC X N' scope cl C s H fp) elt fe)
  (hf:∀x,foldedSetIterable iter X.env x=pure x:=by intro _; rfl):PD X (.ListComp elt [⟨tg,iter,[],0⟩] scope pos) (aO m fr t fe fi):=by
 intro pins s σ G H δ I R hs;rw [eval_ListComp];refine wpAny_comprehension_free (use:=none) rfl hf W.clos W.kind W.names (GZ W hcalm hkt hi ht he I R hs (fun _ _ q=>q) (RR:=fun acc C=>compPost _ _ _ none _ acc C) ?_);intro a C s' H' ds xs mC ev J e' ha hx hr hns hC hCa hC0 hCf hCl hCc hCp;refine ⟨mC,hns,fun h' hs'=>?_⟩;exact ⟨.lst ds,.ref a,H',ev,J.but (t':=s'.toks) hC hC0 hCl hCc hCp hs',rfl,e',vB (SqL.of hx) hr⟩
theorem Q4 (i:Nat) {y:Str} {py spos:Pos} (W:Around' X m fr N' scope cl) (hcalm:X.calm=true) (hkt:fG m t) (hi:PID X tg iter fi) (ht:∀C s H fp,PGD (cC X N' scope cl C s H fp) tg t) (he:∀C s H fp,PD (cC X N' scope cl C s H fp) elt fe)
  (hN:X.N.Nodup) (hsw:swapsWith (.ListComp elt [⟨tg,iter,[],0⟩] scope pos) (some (.Name y py)) spos.line X.env=pure true:=by rfl) (hy:X.N[i]? = some y:=by rfl) (hx:Loc X.env.scope y:=by first | exact Or.inl rfl | exact Or.inr rfl)
  (hfn:X.fn y=true\/X.env.scope.names.lookup y=some .local:=by first | exact .inl rfl | exact .inr rfl | assumption) (hf:∀x,foldedSetIterable iter X.env x=pure x:=by intro _; rfl) :
  PSD X (.Assign [.Name y py] (.ListComp elt [⟨tg,iter,[],0⟩] scope pos) spos) (aG i (aO m fr t fe fi)):=by
 intro pins s σ G H δ I R hs;have hs':aO m fr t fe fi δ≠.stuck:=yN hs;rw [exec_Assign_Name_used _ _ _ _ hsw];refine wpAny_bind (wpAny_standAt (wpAny_bind ?_));show wpAny _ X.A (do let _ <- comprehension (.ListComp elt [⟨tg,iter,[],0⟩] scope pos) scope X.env _ (newList []) false (eval iter X.env) (some (assign (.Name y py) X.env))) _ _ s
 refine wpAny_bind (wpAny_mono (wpAny_comprehension_free (use:=some (assign (.Name y py) X.env)) (Q:=fun _ s'=>SPost X pins G H (aG i (aO m fr t fe fi) δ) .next s') rfl hf W.clos W.kind W.names
  (GZ W hcalm hkt hi ht he I R hs' (fun e s1 q=>q.sx R fun x z=>by unfold aG; rw [z]; rfl) (RR:=fun acc C=>compPost _ _ _ (some (assign (.Name y py) X.env)) _ acc C) ?_)) (fun _ s' hq=>wpAny_pure (wpAny_pure hq)) fun _ _ e=>e)
 intro a C s' H' ds xs mC ev J e' ha hx' hr hns hC hCa hC0 hCf hCl hCc hCp;show wpAny _ X.A (assign (.Name y py) X.env (.ref a)) _ _ _;refine wpAny_assign_Name (Ge J hN hy hx (v:=.ref a) (u:=.ref a) rfl (fun s2 I2 ⟨b,sb,hb⟩=>?_) hfn);have hbC:C≠b:=by
  rcases hb with z | z
  ·rw [z]; exact hCl
  ·exact fun w=>hCc _ _ z w.symm
 refine ⟨mC,hns.sameBut sb hbC,fun h' hs'=>?_⟩;refine ⟨_,_,H',by unfold aG; rw [ev]; rfl,I2.but (t':=s2.toks) hC hC0 hCl hCc hCp hs',e'.tk,(R.mono e').set i (vB (SqL.of hx') hr)⟩
end
mutual
noncomputable def cI:D->PyData
 | .non=>.none
 | .bl b=>.bool b
 | .int i=>.int i
 | .str x=>.str x
 | .tup ds=>.tuple (eE ds)
 | .lst ds=>.list (eE ds)
 | _=>.none
noncomputable def eE:List D->List PyData
 | []=>[]
 | d :: ds=>cI d :: eE ds
end
noncomputable def dD:Nat->D->Bool
 | _,.non=>true
 | _,.bl _=>true
 | _,.int _=>true
 | _,.str x=>PyData.strOk x
 | n + 1,.tup ds=>ds.all (dD n)
 | n + 1,.lst ds=>ds.all (dD n)
 | _,_=>false
theorem Q5:∀(n:Nat) (d:D),dD n d=true->(cI d).canLay0=true/\(cI d).depth<=n:=by
 intro n;have all:∀n,(∀d,dD n d=true->(cI d).canLay0=true/\(cI d).depth<=n)->∀ds:List D,(∀d∈ds,dD n d=true)->PyData.canLayAll0 (eE ds)=true/\PyData.depthAll (eE ds)<=n:=by
  intro n ih ds
  induction ds with
  | nil=>intro _; simp [eE,PyData.canLayAll0,PyData.depthAll]
  | cons d ds hi =>
   intro h;have q1:=ih d (h d (.head _));have q2:=hi fun x hx=>h x (.tail _ hx);simp only [eE,PyData.canLayAll0,PyData.depthAll,Bool.and_eq_true];exact ⟨⟨q1.1,q2.1⟩,by omega⟩
 induction n with
 | zero =>
  intro d h
  cases d <;> simp_all [dD,cI,PyData.canLay0,PyData.depth]
 | succ n ih =>
  intro d h
  cases d with
  | tup ds =>
   have:=all n ih ds (by simpa [dD] using h);simp only [cI,PyData.canLay0,PyData.depth];exact ⟨this.1,by omega⟩
  | lst ds =>
   have:=all n ih ds (by simpa [dD] using h);simp only [cI,PyData.canLay0,PyData.depth];exact ⟨this.1,by omega⟩
  | _=>simp_all [dD,cI,PyData.canLay0,PyData.depth]
section
variable {X:Cx} {pins:List (Addr×Obj)} {σ:St} {H:Hp} {s:Shared}
mutual
theorem cF' (I:Inv X pins σ H s):∀(n:Nat) {d:D} {v:V} {u:Value},dD n d=true->Rep X.K H d v->RelV v u->∃as,Reads s.heap u (cI d) as
 | n,.non,v,u,_,p,r=>by rw [Rep] at p; subst p; cases r; rw [cI]; exact ⟨_,Reads.none⟩
 | n,.bl b,v,u,_,p,r=>by rw [Rep] at p; subst p; cases r; rw [cI]; exact ⟨_,Reads.bool b⟩
 | n,.int i,v,u,_,p,r=>by rw [Rep] at p; subst p; obtain ⟨t,rfl⟩:=r; rw [cI]; exact ⟨_,Reads.int i t⟩
 | n,.str x,v,u,_,p,r=>by rw [Rep] at p; subst p; obtain ⟨t,rfl⟩:=r; rw [cI]; exact ⟨_,Reads.str x t⟩
 | n + 1,.tup ds,v,u,h,p,r=>by
  obtain ⟨a,xs,rfl,hq,rs⟩:=fB p
  cases r
  obtain ⟨its,rv,⟨o,g,c,k,d⟩,hz⟩:=I.tuple hq;obtain ⟨as,q⟩:=G3 I n (by simpa [dD] using h) rs rv;rw [cI];exact ⟨as,reads_tuple_at g c d (by simpa using q)⟩
 | n + 1,.lst ds,v,u,h,p,r=>by
  obtain ⟨a,xs,rfl,hq,rs⟩:=fC p
  cases r
  obtain ⟨its,rv,⟨o,k,g,c,_,d⟩,hz⟩:=I.list hq;obtain ⟨as,q⟩:=G3 I n (by simpa [dD] using h) rs rv;rw [cI];exact ⟨_,reads_list_at g c d (by simpa using q)⟩
 | 0,.tup ds,v,u,h,p,r=>by simp [dD] at h
 | 0,.lst ds,v,u,h,p,r=>by simp [dD] at h
 | n,.exc c,v,u,h,p,r=>by cases n <;> simp [dD] at h
 | n,.excf c f d,v,u,h,p,r=>by cases n <;> simp [dD] at h
 | n,.dct,v,u,h,p,r=>by cases n <;> simp [dD] at h
theorem G3 (I:Inv X pins σ H s):∀(n:Nat) {ds:List D} {vs:List V} {us:List Value},(∀d∈ds,dD n d=true)->Reps X.K H ds vs->Vals vs us->∃as,ReadsAll s.heap us (eE ds) as
 | n,[],vs,us,_,p,r=>by
  cases p.nil_of
  cases r
  rw [eE];exact ⟨_,ReadsAll.nil⟩
 | n,d :: ds,vs,us,h,p,r=>by
  obtain ⟨v,ws,rfl,p1,p2⟩:=p.cons_of
  cases r with
  | cons r1 r2 =>
   obtain ⟨as,q⟩:=cF' I n (h d (.head _)) p1 r1;obtain ⟨bs,q2⟩:=G3 I n (fun x hx=>h x (.tail _ hx)) p2 r2;rw [eE];exact ⟨_,ReadsAll.cons q q2⟩
end
end
noncomputable def cV (a b:D):Res D:=if dD 8 a=true/\dD 8 b=true then .ok (.bl (PyData.eqv (cI a) (cI b))) else .stuck
noncomputable def iK (a b:D):Res D:=if dD 8 a=true/\dD 8 b=true then .ok (.bl (!PyData.eqv (cI a) (cI b))) else .stuck
theorem gf (x y:D):aX (cV x y):=nG eO dG
theorem qM (x y:D):aX (iK x y):=nG eO dG
theorem Ek {d:D} (h:dD 8 d=true):SeqAt.shaped (cI d)=true:=by
 have:=Q5 8 d h;unfold SeqAt.shaped;rw [this.1,Bool.true_and];exact decide_eq_true (Nat.le_trans this.2 (by decide))
theorem gh {X:Cx} (hu:X.A.units + 64 < cLine):OpD X (compareOp .Eq) cV:=by
 intro E pins s σ H x y v u a b d I r1 r2 p1 p2 e;unfold cV at e
 split at e
 ·rename_i c
  cases e
  obtain ⟨as,ra⟩:=cF' I 8 c.1 p1 r1;obtain ⟨bs,rb⟩:=cF' I 8 c.2 p2 r2;exact SeqAt.compareEq_shaped ra rb (Ek c.1) (Ek c.2) hu ⟨_,.bl _,H,rfl,I,rfl,Same.refl H,xm⟩
 ·cases e
theorem dA' {X:Cx} (hu:X.A.units + 64 < cLine):OpD X (compareOp .NotEq) iK:=by
 intro E pins s σ H x y v u a b d I r1 r2 p1 p2 e;unfold iK at e
 split at e
 ·rename_i c
  cases e
  obtain ⟨as,ra⟩:=cF' I 8 c.1 p1 r1;obtain ⟨bs,rb⟩:=cF' I 8 c.2 p2 r2;exact SeqAt.compareNe_shaped ra rb (Ek c.1) (Ek c.2) hu ⟨_,.bl _,H,rfl,I,rfl,Same.refl H,xm⟩
 ·cases e
noncomputable def xF:D->String
 | .non=>"NoneType"
 | .bl _=>"bool"
 | .int _=>"int"
 | .str _=>"str"
 | .tup _=>"tuple"
 | .lst _=>"list"
 | .dct=>"dict"
 | _=>""
theorem nn' {K:Frag} {prog:Program} {w:World} {A:Around} {s:Shared} {x D:Addr} {ox:Obj} {tk:Tok} {R:Result->Shared->Prop}
  (hdct:hasDictIn K D=true) (ha:findIn K (.ref D) "__class__" = some (some (.builtin "object.__class__")))
  (hn:specialIn K (.builtin "object.__class__") "__get__" = some (some (.builtin "getset_descriptor.__get__"))) (htk:takesIn K (.builtin "object.__class__")=some true) (hm:mroIn K D (.type "object")=some true) (hB:mroIn K D (.type "BaseException")=some true)
  {od:Option Obj} (X:K.In s.heap) (I:InstAt s.heap x ox D od) (h:R (.ok (.ret (.ref D))) s) :
  codeAny (model prog w) A (.call (.builtin "BaseException.__getattribute__") ⟨[.ref x,.str "__class__" tk],[]⟩) R s:=by
 have hf:findObj K D od "__class__" = some (.bind (.builtin "getset_descriptor.__get__") (.builtin "object.__class__")):=by
  obtain ⟨cd,hc,_⟩:=any_some hdct;unfold findObj;rw [hc,Option.bind_some,ha,Option.bind_some];simp [hn,htk]
 have hk:builtinKind "BaseException.__getattribute__" = some .slot:=by decide +kernel
 have hsplit:splitId "BaseException.__getattribute__" = some ("BaseException", "__getattribute__"):=by decide +kernel
 have L0:=I.type (M:=model prog w);have L1:=looks_find (M:=model prog w) X I hf;have L2:=looks_mroIn (M:=model prog w) X hB;have har:=F.args_bexc_ga (.ref x) (.str "__class__" tk);refine codeAny_call_builtin (by decide +kernel) F.entry_bexc_ga ?_;simp only [checkBuiltinCall,hk,hsplit];refine wpAny_bind ?_;unfold isInstance;refine wpAny_bind (L0.at (L2.at ?_));simp only [Bool.not_true,Bool.false_eq_true,if_false]
 repeat (first | with_reducible refine wpAny_pure ?_ | with_reducible refine wpAny_bind ?_ | wp_step)
 obtain ⟨hh,g,dr,t,os⟩:=s;refine wpAny_loadPart I.at_ (wpAny_pure ?_);rw [I.cls];refine wpAny_bind (L1.at ?_);show wpAny _ _ (Builtin.ObjectAttr.bindTo _ _ _ _) _ _ _;unfold Builtin.ObjectAttr.bindTo;refine wpAny_bind (wpAny_holding (wpAny_call (class_get (s:=⟨hh,g,dr,t,os⟩) (ox:=ox) (od:=od) X I hm ?_)));exact wpAny_pure h
theorem Kv {K:Frag} {prog:Program} {w:World} {A:Around} {E:Value->Shared->Prop} {s:Shared} {x D:Addr} {ox:Obj} {Q:Option Value->Shared->Prop}
  (hga:findIn K (.ref D) "__getattribute__" = some (some (.builtin "BaseException.__getattribute__"))) (hgk:findIn K (.ref D) "__getattr__" = some none)
  (hdct:hasDictIn K D=true) (ha:findIn K (.ref D) "__class__" = some (some (.builtin "object.__class__")))
  (hn:specialIn K (.builtin "object.__class__") "__get__" = some (some (.builtin "getset_descriptor.__get__"))) (htk:takesIn K (.builtin "object.__class__")=some true) (hm:mroIn K D (.type "object")=some true) (hB:mroIn K D (.type "BaseException")=some true)
  {od:Option Obj} (X:K.In s.heap) (I:InstAt s.heap x ox D od) (h:Q (some (.ref D)) { s with toks:=s.toks + 1 }):wpAny (model prog w) A (getAttr? (.ref x) "__class__") Q E s:=by
 obtain ⟨hh,g,d,t,os⟩:=s;have L0:=I.type (M:=model prog w);have L1:=looks_findIn (M:=model prog w) X hga;have Lk:=looks_findIn (M:=model prog w) X hgk;unfold getAttr? getAttrBy? getAttrBy;refine wpAny_bind (wpAny_mkText (wpAny_bind (wpAny_attempt (wpAny_holding (wpAny_bind (L0.at (wpAny_bind (L1.at ?_))))))));show wpAny _ _ (getAttrByItsOwn _ _ _ _ _ _) _ _ _;unfold getAttrByItsOwn hookBefore;refine wpAny_bind (Lk.at ?_);refine wpAny_bind (wpAny_attempt (wpAny_holding ?_));show wpAny _ _ (boundAndCalled _ _ _) _ _ _;unfold boundAndCalled;rw [PySem.F.attrBase_ValueError.ga.bind];refine wpAny_bind (wpAny_pure (wpAny_call (nn' (s:=⟨hh,g,d,t + 1,os⟩) hdct ha hn htk hm hB X I ?_)));exact handed_on rfl (wpAny_pure h)
structure ExcCls (K:Frag) (C:Addr):Prop where
 hga:findIn K (.ref C) "__getattribute__" = some (some (.builtin "BaseException.__getattribute__"))
 hgk:findIn K (.ref C) "__getattr__" = some none
 hdct:hasDictIn K C=true
 ha:findIn K (.ref C) "__class__" = some (some (.builtin "object.__class__"))
 hn:specialIn K (.builtin "object.__class__") "__get__" = some (some (.builtin "getset_descriptor.__get__"))
 htk:takesIn K (.builtin "object.__class__")=some true
 hm:mroIn K C (.type "object")=some true
 hB:mroIn K C (.type "BaseException")=some true
theorem Kw {K:Frag} {a C:Addr} {dd:Option Addr} (W:ExcCls K C):KitX K (.ref a) (.ref C) (fun h=>excAt a C dd h/\match dd with | none=>True | some dx=>∃o,h.get? dx=some o) where
 ty:=fun M h _ ⟨⟨o,vs,g,c,_⟩,_⟩=>by rw [<- c]; exact (Looks.ld g).andThen .now
 it:=fun _ _ X _=>by
  obtain ⟨cdD,hcD,_⟩:=any_some W.hdct;unfold clsIn at hcD
  split at hcD
  ·rename_i c' d' cd' sl' ho;intro A' Q' E' s' k q;unfold isType loadHead;exact wpAny_bind (wpAny_loadPart (k _ _ (X _ _ ho)) (wpAny_pure q))
  ·cases hcD
 ne:=fun h tp dd its n sl X htp=>by
  obtain ⟨cdD,hcD,_⟩:=any_some W.hdct;refine Bool.eq_false_iff.mpr fun q=>?_;have e:C=tp:=Value.ref.inj (beq_iff_eq.mp q);subst e;unfold clsIn at hcD
  split at hcD
  ·rename_i c' d' cd' sl' ho;have z:=(X _ _ ho).symm.trans htp
   cases z
  ·cases hcD
 ca:=fun X ⟨⟨o,vs,g,c,d,hd⟩,w⟩ k=>by
  cases dd with
  | none=>exact Kv (od:=none) W.hga W.hgk W.hdct W.ha W.hn W.htk W.hm W.hB X ⟨g,c,by unfold notCls; rw [hd],by rw [d]; trivial⟩ k
  | some dx =>
   obtain ⟨od,ho⟩:=w;exact Kv (od:=some od) W.hga W.hgk W.hdct W.ha W.hn W.htk W.hm W.hB X ⟨g,c,by unfold notCls; rw [hd],by rw [d]; exact ho⟩ k
noncomputable def j8 (K:Frag) (cv:Value) (b:Bool):D->Prop
 | .exc n=>∀C,nsIn K mainGlobals n=some (some (.ref C))->ExcCls K C/\kitOne K (.ref C) cv=some b
 | .excf n _ _=>∀C,nsIn K mainGlobals n=some (some (.ref C))->ExcCls K C/\kitOne K (.ref C) cv=some b
 | d=>kitOne K (.type (xF d)) cv=some b
theorem Q6 {X:Cx} {pins:List (Addr×Obj)} {σ:St} {H:Hp} {s:Shared} {A:Around} {E:Value->Shared->Prop} {Q:Value->Shared->Prop} {cv u:Value} {v:V} {d:D} {b:Bool} (I:Inv X pins σ H s) (p:Rep X.K H d v) (r:RelV v u) (ok:j8 X.K cv b d)
  (h:∀tk,Q (.bool b) { s with toks:=tk }):wpAny (model X.prog X.w) A (call (.builtin "isinstance") [u,cv]) Q E s:=by
 cases d with
 | non=>rw [Rep] at p; subst p; exact Eb I r .non ok h
 | bl k=>rw [Rep] at p; subst p; exact Eb I r (.bl k) ok h
 | int k=>rw [Rep] at p; subst p; exact Eb I r (.int k) ok h
 | str k=>rw [Rep] at p; subst p; exact Eb I r (.str k) ok h
 | tup ds =>
  obtain ⟨a,xs,rfl,hq,_⟩:=fB p
  cases r
  obtain ⟨its,_,⟨o,g,c,_⟩,_⟩:=I.tuple hq;exact kia_one kitx_tuple I.kIn ⟨o,g,c⟩ ok (fun z=>nomatch z) h
 | lst ds =>
  obtain ⟨a,xs,rfl,hq,_⟩:=fC p
  cases r
  obtain ⟨its,_,⟨o,_,g,c,_⟩,_⟩:=I.list hq;exact kia_one kitx_list I.kIn ⟨o,g,c⟩ ok (fun z=>nomatch z) h
 | exc n =>
  rw [Rep] at p;obtain ⟨a,C,rfl,hC,hH⟩:=p
  cases r
  obtain ⟨W,ok⟩:=ok C hC;exact kia_one (Kw (dd:=none) W) I.kIn ⟨(I.hok a _ hH).1,trivial⟩ ok (fun z=>nomatch z) h
 | excf n f d =>
  rw [Rep] at p;obtain ⟨a,C,dx,w,rfl,hC,hH,hx,_⟩:=p
  cases r
  obtain ⟨W,ok⟩:=ok C hC;obtain ⟨mA,⟨o,_,_,g,_⟩,_⟩:=I.hok dx _ hx;exact kia_one (Kw (dd:=some dx) W) I.kIn ⟨(I.hok a _ hH).1,o,g⟩ ok (fun z=>nomatch z) h
 | dct =>
  rw [Rep] at p;obtain ⟨a,rfl,hH⟩:=p
  cases r
  exact kia_one kitx_dict I.kIn (I.hok a _ hH).1 ok (fun z=>nomatch z) h
theorem Q7:bootBuiltins "isinstance" = some (.builtin "isinstance"):=by decide +kernel
noncomputable def iM (isF:D->Option Bool) (d:D):Res D:=match isF d with | some b=>.ok (.bl b) | none=>.stuck
section
variable {X:Cx} {e:Expr} {f:DS->Res D} {c:Str} {p cp pos:Pos} {cv:Value} {isF:D->Option Bool}
theorem qx (hI:∀d b,isF d=some b->j8 X.K cv b d) (ha:PD X e f) (hc:∀(pins:List (Addr×Obj)) (σ:St) (H:Hp) (s:Shared) (E:Value->Shared->Prop) (Q:Value->Shared->Prop),Inv X pins σ H s->Q cv s->wpAny (model X.prog X.w) X.A (eval (.Name c cp) X.env) Q E s)
  (hg:Gl X "isinstance") (hm:X.mg "isinstance" = none) (he:starEach [e,.Name c cp] X.env=(false,eval e X.env) :: starEach [.Name c cp] X.env:=by rfl) (he2:starEach [.Name c cp] X.env=[(false,eval (.Name c cp) X.env)]:=by rfl) :
  PD X (.Call (.Name "isinstance" p) [e,.Name c cp] [] pos) (fun δ=>(f δ).bind (iM isF)):=by
 intro pins s σ G H δ I R hs
 try dsimp only at hs ⊢
 refine wpAny_Call_Name_kw (dc' I hg hm (u:=.builtin "isinstance") Q7 ?_ (by decide) (by decide));refine PyProof.Rows.callWith_builtin1 ?_ he (by rw [he2]; rfl);rw [he];show wpAny _ _ (spliced ((false,eval e X.env) :: backTo pos (starEach [.Name c cp] X.env))) _ _ s;refine Calls.spliced_cons (ha.use I R (gq hs) (fun d u s1 v H1 q I1 r1 e1 b1 p1=>?_) fun e s1 q=>q.same fun x z=>gY z);rw [he2];show wpAny _ _ (spliced ((false,eval (.Name c cp) X.env) :: backTo pos [])) _ _ s1;refine Calls.spliced_cons (hc pins σ H1 s1 _ _ I1 (Calls.spliced_nil ?_));have h2:=iD hs q
 cases z:isF d with
 | none=>exact (h2 (by unfold iM; rw [z])).elim
 | some b=>exact Q6 I1 p1 r1 (hI d b z) fun tk=>⟨.bl b,.bl b,H1,by rw [q,Res.bind_ok]; unfold iM; rw [z],I1.tok tk,rfl,e1,xm⟩
theorem uY {T:String} (hg:Gl X c) (hm:X.mg c=none) (hv:bootBuiltins c=some (.type T)) (hn:c≠"__name__":=by decide) (hd:(c == ("__debug__" : Str))=false:=by decide) (pins:List (Addr×Obj)) (σ:St) (H:Hp) (s:Shared) (E:Value->Shared->Prop) (Q:Value->Shared->Prop) (I:Inv X pins σ H s) (h:Q (.type T) s) :
  wpAny (model X.prog X.w) X.A (eval (.Name c cp) X.env) Q E s:=dc' I hg hm hv h hn hd
theorem Ky {C:Addr} (hg:Gl X c) (hm:X.mg c=some (.ref C)) (hd:(c == ("__debug__" : Str))=false:=by decide) (pins:List (Addr×Obj)) (σ:St) (H:Hp) (s:Shared) (E:Value->Shared->Prop) (Q:Value->Shared->Prop) (I:Inv X pins σ H s) (h:Q (.ref C) s) :
  wpAny (model X.prog X.w) X.A (eval (.Name c cp) X.env) Q E s:=v5 I hg hm h hd
end
end DL
namespace DL
open PySem PySem.Spec PyProof.Rows L2
noncomputable def bools:List D->Option (List Bool)
 | []=>some []
 | .bl b :: ds=>(bools ds).map (b :: ·)
 | _=>none
theorem fi':∀{ds:List D} {bs:List Bool} {i:Nat} {d:D},bools ds=some bs->ds[i]? = some d->∃b,d=.bl b/\bs[i]? = some b
 | [],_,_,_,_,e=>by simp at e
 | .bl b :: ds,bs,i,d,h,e=>by
  simp only [bools] at h
  cases q:bools ds with
  | none=>rw [q] at h; cases h
  | some cs =>
   rw [q] at h;simp only [Option.map_some,Option.some.injEq] at h;subst h
   cases i with
   | zero=>simp at e; subst e; exact ⟨b,rfl,by simp⟩
   | succ i =>
    simp at e;obtain ⟨b',e1,e2⟩:=fi' q e;exact ⟨b',e1,by simpa using e2⟩
 | .non :: ds,bs,i,d,h,e=>by simp [bools] at h
 | .int _ :: ds,bs,i,d,h,e=>by simp [bools] at h
 | .str _ :: ds,bs,i,d,h,e=>by simp [bools] at h
 | .tup _ :: ds,bs,i,d,h,e=>by simp [bools] at h
 | .lst _ :: ds,bs,i,d,h,e=>by simp [bools] at h
 | .exc _ :: ds,bs,i,d,h,e=>by simp [bools] at h
 | .excf _ _ _ :: ds,bs,i,d,h,e=>by simp [bools] at h
 | .dct :: ds,bs,i,d,h,e=>by simp [bools] at h
theorem Kz:∀{ds:List D} {bs:List Bool},bools ds=some bs->bs.length=ds.length
 | [],bs,h=>by simp [bools] at h; subst h; rfl
 | .bl b :: ds,bs,h=>by
  simp only [bools] at h
  cases q:bools ds with
  | none=>rw [q] at h; cases h
  | some cs =>
   rw [q] at h;simp only [Option.map_some,Option.some.injEq] at h;subst h;simp [Kz q]
 | .non :: ds,bs,h=>by simp [bools] at h
 | .int _ :: ds,bs,h=>by simp [bools] at h
 | .str _ :: ds,bs,h=>by simp [bools] at h
 | .tup _ :: ds,bs,h=>by simp [bools] at h
 | .lst _ :: ds,bs,h=>by simp [bools] at h
 | .exc _ :: ds,bs,h=>by simp [bools] at h
 | .excf _ _ _ :: ds,bs,h=>by simp [bools] at h
 | .dct :: ds,bs,h=>by simp [bools] at h
theorem range_all (bs:List Bool):(List.range bs.length).all (fun i=>bs.getD i true)=bs.all id:=by
 rw [Bool.eq_iff_iff];simp only [all_eq_true,mem_range,id]
 constructor
 ·intro h b hb;obtain ⟨i,hi,rfl⟩:=mem_iff_getElem.mp hb;have:=h i hi;simpa [List.getD,hi] using this
 ·intro h i hi;have:=h bs[i] (getElem_mem hi);simpa [List.getD,hi] using this
noncomputable def iG:List D->Res D
 | [.lst ds]=>match bools ds with | some bs=>.ok (.bl (bs.all id)) | none=>.stuck
 | _=>.stuck
theorem ey' (ds:List D):aX (iG ds):=by
 unfold iG
 split
 ·split
  ·exact eO
  ·exact dG
 ·exact dG
theorem Q8 {X:Cx} {pins:List (Addr×Obj)} {s:Shared} {σ:St} {H:Hp} {a:Addr} {xs:List V} {ds:List D} {bs:List Bool} {its:List Value} (rv:Vals xs its) (r:Reps X.K H ds xs) (hb:bools ds=some bs) {A:Around} :
  TruthOf X.prog X.w A (fun i v=>its.toArray[i]? = some v) (fun i=>bs.getD i true):=by
 intro i v s Q E hP hQ;have hP':its[i]? = some v:=by simpa using hP
 have hl:i < xs.length:=by rw [rv.length]; exact (List.getElem?_eq_some_iff.mp hP').1
 obtain ⟨d,e1,e2⟩:=r.get' (i:=i) (v:=xs[i]) (by simp [hl]);obtain ⟨b,rfl,e3⟩:=fi' hb e1;obtain ⟨u,e4,e5⟩:=rv.get (i:=i) (x:=xs[i]) (by simp [hl]);rw [hP'] at e4; cases e4;rw [Gz e2] at e5
 cases e5
 refine wpAny_truthy_bool ?_;simpa [List.getD,e3] using hQ
theorem El {X:Cx} (hcalm:X.calm=true):CallD X (.builtin "all") iG:=by
 intro E pins s σ H xs us ds d I r p e;unfold iG at e
 split at e
 ·rename_i es
  split at e
  ·rename_i bs hb
   cases e
   obtain ⟨v,vs,rfl,p1,t⟩:=p.cons_of
   cases t.nil_of
   obtain ⟨u,rfl,rx⟩:=vals1 r;obtain ⟨a,ys,rfl,hq,rs⟩:=fC p1
   cases rx
   obtain ⟨its,rv,pl,hz⟩:=I.list hq;refine call_all_walk (wpAny_pyIter_list pl.isList ?_);have hax:a≠s.heap.objs.size:=by
    obtain ⟨o,_,g,_⟩:=pl;exact Nat.ne_of_lt (Heap.lt_size g)
   have hn:its.toArray.size=bs.length:=by rw [size_toArray,<- rv.length,rs.length,Kz hb]
   refine ⟨_,_,_,_,_,_,fun i=>bs.getD i true,rfl,Walks.list (A:=X.A.in1) (show X.A.in1.handled=none from I.ok.hd hcalm) s.heap.objs.size a hax its.toArray,⟨⟨_,Heap.get?_push_size _ rfl,rfl,rfl⟩,(let ⟨o,g,r⟩:=pl.isList; ⟨o,Heap.get?_push_of_some _ g,r⟩)⟩,Q8 (X:=X) (pins:=pins) (s:=s) (σ:=σ) (H:=H) (a:=a) rv rs hb,fun h' tk hk=>?_⟩
   rw [hn,range_all];have k:∀b o,s.heap.get? b=some o->h'.get? b=some o:=fun b o e=>hk b o (by
    intro z;have:b=s.heap.objs.size:=by simpa using z
    exact absurd (Heap.lt_size e) (by rw [this]; exact Nat.lt_irrefl _)) (Heap.get?_push_of_some _ e)
   exact ⟨_,.bl _,H,rfl,I.kept (t':=tk) k,rfl,Same.refl H,xm⟩
  ·cases e
 ·cases e
noncomputable def KC (X:Cx) (id:String) (g:D->List D->Res D):Prop :=
 ∀(E:Value->Shared->Prop) (pins:List (Addr×Obj)) (s:Shared) (σ:St) (H:Hp) (x:V) (xs:List V) (v:Value) (us:List Value) (a:D) (ds:List D) (d:D),Inv X pins σ H s->RelV x v->Vals xs us->Rep X.K H a x->Reps X.K H ds xs->g a ds=.ok d ->
  wpAny (model X.prog X.w) X.A (call (.builtin id) (v :: us)) (EPost X pins σ H (.ok d)) E s
noncomputable def KD (T:String):D->Prop
 | .str _=>T = "str"
 | .int _=>T = "int"
 | .lst _=>T = "list"
 | _=>False
section
variable {X:Cx} {o e:Expr} {es:List Expr} {fo:DS->Res D} {fs:DS->Res (List D)} {name:Str} {apos cpos:Pos} {T id:String} {g:D->List D->Res D}
theorem no' {H:Hp} {d:D} {v:V} (ty:KD T d) (p:Rep X.K H d v):JX X.K T v H:=by
 cases d with
 | str z=>rw [Rep] at p; subst p; exact ty
 | int z=>rw [Rep] at p; subst p; exact ty
 | lst ds=>obtain ⟨a,xs,rfl,hq,_⟩:=fC p; exact .inl ⟨ty,xs,hq⟩
 | _=>exact ty.elim
theorem Q9 (pa:PlainAttrs T) (slot:Slot T name id) (hty:typeOf (.builtin id)=pure (.type "method_descriptor")) (hm:KC X id g) (hne:∀d ds,aX (g d ds)) (hT:∀d ds r,g d ds=.ok r->KD T d) (ho:PD X o fo)
  (hbase:attributeBase o name X.env (eval o X.env)=eval o X.env:=by rfl) (hline:(apos.endLine == cpos.line)=true:=by rfl):PD X (.Call (.Attribute o name apos) [] [] cpos) (fun δ=>(fo δ).bind fun d=>g d []):=by
 intro pins s σ G H δ I R hs
 try dsimp only at hs ⊢
 refine wpAny_Call_method0_late hbase hline (ho.use I R (gq hs) (fun d u s1 v H1 q I1 r1 e1 b1 p1=>?_) fun e s1 q=>q.same fun x z=>gY z);have h2:=iD hs q
 cases qg:g d [] with
 | stuck=>exact (h2 qg).elim
 | err z=>exact (hne d [] z qg).elim
 | ok r =>
  obtain ⟨h1,h3⟩:=Qf I1 r1 (no' (hT d [] r qg) p1);exact ⟨T,id,pa,slot,hty,h1,h3,Calls.callWith_builtin rfl (PySem.evalArgs_none (gn (hm _ pins s1 σ H1 v [] u [] d [] r I1 r1 .nil p1 Reps.nil qg) fun w s2 p=>p.from e1 (by rw [q,Res.bind_ok,qg])))⟩
end
noncomputable def iV:D->List D->Res D
 | .int i,[]=>.ok (.int (aK i))
 | _,_=>.stuck
theorem Q_ {X:Cx}:KC X "int.bit_length" iV:=by
 intro E pins s σ H x xs v us a ds d I r1 r2 p1 p2 e;unfold iV at e
 split at e
 ·rename_i i
  cases e
  cases p2.nil_of
  cases r2
  rw [c7 p1] at r1;obtain ⟨t,rfl⟩:=r1;exact PyProof.Rows.call_int_bit_length ⟨_,.int _,H,rfl,I.tok _,⟨_,rfl⟩,Same.refl H,j6⟩
 ·cases e
theorem Ra {X:Cx} {o:Expr} {fo:DS->Res D} {apos cpos:Pos} (ho:PD X o fo) (hbase:attributeBase o "bit_length" X.env (eval o X.env)=eval o X.env:=by rfl) (hline:(apos.endLine == cpos.line)=true:=by rfl) :
  PD X (.Call (.Attribute o "bit_length" apos) [] [] cpos) (fun δ=>(fo δ).bind fun d=>iV d []) :=
 Q9 PySem.F.plainAttrs_int PySem.F.slot_int_bit_length PySem.F.type_int_bit_length Q_ (fun d ds x=>by unfold iV; split <;> (intro z; cases z)) (fun d ds r h=>by
  unfold iV at h
  split at h
  ·rfl
  ·cases h) ho hbase hline
noncomputable def aq {α:Type} (f:DS->Res α) (g:α->Res D):DS->Res D:=fun δ=>(f δ).bind g
noncomputable def bindL (f:DS->Res D) (g:D->Res (List D)):DS->Res (List D):=fun δ=>(f δ).bind g
noncomputable def aF (f:DS->Res D) (g:D->Res Bool):DS->Res Bool:=fun δ=>(f δ).bind g
noncomputable def dI (t:DS->Res Bool):DS->Res Bool:=fun δ=>(t δ).bind fun c=>.ok (!c)
noncomputable def aZ (f:DS->Res (List D)):DS->Res D:=fun δ=>lL (f δ)
noncomputable def jx (f:DS->Res (List D)):DS->Res D:=fun δ=>gw (f δ)
noncomputable def pY:D->Res D
 | .int i=>.ok (.int (-i))
 | _=>.stuck
noncomputable def gF (f:DS->Res D):DS->Res D:=fun δ=>(f δ).bind pY
noncomputable def aH (f:DS->Res D):DS->Out:=fun δ=>j7 (f δ) δ Out.ret
noncomputable def pA (f:DS->Res D):DS->Out:=fun δ=>j7 (f δ) δ fun _=>.nxt δ
noncomputable def bZ (t:DS->Res Bool) (a b:DS->Out):DS->Out:=fun δ=>xr (t δ) δ fun k=>if k=true then a δ else b δ
noncomputable def iW (fuel:DS->Nat) (c:DS->Res Bool) (b:DS->Out):DS->Out:=fun δ=>bJ c b (fuel δ) δ
noncomputable def bF (i:Nat):gb:=fun d δ=>some (δ.set i (some (.val d)))
theorem iY {X:Cx} {a:Expr} {fa:DS->Res D} {pos:Pos} (ha:PD X a fa):PD X (.UnaryOp .USub a pos) (gF fa) :=
 Qs (g:=pY) (fun E pins s σ H x v d r I r1 p1 e=>by
  cases d with
  | int i =>
   simp only [pY,Res.ok.injEq] at e;subst e;exact wpAny_mono (O9 (X:=X.wish fun _ _=>False) pins s σ H x v (fun z H'=>z=.int (-i)/\H'=H) (I.wish _) r1 ⟨i,c7 p1,rfl,rfl⟩) (fun u s1 ⟨z,H1,I1,r2,e1,e2⟩=>by
    subst e1 e2;exact ⟨_,_,_,rfl,I1.unwish,r2,Same.refl _,j6⟩) fun _ _ z=>z.elim
  | _=>simp [pY] at e) (fun x=>by cases x <;> first | exact dG | exact eO) ha
theorem nu {m i:Nat} (h:i < m):fG m (bF i):=by
 intro d δ δ1 e;simp only [bF,Option.some.injEq] at e;subst e;exact ⟨by simp,fun j hj=>by rw [List.getElem?_set_ne (by omega)]⟩
theorem G4 {f:DS->Res D} {δ:DS} {ds:List D} (h:aj f (fun _=>.ok []) δ=.ok ds):ds.length<=sizeLine:=by
 unfold aj at h
 cases q:f δ with
 | stuck=>rw [q] at h; cases h
 | err x=>rw [q] at h; cases h
 | ok d=>rw [q] at h; cases h; show 1<=sizeLine; decide
theorem hk' {scope:Scope} {env:Env} (hf:∀y∈scope.names,y.2≠.free):relabel scope env=scope:=by
 unfold relabel;have:(scope.names.map fun x=>match x with | (n,k)=>if (k == .free && env.scope.kind == .function && env.kindOf n == some .cell)=true then (n,NameKind.cell) else (n,k))=scope.names:=by
  refine map_eq_self fun x hx=>?_;obtain ⟨n,k⟩:=x;have:(k == NameKind.free)=false:=by simpa using hf _ hx
  simp [this]
 show { scope with names:=_ }=scope
 rw [this]
theorem vD {X:Cx} {m:Nat} {N':List Str} {scope:Scope} (hf:∀y∈scope.names,y.2≠.free:=by decide +kernel) (hc:∀y∈scope.names,y.2≠.cell:=by decide +kernel) (hk:scope.kind=.function:=by rfl)
  (hn:∀x∈scope.names,x.2=.local->scope.names.lookup x.1=some .local:=by decide +kernel) (hl:N'.length=m:=by rfl):Around' X m [] N' scope [] where
 clos:=closureFor_none hf
 nocell:=hc
 kind:=hk
 names:=hn
 sub:=fun x c h=>by simp at h
 has:=fun x h=>by
  exfalso;rw [hk' hf] at h;rcases h with h | h
  ·exact hc _ (PySem.mem_of_lookup h) rfl
  ·exact hf _ (PySem.mem_of_lookup h) rfl
 len:=by simpa using hl
 free:=fun j i h=>by simp at h
theorem G5 {K:Frag} {H:Hp} {i:Str}:Rep K H (.str i) (.str i):=by rw [Rep]
theorem zP {K:Frag} {H:Hp} {i:Bool}:Rep K H (.bl i) (.bl i):=by rw [Rep]
noncomputable def cL:D->D->Res D
 | .exc _,.non=>.ok (.bl false)
 | .non,.non=>.ok (.bl true)
 | .int _,.non=>.ok (.bl false)
 | .bl _,.non=>.ok (.bl false)
 | .str _,.non=>.ok (.bl false)
 | .tup _,.non=>.ok (.bl false)
 | .lst _,.non=>.ok (.bl false)
 | _,_=>.stuck
noncomputable def bW (x y:D):Res D:=(cL x y).bind fun d=>match d with | .bl b=>.ok (.bl (!b)) | _=>.stuck
theorem G6 (x y:D):aX (cL x y):=by cases x <;> cases y <;> first | exact dG | exact eO
theorem G7 (x y:D):aX (bW x y):=by cases x <;> cases y <;> first | exact dG | exact eO
noncomputable def nM:List D->Res D
 | [.int i]=>.ok (.int i)
 | [.bl k]=>.ok (.int (if k then 1 else 0))
 | [.str x]=>if x.length<=640 then (match PySem.intText? x with | some n=>.ok (.int n) | none=>.stuck) else .stuck
 | _=>.stuck
theorem ne_int (ds:List D):aX (nM ds):=by
 unfold nM
 split <;> first | exact eO | exact dG | skip
 refine nG ?_ dG
 split <;> first | exact eO | exact dG
section
variable {X:Cx}
theorem KH {K:Frag} {H:Hp} {a b d:D} {x y:V} (p1:Rep K H a x) (p2:Rep K H b y) (e:cL a b=.ok d):y=.non/\d=.bl (decide (x=.non)):=by
 cases b <;> (try (cases a <;> cases e))
 all_goals (rw [Rep] at p2; subst p2)
 all_goals (refine ⟨rfl,?_⟩)
 ·rw [Rep] at p1; subst p1; rfl
 ·rw [Rep] at p1; subst p1; rfl
 ·rw [Rep] at p1; subst p1; rfl
 ·rw [Rep] at p1; subst p1; rfl
 ·obtain ⟨_,_,rfl,_⟩:=fB p1; rfl
 ·obtain ⟨_,_,rfl,_⟩:=fC p1; rfl
 ·rw [Rep] at p1; obtain ⟨_,_,rfl,_⟩:=p1; rfl
theorem KJ:OpD X (compareOp .Is) cL:=.of (fun _=>Pb) fun H x y a b d Q p1 p2 e q=>by
 obtain ⟨h1,rfl⟩:=KH p1 p2 e;exact ⟨h1,q _ H (Same.refl H) zP⟩
theorem G8:OpD X (compareOp .IsNot) bW:=.of (fun _=>Pg) fun H x y a b d Q p1 p2 e q=>by
 unfold bW at e
 cases z:cL a b with
 | ok r =>
  rw [z,Res.bind_ok] at e;obtain ⟨h1,rfl⟩:=KH p1 p2 z
  cases e
  exact ⟨h1,q _ H (Same.refl H) zP⟩
 | err _=>exact (G6 a b _ z).elim
 | stuck=>rw [z] at e; cases e
theorem KN:CallD X (.type "int") nM:=by
 intro E pins s σ H xs us ds d I r p e;unfold nM at e
 split at e
 ·rename_i i
  cases e
  obtain ⟨v,vs,rfl,p1,t⟩:=p.cons_of
  cases t.nil_of
  rw [c7 p1] at r;obtain ⟨u,rfl,t,rfl⟩:=vals1 r;exact call_int_int ⟨_,.int i,H,rfl,I,⟨_,rfl⟩,Same.refl H,j6⟩
 ·rename_i k
  cases e
  obtain ⟨v,vs,rfl,p1,t⟩:=p.cons_of
  cases t.nil_of
  rw [Rep] at p1;subst p1;obtain ⟨u,rfl,r1⟩:=vals1 r
  cases r1
  exact call_int_bool ⟨_,.int (if k then 1 else 0),H,rfl,I.tok _,⟨_,rfl⟩,Same.refl H,j6⟩
 ·rename_i x
  split at e
  ·rename_i hl
   split at e
   ·rename_i n hn
    cases e
    obtain ⟨v,vs,rfl,p1,t⟩:=p.cons_of
    cases t.nil_of
    rw [nH p1] at r;obtain ⟨u,rfl,t,rfl⟩:=vals1 r;exact KIN.call_text hn hl ⟨_,.int n,H,rfl,I.tok _,⟨_,rfl⟩,Same.refl H,j6⟩
   ·cases e
  ·cases e
 ·cases e
end
noncomputable def zQ:SV->SV
 | .val d=>.val d
 | .arg d=>.val d
 | .own ds=>.val (.lst ds)
noncomputable def thaw2:SV->SV
 | .val d=>.val d
 | .arg d=>.val d
 | .own ds=>.own ds
noncomputable def thaw (δ:DS):DS:=δ.map (Option.map zQ)
noncomputable def gO:Out->Out
 | .nxt δ=>.nxt (δ.map (Option.map thaw2))
 | .brk δ=>.brk (δ.map (Option.map thaw2))
 | .cnt δ=>.cnt (δ.map (Option.map thaw2))
 | .ret d=>.ret d
 | .err x δ=>.err x δ
 | .stuck=>.stuck
theorem RepSt.thaw {K:Frag} {G H:Hp} {σ:St} {δ:DS} (R:RepSt K G H σ δ):RepSt K H H σ (thaw δ) where
 same:=Same.refl H
 len:=by unfold DL.thaw; rw [length_map]; exact R.len
 at_:=fun i sv h=>by
  unfold DL.thaw at h;rw [List.getElem?_map] at h
  cases z:δ[i]? with
  | none=>rw [z] at h; cases h
  | some o =>
   cases o with
   | none=>rw [z] at h; cases h
   | some sv0 =>
    rw [z] at h
    cases h
    obtain ⟨v,e1,e2⟩:=R.view z;refine ⟨v,e1,?_⟩
    cases sv0 <;> exact e2
 sep:=fun i j ds es v _ h=>by
  unfold DL.thaw at h;rw [List.getElem?_map] at h
  cases z:δ[i]? with
  | none=>rw [z] at h; cases h
  | some o =>
   cases o with
   | none=>rw [z] at h; cases h
   | some sv0=>rw [z] at h; cases sv0 <;> cases h
theorem RepSt.thaw2 {K:Frag} {G G' H:Hp} {σ:St} {δ:DS} (R:RepSt K G' H σ δ) (e:Same G G'):RepSt K G H σ (δ.map (Option.map thaw2)) where
 same:=e.trans R.same
 len:=by rw [length_map]; exact R.len
 at_:=fun i sv h=>by
  rw [List.getElem?_map] at h
  cases z:δ[i]? with
  | none=>rw [z] at h; cases h
  | some o =>
   cases o with
   | none=>rw [z] at h; cases h
   | some sv0 =>
    rw [z] at h
    cases h
    cases sv0 with
    | val d=>exact R.at_ i _ z
    | arg d =>
     obtain ⟨v,e1,e2⟩:=R.at_ i _ z;exact ⟨v,e1,Rep.mono R.same e2⟩
    | own ds =>
     obtain ⟨v,e1,a,xs,q1,q2,q3,q4⟩:=R.at_ i _ z;exact ⟨v,e1,a,xs,q1,q2,q3,e.free q4⟩
 sep:=fun i j ds es v hij h1 h2 h3=>by
  have get:∀(k:Nat) (fs:List D),(δ.map (Option.map DL.thaw2))[k]? = some (some (.own fs))->δ[k]? = some (some (.own fs)):=fun k fs h=>by
   rw [List.getElem?_map] at h
   cases z:δ[k]? with
   | none=>rw [z] at h; cases h
   | some o =>
    cases o with
    | none=>rw [z] at h; cases h
    | some sv0 =>
     rw [z] at h
     cases sv0 <;> cases h
     rfl
  exact R.sep i j ds es v hij (get i ds h1) (get j es h2) h3
theorem NOut.thaw {X:Cx} {G H:Hp} {o:Out} {E:Ends} (e:Same G H) (h:NOut X G H (gO o) E):NOut X H H o E:=by
 cases o with
 | stuck=>exact h
 | nxt δ=>exact fun σ' H' t r=>h σ' H' t (r.thaw2 e)
 | brk δ=>exact fun σ' H' t r=>h σ' H' t (r.thaw2 e)
 | cnt δ=>exact fun σ' H' t r=>h σ' H' t (r.thaw2 e)
 | ret d=>exact fun v H' t g r=>h v H' t (e.trans g) r
 | err x δ=>exact h
theorem PID.pi {X:Cx} {tg iter:Expr} {f:DS->Res (List D)} (h:PID X tg iter f):PI X.nox tg iter (fun σ H R=>∃G δ ds,RepSt X.K G H σ δ/\f δ=.ok ds/\∀J H',Same H H'->dj X.K J H' ds->R J H'):=by
 intro pins s σ H R I ⟨G,δ,ds,RR,q,n⟩;refine wpAny_mono (h pins s σ G H δ I.unwish RR (by rw [q]; intro z; cases z)) (fun v s1 p=>?_) fun e s1 p=>?_
 ·refine wpAny_mono p (fun itv s2 ⟨ds',it,fp,tn,J,H',q1,q2,I2,T,t0,hf,e2,y⟩=>?_) fun e s2 p=>?_
  ·rw [q] at q1; cases q1;exact ⟨it,fp,tn,J,H',q2,I2.wish _,T,t0,hf,n J H' e2 y⟩
  ·rw [q] at p; exact p.none
 ·rw [q] at p; exact p.none
noncomputable def lN (t:gb) (fi:DS->Res (List D)) (b:DS->Out):DS->Out:=fun δ=>Ej (fi δ) fun ds=>gO (di t b ds (thaw δ))
section
variable {X:Cx} {tg iter:Expr} {body:List Stmt} {t:gb} {fb:DS->Out} {pos:Pos}
theorem ht' {J:It} {ds:List D} {H0:Hp} {E:Ends} (y:dj X.K J H0 ds) {δ:DS} {σ:St} (R:RepSt X.K H0 H0 σ δ) (h:NOut X H0 H0 (di t fb ds δ) E) :
  ∃W:Nat->Nat->St->Hp->Prop,(∃m,W 0 m σ H0)/\∀i m σ H,W i m σ H ->
   (J.stop i H/\E.nx σ H)\/(J.go i H/\∃N:St->Hp->Prop,(∀σ' H',N σ' H'->∃m',m' < m/\W (i + 1) m' σ' H')/\∀x H',J.yld i H x H'->gD X t x σ H' fun σ2 H2=>sD X fb { E with nx:=N,ct:=N,bk:=E.nx } σ2 H2):=by
 refine ⟨fun i m σ H=>i + m=ds.length/\∃δ',RepSt X.K H0 H σ δ'/\NOut X H0 H (di t fb (ds.drop i) δ') E,⟨ds.length,by omega,δ,R,by simpa using h⟩,?_⟩
 rintro i m σ1 H1 ⟨hm,δ1,R1,h1⟩
 obtain ⟨y1,y2⟩:=y H1 R1.same
 by_cases hi:i < ds.length
 ·right
  have hd:ds[i]? = some ds[i]:=List.getElem?_eq_getElem hi;obtain ⟨go,yl⟩:=y1 i ds[i] hd;refine ⟨go,fun σ' H'=>(i + 1) + (m - 1)=ds.length/\∃δ',RepSt X.K H0 H' σ' δ'/\NOut X H0 H' (di t fb (ds.drop (i + 1)) δ') E,fun σ' H' n=>⟨m - 1,by omega,n⟩,fun x H' yx=>?_⟩;obtain ⟨e,p⟩:=yl x H' yx;rw [drop_eq_getElem_cons hi] at h1;exact QL (R1.mono e) p (h1.tk e.tk) fun δ' σ' H'' _ r z=>⟨by omega,δ',r,z⟩
 ·left
  have e:i=ds.length:=by omega
  subst e;rw [drop_eq_nil_of_le (Nat.le_refl _)] at h1;exact ⟨y2,h1 σ1 H1 (TK.refl H1) R1⟩
theorem Rb {o:Out} (h:∀x δ',o≠.err x δ') (x:Exn) (δ':DS):gO o≠.err x δ':=by
 cases o with
 | err y δ=>exact (h y δ rfl).elim
 | _=>intro z; cases z
theorem zR {fi:DS->Res (List D)} (hc:X.calm=true) (hi:PID X tg iter fi) (hg:PGD X tg t) (hb:PSDs X body fb) (hf:∀x,foldedSetIterable iter X.env x=pure x:=by intro _; rfl) :
  PSD X (.For tg iter body [] pos) (lN t fi fb):=by
 refine Kg (fun δ=>QK fun ds=>Rb (iq' t fb ds (thaw δ))) fun pins s σ H E I h=>?_;obtain ⟨G,δ,R,h⟩:=h;refine O5 (X:=X.nox) PassesOwn.never hc hi.pi hg.pg hb.ps hf pins s σ H E I ?_;unfold lN at h
 cases q:fi δ with
 | stuck=>simp only [q] at h; exact h.elim
 | err x=>simp only [q] at h; exact h.elim
 | ok ds =>
  simp only [q] at h;refine ⟨G,δ,ds,R,q,fun J H1 e1 y=>?_⟩;have R1:=(R.mono e1);exact ht' y R1.thaw (NOut.thaw R1.same (h.tk e1.tk))
end
section
open HT
variable {prog:Program} {w:World} {A:Around} {E:Value->Shared->Prop} {s:Shared}
theorem Rc {t sl:Addr} {items:Array Value} {vl vu:Value} {lo hi:Option Int} {Q:Value->Shared->Prop} (ht:IsTup s.heap t items) (hs:s.heap.IsSliceOf sl vl vu .none) (pl:IsPart vl lo) (pu:IsPart vu hi)
  (hw:sIx items.size 0 lo=0/\sIx items.size items.size hi=items.size) (h:Q (.ref t) s):wpAny (model prog w) A (getItem (.ref t) (.ref sl)) Q E s:=by
 obtain ⟨os,hos,hcs,hds⟩:=id hs;unfold getItem;refine wpAny_holding (wpAny_bind (wpAny_sequenceKey ht.typeIs (by decide) ?_));refine wpAny_bind (wpAny_callSpecial?_slot (name:=Str.ofString "__getitem__") ht.typeIs PyProof.Rows.slot_tuple_getitem (wpAny_call_entry PyProof.Rows.slot_tuple_getitem ht.typeIs entry_tuple_getitem ?_ (args_tuple_getitem _ _)));show wpAny _ _ (Builtin.Tuple.tupleItemsOf (.ref t) >>= _) _ _ s;refine wpAny_bind (tupleItemsOf_ ht (wpAny_bind (wpAny_typeOf ⟨os,hos,hcs⟩ ?_)));rw [if_pos (by decide)];refine wpAny_bind (JT hs pl pu ?_);obtain ⟨w1,w2⟩:=hw;have hc:(((sIx items.size 0 lo:Nat):Int) == 0 && (1:Int) == 1 && (sIx items.size items.size hi - sIx items.size 0 lo) == items.size)=true:=by
  rw [w1,w2]; simp
 show wpAny _ _ (if (((sIx items.size 0 lo:Nat):Int) == 0 && (1:Int) == 1 && (sIx items.size items.size hi - sIx items.size 0 lo) == items.size)=true then _ else _) _ _ s
 rw [if_pos hc];refine wpAny_bind (m:=Builtin.Tuple.tupleIsExact _) (wpAny_bind (wpAny_typeOf ht.typeIs (wpAny_pure ?_)));rw [if_pos (by decide)];exact wpAny_bind (wpAny_rule (wpAny_pure ⟨_,rfl,wpAny_pure h⟩))
end
noncomputable def zT (K:Frag):V->Option Int->Option Int->Hp->VK->Prop:=fun x lo hi H Q=>∃a xs,x=.ref a/\SqT K H a xs/\(HT.sIx xs.length 0 lo=0/\HT.sIx xs.length xs.length hi=xs.length)/\Q (.ref a) H
theorem Rf {X:Cx}:SlR X (zT X.K):=by
 intro pins s σ H x v vl vu lo hi sl Q I rx hs pl pu h;obtain ⟨a,xs,rfl,hx,hw,q⟩:=h
 cases rx
 obtain ⟨its,r,ht,hz⟩:=I.tuple hx;have hlen:its.toArray.size=xs.length:=by rw [size_toArray]; exact r.length.symm
 exact ⟨"tuple",_,PyProof.Rows.slot_tuple_getitem.lookup,ht.typeIs,Rc ht hs pl pu (by rw [hlen]; exact hw) ⟨.ref a,H,I,rfl,q⟩⟩
noncomputable def zU (X:Cx) (pins:List (Addr×Obj)) (σ:St) (H:Hp) (r:Res (Option Int)) (u:Value) (s1:Shared):Prop:=∃o H1,r=.ok o/\Inv X pins σ H1 s1/\IsPart u o/\Same H H1
noncomputable def POD (X:Cx) (e:Option Expr) (f:DS->Res (Option Int)):Prop :=
 ∀(pins:List (Addr×Obj)) (s:Shared) (σ:St) (G H:Hp) (δ:DS),Inv X pins σ H s->RepSt X.K G H σ δ->f δ≠.stuck ->
  wpAny (model X.prog X.w) X.A (evalPart e X.env) (zU X pins σ H (f δ)) (XPost X pins σ H s.heap (f δ)) s
noncomputable def qN:D->Res (Option Int)
 | .int i=>.ok (some i)
 | _=>.stuck
noncomputable def bu:DS->Res (Option Int):=fun _=>.ok none
noncomputable def bL (f:DS->Res D):DS->Res (Option Int):=fun δ=>(f δ).bind qN
noncomputable def f9 (ds:List D) (lo hi:Option Int):List D:=(ds.drop (HT.sIx ds.length 0 lo)).take (HT.sIx ds.length ds.length hi - HT.sIx ds.length 0 lo)
noncomputable def cutD (d:D) (lo hi:Option Int):Res D:=match d with
 | .str z=>if z.length<=sizeLine then .ok (.str (Txt.slice z lo hi)) else .stuck
 | .lst ds=>.ok (.lst (f9 ds lo hi))
 | .tup ds=>.ok (.tup (f9 ds lo hi))
 | _=>.stuck
noncomputable def bj (fe:DS->Res D) (fl fu:DS->Res (Option Int)):DS->Res D:=fun δ=>(fe δ).bind fun d=>(fl δ).bind fun l=>(fu δ).bind fun u=>cutD d l u
theorem Rg (d:D) (lo hi:Option Int):aX (cutD d lo hi):=by
 unfold cutD; split <;> first | exact eO | exact dG | exact nG eO dG
theorem Reps.take' {K:Frag} {H:Hp}:∀(n:Nat) {ds:List D} {vs:List V},Reps K H ds vs->Reps K H (ds.take n) (vs.take n)
 | 0,_,_,_=>by simp only [take_zero]; exact Reps.nil
 | n + 1,[],_,h=>by cases h.nil_of; exact Reps.nil
 | n + 1,d :: ds,_,h=>by
  obtain ⟨v,vs,rfl,r,q⟩:=h.cons_of;exact Reps.cons r (Reps.take' n q)
theorem Reps.cut {K:Frag} {H:Hp} {ds:List D} {vs:List V} (h:Reps K H ds vs) (lo hi:Option Int):Reps K H (f9 ds lo hi) (lK vs lo hi):=by
 unfold f9 lK;rw [h.length];exact Reps.take' _ (Reps.drop _ h)
section
variable {X:Cx} {e:Expr} {fe:DS->Res D} {lo hi:Option Expr} {fl fu:DS->Res (Option Int)} {pos p2:Pos}
theorem gj:POD X none bu:=by
 intro pins s σ G H δ I R _;rw [evalPart_none];exact wpAny_pure ⟨none,H,rfl,I,.none,Same.refl H⟩
theorem gk (h:PD X e fe):POD X (some e) (bL fe):=by
 intro pins s σ G H δ I R hs;unfold bL at hs ⊢;rw [evalPart_some];refine h.use I R (gq hs) (fun d u s1 v H1 q I1 r1 e1 b1 p1=>?_) fun e s1 q=>q.same fun x z=>gY z;have h2:=iD hs q
 cases d with
 | int i =>
  rw [c7 p1] at r1;obtain ⟨t,rfl⟩:=r1;exact ⟨some i,H1,by rw [q]; rfl,I1,.int i t,e1⟩
 | _=>exact (h2 rfl).elim
theorem POD.use {pins:List (Addr×Obj)} {s:Shared} {σ:St} {G H:Hp} {δ:DS} (h:POD X lo fl) (I:Inv X pins σ H s) (R:RepSt X.K G H σ δ) (hs:fl δ≠.stuck) {P E:Value->Shared->Prop}
  (k:∀o u s1 H1,fl δ=.ok o->Inv X pins σ H1 s1->IsPart u o->Same H H1->Back H s.heap s1.heap->P u s1)
  (kx:∀e s1,XPost X pins σ H s.heap (fl δ) e s1->E e s1):wpAny (model X.prog X.w) X.A (evalPart lo X.env) P E s:=by
 refine wpAny_mono (h (pins ++ jr X H s.heap) s σ G H δ I.all R hs) (fun u s1 ⟨o,H1,q1,q2,q3,q4⟩=>k o u s1 H1 q1 q2.unpinned q3 q4 (I.backTo q2)) fun e s1 ⟨x,a,C,H1,q1,q2,q3,q4,q5,q6⟩=>kx e s1 ⟨x,a,C,H1,q1,q2,q3.unpinned,q4,q5,q6⟩
noncomputable def zV:V->Option Int->Option Int->Hp->VK->Prop:=fun x lo hi H Q=>∃z,x=.str z/\z.length<=sizeLine/\Q (.str (Txt.slice z lo hi)) H
theorem sl_str:SlR X zV:=by
 intro pins s σ H x v vl vu lo hi sl Q I rx hs pl pu h;obtain ⟨z,rfl,hz,q⟩:=h;obtain ⟨t,rfl⟩:=rx;refine ⟨"str",_,PySem.F.slot_str_getitem.lookup,typeIs_str _ _ _,?_⟩;have hl:∃l:Option (Int×Tok),vl=partValue l/\l.map (·.1)=lo:=by
  cases pl with
  | none=>exact ⟨none,rfl,rfl⟩
  | int i t=>exact ⟨some (i,t),rfl,rfl⟩
 have hu:∃u:Option (Int×Tok),vu=partValue u/\u.map (·.1)=hi:=by
  cases pu with
  | none=>exact ⟨none,rfl,rfl⟩
  | int i t=>exact ⟨some (i,t),rfl,rfl⟩
 obtain ⟨l,rfl,rfl⟩:=hl;obtain ⟨u,rfl,rfl⟩:=hu;refine wpAny_getItem_str_slice (l:=l) (u:=u) (st:=none) hs rfl ?_;exact post_val_or_str ⟨Nat.le_trans (Txt.slice_le z _ _) hz,fun t' k=>⟨.str _,H,I.tok _,⟨_,rfl⟩,q⟩⟩
theorem Rh {H:Hp} {d r:D} {v:V} {lo hi:Option Int} (p:Rep X.K H d v) (e:cutD d lo hi=.ok r):(fun x lo hi H Q=>zV x lo hi H Q\/zM X.K x lo hi H Q\/zG X.K x lo hi H Q\/zT X.K x lo hi H Q) v lo hi H (fun z H'=>Same H H'/\Rep X.K H' r z):=by
 unfold cutD at e
 split at e
 ·rename_i z
  split at e
  ·rename_i hz
   cases e
   exact .inl ⟨z,nH p,hz,Same.refl H,G5⟩
  ·cases e
 ·rename_i ds
  cases e
  obtain ⟨a,xs,rfl,hq,rr⟩:=fC p;exact .inr (.inl ⟨a,xs,rfl,hq,fun p hp=>⟨iU hp _,vB (SqL.of gW) ((rr.cut _ _).mono (iU hp _))⟩⟩)
 ·rename_i ds
  cases e
  obtain ⟨a,xs,rfl,hq,rr⟩:=fB p
  by_cases hw:HT.sIx ds.length 0 lo=0/\HT.sIx ds.length ds.length hi=ds.length
  ·have ec:f9 ds lo hi=ds:=by unfold f9; rw [hw.1,hw.2]; simp
   exact .inr (.inr (.inr ⟨a,xs,rfl,hq,by rw [rr.length]; exact hw,Same.refl H,by rw [ec]; exact pX hq rr⟩))
  ·exact .inr (.inr (.inl ⟨a,xs,rfl,hq,by rw [rr.length]; exact hw,fun p hp=>⟨iU hp _,pX (SqT.of gW) ((rr.cut _ _).mono (iU hp _))⟩⟩))
 ·cases e
theorem gm (he:PD X e fe) (hl:POD X lo fl) (hu:POD X hi fu):PD X (.Subscript e (.Slice lo hi none p2) pos) (bj fe fl fu):=by
 intro pins s σ G H δ I R hs;unfold bj at hs ⊢;refine Subscript_ (he.use I R (gq hs) (fun d v s1 x H1 q I1 r1 e1 b1 p1=>?_) fun e s1 q=>q.same fun x z=>gY z);have h2:=iD hs q;rw [q,Res.bind_ok];refine wpAny_Slice (hl.use I1 (R.mono e1) (gq h2) (fun l vl s2 H2 q2 I2 pl e2 b2=>?_) fun e s2 p=>p.back e1 b1 fun x z=>gY z);have h3:=iD h2 q2;rw [q2,Res.bind_ok];refine hu.use I2 ((R.mono e1).mono e2) (gq h3) (fun u vu s3 H3 q3 I3 pu e3 b3=>?_) fun e s3 p=>(p.back e2 b2 (r':=(fu δ).bind fun u=>cutD d l u) fun x z=>gY z).back e1 b1 fun x z=>z;have h4:=iD h3 q3;rw [q3,Res.bind_ok,evalPart_none];refine wpAny_pure ?_;have I4:Inv X pins σ H3 { s3 with heap:=s3.heap.push { cls:=.type "slice",data:=.fields #[vl,vu,.none] } }:=I3.kept (t':=s3.toks) fun b ob q=>Heap.get?_push_of_some _ q
 cases qg:cutD d l u with
 | stuck=>exact (h4 qg).elim
 | err z=>exact (Rg d l u z qg).elim
 | ok r =>
  obtain ⟨T,id,hT,ht,hg⟩:=(sl_str.or (sl_list.or (sl_tup.or Rf)):SlR X.nox _) pins { s3 with heap:=s3.heap.push { cls:=.type "slice",data:=.fields #[vl,vu,.none] } } σ H3 x v vl vu l u s3.heap.objs.size _ (I4.wish _) r1 (Heap.IsSliceOf.new ..) pl pu (Rh (X:=X) ((p1.mono e2).mono e3) qg)
  show wpAny (model X.prog X.w) X.A (subscriptTail e (.Slice lo hi none p2) v (.ref s3.heap.objs.size)) _ _ { s3 with heap:=s3.heap.push { cls:=.type "slice",data:=.fields #[vl,vu,.none] } }
  refine wpAny_mono (tail_any (ops:=[.ref s3.heap.objs.size,v]) ht hT hg (by with_unfolding_all rfl)) (fun w s4 q4=>?_) fun _ _ z=>z.elim;obtain ⟨z,H4,I5,r5,e5,p5⟩:=q4;exact ⟨r,z,H4,rfl,I5.unwish,r5,((e1.trans e2).trans e3).trans e5,p5⟩
end
mutual
noncomputable def bQ:D->Bool
 | .tup ds=>aR ds
 | .lst _=>false
 | .excf _ _ _=>false
 | _=>true
noncomputable def aR:List D->Bool
 | []=>true
 | d :: ds=>bQ d && aR ds
end
mutual
theorem Rep.lset {K:Frag} {H:Hp} {a:Addr} {xs ys:List V} (hH:H a=some (.lst xs)):∀{d:D} {v:V},bQ d=true->Rep K H d v->Rep K (upd H a (.lst ys)) d v
 | .non,v,_,h=>by rw [Rep] at h ⊢; exact h
 | .bl _,v,_,h=>by rw [Rep] at h ⊢; exact h
 | .int _,v,_,h=>by rw [Rep] at h ⊢; exact h
 | .str _,v,_,h=>by rw [Rep] at h ⊢; exact h
 | .lst _,v,hf,_=>by rw [bQ] at hf; cases hf
 | .tup ds,v,hf,h=>by
  obtain ⟨b,zs,rfl,hq,r⟩:=fB h;rw [bQ] at hf;refine pX ?_ (Reps.lset hH hf r);rcases hq with (hq | ⟨o,hq⟩) | hq
  ·exact .inl (.inl (by rw [as' (fun z=>by subst z; rw [hH] at hq; cases hq)]; exact hq))
  ·exact .inl (.inr ⟨o,by rw [as' (fun z=>by subst z; rw [hH] at hq; cases hq)]; exact hq⟩)
  ·exact .inr hq
 | .exc n,v,_,h=>by
  rw [Rep] at h ⊢;obtain ⟨b,C,rfl,hC,hb⟩:=h;exact ⟨b,C,rfl,hC,by rw [as' (fun z=>by subst z; rw [hH] at hb; cases hb)]; exact hb⟩
 | .excf n f d,v,hf,h=>by rw [bQ] at hf; cases hf
 | .dct,v,_,h=>by
  rw [Rep] at h ⊢;obtain ⟨b,rfl,hb⟩:=h;exact ⟨b,rfl,by rw [as' (fun z=>by subst z; rw [hH] at hb; cases hb)]; exact hb⟩
theorem Reps.lset {K:Frag} {H:Hp} {a:Addr} {xs ys:List V} (hH:H a=some (.lst xs)):∀{ds:List D} {vs:List V},aR ds=true->Reps K H ds vs->Reps K (upd H a (.lst ys)) ds vs
 | [],_,_,h=>by cases h.nil_of; exact Reps.nil
 | d :: ds,_,hf,h=>by
  rw [aR,Bool.and_eq_true] at hf;obtain ⟨v,vs,rfl,r,q⟩:=h.cons_of;exact Reps.cons (Rep.lset hH hf.1 r) (Reps.lset hH hf.2 q)
end
noncomputable def cM:SV->Option SV
 | .val d=>if bQ d=true then some (.val d) else none
 | .arg d=>some (.arg d)
 | .own ds=>if aR ds=true then some (.own ds) else none
noncomputable def qO (i:Nat) (ds:List D) (d:D) (δ:DS):DS:=(δ.map fun o=>o.bind cM).set i (some (.own (ds ++ [d])))
theorem dk' {δ:DS} {j:Nat} {sv:SV} (h:(δ.map fun o=>o.bind cM)[j]? = some (some sv)):∃sv0,δ[j]? = some (some sv0)/\cM sv0=some sv:=by
 rw [List.getElem?_map] at h
 cases z:δ[j]? with
 | none=>rw [z] at h; cases h
 | some o =>
  cases o with
  | none=>rw [z] at h; cases h
  | some sv0=>rw [z] at h; exact ⟨sv0,rfl,by simpa using h⟩
theorem KQ {sv:SV} {ds:List D} (h:cM sv=some (.own ds)):sv=.own ds/\aR ds=true:=by
 cases sv with
 | val d=>simp only [cM] at h; split at h <;> cases h
 | arg d=>cases h
 | own es =>
  simp only [cM] at h
  split at h
  ·rename_i c; cases h; exact ⟨rfl,c⟩
  ·cases h
theorem RepSt.app {K:Frag} {G H:Hp} {σ:St} {δ:DS} {i:Nat} {ds:List D} {d:D} {a:Addr} {xs:List V} {v:V} (R:RepSt K G H σ δ) (hδ:δ[i]? = some (some (.own ds))) (hσ:σ[i]? = some (some (.ref a))) (hH:H a=some (.lst xs)) (r:Reps K H ds xs) (hG:G a=none) (hf:aR ds=true) (hd:bQ d=true) (p:Rep K H d v) :
  RepSt K G (upd H a (.lst (xs ++ [v]))) σ (qO i ds d δ) where
 same:=fun b o e=>by
  have hb:b≠a:=fun z=>by subst z; rw [hG] at e; cases e
  rw [as' hb]; exact R.same b o e
 len:=by unfold qO; rw [length_set,length_map]; exact R.len
 at_:=fun j sv h=>by
  unfold qO at h;have hl:i < δ.length:=(List.getElem?_eq_some_iff.mp hδ).1
  by_cases hj:i=j
  ·subst hj;rw [List.getElem?_set_self (by rw [length_map]; exact hl)] at h
   cases h
   exact ⟨.ref a,hσ,a,xs ++ [v],rfl,gW,(Reps.lset hH hf r).append (Reps.cons (Rep.lset hH hd p) Reps.nil),hG⟩
  ·rw [List.getElem?_set_ne hj] at h;obtain ⟨sv0,q1,q2⟩:=dk' h;obtain ⟨u,e1,e2⟩:=R.at_ j sv0 q1;refine ⟨u,e1,?_⟩
   cases sv0 with
   | val d' =>
    simp only [cM] at q2
    split at q2
    ·rename_i c; cases q2; exact Rep.lset hH c e2
    ·cases q2
   | arg d'=>cases q2; exact e2
   | own es =>
    simp only [cM] at q2
    split at q2
    ·rename_i c
     cases q2
     obtain ⟨b,ys,rfl,w2,w3,w4⟩:=e2;have hb:b≠a:=fun z=>by subst z; exact R.sep i j ds es (.ref b) hj hδ q1 hσ e1
     exact ⟨b,ys,rfl,by rw [as' hb]; exact w2,Reps.lset hH c w3,w4⟩
    ·cases q2
 sep:=fun j k es fs u hjk h1 h2 h3=>by
  have get:∀(m:Nat) (gs:List D),(qO i ds d δ)[m]? = some (some (.own gs))->∃gs',δ[m]? = some (some (.own gs')):=fun m gs h=>by
   unfold qO at h
   by_cases hm:i=m
   ·subst hm; exact ⟨ds,hδ⟩
   ·rw [List.getElem?_set_ne hm] at h;obtain ⟨sv0,q1,q2⟩:=dk' h;obtain ⟨rfl,_⟩:=KQ q2;exact ⟨gs,q1⟩
  obtain ⟨es',g1⟩:=get j es h1;obtain ⟨fs',g2⟩:=get k fs h2;exact R.sep j k es' fs' u hjk g1 g2 h3
section
variable {X:Cx} {e:Expr} {es:List Expr} {fe:DS->Res D} {fs:DS->Res (List D)} {x:Str} {pos pos' lp np apos cpos:Pos}
end
end DL
namespace DL
open PySem PySem.Spec PyProof.Rows L2
theorem Ri:typeLookup (.type "list_reverseiterator") "__len__" = pure none:=by rw [typeLookup_type,builtinLookup_eq_fast]; kernel_rfl
theorem Rj:typeLookup (.type "list_reverseiterator") "__length_hint__" = pure (some (.builtin "list_reverseiterator.__length_hint__")):=by rw [typeLookup_type,builtinLookup_eq_fast]; kernel_rfl
theorem Rk:splitId "list_reverseiterator.__length_hint__" = some ("list_reverseiterator", "__length_hint__"):=by decide +kernel
theorem Rm:isSubtype (.type "list_reverseiterator") (.type "list_reverseiterator")=pure true:=by rw [isSubtype_type]; kernel_rfl
theorem Rn {M:Model} {A:Around} {Q:Bool->Shared->Prop} {E:Value->Shared->Prop} {s:Shared} {I:Addr} (hT:s.TypeIs (.ref I) "list_reverseiterator") (h:Q false s):wpAny M A (Builtin.List.listLengthHint (.ref I)) Q E s:=by
 unfold Builtin.List.listLengthHint;refine wpAny_bind (wpAny_specialOf hT Ri ?_);show wpAny _ _ (specialOf (Value.ref I) _ >>= _) _ _ _;refine wpAny_bind (wpAny_specialOf hT Rj ?_);simp only [Rk];exact wpAny_bind (wpAny_isInstance (b:=true) hT Rm (wpAny_pure h))
section
variable {prog:Program} {w:World} {A:Around} {E:Value->Shared->Prop} {s:Shared} {I:Addr} {fp wr:List Addr} {G:Array GenState->Array GenState->Prop} {n:Nat} {P:Nat->Value->Prop} {St:Nat->Shared->Prop}
end
section
variable {prog:Program} {w:World} {A:Around} {E:Value->Shared->Prop} {s:Shared} {x:Str} {t:Tok} {Q:Value->Shared->Prop}
end
theorem boot_reversed:bootBuiltins "reversed" = some (.type "reversed"):=by decide +kernel
section
variable {X:Cx} {e:Expr} {fe:DS->Res D} {sep:Str} {p0 apos np rp cpos:Pos}
end
noncomputable def eQ (cells:List (Str×Addr)):List (Str×NameKind)->List (Str×Addr)->List (Str×Addr)
 | [],acc=>acc
 | y :: r,acc=>if (y.2 == NameKind.free)=true then eQ cells r ((y.1,(cells.lookup y.1).getD 0) :: acc) else eQ cells r acc
theorem hy' {scope:Scope} {env:Env} (h:∀y∈scope.names,y.2=.free->∃c,env.cells.lookup y.1=some c):closureFor scope env=pure (eQ env.cells scope.names []):=by
 unfold closureFor;generalize scope.names=ns at h;show (forIn ns ([]:List (Str×Addr)) _ >>= fun r=>pure r)=_;have key:∀(ns:List (Str×NameKind)) (acc:List (Str×Addr)),(∀y∈ns,y.2=.free->∃c,env.cells.lookup y.1=some c) ->
   (forIn ns acc (fun (x:Str×NameKind) (cs:List (Str×Addr))=>(match x with
    | (name,kind)=>if (kind == NameKind.free)=true then do
      let c <- cellOf env name
      pure (ForInStep.yield ((name,c) :: cs))
     else pure (ForInStep.yield cs):Sem _)))=pure (eQ env.cells ns acc):=by
  intro ns
  induction ns with
  | nil=>intro acc _; rfl
  | cons y r ih =>
   intro acc hy;obtain ⟨n,k⟩:=y;rw [forIn_cons]
   by_cases c:(k == NameKind.free)=true
   ·obtain ⟨a,ha⟩:=hy (n,k) (by simp) (by simpa using c);have ha':env.cells.lookup n=some a:=ha;simp only [c,if_true,eQ,ha',Option.getD_some];have:cellOf env n=pure a:=by unfold cellOf; rw [ha']
    rw [this];exact ih _ fun z hz=>hy z (mem_cons_of_mem _ hz)
   ·simp only [c,if_false,eQ];exact ih _ fun z hz=>hy z (mem_cons_of_mem _ hz)
 exact congrArg (fun z=>z >>= fun r=>pure r) (key ns [] h)
theorem G9 {cells:List (Str×Addr)}:∀(ns:List (Str×NameKind)) (acc:List (Str×Addr)),(∀y∈ns,y.2=.free->∃c,cells.lookup y.1=some c)->(∀x c,acc.lookup x=some c->cells.lookup x=some c) ->
  ∀x c,(eQ cells ns acc).lookup x=some c->cells.lookup x=some c
 | [],acc,_,ha,x,c,h=>ha x c h
 | y :: r,acc,hn,ha,x,c,h=>by
  unfold eQ at h
  split at h
  ·rename_i q;refine G9 r _ (fun z hz=>hn z (mem_cons_of_mem _ hz)) (fun x' c' h'=>?_) x c h;obtain ⟨a,e⟩:=hn y (by simp) (by simpa using q);rw [lookup_cons] at h'
   split at h'
   ·rename_i q2;have:x'=y.1:=by simpa using q2
    subst this;rw [e] at h' ⊢;simpa using h'
   ·exact ha x' c' h'
  ·exact G9 r _ (fun z hz=>hn z (mem_cons_of_mem _ hz)) ha x c h
theorem Em {cells:List (Str×Addr)} {x:Str}:∀(ns:List (Str×NameKind)) (acc:List (Str×Addr)),((x,NameKind.free)∈ns\/∃c,acc.lookup x=some c)->∃c,(eQ cells ns acc).lookup x=some c
 | [],acc,h=>by
  rcases h with h | h
  ·cases h
  ·exact h
 | y :: r,acc,h=>by
  unfold eQ
  split
  ·rename_i q;refine Em r _ ?_;rcases h with h | ⟨c,h⟩
   ·rcases mem_cons.mp h with z | z
    ·subst z;exact .inr ⟨(cells.lookup x).getD 0,by rw [lookup_cons]; simp⟩
    ·exact .inl z
   ·refine .inr ?_;rw [lookup_cons]
    split
    ·exact ⟨_,rfl⟩
    ·exact ⟨c,h⟩
  ·rename_i q;refine Em r _ ?_;rcases h with h | h
   ·rcases mem_cons.mp h with z | z
    ·subst z; exact (q rfl).elim
    ·exact .inl z
   ·exact .inr h
theorem lookup_map2 {f:Str×NameKind->Str×NameKind} (hf:∀y,(f y).1=y.1) (x:Str):∀(ns:List (Str×NameKind)),(ns.map f).lookup x=(ns.lookup x).map fun k=>(f (x,k)).2
 | []=>rfl
 | y :: r=>by
  obtain ⟨n,k⟩:=y;rw [map_cons,show f (n,k)=(n,(f (n,k)).2) from Prod.ext (hf _) rfl,lookup_cons,lookup_cons,lookup_map2 hf x r]
  by_cases c:x=n
  ·subst c; simp
  ·have:(x == n)=false:=by simpa using c
   simp [this]
theorem KR {scope:Scope} {env:Env} (x:Str):(relabel scope env).names.lookup x=(scope.names.lookup x).map fun k=>if (k == .free && env.scope.kind == .function && env.kindOf x == some .cell)=true then NameKind.cell else k:=by
 show List.lookup x (List.map _ scope.names)=_;rw [lookup_map2 (fun y=>by obtain ⟨n,k⟩:=y; dsimp only; split <;> rfl)]
 cases scope.names.lookup x with
 | none=>rfl
 | some k =>
  simp only [Option.map_some]
  split <;> rfl
theorem Ro {X:Cx} {m:Nat} {fr:List Nat} {N':List Str} {scope:Scope} {n:Nat} (sc:Scope) (N:List Str) (hsc:X.env.scope=sc) (hcl:X.env.cells=cellsFrom n sc.names []) (hN:X.N=N)
  (hf:∀y∈scope.names,y.2=.free->sc.names.lookup y.1=some .cell) (hc:∀y∈scope.names,y.2≠.cell) (hk:scope.kind=.function) (hks:sc.kind=.function)
  (hn:∀x∈scope.names,x.2=.local->scope.names.lookup x.1=some .local) (hl:N'.length=m + fr.length)
  (hfr:∀j,j < fr.length->∃x,N'[m + j]? = some x/\N[fr.getD j 0]? = some x/\scope.names.lookup x=some .free/\sc.names.lookup x=some .cell):Around' X m fr N' scope (eQ X.env.cells scope.names []):=by
 have hs:∀y∈scope.names,y.2=.free->∃c,X.env.cells.lookup y.1=some c:=fun y hy e=>by
  rw [hcl]; exact ek' (hf y hy e)
 have hfree:∀x k,scope.names.lookup x=some k->k≠.cell:=fun x k h=>hc _ (PySem.mem_of_lookup h);refine { clos:=hy' hs,nocell:=hc,kind:=hk,names:=hn,sub:=G9 _ _ hs (fun x c h=>by simp at h),has:=fun x h=>?_,len:=hl,free:=fun j i h=>?_ }
 ·rw [KR] at h
  cases q:scope.names.lookup x with
  | none=>rw [q] at h; rcases h with h | h <;> cases h
  | some k =>
   rw [q] at h;have:k=.free:=by
    have h2:=hfree x k q
    cases k <;> first | rfl | exact (h2 rfl).elim | (rcases h with h | h <;> simp at h)
   subst this;exact Em _ _ (.inl (PySem.mem_of_lookup q))
 ·have hj:j < fr.length:=by
   rcases Nat.lt_or_ge j fr.length with z | z
   ·exact z
   ·rw [List.getElem?_eq_none z] at h; cases h
  obtain ⟨x,e1,e2,e3,e4⟩:=hfr j hj;have hi:fr.getD j 0=i:=by rw [getD_eq_getElem?_getD,h]; rfl
  rw [hi] at e2;obtain ⟨c,e5⟩:=Em (cells:=X.env.cells) scope.names [] (.inl (PySem.mem_of_lookup e3));refine ⟨x,c,e1,by rw [hN]; exact e2,by rw [hsc]; exact .inr (.inl e4),.inl (by unfold Env.kindOf; rw [hsc]; exact e4),e5,.inl ?_⟩;show (relabel scope X.env).names.lookup x=_;rw [KR,e3];have:X.env.kindOf x=some .cell:=by unfold Env.kindOf; rw [hsc]; exact e4
  simp [this,hsc,hks]
noncomputable def zW (sc scope:Scope) (N N':List Str) (m:Nat) (fr:List Nat):Bool :=
 scope.names.all (fun y=>decide (y.2≠.cell) && (!(decide (y.2=.free)) || decide (sc.names.lookup y.1=some .cell)) && (!(decide (y.2=.local)) || decide (scope.names.lookup y.1=some .local))) &&
 decide (N'.length=m + fr.length) && (List.range fr.length).all fun j=>match N'[m + j]? with
  | some x=>decide (N[fr.getD j 0]? = some x) && decide (scope.names.lookup x=some .free) && decide (sc.names.lookup x=some .cell)
  | none=>false
theorem uZ {X:Cx} {m:Nat} {fr:List Nat} {N':List Str} {scope:Scope} {n:Nat} (sc:Scope) (N:List Str) (hsc:X.env.scope=sc) (hcl:X.env.cells=cellsFrom n sc.names []) (hN:X.N=N) (hk:scope.kind=.function) (hks:sc.kind=.function)
  (h:zW sc scope N N' m fr=true):Around' X m fr N' scope (eQ X.env.cells scope.names []):=by
 unfold zW at h;simp only [Bool.and_eq_true,all_eq_true,decide_eq_true_eq] at h;obtain ⟨⟨h1,h2⟩,h3⟩:=h;refine Ro sc N hsc hcl hN (fun y hy e=>?_) (fun y hy=>(h1 y hy).1.1) hk hks (fun y hy e=>?_) h2 fun j hj=>?_
 ·have:=(h1 y hy).1.2;simpa [e] using this
 ·have:=(h1 y hy).2;simpa [e] using this
 ·have:=h3 j (by simpa using hj)
  split at this
  ·rename_i x q;simp only [Bool.and_eq_true,decide_eq_true_eq] at this;exact ⟨x,q,this.1.1,this.1.2,this.2⟩
  ·cases this
theorem Rp {K:Frag} {H:Hp} {lo:Int} {n:Nat}:dj K (zr lo n) H (cH lo n):=by
 intro H' e;refine ⟨fun i d hd=>?_,by rw [cE']; exact Nat.le_refl _⟩;have hi:i < n:=by
  rcases Nat.lt_or_ge i (cH lo n).length with z | z
  ·rwa [cE'] at z
  ·rw [List.getElem?_eq_none z] at hd; cases hd
 refine ⟨hi,fun x H'' y=>?_⟩;obtain ⟨rfl,rfl⟩:=y;have e1:(cH lo n)[i]? = some (.int (lo + i)):=by
  have:=QJ lo n i hi;have h2:((cH lo n).drop i)[0]? = some (.int (lo + i)):=by rw [this]; rfl
  simpa using h2
 rw [e1] at hd
 cases hd
 exact ⟨Same.refl _,j6⟩
theorem Rq {X:Cx} {tg:Expr} {pins:List (Addr×Obj)} {σ:St} {H H1:Hp} {lo:Int} {n:Nat} {r:Res (List D)} (e:Same H H1) (hr:r=.ok (cH lo n)) {itv:Value} {s2:Shared} (p:PIE X pins σ tg (fun J H'=>J=zr lo n/\H'=H1) itv s2):wC X pins σ H tg r itv s2:=by
 obtain ⟨it,fp,tn,J,H',q1,q2,q3,q4,q5,rfl,rfl⟩:=p;exact ⟨_,it,fp,tn,_,_,hr,q1,q2,q3,q4,q5,e,Rp⟩
theorem G_ {X:Cx} {tg a:Expr} {fa:DS->Res (List D)} {p pos:Pos} (hg:Gl X "range") (hm:X.mg "range" = none) (ha:PAD X [a] fa) (hs:starEach [a] X.env=[(false,eval a X.env)]:=by rfl) :
  PID X tg (.Call (.Name "range" p) [a] [] pos) (fun δ=>(fa δ).bind jw):=by
 intro pins s σ G H δ I R hn
 try dsimp only at hn ⊢
 refine Call_ (dc' I hg hm boot_range (PyProof.Rows.callWith_type1 (ha.use I R (gq hn) (fun ds us s1 vs H1 q I1 r1 e1 b1 p1=>?_) fun e s1 q=>q.same fun x z=>gY z) hs rfl));have h2:=iD hn q;unfold jw at h2
 split at h2
 ·rename_i j;obtain ⟨v,ws,rfl,w1,w2⟩:=p1.cons_of
  cases w2.nil_of
  cases c7 w1
  split at h2
  ·rename_i hj
   cases r1 with
   | cons r rr =>
    cases rr
    obtain ⟨t,rfl⟩:=r;refine call_range_1 ?_;refine wpAny_mono (O3 (R:=fun J H'=>J=zr 0 j.toNat/\H'=H1) I1 (by omega) (by omega) hj.1 hj.2 ⟨by simp,rfl⟩) (fun itv s2 z=>Rq e1 (by rw [q,Res.bind_ok]; unfold jw; simp only [hj,and_self,if_true]) z) fun _ _ z=>z
  ·exact (h2 rfl).elim
 ·exact (h2 rfl).elim
noncomputable def cX (f:DS->Res (List D)) (g:List D->Res (List D)):DS->Res (List D):=fun δ=>(f δ).bind g
noncomputable def bY:List D->Res D
 | [.lst ds]=>.ok (.tup ds)
 | [.tup ds]=>.ok (.tup ds)
 | _=>.stuck
theorem pZ (ds:List D):aX (bY ds):=by
 unfold bY
 split <;> first | exact eO | exact dG
theorem Rr {X:Cx} (E:Value->Shared->Prop):CallR (X.wish E) (.type "tuple") (fun xs H Q=>∃p ys,xs=[.ref p]/\((SqL X.K H p ys/\∀l,H l=none->Q (.ref l) (upd H l (.tup ys)))\/(SqT X.K H p ys/\Q (.ref p) H))):=Qe
theorem p6 {X:Cx}:CallD X (.type "tuple") bY:=.of Rr fun H xs ds d Q r e q=>by
 unfold bY at e
 split at e
 ·rename_i es
  cases e
  obtain ⟨v,vs,rfl,p1,t⟩:=r.cons_of
  cases t.nil_of
  obtain ⟨a,ys,rfl,w1,w2⟩:=fC p1;exact ⟨a,ys,rfl,.inl ⟨w1,fun l hl=>q _ _ (iU hl _) (pX (SqT.of gW) (w2.mono (iU hl _)))⟩⟩
 ·rename_i es
  cases e
  obtain ⟨v,vs,rfl,p1,t⟩:=r.cons_of
  cases t.nil_of
  obtain ⟨a,ys,rfl,w1,w2⟩:=fB p1;exact ⟨a,ys,rfl,.inr ⟨w1,q _ _ (Same.refl H) (pX w1 w2)⟩⟩
 ·cases e
section
variable {prog:Program} {w:World} {A:Around} {E:Value->Shared->Prop} {s:Shared}
theorem Ha {it t:Addr} {i:Nat} {items:Array Value} {x:Value} {Q:Value->Shared->Prop} (hi:s.heap.IsTupleIter it t i) (ht:s.heap.IsTuple t items) (hx:items[i]? = some x)
  (h:∀h':Heap,h'.IsTupleIter it t (i + 1)->Heap.SameBut it s.heap h'->Q x { s with heap:=h' }):wpAny (model prog w) A (Builtin.SmallTypes.nextOf (.ref it)) Q E s:=by
 unfold Builtin.SmallTypes.nextOf;refine wpAny_bind (wpAny_callSpecial?_slot hi.typeIs slot_tupleiter_next ?_);refine wpAny_call (codeAny_call_builtin slot_tupleiter_next.plain entry_tupleiter_next (slot_tupleiter_next.check _ _ _ _ _ _ _ _ hi.typeIs (args_tupleiter_next _) ?_));obtain ⟨o,g,hc,hd⟩:=id hi;obtain ⟨ot,gt,htc,n,htd⟩:=id ht;refine wpAny_bind (m:=slotArgs _ _ _) (wpAny_pure ?_);refine wpAny_bind (m:=field _ _) (wpAny_field g hd rfl ?_);refine wpAny_bind (m:=field _ _) (wpAny_field g hd rfl ?_);refine wpAny_bind (m:=seqItems? _) (wpAny_seqItems gt htd ?_);simp only [Int.toNat_natCast,hx];refine wpAny_bind (wpAny_setField g hd (show 1 < 2 by decide) (wpAny_pure ?_));have d2:=Obj.data_mapFields hd (fun v=>v.setIfInBounds 1 (rawInt ((i:Int) + 1)));have g2:=Heap.get?_update_self (Obj.mapFields fun v=>v.setIfInBounds 1 (rawInt ((i:Int) + 1))) g (Obj.isFreed_of_fields d2);exact wpAny_pure (h _ ⟨_,g2,(by unfold Obj.mapFields; split <;> exact hc),d2⟩ (Heap.SameBut.update _ _ _))
theorem hA' {α:Type} {Q:α->Shared->Prop} (hh:A.handled=none) (h:∀(h':Heap) (e:Addr),(∀b o,s.heap.get? b=some o->h'.get? b=some o)->(∃o,h'.get? e=some o/\o.cls=.type "StopIteration")->E (.ref e) { s with heap:=h' }) :
  wpAny (model prog w) A (Builtin.SmallTypes.stopIteration:Sem α) Q E s:=by
 unfold Builtin.SmallTypes.stopIteration;refine wpAny_bind (m:=newExc _ _) ?_;rw [newExc.eq_1];refine wpAny_bind (wpAny_newTuple ?_ (by decide));rw [firstArgMember.eq_1];refine wpAny_bind (wpAny_bind (wpAny_pure (wpAny_pure ?_)));refine wpAny_newObj_type ?_;refine wpAny_raiseNew_none hh (h _ _ (fun b o e=>Heap.get?_push_of_some _ (Heap.get?_push_of_some _ e)) ⟨_,Heap.get?_push_size _ rfl,rfl⟩)
theorem KY {it t:Addr} {i:Nat} {items:Array Value} {Q:Value->Shared->Prop} (hh:A.handled=none) (hi:s.heap.IsTupleIter it t i) (ht:s.heap.IsTuple t items) (hx:items[i]? = none)
  (h:∀(h':Heap) (e:Addr),Heap.ExtBut it s.heap h'->(∃o,h'.get? e=some o/\o.cls=.type "StopIteration")->E (.ref e) { s with heap:=h' }):wpAny (model prog w) A (Builtin.SmallTypes.nextOf (.ref it)) Q E s:=by
 unfold Builtin.SmallTypes.nextOf;refine wpAny_bind (wpAny_callSpecial?_slot hi.typeIs slot_tupleiter_next ?_);refine wpAny_call (codeAny_call_builtin slot_tupleiter_next.plain entry_tupleiter_next (slot_tupleiter_next.check _ _ _ _ _ _ _ _ hi.typeIs (args_tupleiter_next _) ?_));obtain ⟨o,g,hc,hd⟩:=id hi;obtain ⟨ot,gt,htc,n,htd⟩:=id ht;refine wpAny_bind (m:=slotArgs _ _ _) (wpAny_pure ?_);refine wpAny_bind (m:=field _ _) (wpAny_field g hd rfl ?_);refine wpAny_bind (m:=field _ _) (wpAny_field g hd rfl ?_);refine wpAny_bind (m:=seqItems? _) (wpAny_seqItems gt htd ?_);simp only [Int.toNat_natCast,hx];refine wpAny_bind (wpAny_rule (wpAny_bind (wpAny_setField g hd (show 0 < 2 by decide) ?_)));refine hA' hh fun h' e kp ex=>h h' e (fun b o' hb e'=>kp b o' ?_) ex;rw [Heap.get?_update_other _ _ (Ne.symm hb)]; exact e'
structure ZipT (h:Heap) (z TI TO i1 i2 t1 t2:Addr) (f0:Value) (i:Nat):Prop where
 zip:IsZip h z TI TO f0
 ti:IsPair h TI (.ref i1) (.ref i2)
 to:∃a b,IsPair h TO a b
 j1:h.IsTupleIter i1 t1 i
 j2:h.IsTupleIter i2 t2 i
theorem Rt {z TI TO i1 i2 t1 t2:Addr} {i:Nat} {xs ys:Array Value} {x y:Value} {Q:Option Value->Shared->Prop} (ap:List.Nodup [z,TI,TO,i1,i2]) (n1:t1∉[z,TI,TO,i1,i2]) (n2:t2∉[z,TI,TO,i1,i2])
  (Z:ZipT s.heap z TI TO i1 i2 t1 t2 .none i) (h1:s.heap.IsTuple t1 xs) (h2:s.heap.IsTuple t2 ys) (hx:xs[i]? = some x) (hy:ys[i]? = some y)
  (hQ:∀h':Heap,ZipT h' z TI TO i1 i2 t1 t2 (rawInt (s.heap.objs.size:Nat)) (i + 1)->IsPair h' s.heap.objs.size x y->(∀b o,b∉[z,TI,TO,i1,i2]->s.heap.get? b=some o->h'.get? b=some o)->Q (some (.ref s.heap.objs.size)) { s with heap:=h' }) :
  wpAny (model prog w) A (pyNext (.ref z)) Q E s:=by
 obtain ⟨gz,gti,⟨a,b,gto⟩,j1,j2⟩:=Z;have tz:s.TypeIs (.ref z) "zip":=⟨_,gz,rfl⟩;unfold pyNext;refine wpAny_bind (wpAny_attempt ?_);refine wpAny_callSpecial?_slot tz F.slot_zip_next ?_;refine wpAny_call (codeAny_call_builtin F.slot_zip_next.plain F.entry_zip_next (F.slot_zip_next.check _ _ _ _ _ _ _ _ tz (F.args_zip_next_1 _) ?_));unfold Builtin.«zip.__next__»;refine wpAny_bind (m:=slotArgs _ _ _) (wpAny_pure ?_);refine wpAny_bind (m:=field _ _) (wpAny_field gz rfl rfl ?_);refine wpAny_bind (m:=field _ _) (wpAny_field gz rfl rfl ?_);refine wpAny_bind (m:=seqItems? _) (wpAny_seqItems gti rfl ?_);dsimp only;refine wpAny_bind (m:=Builtin.SmallTypes.ownedTupleIsFree _) ?_;unfold Builtin.SmallTypes.ownedTupleIsFree;refine wpAny_bind (m:=field _ _) (wpAny_field gz rfl rfl ?_);refine wpAny_pure ?_;rw [if_pos rfl];refine wpAny_bind (wpAny_rule (wpAny_bind (m:=field _ _) (wpAny_field gz rfl rfl ?_)))
 try dsimp only
 refine wpAny_bind (wpAny_setField gz rfl (show 0 < 5 by decide) ?_);have hst:(#[Value.none,Value.bool false,Value.bool false,Value.ref TI,Value.ref TO][2] == Value.bool true)=false:=rfl;have dz0:=Obj.data_mapFields (o:={ cls:=Value.type "zip",data:=Data.fields #[Value.none,Value.bool false,Value.bool false,Value.ref TI,Value.ref TO] }) rfl (fun v=>v.setIfInBounds 0 Value.ellipsis);have gz0:=Heap.get?_update_self (Obj.mapFields fun v=>v.setIfInBounds 0 Value.ellipsis) gz (Obj.isFreed_of_fields dz0);have sb0:=Heap.SameBut.update s.heap z (Obj.mapFields fun v=>v.setIfInBounds 0 Value.ellipsis);generalize s.heap.update z (Obj.mapFields fun v=>v.setIfInBounds 0 Value.ellipsis)=h0 at gz0 sb0 ⊢;simp only [nodup_cons,mem_cons,not_mem_nil,or_false,not_or,nodup_nil,and_true,not_false_eq_true] at ap n1 n2;obtain ⟨⟨az1,az2,az3,az4⟩,⟨ai1,ai2,ai3⟩,⟨ao1,ao2⟩,a12⟩:=ap;obtain ⟨m1,m2,m3,m4,m5⟩:=n1;obtain ⟨q1,q2,q3,q4,q5⟩:=n2;have k0:∀b,b≠z->h0.get? b=s.heap.get? b:=sb0.2;have mvT:∀{h h':Heap} {c t:Addr} {xs:Array Value},(∀b,b≠c->h'.get? b=h.get? b)->t≠c->h.IsTuple t xs->h'.IsTuple t xs:=fun k n ⟨o,g,r⟩=>⟨o,(k _ n).trans g,r⟩;have mvI:∀{h h':Heap} {c t j:Addr} {n:Nat},(∀b,b≠c->h'.get? b=h.get? b)->j≠c->h.IsTupleIter j t n->h'.IsTupleIter j t n:=fun k n ⟨o,g,r⟩=>⟨o,(k _ n).trans g,r⟩;simp only [show [Value.ref i1,Value.ref i2].zipIdx=[(Value.ref i1,0),(Value.ref i2,1)] from rfl,forIn_cons,hst]
 refine wpAny_bind (wpAny_bind ?_);refine wpAny_bind (wpAny_onRaise ?_);refine wpAny_bind (m:=Builtin.SmallTypes.nextOf (.ref i1)) (Ha (mvI k0 (Ne.symm az3) j1) (mvT k0 m1 h1) hx fun h1' ji1 sb1=>?_);have k1:∀b,b≠i1->h1'.get? b=h0.get? b:=sb1.2;refine wpAny_pure ?_;have gto1:h1'.get? TO=some { cls:=Value.type "tuple",data:=Data.seq #[a,b] }:=(k1 _ ao1).trans ((k0 _ (Ne.symm az2)).trans gto);refine wpAny_bind (wpAny_seqItems gto1 rfl ?_);refine wpAny_bind (wpAny_updateSeq gto1 rfl ?_ (show 2<=sizeLine by decide) (show 2<=sizeLine + 1 by decide));have gto2:(h1'.update TO (Obj.mapSeq fun v=>v.setIfInBounds 0 x)).get? TO=some { cls:=Value.type "tuple",data:=Data.seq #[x,b] }:=(Heap.get?_update_self _ gto1 rfl).trans rfl;have k2:∀b,b≠TO->(h1'.update TO (Obj.mapSeq fun v=>v.setIfInBounds 0 x)).get? b=h1'.get? b:=(Heap.SameBut.update _ _ _).2;have z2:(h1'.update TO (Obj.mapSeq fun v=>v.setIfInBounds 0 x)).objs.size=h1'.objs.size:=(Heap.SameBut.update _ _ _).1;dsimp only;generalize h1'.update TO (Obj.mapSeq fun v=>v.setIfInBounds 0 x)=h2' at gto2 k2 z2 ⊢;refine wpAny_bind (wpAny_letGo (wpAny_pure ?_));refine wpAny_bind (wpAny_bind (wpAny_onRaise ?_));refine wpAny_bind (m:=Builtin.SmallTypes.nextOf (.ref i2)) (Ha (mvI k2 (Ne.symm ao2) (mvI k1 (Ne.symm a12) (mvI k0 (Ne.symm az4) j2))) (mvT k2 q3 (mvT k1 q4 (mvT k0 q1 h2))) hy fun h3' ji2 sb3=>?_);have k3:∀b,b≠i2->h3'.get? b=h2'.get? b:=sb3.2;refine wpAny_pure ?_;have gto3:h3'.get? TO=some { cls:=Value.type "tuple",data:=Data.seq #[x,b] }:=(k3 _ ao2).trans gto2;refine wpAny_bind (wpAny_seqItems gto3 rfl ?_);refine wpAny_bind (wpAny_updateSeq gto3 rfl ?_ (show 2<=sizeLine by decide) (show 2<=sizeLine + 1 by decide));have gto4:(h3'.update TO (Obj.mapSeq fun v=>v.setIfInBounds 1 y)).get? TO=some { cls:=Value.type "tuple",data:=Data.seq #[x,y] }:=(Heap.get?_update_self _ gto3 rfl).trans rfl;have k4:∀b,b≠TO->(h3'.update TO (Obj.mapSeq fun v=>v.setIfInBounds 1 y)).get? b=h3'.get? b:=(Heap.SameBut.update _ _ _).2;have z4:(h3'.update TO (Obj.mapSeq fun v=>v.setIfInBounds 1 y)).objs.size=h3'.objs.size:=(Heap.SameBut.update _ _ _).1;dsimp only;generalize h3'.update TO (Obj.mapSeq fun v=>v.setIfInBounds 1 y)=h4' at gto4 k4 z4 ⊢;refine wpAny_bind (wpAny_letGo (wpAny_pure ?_));refine wpAny_pure ?_;refine wpAny_bind (wpAny_seqItems gto4 rfl ?_);have hT:h4'.objs.size=s.heap.objs.size:=by rw [z4,sb3.1,z2,sb1.1,sb0.1]
 refine wpAny_bind (wpAny_newTuple ?_ (show 2<=sizeLine by decide));dsimp only;rw [hT];have zi:z≠s.heap.objs.size:=fun e=>by have:=Heap.lt_size gz; rw [e] at this; exact Nat.lt_irrefl _ this
 have gT:(h4'.push { cls:=Value.type "tuple",data:=Data.seq #[x,y] }).get? s.heap.objs.size=some { cls:=Value.type "tuple",data:=Data.seq #[x,y] }:=by rw [<- hT]; exact Heap.get?_push_size _ rfl
 have k5:∀b o,h4'.get? b=some o->(h4'.push { cls:=Value.type "tuple",data:=Data.seq #[x,y] }).get? b=some o:=fun b o e=>Heap.get?_push_of_some _ e;show wpAny _ _ (do Builtin.SmallTypes.ownedTupleHandOut (Value.ref z) (Value.ref s.heap.objs.size); ret _) _ _ { s with heap:=h4'.push { cls:=Value.type "tuple",data:=Data.seq #[x,y] } }
 generalize h4'.push { cls:=Value.type "tuple",data:=Data.seq #[x,y] }=h5' at gT k5 ⊢;have gz4:h4'.get? z=some { cls:=Value.type "zip",data:=Data.fields #[Value.ellipsis,Value.bool false,Value.bool false,Value.ref TI,Value.ref TO] } :=
  (k4 _ az2).trans ((k3 _ az4).trans ((k2 _ az2).trans ((k1 _ az3).trans (gz0.trans rfl))))
 have gz5:=k5 _ _ gz4;have gti4:h4'.get? TI=some { cls:=Value.type "tuple",data:=Data.seq #[.ref i1,.ref i2] }:=(k4 _ ai1).trans ((k3 _ ai3).trans ((k2 _ ai1).trans ((k1 _ ai2).trans ((k0 _ (Ne.symm az1)).trans gti))));obtain ⟨oj1,gj1,rj1⟩:=ji1;obtain ⟨oj2,gj2,rj2⟩:=ji2;have gj1':h4'.get? i1=some oj1:=(k4 _ (Ne.symm ao1)).trans ((k3 _ a12).trans ((k2 _ (Ne.symm ao1)).trans gj1));have gj2':h4'.get? i2=some oj2:=(k4 _ (Ne.symm ao2)).trans gj2;refine wpAny_bind (m:=Builtin.SmallTypes.ownedTupleHandOut _ _) ?_;unfold Builtin.SmallTypes.ownedTupleHandOut;refine wpAny_bind (wpAny_setField gz5 rfl (show 0 < 5 by decide) ?_);have gz6:(h5'.update z (Obj.mapFields fun v=>v.setIfInBounds 0 (rawInt (s.heap.objs.size:Nat)))).get? z=some { cls:=Value.type "zip",data:=Data.fields #[rawInt (s.heap.objs.size:Nat),Value.bool false,Value.bool false,Value.ref TI,Value.ref TO] }:=(Heap.get?_update_self _ gz5 rfl).trans rfl;have k6:∀b,b≠z->(h5'.update z (Obj.mapFields fun v=>v.setIfInBounds 0 (rawInt (s.heap.objs.size:Nat)))).get? b=h5'.get? b:=(Heap.SameBut.update _ _ _).2;dsimp only;generalize h5'.update z (Obj.mapFields fun v=>v.setIfInBounds 0 (rawInt (s.heap.objs.size:Nat)))=h6' at gz6 k6 ⊢;refine wpAny_setField gz6 rfl (show 1 < 5 by decide) ?_;have gz7:(h6'.update z (Obj.mapFields fun v=>v.setIfInBounds 1 (Value.bool false))).get? z=some { cls:=Value.type "zip",data:=Data.fields #[rawInt (s.heap.objs.size:Nat),Value.bool false,Value.bool false,Value.ref TI,Value.ref TO] }:=(Heap.get?_update_self _ gz6 rfl).trans rfl;have k7:∀b,b≠z->(h6'.update z (Obj.mapFields fun v=>v.setIfInBounds 1 (Value.bool false))).get? b=h6'.get? b:=(Heap.SameBut.update _ _ _).2;dsimp only;generalize h6'.update z (Obj.mapFields fun v=>v.setIfInBounds 1 (Value.bool false))=h7' at gz7 k7 ⊢;refine wpAny_pure (wpAny_pure ?_);have kk:∀b o,b≠z->h4'.get? b=some o->h7'.get? b=some o:=fun b o n e=>(k7 _ n).trans ((k6 _ n).trans (k5 _ _ e));refine hQ h7' ⟨gz7,kk _ _ (Ne.symm az1) gti4,⟨_,_,kk _ _ (Ne.symm az2) gto4⟩,⟨_,kk _ _ (Ne.symm az3) gj1',rj1⟩,⟨_,kk _ _ (Ne.symm az4) gj2',rj2⟩⟩ ((k7 _ (Ne.symm zi)).trans ((k6 _ (Ne.symm zi)).trans gT)) fun b o n e=>?_;simp only [mem_cons,not_mem_nil,or_false,not_or] at n;obtain ⟨p1,p2,p3,p4,p5⟩:=n;exact kk b o p1 ((k4 _ p3).trans ((k3 _ p5).trans ((k2 _ p3).trans ((k1 _ p4).trans ((k0 _ p1).trans e)))))
end
theorem Ru:isSubtype (.type "StopIteration") (.type "StopIteration")=pure true:=by rw [isSubtype_type]; kernel_rfl
section
variable {prog:Program} {w:World} {A:Around} {E:Value->Shared->Prop} {s:Shared}
theorem KZ {z:Addr} {vs:Array Value} {h':Heap} {e:Addr} {Q:Option Value->Shared->Prop} (hz:h'.get? z=some { cls:=Value.type "zip",data:=Data.fields vs }) (hv:0 < vs.size) (he:∃o,h'.get? e=some o/\o.cls=.type "StopIteration")
  (hQ:Q none { s with heap:=h'.update z (Obj.mapFields fun v=>v.setIfInBounds 0 Value.none) }) :
  wpAny (model prog w) A.in1 (setField (Value.ref z) 0 Value.none) (fun _ s''=>wpAny (model prog w) A (do
   let b <- isInstance (.ref e) (Value.type "StopIteration")
   if b=true then pure none else throw (.ref e)) Q E s'') (fun e s''=>wpAny (model prog w) A (do
   let b <- isInstance e (Value.type "StopIteration")
   if b=true then pure none else throw e) Q E s'') { s with heap:=h' }:=by
 refine wpAny_setField hz rfl hv ?_;obtain ⟨o,g,c⟩:=he;have n:e≠z:=fun q=>by
  rw [q,hz] at g;have g':=Option.some.inj g;rw [<- g'] at c;injection c with c'
  exact absurd c' (by decide)
 refine wpAny_bind (wpAny_isInstance (b:=true) (T:="StopIteration") ⟨o,(by show (h'.update z _).get? e=_; rw [Heap.get?_update_other _ _ (Ne.symm n)]; exact g),c⟩ Ru (wpAny_pure hQ))
theorem Rv {z TI TO i1 i2 t1 t2:Addr} {i:Nat} {xs ys:Array Value} {Q:Option Value->Shared->Prop} (hh:A.handled=none) (ap:List.Nodup [z,TI,TO,i1,i2]) (n1:t1∉[z,TI,TO,i1,i2]) (n2:t2∉[z,TI,TO,i1,i2])
  (Z:ZipT s.heap z TI TO i1 i2 t1 t2 .none i) (h1:s.heap.IsTuple t1 xs) (h2:s.heap.IsTuple t2 ys) (hx:xs[i]? = none\/ys[i]? = none)
  (hQ:∀h':Heap,(∀b o,b∉[z,TI,TO,i1,i2]->s.heap.get? b=some o->h'.get? b=some o)->Q none { s with heap:=h' }) :
  wpAny (model prog w) A (pyNext (.ref z)) Q E s:=by
 obtain ⟨gz,gti,⟨a,b,gto⟩,j1,j2⟩:=Z;have tz:s.TypeIs (.ref z) "zip":=⟨_,gz,rfl⟩;unfold pyNext;refine wpAny_bind (wpAny_attempt ?_);refine wpAny_callSpecial?_slot tz F.slot_zip_next ?_;refine wpAny_call (codeAny_call_builtin F.slot_zip_next.plain F.entry_zip_next (F.slot_zip_next.check _ _ _ _ _ _ _ _ tz (F.args_zip_next_1 _) ?_));unfold Builtin.«zip.__next__»;refine wpAny_bind (m:=slotArgs _ _ _) (wpAny_pure ?_);refine wpAny_bind (m:=field _ _) (wpAny_field gz rfl rfl ?_);refine wpAny_bind (m:=field _ _) (wpAny_field gz rfl rfl ?_);refine wpAny_bind (m:=seqItems? _) (wpAny_seqItems gti rfl ?_);dsimp only;refine wpAny_bind (m:=Builtin.SmallTypes.ownedTupleIsFree _) ?_;unfold Builtin.SmallTypes.ownedTupleIsFree;refine wpAny_bind (m:=field _ _) (wpAny_field gz rfl rfl ?_);refine wpAny_pure ?_;rw [if_pos rfl];refine wpAny_bind (wpAny_rule (wpAny_bind (m:=field _ _) (wpAny_field gz rfl rfl ?_)))
 try dsimp only
 refine wpAny_bind (wpAny_setField gz rfl (show 0 < 5 by decide) ?_);have hst:(#[Value.none,Value.bool false,Value.bool false,Value.ref TI,Value.ref TO][2] == Value.bool true)=false:=rfl;have dz0:=Obj.data_mapFields (o:={ cls:=Value.type "zip",data:=Data.fields #[Value.none,Value.bool false,Value.bool false,Value.ref TI,Value.ref TO] }) rfl (fun v=>v.setIfInBounds 0 Value.ellipsis);have gz0:=Heap.get?_update_self (Obj.mapFields fun v=>v.setIfInBounds 0 Value.ellipsis) gz (Obj.isFreed_of_fields dz0);have sb0:=Heap.SameBut.update s.heap z (Obj.mapFields fun v=>v.setIfInBounds 0 Value.ellipsis);generalize s.heap.update z (Obj.mapFields fun v=>v.setIfInBounds 0 Value.ellipsis)=h0 at gz0 sb0 ⊢;simp only [nodup_cons,mem_cons,not_mem_nil,or_false,not_or,nodup_nil,and_true,not_false_eq_true] at ap n1 n2;obtain ⟨⟨az1,az2,az3,az4⟩,⟨ai1,ai2,ai3⟩,⟨ao1,ao2⟩,a12⟩:=ap;obtain ⟨m1,m2,m3,m4,m5⟩:=n1;obtain ⟨q1,q2,q3,q4,q5⟩:=n2;have k0:∀b,b≠z->h0.get? b=s.heap.get? b:=sb0.2;have mvT:∀{h h':Heap} {c t:Addr} {xs:Array Value},(∀b,b≠c->h'.get? b=h.get? b)->t≠c->h.IsTuple t xs->h'.IsTuple t xs:=fun k n ⟨o,g,r⟩=>⟨o,(k _ n).trans g,r⟩;have mvI:∀{h h':Heap} {c t j:Addr} {n:Nat},(∀b,b≠c->h'.get? b=h.get? b)->j≠c->h.IsTupleIter j t n->h'.IsTupleIter j t n:=fun k n ⟨o,g,r⟩=>⟨o,(k _ n).trans g,r⟩;simp only [show [Value.ref i1,Value.ref i2].zipIdx=[(Value.ref i1,0),(Value.ref i2,1)] from rfl,forIn_cons,hst]
 have gz0':h0.get? z=some { cls:=Value.type "zip",data:=Data.fields #[Value.ellipsis,Value.bool false,Value.bool false,Value.ref TI,Value.ref TO] }:=gz0.trans rfl;refine wpAny_bind (wpAny_bind ?_);refine wpAny_bind (wpAny_onRaise ?_)
 cases hx1:xs[i]? with
 | none =>
  refine wpAny_bind (m:=Builtin.SmallTypes.nextOf (.ref i1)) (KY hh (mvI k0 (Ne.symm az3) j1) (mvT k0 m1 h1) hx1 fun h1' e xb he=>?_);have gz1:h1'.get? z=_:=xb z _ az3 gz0';refine KZ gz1 (show 0 < 5 by decide) he (hQ _ fun b o n ee=>?_);simp only [mem_cons,not_mem_nil,or_false,not_or] at n;obtain ⟨p1,p2,p3,p4,p5⟩:=n;rw [Heap.get?_update_other _ _ (Ne.symm p1)];exact xb b o p4 ((k0 _ p1).trans ee)
 | some x =>
 have hy:ys[i]? = none:=by
  rcases hx with q | q
  ·rw [hx1] at q; cases q
  ·exact q
 refine wpAny_bind (m:=Builtin.SmallTypes.nextOf (.ref i1)) (Ha (mvI k0 (Ne.symm az3) j1) (mvT k0 m1 h1) hx1 fun h1' ji1 sb1=>?_);have k1:∀b,b≠i1->h1'.get? b=h0.get? b:=sb1.2;refine wpAny_pure ?_;have gto1:h1'.get? TO=some { cls:=Value.type "tuple",data:=Data.seq #[a,b] }:=(k1 _ ao1).trans ((k0 _ (Ne.symm az2)).trans gto);refine wpAny_bind (wpAny_seqItems gto1 rfl ?_);refine wpAny_bind (wpAny_updateSeq gto1 rfl ?_ (show 2<=sizeLine by decide) (show 2<=sizeLine + 1 by decide));have gto2:(h1'.update TO (Obj.mapSeq fun v=>v.setIfInBounds 0 x)).get? TO=some { cls:=Value.type "tuple",data:=Data.seq #[x,b] }:=(Heap.get?_update_self _ gto1 rfl).trans rfl;have k2:∀b,b≠TO->(h1'.update TO (Obj.mapSeq fun v=>v.setIfInBounds 0 x)).get? b=h1'.get? b:=(Heap.SameBut.update _ _ _).2;have z2:(h1'.update TO (Obj.mapSeq fun v=>v.setIfInBounds 0 x)).objs.size=h1'.objs.size:=(Heap.SameBut.update _ _ _).1;dsimp only;generalize h1'.update TO (Obj.mapSeq fun v=>v.setIfInBounds 0 x)=h2' at gto2 k2 z2 ⊢;refine wpAny_bind (wpAny_letGo (wpAny_pure ?_));refine wpAny_bind (wpAny_bind (wpAny_onRaise ?_));refine wpAny_bind (m:=Builtin.SmallTypes.nextOf (.ref i2)) (KY hh (mvI k2 (Ne.symm ao2) (mvI k1 (Ne.symm a12) (mvI k0 (Ne.symm az4) j2))) (mvT k2 q3 (mvT k1 q4 (mvT k0 q1 h2))) hy fun h3' e xb he=>?_);have gz3:h3'.get? z=_:=xb z _ az4 ((k2 _ az2).trans ((k1 _ az3).trans gz0'));refine KZ gz3 (show 0 < 5 by decide) he (hQ _ fun b o n ee=>?_);simp only [mem_cons,not_mem_nil,or_false,not_or] at n;obtain ⟨p1,p2,p3,p4,p5⟩:=n;rw [Heap.get?_update_other _ _ (Ne.symm p1)];exact xb b o p5 ((k2 _ p3).trans ((k1 _ p4).trans ((k0 _ p1).trans ee)))
end
theorem hB' (t1 t2:Addr) (xs ys:Array Value):Meets (Builtin.«zip.__new__» ⟨[.type "zip",.ref t1,.ref t2],[]⟩) (fun _ R s=>s.heap.IsTuple t1 xs/\s.heap.IsTuple t2 ys /\
  ∀h':Heap,ZipT h' (s.heap.objs.size + 4) (s.heap.objs.size + 2) (s.heap.objs.size + 3) s.heap.objs.size (s.heap.objs.size + 1) t1 t2 .none 0->(∀b o,s.heap.get? b=some o->h'.get? b=some o)->h'.objs.size=s.heap.objs.size + 5->R (.ok (.ret (.ref (s.heap.objs.size + 4)))) { s with heap:=h' }):=by
 intro prog w A R s ⟨h1,h2,hR⟩;unfold Builtin.«zip.__new__»;refine wpAny_bind (m:=Builtin.SmallTypes.newClass _ _) ?_;unfold Builtin.SmallTypes.newClass;refine wpAny_bind (m:=isType _) (wpAny_pure ?_);show wpAny _ _ (do let b <- isSubtype (Value.type "zip") (Value.type "zip"); _) _ _ _
 rw [sub_zip];refine wpAny_pure ?_;show wpAny _ _ (do let its <- Builtin.SmallTypes.iterAll [.ref t1,.ref t2]; _) _ _ _
 refine wpAny_bind ?_;unfold Builtin.SmallTypes.iterAll;simp only [forIn_cons];refine wpAny_bind (wpAny_bind (wpAny_bind (wpAny_holding (wpAny_pyIter_tuple h1 (wpAny_pure ?_)))));have h2':(s.heap.push { cls:=Value.type "tuple_iterator",data:=Data.fields #[Value.ref t1,Value.int 0 0] }).IsTuple t2 ys:=by
  obtain ⟨o,g,r⟩:=h2;exact ⟨o,Heap.get?_push_of_some _ g,r⟩
 refine wpAny_bind (wpAny_bind (wpAny_holding (wpAny_pyIter_tuple h2' (wpAny_pure ?_))));refine wpAny_pure (wpAny_pure ?_);refine wpAny_bind (wpAny_newTuple ?_ (show 2<=sizeLine by decide));refine wpAny_bind (wpAny_newTuple ?_ (show 2<=sizeLine by decide));refine wpAny_bind (m:=Builtin.SmallTypes.newRecord _ _) ?_;unfold Builtin.SmallTypes.newRecord;refine wpAny_newObj_type (wpAny_pure ?_) (show 5<=sizeLine + 2 by decide);dsimp only
 let S:=s.heap.objs.size
 let A1:=s.heap.push { cls:=Value.type "tuple_iterator",data:=Data.fields #[Value.ref t1,Value.int 0 0] }
 let A2:=A1.push { cls:=Value.type "tuple_iterator",data:=Data.fields #[Value.ref t2,Value.int 0 0] }
 let A3:=A2.push { cls:=Value.type "tuple",data:=Data.seq #[Value.ref S,Value.ref A1.objs.size] }
 let A4:=A3.push { cls:=Value.type "tuple",data:=Data.seq #[Value.none,Value.none] }
 let A5:=A4.push { cls:=Value.type "zip",data:=Data.fields #[Value.none,Value.bool false,Value.bool false,Value.ref A2.objs.size,Value.ref A3.objs.size] }
 have e1:A1.objs.size=S + 1:=Heap.size_push _ _;have e2:A2.objs.size=S + 2:=(Heap.size_push _ _).trans (by rw [e1]);have e3:A3.objs.size=S + 3:=(Heap.size_push _ _).trans (by rw [e2]);have e4:A4.objs.size=S + 4:=(Heap.size_push _ _).trans (by rw [e3]);have e5:A5.objs.size=S + 5:=(Heap.size_push _ _).trans (by rw [e4]);have p1:A1.get? S=some { cls:=Value.type "tuple_iterator",data:=Data.fields #[Value.ref t1,Value.int 0 0] }:=Heap.get?_push_size _ rfl;have p2:A2.get? (S + 1)=some { cls:=Value.type "tuple_iterator",data:=Data.fields #[Value.ref t2,Value.int 0 0] }:=by rw [<- e1]; exact Heap.get?_push_size _ rfl
 have p3:A3.get? (S + 2)=some { cls:=Value.type "tuple",data:=Data.seq #[Value.ref S,Value.ref A1.objs.size] }:=by rw [<- e2]; exact Heap.get?_push_size _ rfl
 have p4:A4.get? (S + 3)=some { cls:=Value.type "tuple",data:=Data.seq #[Value.none,Value.none] }:=by rw [<- e3]; exact Heap.get?_push_size _ rfl
 have p5:A5.get? (S + 4)=some { cls:=Value.type "zip",data:=Data.fields #[Value.none,Value.bool false,Value.bool false,Value.ref A2.objs.size,Value.ref A3.objs.size] }:=by rw [<- e4]; exact Heap.get?_push_size _ rfl
 have u2:∀b o,A1.get? b=some o->A2.get? b=some o:=fun b o e=>Heap.get?_push_of_some _ e;have u3:∀b o,A2.get? b=some o->A3.get? b=some o:=fun b o e=>Heap.get?_push_of_some _ e;have u4:∀b o,A3.get? b=some o->A4.get? b=some o:=fun b o e=>Heap.get?_push_of_some _ e;have u5:∀b o,A4.get? b=some o->A5.get? b=some o:=fun b o e=>Heap.get?_push_of_some _ e;have fin:=hR A5 ⟨by rw [e2,e3] at p5; exact p5,by rw [e1] at p3; exact u5 _ _ (u4 _ _ p3),⟨_,_,u5 _ _ p4⟩,⟨_,u5 _ _ (u4 _ _ (u3 _ _ (u2 _ _ p1))),rfl,rfl⟩,⟨_,u5 _ _ (u4 _ _ (u3 _ _ p2)),rfl,rfl⟩⟩
  (fun b o e=>u5 _ _ (u4 _ _ (u3 _ _ (u2 _ _ (Heap.get?_push_of_some _ e))))) e5
 have e4':s.heap.objs.size + 4=A4.objs.size:=e4.symm;rw [e4'] at fin;exact fin
theorem Rx {prog:Program} {w:World} {A:Around} {E:Value->Shared->Prop} {s:Shared} {t1 t2:Addr} {xs ys:Array Value} {Q:Value->Shared->Prop} (h1:s.heap.IsTuple t1 xs) (h2:s.heap.IsTuple t2 ys)
  (hQ:∀h':Heap,ZipT h' (s.heap.objs.size + 4) (s.heap.objs.size + 2) (s.heap.objs.size + 3) s.heap.objs.size (s.heap.objs.size + 1) t1 t2 .none 0->(∀b o,s.heap.get? b=some o->h'.get? b=some o)->h'.objs.size=s.heap.objs.size + 5->Q (.ref (s.heap.objs.size + 4)) { s with heap:=h' }) :
  wpAny (model prog w) A (call (.type "zip") [.ref t1,.ref t2]) Q E s :=
 callType_new F.called_zip (by decide) (F.typeCall_zip_2 _ _) (F.newCall_zip_2 _ _) (fun obj=>F.args_object_init_3 _ _ _) F.entry_zip_new (hB' t1 t2 xs ys) ⟨h1,h2,fun h' Z k e=>⟨⟨_,Z.zip,rfl⟩,hQ h' Z k e⟩⟩
theorem _root_.L2.Inv.butL {X:Cx} {pins:List (Addr×Obj)} {σ:St} {H:Hp} {s:Shared} {fp:List Addr} {h':Heap} {t':Nat} (J:Inv X pins σ H s) (hf:∀b∈fp,gZ X pins H b) (hk:∀b o,b∉fp->s.heap.get? b=some o->h'.get? b=some o) :
  Inv X pins σ H { s with heap:=h',toks:=t' }:=by
 have nC:∀b,H b≠none->b∉fp:=fun b hb z=>hb (hf b z).1;refine J.call' (ch:=fp) (s':={ s with heap:=h',toks:=t' }) rfl
   ⟨fun b o e n hb hx=>hk b o hx e,fun b o e n hb hx=>⟨o.slots,hk b o hx e⟩,fun b o e n _=>n,fun b o e hx=>⟨o,hk b o hx e⟩,fun b xs e=>e,fun b o u e=>e,fun b ps e=>⟨#[],by simpa using e⟩⟩
   (fun b u q=>(J.hok b u q).stay (fun c v hc e=>hk c v (by
    rcases hc with rfl | hc
    ·exact nC c (by rw [q]; intro z; cases z)
    ·exact nC c (by rw [hc]; intro z; cases z)) e) (fun _ z=>z) fun _ _ z=>z) J.bare
   fun b hb=>by
    obtain ⟨f0,f1,f2,f3,f4,f5⟩:=hf b hb;exact ⟨f3,f1,f4,f5⟩
noncomputable def K3 (K:Frag) (t1 t2:Addr):It :=
  ⟨fun i H=>∃xs ys v u,SqT K H t1 xs/\SqT K H t2 ys/\xs[i]? = some v/\ys[i]? = some u,
   fun i H x H'=>∃T,H T=none/\x=.ref T/\∃v u,(∀xs,SqT K H t1 xs->xs[i]? = some v)/\(∀ys,SqT K H t2 ys->ys[i]? = some u)/\H'=upd H T (.tup [v,u]),
   fun i H=>∃xs ys,SqT K H t1 xs/\SqT K H t2 ys/\(xs.length<=i\/ys.length<=i)⟩
theorem Ry {P:Program} {w:World} {K:Frag} {elts:List Expr} {x1:Nat} {pos:Pos} {z TI TO i1 i2 t1 t2:Addr} (ap:List.Nodup [z,TI,TO,i1,i2]) (n1:t1∉[z,TI,TO,i1,i2]) (n2:t2∉[z,TI,TO,i1,i2]) :
  Turn P w K (.Tuple elts x1 pos) (K3 K t1 t2) [z,TI,TO,i1,i2] z (fun i h=>ZipT h z TI TO i1 i2 t1 t2 .none i) where
 mem:=by simp
 obj:=fun i h st b hb=>by
  obtain ⟨gz,gti,⟨a,c,gto⟩,⟨o1,g1,_,d1⟩,⟨o2,g2,_,d2⟩⟩:=st;simp only [mem_cons,not_mem_nil,or_false] at hb;rcases hb with rfl | rfl | rfl | rfl | rfl
  ·exact ⟨_,gz,fun v q=>by cases q⟩
  ·exact ⟨_,gti,fun v q=>by cases q⟩
  ·exact ⟨_,gto,fun v q=>by cases q⟩
  ·exact ⟨_,g1,fun v q=>by rw [d1] at q; cases q⟩
  ·exact ⟨_,g2,fun v q=>by rw [d2] at q; cases q⟩
 keep:=fun i h h' st k=>by
  obtain ⟨gz,gti,⟨a,c,gto⟩,⟨o1,g1,r1⟩,⟨o2,g2,r2⟩⟩:=st;exact ⟨k z (by simp) _ gz,k TI (by simp) _ gti,⟨a,c,k TO (by simp) _ gto⟩,⟨o1,k i1 (by simp) _ g1,r1⟩,⟨o2,k i2 (by simp) _ g2,r2⟩⟩
 item:=by
  intro X hP hw hK hc i pins s σ H E I hf st hg;subst hP hw hK;obtain ⟨xs,ys,v,u,hq1,hq2,hx,hy⟩:=hg;obtain ⟨its1,rv1,p1,hz1⟩:=I.tuple hq1;obtain ⟨its2,rv2,p2,hz2⟩:=I.tuple hq2;obtain ⟨u1,hu1,ru1⟩:=rv1.get hx;obtain ⟨u2,hu2,ru2⟩:=rv2.get hy;refine Rt ap n1 n2 st (show s.heap.IsTuple t1 its1.toArray from p1) (show s.heap.IsTuple t2 its2.toArray from p2) (x:=u1) (y:=u2) (by simpa using hu1) (by simpa using hu2) fun h' Z gT kk=>?_
  refine ⟨_,rfl,wpAny_letOwnedTupleGo_zip (T:=s.heap.objs.size) Z.zip fun h'' gz'' sb=>?_⟩;have fT:gZ X pins H s.heap.objs.size:=I.fpOk (Nat.le_refl _) (I.hok.fresh (Nat.le_refl _));have zs:s.heap.objs.size≠z:=fun e=>by
   have:=Heap.lt_size st.zip; rw [<- e] at this; exact Nat.lt_irrefl _ this
  have kk2:∀b o,b∉[z,TI,TO,i1,i2]->s.heap.get? b=some o->h''.get? b=some o:=fun b o n e=>(sb.2 b (fun q=>n (by rw [q]; simp))).trans (kk b o n e);have I1:Inv X pins σ H { s with heap:=h'' }:=I.butL (t':=s.toks) hf kk2
  have gT2:h''.get? s.heap.objs.size=some { cls:=Value.type "tuple",data:=Data.seq #[u1,u2] }:=(sb.2 _ zs).trans gT;obtain ⟨f0,f1,f2,f3,f4,f5⟩:=fT;have I2:Inv X pins σ (upd H s.heap.objs.size (.tup [v,u])) { s with heap:=h'' }:=I1.track f0 (fun ob e _=>absurd (Nat.lt_of_lt_of_le (Heap.lt_size e) I.sz) (Nat.lt_irrefl _)) f1 f4 f5
   ⟨show 2<=sizeLine by decide,[u1,u2],.cons ru1 (.cons ru2 .nil),⟨_,gT2,rfl,_,rfl⟩⟩
  have nz:∀b,b≠z->h''.get? b=h'.get? b:=sb.2;refine ⟨.ref s.heap.objs.size,_,I2,rfl,⟨_,f0,rfl,v,u,fun xs' h=>?_,fun ys' h=>?_,rfl⟩,?_,fun b hb=>?_⟩
  ·rw [I.tuple_inj h hq1]; exact hx
  ·rw [I.tuple_inj h hq2]; exact hy
  ·have ap':=ap;simp only [nodup_cons,mem_cons,not_mem_nil,or_false,not_or,nodup_nil,and_true,not_false_eq_true] at ap';obtain ⟨⟨az1,az2,az3,az4⟩,_⟩:=ap';obtain ⟨_,gti,⟨a,c,gto⟩,⟨o1,g1,r1⟩,⟨o2,g2,r2⟩⟩:=Z;exact ⟨gz'',(nz _ (Ne.symm az1)).trans gti,⟨a,c,(nz _ (Ne.symm az2)).trans gto⟩,⟨o1,(nz _ (Ne.symm az3)).trans g1,r1⟩,⟨o2,(nz _ (Ne.symm az4)).trans g2,r2⟩⟩
  ·have hb2:b≠s.heap.objs.size:=fun e=>by
    obtain ⟨o,g,_⟩:=(show ∃o,s.heap.get? b=some o/\True from by
     obtain ⟨gz,gti,⟨a,c,gto⟩,⟨o1,g1,_⟩,⟨o2,g2,_⟩⟩:=st;simp only [mem_cons,not_mem_nil,or_false] at hb;rcases hb with rfl | rfl | rfl | rfl | rfl
     ·exact ⟨_,gz,trivial⟩
     ·exact ⟨_,gti,trivial⟩
     ·exact ⟨_,gto,trivial⟩
     ·exact ⟨_,g1,trivial⟩
     ·exact ⟨_,g2,trivial⟩)
    have:=Heap.lt_size g;rw [e] at this; exact Nat.lt_irrefl _ this
   rw [as' hb2]; exact (hf b hb).1
 done:=by
  intro X hP hw hK hc i pins s σ H E I hf st hg;subst hP hw hK;obtain ⟨xs,ys,hq1,hq2,hx⟩:=hg;obtain ⟨its1,rv1,p1,hz1⟩:=I.tuple hq1;obtain ⟨its2,rv2,p2,hz2⟩:=I.tuple hq2;have l1:=rv1.length;have l2:=rv2.length;refine Rv (I.ok.hd hc) ap n1 n2 st (show s.heap.IsTuple t1 its1.toArray from p1) (show s.heap.IsTuple t2 its2.toArray from p2) ?_ fun h' kk=>⟨rfl,I.butL (t':=s.toks) hf kk⟩
  rcases hx with q | q
  ·exact .inl (by simp; omega)
  ·exact .inr (by simp; omega)
 self:=fun _ _ _ _ _ st h=>wpAny_pyIter_zip st.zip h
noncomputable def nO (xs ys:List D):List D:=List.zipWith (fun x y=>D.tup [x,y]) xs ys
noncomputable def nP:List D->Res (List D)
 | [.tup xs,.tup ys]=>.ok (nO xs ys)
 | _=>.stuck
theorem hC' {K:Frag} {H:Hp} {t1 t2:Addr} {xs ys:List V} {ds es:List D} (h1:SqT K H t1 xs) (h2:SqT K H t2 ys) (r1:Reps K H ds xs) (r2:Reps K H es ys):dj K (K3 K t1 t2) H (nO ds es):=by
 intro H' e;have q1:=Ed e h1;have q2:=Ed e h2;have p1:=r1.mono e;have p2:=r2.mono e;refine ⟨fun i d hd=>?_,xs,ys,q1,q2,?_⟩
 ·unfold nO at hd;rw [List.getElem?_zipWith] at hd
  cases z1:ds[i]? with
  | none=>rw [z1] at hd; simp at hd
  | some x =>
   cases z2:es[i]? with
   | none=>rw [z1,z2] at hd; simp at hd
   | some y =>
    rw [z1,z2] at hd;simp only [Option.some.injEq] at hd;subst hd;obtain ⟨v,e1,s1⟩:=p1.get z1;obtain ⟨u,e2,s2⟩:=p2.get z2;refine ⟨⟨xs,ys,v,u,q1,q2,e1,e2⟩,fun a H'' yl=>?_⟩;obtain ⟨T,hT,rfl,v',u',k1,k2,rfl⟩:=yl;have w1:=k1 xs q1;have w2:=k2 ys q2;rw [e1] at w1; rw [e2] at w2
    cases w1; cases w2
    have sm:=iU hT (.tup [v,u]);exact ⟨sm,pX (SqT.of gW) (.cons (s1.mono sm) (.cons (s2.mono sm) .nil))⟩
 ·unfold nO;rw [length_zipWith,r1.length,r2.length];omega
theorem Rz (S:Nat):List.Nodup [S + 4,S + 2,S + 3,S,S + 1]:=by
 simp only [nodup_cons,mem_cons,not_mem_nil,or_false,not_or,nodup_nil,and_true,not_false_eq_true];omega
theorem K4 {S t:Nat} (h:t < S):t∉[S + 4,S + 2,S + 3,S,S + 1]:=by
 simp only [mem_cons,not_mem_nil,or_false,not_or];omega
theorem K5 {S b:Nat} (h:b∈[S + 4,S + 2,S + 3,S,S + 1]):S<=b:=by
 simp only [mem_cons,not_mem_nil,or_false] at h;omega
theorem Hb {X:Cx} {a b:Expr} {fa:DS->Res (List D)} {p pos tp:Pos} {elts:List Expr} {x1:Nat} (hg:Gl X "zip") (hm:X.mg "zip" = none) (ha:PAD X [a,b] fa) (hs:starEach [a,b] X.env=[(false,eval a X.env),(false,eval b X.env)]:=by rfl) (hs2:starEach [b] X.env=[(false,eval b X.env)]:=by rfl) :
  PID X (.Tuple elts x1 tp) (.Call (.Name "zip" p) [a,b] [] pos) (fun δ=>(fa δ).bind nP):=by
 intro pins s σ G H δ I R hn
 try dsimp only at hn ⊢
 refine Call_ (dc' I hg hm boot_zip (PyProof.Rows.callWith_type1 (ha.use I R (gq hn) (fun ds us s1 vs H1 q I1 r1 e1 b1 p1=>?_) fun e s1 q=>q.same fun x z=>gY z) (by rw [hs,hs2]) (by rw [hs2]; rfl)));have h2:=iD hn q;unfold nP at h2
 split at h2
 ·rename_i ds1 ds2;obtain ⟨v,ws,rfl,w1,w2⟩:=p1.cons_of;obtain ⟨v',ws,rfl,w3,w4⟩:=w2.cons_of
  cases w4.nil_of
  obtain ⟨t1,xs,rfl,s1',t1'⟩:=fB w1;obtain ⟨t2,ys,rfl,s2',t2'⟩:=fB w3
  cases r1 with
  | cons ra rr =>
   cases rr with
   | cons rb rr =>
    cases rr
    cases ra
    cases rb
    obtain ⟨its1,rv1,pp1,hz1⟩:=I1.tuple s1';obtain ⟨its2,rv2,pp2,hz2⟩:=I1.tuple s2';refine Rx (show s1.heap.IsTuple t1 its1.toArray from pp1) (show s1.heap.IsTuple t2 its2.toArray from pp2) fun h' Z kk sz=>?_
    have I2:Inv X pins σ H1 { s1 with heap:=h' }:=I1.kept (t':=s1.toks) kk
    obtain ⟨o1,g1,_⟩:=id pp1;obtain ⟨o2,g2,_⟩:=id pp2;have l1:=Heap.lt_size g1;have l2:=Heap.lt_size g2;refine wpAny_pyIter_zip Z.zip ?_;refine ⟨_,s1.heap.objs.size + 4,[s1.heap.objs.size + 4,s1.heap.objs.size + 2,s1.heap.objs.size + 3,s1.heap.objs.size,s1.heap.objs.size + 1],_,_,H1,by rw [q]; rfl,rfl,I2,Ry ?_ ?_ ?_,Z,fun b hb=>?_,e1,hC' s1' s2' t1' t2'⟩
    ·exact Rz _
    ·exact K4 l1
    ·exact K4 l2
    ·exact I1.fpOk (K5 hb) (I1.hok.fresh (K5 hb))
 ·exact (h2 rfl).elim
theorem Hc {m i j:Nat} (h:i < m) (h':j < m):fG m (cW [i,j]):=by
 intro d δ δ1 e
 cases d with
 | tup ds =>
  match ds,e with
  | [x,y],e =>
   simp only [cW,dh,Option.some.injEq] at e;subst e;exact ⟨by simp,fun k hk=>by rw [List.getElem?_set_ne (by omega),List.getElem?_set_ne (by omega)]⟩
  | [],e=>simp [cW,dh] at e
  | [x],e=>simp [cW,dh] at e
  | _ :: _ :: _ :: _,e=>simp [cW,dh] at e
 | _=>simp [cW] at e
section
variable {X:Cx} {e:Expr} {fe:DS->Res D} {pos:Pos} {op:Operator} {g:D->D->Res D}
end
theorem RB:fillsNumberSlot (.type "tuple") "mul" = pure false:=by first | exact noFill_tuple_mul | (unfold fillsNumberSlot; kernel_rfl)
theorem RC:seqRepeat? (.type "tuple")=pure (some (.builtin "tuple.__mul__")):=by first | exact repeat_tuple | (unfold seqRepeat?; kernel_rfl)
section
variable {prog:Program} {w:World} {A:Around} {E:Value->Shared->Prop} {s:Shared}
theorem RD {t:Addr} {items:Array Value} {k:Int} {tok:Tok} {Q:Value->Shared->Prop} (ht:IsTup s.heap t items) (h:Q .notImplemented s):wpAny (model prog w) A (call (.builtin "int.__rmul__") [.int k tok,.ref t]) Q E s:=by
 obtain ⟨o,g,hc,n,hd⟩:=id ht;refine wpAny_call (codeAny_call_builtin F.slot_int_rmul.plain F.entry_int_rmul (F.slot_int_rmul.check _ _ _ _ _ _ _ _ (typeIs_int s k tok) (F.args_int_rmul_2 _ _) ?_));refine wpAny_bind (m:=slotArgs _ _ _) (wpAny_pure ?_);refine wpAny_bind (m:=Builtin.Int.intOfSelf _) (wpAny_bind (m:=asInt? _) (wpAny_pure (wpAny_pure ?_)));refine wpAny_bind (m:=asInt? _) (wpAny_bind (m:=load _) (wpAny_load g ?_));simp only [hd];refine wpAny_pure ?_;exact wpAny_bind (wpAny_rule (wpAny_pure h))
theorem RG {t:Addr} {items:Array Value} {k:Nat} {tok:Tok} {Q:Value->Shared->Prop} (ht:IsTup s.heap t items) (hne:items.isEmpty=false) (hk:items.size * k<=1000) (h1:k=1->Q (.ref t) s)
  (h2:k≠1->Q (.ref s.heap.objs.size) { s with heap:=s.heap.push { cls:=.type "tuple",data:=.seq (List.replicate k items.toList).flatten.toArray } }):wpAny (model prog w) A (call (.builtin "tuple.__mul__") [.ref t,.int k tok]) Q E s:=by
 refine wpAny_call (codeAny_call_builtin F.slot_tuple_mul.plain F.entry_tuple_mul (F.slot_tuple_mul.check _ _ _ _ _ _ _ _ ht.typeIs (F.args_tuple_mul_2 _ _) ?_));refine wpAny_bind (m:=asIndex _) (wpAny_bind (m:=asInt? _) (wpAny_pure (wpAny_pure ?_)));have p1:1<=items.size:=by
  rcases Nat.eq_zero_or_pos items.size with z | z
  ·rw [Array.isEmpty_eq_false_iff,<- Array.size_pos_iff] at hne; omega
  ·exact z
 have kk:k<=1000:=Nat.le_trans (Nat.le_mul_of_pos_left k p1) hk;have hfit:(decide ((k:Int) < -2 ^ 63) || decide ((k:Int)>=2 ^ 63))=false:=by
  rw [Bool.or_eq_false_iff];exact ⟨decide_eq_false (by omega),decide_eq_false (by omega)⟩
 dsimp only;rw [hfit,if_neg Bool.false_ne_true];refine wpAny_bind (tupleItemsOf_ ht ?_)
 by_cases c:k=1
 ·have hc:(items.isEmpty || ((k:Nat):Int) == 1)=true:=by rw [c]; simp
  rw [if_pos hc];refine wpAny_bind (m:=Builtin.Tuple.tupleIsExact _) (wpAny_bind (wpAny_typeOf ht.typeIs (wpAny_pure ?_)));rw [if_pos (by decide)];exact wpAny_bind (wpAny_rule (wpAny_pure (h1 c)))
 ·have hc:¬((items.isEmpty || ((k:Nat):Int) == 1)=true):=by
   rw [hne]; simp; omega
  rw [if_neg hc];have q:=h2 c
  by_cases z:k=0
  ·have hz:(decide (((k:Nat):Int)<=0) || items.isEmpty)=true:=by rw [z]; simp
   rw [if_pos hz];rw [z] at q;exact wpAny_bind (m:=Builtin.Tuple.tupleExact _) (wpAny_newObj_type (wpAny_pure q) (show 0<=sizeLine from Nat.zero_le _))
  ·have hz:¬((decide (((k:Nat):Int)<=0) || items.isEmpty)=true):=by
    rw [hne]; simp; omega
   rw [if_neg hz];have e0:((items.size:Int) * (k:Int))=((items.size * k:Nat):Int):=by simp
   have hs:(1000:Nat)<=sizeLine:=by decide
   have hm:¬((items.size:Int) * (k:Int) > (2 ^ 63 - 1) / 8):=by
    rw [e0];have:((2:Int) ^ 63 - 1) / 8=1152921504606846975:=by decide
    omega
   rw [if_neg hm];have ht2:¬(Builtin.Tuple.tupleTooMany ((items.size:Int) * (k:Int))=true):=by
    unfold Builtin.Tuple.tupleTooMany;rw [e0]; simp only [decide_eq_true_eq]; omega
   rw [if_neg ht2];have hf:List.foldl (fun x1 x2=>x1 ++ x2) #[] (List.replicate ((k:Nat):Int).toNat items)=(List.replicate k items.toList).flatten.toArray:=by
    have:=foldl_rep items.toList k [];rw [nil_append] at this;rw [Int.toNat_natCast];simpa using this
   rw [hf];exact wpAny_bind (m:=Builtin.Tuple.tupleExact _) (wpAny_newObj_type (wpAny_pure q) (by show _<=sizeLine; rw [size_toArray,len_rep,Array.length_toList,Nat.mul_comm]; omega))
end
noncomputable def wF (K:Frag):R2:=fun x y H Q=>∃a k xs,x=.ref a/\y=.int ((k:Nat):Int)/\SqT K H a xs/\xs≠[]/\xs.length * k<=1000/\(k=1->Q (.ref a) H)/\(k≠1->∀p,H p=none->Q (.ref p) (upd H p (.tup (List.replicate k xs).flatten)))
theorem RJ {X:Cx}:OpR X (binaryOp .Mult) (wF X.K):=by
 intro pins s σ H x y v u Q I rx ry h;obtain ⟨a,k,xs,rfl,rfl,hq,hne,hz,q1,q2⟩:=h
 cases rx
 obtain ⟨t,rfl⟩:=ry;obtain ⟨its,r,ht,hzz⟩:=I.tuple hq;have hl:=r.length;refine wpAny_binaryOp_repeat_ref (T:="tuple") (U:="int") (by decide) ht.typeIs (fun s'=>typeIs_int s' k t) RB F.fills_int_mul F.slot_int_rmul RC F.slot_int_index.lookup
  (RD ht ⟨rfl,ht.typeIs,?_⟩)
 refine RG ht ?_ (by rw [size_toArray,<- hl]; exact hz) (fun e=>⟨.ref a,H,I,rfl,q1 e⟩) fun e=>?_
 ·cases its with
  | nil=>exact (hne (eq_nil_of_length_eq_zero hl)).elim
  | cons b l=>simp
 ·have hb:(List.replicate k xs).flatten.length<=sizeLine:=by
   rw [len_rep,Nat.mul_comm]; exact Nat.le_trans hz (by decide)
  exact ⟨.ref s.heap.objs.size,_,I.laid (t':=s.toks) (o:=.tup (List.replicate k xs).flatten) (fun b ob q=>Heap.get?_push_of_some _ q) (Nat.le_refl _) ⟨hb,_,r.rep k,IsTup.new _ _⟩,rfl,q2 e _ (I.hok.fresh (Nat.le_refl _))⟩
theorem Reps.rep {K:Frag} {H:Hp} {ds:List D} {vs:List V} (h:Reps K H ds vs):∀k:Nat,Reps K H (List.replicate k ds).flatten (List.replicate k vs).flatten
 | 0=>Reps.nil
 | k + 1=>by
  rw [replicate_succ,replicate_succ,flatten_cons,flatten_cons];exact h.append (Reps.rep h k)
noncomputable def qP (ds:List D) (k:Int):Res D:=if ds.isEmpty=false/\0<=k/\ds.length * k.toNat<=1000 then .ok (.tup (List.replicate k.toNat ds).flatten) else .stuck
noncomputable def bK:D->D->Res D
 | .tup ds,.int k=>qP ds k
 | a,b=>dY a b
theorem gG (x y:D):aX (bK x y):=by
 unfold bK
 split
 ·unfold qP; exact nG eO dG
 ·exact Qt _ _
theorem RK {X:Cx} (E:Value->Shared->Prop):OpR (X.wish E) (binaryOp .Mult) (wF X.K):=RJ
theorem gH {X:Cx}:OpD X (binaryOp .Mult) bK:=by
 intro E pins s σ H x y v u a b d I r1 r2 p1 p2 e;unfold bK at e
 split at e
 ·rename_i ds k;unfold qP at e
  split at e
  ·rename_i c
   cases e
   obtain ⟨p,us,rfl,s1,t1⟩:=fB p1;have hy:=c7 p2;subst hy;have hk:((k.toNat:Nat):Int)=k:=by omega
   refine gn (RK E pins s σ H (.ref p) (.int k) v u (fun z H'=>Same H H'/\Rep X.K H' (.tup (List.replicate k.toNat ds).flatten) z) (I.wish _) r1 r2 ⟨p,k.toNat,us,rfl,by rw [hk],s1,?_,by rw [t1.length]; exact c.2.2,fun e1=>⟨Same.refl H,?_⟩,fun _ z hz=>⟨iU hz _,pX (SqT.of gW) ((t1.rep _).mono (iU hz _))⟩⟩) fun w s2 ⟨z,H1,I1,r3,e1,p3⟩=>⟨_,z,H1,rfl,I1.unwish,r3,e1,p3⟩
   ·intro z; rw [z] at t1; have:=t1.isEmpty; rw [c.1] at this; cases this
   ·rw [e1,replicate_one,flatten_cons,flatten_nil,append_nil]; exact pX s1 t1
  ·cases e
 ·exact Qw E pins s σ H x y v u a b d I r1 r2 p1 p2 e
noncomputable def intsOf:List D->Option (List Int)
 | []=>some []
 | .int i :: ds=>(intsOf ds).map (i :: ·)
 | _=>none
theorem Hd:∀{ds:List D} {ns:List Int},intsOf ds=some ns->ds=ns.map .int
 | [],ns,h=>by cases h; rfl
 | d :: ds,ns,h=>by
  cases d <;> first | (simp [intsOf] at h; done) | skip
  rename_i i;simp only [intsOf] at h
  cases q:intsOf ds with
  | none=>rw [q] at h; cases h
  | some ms=>rw [q] at h; cases h; rw [Hd q]; rfl
theorem RL {X:Cx} {x:Str} {pos:Pos} {v:Int} (hg:Gl X x) (hm:∃t:Tok,X.mg x=some (.int v t)) (hdb:(x == ("__debug__" : Str))=false:=by decide):PD X (.Name x pos) (fun _=>.ok (.int v)):=by
 obtain ⟨t,h⟩:=hm;exact Ql (v:=.int v) hg h ⟨t,rfl⟩ (fun _=>j6) hdb
section
variable {X:Cx}
end
structure FunV (K:Frag) (x qual:Str) (st:Stmt) (f:Addr) (fd:FuncData):Prop where
 ex:∃(oc:Value) (od:Option Addr) (dV kV doc pm:Value) (an:Option Addr) (cdv ct:Value) (osl:Array (Option Value)),
  fd=fnOf x qual (bO st) (bz st) (az st) dV kV doc pm an cdv ct/\K.lookup f=some ⟨oc,od,.func fd,osl⟩/\codeIn K cdv qual=true
 kp:keepIn K (.ref f)=true
section
variable {P:Program} {w:World} {K:Frag} {mg:Str->Option Value} {base:Heap}
theorem FunV.binds {x qual:Str} {st:Stmt} {f:Addr} {fd:FuncData} {ps:List Str} (F:FunV K x qual st f fd)
  (h:∀(dV kV doc pm:Value) (an:Option Addr) (cdv ct:Value) (us:List Value),us.length=ps.length->bindArgs (fnOf x qual (bO st) (bz st) (az st) dV kV doc pm an cdv ct) ⟨us,[]⟩=pure (ps.zip us)):Binds K fd ps []:=by
 obtain ⟨oc,od,dV,kV,doc,pm,an,cdv,ct,osl,rfl,lk,hcd⟩:=F.ex;exact .all (h dV kV doc pm an cdv ct)
end
noncomputable def dJ (i:Nat) (f:DS->Res D):DS->Out:=fun δ=>match f δ with
 | .ok (.lst ds)=>.nxt (δ.set i (some (.own ds)))
 | .ok _=>.stuck
 | .err x=>.err x δ
 | .stuck=>.stuck
section
variable {X:Cx} {m:Nat} {fr:List Nat} {N':List Str} {scope:Scope} {cl:List (Str×Addr)} {tg iter elt:Expr} {pos:Pos} {t:gb} {fe:DS->Res D} {fi:DS->Res (List D)}
theorem K6 (i:Nat) {y:Str} {py spos:Pos} (W:Around' X m fr N' scope cl) (hcalm:X.calm=true) (hkt:fG m t) (hi:PID X tg iter fi) (ht:∀C s H fp,PGD (cC X N' scope cl C s H fp) tg t) (he:∀C s H fp,PD (cC X N' scope cl C s H fp) elt fe)
  (hN:X.N.Nodup) (hsw:swapsWith (.ListComp elt [⟨tg,iter,[],0⟩] scope pos) (some (.Name y py)) spos.line X.env=pure true:=by rfl) (hy:X.N[i]? = some y:=by rfl) (hx:Loc X.env.scope y:=by first | exact Or.inl rfl | exact Or.inr rfl)
  (hfn:X.fn y=true\/X.env.scope.names.lookup y=some .local:=by first | exact .inl rfl | exact .inr rfl | assumption) (hf:∀x,foldedSetIterable iter X.env x=pure x:=by intro _; rfl) :
  PSD X (.Assign [.Name y py] (.ListComp elt [⟨tg,iter,[],0⟩] scope pos) spos) (dJ i (aO m fr t fe fi)):=by
 intro pins s σ G H δ I R hs;have hs':aO m fr t fe fi δ≠.stuck:=fun z=>hs (by unfold dJ; rw [z]);rw [exec_Assign_Name_used _ _ _ _ hsw];refine wpAny_bind (wpAny_standAt (wpAny_bind ?_));show wpAny _ X.A (do let _ <- comprehension (.ListComp elt [⟨tg,iter,[],0⟩] scope pos) scope X.env _ (newList []) false (eval iter X.env) (some (assign (.Name y py) X.env))) _ _ s
 refine wpAny_bind (wpAny_mono (wpAny_comprehension_free (use:=some (assign (.Name y py) X.env)) (Q:=fun _ s'=>SPost X pins G H (dJ i (aO m fr t fe fi) δ) .next s') rfl hf W.clos W.kind W.names
  (GZ W hcalm hkt hi ht he I R hs' (fun e s1 q=>q.sx R fun x z=>by unfold dJ; rw [z]) (RR:=fun acc C=>compPost _ _ _ (some (assign (.Name y py) X.env)) _ acc C) ?_)) (fun _ s' hq=>wpAny_pure (wpAny_pure hq)) fun _ _ e=>e)
 intro a C s' H' ds xs mC ev J e' ha hx' hr hns hC hCa hC0 hCf hCl hCc hCp;show wpAny _ X.A (assign (.Name y py) X.env (.ref a)) _ _ _;refine wpAny_assign_Name (Ge J hN hy hx (v:=.ref a) (u:=.ref a) rfl (fun s2 I2 ⟨b,sb,hb⟩=>?_) hfn);have hbC:C≠b:=by
  rcases hb with z | z
  ·rw [z]; exact hCl
  ·exact fun w=>hCc _ _ z w.symm
 refine ⟨mC,hns.sameBut sb hbC,fun h' hs'=>?_⟩;refine ⟨_,_,H',by unfold dJ; rw [ev],I2.but (t':=s2.toks) hC hC0 hCl hCc hCp hs',e'.tk,R.setOwn e' i ha hx' hr⟩
end
noncomputable def fH (i:Nat) (ds:List D) (j:Nat) (d:D) (δ:DS):DS:=(δ.map fun o=>o.bind cM).set i (some (.own (ds.set j d)))
theorem Reps.setAt {K:Frag} {H:Hp}:∀{ds:List D} {vs:List V} (j:Nat) {d:D} {v:V},Reps K H ds vs->Rep K H d v->Reps K H (ds.set j d) (vs.set j v)
 | [],_,_,_,_,h,_=>by cases h.nil_of; exact Reps.nil
 | a :: ds,_,0,_,_,h,p=>by
  obtain ⟨v,vs,rfl,_,q⟩:=h.cons_of;exact Reps.cons p q
 | a :: ds,_,j + 1,_,_,h,p=>by
  obtain ⟨v,vs,rfl,r,q⟩:=h.cons_of;exact Reps.cons r (Reps.setAt j q p)
theorem RepSt.put {K:Frag} {G H:Hp} {σ:St} {δ:DS} {i:Nat} {ds:List D} {j:Nat} {d:D} {a:Addr} {xs:List V} {v:V} (R:RepSt K G H σ δ) (hδ:δ[i]? = some (some (.own ds))) (hσ:σ[i]? = some (some (.ref a))) (hH:H a=some (.lst xs)) (r:Reps K H ds xs) (hG:G a=none) (hf:aR ds=true) (hd:bQ d=true) (p:Rep K H d v) :
  RepSt K G (upd H a (.lst (xs.set j v))) σ (fH i ds j d δ) where
 same:=fun b o e=>by
  have hb:b≠a:=fun z=>by subst z; rw [hG] at e; cases e
  rw [as' hb]; exact R.same b o e
 len:=by unfold fH; rw [length_set,length_map]; exact R.len
 at_:=fun k sv h=>by
  unfold fH at h;have hl:i < δ.length:=(List.getElem?_eq_some_iff.mp hδ).1
  by_cases hj:i=k
  ·subst hj;rw [List.getElem?_set_self (by rw [length_map]; exact hl)] at h
   cases h
   exact ⟨.ref a,hσ,a,xs.set j v,rfl,gW,(Reps.lset hH hf r).setAt j (Rep.lset hH hd p),hG⟩
  ·rw [List.getElem?_set_ne hj] at h;obtain ⟨sv0,q1,q2⟩:=dk' h;obtain ⟨u,e1,e2⟩:=R.at_ k sv0 q1;refine ⟨u,e1,?_⟩
   cases sv0 with
   | val d' =>
    simp only [cM] at q2
    split at q2
    ·rename_i c; cases q2; exact Rep.lset hH c e2
    ·cases q2
   | arg d'=>cases q2; exact e2
   | own es =>
    simp only [cM] at q2
    split at q2
    ·rename_i c
     cases q2
     obtain ⟨b,ys,rfl,w2,w3,w4⟩:=e2;have hb:b≠a:=fun z=>by subst z; exact R.sep i k ds es (.ref b) hj hδ q1 hσ e1
     exact ⟨b,ys,rfl,by rw [as' hb]; exact w2,Reps.lset hH c w3,w4⟩
    ·cases q2
 sep:=fun k l es fs u hjk h1 h2 h3=>by
  have get:∀(m:Nat) (gs:List D),(fH i ds j d δ)[m]? = some (some (.own gs))->∃gs',δ[m]? = some (some (.own gs')):=fun m gs h=>by
   unfold fH at h
   by_cases hm:i=m
   ·subst hm; exact ⟨ds,hδ⟩
   ·rw [List.getElem?_set_ne hm] at h;obtain ⟨sv0,q1,q2⟩:=dk' h;obtain ⟨rfl,_⟩:=KQ q2;exact ⟨gs,q1⟩
  obtain ⟨es',g1⟩:=get k es h1;obtain ⟨fs',g2⟩:=get l fs h2;exact R.sep k l es' fs' u hjk g1 g2 h3
noncomputable def putD (i:Nat) (fi fe:DS->Res D):DS->Out:=fun δ=>match δ[i]? with
 | some (some (.own ds))=>j7 (fe δ) δ fun d=>j7 (fi δ) δ fun k=>match k with
  | .int z=>(match jY ds.length z with
   | some j=>if aR ds=true/\bQ d=true then .nxt (fH i ds j d δ) else .stuck
   | none=>.stuck)
  | _=>.stuck
 | _=>.stuck
section
variable {X:Cx} {e ix:Expr} {fe fi:DS->Res D} {x:Str} {pos np sp:Pos}
theorem fR' (i:Nat) (he:PD X e fe) (hi:PD X ix fi) (hne:∀δ,aX (fi δ)) (hN:X.N[i]? = some x:=by rfl) (hv:wZ X.env.scope x:=by first | exact Or.inl rfl | exact Or.inr (Or.inl rfl) | exact Or.inr (Or.inr rfl)) (hd:(x == ("__debug__" : Str))=false:=by decide)
  (hcd:(x == ("__classdict__" : Str))=false:=by decide)
  (ha:∀v,assign (.Subscript (.Name x np) ix sp) X.env v=(do
   let ov <- holding [v] (eval (.Name x np) X.env)
   let iv <- holding [v,ov] (eval ix X.env)
   standAt sp
   holding [v,ov,iv] (setItem ov iv v)
   release [v,ov,iv] []):=by intro _; rfl)
  (hw1:swapsWithSole [(.Subscript (.Name x np) ix sp)] e pos.line X.env=pure false:=by rfl) (hw:swappedStores [(.Subscript (.Name x np) ix sp)] e X.env=pure none:=by rfl) (h1:(assignEach [(.Subscript (.Name x np) ix sp)] X.env).map (·.2)=[assign (.Subscript (.Name x np) ix sp) X.env]:=by rfl) :
  PSD X (.Assign [.Subscript (.Name x np) ix sp] e pos) (putD i fi fe):=by
 intro pins s σ G H δ I R hs;unfold putD at hs ⊢
 split at hs
 ·rename_i ds hδ;obtain ⟨v0,hσ,a,xs,rfl,hH,r,hG⟩:=R.at_ i _ hδ;refine wpAny_Assign_stores (he.use I R (yN hs) (fun d u s1 w H1 q I1 r1 e1 b1 p1=>?_) fun e s1 q=>q.sx R fun x z=>by rw [z]; rfl) hw1 hw;rw [h1];rw [q] at hs ⊢;have hs2:j7 (fi δ) δ (fun k=>match k with
   | .int z=>(match jY ds.length z with
    | some j=>if aR ds=true/\bQ d=true then Out.nxt (fH i ds j d δ) else .stuck
    | none=>.stuck)
   | _=>.stuck)≠.stuck:=hs
  show wpAny _ _ (assign (.Subscript (.Name x np) ix sp) X.env u) _ _ _;rw [ha];have hH1:=e1 a _ hH;refine wpAny_bind (wpAny_holding (wpAny_mono (D_ (X:=X.wish fun _ _=>False) hN hv hd hcd pins s1 σ H1 (fun v' H'=>v'=.ref a/\H'=H1) (I1.wish _) ⟨.ref a,hσ,rfl,rfl⟩) (fun ov s2 q2=>?_) fun _ _ z=>z.elim));obtain ⟨v',H',I2,r2,rfl,rfl⟩:=q2;have I2':=I2.unwish;have R1:=R.mono e1;refine wpAny_bind (wpAny_holding (hi.use I2' R1 (yN hs2) (fun k u3 s3 w3 H3 q3 I3 r3 e3 b3 p3=>?_) fun e s1 q=>?_))
  ·rw [q3] at hs2 ⊢
   cases k with
   | int z =>
    have hs3:(match jY ds.length z with
     | some j=>if aR ds=true/\bQ d=true then Out.nxt (fH i ds j d δ) else .stuck
     | none=>.stuck)≠.stuck:=hs2
    cases hj:jY ds.length z with
    | none=>rw [hj] at hs3; exact (hs3 rfl).elim
    | some j =>
     rw [hj] at hs3;have hc:aR ds=true/\bQ d=true:=by
      by_cases c:aR ds=true/\bQ d=true
      ·exact c
      ·dsimp only at hs3; rw [if_neg c] at hs3; exact (hs3 rfl).elim
     have hH3:=e3 a _ hH1;rw [c7 p3] at r3;refine wpAny_bind (wpAny_standAt (wpAny_bind (wpAny_holding (wpAny_mono (set_list (X:=X.wish fun _ _=>False) pins s3 σ H3 (.ref a) (.int z) w ov u3 u (fun H4=>H4=upd H3 a (.lst (xs.set j w))) (I3.wish _) r2 r3 r1 ⟨a,xs,z,j,rfl,rfl,hH3,by rw [r.length]; exact hj,rfl⟩) (fun _ s4 q4=>?_) fun _ _ z=>z.elim))));obtain ⟨H4,I4,rfl⟩:=q4;refine wpAny_release ?_;have e13:=e1.trans e3;have ev:(j7 (Res.ok d) δ fun d=>j7 (Res.ok (D.int z)) δ fun k=>match k with
      | .int z=>(match jY ds.length z with
       | some j=>if aR ds=true/\bQ d=true then Out.nxt (fH i ds j d δ) else .stuck
       | none=>.stuck)
      | _=>.stuck)=Out.nxt (fH i ds j d δ):=by
      show (match jY ds.length z with
       | some j=>if aR ds=true/\bQ d=true then Out.nxt (fH i ds j d δ) else .stuck
       | none=>.stuck)=_
      rw [hj]; dsimp only; rw [if_pos hc]
     rw [ev];refine ⟨_,σ,_,rfl,I4.unwish,⟨fun b ys h=>?_,fun b o u h=>?_,fun b h=>?_⟩,(R.mono e13).put hδ hσ hH3 (r.mono e13) hG hc.1 hc.2 (p1.mono e3)⟩
     ·have hb:b≠a:=fun z=>by subst z; rw [hH] at h; cases h
      rw [as' hb]; exact e13 b _ h
     ·have hb:b≠a:=fun z=>by subst z; rw [hH] at h; cases h
      rw [as' hb]; exact e13 b _ h
     ·by_cases hb:b=a
      ·subst hb; rw [gW] at h; cases h
      ·rw [as' hb] at h; exact e13.free h
   | _=>exact (hs2 rfl).elim
  ·obtain ⟨y,_,_,_,q1,_⟩:=q;exact (hne δ y q1).elim
 ·exact (hs rfl).elim
end
noncomputable def j9 (f:DS->Res D):DS->Res D:=fun δ=>match f δ with
 | .err _=>.stuck
 | r=>r
theorem Hf (f:DS->Res D):∀δ,aX (j9 f δ):=fun δ x h=>by
 unfold j9 at h
 split at h
 ·cases h
 ·rename_i hn; exact hn x h
theorem K7 {f:DS->Res D} {δ:DS} {d:D} (h:f δ=.ok d):j9 f δ=.ok d:=by unfold j9; rw [h]
theorem Hg {X:Cx} {e:Expr} {f:DS->Res D} (h:PD X e f):PD X e (j9 f):=by
 intro pins s σ G H δ I R hs;have h1:j9 f δ=f δ:=by
  unfold j9 at hs ⊢
  split
  ·rename_i x hx; rw [hx] at hs; exact (hs rfl).elim
  ·rfl
 rw [h1] at hs ⊢;exact h pins s σ G H δ I R hs
noncomputable def dM:D->D->Res D
 | .int i,.tup ds=>(match intsOf ds with | some ns=>.ok (.bl (!ns.contains i)) | none=>.stuck)
 | .int i,.lst ds=>(match intsOf ds with | some ns=>.ok (.bl (!ns.contains i)) | none=>.stuck)
 | _,_=>.stuck
theorem K8 (x y:D):aX (dM x y):=by
 unfold dM
 split
 ·split
  ·exact eO
  ·exact dG
 ·split
  ·exact eO
  ·exact dG
 ·exact dG
theorem Hh {K:Frag} {H:Hp}:∀{ns:List Int} {xs:List V},Reps K H (ns.map .int) xs->xs=ns.map V.int
 | [],_,h=>h.nil_of
 | n :: ns,_,h=>by
  obtain ⟨v,vs,rfl,p,t⟩:=h.cons_of;rw [c7 p,Hh t]; rfl
theorem K9 (i:Int) (ns:List Int):inV (.int i) (ns.map V.int)=ns.contains i:=by
 unfold inV
 induction ns with
 | nil=>rfl
 | cons n ns ih =>
  rw [map_cons,any_cons,ih,contains_cons]
  congr 1
  show (n == i)=(i == n);exact Bool.eq_iff_iff.mpr ⟨fun h=>beq_iff_eq.mpr (beq_iff_eq.mp h).symm,fun h=>beq_iff_eq.mpr (beq_iff_eq.mp h).symm⟩
theorem K_ (ns:List Int):(ns.map V.int).all gM=true:=by
 induction ns with
 | nil=>rfl
 | cons n ns ih=>rw [map_cons,all_cons,ih]; rfl
section
variable {X:Cx}
theorem La:OpD X (compareOp .NotIn) dM:=OpD.of (r:=JW X.K true) (fun E=>Qd (X:=X.wish E)) fun H x y a b d Q p1 p2 e q=>by
 unfold dM at e
 split at e
 ·rename_i i ds
  split at e
  ·rename_i ns hn
   cases e
   have:=Hd hn;subst this;obtain ⟨t,xs,rfl,hq,r⟩:=fB p2;have:=Hh r;subst this;rw [c7 p1];refine ⟨t,_,rfl,.inr hq,rfl,K_ ns,?_⟩;rw [if_pos rfl,K9];exact q _ H (Same.refl H) xm
  ·cases e
 ·rename_i i ds
  split at e
  ·rename_i ns hn
   cases e
   have:=Hd hn;subst this;obtain ⟨t,xs,rfl,hq,r⟩:=fC p2;have:=Hh r;subst this;rw [c7 p1];refine ⟨t,_,rfl,.inl hq,rfl,K_ ns,?_⟩;rw [if_pos rfl,K9];exact q _ H (Same.refl H) xm
  ·cases e
 ·cases e
end
noncomputable def iH:D->D->Res D
 | .lst xs,.lst ys=>if xs.length + ys.length<=sizeLine then .ok (.lst (xs ++ ys)) else .stuck
 | _,_=>.stuck
theorem RM {a b d:D} (h:iH a b=.ok d):∃xs ys,a=.lst xs/\b=.lst ys/\xs.length + ys.length<=sizeLine/\d=.lst (xs ++ ys):=by
 cases a <;> cases b <;> first | (simp [iH] at h; done) | skip
 rename_i xs ys;simp only [iH] at h
 split at h
 ·rename_i c; cases h; exact ⟨xs,ys,rfl,rfl,c,rfl⟩
 ·cases h
theorem RN (a b:D):aX (iH a b):=by cases a <;> cases b <;> first | exact dG | exact nG eO dG
section
variable {X:Cx} {a b:Expr} {fa fb:DS->Res D} {x:Str} {pos pos' bp:Pos}
theorem hD' (i:Nat) (ha:PD X a fa) (hb:PD X b fb) (hN:X.N.Nodup) (hi:X.N[i]? = some x:=by rfl) (hx:Loc X.env.scope x:=by first | exact Or.inl rfl | exact Or.inr rfl) (hw:swapsWith (.BinOp a .Add b bp) (some (.Name x pos')) pos.line X.env=pure false:=by rfl)
  (hf:X.fn x=true\/X.env.scope.names.lookup x=some .local:=by first | exact .inl rfl | exact .inr rfl | assumption):PSD X (.Assign [.Name x pos'] (.BinOp a .Add b bp) pos) (dJ i (two fa fb iH)):=by
 intro pins s σ G H δ I R hs;have hs':two fa fb iH δ≠.stuck:=fun z=>hs (by unfold dJ; rw [z]);refine wpAny_Assign_Name (wpAny_BinOp (Gv ha hb I R hs' (fun y z v u s2 vx vy H2 q I2 r1 r2 e2 p1 p2=>?_) fun e s1 q=>q.sx R fun x z=>by unfold dJ; rw [z])) hw
 cases qg:iH y z with
 | stuck=>exact (hs' (q.trans qg)).elim
 | err w=>exact (RN _ _ w qg).elim
 | ok d =>
  obtain ⟨xs,ys,rfl,rfl,hz,rfl⟩:=RM qg;obtain ⟨p,us,rfl,s1,t1⟩:=fC p1;obtain ⟨p',ws,rfl,s2',t2⟩:=fC p2;refine wpAny_mono (Ka (X:=X) (fun _ _=>False) pins s2 σ H2 (.ref p) (.ref p') v u (fun z H4=>∃c,H2 c=none/\z=.ref c/\H4=upd H2 c (.lst (us ++ ws))) (I2.wish _) r1 r2 ⟨p,p',us,ws,rfl,rfl,s1,s2',by rw [t1.length,t2.length]; exact hz,fun c hc=>⟨c,hc,rfl,rfl⟩⟩) (fun w s3 q3=>?_) fun _ _ z=>z.elim;obtain ⟨z,H3,I3,r3,c,hc,rfl,rfl⟩:=q3;have sm:=iU hc (.lst (us ++ ws));have ev:dJ i (two fa fb iH) δ=.nxt (δ.set i (some (.own (xs ++ ys)))):=by unfold dJ; rw [q.trans qg]
  exact zf I3.unwish hN hi hx (v:=.ref c) r3 (fun s4 I4=>⟨_,_,_,ev,I4,(e2.trans sm).tk,(R.mono e2).setOwn sm i hc gW ((t1.append t2).mono sm)⟩) hf
end
section
variable {X:Cx} {e:Expr} {fe:DS->Res D} {lo hi:Option Expr} {st:Expr} {fl fu fs:DS->Res (Option Int)} {pos p2:Pos}
end
section
variable {X:Cx} {tg:Expr}
end
section
variable {X:Cx} {tg:Expr} {t:gb} {body:List Stmt} {fb:DS->Out} {pos:Pos} {G H:Hp} {E:Ends}
end
noncomputable def Hi (X:Cx) (pins:List (Addr×Obj)) (σ:St) (H:Hp) (tg:Expr) (r:Res (List D)) (itv:Value) (s2:Shared):Prop :=
 ∃(ds:List D) (it:Addr) (fp:List Addr) (tn:Nat->Heap->Prop) (J:It) (H':Hp) (a:Addr) (ob:Obj) (u:HO),r=.ok ds/\itv=.ref it/\Inv X pins σ H' s2/\Turn X.prog X.w X.K tg J fp it tn/\tn 0 s2.heap/\(∀b∈fp,gZ X pins H' b)/\Same H H'/\H' a=some (.frz ob u) /\
  ∀G:Hp,G a=some (.frz ob u)->dj X.K J G ds
noncomputable def PIN (X:Cx) (tg iter:Expr) (f:DS->Res (List D)):Prop :=
 ∀(pins:List (Addr×Obj)) (s:Shared) (σ:St) (G H:Hp) (δ:DS),Inv X pins σ H s->RepSt X.K G H σ δ->f δ≠.stuck ->
  wpAny (model X.prog X.w) X.A (eval iter X.env) (fun v s1=>wpAny (model X.prog X.w) X.A (pyIter v) (Hi X pins σ H tg (f δ)) (XPost X pins σ H s.heap (f δ)) s1) (XPost X pins σ H s.heap (f δ)) s
section
variable {X:Cx} {e:Expr} {fe:DS->Res D} {lo hi:Option Expr} {st:Expr} {fl fu fs:DS->Res (Option Int)} {pos p2:Pos}
end
theorem PIN.pi {X:Cx} {tg iter:Expr} {f:DS->Res (List D)} (h:PIN X tg iter f):PI X.nox tg iter (fun σ H R=>∃G δ ds,RepSt X.K G H σ δ/\f δ=.ok ds/\∀J H' a ob u,Same H H'->H' a=some (.frz ob u)->(∀G:Hp,G a=some (.frz ob u)->dj X.K J G ds)->R J H'):=by
 intro pins s σ H R I ⟨G,δ,ds,RR,q,n⟩;refine wpAny_mono (h pins s σ G H δ I.unwish RR (by rw [q]; intro z; cases z)) (fun v s1 p=>?_) fun e s1 p=>?_
 ·refine wpAny_mono p (fun itv s2 ⟨ds',it,fp,tn,J,H',a,ob,u,q1,q2,I2,T,t0,hf,e2,w2,y⟩=>?_) fun e s2 p=>?_
  ·rw [q] at q1; cases q1;exact ⟨it,fp,tn,J,H',q2,I2.wish _,T,t0,hf,n J H' a ob u e2 w2 y⟩
  ·rw [q] at p; exact p.none
 ·rw [q] at p; exact p.none
section
variable {X:Cx} {tg iter:Expr} {body:List Stmt} {t:gb} {fb:DS->Out} {pos:Pos}
end
section
variable {X:Cx} {e:Expr} {es:List Expr} {fs:DS->Res (List D)} {F:List D->Res D} {k:Nat} {f:Addr} {fd:FuncData} {ps:List Str} {x:Str} {p pos:Pos}
end
noncomputable def aP (P:Program) (w:World) (K:Frag) (mg:Str->Option Value) (base:Heap) (k:Nat) (x:Str) (F:List D->Res D):Prop :=
 ∃(f:Addr) (fd:FuncData) (ps:List Str),FnOk P w K mg base (iJ P w) k f fd ps (vC K F)/\mg x=some (.ref f)/\keepIn K (.ref f)=true/\Binds K fd ps []
noncomputable def Ent (K:Frag) (mg:Str->Option Value) (x:Str) (st:Stmt) (ps:List Str):Prop :=
 ∃(f:Addr) (fd:FuncData),mg x=some (.ref f)/\Fun K x x st f fd/\Binds K fd ps []
noncomputable def Lk (K:Frag) (x:Str) (st:Stmt):Prop :=
 ∃(f:Addr) (fd:FuncData),nsIn K mainGlobals x=some (some (.ref f))/\Fun K x x st f fd
section
variable {K:Frag} {x:Str} {st:Stmt}
theorem lk_mk {f:Addr} {oc:Value} {od an:Option Addr} {osl:Array (Option Value)} {kV doc pm cdv ct:Value} (n:nsIn K mainGlobals x=some (some (.ref f))) (l:K.lookup f=some ⟨oc,od,.func (fnOf x x (bO st) (bz st) (az st) .none kV doc pm an cdv ct),osl⟩)
  (c:codeIn K cdv x=true) (k:keepIn K (.ref f)=true):Lk K x st:=⟨f,_,n,Gs l c k⟩
variable {h:Heap} {mg:Str->Option Value}
theorem gP (X:K.In h) (G:h.Ns mainGlobals mg) (L:Lk K x st) {p:Str} (hb:∀(kV doc pm:Value) (an:Option Addr) (cdv ct a:Value),bindArgs (fnOf x x (bO st) (bz st) (az st) .none kV doc pm an cdv ct) ⟨[a],[]⟩=pure [(p,a)]:=by intros; rfl):Ent K mg x st [p]:=by
 obtain ⟨f,fd,n,F⟩:=L;exact ⟨f,fd,mg_of X G n,F,F.binds fun _ _ _ _ _ _ us hl=>match us,hl with | [_],_=>hb _ _ _ _ _ _ _⟩
theorem bT (X:K.In h) (G:h.Ns mainGlobals mg) (L:Lk K x st) {p q:Str} (hb:∀(kV doc pm:Value) (an:Option Addr) (cdv ct a b:Value),bindArgs (fnOf x x (bO st) (bz st) (az st) .none kV doc pm an cdv ct) ⟨[a,b],[]⟩=pure [(p,a),(q,b)]:=by intros; rfl):Ent K mg x st [p,q]:=by
 obtain ⟨f,fd,n,F⟩:=L;exact ⟨f,fd,mg_of X G n,F,F.binds fun _ _ _ _ _ _ us hl=>match us,hl with | [_,_],_=>hb _ _ _ _ _ _ _ _⟩
theorem fJ (X:K.In h) (G:h.Ns mainGlobals mg) (L:Lk K x st) {p q r:Str} (hb:∀(kV doc pm:Value) (an:Option Addr) (cdv ct a b c:Value),bindArgs (fnOf x x (bO st) (bz st) (az st) .none kV doc pm an cdv ct) ⟨[a,b,c],[]⟩=pure [(p,a),(q,b),(r,c)]:=by intros; rfl):Ent K mg x st [p,q,r]:=by
 obtain ⟨f,fd,n,F⟩:=L;exact ⟨f,fd,mg_of X G n,F,F.binds fun _ _ _ _ _ _ us hl=>match us,hl with | [_,_,_],_=>hb _ _ _ _ _ _ _ _ _⟩
theorem vG (X:K.In h) (G:h.Ns mainGlobals mg) (L:Lk K x st) {p q r t:Str} (hb:∀(kV doc pm:Value) (an:Option Addr) (cdv ct a b c d:Value),bindArgs (fnOf x x (bO st) (bz st) (az st) .none kV doc pm an cdv ct) ⟨[a,b,c,d],[]⟩=pure [(p,a),(q,b),(r,c),(t,d)]:=by intros; rfl):Ent K mg x st [p,q,r,t]:=by
 obtain ⟨f,fd,n,F⟩:=L;exact ⟨f,fd,mg_of X G n,F,F.binds fun _ _ _ _ _ _ us hl=>match us,hl with | [_,_,_,_],_=>hb _ _ _ _ _ _ _ _ _ _⟩
variable (P:Program) (w:World) (base:Heap)
theorem p7 {P:Program} {w:World} {base:Heap} {ps:List Str} (F:Ent K mg x st ps) (k:Nat):aP P w K mg base k x fun _=>.stuck:=by
 obtain ⟨f,fd,m,F,B⟩:=F;exact ⟨f,fd,ps,⟨fun _ _ _ _ q=>by obtain ⟨_,_,z⟩:=q; exact z.elim,fun _ _ _ _ _ _ _ _ _ _ _ _ _ q=>by obtain ⟨_,_,z⟩:=q; exact z.elim⟩,m,F.kp,B⟩
theorem b_ {N ps:List Str} (k:Nat) (body:DS->Out) (F:Ent K mg x st ps) (S:FnScope N ps (az st))
  (hb:∀(f:Addr) (cdv:Value) (A:Around) (outer:List Env) (s:Shared) (H:Hp) (E:XK),Room k (A.deeper (envOfC x (az st) s.heap.objs.size f cdv))->PSDs (e_ (iJ P w) P w K mg base N x (az st) f cdv A outer s H E) (bz st) body) :
  aP P w K mg base (k + 1) x (bG ps.length N.length body):=by
 obtain ⟨f,fd,m,F,B⟩:=F;exact ⟨f,fd,ps,nm' F S (hb f),m,F.kp,B⟩
end
theorem cl {X:Cx} {j k:Nat} {F:List D->Res D} {x:Str} {p pos:Pos} {e:Expr} {es:List Expr} {fs:DS->Res (List D)} (Fn:aP X.prog X.w X.K X.mg X.base j x F) (hr:Room k X.A) (ha:PAD X (e :: es) fs)
  (hj:j<=k:=by first | decide | omega) (hg:Gl X x:=by exact rfl) (hdb:(x == ("__debug__" : Str))=false:=by decide) (he:starEach (e :: es) X.env=(false,eval e X.env) :: starEach es X.env:=by rfl) (hpl:(backTo pos (starEach es X.env)).any (·.1)=false:=by rfl) :
  PD X (.Call (.Name x p) (e :: es) [] pos) (fun δ=>(fs δ).bind F):=by
 obtain ⟨f,fd,ps,a,b,c,d⟩:=Fn;exact QQ (a.mono hj) hr hg b c d ha hdb he hpl
section
variable {X:Cx}
end
mutual
noncomputable def lO (n:Nat):D->Bool
 | .tup ds=>iZ n ds
 | .lst ds=>(ds.length != n) && iZ n ds
 | .excf _ _ _=>false
 | _=>true
noncomputable def iZ (n:Nat):List D->Bool
 | []=>true
 | d :: ds=>lO n d && iZ n ds
end
mutual
theorem Rep.lsetN {K:Frag} {H:Hp} {a:Addr} {xs ys:List V} {n:Nat} (hH:H a=some (.lst xs)) (hn:xs.length=n):∀{d:D} {v:V},lO n d=true->Rep K H d v->Rep K (upd H a (.lst ys)) d v
 | .non,v,_,h=>by rw [Rep] at h ⊢; exact h
 | .bl _,v,_,h=>by rw [Rep] at h ⊢; exact h
 | .int _,v,_,h=>by rw [Rep] at h ⊢; exact h
 | .str _,v,_,h=>by rw [Rep] at h ⊢; exact h
 | .lst ds,v,hf,h=>by
  obtain ⟨b,zs,rfl,hq,r⟩:=fC h;rw [lO,Bool.and_eq_true,bne_iff_ne] at hf;refine vB ?_ (Reps.lsetN hH hn hf.2 r);rcases hq with (hq | ⟨o,hq⟩) | hq
  ·refine .inl (.inl ?_);rw [as' (fun z=>by subst z; rw [hH] at hq; cases hq; exact hf.1 (r.length.symm.trans hn))]; exact hq
  ·exact .inl (.inr ⟨o,by rw [as' (fun z=>by subst z; rw [hH] at hq; cases hq)]; exact hq⟩)
  ·exact .inr hq
 | .tup ds,v,hf,h=>by
  obtain ⟨b,zs,rfl,hq,r⟩:=fB h;rw [lO] at hf;refine pX ?_ (Reps.lsetN hH hn hf r);rcases hq with (hq | ⟨o,hq⟩) | hq
  ·exact .inl (.inl (by rw [as' (fun z=>by subst z; rw [hH] at hq; cases hq)]; exact hq))
  ·exact .inl (.inr ⟨o,by rw [as' (fun z=>by subst z; rw [hH] at hq; cases hq)]; exact hq⟩)
  ·exact .inr hq
 | .exc n,v,_,h=>by
  rw [Rep] at h ⊢;obtain ⟨b,C,rfl,hC,hb⟩:=h;exact ⟨b,C,rfl,hC,by rw [as' (fun z=>by subst z; rw [hH] at hb; cases hb)]; exact hb⟩
 | .excf n f d,v,hf,h=>by rw [lO] at hf; cases hf
 | .dct,v,_,h=>by
  rw [Rep] at h ⊢;obtain ⟨b,rfl,hb⟩:=h;exact ⟨b,rfl,by rw [as' (fun z=>by subst z; rw [hH] at hb; cases hb)]; exact hb⟩
theorem Reps.lsetN {K:Frag} {H:Hp} {a:Addr} {xs ys:List V} {n:Nat} (hH:H a=some (.lst xs)) (hn:xs.length=n):∀{ds:List D} {vs:List V},iZ n ds=true->Reps K H ds vs->Reps K (upd H a (.lst ys)) ds vs
 | [],_,_,h=>by cases h.nil_of; exact Reps.nil
 | d :: ds,_,hf,h=>by
  rw [iZ,Bool.and_eq_true] at hf;obtain ⟨v,vs,rfl,r,q⟩:=h.cons_of;exact Reps.cons (Rep.lsetN hH hn hf.1 r) (Reps.lsetN hH hn hf.2 q)
end
section
variable {X:Cx} {e:Expr} {es:List Expr} {fe:DS->Res D} {fs:DS->Res (List D)} {x:Str} {pos pos' lp np apos cpos:Pos}
end
end DL
namespace DL
open PySem PySem.Spec PyProof.Rows L2
section
variable {K:Frag} {prog:Program} {w:World} {A:Around} {s:Shared} {x D:Addr} {ox od:Obj} {name:Str} {v:Value}
theorem hE' {tk:Tok} {R:Result->Shared->Prop} (W:ExcCls K D) (ha:findIn K (.ref D) name=some none) (X:K.In s.heap) (I:InstAt s.heap x ox D (some od)) (hl:lookIn name od=some (some v)) (h:R (.ok (.ret v)) s) :
  codeAny (model prog w) A (.call (.builtin "BaseException.__getattribute__") ⟨[.ref x,.str name tk],[]⟩) R s:=by
 have hf:findObj K D (some od) name=some (.value v):=findObj_own W.hdct ha rfl hl;have hk:builtinKind "BaseException.__getattribute__" = some .slot:=by decide +kernel
 have hsplit:splitId "BaseException.__getattribute__" = some ("BaseException", "__getattribute__"):=by decide +kernel
 have L0:=I.type (M:=model prog w);have L1:=looks_find (M:=model prog w) X I hf;have L2:=looks_mroIn (M:=model prog w) X W.hB;have har:=F.args_bexc_ga (.ref x) (.str name tk);refine codeAny_call_builtin (by decide +kernel) F.entry_bexc_ga ?_;simp only [checkBuiltinCall,hk,hsplit];refine wpAny_bind ?_;unfold isInstance;refine wpAny_bind (L0.at (L2.at ?_));simp only [Bool.not_true,Bool.false_eq_true,if_false]
 repeat (first | with_reducible refine wpAny_pure ?_ | with_reducible refine wpAny_bind ?_ | wp_step)
 obtain ⟨hh,g,dr,t,os⟩:=s;refine wpAny_loadPart I.at_ (wpAny_pure ?_);rw [I.cls];refine wpAny_bind (L1.at ?_);exact wpAny_pure h
theorem RP {expr:Bool} {E:Value->Shared->Prop} {Q:Value->Shared->Prop} (W:ExcCls K D) (ha:findIn K (.ref D) name=some none) (X:K.In s.heap) (I:InstAt s.heap x ox D (some od)) (hl:lookIn name od=some (some v)) (hv:handedIn v=true) (h:Q v { s with toks:=s.toks + 1 }) :
  wpAny (model prog w) A (getAttr (.ref x) name expr) Q E s:=by
 obtain ⟨hh,g,d,t,os⟩:=s;have L0:=I.type (M:=model prog w);have L1:=looks_findIn (M:=model prog w) X W.hga;have Lk:=looks_findIn (M:=model prog w) X W.hgk;unfold getAttr getAttrBy;refine wpAny_bind (wpAny_mkText (wpAny_holding (wpAny_bind (L0.at (wpAny_bind (L1.at ?_))))));show wpAny _ _ (getAttrByItsOwn _ _ _ _ _ _) _ _ _;unfold getAttrByItsOwn hookBefore;refine wpAny_bind (Lk.at ?_);refine wpAny_bind (wpAny_attempt (wpAny_holding ?_));have e:callGetattribute (.ref x) (.str name t) (.builtin "BaseException.__getattribute__") expr=boundAndCalled (.builtin "BaseException.__getattribute__") (.ref x) (.str name t):=by
  unfold callGetattribute;rw [if_neg (by cases expr <;> decide)]
 show wpAny _ _ (callGetattribute (.ref x) (.str name t) (.builtin "BaseException.__getattribute__") expr) _ _ _;rw [e];unfold boundAndCalled;rw [PySem.F.attrBase_ValueError.ga.bind];refine wpAny_bind (wpAny_pure (wpAny_call (hE' (s:=⟨hh,g,d,t + 1,os⟩) W ha X I hl ?_)));show wpAny _ _ (handedOut v) _ _ _;rw [handedOut_of hv]; exact wpAny_pure h
end
noncomputable def pB (isA:Str->Bool) (name:Str):D->Res D
 | .excf c f d=>if isA c=true/\f=name then .ok d else .stuck
 | _=>.stuck
theorem hF' {u:V} {v:Value} (r:RelV u v):handedIn v=true:=by
 cases u <;> first
  | (cases r; rfl)
  | (obtain ⟨t,rfl⟩:=r; rfl)
section
variable {X:Cx} {e:Expr} {f:DS->Res D} {name:Str} {pos:Pos} {isA:Str->Bool}
theorem RQ (hA:∀c,isA c=true->∀C,nsIn X.K mainGlobals c=some (some (.ref C))->ExcCls X.K C/\findIn X.K (.ref C) name=some none) (he:PD X e f) (hb:attributeBase e name X.env (eval e X.env)=eval e X.env:=by rfl) :
  PD X (.Attribute e name pos) (fun δ=>(f δ).bind (pB isA name)):=by
 intro pins s σ G H δ I R hs
 try dsimp only at hs ⊢
 refine Pr hb (he.use I R (gq hs) (fun d u s1 v H1 q I1 r1 e1 b1 p1=>?_) fun e s1 q=>q.same fun x z=>gY z);have hd:=iD hs q
 cases d with
 | excf c f' d' =>
  unfold pB at hd;have hc:isA c=true/\f'=name:=by
   by_cases z:isA c=true/\f'=name
   ·exact z
   ·exact absurd (if_neg z) hd
  obtain ⟨hc1,rfl⟩:=hc;rw [Rep] at p1;obtain ⟨a,C,dx,w,rfl,hC,hH,hx,pw⟩:=p1
  cases r1
  obtain ⟨W,ha⟩:=hA c hc1 C hC;obtain ⟨mA,hn,hrel⟩:=I1.hok dx _ hx;obtain ⟨od,ho,hl⟩:=JL hn;obtain ⟨o,vs,g,cc,dd,dt⟩:=(I1.hok a _ hH).1;have hr:=hrel f';have el:([(f',w)]:List (Str×V)).lookup f'=some w:=by simp
  rw [el] at hr
  cases hm:mA f' with
  | none=>rw [hm] at hr; exact hr.elim
  | some u' =>
   rw [hm] at hr;refine RP (od:=od) W ha I1.kIn ⟨g,cc,by unfold notCls; rw [dt],by rw [dd]; exact ho⟩ (by rw [hl,hm]) (hF' hr) ?_;refine ⟨d',w,H1,?_,I1.tok _,hr,e1,pw⟩;rw [q,Res.bind_ok];exact if_pos ⟨hc1,rfl⟩
 | _=>exact absurd rfl hd
end
section
variable {X:Cx} {m:Nat} {fr:List Nat} {N':List Str} {scope:Scope} {cl:List (Str×Addr)} {tg iter elt c:Expr} {pos:Pos} {t:gb} {fc:DS->Res Bool} {fe:DS->Res D} {fi:DS->Res (List D)}
end
noncomputable def newExc (h:Heap) (C:Addr) (rest:List Value):Heap:=(h.push { cls:=.type "tuple",data:=.seq rest.toArray }).push { cls:=.ref C,data:=.fields #[.ref h.objs.size,.none,.none,.none,.bool false,.none] }
section
variable {prog:Program} {w:World} {A:Around} {R:Result->Shared->Prop} {h:Heap} {g:Array GenState} {d:Drawn} {t:Nat} {os:OsState}
variable {nm q:Str} {C N:Addr} {bs bm bmB:List Value} {hdct:Bool} {sn:List Str} {sub:List Value} {ab:Bool} {col:Option Bool} {dd:Option Addr} {k0 k1 k2 k3 k5:Option Value} {B newId initId:String}
theorem RV (F:ExcBaseFacts B newId initId bmB) (T:OwnTail h bmB bm) {rest:List Value} {init:Value}
    (hC:h.get? C=some (excClassObj nm q C N bs bm hdct sn sub ab col dd k0 k1 k2 k3 k5 newId))
    (hi:Looks (model prog w) h (typeLookup (.ref C) "__init__") (some init)) (hb:∀self,Looks (model prog w) h (bindSpecial init self) (init,[self])) (hrest:rest.length<=sizeLine)
    (hq:codeAny (model prog w) (A.under (.builtin "type.__call__" ⟨.ref C :: rest,[]⟩)) (.call init ⟨.ref (h.objs.size + 1) :: rest,[]⟩) (InitBack (h.objs.size + 1) R) ⟨newExc h C rest,g,d,t,os⟩) :
    codeAny (model prog w) A (.call (.ref C) ⟨rest,[]⟩) R ⟨h,g,d,t,os⟩:=by
  have f1:=tc_lookup;have f2:=tc_bind (.ref C);have hT:(⟨h,g,d,t,os⟩:Shared).TypeIs (.ref C) "type":=⟨_,hC,rfl⟩;refine codeAny_of_tree ?_;show wpAny _ _ (callAny (.ref C) _) _ _ _
  repeat (any_goals (first | assumption | with_reducible refine wpAny_loadPart_at hC ?_ | wp_step))
  refine ⟨rfl,?_⟩;refine codeAny_call_builtin_at (Code.quiet_builtin _ (by decide +kernel)) entry_typeCall (wpAny_check_type_call_sub hC ?_)
  repeat (first | with_reducible refine wpAny_loadPart_at hC ?_ | with_reducible refine wpAny_madeBy_exc hC ?_ | wp_step)
  refine codeAny_call_builtin_code (Code.quiet_builtin _ F.quiet) (wpAny_check_new_subT F T hC ?_);refine codeAny_exc_new_subT F T hC ?_ hrest;show wpAny _ _ _ _ _ _;have hC₁:=Heap.get?_push_of_some { cls:=.ref C,data:=.fields #[.ref h.objs.size,.none,.none,.none,.bool false,.none] }
    (Heap.get?_push_of_some { cls:=.type "tuple",data:=.seq rest.toArray } hC)
  have hget:((h.push { cls:=.type "tuple",data:=.seq rest.toArray }).push
      { cls:=.ref C,data:=.fields #[.ref h.objs.size,.none,.none,.none,.bool false,.none] }).get? (h.objs.size + 1)=some
      { cls:=.ref C,data:=.fields #[.ref h.objs.size,.none,.none,.none,.bool false,.none] }:=by heap_get
  have hcC:(Value.ref C :: bm).contains (.ref C)=true:=by simp
  have k:∀b o,h.get? b=some o->(newExc h C rest).get? b=some o:=fun b o e=>Heap.get?_push_of_some _ (Heap.get?_push_of_some _ e);have i1:=hi.keeps k;have b1:=(hb (.ref (h.objs.size + 1))).keeps k;unfold newExc at i1 b1;unfold isInstance
  repeat (first | with_reducible refine wpAny_loadPart_at hget ?_ | wp_step)
  refine wpAny_isSubtype_exc hC₁ ?_;rw [hcC];rw [if_neg (by decide)];unfold callSpecial? specialOf
  repeat (first | with_reducible refine wpAny_loadPart_at hget ?_ | wp_step)
  refine i1.here ?_;refine wpAny_holding (wpAny_bind (b1.here ?_));refine wpAny_bind (wpAny_call (codeAny_mono hq fun r s' z=>?_));rcases r with e | (v | _ | _ | _) <;> first | exact z | exact z.elim | skip
  obtain ⟨rfl,z⟩:=z;exact wpAny_pure (wpAny_pure z)
end
abbrev jy (C:Addr) (dd:Option Addr) (t0:Addr):Obj:={ cls:=.ref C,dict:=dd,data:=.fields #[.ref t0,.none,.none,.none,.bool false,.none] }
noncomputable def fK (a C:Addr) (dd:Option Addr) (h:Heap):Prop:=∃t0,h.get? a=some (jy C dd t0)
theorem RW {h:Heap} {bmB bm:List Value} (T:OwnTail h bmB bm) (self:Value) (what:Str):refuseLoop self what bm=refuseLoop self what bmB:=by
 induction T with
 | base=>rfl
 | own _ _ _ _ ih=>rw [refuseLoop_ref,ih]
section
open Builtin Builtin.ObjectAttr
variable {prog:Program} {w:World} {A:Around} {E:Value->Shared->Prop} {h:Heap} {g:Array GenState} {d:Drawn} {t:Nat} {os:OsState} {K:Frag}
variable {nm q:Str} {C N x:Addr} {bs bm bmB:List Value} {sn:List Str} {sub:List Value} {ab:Bool} {col:Option Bool} {dd:Option Addr} {k0 k1 k2 k3 k5:Option Value} {B newId initId:String} {name:Str} {v:Value} {t0:Addr}
theorem RX {Q:Unit->Shared->Prop} (SF:StoreFacts B bmB "object.__setattr__" "object") (T:OwnTail h bmB bm) (hC:h.get? C=some (excClassObj nm q C N bs bm true sn sub ab col dd k0 k1 k2 k3 k5 newId)) (X:K.In h)
  (hs:findIn K (.ref C) "__setattr__" = some (some (.builtin "object.__setattr__"))) (ha:findIn K (.ref C) name=some none) (hx:h.get? x=some (jy C none t0))
  (hq:∀h' tk,h'.get? x=some (jy C (some h.objs.size) t0)->h'.Ns1 h.objs.size (fun y=>if y=name then some v else none)->(∀b o,b≠x->h.get? b=some o->h'.get? b=some o)->Q () ⟨h',g,d,tk,os⟩) :
  wpAny (model prog w) A (setAttr (.ref x) name v) Q E ⟨h,g,d,t,os⟩:=by
 have I:InstAt h x (jy C none t0) C none:=⟨hx,rfl,rfl,trivial⟩;refine set_plain (s:=⟨h,g,d,t,os⟩) X I hs ?_;have sub:Looks (model prog w) h (isInstance (.ref x) (.type "object")) true:=I.type.andThen (fun A Q E s k q=>by
  obtain ⟨h1,g1,d1,t1,o1⟩:=s;refine wpAny_isSubtype_exc (k _ _ hC) ?_;have hc:(Value.ref C :: bm).contains (.type "object")=true:=by rw [contains_cons,T.hasType SF.hasOwner,Bool.or_true]
  rw [hc]; exact q)
 refine codeAny_call_builtin SF.slot.plain SF.entry (@check_slot (model prog w) _ _ ⟨h,g,d,t + 1,os⟩ "object.__setattr__" "object" "__setattr__" (.ref x) [.str name t,v] [] _ SF.kind SF.split sub (SF.args (.ref x) (.str name t) v) ?_);have hpass:refuseLoop (.ref x) "__setattr__" (.ref C :: bm)=pure ():=by rw [refuseLoop_ref,RW T,SF.passes]
 rw [osa_eq,refuse_eq];refine wpAny_bind (wpAny_bind (I.type.here (s:=⟨h,g,d,t + 1,os⟩) (wpAny_bind (wpAny_mroOf_exc hC ?_))));rw [hpass];refine wpAny_pure (wpAny_bind (I.type.here (s:=⟨h,g,d,t + 1,os⟩) (wpAny_bind ((looks_findIn X ha).here (s:=⟨h,g,d,t + 1,os⟩) (wpAny_bind ?_)))));refine wpAny_pure ?_;dsimp only;have hx₁:(h.push { cls:=.type "dict",data:=.dict #[] }).get? x=some (jy C none t0):=Heap.get?_push_of_some _ hx;have hxs:x≠h.objs.size:=Nat.ne_of_lt (Heap.lt_size hx);unfold storeInOwnDict;generalize hsd:storeInDict=sd
 repeat (first | with_reducible refine wpAny_loadPart_at hx ?_ | wp_step)
 subst hsd;have hgd:((h.push { cls:=.type "dict",data:=.dict #[] }).update x fun o=>{ cls:=o.cls,dict:=some h.objs.size,data:=o.data,slots:=o.slots }).get? h.objs.size
   = some { cls:=.type "dict",data:=.dict #[] } :=
  (Heap.get?_update_ne _ _ _ _ hxs.symm).trans (Heap.get?_push_at rfl rfl)
 have hnd:((h.push { cls:=.type "dict",data:=.dict #[] }).update x fun o=>{ cls:=o.cls,dict:=some h.objs.size,data:=o.data,slots:=o.slots }).Ns h.objs.size (fun _=>none) :=
  ⟨_,#[],_,hgd,rfl,fun e he=>absurd he (by simp),fun _=>rfl⟩
 show wpAny _ _ (storeInDict h.objs.size (.str name t) name v) _ _ _;unfold storeInDict newKeyGuard;refine wpAny_bind (wpAny_pure (wpAny_bind (wpAny_nsSet1 (Heap.Ns1.of_empty hnd) fun h' hn' hs=>?_)));obtain ⟨oD,esD,epD,hoD,hdD,hcD⟩:=hn'.count (Within.cons name v Within.nil);refine wpAny_bind (wpAny_lookBehind hoD (by rw [hdD]; exact pastItsLine_dict (Nat.le_trans hcD (by rw [length_cons,length_nil,sizeLine_eq]; omega))) ?_)
 wp_walk
 refine hq h' _ ?_ hn' fun b ob hbx hb=>?_
 ·exact (hs.2 x hxs).trans (Heap.get?_update_self _ hx₁ rfl)
 ·exact (hs.2 b (Nat.ne_of_lt (Heap.lt_size hb))).trans ((Heap.get?_update_ne _ _ _ _ hbx).trans (Heap.get?_push_of_some _ hb))
end
abbrev VM:List Value:=[.type "ValueError",.type "Exception",.type "BaseException",.type "object"]
section
variable {prog:Program} {w:World} {A:Around} {E:Value->Shared->Prop} {h:Heap} {g:Array GenState} {d:Drawn} {t:Nat} {os:OsState}
variable {nm q:Str} {C N x:Addr} {bs bm bmB:List Value} {hdct:Bool} {sn:List Str} {sub:List Value} {ab:Bool} {col:Option Bool} {dd:Option Addr} {k0 k1 k2 k3 k5:Option Value} {B newId initId:String} {t0:Addr}
theorem RZ {rest:List Value} {Q:Value->Shared->Prop} (F:ExcBaseFacts B newId initId bmB) (T:OwnTail h bmB bm) (hC:h.get? C=some (excClassObj nm q C N bs bm hdct sn sub ab col dd k0 k1 k2 k3 k5 newId)) (hx:h.get? x=some (jy C none t0))
  (hq:∀h' t1,h'.get? x=some (jy C none t1)->(∀b o,b≠x->h.get? b=some o->h'.get? b=some o)->Q .none ⟨h',g,d,t,os⟩) (hrest:rest.length<=sizeLine):wpAny (model prog w) A (call (.builtin initId) (.ref x :: rest)) Q E ⟨h,g,d,t,os⟩:=by
 refine wpAny_call (codeAny_call_builtin F.init.plain F.initEntry (wpAny_check_init_subT F T hC hx rfl ?_))
 wp_walk
 refine hq _ h.objs.size ?_ fun b o hb e=>?_
 ·rw [Heap.get?_update_self _ (Heap.get?_push_of_some _ hx) rfl];rfl
 ·rw [Heap.get?_update_other _ _ (Ne.symm hb)];exact Heap.get?_push_of_some _ e
end
noncomputable def zX (K:Frag) (C:Addr):Prop:=∃(nm q:Str) (N:Addr) (bs bm:List Value) (sn:List Str) (sub:List Value) (ab:Bool) (col:Option Bool) (dd:Option Addr) (k0 k1 k2 k3 k5:Option Value),
 K.lookup C=some (excClassObj nm q C N bs bm true sn sub ab col dd k0 k1 k2 k3 k5 "ValueError.__new__")/\∀h,K.In h->OwnTail h VM bm
theorem R0 {K:Frag} {C Y N:Addr} {nm q:Str} {bs:List Value} {sn:List Str} {sub:List Value} {ab:Bool} {col:Option Bool} {dd:Option Addr} {k0 k1 k2 k3 k5:Option Value}
  (l:K.lookup C=some (excClassObj nm q C N bs (.ref Y :: VM) true sn sub ab col dd k0 k1 k2 k3 k5 "ValueError.__new__")) (x:excIn K Y VM "ValueError.__new__" = true):zX K C:=by
 refine ⟨_,_,_,_,_,_,_,_,_,_,_,_,_,_,_,l,fun h X=>?_⟩;obtain ⟨tl,N,nm,qn,bs,hdct,sn,sub,ab,col,dd,k0,k1,k2,k3,k5,mN,hC,hN,hni,T⟩:=(is' (mg:=fun _=>some (.ref Y)) (x:="") X rfl x).obj;exact .own hC hN hni .base
structure XI (K:Frag) (C Y f:Addr) (fld:Str):Prop where
 cls:zX K C
 set:findIn K (.ref C) "__setattr__" = some (some (.builtin "object.__setattr__"))
 no:findIn K (.ref C) fld=some none
 init:findIn K (.ref C) "__init__" = some (some (.ref f))
 fn:typeIn K (.ref f)=some (.type "function")
 y1:specialIn K (.ref Y) "__getattribute__" = some (some (.builtin "type.__getattribute__"))
 y2:readsIn K Y (.type "type")=true
 y3:findCls K (.ref Y) (.type "type") "__init__" = some (.val (.builtin "ValueError.__init__"))
theorem ns' {H:Hp} {a:Addr} {o:HO} (h:H a=some o):upd H a o=H:=by
 funext b
 unfold upd
 split
 ·rename_i e; rw [e,h]
 ·rfl
theorem Hj {P:Program} {w:World} {H:Hp} {h:Heap} {e C:Addr} {dd:Option Addr} (x:fK e C dd h):ObjOk P w H h e (.ext (fK e C dd)):=by
 obtain ⟨t0,x⟩:=x;exact ⟨⟨t0,x⟩,⟨_,x⟩,fun h1 h2 ⟨t1,y⟩ k=>⟨t1,k _ y⟩⟩
section
variable {X:Cx} {C Y f:Addr} {fld y:Str} {np apos pos pos':Pos} {a:Expr} {es:List Expr} {ta:TA}
theorem R8 {pl:Sem Bool} (Z:XI X.K C Y f fld) (hg:Gl X y) (hm:X.mg y=some (.ref Y)) (ha:PA X (a :: es) ta) (hz:(a :: es).length<=100) (hdb:(y == ("__debug__" : Str))=false:=by decide)
  (hst:starEach (a :: es) X.env=(false,eval a X.env) :: starEach es X.env:=by rfl) (hpl:(backTo pos (starEach es X.env)).any (·.1)=false:=by rfl)
  (ht:eval (.Call (.Attribute (.Name y np) "__init__" apos) (a :: es) [] pos) X.env=(do
   let ov <- eval (.Name y np) X.env
   standAt apos.atName
   let (f,first) <- holding [ov] (getMethod ov "__init__" pl)
   callWith pos f first (backTo pos (starEach (a :: es) X.env)) (backToKw pos (keywordEach [] X.env))):=by rfl) :
  PE X (.Call (.Attribute (.Name y np) "__init__" apos) (a :: es) [] pos) (fun σ H Q=>ta σ H fun vs H1=>∃e us,vs=.ref e :: us/\us.length<=100/\H1 e=some (.ext (fK e C none))/\Q .non H1):=by
 intro pins s σ H Q I h;refine methodCall_KW (pl:=pl) (v5 I hg hm ?_ hdb) ht;refine method_cls I.kIn Z.y1 (cls_value I.kIn Z.y2 Z.y3 rfl ?_);refine callWith_method1 (first:=[]) (gn (ha pos pins _ σ H _ (I.tok _) h) fun us s1 ⟨vs,H1,I1,r,e,us',ev,hl,he,hq⟩=>?_) hst hpl
 subst ev
 cases r with
 | cons r0 r =>
  rename_i u0 us hap;obtain rfl:u0=Value.ref e:=r0;obtain ⟨nm,q,N,bs,bm,sn,sub,ab,col,dd,k0,k1,k2,k3,k5,lk,T⟩:=Z.cls;obtain ⟨⟨t0,hx⟩,_,_⟩:=I1.hok e _ he;obtain ⟨hh,g,d,t,os⟩:=s1;refine RZ PySem.F.excBase_ValueError (T _ I1.kIn) (I1.kIn _ _ lk) hx (fun h' t1 x' k=>?_) (by rw [<- r.length]; exact Nat.le_trans hl (by decide));have J:=I1.write (x:=e) (e:=e) (o:=.ext (fK e C none)) (t':=t) (by rw [he]; trivial) (.inl rfl) (fun b u hb q=>k b u hb q) ⟨_,x'⟩ (Hj ⟨t1,x'⟩);rw [ns' he] at J;exact ⟨.non,H1,J,rfl,hq⟩
theorem R9 {o value:Expr} {to tv:TE} (Z:XI X.K C Y f fld) (ho:PE X o to) (hv:PE X value tv) (hs:swapsWith value (some (.Attribute o fld pos')) pos.line X.env=pure false:=by rfl) :
  PS X (.Assign [.Attribute o fld pos'] value pos) (fun D σ H=>tv σ H fun y H1=>to σ H1 fun x H2=>∃e,x=.ref e/\H2 e=some (.ext (fK e C none))/\∀dx,H2 dx=none->D.nx σ (upd (upd H2 e (.ext (fK e C (some dx)))) dx (.xd [(fld,y)]))):=by
 intro pins s σ H D I h;refine plainObj_wpAny_Assign_Attribute (gn (hv pins s σ H _ I h) fun u s1 ⟨y,H1,I1,ry,q⟩=>gn (ho pins s1 σ H1 _ I1 q) fun ov s2 ⟨x,H2,I2,rx,e,ex,he,q2⟩=>?_) hs;subst ex;obtain rfl:ov=Value.ref e:=rx;obtain ⟨nm,q,N,bs,bm,sn,sub,ab,col,dd,k0,k1,k2,k3,k5,lk,T⟩:=Z.cls;obtain ⟨⟨t0,hx⟩,_,_⟩:=I2.hok e _ he;obtain ⟨hh,g,d,t,os⟩:=s2;refine RX PySem.F.store_ValueError (T _ I2.kIn) (I2.kIn _ _ lk) I2.kIn Z.set Z.no hx fun h' tk x' n' k=>?_;have hn:=I2.hok.fresh (Nat.le_refl hh.objs.size);have J:=I2.write (x:=e) (e:=e) (o:=.ext (fK e C (some hh.objs.size))) (t':=tk) (by rw [he]; trivial) (.inl rfl) (fun b u hb q=>k b u hb q) ⟨_,x'⟩ (Hj ⟨t0,x'⟩);have ne:hh.objs.size≠e:=fun z=>by subst z; rw [he] at hn; cases hn
 obtain ⟨f1,f2,f3,f4,f5,f6⟩:=I2.fpOk (H':=H2) (Nat.le_refl hh.objs.size) hn;refine ⟨σ,_,J.track (a:=hh.objs.size) (o:=.xd [(fld,y)]) (by rw [as' ne]; exact hn) (fun ob z _=>?_) f2 f5 f6 ?_,q2 _ hn⟩
 ·exact absurd (Nat.lt_of_lt_of_le (Heap.lt_size z) I2.sz) (Nat.lt_irrefl _)
 ·refine ⟨_,n',fun g=>?_⟩
  by_cases z:g=fld
  ·subst z; simp only [lookup_cons,beq_self_eq_true,if_pos]; exact ry
  ·have:(g == fld)=false:=by simpa using z
   simp only [lookup_cons,this,lookup_nil,if_neg z]; trivial
end
noncomputable def Hl (C:Addr) (fld:Str) (okv:V->Prop):Sp:=fun vs H Q _=>∃e v,vs=[.ref e,v]/\okv v/\H e=some (.ext (fK e C none))/\∀dx,H dx=none->Q .non (upd (upd H e (.ext (fK e C (some dx)))) dx (.xd [(fld,v)]))
noncomputable def zY (C:Addr) (fld:Str) (tx:TE):TS:=zg (v7 (fun σ H Q=>qI (qH 0) (qI tx zF) σ H fun vs H1=>∃e us,vs=.ref e :: us/\us.length<=100/\H1 e=some (.ext (fK e C none))/\Q .non H1))
 (fun D σ H=>qH 1 σ H fun y H1=>qH 0 σ H1 fun x H2=>∃e,x=.ref e/\H2 e=some (.ext (fK e C none))/\∀dx,H2 dx=none->D.nx σ (upd (upd H2 e (.ext (fK e C (some dx)))) dx (.xd [(fld,y)])))
theorem mg' {P:Program} {w:World} {K:Frag} {mg:Str->Option Value} {base:Heap} {qual fld:Str} {st:Stmt} {f C:Addr} {fd:FuncData} {k:Nat} {tx:TE} {okv:V->Prop} (F:Fun K "__init__" qual st f fd) (S:FnScope ["self",fld] ["self",fld] (az st))
  (htx:∀e v H Q,okv v->(∀x,Q x H)->tx [some (.ref e),some v] H Q)
  (hb:∀(cdv:Value) (A:Around) (outer:List Env) (s:Shared) (H:Hp) (E:XK),PSs (e_ (iJ P w) P w K mg base ["self",fld] qual (az st) f cdv A outer s H E) (bz st) (zY C fld tx)) :
  FnOk P w K mg base (iJ P w) (k + 1) f fd ["self",fld] (Hl C fld okv):=by
 obtain ⟨oc,od,kV,doc,pm,an,cdv,ct,osl,rfl,lk,hcd⟩:=F.ex;refine Ec lk hcd S (fun vs H Q E ⟨e,v,h,_⟩=>by rw [h]; rfl) fun A outer s H vs Q E hr ⟨e,v,h,ov,he,hq⟩=>⟨_,hb cdv A outer s H E,?_⟩;subst h;refine ⟨.ref e,rfl,htx e v _ _ ov fun x=>⟨e,[x],rfl,by simp,he,?_⟩⟩;exact ⟨v,rfl,.ref e,rfl,e,rfl,he,hq⟩
section
variable {M:Model} {A:Around} {E:Value->Shared->Prop} {env:Env}
variable {nm q:Str} {C N:Addr} {bs bm:List Value} {hdct:Bool} {sn:List Str} {sub:List Value} {ab:Bool} {col:Option Bool} {dd:Option Addr} {k0 k1 k2 k3 k5:Option Value} {newId:String}
theorem hG' {s:Shared} {x:Sem Value} {Q:Flow->Shared->Prop} (hbase:bm.contains (.type "BaseException")=true) (hh:A.handled=none)
  (h:wpAny M A x (fun v s₁=>∃e d' t,v=.ref e/\s₁.heap.get? C=some (excClassObj nm q C N bs bm hdct sn sub ab col dd k0 k1 k2 k3 k5 newId) /\
   s₁.heap.get? e=some (jy C d' t)/\E (.ref e) s₁) E s) :
  wpAny M A (raiseStmt env (some x) none) Q E s:=by
 have hcB:(Value.ref C :: bm).contains (.type "BaseException")=true:=by rw [contains_cons,hbase,Bool.or_true]
 unfold raiseStmt;refine wpAny_bind (wpAny_mono h (fun v s₁ h₁=>?_) fun _ _ x=>x);obtain ⟨e,d',t,rfl,hC,he,hE⟩:=h₁;obtain ⟨hp,g,d,tk,os⟩:=s₁
 repeat (first | with_reducible refine wpAny_loadPart_at he ?_ | with_reducible refine wpAny_loadPart_at hC ?_ | (with_reducible refine wpAny_isSubtype_exc hC ?_; rw [hcB]) | wp_step)
 exact wpAny_raiseNew_none hh hE
end
theorem _root_.L2.Inv.untrack {X:Cx} {pins:List (Addr×Obj)} {σ:St} {H:Hp} {s:Shared} {a:Addr} {φ:Heap->Prop} (I:Inv X pins σ H s) (h:H a=some (.ext φ)):Inv X pins σ (fun b=>if b=a then none else H b) s:=by
 have ne:∀{b:Addr} {o:HO},H b=some o->(∀ψ,o≠.ext ψ)->(if b=a then none else H b)=some o:=fun {b o} e n=>by
  rw [if_neg fun z=>?_]
  ·exact e
  ·subst z; rw [h] at e; cases e; exact n _ rfl
 have non:∀{b:Addr},H b=none->(if b=a then none else H b)=none:=fun {b} e=>by split <;> first | rfl | exact e
 refine ⟨I.ok,I.os,I.bare,⟨I.base.keep,I.base.slot,fun b ob e n hx=>non (I.base.free b ob e n hx),I.base.there,fun b xs e=>ne (I.base.tups b xs e) (fun _ z=>nomatch z),fun b ob u e=>ne (I.base.frzs b ob u e) (fun _ z=>nomatch z),fun b ps e=>?_⟩,I.loc,I.cell,non I.free,fun x c e=>non (I.freeC x c e),fun p hp=>?_,fun b u q=>?_,I.len⟩
 ·obtain ⟨more,q⟩:=I.base.tbls b ps e;exact ⟨more,ne q (fun _ z=>nomatch z)⟩
 ·obtain ⟨e,n,r⟩:=I.pin p hp;exact ⟨e,non n,r⟩
 ·have q':H b=some u:=by
   by_cases z:b=a
   ·simp only [if_pos z] at q; cases q
   ·simp only [if_neg z] at q; exact q
  exact (I.hok b u q').stay (fun c v _ e=>e) (fun c z=>ne z (fun _ w=>nomatch w)) fun c xs z=>ne z (fun _ w=>nomatch w)
noncomputable def dO (x fld:Str) (fe:DS->Res D):DS->Out:=fun δ=>match fe δ with
 | .ok d=>.err ⟨x,some (fld,d)⟩ δ
 | .err y=>.err y δ
 | .stuck=>.stuck
section
variable {X:Cx} {e:Expr} {fe:DS->Res D} {np cpos pos:Pos} {x fld:Str} {C Y f:Addr} {fd:FuncData} {k:Nat} {okv:V->Prop}
theorem hH' (hc:X.calm=true) (Z:XI X.K C Y f fld) (Fn:FnOk X.prog X.w X.K X.mg X.base (iJ X.prog X.w) k f fd ["self",fld] (Hl C fld okv)) (hb:Binds X.K fd ["self",fld] []) (hr:Room (k + 1) X.A)
  (hx:nsIn X.K mainGlobals x=some (some (.ref C))) (hg:Gl X x) (hm:X.mg x=some (.ref C)) (ha:PD X e fe) (hok:∀(δ:DS) (d:D) (H:Hp) (v:V),fe δ=.ok d->Rep X.K H d v->okv v)
  (hdb:(x == ("__debug__" : Str))=false:=by decide) (he:starEach [e] X.env=[(false,eval e X.env)]:=by rfl) :
  PSD X (.Raise (some (.Call (.Name x np) [e] [] cpos)) none pos) (dO x fld fe):=by
 intro pins s σ G H δ I R hs;have hs':fe δ≠.stuck:=fun z=>hs (by unfold dO; rw [z]);obtain ⟨nm,q,N,bs,bm,sn,sub,ab,col,dd,k0,k1,k2,k3,k5,lk,T⟩:=Z.cls;have T0:=T _ I.kIn;rw [arm_exec_Raise];have core:wpAny (model X.prog X.w) X.A (eval (.Call (.Name x np) [e] [] cpos) X.env) (fun v s₁=>∃e d' t,v=.ref e/\s₁.heap.get? C=some (excClassObj nm q C N bs bm true sn sub ab col dd k0 k1 k2 k3 k5 "ValueError.__new__") /\
   s₁.heap.get? e=some (jy C d' t)/\SX X pins G H s.heap (dO x fld fe δ) (.ref e) s₁) (SX X pins G H s.heap (dO x fld fe δ)) s:=by
  refine wpAny_Call_ofName (v5 I hg hm ?_ hdb);unfold callWith;rw [he];refine wpAny_bind (wpAny_holding (Calls.evalArgs_plain (Calls.spliced_cons (ha.use I R hs' (fun d v s1 u H1 q1 I1 r1 e1 b1 p1=>Calls.spliced_nil (wpAny_bind (wpAny_standAt ?_))) fun e s1 q=>q.sx R fun x z=>by unfold dO; rw [z]))));have T1:=T _ I1.kIn;obtain ⟨hh,g,dr,tk,os⟩:=s1;have hC:=I1.kIn _ _ lk;refine wpAny_bind (wpAny_keeperOf_exc hC ?_);simp only [append_nil,nil_append];have hne:=I1.hok.fresh (Nat.le_succ hh.objs.size);have kk:∀b o,hh.get? b=some o->(newExc hh C [v]).get? b=some o:=fun b o e=>Heap.get?_push_of_some _ (Heap.get?_push_of_some _ e);have ge:(newExc hh C [v]).get? (hh.objs.size + 1)=some (jy C none hh.objs.size):=by unfold newExc; heap_get
  have I2:=I1.laid (a:=hh.objs.size + 1) (o:=.ext (fK (hh.objs.size + 1) C none)) (h':=newExc hh C [v]) (t':=tk) kk (Nat.le_succ _) (Hj ⟨_,ge⟩);have r2:Vals [V.ref (hh.objs.size + 1),u] [Value.ref (hh.objs.size + 1),v]:=.cons rfl (.cons r1 .nil);refine wpAny_bind (wpAny_call (RV PySem.F.excBase_ValueError T1 hC (looks_findIn I1.kIn Z.init) (fun self=>bind_fn I1.kIn self Z.fn) (by simp [sizeLine_eq]) (codeAny_mono (Fn.run _ X.stack _ _ ⟨[Value.ref (hh.objs.size + 1),v],[]⟩ [Value.ref (hh.objs.size + 1),v] _ (fun w H'=>w=.non/\∃dx,upd H1 (hh.objs.size + 1) (.ext (fK (hh.objs.size + 1) C none)) dx=none/\H'=upd (upd (upd H1 (hh.objs.size + 1) (.ext (fK (hh.objs.size + 1) C none))) (hh.objs.size + 1) (.ext (fK (hh.objs.size + 1) C (some dx)))) dx (.xd [(fld,u)])) (fun _ _ _=>False) (hr.make C [v] [])
   (I2.env0.make C [v] []) (hb _ [Value.ref (hh.objs.size + 1),v] I2.kIn rfl) r2 ⟨_,_,rfl,hok δ d H1 u q1 p1,gW,fun dx hd=>⟨rfl,dx,hd,rfl⟩⟩) fun r s' hq'=>?_)))
  cases r with
  | error e =>
   obtain ⟨_,_,_,_,_,_,_,_,_,_,z⟩:=hq';exact z.elim
  | ok fl =>
   cases fl with
   | ret u' =>
    obtain ⟨vv,H',I3,rv,ev,dx,hd,eH⟩:=I2.after hq';subst ev;refine ⟨rv,?_⟩;have hdx:dx≠hh.objs.size + 1:=fun z=>by subst z; rw [gW] at hd; cases hd
    have hd1:H1 dx=none:=by rw [as' hdx] at hd; exact hd
    have hHe:H' (hh.objs.size + 1)=some (.ext (fK (hh.objs.size + 1) C (some dx))):=by rw [eH,as' (Ne.symm hdx),gW]
    obtain ⟨⟨t0,hx3⟩,_,_⟩:=I3.hok _ _ hHe;have I4:=I3.untrack hHe;have eq:(fun b=>if b=hh.objs.size + 1 then none else H' b)=upd H1 dx (.xd [(fld,u)]):=by
     funext b
     by_cases z:b=hh.objs.size + 1
     ·rw [if_pos z,z,as' (Ne.symm hdx),hne]
     ·rw [if_neg z,eH]
      by_cases y:b=dx
      ·rw [y,gW,gW]
      ·rw [as' y,as' z,as' z,as' y]
    rw [eq] at I4;have sm:=iU hd1 (.xd [(fld,u)]);refine wpAny_bind (wpAny_holding (wpAny_point (wpAny_pure ⟨hh.objs.size + 1,some dx,t0,rfl,I3.kIn _ _ lk,hx3,?_⟩)));refine ⟨⟨x,some (fld,d)⟩,δ,_,C,σ,_,by unfold dO; rw [q1],rfl,I4,(e1.trans sm).tk,R.mono (e1.trans sm),hx,some dx,⟨dx,u,rfl,gW,p1.mono sm⟩,?_⟩;refine ⟨b1 _ (e1.free hne) (fun o vs ho=>?_),by rw [as' (Ne.symm hdx)]; exact hne,_,_,_,hx3,⟨rfl,rfl⟩,rfl,rfl,.inl rfl⟩;exact absurd (Heap.lt_size ho) (by show ¬hh.objs.size + 1 < hh.objs.size; omega)
   | next=>exact False.elim hq'
   | brk=>exact False.elim hq'
   | cont=>exact False.elim hq'
 refine wpAny_bind (wpAny_standAt (hG' (T0.hasType PySem.F.excBase_ValueError.hasBase) (I.ok.hd hc) (wpAny_bind (wpAny_mono core (fun v s₃ h₃=>wpAny_bind (wpAny_standAt (wpAny_pure h₃))) fun _ _ x=>x))))
end
noncomputable def xG (s:Stmt) (j:Nat):Stmt:=match s with
 | .ClassDef _ _ _ body _ _ _ _ _ _ _=>body.getD j (.Pass ⟨0,0,0,0⟩)
 | _=>.Pass ⟨0,0,0,0⟩
noncomputable def Xk (K:Frag) (C Y:Addr) (qual:Str) (st:Stmt) (fld:Str):Prop:=∃(f:Addr) (fd:FuncData),Fun K "__init__" qual st f fd/\XI K C Y f fld
theorem xk_mk {K:Frag} {C Y N f:Addr} {nm q qual fld:Str} {st:Stmt} {bs:List Value} {sn:List Str} {sub:List Value} {ab:Bool} {col:Option Bool} {dd:Option Addr} {k0 k1 k2 k3 k5:Option Value} {oc:Value} {od an:Option Addr} {osl:Array (Option Value)} {kV doc pm cdv ct:Value}
  (i:findIn K (.ref C) "__init__" = some (some (.ref f))) (l:K.lookup f=some ⟨oc,od,.func (fnOf "__init__" qual (bO st) (bz st) (az st) .none kV doc pm an cdv ct),osl⟩) (c:codeIn K cdv qual=true) (k:keepIn K (.ref f)=true)
  (lc:K.lookup C=some (excClassObj nm q C N bs (.ref Y :: VM) true sn sub ab col dd k0 k1 k2 k3 k5 "ValueError.__new__")) (x:excIn K Y VM "ValueError.__new__" = true)
  (set:findIn K (.ref C) "__setattr__" = some (some (.builtin "object.__setattr__"))) (no:findIn K (.ref C) fld=some none) (fn:typeIn K (.ref f)=some (.type "function"))
  (y1:specialIn K (.ref Y) "__getattribute__" = some (some (.builtin "type.__getattribute__"))) (y2:readsIn K Y (.type "type")=true) (y3:findCls K (.ref Y) (.type "type") "__init__" = some (.val (.builtin "ValueError.__init__"))) :
  Xk K C Y qual st fld:=⟨f,_,Gs l c k,⟨R0 lc x,set,no,i,fn,y1,y2,y3⟩⟩
noncomputable def En (P:Program) (w:World) (K:Frag) (mg:Str->Option Value) (base:Heap) (C:Addr) (fld:Str) (okv:V->Prop):Prop :=
 ∃(Y f:Addr) (fd:FuncData),XI K C Y f fld/\FnOk P w K mg base (iJ P w) 1 f fd ["self",fld] (Hl C fld okv)/\Binds K fd ["self",fld] []
theorem nt' {P:Program} {w:World} {K:Frag} {mg:Str->Option Value} {base:Heap} {C Y:Addr} {qual fld:Str} {st:Stmt} {okv:V->Prop} {tx:TE} (L:Xk K C Y qual st fld) (S:FnScope ["self",fld] ["self",fld] (az st))
  (htx:∀e v H Q,okv v->(∀x,Q x H)->tx [some (.ref e),some v] H Q)
  (hb:∀(f:Addr) (cdv:Value) (A:Around) (outer:List Env) (s:Shared) (H:Hp) (E:XK),XI K C Y f fld->PSs (e_ (iJ P w) P w K mg base ["self",fld] qual (az st) f cdv A outer s H E) (bz st) (zY C fld tx))
  (hbd:∀(kV doc pm:Value) (an:Option Addr) (cdv ct a b:Value),bindArgs (fnOf "__init__" qual (bO st) (bz st) (az st) .none kV doc pm an cdv ct) ⟨[a,b],[]⟩=pure [(("self" : Str),a),(fld,b)]:=by intros; rfl):En P w K mg base C fld okv:=by
 obtain ⟨f,fd,F,Z⟩:=L;exact ⟨Y,f,fd,Z,mg' F S htx fun cdv A outer s H E=>hb f cdv A outer s H E Z,F.binds fun _ _ _ _ _ _ us hl=>match us,hl with | [_,_],_=>hbd _ _ _ _ _ _ _ _⟩
theorem rz {X:Cx} {e:Expr} {fe:DS->Res D} {np cpos pos:Pos} {x fld:Str} {C:Addr} {k:Nat} {okv:V->Prop} (O:En X.prog X.w X.K X.mg X.base C fld okv) (hr:Room k X.A) (hc:X.calm=true) (hx:nsIn X.K mainGlobals x=some (some (.ref C))) (hg:Gl X x) (hm:X.mg x=some (.ref C)) (ha:PD X e fe)
  (hok:∀(δ:DS) (d:D) (H:Hp) (v:V),fe δ=.ok d->Rep X.K H d v->okv v) (hk:2<=k:=by first | decide | omega)
  (hdb:(x == ("__debug__" : Str))=false:=by decide) (he:starEach [e] X.env=[(false,eval e X.env)]:=by rfl) :
  PSD X (.Raise (some (.Call (.Name x np) [e] [] cpos)) none pos) (dO x fld fe):=by
 obtain ⟨Y,f,fd,Z,F,B⟩:=O;exact hH' hc Z F B (hr.mono hk) hx hg hm ha hok hdb he
mutual
theorem Rep.frz {K:Frag} {H:Hp} {a:Addr} {xs:List V} {ob:Obj} (hH:H a=some (.lst xs)):∀{d:D} {v:V},Rep K H d v->Rep K (upd H a (.frz ob (.lst xs))) d v
 | .non,_,h=>by rw [Rep] at h ⊢; exact h
 | .bl _,_,h=>by rw [Rep] at h ⊢; exact h
 | .int _,_,h=>by rw [Rep] at h ⊢; exact h
 | .str _,_,h=>by rw [Rep] at h ⊢; exact h
 | .tup ds,_,h=>by
  rw [Rep] at h ⊢;obtain ⟨b,ys,e1,e2,e3⟩:=h;refine ⟨b,ys,e1,?_,Reps.frz hH e3⟩;rcases e2 with (h | ⟨o,h⟩) | h
  ·exact .inl (.inl (by rw [as' (fun z=>by subst z; rw [hH] at h; cases h)]; exact h))
  ·exact .inl (.inr ⟨o,by rw [as' (fun z=>by subst z; rw [hH] at h; cases h)]; exact h⟩)
  ·exact .inr h
 | .lst ds,_,h=>by
  rw [Rep] at h ⊢;obtain ⟨b,ys,e1,e2,e3⟩:=h;refine ⟨b,ys,e1,?_,Reps.frz hH e3⟩
  by_cases z:b=a
  ·subst z;rcases e2 with (h | ⟨o,h⟩) | h
   ·rw [hH] at h; cases h; exact .inl (.inr ⟨ob,gW⟩)
   ·rw [hH] at h; cases h
   ·exact .inr h
  ·rcases e2 with (h | ⟨o,h⟩) | h
   ·exact .inl (.inl (by rw [as' z]; exact h))
   ·exact .inl (.inr ⟨o,by rw [as' z]; exact h⟩)
   ·exact .inr h
 | .exc _,_,h=>by
  rw [Rep] at h ⊢;obtain ⟨b,C,e1,e2,e3⟩:=h;exact ⟨b,C,e1,e2,by rw [as' (fun z=>by subst z; rw [hH] at e3; cases e3)]; exact e3⟩
 | .excf _ _ d,_,h=>by
  rw [Rep] at h ⊢;obtain ⟨b,C,dx,u,e1,e2,e3,e4,e5⟩:=h;exact ⟨b,C,dx,u,e1,e2,by rw [as' (fun z=>by subst z; rw [hH] at e3; cases e3)]; exact e3,by rw [as' (fun z=>by subst z; rw [hH] at e4; cases e4)]; exact e4,Rep.frz hH e5⟩
 | .dct,_,h=>by
  rw [Rep] at h ⊢;obtain ⟨b,e1,e2⟩:=h;exact ⟨b,e1,by rw [as' (fun z=>by subst z; rw [hH] at e2; cases e2)]; exact e2⟩
theorem Reps.frz {K:Frag} {H:Hp} {a:Addr} {xs:List V} {ob:Obj} (hH:H a=some (.lst xs)):∀{ds:List D} {vs:List V},Reps K H ds vs->Reps K (upd H a (.frz ob (.lst xs))) ds vs
 | [],_,h=>by rw [Reps] at h ⊢; exact h
 | d :: ds,_,h=>by
  rw [Reps] at h ⊢;obtain ⟨v,vs,e1,e2,e3⟩:=h;exact ⟨v,vs,e1,Rep.frz hH e2,Reps.frz hH e3⟩
end
noncomputable def zZ (X:Cx) (pins:List (Addr×Obj)) (σ:St) (H:Hp) (r:Res D) (u:Value) (s1:Shared):Prop :=
 ∃ds a xs H1,r=.ok (.lst ds)/\Inv X pins σ H1 s1/\u=.ref a/\Same H H1/\H a=none/\H1 a=some (.lst xs)/\Reps X.K H1 ds xs
noncomputable def PDL (X:Cx) (e:Expr) (f:DS->Res D):Prop :=
 ∀(pins:List (Addr×Obj)) (s:Shared) (σ:St) (G H:Hp) (δ:DS),Inv X pins σ H s->RepSt X.K G H σ δ->f δ≠.stuck ->
  wpAny (model X.prog X.w) X.A (eval e X.env) (zZ X pins σ H (f δ)) (XPost X pins σ H s.heap (f δ)) s
theorem PDL.pd {X:Cx} {e:Expr} {f:DS->Res D} (h:PDL X e f):PD X e f:=fun pins s σ G H δ I R hs =>
 wpAny_mono (h pins s σ G H δ I R hs) (fun u s1 ⟨ds,a,xs,H1,q1,q2,q3,q4,q5,q6,q7⟩=>⟨_,.ref a,H1,q1,q2,by rw [q3]; rfl,q4,vB (SqL.of q6) q7⟩) fun _ _ z=>z
theorem R_ {X:Cx} {e:Expr} {f:DS->Res D} {x:Str} {pos pos':Pos} (i:Nat) (h:PDL X e f) (hN:X.N.Nodup) (hi:X.N[i]? = some x:=by rfl) (hx:Loc X.env.scope x:=by first | exact Or.inl rfl | exact Or.inr rfl) (hw:swapsWith e (some (.Name x pos')) pos.line X.env=pure false:=by rfl)
  (hf:X.fn x=true\/X.env.scope.names.lookup x=some .local:=by first | exact .inl rfl | exact .inr rfl | assumption):PSD X (.Assign [.Name x pos'] e pos) (dJ i f):=by
 intro pins s σ G H δ I R hs;have hs':f δ≠.stuck:=fun z=>hs (by unfold dJ; rw [z]);refine wpAny_Assign_Name (wpAny_mono (h pins s σ G H δ I R hs') (fun u s1 ⟨ds,a,xs,H1,q1,q2,q3,q4,q5,q6,q7⟩=>?_) fun e s1 q=>q.sx R fun x z=>by unfold dJ; rw [z]) hw;subst q3;exact zf q2 hN hi hx (v:=.ref a) rfl (fun s4 I4=>⟨_,_,_,by unfold dJ; rw [q1],I4,q4.tk,R.setOwn q4 i q5 q6 q7⟩) hf
theorem Reps.reverse {K:Frag} {H:Hp}:∀{ds:List D} {vs:List V},Reps K H ds vs->Reps K H ds.reverse vs.reverse
 | [],_,h=>by rw [h.nil_of]; exact Reps.nil
 | d :: ds,_,h=>by
  obtain ⟨v,vs,rfl,r,t⟩:=h.cons_of;rw [reverse_cons,reverse_cons];exact (Reps.reverse t).append (Reps.cons r Reps.nil)
theorem Vals.reverse':∀{vs:List V} {us:List Value},Vals vs us->Vals vs.reverse us.reverse
 | _,_,.nil=>.nil
 | _,_,.cons r t=>by
  rw [reverse_cons,reverse_cons];exact (Vals.reverse' t).append (.cons r .nil)
section
variable {X:Cx} {e:Expr} {fe:DS->Res D} {st:Expr} {fs:DS->Res (Option Int)} {pos p2:Pos}
end
end DL
namespace DL
open PySem PySem.Spec PyProof.Rows L2
section
variable {X:Cx} {tg iter:Expr} {body:List Stmt} {t:gb} {fb:DS->Out} {pos:Pos}
variable {x:Str} {np p cp tp:Pos} {elts:List Expr} {x1:Nat}
end
section
variable {X:Cx} {body:List Stmt} {t:gb} {fb:DS->Out} {pos:Pos} {x:Str} {np p cp tp:Pos} {elts:List Expr} {x1:Nat}
end
section
variable {X:Cx} {x y:Str} {pos pos' np apos cpos:Pos}
end
end DL
namespace DL
open PySem PySem.Spec PyProof.Rows L2
open AutoSeq1 (wpAny_loadPart')
end DL
namespace DL
open PySem PySem.Spec PyProof.Rows L2
theorem lQ {k n:Nat} (h:k < n):seqIndex? (k:Int) n=some k:=by
 unfold seqIndex?;have n0:¬((k:Int) < 0):=by omega
 simp [n0];omega
section
variable {X:Cx} {e:Expr} {fe:DS->Res D} {x y:Str} {pos np apos cpos np2 apos2 cpos2:Pos}
end
abbrev Sd:V->Prop:=fun v=>∃k:Int,v=.int k/\0<=k/\k<=3
noncomputable def Al (X:Cx) (G:Hp) (x:Exn):Prop:=∀(pins:List (Addr×Obj)) (σ:St) (H:Hp) (s2:Shared) (δ':DS) (e:Value) (s1:Shared),Same G H->Inv X pins σ H s2->SX X pins G H s2.heap (.err x δ') e s1->X.xe e s1
noncomputable def NOX (X:Cx) (G H:Hp) (o:Out) (E:Ends):Prop:=match o with
 | .err x _=>Al X G x
 | o=>NOut X G H o E
theorem NOX.tk {X:Cx} {G H H1:Hp} {o:Out} {E:Ends} (h:NOX X G H o E) (t:TK H H1):NOX X G H1 o E:=by
 cases o with
 | stuck=>exact h
 | nxt δ=>exact fun σ' H' t' r=>h σ' H' (t.trans t') r
 | ret d=>exact fun v H' t' r=>h v H' (t.trans t') r
 | brk δ=>exact fun σ' H' t' r=>h σ' H' (t.trans t') r
 | cnt δ=>exact fun σ' H' t' r=>h σ' H' (t.trans t') r
 | err x δ=>exact h
section
variable {X:Cx} {G H:Hp} {E:Ends} {st:Stmt} {rest:List Stmt} {f g:DS->Out}
end
section
variable {X:Cx} {tg iter:Expr} {body:List Stmt} {t:gb} {fb:DS->Out} {pos:Pos} {G H:Hp} {E:Ends}
end
section
variable {P:Program} {w:World} {K:Frag} {mg:Str->Option Value} {base:Heap}
end
noncomputable def Hm (K:Frag) (F:List D->Res D):Sp:=fun vs H Q _=>∃ds es,Reps K H ds vs/\F ds=.ok (.lst es)/\∀a xs H',Same H H'->H a=none->H' a=some (.lst xs)->Reps K H' es xs->Q (.ref a) H'
noncomputable def Eo (P:Program) (w:World) (K:Frag) (mg:Str->Option Value) (base:Heap) (k:Nat) (x:Str) (F:List D->Res D):Prop :=
 ∃(f:Addr) (fd:FuncData) (ps:List Str),FnOk P w K mg base (iJ P w) k f fd ps (Hm K F)/\mg x=some (.ref f)/\keepIn K (.ref f)=true/\Binds K fd ps []
noncomputable def Lb (X:Cx) (pins:List (Addr×Obj)) (G H:Hp) (o:Out) (fl:Flow) (s1:Shared):Prop:=match fl with
 | .ret u=>∃ds a xs σ' H',o=.ret (.lst ds)/\Inv X pins σ' H' s1/\TK H H'/\Same G H'/\u=.ref a/\G a=none/\H' a=some (.lst xs)/\Reps X.K H' ds xs
 | _=>False
noncomputable def z9 (X:Cx) (st:List Stmt) (f:DS->Out):Prop :=
 ∀(pins:List (Addr×Obj)) (s:Shared) (σ:St) (G H:Hp) (δ:DS),Inv X pins σ H s->RepSt X.K G H σ δ->(∃ds,f δ=.ret (.lst ds)) ->
  wpAny (model X.prog X.w) X.A (execs st X.env) (Lb X pins G H (f δ)) (fun _ _=>False) s
noncomputable def j_ (f g:DS->Out):DS->Out:=fun δ=>match f δ with
 | .nxt δ'=>g δ'
 | _=>.stuck
noncomputable def kh (i:Nat):DS->Out:=fun δ=>match δ[i]? with
 | some (some (.own ds))=>.ret (.lst ds)
 | _=>.stuck
section
variable {X:Cx} {st:Stmt} {rest:List Stmt} {f g:DS->Out} {pos pos':Pos}
theorem Sg (i:Nat) {x:Str} (hN:X.N[i]? = some x:=by rfl) (hv:wZ X.env.scope x:=by first | exact Or.inl rfl | exact Or.inr (Or.inl rfl) | exact Or.inr (Or.inr rfl)) (hd:(x == ("__debug__" : Str))=false:=by decide)
  (hcd:(x == ("__classdict__" : Str))=false:=by decide):z9 X [.Return (some (.Name x pos')) pos] (kh i):=by
 intro pins s σ G H δ I R ⟨ds,e⟩;unfold kh at e
 split at e
 ·rename_i ds' q
  cases e
  obtain ⟨v,e1,a,xs,rfl,hH,rr,hG⟩:=R.at_ i _ q;refine wpAny_execs_cons (wpAny_Return_some (wpAny_mono (D_ (X:=X.wish fun _ _=>False) hN hv hd hcd pins s σ H (fun v' H'=>v'=.ref a/\H'=H) (I.wish _) ⟨.ref a,e1,rfl,rfl⟩) (fun u s1 q1=>?_) fun _ _ z=>z.elim));obtain ⟨v',H',I',r',rfl,rfl⟩:=q1;exact ⟨ds,a,xs,σ,H',by unfold kh; rw [q],I'.unwish,TK.refl H',R.same,r',hG,hH,rr⟩
 ·cases e
theorem Hn (h1:PSD X st f) (h2:z9 X rest g):z9 X (st :: rest) (j_ f g):=by
 intro pins s σ G H δ I R ⟨ds,e⟩
 cases qf:f δ with
 | nxt δ' =>
  have ev:j_ f g δ=g δ':=by unfold j_; rw [qf]
  rw [ev] at e ⊢;refine wpAny_execs_cons (GD (fun pins I=>h1 pins s σ G H δ I R (by rw [qf]; intro z; cases z)) I (fun fl s1 p b=>?_) fun e s1 p=>?_)
  ·cases fl with
   | next =>
    obtain ⟨δ2,σ',H',q1,q2,q3,q4⟩:=p;rw [qf] at q1; cases q1;refine wpAny_mono (h2 pins s1 σ' G H' δ' q2 q4 ⟨ds,e⟩) (fun fl s2 p2=>?_) fun _ _ z=>z
    cases fl with
    | ret u =>
     obtain ⟨es,a,xs,σ2,H2,w1,w2,w3,w4⟩:=p2;exact ⟨es,a,xs,σ2,H2,w1,w2,q3.trans w3,w4⟩
    | _=>exact p2.elim
   | brk=>obtain ⟨δ2,σ',H',q1,_⟩:=p; rw [qf] at q1; cases q1
   | cont=>obtain ⟨δ2,σ',H',q1,_⟩:=p; rw [qf] at q1; cases q1
   | ret u=>obtain ⟨d,v,σ',H',q1,_⟩:=p; rw [qf] at q1; cases q1
  ·obtain ⟨x,δ2,a,C,σ',H',q1,_⟩:=p; rw [qf] at q1; cases q1
 | _=>unfold j_ at e; rw [qf] at e; cases e
end
section
variable {P:Program} {w:World} {K:Frag} {mg:Str->Option Value} {base:Heap}
theorem Sh {x qual:Str} {st:Stmt} {f:Addr} {fd:FuncData} {N ps:List Str} {k:Nat} {body:DS->Out} (F:Fun K x qual st f fd) (S:FnScope N ps (az st))
  (hb:∀(cdv:Value) (A:Around) (outer:List Env) (s:Shared) (H:Hp) (E:XK),Room k (A.deeper (envOfC qual (az st) s.heap.objs.size f cdv))->z9 (e_ (iJ P w) P w K mg base N qual (az st) f cdv A outer s H E) (bz st) body) :
  FnOk P w K mg base (iJ P w) (k + 1) f fd ps (Hm K (bG ps.length N.length body)):=by
 obtain ⟨oc,od,kV,doc,pm,an,cdv,ct,osl,rfl,lk,hcd⟩:=F.ex;have key:∀{ds es:List D},bG ps.length N.length body ds=.ok (.lst es)->ds.length=ps.length/\body (dH ds.length N.length ds)=.ret (.lst es):=fun {ds es} h=>by
  unfold bG at h
  by_cases c:ds.length=ps.length
  ·rw [if_pos c,<- c] at h;refine ⟨c,?_⟩
   cases q:body (dH ds.length N.length ds) with
   | ret d=>rw [q] at h; cases h; rfl
   | _=>rw [q] at h; cases h
  ·rw [if_neg c] at h; cases h
 refine Ec lk hcd S (fun vs H Q E ⟨ds,es,r,h,_⟩=>by rw [r.length]; exact (key h).1) fun A outer s H vs Q E hr ⟨ds,es,r,h,hQ⟩=>?_;obtain ⟨c,h⟩:=key h;refine ⟨fun D σ H2=>∃G δ,RepSt K G H2 σ δ/\(∃ds,body δ=.ret (.lst ds))/\∀pins fl s1,Lb (e_ (iJ P w) P w K mg base N qual (az st) f cdv A outer s H E) pins G H2 (body δ) fl s1->SP (e_ (iJ P w) P w K mg base N qual (az st) f cdv A outer s H E) pins D fl s1,?_,H,dH ds.length N.length ds,Kp N r,⟨_,h⟩,fun pins fl s1 p=>?_⟩
 ·intro pins s2 σ H2 D I ⟨G,δ,R,n,k1⟩;exact wpAny_mono (hb cdv A outer s H E hr pins s2 σ G H2 δ I R n) (fun fl s1 p=>k1 pins fl s1 p) fun _ _ z=>z.elim
 ·cases fl with
  | ret u =>
   obtain ⟨es',a,xs,σ',H',q1,q2,q3,q4,q5,q6,q7,q8⟩:=p;rw [h] at q1; cases q1;exact ⟨.ref a,σ',H',q2,q5,hQ a xs H' q4 q6 q7 q8⟩
  | _=>exact p.elim
end
theorem Sq (P:Program) (w:World) {K:Frag} {mg:Str->Option Value} (base:Heap) {x:Str} {st:Stmt} {N ps:List Str} (k:Nat) (body:DS->Out) (F:Ent K mg x st ps) (S:FnScope N ps (az st))
  (hb:∀(f:Addr) (cdv:Value) (A:Around) (outer:List Env) (s:Shared) (H:Hp) (E:XK),Room k (A.deeper (envOfC x (az st) s.heap.objs.size f cdv))->z9 (e_ (iJ P w) P w K mg base N x (az st) f cdv A outer s H E) (bz st) body) :
  Eo P w K mg base (k + 1) x (bG ps.length N.length body):=by
 obtain ⟨f,fd,m,F,B⟩:=F;exact ⟨f,fd,ps,Sh F S (hb f),m,F.kp,B⟩
noncomputable def iw (F:List D->Res D):List D->Res D:=fun ds=>match F ds with
 | .ok (.lst es)=>.ok (.lst es)
 | _=>.stuck
theorem Ss {X:Cx} {j k:Nat} {F:List D->Res D} {x:Str} {p pos:Pos} {e:Expr} {es:List Expr} {fs:DS->Res (List D)} (Fn:Eo X.prog X.w X.K X.mg X.base j x F) (hr:Room k X.A) (ha:PAD X (e :: es) fs)
  (hj:j<=k:=by first | decide | omega) (hg:Gl X x:=by exact rfl) (hdb:(x == ("__debug__" : Str))=false:=by decide) (he:starEach (e :: es) X.env=(false,eval e X.env) :: starEach es X.env:=by rfl) (hpl:(backTo pos (starEach es X.env)).any (·.1)=false:=by rfl) :
  PDL X (.Call (.Name x p) (e :: es) [] pos) (fun δ=>(fs δ).bind (iw F)):=by
 obtain ⟨f,fd,ps,Fn,hm,hk,hb⟩:=Fn;have Fn:=Fn.mono hj;intro pins s σ G H δ I R hs
 try dsimp only at hs ⊢
 refine wpAny_Call_Name_kw (v5 I hg hm ?_ hdb);refine callWith_K (h₀:=X.base) I.ok.mod.kin hk (ha.use I R (gq hs) (fun ds us s1 vs H1 q I1 r1 e1 b1 p1=>⟨I1.kIn,?_⟩) fun e s1 q=>q.same fun x z=>gY z) he hpl;have h2:=iD hs q;unfold iw at h2
 split at h2
 ·rename_i es' qg;have ev:(fs δ).bind (iw F)=.ok (.lst es'):=by rw [q]; show iw F ds=_; unfold iw; rw [qg]
  have hsp:Hm X.K F vs H1 (fun v H'=>∃a xs,v=.ref a/\Same H1 H'/\H1 a=none/\H' a=some (.lst xs)/\Reps X.K H' es' xs) (fun _ _ _=>False):=⟨ds,es',p1,qg,fun a xs H' a1 a2 a3 a4=>⟨a,xs,rfl,a1,a2,a3,a4⟩⟩;have hl:us.length=ps.length:=by rw [<- r1.length]; exact Fn.len _ _ _ _ hsp
  refine wpAny_call (codeAny_mono (Fn.run X.A X.stack s1 H1 ⟨us,[]⟩ us vs _ _ hr I1.env0 (by simpa using hb s1 us I1.kIn (by simpa using hl)) r1 hsp) fun r s' hq=>?_)
  cases r with
  | error e=>obtain ⟨_,_,_,_,_,_,_,_,_,_,z⟩:=hq; exact z.elim
  | ok fl =>
   cases fl with
   | ret u =>
    obtain ⟨v,H',I',r',a,xs,rfl,e',h1,h3,h4⟩:=I1.after hq;exact ⟨es',a,xs,H',ev,I',r',e1.trans e',e1.free h1,h3,h4⟩
   | next=>exact False.elim hq
   | brk=>exact False.elim hq
   | cont=>exact False.elim hq
 ·exact (h2 rfl).elim
section
variable {prog:Program} {w:World} {A:Around} {E:Value->Shared->Prop} {s:Shared} {I:Addr} {fp wr:List Addr} {G:Array GenState->Array GenState->Prop} {n:Nat} {P:Nat->Value->Prop} {St:Nat->Shared->Prop}
theorem hI' {R:Result->Shared->Prop} (W:WalksS prog w A.in1 I fp wr G n P St) (hT:∀i s,St i s->s.TypeIs (.ref I) "list_reverseiterator") (S:Addr) (res:Value) (c₀:Nat) (hst:St 0 s) (hSf:S∉fp) (hI:I∈fp)
  (hS:s.heap.get? S=some { cls:=.type "list",data:=.seq #[] c₀ })
  (hR:∀s' acc' c',Moved (S :: wr) G s s'->s'.heap.get? S=some { cls:=.type "list",dict:=none,data:=.seq acc' c',slots:=#[] }->ItemsOf P acc' n->R (.ok (.ret res)) s') (hn:n<=sizeLine) :
  wpAny (model prog w) A.in1 (Builtin.List.listExtendWith (.ref S) (.ref I) res)
   (fun fin s'=>match fin with | .done f=>R (.ok f) s' | .again c'=>c'.quiet=true/\codeAny (model prog w) A c' R s') (fun e s'=>R (.error e) s') s:=by
 have hSI:S≠I:=fun e=>hSf (e ▸ hI);unfold Builtin.List.listExtendWith;refine wpAny_bind (wpAny_typeOf (hT 0 _ hst) ?_);have same:Builtin.List.listSameRef (.ref S) (.ref I)=false:=by simp [Builtin.List.listSameRef,hSI]
 simp only [same];refine wpAny_bind (W.self 0 _ _ _ hst (wpAny_bind (wpAny_holding (Rn (hT 0 _ hst) ?_))));exact wpAny_pure ⟨plainId_quiet F.plain_extend_loop _,codeAny_extend_loopS W hn S hSf _ n 0 _ _ _ rfl (Nat.zero_le _) hst hS (ItemsOf.nil P) fun s' acc c m g' it=>hR s' acc c m g' it⟩
theorem Su {Q:Value->Shared->Prop} (W:WalksS prog w A.in1.in1 I fp wr G n P St) (hT:∀i s,St i s->s.TypeIs (.ref I) "list_reverseiterator") (hst:St 0 s) (hfp:∀b∈fp,b < s.heap.objs.size) (hI:I∈fp)
  (hQ:∀s' acc' c',Moved (s.heap.objs.size :: wr) G { s with heap:=s.heap.push { cls:=.type "list",data:=.seq #[] } } s' ->
   s'.heap.get? s.heap.objs.size=some { cls:=.type "list",dict:=none,data:=.seq acc' c',slots:=#[] }->ItemsOf P acc' n->Q (.ref s.heap.objs.size) s') (hn:n<=sizeLine) :
  wpAny (model prog w) A (call (.type "list") [.ref I]) Q E s:=by
 have hSf:s.heap.objs.size∉fp:=fun hm=>Nat.lt_irrefl _ (hfp _ hm);refine callType_codes (Q₁:=fun obj s₁=>obj=.ref s.heap.objs.size/\s₁={ s with heap:=s.heap.push { cls:=.type "list",data:=.seq #[] } }) F.called_list (F.typeCall_list_1 _) F.entry_list_init
  (code_list_new _ ⟨rfl,rfl⟩) fun obj s₁ h₁=>?_
 obtain ⟨rfl,rfl⟩:=h₁;have hS:(s.heap.push { cls:=.type "list",data:=.seq #[] }).get? s.heap.objs.size=some { cls:=.type "list",data:=.seq #[] }:=Heap.get?_push_size _ rfl;have st1:=W.frame 0 s _ s.toks hst (Nat.le_refl _) fun b _ o e=>Heap.get?_push_of_some { cls:=.type "list",data:=.seq #[] } e;refine ⟨⟨_,hS,rfl⟩,F.args_list_init_2 _ _,?_⟩;show wpAny _ A.in1.in1 (do let old <- Builtin.List.listItems (.ref s.heap.objs.size); Builtin.List.listUpdate (.ref s.heap.objs.size) (fun _=>#[]); letGo old.toList.reverse; Builtin.List.listExtendWith (.ref s.heap.objs.size) (.ref I) .none) _ _ _
 refine wpAny_bind ?_;unfold Builtin.List.listItems;refine wpAny_bind (wpAny_seqItems hS rfl (wpAny_pure ?_));show wpAny _ A.in1.in1 (updateSeq s.heap.objs.size (fun _=>#[]) >>= fun _=>letGo (#[]:Array Value).toList.reverse >>= fun _=>Builtin.List.listExtendWith (.ref s.heap.objs.size) (.ref I) .none) _ _ _;refine wpAny_bind (wpAny_updateSeq hS rfl ?_);have hS₂:=Heap.get?_update_self (Obj.mapSeq (fun _=>(#[]:Array Value))) hS rfl;have oth:∀b o,b≠s.heap.objs.size->(s.heap.push { cls:=.type "list",data:=.seq #[] }).get? b=some o->((s.heap.push { cls:=.type "list",data:=.seq #[] }).update s.heap.objs.size (Obj.mapSeq (fun _=>(#[]:Array Value)))).get? b=some o :=
  fun b o hb e=>(Heap.get?_update_other _ _ (Ne.symm hb)).trans e
 refine wpAny_bind (wpAny_letGo ?_);refine hI' (A:=A.in1) (hn:=hn) W hT _ .none _ (W.frame 0 _ _ s.toks st1 (Nat.le_refl _) fun b hb o e=>oth b o (fun h=>hSf (h ▸ hb)) e) hSf hI hS₂ fun s' acc' c' hm hS' hacc=>?_;exact ⟨rfl,hQ s' acc' c' (Moved.trans W.gtrans ((Moved.refl W.grefl).then_heap (Nat.le_refl _) fun b o hb e=>oth b o (fun h=>hb (h ▸ mem_cons_self)) e) hm) hS' hacc⟩
end
theorem Sv {its:List Value} {acc:Array Value} (h:ItemsOf (fun i v=>its.toArray[its.toArray.size - 1 - i]? = some v) acc its.toArray.size):acc.toList=its.reverse:=by
 obtain ⟨h1,h2⟩:=h;refine ext_getElem? fun i=>?_
 by_cases c:i < acc.size
 ·have q:=h2 i acc[i] (Array.getElem?_eq_getElem c);simp only [size_toArray,List.getElem?_toArray] at q h1;rw [List.getElem?_reverse (by omega),q];simp [c]
 ·simp only [size_toArray] at h1;rw [List.getElem?_eq_none (by simpa using Nat.le_of_not_lt c),List.getElem?_eq_none (by simp; omega)]
noncomputable def lR:D->Res D
 | .lst ds=>if ds.length<=8 then .ok (.lst ds.reverse) else .stuck
 | _=>.stuck
theorem hJ' {X:Cx} {e:Expr} {fe:DS->Res D} {p q pos pos2:Pos} (hc:X.calm=true) (hgl:Gl X "list") (hml:X.mg "list" = none) (hg:Gl X "reversed") (hm:X.mg "reversed" = none) (he:PD X e fe) (hs:starEach [e] X.env=[(false,eval e X.env)]:=by rfl)
  (hs2:starEach [.Call (.Name "reversed" p) [e] [] pos2] X.env=[(false,eval (.Call (.Name "reversed" p) [e] [] pos2) X.env)]:=by rfl) :
  PD X (.Call (.Name "list" q) [.Call (.Name "reversed" p) [e] [] pos2] [] pos) (fun δ=>(fe δ).bind lR):=by
 intro pins s σ G H δ I R hn
 try dsimp only at hn ⊢
 refine Call_ (dc' I hgl hml boot_list (PyProof.Rows.callWith_type1 ?_ (by rw [hs2]; rfl) rfl));rw [hs2];refine Calls.spliced_cons (Call_ (dc' I hg hm boot_reversed (PyProof.Rows.callWith_type1 ?_ hs (by rfl))));rw [hs];show wpAny _ _ (spliced ((false,eval e X.env) :: backTo pos2 [])) _ _ _;refine Calls.spliced_cons (he.use I R (gq hn) (fun d u s2 v H2 q I2 r2 e2 b2 p2=>?_) fun e s2 q=>q.same fun x z=>gY z);refine wpAny_pure ?_;have h2:=iD hn q;show wpAny _ _ (call (.type "reversed") [u]) _ _ s2
 cases d with
 | lst ds =>
  have hk:ds.length<=8:=by
   by_cases c:ds.length<=8
   ·exact c
   ·exact (h2 (if_neg c)).elim
  have ev:(fe δ).bind lR=.ok (.lst ds.reverse):=by
   rw [q,Res.bind_ok]; unfold lR; exact if_pos hk
  obtain ⟨a,vs,rfl,hq,rr⟩:=fC p2
  cases r2
  obtain ⟨its,rv,p,hz⟩:=I2.list hq;have pl:=p.isList;obtain ⟨oa,ga,_⟩:=id pl;refine PySem.call_reversed_list pl ?_;refine wpAny_pure ?_;have hne:a≠s2.heap.objs.size:=Nat.ne_of_lt (Heap.lt_size ga);have i8:its.toArray.size<=sizeLine:=by
   rw [size_toArray,<- rv.length,rr.length]; exact Nat.le_trans hk (by decide)
  have W:=(Walks.listRev (prog:=X.prog) (w:=X.w) (A:=X.A.in1.in1) (I2.ok.hd hc) s2.heap.objs.size a hne its.toArray).toS;have hi:(s2.heap.push (revObj a ((its.toArray.size:Int) - 1))).IsRevIter s2.heap.objs.size a ((its.toArray.size:Int) - 1):=⟨_,Heap.get?_push_size _ rfl,rfl,rfl⟩;refine Su W (fun i s st=>st.2.1.typeIs) ⟨Nat.zero_le _,by simpa using hi,pl.at fun o e=>Heap.get?_push_of_some _ e⟩ (fun b hb=>?_) (by simp) (fun s' acc' c' m g it=>?_) i8
  ·rw [Heap.size_push];rcases mem_cons.mp hb with rfl | hb
   ·exact Nat.lt_succ_self _
   ·rw [mem_singleton.mp hb]; exact Nat.lt_succ_of_lt (Heap.lt_size ga)
  ·obtain ⟨h',g',d',tk',os'⟩:=s';obtain ⟨m1,m2,m3,m4,m5⟩:=m;dsimp only at m1 m2 m3 m4 m5 g;subst m2 m3 m4;rw [Heap.size_push] at g m1;have kk:∀b o,s2.heap.get? b=some o->h'.get? b=some o:=fun b o e=>m1 b o (fun hb=>by
    have lt:=Heap.lt_size e;simp only [mem_cons,not_mem_nil,or_false] at hb;rcases hb with z | z
    ·rw [z] at lt; exact Nat.lt_irrefl _ (Nat.lt_trans (Nat.lt_succ_self _) lt)
    ·rw [z] at lt; exact Nat.lt_irrefl _ lt) (Heap.get?_push_of_some _ (Heap.get?_push_of_some _ e))
   have hf:=I2.hok.fresh (show s2.heap.objs.size<=s2.heap.objs.size + 1 from Nat.le_succ _)
   have ai:=Sv it;have I3:=I2.laid (a:=s2.heap.objs.size + 1) (o:=.lst vs.reverse) (h':=h') (t':=tk') kk (Nat.le_succ _) ⟨by rw [length_reverse,rr.length]; exact Nat.le_trans hk (by decide),acc'.toList,c',by rw [ai]; exact Vals.reverse' rv,by rw [Array.toArray_toList]; exact g⟩;refine ⟨_,.ref (s2.heap.objs.size + 1),_,ev,I3,?_,e2.trans (iU hf _),vB (SqL.of gW) ((rr.reverse).mono (iU hf _))⟩;show Value.ref _=Value.ref _;rw [Heap.size_push]
 | _=>exact (h2 rfl).elim
end DL
namespace Mine
noncomputable def qy:Nat->Nat
 | 0=>0
 | n + 1=>if (qy n + 1) * (qy n + 1)<=n + 1 then qy n + 1 else qy n
theorem Sw (n:Nat):qy n * qy n<=n/\n < (qy n + 1) * (qy n + 1):=by
 induction n with
 | zero=>exact ⟨Nat.le_refl 0,by decide⟩
 | succ n ih =>
  obtain ⟨lo,hi⟩:=ih;rw [qy];generalize qy n=k at *
  by_cases h:(k + 1) * (k + 1)<=n + 1
  ·rw [if_pos h];refine ⟨h,?_⟩;have e:(k + 1 + 1) * (k + 1 + 1)=(k + 1) * (k + 1) + 2 * k + 3:=by
    rw [Nat.add_mul,Nat.mul_add (k + 1) (k + 1) 1]; omega
   omega
  ·rw [if_neg h];omega
noncomputable def bN (n:Int):Int:=(qy n.toNat:Nat)
theorem Ep (n:Int):0<=bN n:=Int.natCast_nonneg _
theorem z_ {n:Int} (h:0<=n):bN n * bN n<=n/\n < (bN n + 1) * (bN n + 1):=by
 obtain ⟨a,b⟩:=Sw n.toNat;unfold bN;generalize qy n.toNat=k at *;have e:((k:Int) * k)=((k * k:Nat):Int):=by simp
 have e2:(((k:Int) + 1) * ((k:Int) + 1))=(((k + 1) * (k + 1):Nat):Int):=by simp
 rw [e,e2];omega
theorem Ld {a b:Int} (hb:0<=b) (h:a * a < (b + 1) * (b + 1)):a<=b:=by
 by_cases c:a<=b
 ·exact c
 ·have p:b + 1<=a:=by omega
  have q:=Int.mul_le_mul p p (by omega) (by omega);omega
theorem Aa (n:Int):Int.fdiv n 2=n / 2:=Int.fdiv_eq_ediv_of_nonneg n (by decide)
theorem Sx {n g:Int} (hn:0<=n) (hg:bN n<=g) (h:n < g * g) (g0:0<=g) :
  bN n<=Int.fdiv (g + Int.fdiv n g) 2/\0<=Int.fdiv (g + Int.fdiv n g) 2/\Int.fdiv (g + Int.fdiv n g) 2 < g/\0 < g:=by
 have gp:0 < g:=by
  rcases Int.lt_or_eq_of_le g0 with c | c
  ·exact c
  ·rw [<- c] at h; omega
 obtain ⟨a,_⟩:=z_ hn;have r0:=Ep n;rw [Aa,Int.fdiv_eq_ediv_of_nonneg n g0];generalize bN n=r at *;have q1:n / g < g:=Int.ediv_lt_of_lt_mul gp h;have q0:0<=n / g:=Int.ediv_nonneg hn g0;have sq:0<=(g - r) * (g - r):=Int.mul_nonneg (by omega) (by omega);have ex:(g - r) * (g - r)=g * g - 2 * (g * r) + r * r:=by
  rw [Int.sub_mul,Int.mul_sub,Int.mul_sub,Int.mul_comm r g]; omega
 have jq:(2 * r - g) * g=2 * (g * r) - g * g:=by
  rw [Int.sub_mul,Int.mul_assoc,Int.mul_comm r g]
 have q2:2 * r - g<=n / g:=(Int.le_ediv_iff_mul_le gp).mpr (by omega);omega
theorem hK' {n g:Int} (hn:0<=n) (hg:bN n<=g) (h:¬n < g * g) (g0:0<=g):g=bN n:=by
 obtain ⟨_,b⟩:=z_ hn;have:=Ld (Ep n) (Int.lt_of_le_of_lt (by omega:g * g<=n) b);omega
noncomputable def cm (a b:Int):Int:=(Int.gcd a b:Nat)
theorem Sy {a b:Int} (ha:0<=a) (hb:0<=b):cm b (Int.fmod a b)=cm a b:=by
 unfold cm;rw [Int.fmod_eq_emod_of_nonneg a hb]
 congr 1
 obtain ⟨x,rfl⟩:=Int.eq_ofNat_of_zero_le ha;obtain ⟨y,rfl⟩:=Int.eq_ofNat_of_zero_le hb;rw [<- Int.natCast_emod];simp only [Int.gcd,Int.natAbs_natCast];rw [Nat.gcd_comm y (x % y),<- Nat.gcd_rec,Nat.gcd_comm]
theorem SJ {a:Int} (ha:0<=a):cm a 0=a:=by
 unfold cm; rw [Int.gcd_zero_right]; omega
theorem SM (a b:Int):cm (a.natAbs:Int) (b.natAbs:Int)=cm a b:=by
 unfold cm; simp [Int.gcd]
end Mine
namespace DL
open PySem PySem.Spec PyProof.Rows L2
theorem ap_seq (a b:DS->Out) (δ:DS):aD a b δ=(a δ).seq b:=Eq.trans rfl rfl
theorem bnd_ok {α β:Type} (a:α) (f:α->Res β):(Res.ok a).bind f=f a:=Eq.trans rfl rfl
theorem sq_nxt (δ:DS) (g:DS->Out):(Out.nxt δ).seq g=g δ:=Eq.trans rfl rfl
theorem sq_ret (d:D) (g:DS->Out):(Out.ret d).seq g=.ret d:=Eq.trans rfl rfl
theorem sq_err (x:Exn) (δ:DS) (g:DS->Out):(Out.err x δ).seq g=.err x δ:=Eq.trans rfl rfl
theorem ap_set (i:Nat) (f:DS->Res D) (δ:DS):aG i f δ=j7 (f δ) δ fun d=>.nxt (δ.set i (some (.val d))):=Eq.trans rfl rfl
theorem on_ok (d:D) (δ:DS) (k:D->Out):j7 (.ok d) δ k=k d:=Eq.trans rfl rfl
theorem on_err (x:Exn) (δ:DS) (k:D->Out):j7 (.err x) δ k=.err x δ:=Eq.trans rfl rfl
theorem ont_ok (c:Bool) (δ:DS) (k:Bool->Out):xr (.ok c) δ k=k c:=Eq.trans rfl rfl
theorem onl_ok (ds:List D) (k:List D->Out):Ej (.ok ds) k=k ds:=Eq.trans rfl rfl
theorem ap_if (t:DS->Res Bool) (a b:DS->Out) (δ:DS):bZ t a b δ=xr (t δ) δ fun k=>if k=true then a δ else b δ:=Eq.trans rfl rfl
theorem ap_two (fa fb:DS->Res D) (g:D->D->Res D) (δ:DS):two fa fb g δ=(fa δ).bind fun x=>(fb δ).bind fun y=>g x y:=Eq.trans rfl rfl
theorem ap_bF {α:Type} (f:DS->Res α) (g:α->Res D) (δ:DS):aq f g δ=(f δ).bind g:=Eq.trans rfl rfl
theorem ap_bT (f:DS->Res D) (g:D->Res Bool) (δ:DS):aF f g δ=(f δ).bind g:=Eq.trans rfl rfl
theorem ap_bL (f:DS->Res D) (g:D->Res (List D)) (δ:DS):bindL f g δ=(f δ).bind g:=Eq.trans rfl rfl
theorem ap_cons (f:DS->Res D) (fs:DS->Res (List D)) (δ:DS):aj f fs δ=(f δ).bind fun d=>(fs δ).bind fun ds=>.ok (d :: ds):=Eq.trans rfl rfl
theorem ap_tup (f:DS->Res (List D)) (δ:DS):aZ f δ=lL (f δ):=Eq.trans rfl rfl
theorem ap_lst (f:DS->Res (List D)) (δ:DS):jx f δ=gw (f δ):=Eq.trans rfl rfl
theorem ap_ret (f:DS->Res D) (δ:DS):aH f δ=j7 (f δ) δ Out.ret:=Eq.trans rfl rfl
theorem ap_expr (f:DS->Res D) (δ:DS):pA f δ=j7 (f δ) δ fun _=>.nxt δ:=Eq.trans rfl rfl
theorem ap_neg (f:DS->Res D) (δ:DS):gF f δ=(f δ).bind pY:=Eq.trans rfl rfl
theorem neg_ok (i:Int):pY (.int i)=.ok (.int (-i)):=Eq.trans rfl rfl
theorem ap_notT (f:DS->Res Bool) (δ:DS):dI f δ=(f δ).bind fun c=>.ok (!c):=Eq.trans rfl rfl
theorem ap_andT (f g:DS->Res Bool) (δ:DS):jZ f g δ=(f δ).bind fun c=>if c=true then g δ else .ok false:=Eq.trans rfl rfl
theorem ap_orT (f g:DS->Res Bool) (δ:DS):jJ f g δ=(f δ).bind fun c=>if c=true then .ok true else g δ:=Eq.trans rfl rfl
theorem ap_andV (f g:DS->Res D) (δ:DS):pW f g δ=(f δ).bind fun x=>(aJ x).bind fun c=>if c=true then g δ else .ok (.bl false):=Eq.trans rfl rfl
theorem ap_ifD (t:DS->Res Bool) (f g:DS->Res D) (δ:DS):yL t f g δ=(t δ).bind fun c=>if c=true then f δ else g δ:=Eq.trans rfl rfl
theorem ap_for (t:gb) (fi:DS->Res (List D)) (b:DS->Out) (δ:DS):lN t fi b δ=Ej (fi δ) fun ds=>gO (di t b ds (thaw δ)):=Eq.trans rfl rfl
theorem ap_slice (fe:DS->Res D) (fl fu:DS->Res (Option Int)) (δ:DS):bj fe fl fu δ=(fe δ).bind fun d=>(fl δ).bind fun l=>(fu δ).bind fun u=>cutD d l u:=Eq.trans rfl rfl
theorem ap_part (f:DS->Res D) (δ:DS):bL f δ=(f δ).bind qN:=Eq.trans rfl rfl
theorem ap_noPart (δ:DS):bu δ=.ok none:=Eq.trans rfl rfl
theorem part_int (i:Int):qN (.int i)=.ok (some i):=Eq.trans rfl rfl
theorem out_ret (d:D):outD (.ret d)=.ok d:=Eq.trans rfl rfl
theorem out_err (x:Exn) (δ:DS):outD (.err x δ)=.err x:=Eq.trans rfl rfl
theorem cmp_ok (p:Int->Int->Bool) (i j:Int):j5 p (.int i) (.int j)=.ok (.bl (p i j)):=Eq.trans rfl rfl
theorem add_ok (i j:Int):a_ (.int i) (.int j)=.ok (.int (i + j)):=Eq.trans rfl rfl
theorem sub_ok (i j:Int):fZ (.int i) (.int j)=.ok (.int (i - j)):=Eq.trans rfl rfl
theorem bool_ok (b:Bool):aJ (.bl b)=.ok b:=Eq.trans rfl rfl
theorem truth_bl (b:Bool):bf (.bl b)=.ok b:=Eq.trans rfl rfl
theorem abs_ok (i:Int):lM [.int i]=.ok (.int (i.natAbs:Nat)):=by
 show Res.ok (D.int _)=_
 congr 2
 split <;> omega
theorem len_tup (ds:List D):bI [.tup ds]=.ok (.int ds.length):=Eq.trans rfl rfl
theorem len_lst (ds:List D):bI [.lst ds]=.ok (.int ds.length):=Eq.trans rfl rfl
theorem tuple_lst (ds:List D):bY [.lst ds]=.ok (.tup ds):=Eq.trans rfl rfl
theorem seq_tup (ds:List D):aM (.tup ds)=.ok ds:=Eq.trans rfl rfl
theorem seq_lst (ds:List D):aM (.lst ds)=.ok ds:=Eq.trans rfl rfl
theorem vw_val (d:D):SV.view (.val d)=d:=Eq.trans rfl rfl
theorem vw_arg (d:D):SV.view (.arg d)=d:=Eq.trans rfl rfl
theorem eqI (a b:Int):cV (.int a) (.int b)=.ok (.bl (decide (a=b))):=Eq.trans rfl rfl
theorem neI (a b:Int):iK (.int a) (.int b)=.ok (.bl (!decide (a=b))):=Eq.trans rfl rfl
theorem h_ {a b:Int} (h:b≠0):bR (.int a) (.int b)=.ok (.int (Int.fmod a b)):=by unfold bR; exact if_pos h
theorem xH {a b:Int} (h:a.natAbs < 2 ^ 1000) (h2:b.natAbs < 2 ^ 1000):dY (.int a) (.int b)=.ok (.int (a * b)):=by
 unfold dY;have e:1000<=2 ^ 20:=by decide
 exact if_pos (.inl ⟨Nat.le_trans (intBits_le h) e,Nat.le_trans (intBits_le h2) e⟩)
theorem Ho {a b:Int} (h:b.natAbs < 2 ^ 64):dY (.int a) (.int b)=.ok (.int (a * b)):=by
 unfold dY;exact if_pos (.inr (.inr (intBits_le h)))
theorem mulE_i (a b:Int):bK (.int a) (.int b)=dY (.int a) (.int b):=Eq.trans rfl rfl
theorem SN (fuel:DS->Nat) (c:DS->Res Bool) (b:DS->Out) (δ:DS):iW fuel c b δ=bJ c b (fuel δ) δ:=Eq.trans rfl rfl
theorem SQ {y:Int} (h:y.natAbs < 2 ^ 8000):y.natAbs.log2 < 9000:=by
 by_cases c:y.natAbs=0
 ·rw [c]; decide
 ·have:=(Nat.log2_lt c).mpr h; omega
theorem qQ {a b:Int} (h:b≠0) (h2:b.natAbs < 2 ^ 8000):bH (.int a) (.int b)=.ok (.int (Int.fdiv a b)):=by
 unfold bH; exact if_pos ⟨h,PyProof.noPylong_of_log2 (SQ h2)⟩
theorem cN0:((0:Nat):Int)=0:=Eq.trans rfl rfl
theorem cN1:((1:Nat):Int)=1:=Eq.trans rfl rfl
theorem cN2:((2:Nat):Int)=2:=Eq.trans rfl rfl
theorem sl0 (sv:SV) (r:DS):ak 0 (some sv :: r)=.ok sv.view:=Eq.trans rfl rfl
theorem st0 (y x:Option SV) (r:DS):List.set (y :: r) 0 x=x :: r:=Eq.trans rfl rfl
theorem sl1 (a0:Option SV) (sv:SV) (r:DS):ak 1 (a0 :: some sv :: r)=.ok sv.view:=Eq.trans rfl rfl
theorem st1 (a0:Option SV) (y x:Option SV) (r:DS):List.set (a0 :: y :: r) 1 x=a0 :: x :: r:=Eq.trans rfl rfl
theorem sl2 (a0 a1:Option SV) (sv:SV) (r:DS):ak 2 (a0 :: a1 :: some sv :: r)=.ok sv.view:=Eq.trans rfl rfl
theorem st2 (a0 a1:Option SV) (y x:Option SV) (r:DS):List.set (a0 :: a1 :: y :: r) 2 x=a0 :: a1 :: x :: r:=Eq.trans rfl rfl
theorem sl3 (a0 a1 a2:Option SV) (sv:SV) (r:DS):ak 3 (a0 :: a1 :: a2 :: some sv :: r)=.ok sv.view:=Eq.trans rfl rfl
theorem st3 (a0 a1 a2:Option SV) (y x:Option SV) (r:DS):List.set (a0 :: a1 :: a2 :: y :: r) 3 x=a0 :: a1 :: a2 :: x :: r:=Eq.trans rfl rfl
theorem sl4 (a0 a1 a2 a3:Option SV) (sv:SV) (r:DS):ak 4 (a0 :: a1 :: a2 :: a3 :: some sv :: r)=.ok sv.view:=Eq.trans rfl rfl
theorem st4 (a0 a1 a2 a3:Option SV) (y x:Option SV) (r:DS):List.set (a0 :: a1 :: a2 :: a3 :: y :: r) 4 x=a0 :: a1 :: a2 :: a3 :: x :: r:=Eq.trans rfl rfl
theorem sl5 (a0 a1 a2 a3 a4:Option SV) (sv:SV) (r:DS):ak 5 (a0 :: a1 :: a2 :: a3 :: a4 :: some sv :: r)=.ok sv.view:=Eq.trans rfl rfl
theorem st5 (a0 a1 a2 a3 a4:Option SV) (y x:Option SV) (r:DS):List.set (a0 :: a1 :: a2 :: a3 :: a4 :: y :: r) 5 x=a0 :: a1 :: a2 :: a3 :: a4 :: x :: r:=Eq.trans rfl rfl
theorem sl6 (a0 a1 a2 a3 a4 a5:Option SV) (sv:SV) (r:DS):ak 6 (a0 :: a1 :: a2 :: a3 :: a4 :: a5 :: some sv :: r)=.ok sv.view:=Eq.trans rfl rfl
theorem st6 (a0 a1 a2 a3 a4 a5:Option SV) (y x:Option SV) (r:DS):List.set (a0 :: a1 :: a2 :: a3 :: a4 :: a5 :: y :: r) 6 x=a0 :: a1 :: a2 :: a3 :: a4 :: a5 :: x :: r:=Eq.trans rfl rfl
theorem sl7 (a0 a1 a2 a3 a4 a5 a6:Option SV) (sv:SV) (r:DS):ak 7 (a0 :: a1 :: a2 :: a3 :: a4 :: a5 :: a6 :: some sv :: r)=.ok sv.view:=Eq.trans rfl rfl
theorem st7 (a0 a1 a2 a3 a4 a5 a6:Option SV) (y x:Option SV) (r:DS):List.set (a0 :: a1 :: a2 :: a3 :: a4 :: a5 :: a6 :: y :: r) 7 x=a0 :: a1 :: a2 :: a3 :: a4 :: a5 :: a6 :: x :: r:=Eq.trans rfl rfl
theorem sl8 (a0 a1 a2 a3 a4 a5 a6 a7:Option SV) (sv:SV) (r:DS):ak 8 (a0 :: a1 :: a2 :: a3 :: a4 :: a5 :: a6 :: a7 :: some sv :: r)=.ok sv.view:=Eq.trans rfl rfl
theorem st8 (a0 a1 a2 a3 a4 a5 a6 a7:Option SV) (y x:Option SV) (r:DS):List.set (a0 :: a1 :: a2 :: a3 :: a4 :: a5 :: a6 :: a7 :: y :: r) 8 x=a0 :: a1 :: a2 :: a3 :: a4 :: a5 :: a6 :: a7 :: x :: r:=Eq.trans rfl rfl
theorem sl9 (a0 a1 a2 a3 a4 a5 a6 a7 a8:Option SV) (sv:SV) (r:DS):ak 9 (a0 :: a1 :: a2 :: a3 :: a4 :: a5 :: a6 :: a7 :: a8 :: some sv :: r)=.ok sv.view:=Eq.trans rfl rfl
theorem st9 (a0 a1 a2 a3 a4 a5 a6 a7 a8:Option SV) (y x:Option SV) (r:DS):List.set (a0 :: a1 :: a2 :: a3 :: a4 :: a5 :: a6 :: a7 :: a8 :: y :: r) 9 x=a0 :: a1 :: a2 :: a3 :: a4 :: a5 :: a6 :: a7 :: a8 :: x :: r:=Eq.trans rfl rfl
theorem sl10 (a0 a1 a2 a3 a4 a5 a6 a7 a8 a9:Option SV) (sv:SV) (r:DS):ak 10 (a0 :: a1 :: a2 :: a3 :: a4 :: a5 :: a6 :: a7 :: a8 :: a9 :: some sv :: r)=.ok sv.view:=Eq.trans rfl rfl
theorem st10 (a0 a1 a2 a3 a4 a5 a6 a7 a8 a9:Option SV) (y x:Option SV) (r:DS):List.set (a0 :: a1 :: a2 :: a3 :: a4 :: a5 :: a6 :: a7 :: a8 :: a9 :: y :: r) 10 x=a0 :: a1 :: a2 :: a3 :: a4 :: a5 :: a6 :: a7 :: a8 :: a9 :: x :: r:=Eq.trans rfl rfl
theorem sl11 (a0 a1 a2 a3 a4 a5 a6 a7 a8 a9 a10:Option SV) (sv:SV) (r:DS):ak 11 (a0 :: a1 :: a2 :: a3 :: a4 :: a5 :: a6 :: a7 :: a8 :: a9 :: a10 :: some sv :: r)=.ok sv.view:=Eq.trans rfl rfl
theorem st11 (a0 a1 a2 a3 a4 a5 a6 a7 a8 a9 a10:Option SV) (y x:Option SV) (r:DS):List.set (a0 :: a1 :: a2 :: a3 :: a4 :: a5 :: a6 :: a7 :: a8 :: a9 :: a10 :: y :: r) 11 x=a0 :: a1 :: a2 :: a3 :: a4 :: a5 :: a6 :: a7 :: a8 :: a9 :: a10 :: x :: r:=Eq.trans rfl rfl
theorem tup1 (x0:D):lL (.ok [x0])=.ok (.tup [x0]):=Eq.trans rfl rfl
theorem lst1 (x0:D):gw (.ok [x0])=.ok (.lst [x0]):=Eq.trans rfl rfl
theorem tup2 (x0 x1:D):lL (.ok [x0,x1])=.ok (.tup [x0,x1]):=Eq.trans rfl rfl
theorem lst2 (x0 x1:D):gw (.ok [x0,x1])=.ok (.lst [x0,x1]):=Eq.trans rfl rfl
theorem tup3 (x0 x1 x2:D):lL (.ok [x0,x1,x2])=.ok (.tup [x0,x1,x2]):=Eq.trans rfl rfl
theorem lst3 (x0 x1 x2:D):gw (.ok [x0,x1,x2])=.ok (.lst [x0,x1,x2]):=Eq.trans rfl rfl
theorem tup4 (x0 x1 x2 x3:D):lL (.ok [x0,x1,x2,x3])=.ok (.tup [x0,x1,x2,x3]):=Eq.trans rfl rfl
theorem lst4 (x0 x1 x2 x3:D):gw (.ok [x0,x1,x2,x3])=.ok (.lst [x0,x1,x2,x3]):=Eq.trans rfl rfl
theorem lst5 (x0 x1 x2 x3 x4:D):gw (.ok [x0,x1,x2,x3,x4])=.ok (.lst [x0,x1,x2,x3,x4]):=Eq.trans rfl rfl
theorem lst6 (x0 x1 x2 x3 x4 x5:D):gw (.ok [x0,x1,x2,x3,x4,x5])=.ok (.lst [x0,x1,x2,x3,x4,x5]):=Eq.trans rfl rfl
theorem ix_tup (ds:List D) (k:Nat) (d:D) (h:ds[k]? = some d):bA (.tup ds) (.int (k:Int))=.ok d:=by
 have hk:k < ds.length:=by
  rcases Nat.lt_or_ge k ds.length with z | z
  ·exact z
  ·rw [List.getElem?_eq_none z] at h; cases h
 have e:jG ds (k:Int)=some d:=by
  unfold jG jY;rw [if_pos (Int.natCast_nonneg k),if_pos (by omega)];simpa using h
 show (match jG ds (k:Int) with | some d=>Res.ok d | none=>.stuck)=_
 rw [e]
theorem ix_tup0 (x0:D) (r:List D):bA (.tup (x0 :: r)) (.int 0)=.ok x0:=ix_tup _ 0 _ rfl
theorem ix_tup1 (x0 x1:D) (r:List D):bA (.tup (x0 :: x1 :: r)) (.int 1)=.ok x1:=ix_tup _ 1 _ rfl
theorem ix_tup2 (x0 x1 x2:D) (r:List D):bA (.tup (x0 :: x1 :: x2 :: r)) (.int 2)=.ok x2:=ix_tup _ 2 _ rfl
theorem yP (ds:List D) (k:Nat) (d:D) (h:ds[k]? = some d):bA (.lst ds) (.int (k:Int))=.ok d:=by
 have hk:k < ds.length:=by
  rcases Nat.lt_or_ge k ds.length with z | z
  ·exact z
  ·rw [List.getElem?_eq_none z] at h; cases h
 have e:jG ds (k:Int)=some d:=by
  unfold jG jY;rw [if_pos (Int.natCast_nonneg k),if_pos (by omega)];simpa using h
 show (match jG ds (k:Int) with | some d=>Res.ok d | none=>.stuck)=_
 rw [e]
theorem ix_lst0 (x0:D) (r:List D):bA (.lst (x0 :: r)) (.int 0)=.ok x0:=yP _ 0 _ rfl
theorem ix_lst1 (x0 x1:D) (r:List D):bA (.lst (x0 :: x1 :: r)) (.int 1)=.ok x1:=yP _ 1 _ rfl
theorem ix_lst2 (x0 x1 x2:D) (r:List D):bA (.lst (x0 :: x1 :: x2 :: r)) (.int 2)=.ok x2:=yP _ 2 _ rfl
theorem ix_lst3 (x0 x1 x2 x3:D) (r:List D):bA (.lst (x0 :: x1 :: x2 :: x3 :: r)) (.int 3)=.ok x3:=yP _ 3 _ rfl
theorem Le {fe:DS->Res D} {rest:DS} {g:Int->D}:∀(ts:List Int),(∀t∈ts,fe (some (.val (.int t)) :: rest)=.ok (g t))->mapR (d_ (bF 0) fe (none :: rest)) (ts.map .int)=.ok (ts.map g)
 | [],_=>rfl
 | t :: ts,h=>by
  have e:d_ (bF 0) fe (none :: rest) (.int t)=.ok (g t):=by
   show (match fe (some (.val (.int t)) :: rest) with | .ok x=>Res.ok x | _=>.stuck)=_
   rw [h t (by simp)]
  rw [map_cons,mapR,e,Res.bind_ok,Le ts (fun u hu=>h u (mem_cons_of_mem _ hu)),Res.bind_ok]; rfl
theorem qR {fe:DS->Res D} {fi:DS->Res (List D)} {fr:List Nat} {δ rest:DS} {ts:List Int} {g:Int->D} (hi:fi δ=.ok (ts.map .int)) (hr:bV 1 fr δ=none :: rest) (hl:ts.length<=sizeLine) (h:∀t∈ts,fe (some (.val (.int t)) :: rest)=.ok (g t)) :
  aO 1 fr (bF 0) fe fi δ=.ok (.lst (ts.map g)):=by
 unfold aO;rw [hi,Res.bind_ok,hr,Le ts h];unfold gw;rw [Res.bind_ok,if_pos (by simpa using hl)]
theorem Lf (lo:Int):∀(n:Nat),cH lo n=((List.range n).map fun k=>D.int (lo + (k:Nat)))
 | 0=>rfl
 | n + 1=>by
  rw [cH,Lf (lo + 1) n,range_succ_eq_map,map_cons,map_map]
  congr 1
  ·simp
  ·refine map_congr_left fun k _=>?_;simp only [Function.comp,D.int.injEq]; omega
theorem Er {b:DS->Out} {i:Nat} {f:Int->Int->Int} (st:Int->Option SV->DS) (h:∀acc z t,b ((st acc z).set i (some (.val (.int t))))=.nxt (st (f acc t) (some (.val (.int t))))) :
  ∀(ts:List Int) (acc:Int) (z:Option SV),∃z',di (bF i) b (ts.map .int) (st acc z)=.nxt (st (ts.foldl f acc) z')
 | [],acc,z=>⟨z,rfl⟩
 | t :: ts,acc,z=>by
  obtain ⟨z',e⟩:=Er st h ts (f acc t) (some (.val (.int t)));refine ⟨z',?_⟩;rw [map_cons,di];show (match b ((st acc z).set i (some (.val (.int t)))) with | .nxt δ'=>_ | .cnt δ'=>_ | .brk δ'=>_ | .ret d=>_ | _=>_)=_
  rw [h];exact e
end DL
namespace Mine
open PySem DL
noncomputable def gN (n:Nat) (ts:List Int):Nat:=ts.foldl (fun s t=>Nat.gcd s t.natAbs) n
theorem u6 (n:Nat) (t:Int) (ts:List Int):gN n (t :: ts)=gN (Nat.gcd n t.natAbs) ts:=rfl
theorem Lg:∀(ts:List Int) (n:Nat),ts.foldl cm (n:Int)=(gN n ts:Nat)
 | [],_=>rfl
 | t :: ts,n=>by
  rw [foldl_cons,u6,<- Lg ts (Nat.gcd n t.natAbs)]
  congr 1
theorem Lh (ts:List Int) (b:Int) (h:ts≠[]):ts.foldl cm b=(gN b.natAbs ts:Nat):=by
 cases ts with
 | nil=>exact (h rfl).elim
 | cons t ts=>rw [foldl_cons,u6,<- Lg ts]; congr 1
theorem fp' (K:Int):∀(ts:List Int) (n:Nat),gN (K.natAbs * n) (ts.map (K * ·))=K.natAbs * gN n ts
 | [],_=>rfl
 | t :: ts,n=>by
  rw [map_cons,u6,u6,Int.natAbs_mul,Nat.gcd_mul_left,fp' K ts]
theorem Hq:∀(ts:List Int) (n:Nat),gN n ts ∣ n/\∀t∈ts,gN n ts ∣ t.natAbs
 | [],n=>⟨Nat.dvd_refl n,fun t h=>by cases h⟩
 | t :: ts,n=>by
  obtain ⟨a,b⟩:=Hq ts (Nat.gcd n t.natAbs);rw [u6];refine ⟨Nat.dvd_trans a (Nat.gcd_dvd_left _ _),fun u hu=>?_⟩;rcases mem_cons.mp hu with z | z
  ·subst z; exact Nat.dvd_trans a (Nat.gcd_dvd_right _ _)
  ·exact b u z
theorem nx' {n:Nat} (ts:List Int) (h:0 < n):0 < gN n ts:=Nat.pos_of_dvd_of_pos (Hq ts n).1 h
structure Nf (ts:List Int) (b:Int):Prop where
 pos:0 < b
 one:gN b.natAbs ts=1
theorem S5 (ts:List Int) {b:Int} (hb:b≠0):∃(K:Int) (ts':List Int) (b':Int),K≠0/\ts=ts'.map (K * ·)/\b=K * b'/\Nf ts' b'/\ts'.length=ts.length:=by
 have hp:0 < gN b.natAbs ts:=nx' ts (by omega);obtain ⟨d1,d2⟩:=Hq ts b.natAbs;generalize hg:gN b.natAbs ts=g at *;have hK:∃K:Int,K.natAbs=g/\0 < K * b:=by
  rcases Int.lt_or_gt_of_ne hb with c | c
  ·refine ⟨-(g:Int),by omega,?_⟩;exact Int.mul_pos_of_neg_of_neg (by omega) c
  ·exact ⟨(g:Int),by omega,Int.mul_pos (by omega) c⟩
 obtain ⟨K,k1,k2⟩:=hK;have k0:K≠0:=by omega
 have kd:∀t:Int,g ∣ t.natAbs->K * (t / K)=t:=fun t h=>Int.mul_ediv_cancel' (by rw [<- Int.natAbs_dvd_natAbs,k1]; exact h);have eb:K * (b / K)=b:=kd b d1;have et:(ts.map (· / K)).map (K * ·)=ts:=by
  rw [map_map];have:∀t∈ts,((K * ·) ∘ (· / K)) t=t:=fun t ht=>kd t (d2 t ht);rw [map_congr_left this]; simp
 refine ⟨K,ts.map (· / K),b / K,k0,et.symm,eb.symm,⟨?_,?_⟩,by simp⟩
 ·rcases Int.lt_or_le 0 (b / K) with c | c
  ·exact c
  ·exfalso;have:K * b=K * K * (b / K):=by rw [Int.mul_assoc,eb]
   have h2:0<=K * K:=by
    rcases Int.le_total 0 K with z | z
    ·exact Int.mul_nonneg z z
    ·exact Int.mul_nonneg_of_nonpos_of_nonpos z z
   have:=Int.mul_nonpos_of_nonneg_of_nonpos h2 c;omega
 ·have e:=fp' K (ts.map (· / K)) (b / K).natAbs;rw [et,<- Int.natAbs_mul,eb,hg,k1] at e;have:g * gN (b / K).natAbs (ts.map (· / K))=g * 1:=by omega
  exact Nat.eq_of_mul_eq_mul_left hp this
theorem Hr (K t:Int) (h:K≠0):Int.fdiv (K * t) K=t:=Int.mul_fdiv_cancel_left t h
theorem Li {ts:List Int} {b K:Int} (h:Nf ts b) (hK:K≠0) (hts:ts≠[]):(ts.map (K * ·)).foldl cm (K * b)=(K.natAbs:Nat):=by
 rw [Lh _ _ (by simpa using hts),Int.natAbs_mul,fp',h.one,Nat.mul_one]
theorem hL' (n:Nat):Nf (List.replicate n 0) 1:=by
 refine ⟨by decide,?_⟩;have:∀n,gN 1 (List.replicate n 0)=1:=by
  intro n
  induction n with
  | zero=>rfl
  | succ n ih=>rw [replicate_succ,u6]; exact ih
 exact this n
abbrev num (ts:List Int) (b:Int):D:=.tup [.tup (ts.map .int),.int b]
theorem Hs (ts:List Int):eE (ts.map .int)=ts.map PyData.int:=by
 induction ts with
 | nil=>rfl
 | cons t ts ih=>simp only [map_cons,eE,cI,ih]
theorem yQ (n:Nat) (ts:List Int):(ts.map D.int).all (dD n)=true:=by
 induction ts with
 | nil=>rfl
 | cons t ts ih =>
  simp only [map_cons,all_cons,ih,Bool.and_true]
  cases n <;> rfl
theorem Es:∀(a b:List Int),PyData.eqvAll (a.map PyData.int) (b.map PyData.int)=decide (a=b)
 | [],[]=>rfl
 | [],y :: ys=>by simp [PyData.eqvAll]
 | x :: xs,[]=>by simp [PyData.eqvAll]
 | x :: xs,y :: ys=>by
  have e:PyData.eqv (.int x) (.int y)=decide (x=y):=rfl;simp only [map_cons,PyData.eqvAll,e,Es xs ys,List.cons.injEq]
  by_cases h1:x=y <;> by_cases h2:xs=ys <;> simp [h1,h2]
theorem kS' (a:List Int) (p:Int):dD 8 (num a p)=true:=by
 show ([D.tup (a.map .int),D.int p]:List D).all (dD 7)=true;simp only [all_cons,all_nil,Bool.and_true];rw [show dD 7 (D.tup (a.map .int))=(a.map D.int).all (dD 6) from rfl,yQ]; rfl
theorem Ab (a b:List Int) (p q:Int):PyData.eqv (cI (num a p)) (cI (num b q))=(decide (a=b) && decide (p=q)):=by
 simp only [cI,eE,Hs,PyData.eqv,PyData.eqvAll,Es,Bool.and_true];rfl
theorem Et (a b:List Int) (p q:Int):cV (num a p) (num b q)=.ok (.bl (decide (a=b) && decide (p=q))):=by
 unfold cV;rw [if_pos ⟨kS' a p,kS' b q⟩,Ab]
theorem hM' (x:Int) {y:Int} (h:y≠0):(Int.fmod x y).natAbs < y.natAbs:=by
 rw [Int.fmod_eq_emod];have a:=Int.emod_nonneg x h;have b:=Int.emod_lt_of_pos x (show 0 < (y.natAbs:Int) by omega);have e:x % (y.natAbs:Int)=x % y:=by
  rcases Int.natAbs_eq y with q | q
  ·rw [<- q]
  ·conv=>rhs; rw [q]
   rw [Int.emod_neg]
 rw [e] at b
 split
 ·omega
 ·rename_i c;have c1:¬(0<=y):=fun z=>c (.inl z);have c2:x % y≠0:=fun z=>c (.inr (Int.dvd_of_emod_eq_zero z));omega
theorem S6 (x y:Int):Int.gcd y (Int.fmod x y)=Int.gcd x y:=by
 have e:x=y * Int.fdiv x y + Int.fmod x y:=(Int.mul_fdiv_add_fmod x y).symm;refine Nat.dvd_antisymm ?_ ?_
 ·refine Int.dvd_gcd ?_ (Int.gcd_dvd_left y _);rw (config:={occs:=.pos [2]}) [e];exact Int.dvd_add (Int.dvd_trans (Int.gcd_dvd_left y _) (Int.dvd_mul_right ..)) (Int.gcd_dvd_right y _)
 ·refine Int.dvd_gcd (Int.gcd_dvd_right x y) ?_;have e2:Int.fmod x y=x - y * Int.fdiv x y:=by omega
  rw [e2];exact Int.dvd_sub (Int.gcd_dvd_left x y) (Int.dvd_trans (Int.gcd_dvd_right x y) (Int.dvd_mul_right ..))
theorem Ht (n:Nat) (h:n<=1000):jw [.int n]=.ok (((List.range n).map fun (k:Nat)=>(k:Int)).map .int):=by
 unfold jw;have h1:-(2 ^ 62)<=(n:Int)/\(n:Int) < 2 ^ 62:=⟨by omega,by omega⟩;simp only [h1,and_self,if_true,Int.toNat_natCast,Lf,map_map,Function.comp_def,Int.zero_add]
theorem p_ {f:DS->Res (List D)} {δ:DS} {ds rs:List D} {g:List D->Res (List D)} (h:f δ=.ok ds) (h2:g ds=.ok rs):cX f g δ=.ok rs:=by
 unfold cX; rw [h,Res.bind_ok,h2]
theorem Ac {α β:Type} (c:β):∀l:List α,l.map (fun _=>c)=List.replicate l.length c
 | []=>rfl
 | _ :: l=>by rw [map_cons,Ac c l]; rfl
end Mine
namespace Mine
open PySem DL L2
abbrev TI (l:List Int):D:=.tup (l.map .int)
abbrev RT (rs:List (List Int)):D:=.tup (rs.reverse.map TI)
noncomputable def bM (a b:List Int):List Int:=List.zipWith (fun x y=>x + y) a b
noncomputable def aV (x:List Int):List Int:=x.take (x.length / 2)
noncomputable def aU (x:List Int):List Int:=x.drop (x.length / 2)
noncomputable def pt:List (List Int)->List Int->List Int->List Int
 | [],x,y=>[x.headD 0 * y.headD 0]
 | r :: rs,x,y=>bM (pt rs (aV x) (aV y)) (pt rs (pt rs (aU x) (aU y)) r) ++ bM (pt rs (aV x) (aU y)) (pt rs (aU x) (aV y))
noncomputable def lt:List (List Int)->List Int->List Int->List Int
 | [],x,y=>[x.headD 0 * y.headD 0]
 | r :: rs,x,y=>bM (lt rs (aV x) (aV y)) (lt rs r (lt rs (aU x) (aU y))) ++ bM (lt rs (aV x) (aU y)) (lt rs (aU x) (aV y))
noncomputable def Sc:List (List Int)->Prop
 | []=>True
 | r :: rs=>r.length=2 ^ rs.length/\Sc rs
theorem fr':∀(a b:List Int),bM a b=bM b a
 | [],[]=>rfl
 | [],_ :: _=>rfl
 | _ :: _,[]=>rfl
 | x :: a,y :: b=>by
  have:=fr' a b;unfold bM at this ⊢;rw [zipWith_cons_cons,zipWith_cons_cons,this,Int.add_comm]
theorem pC {a b:List Int} {n:Nat} (h1:a.length=n) (h2:b.length=n):(bM a b).length=n:=by unfold bM; rw [length_zipWith]; omega
theorem iQ {x:List Int} {k:Nat} (h:x.length=2 ^ (k + 1)):(aV x).length=2 ^ k:=by
 unfold aV; rw [length_take]; have:2 ^ (k + 1)=2 ^ k * 2:=Nat.pow_succ ..; omega
theorem jo {x:List Int} {k:Nat} (h:x.length=2 ^ (k + 1)):(aU x).length=2 ^ k:=by
 unfold aU; rw [length_drop]; have:2 ^ (k + 1)=2 ^ k * 2:=Nat.pow_succ ..; omega
theorem dX:∀(rs:List (List Int)) (x y:List Int),Sc rs->x.length=2 ^ rs.length->y.length=2 ^ rs.length->(pt rs x y).length=2 ^ rs.length
 | [],_,_,_,_,_=>rfl
 | r :: rs,x,y,S,hx,hy=>by
  obtain ⟨hr,S⟩:=S;have a:=iQ hx;have b:=jo hx;have c:=iQ hy;have d:=jo hy;rw [pt,length_append,pC (dX rs _ _ S a c) (dX rs _ _ S (dX rs _ _ S b d) hr),pC (dX rs _ _ S a d) (dX rs _ _ S b c)];show _=2 ^ (rs.length + 1);rw [Nat.pow_succ]; omega
theorem yR:∀(rs:List (List Int)) (x y:List Int),pt rs x y=pt rs y x
 | [],x,y=>by rw [pt,pt,Int.mul_comm]
 | r :: rs,x,y=>by
  rw [pt,pt,yR rs (aV x) (aV y),yR rs (aU x) (aU y),yR rs (aV x) (aU y),yR rs (aU x) (aV y),fr' (pt rs (aU y) (aV x))]
theorem nA:∀(rs:List (List Int)) (x y:List Int),lt rs x y=pt rs x y
 | [],x,y=>rfl
 | r :: rs,x,y=>by
  rw [lt,pt,nA rs (aV x) (aV y),nA rs (aU x) (aU y),nA rs r,nA rs (aV x) (aU y),nA rs (aU x) (aV y),yR rs r]
noncomputable def Bd (n:Nat) (l:List Int):Prop:=∀t∈l,t.natAbs < 2 ^ n
theorem Bd.mono {n m:Nat} {l:List Int} (h:Bd n l) (e:n<=m):Bd m l:=fun t ht=>Nat.lt_of_lt_of_le (h t ht) (Nat.pow_le_pow_right (by decide) e)
theorem Bd.fr {n:Nat} {l:List Int} (h:Bd n l):Bd n (aV l):=fun t ht=>h t (mem_of_mem_take ht)
theorem Bd.bh {n:Nat} {l:List Int} (h:Bd n l):Bd n (aU l):=fun t ht=>h t (mem_of_mem_drop ht)
theorem Bd.head {n:Nat} {l:List Int} (h:Bd n l):(l.headD 0).natAbs < 2 ^ n:=by
 cases l with
 | nil=>exact Nat.two_pow_pos n
 | cons a l=>exact h a (by simp)
theorem ie {a b:Int} {p q:Nat} (h1:a.natAbs < 2 ^ p) (h2:b.natAbs < 2 ^ q):(a * b).natAbs < 2 ^ (p + q):=by
 rw [Int.natAbs_mul,Nat.pow_add];exact Nat.mul_lt_mul'' h1 h2
theorem Bd.add {n:Nat}:∀{a b:List Int},Bd n a->Bd n b->Bd (n + 1) (bM a b)
 | [],_,_,_=>fun t ht=>by simp [bM] at ht
 | _ :: _,[],_,_=>fun t ht=>by simp [bM] at ht
 | x :: a,y :: b,h1,h2=>fun t ht=>by
  unfold bM at ht;rw [zipWith_cons_cons] at ht;rcases mem_cons.mp ht with z | z
  ·have e1:=h1 x (by simp);have e2:=h2 y (by simp);rw [z,Nat.pow_succ]; omega
  ·exact Bd.add (fun t ht=>h1 t (mem_cons_of_mem _ ht)) (fun t ht=>h2 t (mem_cons_of_mem _ ht)) t z
theorem Bd.app {n:Nat} {a b:List Int} (h1:Bd n a) (h2:Bd n b):Bd n (a ++ b):=fun t ht=>(mem_append.mp ht).elim (h1 t) (h2 t)
theorem yS (ds:List D) (k:Nat):cutD (.tup ds) none (some (k:Int))=.ok (.tup (ds.take k)):=by
 show Res.ok (D.tup (f9 ds none (some (k:Int))))=_;unfold f9;rw [HT.sIx_nat,HT.sIx_none,drop_zero,Nat.sub_zero]
 congr 2
 rcases Nat.le_total k ds.length with h | h
 ·rw [Nat.min_eq_left h]
 ·rw [Nat.min_eq_right h,take_of_length_le h,take_length]
theorem Hu (ds:List D) (k:Nat):cutD (.tup ds) (some (k:Int)) none=.ok (.tup (ds.drop k)):=by
 show Res.ok (D.tup (f9 ds (some (k:Int)) none))=_;unfold f9;rw [HT.sIx_nat,HT.sIx_none]
 congr 2
 rcases Nat.le_total k ds.length with h | h
 ·rw [Nat.min_eq_left h,take_of_length_le (by rw [length_drop]; exact Nat.le_refl _)]
 ·rw [Nat.min_eq_right h,drop_length,drop_eq_nil_of_le h]; simp
theorem lV (r:List Int) (rs:List (List Int)):cutD (RT (r :: rs)) none (some (-1))=.ok (RT rs):=by
 show Res.ok (D.tup (f9 ((r :: rs).reverse.map TI) none (some (-1))))=_;unfold f9;have e:HT.sIx ((r :: rs).reverse.map TI).length ((r :: rs).reverse.map TI).length (some (-1))=rs.length:=by
  have hl:((r :: rs).reverse.map TI).length=rs.length + 1:=by simp
  rw [hl];unfold HT.sIx;dsimp only;rw [if_pos (by decide)]; omega
 rw [e,HT.sIx_none,drop_zero,Nat.sub_zero,reverse_cons,map_append]
 congr 2
 rw [take_append_of_le_length (by simp),take_of_length_le (by simp)]
theorem wG (r:List Int) (rs:List (List Int)):bA (RT (r :: rs)) (.int (-1))=.ok (TI r):=by
 have e:jG ((r :: rs).reverse.map TI) (-1)=some (TI r):=by
  unfold jG jY;have hl:((r :: rs).reverse.map TI).length=rs.length + 1:=by simp
  rw [hl,if_neg (by decide),if_pos (by omega)];have e2:((-1:Int) + ((rs.length + 1:Nat):Int)).toNat=rs.length:=by omega
  rw [e2];simp
 show (match jG ((r :: rs).reverse.map TI) (-1) with | some d=>Res.ok d | none=>.stuck)=_
 rw [e]
theorem bS' (rs:List (List Int)):bI [RT rs]=.ok (.int rs.length):=by
 rw [len_tup]; simp
theorem bs' (n:Nat):bH (.int (n:Int)) (.int 2)=.ok (.int ((n / 2:Nat):Int)):=by
 rw [qQ (by decide) (Nat.lt_of_lt_of_le (show Int.natAbs 2 < 2 ^ 2 by decide) (Nat.pow_le_pow_right (by decide) (by decide)))]
 congr 2
 rw [Int.fdiv_eq_ediv_of_nonneg _ (by decide)]; omega
theorem wH (l:List Int) (k:Nat):cutD (TI l) none (some (k:Int))=.ok (TI (l.take k)):=by rw [yS,<- map_take]
theorem u9 (l:List Int) (k:Nat):cutD (TI l) (some (k:Int)) none=.ok (TI (l.drop k)):=by rw [Hu,<- map_drop]
theorem ed' {fe:DS->Res D} {rest:DS} {g:Int->Int->D}:∀(xs ys:List Int),(∀x∈xs,∀y∈ys,fe (some (.val (.int x)) :: some (.val (.int y)) :: rest)=.ok (g x y)) ->
  mapR (d_ (cW [0,1]) fe (none :: none :: rest)) (nO (xs.map .int) (ys.map .int))=.ok (List.zipWith g xs ys)
 | [],_,_=>rfl
 | _ :: _,[],_=>rfl
 | x :: xs,y :: ys,h=>by
  have e:d_ (cW [0,1]) fe (none :: none :: rest) (.tup [.int x,.int y])=.ok (g x y):=by
   show (match fe (some (.val (.int x)) :: some (.val (.int y)) :: rest) with | .ok z=>Res.ok z | _=>.stuck)=_
   rw [h x (by simp) y (by simp)]
  have ih:=ed' xs ys fun u hu v hv=>h u (mem_cons_of_mem _ hu) v (mem_cons_of_mem _ hv);show mapR _ (D.tup [.int x,.int y] :: nO (xs.map .int) (ys.map .int))=_;rw [mapR,e,Res.bind_ok,ih,Res.bind_ok]; rfl
theorem Hv {fe:DS->Res D} {fi:DS->Res (List D)} {fr:List Nat} {δ rest:DS} {xs ys:List Int} {g:Int->Int->D} (hi:fi δ=.ok (nO (xs.map .int) (ys.map .int))) (hr:bV 2 fr δ=none :: none :: rest) (hl:xs.length<=sizeLine)
  (h:∀x∈xs,∀y∈ys,fe (some (.val (.int x)) :: some (.val (.int y)) :: rest)=.ok (g x y)):aO 2 fr (cW [0,1]) fe fi δ=.ok (.lst (List.zipWith g xs ys)):=by
 unfold aO;rw [hi,Res.bind_ok,hr,ed' xs ys h];unfold gw;rw [Res.bind_ok,if_pos (by rw [length_zipWith]; omega)]
theorem Ad (xs ys:List Int):(List.zipWith (fun x y=>D.int (x + y)) xs ys)=(bM xs ys).map .int:=by
 unfold bM; rw [map_zipWith]
theorem Eu {l:List Int} (h:l≠[]):bA (TI l) (.int 0)=.ok (.int (l.headD 0)):=by
 cases l with
 | nil=>exact (h rfl).elim
 | cons a l=>exact ix_tup0 _ _
theorem qT {l:List Int} {k:Nat} (h:l.length=2 ^ k):l≠[]:=fun z=>by rw [z] at h; have:=Nat.two_pow_pos k; simp at h; omega
theorem Ew {a b:List Int} (h:a≠[]) (h2:a.length + b.length<=1000):a_ (TI a) (TI b)=.ok (TI (a ++ b)):=by
 show (if (a.map D.int).length + (b.map D.int).length<=sizeLine then Res.ok (D.tup (a.map D.int ++ b.map D.int)) else Res.stuck)=_
 have e:1000<=sizeLine:=by decide
 rw [if_pos (by rw [length_map,length_map]; omega),<- map_append]
theorem vH {a b:List Int} (h2:a.length + b.length<=1000):a_ (TI a) (TI b)=.ok (TI (a ++ b)):=by
 show (if (a.map D.int).length + (b.map D.int).length<=sizeLine then Res.ok (D.tup (a.map D.int ++ b.map D.int)) else Res.stuck)=_
 have e:1000<=sizeLine:=by decide
 rw [if_pos (by rw [length_map,length_map]; omega),<- map_append]
theorem S7 (k:Int) (l:List Int):(l.map fun t=>D.int (k * t))=(l.map (k * ·)).map .int:=by rw [map_map]; rfl
noncomputable def kj (x y:List Int) (bx b_y:Int):List Int:=List.zipWith (fun a c=>a * b_y + c * bx) x y
theorem ef' (x y:List Int) (bx b_y:Int):bM (x.map (b_y * ·)) (y.map (bx * ·))=kj x y bx b_y:=by
 unfold bM kj;rw [zipWith_map]
 congr 1
 funext a c
 rw [Int.mul_comm b_y,Int.mul_comm bx]
theorem mk' {x y:List Int} {n:Nat} (h1:x.length=n) (h2:y.length=n) (bx b_y:Int):(kj x y bx b_y).length=n:=by unfold kj; rw [length_zipWith]; omega
theorem Ex {x:List Int} {n p:Nat} {k:Int} (h:Bd n x) (hk:k.natAbs < 2 ^ p):Bd (p + n) (x.map (k * ·)):=fun t ht=>by
 obtain ⟨u,hu,rfl⟩:=mem_map.mp ht;exact ie hk (h u hu)
theorem Ey:∀(ts:List Int),gN 1 ts=1
 | []=>rfl
 | t :: ts=>by rw [u6,Nat.gcd_one_left]; exact Ey ts
theorem Ae (ts:List Int):Nf ts 1:=⟨by decide,Ey ts⟩
theorem Hw:∀(ts:List Int) (n:Nat),gN n (ts.map fun t=>-t)=gN n ts
 | [],_=>rfl
 | t :: ts,n=>by rw [map_cons,u6,u6,Int.natAbs_neg,Hw ts]
theorem Lj {ts:List Int} {b:Int} (h:Nf ts b):Nf (ts.map fun t=>-t) b:=⟨h.pos,by rw [Hw]; exact h.one⟩
theorem cJ' {x:List Int} {n:Nat} (h:Bd n x):Bd n (x.map fun t=>-t):=fun t ht=>by
 obtain ⟨u,hu,rfl⟩:=mem_map.mp ht;rw [Int.natAbs_neg]; exact h u hu
theorem Ez (x:List Int):x.map ((-1:Int) * ·)=x.map fun t=>-t:=map_congr_left fun t _=>by omega
theorem S8 (k:Nat):(List.replicate k [D.int 0]).flatten=(List.replicate k (0:Int)).map .int:=by
 induction k with
 | zero=>rfl
 | succ k ih=>rw [replicate_succ,flatten_cons,ih,replicate_succ,map_cons]; rfl
theorem yU (k:Nat) (h:k<=1000):bK (.tup [.int 0]) (.int (k:Int))=.ok (TI (List.replicate k 0)):=by
 show qP [.int 0] (k:Int)=_;unfold qP;rw [if_pos ⟨rfl,Int.natCast_nonneg k,by rw [Int.toNat_natCast]; simpa using h⟩,Int.toNat_natCast,S8]
theorem Hx (m:Nat) (h:m<=1000):jt (.int 1) (.int (m:Int))=.ok (.int ((2 ^ m:Nat):Int)):=by
 simp only [jt];rw [if_pos ⟨by omega,by omega,by decide⟩,Int.toNat_natCast,Int.one_mul]; simp
theorem Ln:∀(bs:List Bool),bools (bs.map .bl)=some bs
 | []=>rfl
 | b :: bs=>by rw [map_cons,bools,Ln bs]; rfl
theorem S9 (bs:List Bool):iG [.lst (bs.map .bl)]=.ok (.bl (bs.all id)):=by
 show (match bools (bs.map .bl) with | some bs=>Res.ok (D.bl (bs.all id)) | none=>.stuck)=_
 rw [Ln]
noncomputable def zA (ns:List Int):Bool:=ns.all fun t=>decide (t=0)
noncomputable def sg (n:Int):Int:=if n=0 then 0 else if 0 < n then 1 else -1
theorem Lp {r m:Int} (hr:0<=r) (h1:r * r < m) (h2:m < (r + 1) * (r + 1)):∀(n:Nat) (a b:Int),0<=a->0<=b->b.toNat<=n->a * a=b * b * m->b=0
 | 0,a,b,_,hb,hn,_=>by omega
 | n + 1,a,b,ha,hb,hn,e=>by
  by_cases c:b=0
  ·exact c
  exfalso;have bp:0 < b:=by omega
  have bb:0 < b * b:=Int.mul_pos bp bp;have lo:r * b < a:=by
   rcases Int.lt_or_le (r * b) a with z | z
   ·exact z
   ·exfalso;have q:=Int.mul_le_mul z z ha (Int.mul_nonneg hr hb);have e1:r * b * (r * b)=b * b * (r * r):=by rw [Int.mul_assoc,Int.mul_left_comm b r b,<- Int.mul_assoc,Int.mul_comm]
    have:=Int.mul_lt_mul_of_pos_left h1 bb;omega
  have hi:a < (r + 1) * b:=by
   rcases Int.lt_or_le a ((r + 1) * b) with z | z
   ·exact z
   ·exfalso;have q:=Int.mul_le_mul z z (Int.mul_nonneg (by omega) hb) ha;have e1:(r + 1) * b * ((r + 1) * b)=b * b * ((r + 1) * (r + 1)):=by rw [Int.mul_assoc,Int.mul_left_comm b (r + 1) b,<- Int.mul_assoc,Int.mul_comm]
    have:=Int.mul_lt_mul_of_pos_left h2 bb;omega
  have hi':a < r * b + b:=by rw [Int.add_mul,Int.one_mul] at hi; exact hi
  have ma:r * a < m * b:=by
   rcases Int.lt_or_le (r * a) (m * b) with z | z
   ·exact z
   ·exfalso;have ap:0 < a:=by
     have:=Int.mul_nonneg hr hb; omega
    have q1:=Int.mul_le_mul_of_nonneg_right z hb;have q2:=Int.mul_lt_mul_of_pos_left lo ap;have e1:m * b * b=b * b * m:=by rw [Int.mul_assoc,Int.mul_comm]
    have e2:r * a * b=a * (r * b):=by rw [Int.mul_comm r a,Int.mul_assoc]
    omega
  have step:(m * b - r * a) * (m * b - r * a)=(a - r * b) * (a - r * b) * m:=by
   have x1:(m * b - r * a) * (m * b - r * a)=m * (b * b * m) - 2 * (m * (r * (a * b))) + r * (r * (a * a)):=by
    simp only [Int.sub_mul,Int.mul_sub];have t1:m * b * (m * b)=m * (b * b * m):=by
     rw [Int.mul_assoc,Int.mul_left_comm b m b,Int.mul_comm (b * b) m]
    have t2:m * b * (r * a)=m * (r * (a * b)):=by rw [Int.mul_assoc,Int.mul_left_comm b r a,Int.mul_comm b a]
    have t3:r * a * (m * b)=m * (r * (a * b)):=by rw [Int.mul_left_comm,Int.mul_assoc,<- Int.mul_assoc r a b,Int.mul_assoc r a b]
    have t4:r * a * (r * a)=r * (r * (a * a)):=by rw [Int.mul_assoc,Int.mul_left_comm a r a]
    rw [t1,t2,t3,t4]; omega
   have x2:(a - r * b) * (a - r * b) * m=m * (a * a) - 2 * (m * (r * (a * b))) + r * (r * (b * b * m)):=by
    have t0:(a - r * b) * (a - r * b)=a * a - 2 * (r * (a * b)) + r * (r * (b * b)):=by
     simp only [Int.sub_mul,Int.mul_sub];have u1:a * (r * b)=r * (a * b):=Int.mul_left_comm a r b;have u2:r * b * a=r * (a * b):=by rw [Int.mul_assoc,Int.mul_comm b a]
     have u3:r * b * (r * b)=r * (r * (b * b)):=by rw [Int.mul_assoc,Int.mul_left_comm b r b]
     rw [u1,u2,u3]; omega
    rw [t0,Int.add_mul,Int.sub_mul];have v1:a * a * m=m * (a * a):=Int.mul_comm _ _;have v2:2 * (r * (a * b)) * m=2 * (m * (r * (a * b))):=by rw [Int.mul_assoc,Int.mul_comm (r * (a * b)) m]
    have v3:r * (r * (b * b)) * m=r * (r * (b * b * m)):=by rw [Int.mul_assoc,Int.mul_assoc r (b * b) m]
    rw [v1,v2,v3]
   rw [x1,x2,<- e]
  have:=Lp hr h1 h2 n (m * b - r * a) (a - r * b) (by omega) (by omega) (by omega) step;omega
theorem Hy {r m:Int} (hr:0<=r) (h1:r * r < m) (h2:m < (r + 1) * (r + 1)) {a b:Int} (e:a * a=b * b * m):b=0:=by
 have ea:(a.natAbs:Int) * (a.natAbs:Int)=a * a:=by rw [<- Int.natCast_mul,Int.natAbs_mul_self]
 have eb:(b.natAbs:Int) * (b.natAbs:Int)=b * b:=by rw [<- Int.natCast_mul,Int.natAbs_mul_self]
 have:=Lp hr h1 h2 b.natAbs (a.natAbs:Int) (b.natAbs:Int) (by omega) (by omega) (by omega) (by rw [ea,eb]; exact e);omega
theorem Hz (n:Int):(n=0/\sg n=0)\/(0 < n/\sg n=1)\/(n < 0/\sg n=-1):=by
 unfold sg;rcases Int.lt_trichotomy n 0 with z | z | z
 ·exact .inr (.inr ⟨z,by rw [if_neg (by omega),if_neg (by omega)]⟩)
 ·exact .inl ⟨z,if_pos z⟩
 ·exact .inr (.inl ⟨z,by rw [if_neg (by omega),if_pos z]⟩)
end Mine
namespace Mine
open Lean.Grind
structure OF where
 C:Type
 fld:Field C
 le:LE C
 lt:LT C
 llt:Std.LawfulOrderLT C
 lin:Std.IsLinearOrder C
 ord:OrderedRing C
instance ofF (F:OF):Field F.C:=F.fld
instance ofLE (F:OF):LE F.C:=F.le
instance ofLT (F:OF):LT F.C:=F.lt
instance ofLLT (F:OF):Std.LawfulOrderLT F.C:=F.llt
instance ofLin (F:OF):Std.IsLinearOrder F.C:=F.lin
instance ofOrd (F:OF):OrderedRing F.C:=F.ord
instance ofNC (F:OF):NatCast F.C:=F.fld.toCommRing.toRing.toSemiring.natCast
instance ofIC (F:OF):IntCast F.C:=F.fld.toCommRing.toRing.intCast
section
variable {F:OF}
theorem cF {a b:F.C} (h1:0 < a) (h2:0 < b):0 < a * b:=by
 have:=OrderedRing.mul_lt_mul_of_pos_left h1 h2
 grind
theorem lW {a b:F.C} (h1:0<=a) (h2:0<=b):0<=a * b:=by
 by_cases h:a=0
 ·rw [h,Semiring.zero_mul]; exact Std.le_refl _
 ·by_cases h':b=0
  ·rw [h',Semiring.mul_zero]; exact Std.le_refl _
  ·have:=cF (a:=a) (b:=b) (by grind) (by grind)
   grind
theorem dR (a:F.C):0<=a * a:=by
 by_cases h:0<=a
 ·exact lW h h
 ·have:=lW (a:=-a) (b:=-a) (by grind) (by grind)
  grind
theorem yV {a:F.C} (h:a≠0):0 < a * a:=by
 by_cases c:0 < a
 ·exact cF c c
 ·have:=cF (a:=-a) (b:=-a) (by grind) (by grind)
  grind
theorem vI {a b c d:F.C} (a0:0<=a) (h1:a < b) (c0:0<=c) (h2:c < d):a * c < b * d:=by
 have q1:=lW (a:=b - a) (b:=c) (by grind) c0;have q2:=cF (a:=b) (b:=d - c) (by grind) (by grind)
 grind
theorem wI {p q:F.C} (h:0 < p) (e:q * q < p * p):0 < p + q:=by
 by_cases c:0 < p + q
 ·exact c
 ·exfalso;have q1:=lW (a:=-q - p) (b:=-q + p) (by grind) (by grind)
  grind
theorem nQ {a b:F.C} (h:a * b=0):a=0\/b=0:=by
 by_cases c:a=0
 ·exact .inl c
 ·right; grind
end
open Classical in
noncomputable def sgn {F:OF} (x:F.C):Int:=if x=0 then 0 else if 0 < x then 1 else -1
section
variable {F:OF}
theorem lE (x:F.C):(x=0/\sgn x=0)\/(0 < x/\sgn x=1)\/(x < 0/\sgn x=-1):=by
 unfold sgn
 by_cases h:x=0
 ·exact .inl ⟨h,by rw [if_pos h]⟩
 ·by_cases c:0 < x
  ·exact .inr (.inl ⟨c,by rw [if_neg h,if_pos c]⟩)
  ·exact .inr (.inr ⟨by grind,by rw [if_neg h,if_neg c]⟩)
theorem sgn_0 {x:F.C}:sgn x=0↔x=0:=by rcases lE x with ⟨h,e⟩ | ⟨h,e⟩ | ⟨h,e⟩ <;> constructor <;> grind
theorem sgn_p {x:F.C}:sgn x=1↔0 < x:=by rcases lE x with ⟨h,e⟩ | ⟨h,e⟩ | ⟨h,e⟩ <;> constructor <;> grind
theorem sgn_n {x:F.C}:sgn x=-1↔x < 0:=by rcases lE x with ⟨h,e⟩ | ⟨h,e⟩ | ⟨h,e⟩ <;> constructor <;> grind
theorem sgn_mul (x y:F.C):sgn (x * y)=sgn x * sgn y:=by
 rcases lE x with ⟨h,e⟩ | ⟨h,e⟩ | ⟨h,e⟩ <;> rcases lE y with ⟨h',e'⟩ | ⟨h',e'⟩ | ⟨h',e'⟩ <;> rw [e,e']
 ·rw [h,sgn_0.mpr (by grind)]; rfl
 ·rw [h,sgn_0.mpr (by grind)]; rfl
 ·rw [h,sgn_0.mpr (by grind)]; rfl
 ·rw [h',sgn_0.mpr (by grind)]; rfl
 ·rw [sgn_p.mpr (cF h h')]; rfl
 ·have:=cF (a:=x) (b:=-y) h (by grind);rw [sgn_n.mpr (by grind)]; rfl
 ·rw [h',sgn_0.mpr (by grind)]; rfl
 ·have:=cF (a:=-x) (b:=y) (by grind) h';rw [sgn_n.mpr (by grind)]; rfl
 ·have:=cF (a:=-x) (b:=-y) (by grind) (by grind);rw [sgn_p.mpr (by grind)]; rfl
end
structure Ext {R:Type} (r:R) where
 a:R
 b:R
namespace Ext
section
variable {F:OF} {r:F.C}
theorem eqs {x y:Ext r} (h1:x.a=y.a) (h2:x.b=y.b):x=y:=by
 cases x; cases y; cases h1; cases h2; rfl
instance:Add (Ext r):=⟨fun x y=>⟨x.a + y.a,x.b + y.b⟩⟩
instance:Mul (Ext r):=⟨fun x y=>⟨x.a * y.a + x.b * y.b * r,x.a * y.b + x.b * y.a⟩⟩
instance:Neg (Ext r):=⟨fun x=>⟨-x.a,-x.b⟩⟩
instance:Sub (Ext r):=⟨fun x y=>⟨x.a - y.a,x.b - y.b⟩⟩
instance:NatCast (Ext r):=⟨fun n=>⟨(n:F.C),0⟩⟩
instance:IntCast (Ext r):=⟨fun n=>⟨(n:F.C),0⟩⟩
instance (n:Nat):OfNat (Ext r) n:=⟨⟨OfNat.ofNat n,0⟩⟩
instance:SMul Nat (Ext r):=⟨fun n x=>(n:Ext r) * x⟩
instance:SMul Int (Ext r):=⟨fun n x=>(n:Ext r) * x⟩
noncomputable def pw (x:Ext r):Nat->Ext r
 | 0=>1
 | n + 1=>pw x n * x
instance:HPow (Ext r) Nat (Ext r):=⟨pw⟩
theorem lF (x y:Ext r):(x + y).a=x.a + y.a:=rfl
theorem lH (x y:Ext r):(x + y).b=x.b + y.b:=rfl
theorem nR (x y:Ext r):(x * y).a=x.a * y.a + x.b * y.b * r:=rfl
theorem nU (x y:Ext r):(x * y).b=x.a * y.b + x.b * y.a:=rfl
theorem xJ (x:Ext r):(-x).a=-x.a:=rfl
theorem xK (x:Ext r):(-x).b=-x.b:=rfl
theorem HB (x y:Ext r):(x - y).a=x.a - y.a:=rfl
theorem Lq (x y:Ext r):(x - y).b=x.b - y.b:=rfl
theorem Lr (n:Nat):((n:Ext r)).a=(n:F.C):=rfl
theorem wJ (n:Int):((n:Ext r)).a=(n:F.C):=rfl
theorem yW (n:Int):((n:Ext r)).b=0:=rfl
theorem vJ (n:Nat):(OfNat.ofNat n:Ext r).a=(OfNat.ofNat n:F.C):=rfl
theorem Af (n:Nat):(OfNat.ofNat n:Ext r).b=0:=rfl
theorem qd:(1:Ext r).a=1:=rfl
theorem u_:(1:Ext r).b=0:=rfl
theorem qe:(0:Ext r).a=0:=rfl
theorem vd:(0:Ext r).b=0:=rfl
instance:Semiring (Ext r) where
 add_zero x:=eqs (by rw [lF,qe] <;> grind) (by rw [lH,vd] <;> grind)
 add_comm x y:=eqs (by rw [lF,lF] <;> grind) (by rw [lH,lH] <;> grind)
 add_assoc x y z:=eqs (by simp only [lF] <;> grind) (by simp only [lH] <;> grind)
 mul_assoc x y z:=eqs (by simp only [nR,nU] <;> grind) (by simp only [nR,nU] <;> grind)
 mul_one x:=eqs (by simp only [nR,qd,u_] <;> grind) (by simp only [nU,qd,u_] <;> grind)
 one_mul x:=eqs (by simp only [nR,qd,u_] <;> grind) (by simp only [nU,qd,u_] <;> grind)
 left_distrib x y z:=eqs (by simp only [nR,lF,lH] <;> grind) (by simp only [nU,lF,lH] <;> grind)
 right_distrib x y z:=eqs (by simp only [nR,lF,lH] <;> grind) (by simp only [nU,lF,lH] <;> grind)
 zero_mul x:=eqs (by simp only [nR,qe,vd] <;> grind) (by simp only [nU,qe,vd] <;> grind)
 mul_zero x:=eqs (by simp only [nR,qe,vd] <;> grind) (by simp only [nU,qe,vd] <;> grind)
 pow_zero x:=rfl
 pow_succ x n:=rfl
 ofNat_succ n:=eqs (by rw [lF,vJ,vJ,qd]; exact Semiring.ofNat_succ (α:=F.C) n) (by rw [lH,Af,Af,u_] <;> grind)
 ofNat_eq_natCast n:=eqs (by rw [vJ,Lr]; exact Semiring.ofNat_eq_natCast (α:=F.C) n) rfl
 nsmul_eq_natCast_mul n x:=rfl
instance:Ring (Ext r) where
 neg_add_cancel x:=eqs (by rw [lF,xJ,qe] <;> grind) (by rw [lH,xK,vd] <;> grind)
 sub_eq_add_neg x y:=eqs (by rw [lF,xJ,HB] <;> grind) (by rw [lH,xK,Lq] <;> grind)
 neg_zsmul i x:=by
  show ((-i:Int):Ext r) * x=-((i:Ext r) * x);refine eqs ?_ ?_
  ·rw [xJ,nR,nR,wJ,wJ,yW,yW,Ring.intCast_neg (α:=F.C)] <;> grind
  ·rw [xK,nU,nU,wJ,wJ,yW,yW,Ring.intCast_neg (α:=F.C)] <;> grind
 zsmul_natCast_eq_nsmul n x:=by
  show (((n:Int)):Ext r) * x=(n:Ext r) * x;have e:(((n:Int)):Ext r)=(n:Ext r):=eqs (by rw [wJ,Lr]; exact Ring.intCast_natCast (α:=F.C) n) rfl;rw [e]
 intCast_ofNat n:=eqs (by rw [wJ,vJ]; exact Ring.intCast_ofNat (α:=F.C) n) rfl
 intCast_neg i:=eqs (by rw [wJ,xJ,wJ]; exact Ring.intCast_neg (α:=F.C) i) (by rw [yW,xK,yW] <;> grind)
instance:CommRing (Ext r) where
 mul_comm x y:=eqs (by rw [nR,nR] <;> grind) (by rw [nU,nU] <;> grind)
noncomputable def nrm (x:Ext r):F.C:=x.a * x.a - x.b * x.b * r
theorem nrm_mul (x y:Ext r):nrm (x * y)=nrm x * nrm y:=by unfold nrm; rw [nR,nU]; grind
theorem nrm_0 (hn:∀z:F.C,z * z≠r) {x:Ext r} (h:nrm x=0):x=0:=by
 unfold nrm at h
 by_cases hb:x.b=0
 ·have:x.a=0:=by rcases nQ (a:=x.a) (b:=x.a) (by grind) with z | z <;> exact z
  exact eqs this hb
 ·exfalso;exact hn (x.a / x.b) (by grind)
instance:Inv (Ext r):=⟨fun x=>⟨x.a / nrm x,-x.b / nrm x⟩⟩
instance:Div (Ext r):=⟨fun x y=>x * y⁻¹⟩
theorem EY (x:Ext r):(x⁻¹).a=x.a / nrm x:=rfl
theorem E_ (x:Ext r):(x⁻¹).b=-x.b / nrm x:=rfl
noncomputable def HD (x:Ext r):Int->Ext r
 | .ofNat n=>pw x n
 | .negSucc n=>(pw x (n + 1))⁻¹
instance:HPow (Ext r) Int (Ext r):=⟨HD⟩
theorem HF:((0:Ext r))⁻¹=0:=eqs (by rw [EY,qe]; grind) (by rw [E_,vd]; grind)
theorem HH (hn:∀z:F.C,z * z≠r) {x:Ext r} (h:x≠0):x * x⁻¹=1:=by
 have n0:nrm x≠0:=fun z=>h (nrm_0 hn z);refine eqs ?_ ?_
 ·rw [nR,EY,E_,qd]; unfold nrm at *; grind
 ·rw [nU,EY,E_,u_]; unfold nrm at *; grind
theorem S_ (hn:∀z:F.C,z * z≠r) (x:Ext r):(x⁻¹)⁻¹=x:=by
 by_cases h:x=0
 ·rw [h,HF,HF]
 ·have e1:=HH hn h;have h2:x⁻¹≠0:=fun z=>by
   rw [z] at e1;have:(0:Ext r)=1:=by rw [<- e1,Semiring.mul_zero]
   have:=congrArg Ext.a this;rw [qe,qd] at this;exact Field.zero_ne_one this
  have e2:=HH hn h2
  calc (x⁻¹)⁻¹=(x * x⁻¹) * (x⁻¹)⁻¹:=by rw [e1,Semiring.one_mul]
   _=x * (x⁻¹ * (x⁻¹)⁻¹):=Semiring.mul_assoc ..
   _=x:=by rw [e2,Semiring.mul_one]
theorem inv_1:((1:Ext r))⁻¹=1:=by
 refine eqs ?_ ?_
 ·rw [EY,qd]; unfold nrm; rw [qd,u_]; grind
 ·rw [E_,u_]; unfold nrm; rw [qd,u_]; grind
@[reducible] def fieldE (hn:∀z:F.C,z * z≠r):Field (Ext r) where
 div_eq_mul_inv _ _:=rfl
 zero_ne_one h:=by
  have:=congrArg Ext.a h;rw [qe,qd] at this;exact Field.zero_ne_one this
 inv_zero:=HF
 mul_inv_cancel:=HH hn
 zpow_zero _:=rfl
 zpow_succ _ _:=rfl
 zpow_neg x n:=by
  show HD x (-n)=(HD x n)⁻¹
  match n with
  | .ofNat 0=>exact inv_1.symm
  | .ofNat (n + 1)=>rfl
  | .negSucc n=>exact (S_ hn _).symm
noncomputable def Pos (x:Ext r):Prop:=(0 < nrm x/\0 < x.a)\/(nrm x < 0/\0 < x.b)
instance:LT (Ext r):=⟨fun x y=>Pos (y - x)⟩
instance:LE (Ext r):=⟨fun x y=>x=y\/Pos (y - x)⟩
theorem Ls (x:Ext r):nrm (-x)=nrm x:=by unfold nrm; rw [xJ,xK]; grind
theorem Tc:nrm (0:Ext r)=0:=by unfold nrm; rw [qe,vd]; grind
theorem Td:¬Pos (0:Ext r):=fun h=>by unfold Pos at h; rw [Tc] at h; grind
theorem Lw {x:Ext r} (h:Pos x):¬Pos (-x):=fun z=>by
 unfold Pos at h z; rw [Ls,xJ,xK] at z;rcases h with h | h <;> rcases z with z | z <;> grind
theorem tri (hn:∀z:F.C,z * z≠r) (hr:0 < r) (x:Ext r):x=0\/Pos x\/Pos (-x):=by
 by_cases h:x=0
 ·exact .inl h
 ·right
  have n0:nrm x≠0:=fun z=>h (nrm_0 hn z);unfold Pos;rw [Ls,xJ,xK]
  by_cases c:0 < nrm x
  ·have:x.a≠0:=fun z=>by
    have:=lW (dR x.b) (Std.le_of_lt hr);unfold nrm at c; rw [z] at c; grind
   by_cases d:0 < x.a
   ·exact .inl (.inl ⟨c,d⟩)
   ·exact .inr (.inl ⟨c,by grind⟩)
  ·have:x.b≠0:=fun z=>by
    have:=dR x.a;unfold nrm at c n0; rw [z] at c n0; grind
   by_cases d:0 < x.b
   ·exact .inl (.inr ⟨by grind,d⟩)
   ·exact .inr (.inr ⟨by grind,by grind⟩)
theorem Lx (hr:0 < r) {x y:Ext r} (h1:Pos x) (h2:Pos y):Pos (x * y):=by
 unfold Pos at *;rw [nrm_mul,nR,nU];have rr:=cF hr hr;have nbb:=lW (dR x.b) (Std.le_of_lt hr);have ndd:=lW (dR y.b) (Std.le_of_lt hr);rcases h1 with ⟨n1,p1⟩ | ⟨n1,p1⟩ <;> rcases h2 with ⟨n2,p2⟩ | ⟨n2,p2⟩
 ·refine .inl ⟨cF n1 n2,?_⟩;have q:=vI nbb (show x.b * x.b * r < x.a * x.a by unfold nrm at n1; grind) ndd (show y.b * y.b * r < y.a * y.a by unfold nrm at n2; grind);exact wI (cF p1 p2) (by grind)
 ·refine .inr ⟨?_,?_⟩
  ·have:=cF (a:=nrm x) (b:=-nrm y) n1 (by grind); grind
  ·have q:=vI nbb (show x.b * x.b * r < x.a * x.a by unfold nrm at n1; grind) (dR y.a) (show y.a * y.a < y.b * y.b * r by unfold nrm at n2; grind);refine wI (cF p1 p2) ?_
   by_cases c:x.b * y.a * (x.b * y.a) < x.a * y.b * (x.a * y.b)
   ·exact c
   ·have:=lW (a:=x.b * y.a * (x.b * y.a) - x.a * y.b * (x.a * y.b)) (b:=r) (by grind) (Std.le_of_lt hr)
    grind
 ·refine .inr ⟨?_,?_⟩
  ·have:=cF (a:=-nrm x) (b:=nrm y) (by grind) n2; grind
  ·have q:=vI (dR x.a) (show x.a * x.a < x.b * x.b * r by unfold nrm at n1; grind) ndd (show y.b * y.b * r < y.a * y.a by unfold nrm at n2; grind);have:0 < x.b * y.a + x.a * y.b:=by
    refine wI (cF p1 p2) ?_
    by_cases c:x.a * y.b * (x.a * y.b) < x.b * y.a * (x.b * y.a)
    ·exact c
    ·have:=lW (a:=x.a * y.b * (x.a * y.b) - x.b * y.a * (x.b * y.a)) (b:=r) (by grind) (Std.le_of_lt hr)
     grind
   grind
 ·refine .inl ⟨?_,?_⟩
  ·have:=cF (a:=-nrm x) (b:=-nrm y) (by grind) (by grind); grind
  ·have q:=vI (dR x.a) (show x.a * x.a < x.b * x.b * r by unfold nrm at n1; grind) (dR y.a) (show y.a * y.a < y.b * y.b * r by unfold nrm at n2; grind);have:0 < x.b * y.b * r + x.a * y.a:=wI (cF (cF p1 p2) hr) (by grind)
   grind
theorem Te (hn:∀z:F.C,z * z≠r) (hr:0 < r) {x y:Ext r} (h1:Pos x) (h2:Pos y):Pos (x + y):=by
 have rr:=cF hr hr;have nbb:=lW (dR x.b) (Std.le_of_lt hr);have ndd:=lW (dR y.b) (Std.le_of_lt hr);have mixed:∀x y:Ext r,(0 < nrm x/\0 < x.a)->(nrm y < 0/\0 < y.b)->Pos (x + y):=by
  intro x y ⟨n1,p1⟩ ⟨n2,p2⟩;have nbb:=lW (dR x.b) (Std.le_of_lt hr);have h0:x + y≠0:=fun z=>by
   have za:=congrArg Ext.a z;have zb:=congrArg Ext.b z;rw [lF,qe] at za;rw [lH,vd] at zb;have ea:y.a=-x.a:=by grind
   have eb:y.b=-x.b:=by grind
   unfold nrm at n1 n2;rw [ea,eb] at n2
   grind
  have n0:nrm (x + y)≠0:=fun z=>h0 (nrm_0 hn z);unfold Pos
  by_cases c:0 < nrm (x + y)
  ·refine .inl ⟨c,?_⟩;rw [lF]
   by_cases d:0 < x.a + y.a
   ·exact d
   ·exfalso;unfold nrm at n1 n2 c;rw [lF,lH] at c;have nvv:=lW (dR (x.b + y.b)) (Std.le_of_lt hr);have u0:-(x.a + y.a)≠0:=fun z=>by
     have:x.a + y.a=0:=by grind
     rw [this] at c; grind
    have up:0 < -(x.a + y.a):=by grind
    have q:=vI nbb (show x.b * x.b * r < x.a * x.a by grind) nvv (show (x.b + y.b) * (x.b + y.b) * r < -(x.a + y.a) * -(x.a + y.a) by grind);have q2:=wI (p:=x.a * -(x.a + y.a)) (q:=x.b * (x.b + y.b) * r) (cF p1 up) (by grind)
    grind
  ·refine .inr ⟨by grind,?_⟩;rw [lH]
   by_cases d:0 < x.b + y.b
   ·exact d
   ·exfalso;have c':nrm (x + y) < 0:=by grind
    unfold nrm at n1 n2 c';rw [lF,lH] at c';have naa:=dR (x.a + y.a);have v0:-(x.b + y.b)≠0:=fun z=>by
     have:x.b + y.b=0:=by grind
     rw [this] at c'; grind
    have vp:0 < -(x.b + y.b):=by grind
    have q:=vI (dR y.a) (show y.a * y.a < y.b * y.b * r by grind) naa (show (x.a + y.a) * (x.a + y.a) < (x.b + y.b) * (x.b + y.b) * r by grind);have q2:=wI (p:=y.b * -(x.b + y.b) * r) (q:=y.a * (x.a + y.a)) (cF (cF p2 vp) hr) (by grind)
    grind
 rcases h1 with h1 | h1 <;> rcases h2 with h2 | h2
 ·obtain ⟨n1,p1⟩:=h1;obtain ⟨n2,p2⟩:=h2;refine .inl ⟨?_,by rw [lF]; grind⟩;unfold nrm at *;rw [lF,lH];have q:=vI nbb (show x.b * x.b * r < x.a * x.a by grind) ndd (show y.b * y.b * r < y.a * y.a by grind);have q2:=wI (p:=x.a * y.a) (q:=-(x.b * y.b * r)) (cF p1 p2) (by grind)
  grind
 ·exact mixed x y h1 h2
 ·have:=mixed y x h2 h1
  rwa [Semiring.add_comm] at this
 ·obtain ⟨n1,p1⟩:=h1;obtain ⟨n2,p2⟩:=h2;refine .inr ⟨?_,by rw [lH]; grind⟩;unfold nrm at *;rw [lF,lH];have q:=vI (dR x.a) (show x.a * x.a < x.b * x.b * r by grind) (dR y.a) (show y.a * y.a < y.b * y.b * r by grind);have q2:=wI (p:=x.b * y.b * r) (q:=-(x.a * y.a)) (cF (cF p1 p2) hr) (by grind)
  grind
theorem lt_def {x y:Ext r}:x < y↔Pos (y - x):=Iff.rfl
theorem Ly {x y:Ext r}:x<=y↔x=y\/Pos (y - x):=Iff.rfl
theorem Tf (x y z:Ext r):(y - x) + (z - y)=z - x:=by grind
theorem linE (hn:∀z:F.C,z * z≠r) (hr:0 < r):Std.IsLinearOrder (Ext r) where
 le_refl x:=.inl rfl
 le_trans x y z h1 h2:=by
  rcases h1 with rfl | h1
  ·exact h2
  ·rcases h2 with rfl | h2
   ·exact .inr h1
   ·exact .inr (by have:=Te hn hr h1 h2; rwa [Tf] at this)
 le_antisymm x y h1 h2:=by
  rcases h1 with rfl | h1
  ·rfl
  ·rcases h2 with rfl | h2
   ·rfl
   ·exact (Lw h1 (by rwa [show -(y - x)=x - y by grind])).elim
 le_total x y:=by
  rcases tri hn hr (y - x) with z | z | z
  ·exact .inl (.inl (by grind))
  ·exact .inl (.inr z)
  ·exact .inr (.inr (by rwa [show -(y - x)=x - y by grind] at z))
theorem lltE:Std.LawfulOrderLT (Ext r) where
 lt_iff x y:=by
  constructor
  ·intro h;refine ⟨.inr h,fun z=>?_⟩;rcases z with rfl | z
   ·rw [lt_def,show y - y=0 by grind] at h; exact Td h
   ·exact Lw h (by rwa [show -(y - x)=x - y by grind])
  ·intro ⟨h1,h2⟩;rcases h1 with rfl | h1
   ·exact (h2 (.inl rfl)).elim
   ·exact h1
theorem ordE (hn:∀z:F.C,z * z≠r) (hr:0 < r):@OrderedRing (Ext r) _ _ _ ((linE hn hr).toIsPartialOrder.toIsPreorder) :=
  letI:=(linE hn hr)
  { add_le_left_iff:=fun {a b} c=>by
      rw [Ly,Ly,show b + c - (a + c)=b - a by grind]
      constructor
      · rintro (rfl | h)
        · exact .inl rfl
        · exact .inr h
      · rintro (h | h)
        · exact .inl (by grind)
        · exact .inr h
    zero_lt_one:=by
      rw [lt_def];refine .inl ⟨?_,?_⟩
      · unfold nrm; rw [HB,Lq,qd,u_,qe,vd];have:=OrderedRing.zero_lt_one (R:=F.C)
        grind
      · rw [HB,qd,qe]; have:=OrderedRing.zero_lt_one (R:=F.C); grind
    mul_lt_mul_of_pos_left:=fun {a b c} h1 h2=>by
      rw [lt_def] at *;have:=Lx hr h2 h1
      rwa [show (c - 0) * (b - a)=c * b - c * a by grind] at this
    mul_lt_mul_of_pos_right:=fun {a b c} h1 h2=>by
      rw [lt_def] at *;have:=Lx hr h2 h1
      rwa [show (c - 0) * (b - a)=b * c - a * c by grind] at this }
end
end Ext
noncomputable def aN (F:OF) (r:F.C) (hr:0 < r) (hn:∀z:F.C,z * z≠r):OF where
 C:=Ext r
 fld:=Ext.fieldE hn
 le:=inferInstance
 lt:=inferInstance
 llt:=Ext.lltE
 lin:=Ext.linE hn hr
 ord:=Ext.ordE hn hr
noncomputable def ratOF:OF where
 C:=Rat
 fld:=inferInstance
 le:=inferInstance
 lt:=inferInstance
 llt:=inferInstance
 lin:=inferInstance
 ord:=inferInstance
end Mine
namespace Mine
open PySem DL L2
open Lean.Grind
noncomputable def aY {F:OF} (of:List Int->F.C) (r:List Int) (hr:0 < of r) (hn:∀z:F.C,z * z≠of r):List Int->(aN F (of r) hr hn).C:=fun x=>(⟨of (aV x),of (aU x)⟩:Ext (of r))
inductive Tow:(rs:List (List Int))->(F:OF)->(List Int->F.C)->Prop
 | nil:Tow [] ratOF (fun x=>(((x.headD 0:Int):Rat)))
 | cons {rs:List (List Int)} {F:OF} {of:List Int->F.C} (T:Tow rs F of) (r:List Int) (hl:r.length=2 ^ rs.length) (hr:0 < of r) (hn:∀z:F.C,z * z≠of r) :
   Tow (r :: rs) (aN F (of r) hr hn) (aY of r hr hn)
theorem Tow.sc {rs:List (List Int)} {F:OF} {of:List Int->F.C} (T:Tow rs F of):Sc rs:=by
 induction T with
 | nil=>trivial
 | cons T r hl hr hn ih=>exact ⟨hl,ih⟩
theorem Tg {x y:List Int} (h:x.length=y.length):aV (bM x y)=bM (aV x) (aV y):=by
 have hl:(bM x y).length=x.length:=by unfold bM; rw [length_zipWith]; omega
 unfold aV;rw [hl,<- h];unfold bM;rw [take_zipWith]
theorem Th {x y:List Int} (h:x.length=y.length):aU (bM x y)=bM (aU x) (aU y):=by
 have hl:(bM x y).length=x.length:=by unfold bM; rw [length_zipWith]; omega
 unfold aU;rw [hl,<- h];unfold bM;rw [drop_zipWith]
theorem wK {a b:List Int} (h:a.length=b.length):aV (a ++ b)=a:=by
 unfold aV;rw [length_append,<- h,show (a.length + a.length) / 2=a.length by omega,take_left'];rfl
theorem wL {a b:List Int} (h:a.length=b.length):aU (a ++ b)=b:=by
 unfold aU;rw [length_append,<- h,show (a.length + a.length) / 2=a.length by omega,drop_left'];rfl
theorem Ti (f:Int->Int) (x:List Int):aV (x.map f)=(aV x).map f:=by unfold aV; rw [length_map,map_take]
theorem Tj (f:Int->Int) (x:List Int):aU (x.map f)=(aU x).map f:=by unfold aU; rw [length_map,map_drop]
theorem mu' (x:List Int):aV x ++ aU x=x:=take_append_drop _ x
section
variable {rs:List (List Int)} {F:OF} {of:List Int->F.C}
theorem vK (T:Tow rs F of):∀{x y:List Int},x.length=2 ^ rs.length->y.length=2 ^ rs.length->of (bM x y)=of x + of y:=by
 induction T with
 | nil =>
  intro x y hx hy
  match x,y,hx,hy with
  | [a],[b],_,_=>exact Rat.intCast_add a b
 | @cons rs F of T r hl hr hn ih =>
  intro x y hx hy;refine Ext.eqs (r:=of r) ?_ ?_
  ·show of (aV (bM x y))=of (aV x) + of (aV y);rw [Tg (hx.trans hy.symm),ih (iQ hx) (iQ hy)]
  ·show of (aU (bM x y))=of (aU x) + of (aU y);rw [Th (hx.trans hy.symm),ih (jo hx) (jo hy)]
theorem xM (T:Tow rs F of):∀{x y:List Int},x.length=2 ^ rs.length->y.length=2 ^ rs.length->of (pt rs x y)=of x * of y:=by
 induction T with
 | nil =>
  intro x y hx hy
  match x,y,hx,hy with
  | [a],[b],_,_=>exact Rat.intCast_mul a b
 | @cons rs F of T r hl hr hn ih =>
  intro x y hx hy;have S:=T.sc;have a:=iQ hx;have b:=jo hx;have c:=iQ hy;have d:=jo hy;have l1:=dX rs _ _ S a c;have l2:=dX rs _ _ S (dX rs _ _ S b d) hl;have l3:=dX rs _ _ S a d;have l4:=dX rs _ _ S b c;have f1:=pC l1 l2;have f2:=pC l3 l4;refine Ext.eqs (r:=of r) ?_ ?_
  ·show of (aV (pt (r :: rs) x y))=of (aV x) * of (aV y) + of (aU x) * of (aU y) * of r;rw [pt,wK (f1.trans f2.symm),vK T l1 l2,ih a c,ih (dX rs _ _ S b d) hl,ih b d]
  ·show of (aU (pt (r :: rs) x y))=of (aV x) * of (aU y) + of (aU x) * of (aV y);rw [pt,wL (f1.trans f2.symm),vK T l3 l4,ih a d,ih b c]
theorem jz (T:Tow rs F of) (k:Int):∀{x:List Int},x.length=2 ^ rs.length->of (x.map (k * ·))=(k:F.C) * of x:=by
 induction T with
 | nil =>
  intro x hx
  match x,hx with
  | [a],_=>exact Rat.intCast_mul k a
 | @cons rs F of T r hl hr hn ih =>
  intro x hx;refine Ext.eqs (r:=of r) ?_ ?_
  ·show of (aV (x.map (k * ·)))=(k:F.C) * of (aV x) + (0:F.C) * of (aU x) * of r;rw [Ti,ih (iQ hx)]; grind
  ·show of (aU (x.map (k * ·)))=(k:F.C) * of (aU x) + (0:F.C) * of (aV x);rw [Tj,ih (jo hx)]; grind
theorem HJ (T:Tow rs F of):∀{x y:List Int},x.length=2 ^ rs.length->y.length=2 ^ rs.length->of x=of y->x=y:=by
 induction T with
 | nil =>
  intro x y hx hy e
  match x,y,hx,hy with
  | [a],[b],_,_=>have:a=b:=Rat.intCast_inj.mp e; rw [this]
 | @cons rs F of T r hl hr hn ih =>
  intro x y hx hy e;have q1:of (aV x)=of (aV y):=congrArg (Ext.a (r:=of r)) e;have q2:of (aU x)=of (aU y):=congrArg (Ext.b (r:=of r)) e;have w1:=ih (iQ hx) (iQ hy) q1;have w2:=ih (jo hx) (jo hy) q2;rw [<- mu' x,<- mu' y,w1,w2]
theorem xN (T:Tow rs F of) {x:List Int} (hx:x.length=2 ^ rs.length):of (x.map fun t=>-t)=-of x:=by
 rw [<- Ez,jz T (-1) hx,Ring.intCast_neg];have:((1:Int):F.C)=1:=Ring.intCast_one;rw [this]; grind
theorem xO (T:Tow rs F of):∀(k:Int),of (k :: List.replicate (2 ^ rs.length - 1) 0)=(k:F.C):=by
 induction T with
 | nil=>intro k; rfl
 | @cons rs F of T r hl hr hn ih =>
  intro k;have p:=Nat.two_pow_pos rs.length;have e:k :: List.replicate (2 ^ (r :: rs).length - 1) 0=(k :: List.replicate (2 ^ rs.length - 1) 0) ++ (0 :: List.replicate (2 ^ rs.length - 1) 0):=by
   rw [cons_append]
   congr 1
   rw [<- replicate_succ,replicate_append_replicate]
   congr 1
   rw [length_cons,Nat.pow_succ]; omega
  rw [e];refine Ext.eqs (r:=of r) ?_ ?_
  ·show of (aV _)=(k:F.C);rw [wK (by simp),ih]
  ·show of (aU _)=(0:F.C);rw [wL (by simp),ih]; exact Ring.intCast_zero
theorem wM (T:Tow rs F of):of (List.replicate (2 ^ rs.length) 0)=0:=by
 have:=xO T 0;rw [Ring.intCast_zero] at this;rw [<- this]
 congr 1
 rw [<- replicate_succ]
 congr 1
 have p:=Nat.two_pow_pos rs.length;omega
theorem pD (T:Tow rs F of):∀{k:Int},0 < k->0 < (k:F.C):=by
 intro k hk;obtain ⟨n,rfl⟩:=Int.eq_ofNat_of_zero_le (Int.le_of_lt hk);rw [Ring.intCast_natCast];have:∀n:Nat,0 < ((n + 1:Nat):F.C):=by
  intro n
  induction n with
  | zero =>
   have h1:=OrderedRing.zero_lt_one (R:=F.C);have e:((0 + 1:Nat):F.C)=1:=Semiring.natCast_one;rw [e]; exact h1
  | succ n ih =>
   have h1:=OrderedRing.zero_lt_one (R:=F.C);rw [Semiring.natCast_succ]
   grind
 match n,hk with
 | n + 1,_=>exact this n
theorem fL (T:Tow rs F of) {k:Int} (h:k≠0):(k:F.C)≠0:=by
 rcases Int.lt_or_gt_of_ne h with c | c
 ·have:=pD T (k:=-k) (by omega);rw [Ring.intCast_neg] at this
  grind
 ·have:=pD T c
  grind
end
theorem Ext.pos0 {F:OF} {r:F.C} (x:Ext r):(0:Ext r) < x↔Ext.Pos x:=by
 rw [Ext.lt_def,show x - 0=x by grind]
theorem Tn {F:OF} {r:F.C} {hr:0 < r} {hn:∀z:F.C,z * z≠r} (x:(aN F r hr hn).C):0 < x↔Ext.Pos (r:=r) x:=Ext.pos0 (r:=r) x
open Classical in
theorem Ag {F:OF} {r:F.C} {hr:0 < r} {hn:∀z:F.C,z * z≠r} (x:(aN F r hr hn).C) :
  sgn x=if sgn (Ext.a x)=sgn (Ext.b x)\/sgn (Ext.b x)=0 then sgn (Ext.a x) else if sgn (Ext.a x)=0 then sgn (Ext.b x) else sgn (Ext.a x) * sgn (Ext.nrm x):=by
 have x0:x=0↔(Ext.a x=0/\Ext.b x=0):=⟨fun h=>by rw [h]; exact ⟨rfl,rfl⟩,fun h=>Ext.eqs h.1 h.2⟩;have xp:0 < x↔(0 < Ext.nrm x/\0 < Ext.a x)\/(Ext.nrm x < 0/\0 < Ext.b x):=Tn x;have n0:Ext.nrm x=0->x=0:=fun h=>Ext.nrm_0 hn h;have nd:Ext.nrm x=Ext.a x * Ext.a x - Ext.b x * Ext.b x * r:=rfl;have bb:=lW (dR (Ext.b x)) (Std.le_of_lt hr);have aa:=dR (Ext.a x);have hs:sgn x=if Ext.nrm x=0 then 0 else if 0 < Ext.nrm x then sgn (Ext.a x) else sgn (Ext.b x):=by
  rcases lE (Ext.nrm x) with ⟨h,e⟩ | ⟨h,e⟩ | ⟨h,e⟩
  ·rw [if_pos h]; exact sgn_0.mpr (n0 h)
  ·have h':Ext.nrm x≠0:=by grind
   have a0:Ext.a x≠0:=fun z=>by rw [nd,z] at h; grind
   have hx:x≠0:=fun z=>a0 (x0.mp z).1;rw [if_neg h',if_pos h];rcases lE (Ext.a x) with ⟨h2,e2⟩ | ⟨h2,e2⟩ | ⟨h2,e2⟩
   ·exact (a0 h2).elim
   ·rw [e2]; exact sgn_p.mpr (xp.mpr (.inl ⟨h,h2⟩))
   ·rw [e2]; refine sgn_n.mpr ?_;have:¬0 < x:=fun z=>by rcases xp.mp z with q | q <;> grind
    grind
  ·have h':Ext.nrm x≠0:=by grind
   have h'':¬0 < Ext.nrm x:=by grind
   have b0:Ext.b x≠0:=fun z=>by rw [nd,z] at h; grind
   have hx:x≠0:=fun z=>b0 (x0.mp z).2;rw [if_neg h',if_neg h''];rcases lE (Ext.b x) with ⟨h2,e2⟩ | ⟨h2,e2⟩ | ⟨h2,e2⟩
   ·exact (b0 h2).elim
   ·rw [e2]; exact sgn_p.mpr (xp.mpr (.inr ⟨h,h2⟩))
   ·rw [e2]; refine sgn_n.mpr ?_;have:¬0 < x:=fun z=>by rcases xp.mp z with q | q <;> grind
    grind
 rw [hs];have cb:Ext.b x=0->Ext.nrm x=Ext.a x * Ext.a x:=fun z=>by rw [nd,z]; grind
 have ca:Ext.a x=0->Ext.nrm x=-(Ext.b x * Ext.b x * r):=fun z=>by rw [nd,z]; grind
 rcases lE (Ext.a x) with ⟨ha,ea⟩ | ⟨ha,ea⟩ | ⟨ha,ea⟩ <;> rcases lE (Ext.b x) with ⟨hb,eb⟩ | ⟨hb,eb⟩ | ⟨hb,eb⟩ <;> rcases lE (Ext.nrm x) with ⟨h,e⟩ | ⟨h,e⟩ | ⟨h,e⟩ <;> rw [ea,eb,e] <;>
  first
  | (have:=n0 h; have:=x0.mp this; grind)
  | (rw [if_neg (show ¬Ext.nrm x=0 by grind)]; first | (rw [if_pos h]; rfl) | (rw [if_neg (show ¬0 < Ext.nrm x by grind)]; rfl))
  | (have c1:=cb hb; have:=yV (a:=Ext.a x) (by grind); grind)
  | (have c1:=ca ha; have:=cF (yV (a:=Ext.b x) (by grind)) hr; grind)
  | (have c1:=cb hb; grind)
  | (have c1:=ca ha; grind)
  | (rw [if_pos h]; rfl)
theorem Tp {x y:List Int} {b c:Int} (hx:Nf x b) (hy:Nf y c) (e:x.map (c * ·)=y.map (b * ·)):x=y/\b=c:=by
 have e1:=fp' c x b.natAbs;have e2:=fp' b y c.natAbs;rw [hx.one,e,Nat.mul_comm] at e1;rw [hy.one] at e2;have p1:=hx.pos;have p2:=hy.pos;have:b=c:=by omega
 subst this;refine ⟨?_,rfl⟩;have inj:∀(x y:List Int),x.map (b * ·)=y.map (b * ·)->x=y:=by
  intro x
  induction x with
  | nil=>intro y h; cases y with | nil=>rfl | cons _ _=>simp at h
  | cons a x ih =>
   intro y h
   cases y with
   | nil=>simp at h
   | cons a' y =>
    simp only [map_cons,List.cons.injEq] at h;rw [Int.eq_of_mul_eq_mul_left (by omega) h.1,ih y h.2]
 exact inj x y e
noncomputable def Nm {F:OF} (of:List Int->F.C) (k n:Nat) (d:D) (v:F.C):Prop :=
 ∃x b,d=num x b/\Nf x b/\x.length=2 ^ k/\Bd n x/\b.natAbs < 2 ^ n/\v=of x / (b:F.C)
section
variable {rs:List (List Int)} {F:OF} {of:List Int->F.C}
theorem Nm.mono {k n m:Nat} {d:D} {v:F.C} (h:Nm of k n d v) (e:n<=m):Nm of k m d v:=by
 obtain ⟨x,b,h1,h2,h3,h4,h5,h6⟩:=h;exact ⟨x,b,h1,h2,h3,h4.mono e,Nat.lt_of_lt_of_le h5 (Nat.pow_le_pow_right (by decide) e),h6⟩
theorem Tq {a b c d:F.C} (hb:b≠0) (hd:d≠0) (h:a / b=c / d):d * a=b * c:=by grind
theorem iy (T:Tow rs F of) {n m:Nat} {d e:D} {v:F.C} (h1:Nm of rs.length n d v) (h2:Nm of rs.length m e v):d=e:=by
 obtain ⟨x,b,rfl,nx,lx,_,_,ex⟩:=h1;obtain ⟨y,c,rfl,ny,ly,_,_,ey⟩:=h2;have pb:=nx.pos;have pc:=ny.pos;have b0:=fL T (show b≠0 by omega);have c0:=fL T (show c≠0 by omega);have e:=Tq b0 c0 (ex.symm.trans ey);rw [<- jz T c lx,<- jz T b ly] at e;obtain ⟨rfl,rfl⟩:=Tp nx ny (HJ T (by simpa using lx) (by simpa using ly) e);rfl
open Classical in
theorem Fb (T:Tow rs F of) {n m:Nat} {d e:D} {v w:F.C} (h1:Nm of rs.length n d v) (h2:Nm of rs.length m e w):cV d e=.ok (.bl (decide (v=w))):=by
 by_cases c:v=w
 ·subst c;have:=iy T h1 h2;subst this;obtain ⟨x,b,rfl,_⟩:=h1;rw [Et]; simp
 ·obtain ⟨x,b,rfl,nx,lx,_,_,ex⟩:=h1;obtain ⟨y,b',rfl,ny,ly,_,_,ey⟩:=h2;rw [Et];have:¬(x=y/\b=b'):=fun z=>c (by rw [ex,ey,z.1,z.2]);simp only [c,decide_false]
  congr 2
  simpa using this
theorem vL (T:Tow rs F of) {ts:List Int} {b:Int} {n:Nat} (hl:ts.length=2 ^ rs.length) (hb:b≠0) (h1:Bd n ts) (h2:b.natAbs < 2 ^ n) :
  ∃K x c,K≠0/\ts=x.map (K * ·)/\b=K * c/\Nf x c/\x.length=2 ^ rs.length/\K.natAbs < 2 ^ n/\Nm of rs.length n (num x c) (of ts / (b:F.C)):=by
 obtain ⟨K,x,c,k0,e1,e2,nf,el⟩:=S5 ts hb;have cp:=nf.pos;have xl:x.length=2 ^ rs.length:=el.trans hl;have kb:K.natAbs < 2 ^ n:=by
  rw [e2,Int.natAbs_mul] at h2;exact Nat.lt_of_le_of_lt (Nat.le_mul_of_pos_right _ (by omega)) h2
 refine ⟨K,x,c,k0,e1,e2,nf,xl,kb,x,c,rfl,nf,xl,fun t ht=>?_,?_,?_⟩
 ·have:=h1 (K * t) (by rw [e1]; exact mem_map.mpr ⟨t,ht,rfl⟩);rw [Int.natAbs_mul] at this;exact Nat.lt_of_le_of_lt (Nat.le_mul_of_pos_left _ (by omega)) this
 ·rw [e2,Int.natAbs_mul] at h2;exact Nat.lt_of_le_of_lt (Nat.le_mul_of_pos_left _ (by omega)) h2
 ·have kz:=fL T k0;have cz:=fL T (show c≠0 by omega);rw [e1,e2,jz T K xl,Ring.intCast_mul]
  grind
theorem HN (T:Tow rs F of) {n:Nat} (hn:0 < n):Nm of rs.length n (num (List.replicate (2 ^ rs.length) 0) 1) 0:=by
 have p:1 < 2 ^ n:=by
  have:=Nat.pow_le_pow_right (show 2 > 0 by decide) hn;have e:2 ^ (0 + 1)=2:=rfl;rw [e] at this; omega
 refine ⟨_,1,rfl,hL' _,by simp,fun t ht=>?_,p,?_⟩
 ·rw [eq_of_mem_replicate ht]; exact Nat.two_pow_pos n
 ·rw [wM T]; grind
theorem Lz (T:Tow rs F of) {n:Nat} {k:Int} (hn:0 < n) (hk:k.natAbs < 2 ^ n):Nm of rs.length n (num (k :: List.replicate (2 ^ rs.length - 1) 0) 1) (k:F.C):=by
 have p:1 < 2 ^ n:=by
  have:=Nat.pow_le_pow_right (show 2 > 0 by decide) hn;have e:2 ^ (0 + 1)=2:=rfl;rw [e] at this; omega
 have q:=Nat.two_pow_pos rs.length;refine ⟨_,1,rfl,Ae _,by simp; omega,fun t ht=>?_,p,?_⟩
 ·rcases mem_cons.mp ht with z | z
  ·rw [z]; exact hk
  ·rw [eq_of_mem_replicate z]; exact Nat.two_pow_pos n
 ·rw [xO T];have:((1:Int):F.C)=1:=Ring.intCast_one;rw [this]; grind
theorem Nm.zero_iff (T:Tow rs F of) {n:Nat} {x:List Int} {b:Int} {v:F.C} (h:Nm of rs.length n (num x b) v):v=0↔zA x=true:=by
 have hz:=HN T (n:=1) (by decide)
 constructor
 ·intro e;subst e;have:=iy T h hz;obtain ⟨y,c,e,_,ly,_,_,_⟩:=h;simp only [num,D.tup.injEq,List.cons.injEq,D.int.injEq,and_true] at this;obtain ⟨q,_⟩:=this;unfold zA;have:∀t∈x,t=0:=fun t ht=>by
   have:D.int t∈(List.replicate (2 ^ rs.length) (0:Int)).map D.int:=by rw [<- q]; exact mem_map.mpr ⟨t,ht,rfl⟩
   obtain ⟨u,hu,e⟩:=mem_map.mp this;rw [eq_of_mem_replicate hu] at e;injection e with e; exact e.symm
  rw [all_eq_true];intro t ht; rw [this t ht]; rfl
 ·intro e;obtain ⟨y,c,e',ny,ly,_,_,ev⟩:=h;simp only [num,D.tup.injEq,List.cons.injEq,D.int.injEq,and_true] at e';have:x=y:=by
   have inj:∀(x y:List Int),x.map D.int=y.map D.int->x=y:=by
    intro x
    induction x with
    | nil=>intro y h; cases y with | nil=>rfl | cons _ _=>simp at h
    | cons a x ih =>
     intro y h
     cases y with
     | nil=>simp at h
     | cons a' y =>
      simp only [map_cons,List.cons.injEq,D.int.injEq] at h;rw [h.1,ih y h.2]
   exact inj _ _ e'.1
  subst this;have:x=List.replicate (2 ^ rs.length) 0:=by
   rw [<- ly];refine eq_replicate_iff.mpr ⟨rfl,fun t ht=>?_⟩;unfold zA at e;rw [all_eq_true] at e;have:=e t ht;simpa using this
  rw [ev,this,wM T]; grind
end
abbrev hd0:List Int->ratOF.C:=fun x=>(((x.headD 0:Int):Rat))
noncomputable def NS {F:OF} (d:F.C):Prop:=∀z:F.C,z * z≠d
theorem Tr {n r:Int} (hr:0<=r) (h1:r * r < n) (h2:n < (r + 1) * (r + 1)) (z:Rat):z * z≠(n:Rat):=by
 intro e;have hd:((z.den:Int):Rat)≠0:=fun q=>z.den_nz (by have:=Rat.intCast_eq_zero_iff.mp q; omega);have hz:z * ((z.den:Int):Rat)=(z.num:Rat):=by
  have:=Rat.num_divInt_den z;rw [Rat.divInt_eq_div] at this
  grind
 have e2:((z.num * z.num:Int):Rat)=(((z.den:Int) * (z.den:Int) * n:Int):Rat):=by
  rw [Rat.intCast_mul,Rat.intCast_mul,Rat.intCast_mul,<- hz,<- e]
  grind
 have:=Hy hr h1 h2 (Rat.intCast_inj.mp e2);have:=z.den_nz;omega
theorem HQ {n r:Int} (hr:0<=r) (h1:r * r < n) (h2:n < (r + 1) * (r + 1)):NS (F:=ratOF) ((n:Int):Rat):=Tr hr h1 h2
section
variable {F:OF} {r:F.C} {hr:0 < r} {hn:∀z:F.C,z * z≠r}
noncomputable def gQ (hr:0 < r) (hn:∀z:F.C,z * z≠r) (a b:F.C):(aN F r hr hn).C:=(⟨a,b⟩:Ext r)
theorem Fd {d:F.C} (h1:NS d) (h2:NS (d * r)):NS (gQ hr hn d 0):=by
 intro z e;have ea:Ext.a (r:=r) z * Ext.a z + Ext.b z * Ext.b z * r=d:=congrArg (Ext.a (r:=r)) e;have eb:Ext.a (r:=r) z * Ext.b z + Ext.b z * Ext.a z=0:=congrArg (Ext.b (r:=r)) e;generalize Ext.a (r:=r) z=a at *;generalize Ext.b (r:=r) z=b at *;have t:a * b=0:=by
  have:(2:F.C)≠0:=by
   have:=OrderedRing.zero_lt_one (R:=F.C)
   grind
  have q:(2:F.C) * (a * b)=0:=by grind
  rcases nQ q with q | q
  ·exact (this q).elim
  ·exact q
 rcases nQ t with q | q
 ·exact h2 (b * r) (by subst q; grind)
 ·exact h1 a (by subst q; grind)
theorem LC {d:Ext r} (h:Ext.nrm d < 0):NS (F:=aN F r hr hn) d:=by
 intro z e;have:Ext.nrm (r:=r) z * Ext.nrm z=Ext.nrm d:=(Ext.nrm_mul (r:=r) z z).symm.trans (congrArg (Ext.nrm (r:=r)) e);have:=dR (Ext.nrm (r:=r) z)
 grind
theorem Fe {a b:F.C} (ha:0<=a) (hb:0 < b):0 < gQ hr hn a b:=by
 have es:=Ag (gQ hr hn a b);have eb:sgn b=1:=sgn_p.mpr hb;have es':sgn (gQ hr hn a b)=if sgn a=sgn b\/sgn b=0 then sgn a else if sgn a=0 then sgn b else sgn a * sgn (Ext.nrm (⟨a,b⟩:Ext r)):=es
 refine sgn_p.mp ?_;rw [es',eb];rcases lE a with ⟨h,e⟩ | ⟨h,e⟩ | ⟨h,e⟩
 ·rw [e]; rfl
 ·rw [e]; rfl
 ·exfalso; grind
theorem yX {a:F.C} (ha:0 < a):0 < gQ hr hn a 0:=by
 have es:=Ag (gQ hr hn a 0);have ea:sgn a=1:=sgn_p.mpr ha;have e0:sgn (0:F.C)=0:=sgn_0.mpr rfl;have es':sgn (gQ hr hn a 0)=if sgn a=sgn (0:F.C)\/sgn (0:F.C)=0 then sgn a else if sgn a=0 then sgn (0:F.C) else sgn a * sgn (Ext.nrm (⟨a,0⟩:Ext r)):=es
 refine sgn_p.mp ?_;rw [es',ea,e0]; rfl
end
noncomputable def cJ (rs:List (List Int)):Prop:=∃(F:OF) (of:List Int->F.C),Tow rs F of
theorem LK {m r:Int} (hr:0<=r) (h1:r * r < m) (h2:m < (r + 1) * (r + 1)):∃(hp:0 < hd0 [m]) (hn:∀z:ratOF.C,z * z≠hd0 [m]),Tow [[m]] (aN ratOF (hd0 [m]) hp hn) (aY hd0 [m] hp hn):=by
 have hp:0 < hd0 [m]:=by
  have:0 < m:=Int.lt_of_le_of_lt (Int.mul_nonneg hr hr) h1;exact (Rat.intCast_pos.mpr this:(0:Rat) < ((m:Int):Rat))
 exact ⟨hp,HQ hr h1 h2,Tow.cons Tow.nil [m] rfl hp (HQ hr h1 h2)⟩
theorem xP {a b:Int} (h:a < b):((a:Int):Rat) < ((b:Int):Rat):=Rat.intCast_lt_intCast.mpr h
theorem Tt {a b:Int} (h:a<=b):((a:Int):Rat)<=((b:Int):Rat):=Rat.intCast_le_intCast.mpr h
theorem HR (a b:Int):aV [a,b]=[a]:=by simp [aV]
theorem HS (a b:Int):aU [a,b]=[b]:=by simp [aU]
theorem Ah (a b c d:Int):aV [a,b,c,d]=[a,b]:=by simp [aV]
theorem Ai (a b c d:Int):aU [a,b,c,d]=[c,d]:=by simp [aU]
theorem HW {F:OF} {of:List Int->F.C} {r:List Int} {hr:0 < of r} {hn:∀z:F.C,z * z≠of r} {x y z:List Int} (h1:aV x=y) (h2:aU x=z):aY of r hr hn x=gQ hr hn (of y) (of z):=by subst h1 h2; rfl
theorem jq {m:Int} {hp:0 < hd0 [m]} {hn:∀z:ratOF.C,z * z≠hd0 [m]} (a b:Int):aY hd0 [m] hp hn [a,b]=gQ hp hn ((a:Int):Rat) ((b:Int):Rat):=HW (HR a b) (HS a b)
theorem Tu {m r c b e k:Int} (hr:0 < r) (h1:r * r < m) (h2:m < (r + 1) * (r + 1)) (hb:0 < b) (hc0:0<=c) (hc:c<=b * r) (he:0<=e) (hk:e < k):cJ [[m]]/\cJ [[c,b],[m]]/\cJ [[e,0,k,0],[c,b],[m]]:=by
 obtain ⟨hp,hn,T1⟩:=LK (Int.le_of_lt hr) h1 h2;have T1':cJ [[m]]:=⟨_,_,T1⟩;have m1:1 < m:=by
  have:=Int.mul_le_mul (show 1<=r by omega) (show 1<=r by omega) (by decide) (by omega);omega
 have p2:0 < aY (F:=ratOF) hd0 [m] hp hn [c,b]:=by rw [jq]; exact Fe (F:=ratOF) (Tt hc0) (xP hb)
 have n2:Ext.nrm (F:=ratOF) (r:=((m:Int):Rat)) ⟨((c:Int):Rat),((b:Int):Rat)⟩ < (0:Rat):=by
  have q:c * c - b * b * m < 0:=by
   have q1:=Int.mul_le_mul hc hc hc0 (Int.mul_nonneg (Int.le_of_lt hb) (Int.le_of_lt hr));have q2:=Int.mul_lt_mul_of_pos_left h1 (Int.mul_pos hb hb);have e1:b * r * (b * r)=b * b * (r * r):=by grind
   omega
  have:=xP q;rw [show ((c * c - b * b * m:Int):Rat)=((c:Int):Rat) * ((c:Int):Rat) - ((b:Int):Rat) * ((b:Int):Rat) * ((m:Int):Rat) by rw [Rat.intCast_sub,Rat.intCast_mul,Rat.intCast_mul,Rat.intCast_mul]] at this;exact this
 have s2:NS (aY (F:=ratOF) hd0 [m] hp hn [c,b]):=by rw [jq]; exact LC (F:=ratOF) n2
 have T2:=Tow.cons T1 [c,b] rfl p2 s2;refine ⟨T1',⟨_,_,T2⟩,?_⟩;have e4:aV [e,0,k,0]=[e,0]:=Ah ..;have e5:aU [e,0,k,0]=[k,0]:=Ai ..;have pk:0 < aY (F:=ratOF) hd0 [m] hp hn [k,0]:=by
  rw [jq]; exact yX (F:=ratOF) (xP (show 0 < k by omega))
 have pe:0<=aY (F:=ratOF) hd0 [m] hp hn [e,0]:=by
  by_cases z:e=0
  ·subst z;have:aY (F:=ratOF) hd0 [m] hp hn [0,0]=0:=by rw [jq]; exact Ext.eqs (F:=ratOF) rfl rfl
   rw [this]; exact Std.le_refl _
  ·rw [jq]; exact Std.le_of_lt (yX (F:=ratOF) (xP (show 0 < e by omega)))
 have p3:=Fe (F:=aN ratOF _ hp hn) (r:=aY (F:=ratOF) hd0 [m] hp hn [c,b]) (hr:=p2) (hn:=s2) pe pk;have n3:Ext.nrm (F:=aN ratOF _ hp hn) (r:=aY (F:=ratOF) hd0 [m] hp hn [c,b]) ⟨aY (F:=ratOF) hd0 [m] hp hn [e,0],aY (F:=ratOF) hd0 [m] hp hn [k,0]⟩ < 0:=by
  have ne_:aY (F:=ratOF) hd0 [m] hp hn [e,0]=((e:Int):(aN ratOF _ hp hn).C):=xO T1 e;have nk_:aY (F:=ratOF) hd0 [m] hp hn [k,0]=((k:Int):(aN ratOF _ hp hn).C):=xO T1 k;have nm_:aY (F:=ratOF) hd0 [m] hp hn [m,0]=((m:Int):(aN ratOF _ hp hn).C):=xO T1 m;have nc_:aY (F:=ratOF) hd0 [m] hp hn [c,0]=((c:Int):(aN ratOF _ hp hn).C):=xO T1 c;have hs:∃s:(aN ratOF _ hp hn).C,0 < s/\s * s=((m:Int):(aN ratOF _ hp hn).C)/\aY (F:=ratOF) hd0 [m] hp hn [c,b]=((c:Int):(aN ratOF _ hp hn).C) + ((b:Int):(aN ratOF _ hp hn).C) * s:=by
   refine ⟨aY (F:=ratOF) hd0 [m] hp hn [0,1],by rw [jq]; exact Fe (F:=ratOF) (Std.le_refl _) (xP (by decide)),?_,?_⟩
   ·rw [<- nm_,jq,jq];refine Ext.eqs (F:=ratOF) ?_ ?_
    ·show ((0:Int):Rat) * ((0:Int):Rat) + ((1:Int):Rat) * ((1:Int):Rat) * ((m:Int):Rat)=((m:Int):Rat);rw [show ((0:Int):Rat)=0 from rfl,show ((1:Int):Rat)=1 from rfl]; grind
    ·show ((0:Int):Rat) * ((1:Int):Rat) + ((1:Int):Rat) * ((0:Int):Rat)=((0:Int):Rat);rw [show ((0:Int):Rat)=0 from rfl,show ((1:Int):Rat)=1 from rfl]; grind
   ·rw [jq,jq];refine Ext.eqs (F:=ratOF) ?_ ?_
    ·show ((c:Int):Rat)=((c:Int):Rat) + (((b:Int):Rat) * ((0:Int):Rat) + (0:Rat) * ((1:Int):Rat) * ((m:Int):Rat));rw [show ((0:Int):Rat)=0 from rfl]; grind
    ·show ((b:Int):Rat)=(0:Rat) + (((b:Int):Rat) * ((1:Int):Rat) + (0:Rat) * ((0:Int):Rat));rw [show ((0:Int):Rat)=0 from rfl,show ((1:Int):Rat)=1 from rfl]; grind
  obtain ⟨s,sp,ss,hv⟩:=hs;unfold Ext.nrm;dsimp only;rw [ne_,nk_,hv];have cm1:(1:(aN ratOF _ hp hn).C) < ((m:Int):(aN ratOF _ hp hn).C):=by
   have:=pD T1 (k:=m - 1) (by omega);rw [Ring.intCast_sub,Ring.intCast_one] at this; grind
  have cc0:0<=((c:Int):(aN ratOF _ hp hn).C):=by
   by_cases z:c=0
   ·rw [z,Ring.intCast_zero]; exact Std.le_refl _
   ·exact Std.le_of_lt (pD T1 (by omega))
  have ce0:0<=((e:Int):(aN ratOF _ hp hn).C):=by
   by_cases z:e=0
   ·rw [z,Ring.intCast_zero]; exact Std.le_refl _
   ·exact Std.le_of_lt (pD T1 (by omega))
  have cek:((e:Int):(aN ratOF _ hp hn).C) < ((k:Int):(aN ratOF _ hp hn).C):=by
   have:=pD T1 (k:=k - e) (by omega);rw [Ring.intCast_sub] at this; grind
  have cb1:1<=((b:Int):(aN ratOF _ hp hn).C):=by
   by_cases z:b=1
   ·rw [z,Ring.intCast_one]; exact Std.le_refl _
   ·have:=pD T1 (k:=b - 1) (by omega);rw [Ring.intCast_sub,Ring.intCast_one] at this; grind
  generalize ((m:Int):(aN ratOF _ hp hn).C)=M at *;generalize ((c:Int):(aN ratOF _ hp hn).C)=A at *;generalize ((b:Int):(aN ratOF _ hp hn).C)=B at *;generalize ((e:Int):(aN ratOF _ hp hn).C)=E at *;generalize ((k:Int):(aN ratOF _ hp hn).C)=K at *;have s1:1 < s:=by
   by_cases q:1 < s
   ·exact q
   ·have:=lW (a:=1 - s) (b:=1 + s) (by grind) (by grind)
    grind
  have bs:1 < B * s:=by
   have:=lW (a:=B - 1) (b:=s) (by grind) (by grind)
   grind
  have ee:=vI ce0 cek ce0 cek;have kk:=dR K;have q:=lW (a:=K * K) (b:=A + B * s - 1) kk (by grind)
  grind
 have ee:aY (aY hd0 [m] hp hn) [c,b] p2 s2 [e,0,k,0]=gQ p2 s2 (aY hd0 [m] hp hn [e,0]) (aY hd0 [m] hp hn [k,0]):=HW e4 e5;exact ⟨_,_,Tow.cons T2 [e,0,k,0] rfl (by rw [ee]; exact p3) (by rw [ee]; exact LC (F:=aN ratOF _ hp hn) n3)⟩
theorem yZ {p q s:Int} (hp:0 < p) (hq:0 < q) (hs:0 < s) (h:∀n∈[p,q,q * p,s,s * p,s * q,s * q * p],∃r:Int,0<=r/\r * r < n/\n < (r + 1) * (r + 1)):cJ [[p]]/\cJ [[q,0],[p]]/\cJ [[s,0,0,0],[q,0],[p]]:=by
 have ns:∀n∈[p,q,q * p,s,s * p,s * q,s * q * p],NS (F:=ratOF) ((n:Int):Rat):=fun n hn=>by
  obtain ⟨r,a,b,c⟩:=h n hn;exact HQ a b c
 obtain ⟨r,a,b,c⟩:=h p (by simp);obtain ⟨h1,h2,T1⟩:=LK a b c;have p2:0 < aY (F:=ratOF) hd0 [p] h1 h2 [q,0]:=by rw [jq]; exact yX (F:=ratOF) (xP hq)
 have n2:NS (aY (F:=ratOF) hd0 [p] h1 h2 [q,0]):=by
  rw [jq];exact Fd (F:=ratOF) (ns q (by simp)) (by
  have:=ns (q * p) (by simp);rw [Rat.intCast_mul] at this; exact this)
 have T2:=Tow.cons T1 [q,0] rfl p2 n2;refine ⟨⟨_,_,T1⟩,⟨_,_,T2⟩,?_⟩;have zz:aY (F:=ratOF) hd0 [p] h1 h2 [0,0]=0:=by rw [jq]; exact Ext.eqs (F:=ratOF) rfl rfl
 have p3:=yX (F:=aN ratOF _ h1 h2) (r:=aY (F:=ratOF) hd0 [p] h1 h2 [q,0]) (hr:=p2) (hn:=n2) (a:=aY (F:=ratOF) hd0 [p] h1 h2 [s,0]) (by rw [jq]; exact yX (F:=ratOF) (xP hs));have a1:NS (aY (F:=ratOF) hd0 [p] h1 h2 [s,0]):=by
  rw [jq];exact Fd (F:=ratOF) (ns s (by simp)) (by
  have:=ns (s * p) (by simp);rw [Rat.intCast_mul] at this; exact this)
 have a2:NS (aY (F:=ratOF) hd0 [p] h1 h2 [s,0] * aY (F:=ratOF) hd0 [p] h1 h2 [q,0]):=by
  have e:aY (F:=ratOF) hd0 [p] h1 h2 [s,0] * aY (F:=ratOF) hd0 [p] h1 h2 [q,0]=aY (F:=ratOF) hd0 [p] h1 h2 [s * q,0]:=by
   rw [jq,jq,jq];refine Ext.eqs (F:=ratOF) ?_ ?_
   ·show ((s:Int):Rat) * ((q:Int):Rat) + ((0:Int):Rat) * ((0:Int):Rat) * ((p:Int):Rat)=(((s * q:Int)):Rat);rw [Rat.intCast_mul,show ((0:Int):Rat)=0 from rfl]; grind
   ·show ((s:Int):Rat) * ((0:Int):Rat) + ((0:Int):Rat) * ((q:Int):Rat)=((0:Int):Rat);rw [show ((0:Int):Rat)=0 from rfl]; grind
  rw [e,jq];exact Fd (F:=ratOF) (ns (s * q) (by simp)) (by
   have:=ns (s * q * p) (by simp);rw [Rat.intCast_mul] at this; exact this)
 have n3:=Fd (F:=aN ratOF _ h1 h2) (r:=aY (F:=ratOF) hd0 [p] h1 h2 [q,0]) (hr:=p2) (hn:=n2) a1 a2;have ee:aY (F:=aN ratOF _ h1 h2) (aY (F:=ratOF) hd0 [p] h1 h2) [q,0] p2 n2 [s,0,0,0]=gQ p2 n2 (aY (F:=ratOF) hd0 [p] h1 h2 [s,0]) 0:=(HW (Ah s 0 0 0) (Ai s 0 0 0)).trans (by rw [zz]);exact ⟨_,_,Tow.cons T2 [s,0,0,0] rfl (by rw [ee]; exact p3) (by rw [ee]; exact n3)⟩
end Mine
namespace DL
open PySem PySem.Spec PyProof.Rows L2
end DL
local macro_rules
 | `(tactic| push_cast [$xs,*]) => `(tactic| simp only [DL.ap_seq, DL.sq_nxt, DL.sq_ret, DL.sq_err, DL.ap_set, DL.on_ok, DL.on_err, DL.ont_ok, DL.onl_ok, DL.ap_if, DL.ap_two, DL.ap_bF, DL.ap_bT, DL.ap_bL, DL.ap_cons, DL.ap_tup, DL.ap_lst, DL.ap_ret, DL.ap_expr, DL.ap_neg, DL.neg_ok, DL.ap_notT, DL.ap_andT, DL.ap_orT, DL.ap_andV, DL.ap_ifD, DL.ap_for, DL.ap_slice, DL.ap_part, DL.ap_noPart, DL.part_int, DL.out_ret, DL.out_err, DL.cmp_ok, DL.add_ok, DL.sub_ok, DL.bool_ok, DL.truth_bl, DL.abs_ok, DL.len_tup, DL.len_lst, DL.tuple_lst, DL.seq_tup, DL.seq_lst, DL.vw_val, DL.vw_arg, DL.eqI, DL.neI, DL.bnd_ok, DL.mulE_i, DL.sl0, DL.st0, DL.sl1, DL.st1, DL.sl2, DL.st2, DL.sl3, DL.st3, DL.sl4, DL.st4, DL.sl5, DL.st5, DL.sl6, DL.st6, DL.sl7, DL.st7, DL.sl8, DL.st8, DL.sl9, DL.st9, DL.sl10, DL.st10, DL.sl11, DL.st11, DL.tup1, DL.lst1, DL.tup2, DL.lst2, DL.tup3, DL.lst3, DL.tup4, DL.lst4, DL.lst5, DL.lst6, DL.ix_tup0, DL.ix_lst0, DL.ix_tup1, DL.ix_lst1, DL.ix_tup2, DL.ix_lst2, DL.ix_lst3, ↓reduceIte, decide_true, decide_false, Bool.not_true, Bool.not_false, Bool.false_eq_true, Int.reduceEq, Int.reduceNe, Int.reduceLT, Int.reduceLE, Nat.reduceAdd, DL.cN0, DL.cN1, DL.cN2, length_cons, length_nil, $xs,*])
namespace Mine
open PySem DL L2
open Lean.Grind
section
variable {F:OF} {r:F.C} {hr:0 < r} {hn:∀z:F.C,z * z≠r}
end
section
variable {rs:List (List Int)} {F:OF} {of:List Int->F.C}
end
end Mine
set_option maxHeartbeats 4000000
open DL in
local macro_rules
 | `(‹$n:num›) => `(fun _=>Res.ok (D.int $n))
 | `(‹""›) => `(fun _=>Res.ok [])
 | `(‹"0"›) => `(⟨rfl,rfl,rfl,by decide +kernel,rfl,by decide +kernel,by decide +kernel⟩)
 | `(‹"1"›) => `(by decide +kernel)
open PySem PySem.Spec PyProof.Rows L2 DL in
local macro_rules
 | `(‹"a"›) => `(aj (ak 1) ‹""›)
 | `(‹"t"›) => `(two (ak 0) ‹0› bA)
 | `(‹"b"›) => `(aj ‹"t"› ‹""›)
 | `(‹"c"›) => `(aq (aj (ak 0) ‹""›) bI)
 | `(‹"q"›) => `(two (ak 0) ‹1› bA)
 | `(‹"d"›) => `(aj ‹"q"› ‹""›)
 | `(‹"e"›) => `(two (ak 1) ‹0› bA)
 | `(‹"f"›) => `(aj (ak 0) ‹"a"›)
 | `(‹"g"›) => `(two (two (two (ak 0) ‹5› bH) (two (two ‹2› (two ‹10› ‹20› nF) bK) ‹1› a_) bR) (two ‹10› ‹20› nF) fZ)
 | `(‹"h"›) => `(two (ak 1) ‹1› bA)
 | `(‹"v"›) => `(two (ak 4) ‹0› bA)
 | `(‹"i"›) => `(aZ (aj (two (aZ (aj ‹1› ‹""›)) (bj ‹"v"› (bL ‹1›) bu) a_) (aj ‹1› ‹""›)))
 | `(‹"j"›) => `(two (ak 3) ‹0› bA)
 | `(‹"x"›) => `(bindL (ak 0) aM)
 | `(‹"k"›) => `(aZ (aj (aq (aj (aO 1 [2] (bF 0) (two (ak 0) (ak 1) bH) ‹"x"›) ‹""›) bY) (aj (two (ak 1) (ak 2) bH) ‹""›)))
 | `(‹"K"›) => `(aj (ak 2) ‹""›)
 | `(‹"l"›) => `(aj (ak 0) (aj (ak 1) ‹"K"›))
 | `(‹"m"›) => `(bj (ak 0) bu (bL (gF ‹1›)))
 | `(‹"n"›) => `(aj (ak 3) ‹""›)
 | `(‹"o"›) => `(jx (aj ‹1› (aj ‹2› (aj ‹4› (aj ‹8› ‹""›)))))
 | `(‹"p"›) => `(j5 fun i j=>decide (i < j))
 | `(‹"r"›) => `(two (jx (aj ‹0› (aj ‹1› (aj ‹3› ‹""›)))) (ak 0) bA)
 | `(‹"Z"›) => `(two (ak 2) ‹0› bA)
 | `(‹"s"›) => `(aj (ak 0) (aj ‹"e"› (aj ‹"Z"› ‹""›)))
 | `(‹"u"›) => `(jZ (aF (two ‹"j"› (ak 4) cV) aJ) (aF (two (two (ak 3) ‹1› bA) (ak 4) cV) aJ))
 | `(‹"W"›) => `(bj ‹"j"› (bL ‹1›) bu)
 | `(‹"w"›) => `(aG 3 (aZ (aj (two (aZ (aj ‹3› ‹""›)) (aq (aj (aO 1 [] (bF 0) ‹0› (bindL ‹"W"› aM)) ‹""›) bY) a_) (aj ‹1› ‹""›))))
 | `(‹"y"›) => `(aj (ak 2) (aj (two (ak 3) (ak 0) a_) ‹""›))
 | `(‹"z"›) => `(aj (ak 6) ‹""›)
 | `(‹"A"›) => `(j5 fun i j=>decide (j < i))
 | `(‹"B"›) => `(aj (ak 2) (aj (ak 5) (aj (ak 4) ‹""›)))
 | `(‹"C"›) => `(two (ak 2) ‹1› bA)
 | `(‹"D"›) => `(two (ak 6) ‹0› bA)
 | `(‹"E"›) => `(aj ‹"e"› ‹""›)
 | `(‹"F"›) => `(aj (ak 5) ‹""›)
 | `(‹"G"›) => `(aj (ak 7) ‹""›)
 | `(‹"H"›) => `(bindL (bj (ak 2) (bL ‹1›) bu) aM)
 | `(‹"I"›) => `(aj ‹"j"› ‹""›)
 | `(‹"J"›) => `(aF (two (ak 7) (fun _=>.ok .non) bW) aJ)
 | `(‹"L"›) => `(cX (aj (two (ak 1) (aq ‹"b"› bI) fZ) ‹""›) jw)
 | `(‹"M"›) => `(two (ak 0) (gF ‹1›) bA)
 | `(‹"N"›) => `(aj ‹"c"› ‹""›)
 | `(‹"O"›) => `(aH (aq (aj (aO 2 [] (cW [0,1]) (two (ak 0) (ak 1) a_) (cX ‹"f"› nP)) ‹""›) bY))
 | `(‹"P"›) => `(aj (ak 0) (aj (ak 4) (aj (ak 4) ‹""›)))
 | `(‹"Q"›) => `(aj ‹"D"› (aj (two (ak 6) ‹1› bA) ‹""›))
 | `(‹"R"›) => `(aj (ak 1) (aj (ak 0) (aj ‹9› ‹""›)))
 | `(‹"S"›) => `(cX (aj (two ‹"o"› (ak 1) bA) ‹""›) jw)
 | `(‹"T"›) => `(aj (ak 0) (aj ‹2› ‹"a"›))
 | `(‹"U"›) => `(aj (ak 0) (aj ‹8› ‹""›))
 | `(‹"V"›) => `(aF (two ‹"c"› ‹0› cV) aJ)
 | `(‹"X"›) => `(aj (ak 4) (aj (ak 0) (aj (aZ (aj ‹0› (aj ‹1› ‹""›))) ‹""›)))
 | `(‹"Y"›) => `(aj (ak 2) ‹"n"›)
namespace Bk
open PySem PySem.Spec PyProof.Rows L2 DL
noncomputable def is_int:D->Option Bool
 | .non=>some false
 | .bl _=>some true
 | .int _=>some true
 | .str _=>some false
 | .tup _=>some false
 | .lst _=>some false
 | .dct=>some false
 | _=>none
noncomputable def is_bool:D->Option Bool
 | .non=>some false
 | .bl _=>some true
 | .int _=>some false
 | .str _=>some false
 | .tup _=>some false
 | .lst _=>some false
 | .dct=>some false
 | _=>none
noncomputable def is_tuple:D->Option Bool
 | .non=>some false
 | .bl _=>some false
 | .int _=>some false
 | .str _=>some false
 | .tup _=>some true
 | .lst _=>some false
 | .dct=>some false
 | _=>none
noncomputable def is_list:D->Option Bool
 | .non=>some false
 | .bl _=>some false
 | .int _=>some false
 | .str _=>some false
 | .tup _=>some false
 | .lst _=>some true
 | .dct=>some false
 | _=>none
noncomputable def qU (i:Nat) (δ:DS):Nat:=match δ[i]? with
 | some (some sv)=>(match sv.view with | .int i=>i.natAbs + 1 | _=>0)
 | _=>0
noncomputable def i_:DS->Nat:=qU 3
noncomputable def lY:DS->Out :=
 (aD (aG 2 (aq (aj (ak 0) ‹""›) lM)) (aD (aG 3 (aq ‹"a"› lM)) (aD (iW i_ (aF (two (ak 3) ‹0› iK) aJ) (aD (aG 4 (two (ak 2) (ak 3) bR)) (aD (aG 2 (ak 3)) (aG 3 (ak 4))))) (aH (ak 2)))))
noncomputable def lZ:List D->Res D:=bG 2 5 lY
noncomputable def gR:DS->Out :=
 (aH (aZ (aj (two ‹"t"› (two (aZ (aj ‹0› ‹""›)) (two (two ‹1› (ak 1) jt) (aq ‹"b"› bI) fZ) bK) a_) ‹"d"›)))
noncomputable def cN:List D->Res D:=bG 2 2 gR
noncomputable def qW:DS->Out :=
 (aH (aq (aj (aO 1 [] (bF 0) (two (ak 0) ‹0› cV) ‹"x"›) ‹""›) iG))
noncomputable def vM:List D->Res D:=bG 1 1 qW
noncomputable def qX:DS->Out :=
 (aH (bj (ak 0) bu (bL (two ‹"c"› ‹2› bH))))
noncomputable def km:List D->Res D:=bG 1 1 qX
noncomputable def qY:DS->Out :=
 (aH (bj (ak 0) (bL (two ‹"c"› ‹2› bH)) bu))
noncomputable def kE:List D->Res D:=bG 1 1 qY
noncomputable def qZ:DS->Out :=
 (aH (aq (aj (aO 1 [] (bF 0) (gF (ak 0)) ‹"x"›) ‹""›) bY))
noncomputable def qi:List D->Res D:=bG 1 1 qZ
noncomputable def q_:DS->Out :=
 (aD (bZ (aF (two (ak 1) ‹"c"› ‹"p"›) aJ) (aH (two (ak 0) (ak 1) bA)) Out.nxt) (aH ‹0›))
noncomputable def eZ:List D->Res D:=bG 2 2 q_
noncomputable def xQ:DS->Out :=
 (aH (pW (aq (ak 0) (iM Bk.is_int)) (xj (aq (ak 0) (iM Bk.is_bool)))))
noncomputable def l_:List D->Res D:=bG 1 1 xQ
noncomputable def jL:DS->Nat:=qU 1
noncomputable def rm:DS->Out :=
 (aD (iW jL (aF (two (ak 1) ‹0› iK) aJ) (aD (aG 2 (two (ak 0) (ak 1) bR)) (aD (aG 0 (ak 1)) (aG 1 (ak 2))))) (aH (aq (aj (ak 0) ‹""›) lM)))
noncomputable def nW:List D->Res D:=bG 2 3 rm
noncomputable def rn:DS->Out :=
 ‹"O"›
noncomputable def nY:List D->Res D:=bG 2 2 rn
noncomputable def rA:DS->Out :=
 (aH (aq (aj (aO 1 [0] (bF 0) (two (ak 1) (ak 0) bK) (bindL (ak 1) aM)) ‹""›) bY))
noncomputable def fM:List D->Res D:=bG 2 2 rA
noncomputable def mj:DS->Out :=
 (aD (bZ (aF (two (ak 1) ‹0› cV) aJ) (gA "NoOver" (aj (fun _=>.ok (.str "no number has the bottom nought")) ‹""›)) Out.nxt) (aD (aG 2 (ak 1)) (aD (lN (bF 3) ‹"x"› (aG 2 (aq ‹"Y"› lZ))) (aD (bZ (aF (two (ak 1) ‹0› ‹"p"›) aJ) (aG 2 (gF (ak 2))) Out.nxt) (aH ‹"k"›)))))
noncomputable def du:List D->Res D:=bG 2 4 mj
noncomputable def rB:DS->Out :=
 (aH (aZ (aj (aq ‹"b"› qi) ‹"d"›)))
noncomputable def jb:List D->Res D:=bG 1 1 rB
noncomputable def rC:DS->Out :=
 (aD (bZ (jJ (dI (aF (aq (ak 0) (iM Bk.is_tuple)) bf)) (jJ (aF (two ‹"c"› ‹2› iK) aJ) (dI (aF (aq ‹"t"› (iM Bk.is_tuple)) bf)))) (aH (fun _=>.ok (.bl false))) Out.nxt) (aD (bZ (jJ (aF (two (aq ‹"b"› bI) (ak 1) iK) aJ) (jJ (dI (aF (aq ‹"d"› l_) bf)) (aF (two ‹"q"› ‹1› ‹"p"›) aJ))) (aH (fun _=>.ok (.bl false))) Out.nxt) (aD (aG 2 ‹"q"›) (aD (lN (bF 3) (bindL ‹"t"› aM) (aD (bZ (dI (aF (aq ‹"n"› l_) bf)) (aH (fun _=>.ok (.bl false))) Out.nxt) (aG 2 (aq ‹"Y"› nW)))) (aH (two (ak 2) ‹1› cV))))))
noncomputable def kI:List D->Res D:=bG 2 4 rC
noncomputable def rE:DS->Out :=
 (aH (aZ (aj (aq (aj (aq (aj ‹"h"› ‹"b"›) fM) (aj (aq (aj ‹"q"› ‹"E"›) fM) ‹""›)) nY) (aj (two ‹"q"› ‹"h"› bK) ‹""›))))
noncomputable def jc:List D->Res D:=bG 2 2 rE
noncomputable def mq:DS->Out :=
 (aD (aG 2 (aO 2 [1,0] (cW [0,1]) (two (two (ak 0) ‹"C"› bK) (two (ak 1) (two (ak 3) ‹1› bA) bK) a_) (cX (aj ‹"t"› ‹"E"›) nP))) (aH (aq (aj (aq ‹"K"› bY) (aj (two ‹"q"› ‹"h"› bK) ‹""›)) du)))
noncomputable def cZ:List D->Res D:=bG 2 3 mq
noncomputable def my:DS->Out :=
 (aH (aZ (aj (aq (aj (aq ‹"b"› km) ‹"d"›) du) (aj (aq (aj (aq ‹"b"› kE) ‹"d"›) du) ‹""›))))
noncomputable def jM:List D->Res D:=bG 1 1 my
noncomputable def rF:DS->Out :=
 (aH (aq (aj (ak 0) (aj (aZ (aj (aq (aj (gF ‹1›) ‹"E"›) fM) (aj ‹"h"› ‹""›))) ‹""›)) jc))
noncomputable def iI:List D->Res D:=bG 2 2 rF
noncomputable def mz:DS->Out :=
 (aH (aq (aj (ak 0) (aj (aq ‹"a"› jb) ‹""›)) cZ))
noncomputable def iz:List D->Res D:=bG 2 2 mz
noncomputable def rG:DS->Out :=
 ‹"O"›
noncomputable def qj:List D->Res D:=bG 2 2 rG
noncomputable def rH:DS->Out :=
 (aD (aG 3 (jx (aj ‹271828183› (aj ‹314159269› (aj ‹161803399› (aj ‹141421357› (aj ‹173205081› ‹""›))))))) (aD (aG 3 (two (ak 3) (jx (aj ‹223606797› (aj ‹244948975› (aj ‹264575131› (aj ‹331662479› (aj ‹360555127› ‹""›)))))) a_)) (aH (two (two (two (two (ak 0) ‹1› a_) (two (ak 3) (ak 1) bA) bK) ‹1000000007› bR) (ak 2) bR))))
noncomputable def cQ:List D->Res D:=bG 3 4 rH
noncomputable def nZ:DS->Out :=
 (aD (aG 2 (two ‹1› (aq (aj (ak 0) (aj ‹0› (aj ‹6› ‹""›))) cQ) a_)) (aD (aG 3 (two (two (two (ak 2) (ak 2) bK) ‹1› a_) (aq (aj (ak 0) (aj ‹1› (aj (two ‹2› (ak 2) bK) ‹""›))) cQ) a_)) (aD (aG 4 (two ‹1› (aq (aj (ak 0) (aj ‹2› (aj ‹3› ‹""›))) cQ) a_)) (aD (aG 5 (two ‹1› (aq (aj (ak 0) (aj ‹3› (aj ‹3› ‹""›))) cQ) a_)) (aD (aG 6 (aZ (aj (aZ ‹"n"›) (aj (aZ (aj (aq (aj (ak 0) (aj ‹4› (aj (two (two (ak 4) (ak 2) bK) ‹1› a_) ‹""›))) cQ) (aj (ak 4) ‹""›))) (aj (aZ (aj (aq (aj (ak 0) (aj ‹5› ‹"F"›)) cQ) (aj ‹0› (aj (ak 5) (aj ‹0› ‹""›))))) ‹""›))))) (aD (bZ (aF (two (aq (aj (ak 0) (aj ‹6› (aj ‹3› ‹""›))) cQ) ‹0› cV) aJ) (aD (aG 7 (jx (aj ‹2› (aj ‹3› (aj ‹5› (aj ‹7› (aj ‹11› (aj ‹13› ‹""›)))))))) (aD (aG 8 (aq (aj (ak 0) (aj ‹7› (aj ‹6› ‹""›))) cQ)) (aG 6 (aZ (aj (aZ (aj (two (ak 7) (ak 8) bA) ‹""›)) (aj (aZ (aj (two (ak 7) (two (two (ak 8) ‹1› a_) ‹6› bR) bA) (aj ‹0› ‹""›))) (aj (aZ (aj (two (ak 7) (two (two (ak 8) ‹2› a_) ‹6› bR) bA) (aj ‹0› (aj ‹0› (aj ‹0› ‹""›))))) ‹""›))))))) Out.nxt) (aH (bj (ak 6) bu (bL (ak 1))))))))))
noncomputable def rJ:List D->Res D:=bG 2 9 nZ
noncomputable def mD (R:List D->Res D):DS->Out :=
 (aD (bZ ‹"V"› (aH (aZ (aj (two ‹"e"› ‹"Z"› bK) ‹""›))) Out.nxt) (aD (aG 3 ‹"m"›) (aD (aG 4 (aq ‹"a"› km)) (aD (aG 5 (aq ‹"a"› kE)) (aD (aG 6 (aq ‹"K"› km)) (aD (aG 7 (aq ‹"K"› kE)) (aD (aG 8 (aq (aj (ak 3) (aj (aq (aj (ak 3) (aj (ak 5) ‹"G"›)) R) (aj ‹"M"› ‹""›))) R)) (aD (aG 9 (aq (aj (aq (aj (ak 3) (aj (ak 4) ‹"z"›)) R) (aj (ak 8) ‹""›)) qj)) (aD (aG 10 (aq (aj (aq (aj (ak 3) (aj (ak 4) ‹"G"›)) R) (aj (aq (aj (ak 3) (aj (ak 5) ‹"z"›)) R) ‹""›)) qj)) (aH (two (ak 9) (ak 10) a_)))))))))))
noncomputable def jN:Nat->List D->Res D
 | 0=>fun _=>.stuck
 | n + 1=>bG 3 11 (mD (jN n))
noncomputable def jA:List D->Res D:=jN 4
noncomputable def mF (R:List D->Res D):DS->Out :=
 (aD (bZ (aF (two (aq ‹"a"› bI) ‹1› cV) aJ) (aH (aZ (aj (two ‹"e"› ‹"Z"› bK) ‹""›))) Out.nxt) (aD (aG 3 (two (aq ‹"a"› bI) ‹2› bH)) (aD (aG 4 ‹"m"›) (aD (aG 5 (aq (aj (ak 4) (aj (bj (ak 1) (bL (ak 3)) bu) (aj (bj (ak 2) (bL (ak 3)) bu) ‹""›))) R)) (aD (aG 6 (aq (aj (aq (aj (ak 4) (aj (bj (ak 1) bu (bL (ak 3))) (aj (bj (ak 2) bu (bL (ak 3))) ‹""›))) R) (aj (aq (aj (ak 4) (aj ‹"M"› ‹"F"›)) R) ‹""›)) nY)) (aD (aG 7 (aq (aj (ak 4) (aj (bj (ak 1) bu (bL (ak 3))) (aj (bj (ak 2) (bL (ak 3)) bu) ‹""›))) R)) (aH (two (ak 6) (aq (aj (ak 7) (aj (aq (aj (ak 4) (aj (bj (ak 1) (bL (ak 3)) bu) (aj (bj (ak 2) bu (bL (ak 3))) ‹""›))) R) ‹""›)) nY) a_))))))))
noncomputable def jO:Nat->List D->Res D
 | 0=>fun _=>.stuck
 | n + 1=>bG 3 8 (mF (jO n))
noncomputable def jB:List D->Res D:=jO 4
noncomputable def mG:DS->Out :=
 (aH (aq (aj (aq ‹"s"› jA) (aj (two ‹"h"› ‹"C"› bK) ‹""›)) du))
noncomputable def cO:List D->Res D:=bG 3 3 mG
noncomputable def rK:DS->Out :=
 (aH (aZ (aj (aq ‹"s"› jB) (aj (two ‹"h"› ‹"C"› bK) ‹""›))))
noncomputable def fO:List D->Res D:=bG 3 3 rK
noncomputable def mH:DS->Out :=
 (aH (aZ (aj (two (aq ‹"b"› km) (aq (aj (aq ‹"b"› kE) ‹""›) qi) a_) ‹"d"›)))
noncomputable def pF:List D->Res D:=bG 1 1 mH
noncomputable def rM:DS->Out :=
 (aD (aG 2 ‹"m"›) (aD (aG 3 (aq ‹"a"› km)) (aD (aG 4 (aq ‹"a"› kE)) (aD (aG 5 (aq (aj (ak 2) (aj (aq (aj (ak 2) (aj (ak 4) (aj (ak 4) ‹""›))) jA) (aj ‹"M"› ‹""›))) jA)) (aH (aq (aj (aq (aj (ak 2) (aj (ak 3) ‹"n"›)) jA) (aj (aq ‹"F"› qi) ‹""›)) qj))))))
noncomputable def rN:List D->Res D:=bG 2 6 rM
noncomputable def mJ:DS->Out :=
 (aH (aq (aj (aq (aj (ak 0) ‹"E"›) rN) (aj (two ‹"h"› ‹"h"› bK) ‹""›)) du))
noncomputable def jd:List D->Res D:=bG 2 2 mJ
noncomputable def rO:DS->Out :=
 (aH (aq ‹"b"› vM))
noncomputable def gJ:List D->Res D:=bG 1 1 rO
noncomputable def jC (R:List D->Res D):DS->Out :=
 (aD (bZ ‹"V"› (aH (aq (aj (aZ (aj ‹"h"› ‹""›)) (aj (two ‹"e"› ‹0› bA) ‹""›)) du)) Out.nxt) (aD (aG 2 (aq (aj ‹"m"› (aj (aq ‹"f"› jd) ‹""›)) R)) (aH (aq (aj (ak 0) (aj (aq ‹"a"› pF) (aj (aq (aj (ak 2) ‹"N"›) cN) ‹""›))) cO))))
noncomputable def je:Nat->List D->Res D
 | 0=>fun _=>.stuck
 | n + 1=>bG 2 3 (jC (je n))
noncomputable def rP:List D->Res D:=je 4
noncomputable def jf:DS->Out :=
 (aD (bZ (aF (aq ‹"K"› gJ) bf) (gA "NoOver" (aj (fun _=>.ok (.str "no number is told over nought")) ‹""›)) Out.nxt) (aH (aq (aj (ak 0) (aj (ak 1) (aj (aq (aj (ak 0) ‹"K"›) rP) ‹""›))) cO)))
noncomputable def dC:List D->Res D:=bG 3 3 jf
noncomputable def rQ:DS->Out :=
 (aD (bZ (aF (two (ak 0) ‹0› cV) aJ) (aH ‹0›) Out.nxt) (aH (yL (aF (two (ak 0) ‹0› ‹"A"›) aJ) ‹1› (gF ‹1›))))
noncomputable def vN:List D->Res D:=bG 1 1 rQ
noncomputable def mK (R:List D->Res D):DS->Out :=
 (aD (bZ ‹"V"› (aH (aq ‹"E"› vN)) Out.nxt) (aD (aG 2 ‹"m"›) (aD (aG 3 (aq (aj (ak 2) (aj (aq ‹"a"› km) ‹""›)) R)) (aD (aG 4 (aq (aj (ak 2) (aj (aq ‹"a"› kE) ‹""›)) R)) (aD (bZ (jJ (aF (two (ak 3) (ak 4) cV) aJ) (aF (two (ak 4) ‹0› cV) aJ)) (aH (ak 3)) Out.nxt) (aD (bZ (aF (two (ak 3) ‹0› cV) aJ) (aH (ak 4)) Out.nxt) (aH (two (ak 3) (aq (aj (ak 2) (aj (aq ‹"f"› rN) ‹""›)) R) bK))))))))
noncomputable def jP:Nat->List D->Res D
 | 0=>fun _=>.stuck
 | n + 1=>bG 2 5 (mK (jP n))
noncomputable def vO:List D->Res D:=jP 4
noncomputable def mL:DS->Out :=
 (aH (aq (aj (ak 0) ‹"E"›) vO))
noncomputable def fP:List D->Res D:=bG 2 2 mL
noncomputable def jQ:DS->Out :=
 (aH (yL (aF (two (aq ‹"f"› fP) ‹0› ‹"p"›) aJ) (aq ‹"a"› jb) (ak 1)))
noncomputable def jg:List D->Res D:=bG 2 2 jQ
noncomputable def jD (R:List D->Res D):DS->Out :=
 (aD (bZ (aF (two (aq ‹"a"› bI) ‹1› cV) aJ) (aH (two (aq (aj (two ‹"e"› ‹0› ‹"A"›) ‹""›) nM) (aq (aj (two ‹"e"› ‹0› ‹"p"›) ‹""›) nM) fZ)) Out.nxt) (aD (aG 2 (two (aq ‹"a"› bI) ‹2› bH)) (aD (aG 3 ‹"m"›) (aD (aG 4 (aq (aj (ak 3) (aj (bj (ak 1) bu (bL (ak 2))) ‹""›)) R)) (aD (aG 5 (aq (aj (ak 3) (aj (bj (ak 1) (bL (ak 2)) bu) ‹""›)) R)) (aD (bZ (jJ (aF (two (ak 4) (ak 5) cV) aJ) (aF (two (ak 5) ‹0› cV) aJ)) (aH (ak 4)) Out.nxt) (aD (bZ (aF (two (ak 4) ‹0› cV) aJ) (aH (ak 5)) Out.nxt) (aD (aG 6 (aq (aj (ak 3) (aj (bj (ak 1) (bL (ak 2)) bu) (aj (bj (ak 1) (bL (ak 2)) bu) ‹""›))) jB)) (aD (aG 7 (aq (aj (gF ‹1›) (aj (aq (aj (ak 3) (aj ‹"M"› ‹"z"›)) jB) ‹""›)) fM)) (aH (two (ak 4) (aq (aj (ak 3) (aj (aq (aj (aq (aj (ak 3) (aj (bj (ak 1) bu (bL (ak 2))) (aj (bj (ak 1) bu (bL (ak 2))) ‹""›))) jB) ‹"G"›) nY) ‹""›)) R) bK)))))))))))
noncomputable def jh:Nat->List D->Res D
 | 0=>fun _=>.stuck
 | n + 1=>bG 2 8 (jD (jh n))
noncomputable def dF:List D->Res D:=jh 4
noncomputable def fY:DS->Nat:=qU 1
noncomputable def rR:DS->Out :=
 (aD (bZ (aF (two (ak 0) ‹0› ‹"p"›) aJ) (gA "Below" (aj (fun _=>.ok (.str "a number below nought has no whole root")) ‹""›)) Out.nxt) (aD (aG 1 (two ‹1› (two (two (aq (ak 0) (fun d=>iV d [])) ‹1› a_) ‹2› bH) jt)) (aD (iW fY (aF (two (two (ak 1) (ak 1) bK) (ak 0) ‹"A"›) aJ) (aG 1 (two (two (ak 1) (two (ak 0) (ak 1) bH) a_) ‹2› bH))) (aH (ak 1)))))
noncomputable def vP:List D->Res D:=bG 1 2 rR
end Bk
set_option exponentiation.threshold 300000
namespace Bk
open PySem PySem.Spec PyProof.Rows L2 DL Mine
theorem LQ (i:Int):l_ [.int i]=.ok (.bl true):=rfl
noncomputable def cell (ns:List Int) (k:Nat):Int:=ns.getD k 0
theorem Aj (ns:List Int) (k:Nat):eZ [.lst (ns.map .int),.int k]=.ok (.int (cell ns k)):=by
 show outD (q_ [some (.arg (.lst (ns.map .int))),some (.arg (.int k))])=_;unfold q_ cell;push_cast [length_map]
 by_cases h:k < ns.length
 ·have h':((k:Int) < (ns.length:Int)):=by omega
  have hz:(ns.map D.int)[k]? = some (.int ns[k]):=by simp [h]
  simp only [h',decide_true,↓reduceIte,sq_ret,out_ret,yP _ k _ hz,on_ok];simp [h]
 ·have h':¬((k:Int) < (ns.length:Int)):=by omega
  have hz:ns[k]? = none:=List.getElem?_eq_none (by omega);simp only [h',decide_false,Bool.false_eq_true,↓reduceIte,sq_nxt,on_ok,out_ret];simp [hz];rfl
abbrev Ff:DS->Res Bool:=aF (two (ak 1) ‹0› iK) aJ
abbrev Fg:DS->Out:=aD (aG 2 (two (ak 0) (ak 1) bR)) (aD (aG 0 (ak 1)) (aG 1 (ak 2)))
theorem LR:∀(n:Nat) (s0 s1:SV) (z:Option SV) (x y:Int),s0.view=.int x->s1.view=.int y->y.natAbs < n ->
  ∃s0' s1' z' g,bJ Ff Fg n [some s0,some s1,z]=.nxt [some s0',s1',z']/\s0'.view=.int g/\g.natAbs=Int.gcd x y
 | 0,_,_,_,_,_,_,_,h=>absurd h (Nat.not_lt_zero _)
 | n + 1,s0,s1,z,x,y,h0,h1,h=>by
  rw [bJ];have e:Ff [some s0,some s1,z]=.ok (!decide (y=0)):=by
   simp only [Ff,ap_seq,sq_nxt,sq_ret,sq_err,ap_set,on_ok,on_err,ont_ok,onl_ok,ap_if,ap_two,ap_bF,ap_bT,ap_bL,ap_cons,ap_tup,ap_lst,ap_ret,ap_expr,ap_neg,neg_ok,ap_notT,ap_andT,ap_orT,ap_andV,ap_ifD,ap_for,ap_slice,ap_part,ap_noPart,part_int,out_ret,out_err,cmp_ok,add_ok,sub_ok,bool_ok,truth_bl,abs_ok,len_tup,len_lst,tuple_lst,seq_tup,seq_lst,vw_val,vw_arg,eqI,neI,bnd_ok,mulE_i,sl0,st0,sl1,st1,sl2,st2,sl3,st3,sl4,st4,sl5,st5,sl6,st6,sl7,st7,sl8,st8,sl9,st9,sl10,st10,sl11,st11,tup1,lst1,tup2,lst2,tup3,lst3,tup4,lst4,lst5,lst6,ix_tup0,ix_lst0,ix_tup1,ix_lst1,ix_tup2,ix_lst2,ix_lst3,↓reduceIte,decide_true,decide_false,Bool.not_true,Bool.not_false,Bool.false_eq_true,Int.reduceEq,Int.reduceNe,Int.reduceLT,Int.reduceLE,Nat.reduceAdd,cN0,cN1,cN2,length_cons,length_nil,h1]
  rw [e]
  by_cases c:y=0
  ·subst c;exact ⟨s0,some s1,z,x,rfl,h0,by simp⟩
  ·simp only [c,decide_false,Bool.not_false];have e2:Fg [some s0,some s1,z]=.nxt [some (.val (.int y)),some (.val (.int (Int.fmod x y))),some (.val (.int (Int.fmod x y)))]:=by
    simp only [Fg,ap_seq,sq_nxt,sq_ret,sq_err,ap_set,on_ok,on_err,ont_ok,onl_ok,ap_if,ap_two,ap_bF,ap_bT,ap_bL,ap_cons,ap_tup,ap_lst,ap_ret,ap_expr,ap_neg,neg_ok,ap_notT,ap_andT,ap_orT,ap_andV,ap_ifD,ap_for,ap_slice,ap_part,ap_noPart,part_int,out_ret,out_err,cmp_ok,add_ok,sub_ok,bool_ok,truth_bl,abs_ok,len_tup,len_lst,tuple_lst,seq_tup,seq_lst,vw_val,vw_arg,eqI,neI,bnd_ok,mulE_i,sl0,st0,sl1,st1,sl2,st2,sl3,st3,sl4,st4,sl5,st5,sl6,st6,sl7,st7,sl8,st8,sl9,st9,sl10,st10,sl11,st11,tup1,lst1,tup2,lst2,tup3,lst3,tup4,lst4,lst5,lst6,ix_tup0,ix_lst0,ix_tup1,ix_lst1,ix_tup2,ix_lst2,ix_lst3,↓reduceIte,decide_true,decide_false,Bool.not_true,Bool.not_false,Bool.false_eq_true,Int.reduceEq,Int.reduceNe,Int.reduceLT,Int.reduceLE,Nat.reduceAdd,cN0,cN1,cN2,length_cons,length_nil,h1,h0,h_ c]
   rw [e2];obtain ⟨s0',s1',z',g,q1,q2,q3⟩:=LR n (.val (.int y)) (.val (.int (Int.fmod x y))) (some (.val (.int (Int.fmod x y)))) y (Int.fmod x y) rfl rfl (by have:=hM' x c; omega);exact ⟨s0',s1',z',g,q1,q2,by rw [q3,S6]⟩
theorem L_ (a b:Int):nW [.int a,.int b]=.ok (.int (cm a b)):=by
 show outD (rm [some (.arg (.int a)),some (.arg (.int b)),none])=_;unfold rm;obtain ⟨s0',s1',z',g,q1,q2,q3⟩:=LR (b.natAbs + 1) (.arg (.int a)) (.arg (.int b)) none a b rfl rfl (Nat.lt_succ_self _);rw [ap_seq];show outD ((bJ Ff Fg (b.natAbs + 1) [some (.arg (.int a)),some (.arg (.int b)),none]).seq _)=_;rw [q1];push_cast [q2,q3];rfl
abbrev cc:DS->Res Bool:=aF (two (ak 3) ‹0› iK) aJ
abbrev cb:DS->Out:=(aD (aG 4 (two (ak 2) (ak 3) bR)) (aD (aG 2 (ak 3)) (aG 3 (ak 4))))
theorem Ma (p q:Option SV):∀(n:Nat) (x y:Int) (z:Option SV),0<=x->0<=y->y.toNat < n ->
  ∃z',bJ cc cb n [p,q,some (.val (.int x)),some (.val (.int y)),z]=.nxt [p,q,some (.val (.int (cm x y))),some (.val (.int 0)),z']
 | 0,_,_,_,_,_,h=>absurd h (Nat.not_lt_zero _)
 | n + 1,x,y,z,hx,hy,h=>by
  rw [bJ];have e:cc [p,q,some (.val (.int x)),some (.val (.int y)),z]=.ok (!decide (y=0)):=rfl;rw [e]
  by_cases c:y=0
  ·subst c;exact ⟨z,by rw [SJ hx]; rfl⟩
  ·simp only [c,decide_false,Bool.not_false];have e2:cb [p,q,some (.val (.int x)),some (.val (.int y)),z]=.nxt [p,q,some (.val (.int y)),some (.val (.int (Int.fmod x y))),some (.val (.int (Int.fmod x y)))]:=by
    simp only [cb,ap_seq,sq_nxt,sq_ret,sq_err,ap_set,on_ok,on_err,ont_ok,onl_ok,ap_if,ap_two,ap_bF,ap_bT,ap_bL,ap_cons,ap_tup,ap_lst,ap_ret,ap_expr,ap_neg,neg_ok,ap_notT,ap_andT,ap_orT,ap_andV,ap_ifD,ap_for,ap_slice,ap_part,ap_noPart,part_int,out_ret,out_err,cmp_ok,add_ok,sub_ok,bool_ok,truth_bl,abs_ok,len_tup,len_lst,tuple_lst,seq_tup,seq_lst,vw_val,vw_arg,eqI,neI,bnd_ok,mulE_i,sl0,st0,sl1,st1,sl2,st2,sl3,st3,sl4,st4,sl5,st5,sl6,st6,sl7,st7,sl8,st8,sl9,st9,sl10,st10,sl11,st11,tup1,lst1,tup2,lst2,tup3,lst3,tup4,lst4,lst5,lst6,ix_tup0,ix_lst0,ix_tup1,ix_lst1,ix_tup2,ix_lst2,ix_lst3,↓reduceIte,decide_true,decide_false,Bool.not_true,Bool.not_false,Bool.false_eq_true,Int.reduceEq,Int.reduceNe,Int.reduceLT,Int.reduceLE,Nat.reduceAdd,cN0,cN1,cN2,length_cons,length_nil,h_ c]
   rw [e2];have yp:0 < y:=by omega
   obtain ⟨z',e⟩:=Ma p q n y (Int.fmod x y) (some (.val (.int (Int.fmod x y)))) hy (Int.fmod_nonneg_of_pos x yp) (by have:=Int.fmod_lt_of_pos x yp; omega);refine ⟨z',?_⟩;rw [Sy hx hy] at e;exact e
theorem Tv (a b:Int):lZ [.int a,.int b]=.ok (.int (cm a b)):=by
 show outD (lY [some (.arg (.int a)),some (.arg (.int b)),none,none,none])=_;unfold lY;obtain ⟨z',e⟩:=Ma (some (.arg (.int a))) (some (.arg (.int b))) (((b.natAbs:Int)).natAbs + 1) a.natAbs b.natAbs none (by omega) (by omega) (by omega);rw [SM] at e;push_cast [DL.ap_seq];show outD ((bJ cc cb (((b.natAbs:Int)).natAbs + 1) [some (.arg (.int a)),some (.arg (.int b)),some (.val (.int (a.natAbs:Nat))),some (.val (.int (b.natAbs:Nat))),none]).seq _)=_;rw [e]; rfl
theorem Mf {ts:List Int} {b K:Int} (h:Nf ts b) (hK:K≠0) (hts:ts≠[]) (hl:ts.length<=63) (hb:K.natAbs < 2 ^ 8000) :
  du [.tup ((ts.map (K * ·)).map .int),.int (K * b)]=.ok (num ts b):=by
 show outD (mj [some (.arg (.tup ((ts.map (K * ·)).map .int))),some (.arg (.int (K * b))),none,none])=_;unfold mj;have bp:=h.pos;have nb:¬(K * b=0):=fun z=>by
  rcases Int.mul_eq_zero.mp z with q | q
  ·exact hK q
  ·omega
 obtain ⟨z',e⟩:=Er (i:=3) (f:=cm) (b:=aG 2 (aq ‹"Y"› lZ))
  (fun acc z=>[some (.val (.tup ((ts.map (K * ·)).map .int))),some (.val (.int (K * b))),some (.val (.int acc)),z])
  (fun acc z t=>by push_cast [Tv]) (ts.map (K * ·)) (K * b) none
 rw [Li h hK hts] at e;have th:thaw [some (SV.arg (.tup ((ts.map (K * ·)).map .int))),some (.arg (.int (K * b))),some (.val (.int (K * b))),none]=[some (.val (.tup ((ts.map (K * ·)).map .int))),some (.val (.int (K * b))),some (.val (.int (K * b))),none]:=rfl;push_cast [nb,th,e];have th2:gO (Out.nxt [some (.val (.tup ((ts.map (K * ·)).map .int))),some (.val (.int (K * b))),some (.val (.int (K.natAbs:Nat))),z'])=.nxt [some (.val (.tup ((ts.map (K * ·)).map .int))),some (.val (.int (K * b))),some (.val (.int (K.natAbs:Nat))),z'.map thaw2]:=rfl;simp only [th2,sq_nxt];have last:∀z2:Option SV,outD (aH ‹"k"›
   [some (.val (.tup ((ts.map (K * ·)).map .int))),some (.val (.int (K * b))),some (.val (.int K)),z2])=.ok (num ts b):=by
  intro z2;have cp:aO 1 [2] (bF 0) (two (ak 0) (ak 1) bH) ‹"x"› [some (.val (.tup ((ts.map (K * ·)).map .int))),some (.val (.int (K * b))),some (.val (.int K)),z2]=.ok (.lst ((ts.map (K * ·)).map fun t=>.int (Int.fdiv t K))) :=
   qR (rest:=[some (.arg (.int K))]) rfl rfl (by rw [length_map]; exact Nat.le_trans hl (by decide)) fun t _=>by
    push_cast [qQ hK hb]
  push_cast [cp,qQ hK hb];rw [map_map];simp only [Function.comp_def,Hr _ _ hK]
 by_cases c:K * b < 0
 ·have kn:-((K.natAbs:Nat):Int)=K:=by
   rcases Int.lt_or_le K 0 with q | q
   ·omega
   ·have:=Int.mul_nonneg q (Int.le_of_lt bp); omega
  push_cast [c,kn];exact last _
 ·have kn:((K.natAbs:Nat):Int)=K:=by
   rcases Int.lt_or_le K 0 with q | q
   ·have:=Int.mul_neg_of_neg_of_pos q bp; omega
   ·omega
  push_cast [c,kn];exact last _
theorem ks' {ts:List Int} {b:Int} (n:Nat) (h:Nf ts b) (hn:ts.length=n) (hts:ts≠[]):kI [num ts b,.int n]=.ok (.bl true):=by
 show outD (rC [some (.arg (num ts b)),some (.arg (.int n)),none,none])=_;unfold rC;have bp:=h.pos;have hb1:¬(b < 1):=by omega
 obtain ⟨z',e⟩:=Er (i:=3) (f:=cm) (b:=aD (bZ (dI (aF (aq ‹"n"› l_) bf)) (aH (fun _=>.ok (.bl false))) Out.nxt) (aG 2 (aq ‹"Y"› nW)))
  (fun acc z=>[some (.val (num ts b)),some (.val (.int n)),some (.val (.int acc)),z])
  (fun acc z t=>by push_cast [L_,LQ]) ts b none
 have th:thaw [some (SV.arg (num ts b)),some (.arg (.int n)),some (.val (.int b)),none]=[some (.val (num ts b)),some (.val (.int n)),some (.val (.int b)),none]:=rfl;have one:ts.foldl cm b=1:=by rw [Lh _ _ hts,h.one]; rfl
 have it1:∀ds,iM is_tuple (.tup ds)=.ok (.bl true):=fun _=>rfl;push_cast [it1,length_map,hn,LQ,hb1,th,e,one];rfl
theorem wN (x:List Int):km [TI x]=.ok (TI (aV x)):=by
 show outD (qX [some (.arg (TI x))])=_;unfold qX aV;push_cast [length_map,bs',wH]
theorem w_behind (x:List Int):kE [TI x]=.ok (TI (aU x)):=by
 show outD (qY [some (.arg (TI x))])=_;unfold qY aU;push_cast [length_map,bs',u9]
theorem eF {a b:Int} (h:a.natAbs < 2 ^ 200000) (h2:b.natAbs < 2 ^ 200000):dY (.int a) (.int b)=.ok (.int (a * b)):=by
 unfold dY;have e:200000<=2 ^ 20:=by decide
 exact if_pos (.inl ⟨Nat.le_trans (intBits_le h) e,Nat.le_trans (intBits_le h2) e⟩)
theorem iR {n m:Nat} (e:n<=m):2 ^ n<=2 ^ m:=Nat.pow_le_pow_right (by decide) e
theorem lJ {x n:Nat} (h:x < 2 ^ n) (e:n<=200000):x < 2 ^ 200000:=Nat.lt_of_lt_of_le h (iR e)
theorem HX {x n:Nat} (h:x < 2 ^ n) (e:n<=8000):x < 2 ^ 8000:=Nat.lt_of_lt_of_le h (iR e)
theorem HY (x y:List Int) (hl:x.length<=1000):qj [TI x,TI y]=.ok (TI (bM x y)):=by
 show outD (rG [some (.arg (TI x)),some (.arg (TI y))])=_;unfold rG;have c:=Hv (fe:=two (ak 0) (ak 1) a_) (fi:=cX ‹"f"› nP) (fr:=[]) (δ:=[some (.arg (TI x)),some (.arg (TI y))]) (rest:=[]) (xs:=x) (ys:=y) (g:=fun a b=>.int (a + b))
  (p_ (ds:=[TI x,TI y]) rfl rfl) rfl (Nat.le_trans hl (by decide)) fun a _ b _=>by push_cast [DL.ap_seq]
 rw [Ad] at c;push_cast [c]
theorem H9 (x:List Int) (hl:x.length<=1000):qi [TI x]=.ok (TI (x.map fun t=>-t)):=by
 show outD (qZ [some (.arg (TI x))])=_;unfold qZ;have c:=qR (fe:=gF (ak 0)) (fi:=bindL (ak 0) aM) (fr:=[]) (δ:=[some (.arg (TI x))]) (rest:=[]) (ts:=x) (g:=fun t=>.int (-t))
  (by push_cast [DL.ap_seq]) rfl (Nat.le_trans hl (by decide)) fun t ht=>by push_cast [DL.ap_seq]
 have e:(x.map fun t=>D.int (-t))=(x.map fun t=>-t).map .int:=by rw [map_map]; rfl
 rw [e] at c;push_cast [c]
noncomputable def eT (ρ:Nat):Nat->Nat
 | 0=>0
 | k + 1=>2 * eT ρ k + ρ + 1
theorem iB {ρ:Nat}:∀(rs:List (List Int)) {x y:List Int} {p q:Nat},(∀r∈rs,Bd ρ r)->Bd p x->Bd q y->Bd (p + q + eT ρ rs.length) (pt rs x y)
 | [],x,y,p,q,_,h1,h2=>fun t ht=>by
  rw [pt,mem_singleton] at ht;rw [ht]; show _ < 2 ^ (p + q); exact ie h1.head h2.head
 | r :: rs,x,y,p,q,hr,h1,h2=>by
  have hr':∀r∈rs,Bd ρ r:=fun u hu=>hr u (mem_cons_of_mem _ hu);have ac:=iB rs hr' h1.fr h2.fr;have bd:=iB rs hr' h1.bh h2.bh;have ad:=iB rs hr' h1.fr h2.bh;have bc:=iB rs hr' h1.bh h2.fr;have sq:=iB rs hr' bd (hr r (by simp));rw [pt];show Bd (p + q + (2 * eT ρ rs.length + ρ + 1)) _;refine Bd.app (Bd.mono ((ac.mono (by omega)).add sq) (by omega)) (Bd.mono (ad.add bc) (by omega))
theorem kJ {ρ:Nat}:∀(rs:List (List Int)) (n:Nat) (x y:List Int) (p q:Nat),rs.length < n->Sc rs->(∀r∈rs,Bd ρ r)->x.length=2 ^ rs.length->y.length=2 ^ rs.length->Bd p x->Bd q y->p + q + eT ρ rs.length<=200000->rs.length<=8 ->
  jN n [RT rs,TI x,TI y]=.ok (TI (pt rs x y))
 | _,0,_,_,_,_,h,_,_,_,_,_,_,_,_=>absurd h (Nat.not_lt_zero _)
 | [],n + 1,x,y,p,q,_,_,_,hx,hy,bx,by_,hb,_=>by
  show outD (mD (jN n) [some (.arg (RT [])),some (.arg (TI x)),some (.arg (TI y)),none,none,none,none,none,none,none,none])=_;unfold mD;have e1:=lJ bx.head (show p<=200000 by omega);have e2:=lJ by_.head (show q<=200000 by omega);push_cast [reverse_nil,map_nil,Eu (qT (k:=0) hx),Eu (qT (k:=0) hy),eF e1 e2];rfl
 | r :: rs,n + 1,x,y,p,q,hn,S,hr,hx,hy,bx,by_,hb,h8=>by
  obtain ⟨hr1,S⟩:=S;have hb:p + q + (2 * eT ρ rs.length + ρ + 1)<=200000:=hb;have h8:rs.length + 1<=8:=h8;have hr':∀r∈rs,Bd ρ r:=fun u hu=>hr u (mem_cons_of_mem _ hu);have a:=iQ hx;have b:=jo hx;have c:=iQ hy;have d:=jo hy;have hn':rs.length < n:=Nat.lt_of_succ_lt_succ hn;have i1:=kJ rs n (aV x) (aV y) p q hn' S hr' a c bx.fr by_.fr (by omega) (by omega);have i2:=kJ rs n (aU x) (aU y) p q hn' S hr' b d bx.bh by_.bh (by omega) (by omega);have i3:=kJ rs n (aV x) (aU y) p q hn' S hr' a d bx.fr by_.bh (by omega) (by omega);have i4:=kJ rs n (aU x) (aV y) p q hn' S hr' b c bx.bh by_.fr (by omega) (by omega);have i5:=kJ rs n (pt rs (aU x) (aU y)) r (p + q + eT ρ rs.length) ρ hn' S hr' (dX rs _ _ S b d) hr1 (iB rs hr' bx.bh by_.bh) (hr r (by simp)) (by omega) (by omega);have small:2 ^ rs.length<=256:=Nat.le_trans (Nat.pow_le_pow_right (by decide) (show rs.length<=8 by omega)) (by decide);have l1:=dX rs _ _ S a c;have l2:=dX rs _ _ S (dX rs _ _ S b d) hr1;have l3:=dX rs _ _ S a d;have l4:=dX rs _ _ S b c;have p1:=HY (pt rs (aV x) (aV y)) (pt rs (pt rs (aU x) (aU y)) r) (by omega);have p2:=HY (pt rs (aV x) (aU y)) (pt rs (aU x) (aV y)) (by omega);have f1:=pC l1 l2;have f2:=pC l3 l4;have ad:=Ew (a:=bM (pt rs (aV x) (aV y)) (pt rs (pt rs (aU x) (aU y)) r)) (b:=bM (pt rs (aV x) (aU y)) (pt rs (aU x) (aV y))) (qT f1) (by omega);show outD (mD (jN n) [some (.arg (RT (r :: rs))),some (.arg (TI x)),some (.arg (TI y)),none,none,none,none,none,none,none,none])=_;unfold mD;have z:¬(((rs.length + 1:Nat):Int)=0):=by omega
  push_cast [length_map,length_reverse,z,lV,wG,wN,w_behind,i1,i2,i3,i4,i5,p1,p2,ad,pt]
section
variable {rs:List (List Int)} {F:OF} {of:List Int->F.C} {ρ:Nat}
theorem iC {k:Nat} (h:k<=3):2 ^ k<=8:=Nat.le_trans (Nat.pow_le_pow_right (by decide) h) (by decide)
theorem jR (T:Tow rs F of) (h3:rs.length<=3) {ts:List Int} {b:Int} {n:Nat} (hl:ts.length=2 ^ rs.length) (hb:b≠0) (h1:Bd n ts) (h2:b.natAbs < 2 ^ n) (hn:n<=8000) :
  ∃d,du [TI ts,.int b]=.ok d/\Nm of rs.length n d (of ts / (b:F.C)):=by
 obtain ⟨K,x,c,k0,e1,e2,nf,xl,kb,hN⟩:=vL T hl hb h1 h2;refine ⟨_,?_,hN⟩;rw [e1,e2];exact Mf nf k0 (qT xl) (by have:=iC h3; omega) (HX kb hn)
theorem Mg (T:Tow rs F of) (h3:rs.length<=3) {ts:List Int} {b:Int} {n m:Nat} (hl:ts.length=2 ^ rs.length) (hb:b≠0) (h1:Bd n ts) (h2:b.natAbs < 2 ^ m) (hm:m<=8000) :
  ∃d,du [TI ts,.int b]=.ok d/\Nm of rs.length (max n m) d (of ts / (b:F.C)):=by
 obtain ⟨K,x,c,k0,e1,e2,nf,xl,kb,hN⟩:=vL T (n:=max n m) hl hb (h1.mono (Nat.le_max_left ..)) (Nat.lt_of_lt_of_le h2 (iR (Nat.le_max_right ..)));refine ⟨_,?_,hN⟩;have cp:=nf.pos;have kb:K.natAbs < 2 ^ m:=by
  rw [e2,Int.natAbs_mul] at h2;exact Nat.lt_of_le_of_lt (Nat.le_mul_of_pos_right _ (by omega)) h2
 rw [e1,e2];exact Mf nf k0 (qT xl) (by have:=iC h3; omega) (HX kb hm)
theorem eU (T:Tow rs F of) (h3:rs.length<=3) {p q:Nat} {d e:D} {u v:F.C} (h1:Nm of rs.length p d u) (h2:Nm of rs.length q e v) (hn:p + q + 1<=8000) :
  ∃z,cZ [d,e]=.ok z/\Nm of rs.length (p + q + 1) z (u + v):=by
 obtain ⟨x,b,rfl,nx,lx,bx,bb,ex⟩:=h1;obtain ⟨y,c,rfl,ny,ly,b_y,bc,ey⟩:=h2;have pb:=nx.pos;have pc:=ny.pos;have e8:=iC h3;have hb:=lJ bb (show p<=200000 by omega);have hc:=lJ bc (show q<=200000 by omega);have sl:(kj x y b c).length=2 ^ rs.length:=mk' lx ly b c;have sb:Bd (p + q + 1) (kj x y b c):=by
  rw [<- ef'];have b1:=Ex bx bc;have b2:=Ex b_y bb;rw [Nat.add_comm q p] at b1;exact b1.add b2
 have bcb:(b * c).natAbs < 2 ^ (p + q + 1):=Nat.lt_of_lt_of_le (ie bb bc) (iR (by omega));obtain ⟨z,ez,hz⟩:=jR T h3 sl (Int.ne_of_gt (Int.mul_pos pb pc)) sb bcb hn;have val:of (kj x y b c) / ((b * c:Int):F.C)=u + v:=by
  have b0:=fL T (show b≠0 by omega);have c0:=fL T (show c≠0 by omega);rw [<- ef',vK T (by simpa using lx) (by simpa using ly),jz T _ lx,jz T _ ly,Lean.Grind.Ring.intCast_mul,ex,ey]
  grind
 rw [val] at hz;refine ⟨z,?_,hz⟩;show outD (mq [some (.arg (num x b)),some (.arg (num y c)),none])=_;unfold mq;have cp:=Hv (fe:=two (two (ak 0) ‹"C"› bK) (two (ak 1) (two (ak 3) ‹1› bA) bK) a_) (fi:=cX (aj ‹"t"› ‹"E"›) nP) (fr:=[1,0]) (δ:=[some (.arg (num x b)),some (.arg (num y c)),none]) (rest:=[some (.arg (num y c)),some (.arg (num x b))]) (xs:=x) (ys:=y) (g:=fun s t=>.int (s * c + t * b))
  (p_ (ds:=[TI x,TI y]) (by push_cast [DL.ap_seq]) rfl) rfl (Nat.le_trans (show x.length<=63 by omega) (by decide)) fun s hs t ht=>by push_cast [eF (lJ (bx s hs) (show p<=200000 by omega)) hc,eF (lJ (b_y t ht) (show q<=200000 by omega)) hb]
 have e:(List.zipWith (fun s t=>D.int (s * c + t * b)) x y)=(kj x y b c).map .int:=by unfold kj; rw [map_zipWith]
 rw [e] at cp;push_cast [cp,eF hb hc,ez]
theorem n6 (T:Tow rs F of) (h3:rs.length<=3) {p:Nat} {d:D} {u:F.C} (h1:Nm of rs.length p d u):∃z,jb [d]=.ok z/\Nm of rs.length p z (-u):=by
 obtain ⟨x,b,rfl,nx,lx,bx,bb,ex⟩:=h1;have pb:=nx.pos;have e8:=iC h3;refine ⟨num (x.map fun t=>-t) b,?_,_,_,rfl,Lj nx,by simpa using lx,cJ' bx,bb,?_⟩
 ·show outD (rB [some (.arg (num x b))])=_;unfold rB;push_cast [H9 x (by omega)]
 ·rw [xN T lx,ex];have b0:=fL T (show b≠0 by omega)
  grind
theorem pG (T:Tow rs F of) (h3:rs.length<=3) {p q:Nat} {d e:D} {u v:F.C} (h1:Nm of rs.length p d u) (h2:Nm of rs.length q e v) (hn:p + q + 1<=8000) :
  ∃z,iz [d,e]=.ok z/\Nm of rs.length (p + q + 1) z (u - v):=by
 obtain ⟨e',q1,q2⟩:=n6 T h3 h2;obtain ⟨z,q3,q4⟩:=eU T h3 h1 q2 hn;refine ⟨z,?_,by rwa [show u + -v=u - v by grind] at q4⟩;show outD (mz [some (.arg d),some (.arg e)])=_;unfold mz;push_cast [q1,q3]
theorem Fi (T:Tow rs F of) (h3:rs.length<=3) (hr:∀r∈rs,Bd ρ r) {p q N:Nat} {d e:D} {u v:F.C} (h1:Nm of rs.length p d u) (h2:Nm of rs.length q e v) (hN:∀{x y:List Int},Bd p x->Bd q y->Bd N (pt rs x y)) (hq:p + q<=N) (hn:N<=8000) (hg:p + q + eT ρ rs.length<=200000) :
  ∃z,cO [RT rs,d,e]=.ok z/\Nm of rs.length N z (u * v):=by
 obtain ⟨x,b,rfl,nx,lx,bx,bb,ex⟩:=h1;obtain ⟨y,c,rfl,ny,ly,b_y,bc,ey⟩:=h2;have pb:=nx.pos;have pc:=ny.pos;have S:=T.sc;have t:jA [RT rs,TI x,TI y]=_:=kJ rs 4 x y p q (by omega) S hr lx ly bx b_y hg (by omega);have bcb:(b * c).natAbs < 2 ^ N:=Nat.lt_of_lt_of_le (ie bb bc) (iR (by omega));obtain ⟨z,ez,hz⟩:=jR T h3 (dX rs x y S lx ly) (Int.ne_of_gt (Int.mul_pos pb pc)) (hN bx b_y) bcb hn;have val:of (pt rs x y) / ((b * c:Int):F.C)=u * v:=by
  have b0:=fL T (show b≠0 by omega);have c0:=fL T (show c≠0 by omega);rw [xM T lx ly,Lean.Grind.Ring.intCast_mul,ex,ey]
  grind
 rw [val] at hz;refine ⟨z,?_,hz⟩;show outD (mG [some (.arg (RT rs)),some (.arg (num x b)),some (.arg (num y c))])=_;unfold mG;push_cast [t,eF (lJ bb (show p<=200000 by omega)) (lJ bc (show q<=200000 by omega)),ez]
theorem eV (T:Tow rs F of) (h3:rs.length<=3) (hr:∀r∈rs,Bd ρ r) {p q:Nat} {d e:D} {u v:F.C} (h1:Nm of rs.length p d u) (h2:Nm of rs.length q e v) (hn:p + q + eT ρ rs.length<=8000) :
  ∃z,cO [RT rs,d,e]=.ok z/\Nm of rs.length (p + q + eT ρ rs.length) z (u * v) :=
 Fi T h3 hr h1 h2 (fun bx b_y=>iB rs hr bx b_y) (by omega) hn (by omega)
open Classical in
theorem cs' (T:Tow rs F of) (h3:rs.length<=3) {p:Nat} {d:D} {u:F.C} (h1:Nm of rs.length p d u):gJ [d]=.ok (.bl (decide (u=0))):=by
 have h0:=h1;obtain ⟨x,b,rfl,nx,lx,bx,bb,ex⟩:=h1;have e8:=iC h3;have an:vM [TI x]=.ok (.bl (zA x)):=by
  show outD (qW [some (.arg (TI x))])=_;unfold qW;have c:=qR (fe:=two (ak 0) ‹0› cV) (fi:=bindL (ak 0) aM) (fr:=[]) (δ:=[some (.arg (TI x))]) (rest:=[]) (ts:=x) (g:=fun t=>.bl (decide (t=0)))
   (by push_cast [DL.ap_seq]) rfl (Nat.le_trans (show x.length<=63 by omega) (by decide)) fun t ht=>by push_cast [DL.ap_seq]
  have e:(x.map fun t=>D.bl (decide (t=0)))=(x.map fun t=>decide (t=0)).map .bl:=by rw [map_map]; rfl
  rw [e] at c;push_cast [c,S9]
  congr 2
  unfold zA;rw [all_map]; rfl
 show outD (rO [some (.arg (num x b))])=_;unfold rO;push_cast [an]
 congr 2
 have:=h0.zero_iff T
 by_cases c:u=0
 ·rw [this.mp c]; simp [c]
 ·have:zA x=false:=by
   cases h:zA x with
   | false=>rfl
   | true=>exact (c (this.mpr h)).elim
  rw [this]; simp [c]
end
theorem Ak (n:Nat) (a b:List Int):gN n (a ++ b)=gN (gN n a) b:=by unfold gN; rw [foldl_append]
section
variable {F:OF}
theorem Mh {a c b r:F.C} (hb:b≠0):(a * a - c * c * r) / (b * b)=a / b * (a / b) - c / b * (c / b) * r:=by grind
end
section
variable {rs:List (List Int)} {F:OF} {of:List Int->F.C} {ρ:Nat}
section
variable {r:F.C} {hr:0 < r} {hn:∀z:F.C,z * z≠r}
theorem Mi (x:(aN F r hr hn).C) (c:Int) (hc:(c:F.C)≠0):Ext.a (r:=r) (x / (c:(aN F r hr hn).C))=Ext.a (r:=r) x / (c:F.C):=by
 show Ext.a x * ((c:F.C) / ((c:F.C) * (c:F.C) - (0:F.C) * (0:F.C) * r)) + Ext.b x * (-(0:F.C) / ((c:F.C) * (c:F.C) - (0:F.C) * (0:F.C) * r)) * r=_
 grind
theorem Mj (x:(aN F r hr hn).C) (c:Int) (hc:(c:F.C)≠0):Ext.b (r:=r) (x / (c:(aN F r hr hn).C))=Ext.b (r:=r) x / (c:F.C):=by
 show Ext.a x * (-(0:F.C) / ((c:F.C) * (c:F.C) - (0:F.C) * (0:F.C) * r)) + Ext.b x * ((c:F.C) / ((c:F.C) * (c:F.C) - (0:F.C) * (0:F.C) * r))=_
 grind
noncomputable def cj (x:(aN F r hr hn).C):(aN F r hr hn).C:=(⟨Ext.a (r:=r) x,-Ext.b (r:=r) x⟩:Ext r)
noncomputable def em (x:F.C):(aN F r hr hn).C:=(⟨x,0⟩:Ext r)
theorem nD' (x y:F.C):em (hr:=hr) (hn:=hn) (x + y)=em x + em y:=Ext.eqs (r:=r) rfl (show (0:F.C)=0 + 0 by grind)
theorem Am (x y:F.C):em (hr:=hr) (hn:=hn) (x * y)=em x * em y:=Ext.eqs (r:=r) (show x * y=x * y + 0 * 0 * r by grind) (show (0:F.C)=x * 0 + 0 * y by grind)
theorem nE' (x:(aN F r hr hn).C):x * cj x=em (Ext.nrm (r:=r) x):=by
 refine Ext.eqs (r:=r) ?_ ?_
 ·show Ext.a x * Ext.a x + Ext.b x * -Ext.b x * r=Ext.a x * Ext.a x - Ext.b x * Ext.b x * r
  grind
 ·show Ext.a x * -Ext.b x + Ext.b x * Ext.a x=(0:F.C)
  grind
theorem Ml (x:(aN F r hr hn).C) (h:x≠0):Ext.nrm (r:=r) x≠0:=fun z=>h (Ext.nrm_0 hn z)
theorem Mm (x:(aN F r hr hn).C) (h:x≠0):x⁻¹=cj x * em ((Ext.nrm (r:=r) x)⁻¹):=by
 have e1:=nE' x;have n0:=Ml x h;have e2:em (hr:=hr) (hn:=hn) (Ext.nrm (r:=r) x) * em ((Ext.nrm (r:=r) x)⁻¹)=1:=by
  rw [<- Am,show Ext.nrm (r:=r) x * (Ext.nrm (r:=r) x)⁻¹=1 by grind]; rfl
 have e3:x * (cj x * em ((Ext.nrm (r:=r) x)⁻¹))=1:=by
  rw [<- Lean.Grind.Semiring.mul_assoc,e1,e2]
 grind
end
theorem An {r:List Int} {hr:0 < of r} {hn:∀z:F.C,z * z≠of r} {v:(aN F (of r) hr hn).C} {x:List Int} {b:Int} (hb:(b:F.C)≠0) (e:v=aY of r hr hn x / (b:(aN F (of r) hr hn).C)):Ext.a (r:=of r) v=of (aV x) / (b:F.C)/\Ext.b (r:=of r) v=of (aU x) / (b:F.C):=by
 rw [e];exact ⟨Mi _ b hb,Mj _ b hb⟩
theorem Ao {r:List Int} {hr:0 < of r} {hn:∀z:F.C,z * z≠of r} {v:(aN F (of r) hr hn).C} {x:List Int} {b:Int} (hb:(b:F.C)≠0) (e1:Ext.a (r:=of r) v=of (aV x) / (b:F.C)) (e2:Ext.b (r:=of r) v=of (aU x) / (b:F.C)):v=aY of r hr hn x / (b:(aN F (of r) hr hn).C) :=
 Ext.eqs (r:=of r) (e1.trans (Mi (aY of r hr hn x) b hb).symm) (e2.trans (Mj (aY of r hr hn x) b hb).symm)
theorem wO (T:Tow rs F of) (h3:rs.length < 3) {r:List Int} {hr:0 < of r} {hn:∀z:F.C,z * z≠of r} {p:Nat} {d:D} {v:(aN F (of r) hr hn).C} (h:Nm (aY of r hr hn) (rs.length + 1) p d v) :
  ∃z,pF [d]=.ok z/\Nm (aY of r hr hn) (rs.length + 1) p z (cj v):=by
 obtain ⟨x,b,rfl,nx,lx,bx,bb,ex⟩:=h;have pb:=nx.pos;have b0:=fL T (show b≠0 by omega);have lf:=iQ lx;have lb:=jo lx;have e8:=iC (k:=rs.length) (by omega);have ad:=Ew (a:=aV x) (b:=(aU x).map fun t=>-t) (qT lf) (by rw [length_map]; omega);have ll:(aV x).length=((aU x).map fun t=>-t).length:=by rw [length_map,lf,lb]
 refine ⟨num (aV x ++ (aU x).map fun t=>-t) b,?_,_,_,rfl,⟨pb,?_⟩,?_,Bd.app bx.fr (cJ' bx.bh),bb,?_⟩
 ·show outD (mH [some (.arg (num x b))])=_;unfold mH;push_cast [wN,w_behind,H9 (aU x) (by omega),ad]
 ·rw [Ak,Hw,<- Ak,mu']; exact nx.one
 ·rw [length_append,length_map,lf,lb,Nat.pow_succ]; omega
 ·obtain ⟨e1,e2⟩:=An b0 ex;refine Ao b0 ?_ ?_
  ·rw [wK ll]; exact e1
  ·rw [wL ll,xN T lb];show -Ext.b v=_;rw [e2]; grind
noncomputable def ql (r:List Int) (rs:List (List Int)) (x:List Int):List Int:=bM (pt rs (aV x) (aV x)) ((pt rs (pt rs (aU x) (aU x)) r).map fun t=>-t)
theorem Aq (S:Sc rs) {r x:List Int} (hl:r.length=2 ^ rs.length) (lx:x.length=2 ^ (rs.length + 1)):(ql r rs x).length=2 ^ rs.length :=
 pC (dX rs _ _ S (iQ lx) (iQ lx)) (by rw [length_map]; exact dX rs _ _ S (dX rs _ _ S (jo lx) (jo lx)) hl)
theorem Ar {r x:List Int} (hr:Bd ρ r) (hrs:∀r∈rs,Bd ρ r) {p:Nat} (h:Bd p x):Bd (2 * p + eT ρ (rs.length + 1)) (ql r rs x):=by
 have a:=iB rs hrs h.fr h.fr;have b:=iB rs hrs (iB rs hrs h.bh h.bh) hr;have:=(a.mono (show p + p + eT ρ rs.length<=p + p + eT ρ rs.length + ρ + eT ρ rs.length by omega)).add (cJ' b);exact this.mono (by show _<=2 * p + (2 * eT ρ rs.length + ρ + 1); omega)
theorem Mp (S:Sc rs) (h3:rs.length < 3) {r x:List Int} (hl:r.length=2 ^ rs.length) (hr:Bd ρ r) (hrs:∀r∈rs,Bd ρ r) {p:Nat} (lx:x.length=2 ^ (rs.length + 1)) (h:Bd p x) (hp:2 * p + eT ρ (rs.length + 1)<=200000) :
  rN [RT (r :: rs),TI x]=.ok (TI (ql r rs x)):=by
 have lf:=iQ lx;have lb:=jo lx;have e8:=iC (k:=rs.length) (by omega);have hp':2 * p + (2 * eT ρ rs.length + ρ + 1)<=200000:=hp;have t1:jA [RT rs,TI (aV x),TI (aV x)]=_:=kJ rs 4 _ _ p p (by omega) S hrs lf lf h.fr h.fr (by omega) (by omega);have t2:jA [RT rs,TI (aU x),TI (aU x)]=_:=kJ rs 4 _ _ p p (by omega) S hrs lb lb h.bh h.bh (by omega) (by omega);have l2:=dX rs _ _ S lb lb;have t3:jA [RT rs,TI (pt rs (aU x) (aU x)),TI r]=_:=kJ rs 4 _ _ (p + p + eT ρ rs.length) ρ (by omega) S hrs l2 hl (iB rs hrs h.bh h.bh) hr (by omega) (by omega);have l3:=dX rs _ _ S l2 hl;have l1:=dX rs _ _ S lf lf;have g:=H9 (pt rs (pt rs (aU x) (aU x)) r) (by omega);have pl:=HY (pt rs (aV x) (aV x)) ((pt rs (pt rs (aU x) (aU x)) r).map fun t=>-t) (by omega);show outD (rM [some (.arg (RT (r :: rs))),some (.arg (TI x)),none,none,none,none])=_;unfold rM ql;push_cast [lV,wG,wN,w_behind,t1,t2,t3,g,pl]
theorem Av (T:Tow rs F of) {r x:List Int} (hl:r.length=2 ^ rs.length) (lx:x.length=2 ^ (rs.length + 1)):of (ql r rs x)=of (aV x) * of (aV x) - of (aU x) * of (aU x) * of r:=by
 have S:=T.sc;have lf:=iQ lx;have lb:=jo lx;unfold ql;rw [vK T (dX rs _ _ S lf lf) (by rw [length_map]; exact dX rs _ _ S (dX rs _ _ S lb lb) hl),xN T (dX rs _ _ S (dX rs _ _ S lb lb) hl),xM T lf lf,xM T (dX rs _ _ S lb lb) hl,xM T lb lb]
 grind
theorem Mq (T:Tow rs F of) (h3:rs.length < 3) {r:List Int} (hl:r.length=2 ^ rs.length) {hr:0 < of r} {hn:∀z:F.C,z * z≠of r} (hrr:Bd ρ r) (hrs:∀r∈rs,Bd ρ r) {p N:Nat} {d:D} {v:(aN F (of r) hr hn).C} (h:Nm (aY of r hr hn) (rs.length + 1) p d v) (hN:∀{x:List Int},Bd p x->Bd N (ql r rs x)) (hq:2 * p<=N) (hp:N<=8000) (hg:2 * p + eT ρ (rs.length + 1)<=200000) :
  ∃z,jd [RT (r :: rs),d]=.ok z/\Nm of rs.length N z (Ext.nrm (r:=of r) v):=by
 obtain ⟨x,b,rfl,nx,lx,bx,bb,ex⟩:=h;have pb:=nx.pos;have b0:=fL T (show b≠0 by omega);have S:=T.sc;have nt:=Mp S h3 hl hrr hrs lx bx hg;have bb2:(b * b).natAbs < 2 ^ N:=Nat.lt_of_lt_of_le (ie bb bb) (iR (by omega));obtain ⟨z,ez,hz⟩:=jR T (by omega) (Aq S hl lx) (Int.ne_of_gt (Int.mul_pos pb pb)) (hN bx) bb2 hp;obtain ⟨e1,e2⟩:=An b0 ex;have val:of (ql r rs x) / ((b * b:Int):F.C)=Ext.nrm (r:=of r) v:=by
  unfold Ext.nrm;rw [Av T hl lx,Lean.Grind.Ring.intCast_mul,e1,e2];exact Mh b0
 rw [val] at hz;refine ⟨z,?_,hz⟩;show outD (mJ [some (.arg (RT (r :: rs))),some (.arg (num x b))])=_;unfold mJ;have hbB:=lJ bb (show p<=200000 by omega);push_cast [nt,eF hbB hbB,ez]
theorem pH (T:Tow rs F of) (h3:rs.length < 3) {r:List Int} (hl:r.length=2 ^ rs.length) {hr:0 < of r} {hn:∀z:F.C,z * z≠of r} (hrr:Bd ρ r) (hrs:∀r∈rs,Bd ρ r) {p:Nat} {d:D} {v:(aN F (of r) hr hn).C} (h:Nm (aY of r hr hn) (rs.length + 1) p d v) (hp:2 * p + eT ρ (rs.length + 1)<=8000) :
  ∃z,jd [RT (r :: rs),d]=.ok z/\Nm of rs.length (2 * p + eT ρ (rs.length + 1)) z (Ext.nrm (r:=of r) v) :=
 Mq T h3 hl hrr hrs h (fun bx=>Ar hrr hrs bx) (by omega) hp (by omega)
theorem pI (T:Tow rs F of) (h3:rs.length < 3) {r:List Int} {hr:0 < of r} {hn:∀z:F.C,z * z≠of r} {p:Nat} {d:D} {v:(aN F (of r) hr hn).C} (h:Nm (aY of r hr hn) (rs.length + 1) p d v) (hp:p<=8000) :
  ∃y z,jM [d]=.ok (.tup [y,z])/\Nm of rs.length p y (Ext.a (r:=of r) v)/\Nm of rs.length p z (Ext.b (r:=of r) v):=by
 obtain ⟨x,b,rfl,nx,lx,bx,bb,ex⟩:=h;have pb:=nx.pos;have b0:=fL T (show b≠0 by omega);obtain ⟨e1,e2⟩:=An b0 ex;obtain ⟨y,ey,hy⟩:=jR T (by omega) (iQ lx) (show b≠0 by omega) bx.fr bb hp;obtain ⟨z,ez,hz⟩:=jR T (by omega) (jo lx) (show b≠0 by omega) bx.bh bb hp;rw [<- e1] at hy;rw [<- e2] at hz;refine ⟨y,z,?_,hy,hz⟩;show outD (my [some (.arg (num x b))])=_;unfold my;push_cast [wN,w_behind,ey,ez]
theorem wQ (T:Tow rs F of) (h3:rs.length < 3) {r:List Int} {hr:0 < of r} {hn:∀z:F.C,z * z≠of r} {p:Nat} {d:D} {v:F.C} (h:Nm of rs.length p d v) :
  ∃z,cN [d,.int ((rs.length + 1:Nat):Int)]=.ok z/\Nm (aY of r hr hn) (rs.length + 1) p z (em v):=by
 obtain ⟨x,b,rfl,nx,lx,bx,bb,ex⟩:=h;have pb:=nx.pos;have b0:=fL T (show b≠0 by omega);have e8:=iC (k:=rs.length) (by omega);have ll:x.length=(List.replicate (2 ^ rs.length) (0:Int)).length:=by simpa using lx
 refine ⟨num (x ++ List.replicate (2 ^ rs.length) 0) b,?_,_,_,rfl,⟨pb,?_⟩,?_,Bd.app bx fun t ht=>by rw [eq_of_mem_replicate ht]; exact Nat.two_pow_pos p,bb,?_⟩
 ·show outD (gR [some (.arg (num x b)),some (.arg (.int ((rs.length + 1:Nat):Int)))])=_;unfold gR;have su:((2 ^ (rs.length + 1):Nat):Int) - (x.length:Int)=((2 ^ rs.length:Nat):Int):=by
   rw [lx,Nat.pow_succ]; omega
  have lx':((List.map D.int x).length:Int)=(x.length:Int):=by rw [length_map]
  push_cast [Hx (rs.length + 1) (by omega),lx'];rw [su];push_cast [yU (2 ^ rs.length) (by omega),vH (a:=x) (b:=List.replicate (2 ^ rs.length) 0) (by rw [length_replicate]; omega)]
 ·rw [Ak,nx.one,Ey]
 ·rw [length_append,length_replicate,lx,Nat.pow_succ]; omega
 ·refine Ao b0 ?_ ?_
  ·rw [wK ll]; exact ex
  ·rw [wL ll,wM T];show (0:F.C)=_
   grind
theorem Mr (T:Tow rs F of) (h3:rs.length<=3) {p:Nat} {d:D} {v:F.C} (h:Nm of rs.length p d v):cN [d,.int (rs.length:Int)]=.ok d:=by
 obtain ⟨x,b,rfl,nx,lx,bx,bb,ex⟩:=h;have e8:=iC h3;show outD (gR [some (.arg (num x b)),some (.arg (.int ((rs.length:Nat):Int)))])=_;unfold gR;have su:((2 ^ rs.length:Nat):Int) - (x.length:Int)=((0:Nat):Int):=by rw [lx]; omega
 have lx':((List.map D.int x).length:Int)=(x.length:Int):=by rw [length_map]
 push_cast [Hx rs.length (by omega),lx'];rw [su];simp only [yU 0 (by omega),bnd_ok,replicate_zero,vH (a:=x) (b:=[]) (by simp; omega),append_nil,tup2,on_ok,out_ret]
noncomputable def SOk (ρ:Nat):Nat->Nat->Prop
 | 0,p=>p<=200000
 | k + 1,p=>2 * p + eT ρ (k + 1)<=200000/\SOk ρ k (2 * p + eT ρ (k + 1))
theorem SOk.mono {ρ:Nat}:∀{k p q:Nat},SOk ρ k q->p<=q->SOk ρ k p
 | 0,_,_,h,e=>Nat.le_trans e h
 | k + 1,p,q,⟨h1,h2⟩,e=>⟨by omega,SOk.mono (k:=k) h2 (by omega)⟩
theorem oT' (n:Int):vN [.int n]=.ok (.int (sg n)):=by
 show outD (rQ [some (.arg (.int n))])=_;unfold rQ;rcases Hz n with ⟨h,e⟩ | ⟨h,e⟩ | ⟨h,e⟩ <;> rw [e]
 ·push_cast [h]
 ·have h0:¬(n=0):=by omega
  push_cast [h0,h]
 ·have h0:¬(n=0):=by omega
  have h1:¬(0 < n):=by omega
  push_cast [h0,h1]
theorem Ms (T:Tow rs F of) (k:Int):sgn (k:F.C)=sg k:=by
 rcases Hz k with ⟨h,e⟩ | ⟨h,e⟩ | ⟨h,e⟩ <;> rw [e]
 ·rw [h]; exact sgn_0.mpr Lean.Grind.Ring.intCast_zero
 ·exact sgn_p.mpr (pD T h)
 ·have:=pD T (k:=-k) (by omega);rw [Lean.Grind.Ring.intCast_neg] at this;exact sgn_n.mpr (by grind)
theorem Fj (x:F.C):(sgn x).natAbs < 2 ^ 200000:=by
 refine Nat.lt_of_lt_of_le (show (sgn x).natAbs < 2 ^ 1 by rcases lE x with ⟨_,e⟩ | ⟨_,e⟩ | ⟨_,e⟩ <;> rw [e] <;> decide) (iR (by decide))
theorem Tw (T:Tow rs F of):∀(n:Nat) (x:List Int) (p:Nat),rs.length < n->rs.length<=3->(∀r∈rs,Bd ρ r)->x.length=2 ^ rs.length->Bd p x->SOk ρ rs.length p ->
  jP n [RT rs,TI x]=.ok (.int (sgn (of x))):=by
 induction T with
 | nil =>
  intro n x p hn h3 hrs lx bx hs
  match n,hn,x,lx with
  | n + 1,_,[a],_ =>
   show outD (mK (jP n) [some (.arg (RT [])),some (.arg (TI [a])),none,none,none])=_;unfold mK;have lQ:bA (TI [a]) (.int 0)=.ok (.int a):=ix_tup0 _ _;have e:sgn (F:=ratOF) (((a:Int):Rat))=sg a:=Ms Tow.nil a;show _=Res.ok (D.int (sgn (F:=ratOF) (((a:Int):Rat))));rw [e];push_cast [reverse_nil,map_nil,lQ,oT']
 | @cons rs F of T r hl hr hn' ih =>
  intro n x p hn h3 hrs lx bx hs
  match n,hn with
  | n + 1,hn =>
   obtain ⟨hs1,hs2⟩:=hs;have h3':rs.length + 1<=3:=h3;have hrs':∀r∈rs,Bd ρ r:=fun u hu=>hrs u (mem_cons_of_mem _ hu);have hn2:rs.length < n:=Nat.lt_of_succ_lt_succ hn;have S:=T.sc;have i1:=ih n (aV x) p hn2 (by omega) hrs' (iQ lx) bx.fr (hs2.mono (by omega));have i2:=ih n (aU x) p hn2 (by omega) hrs' (jo lx) bx.bh (hs2.mono (by omega));have nt:=Mp S (by omega) hl (hrs r (by simp)) hrs' lx bx hs1;have i3:=ih n (ql r rs x) _ hn2 (by omega) hrs' (Aq S hl lx) (Ar (hrs r (by simp)) hrs' bx) hs2;rw [Av T hl lx] at i3;have es:=Ag (hr:=hr) (hn:=hn') (aY of r hr hn' x);have es':sgn (aY of r hr hn' x)=if sgn (of (aV x))=sgn (of (aU x))\/sgn (of (aU x))=0 then sgn (of (aV x)) else if sgn (of (aV x))=0 then sgn (of (aU x)) else sgn (of (aV x)) * sgn (of (aV x) * of (aV x) - of (aU x) * of (aU x) * of r):=es
   rw [es'];have z:¬(((rs.length + 1:Nat):Int)=0):=by omega
   show outD (mK (jP n) [some (.arg (RT (r :: rs))),some (.arg (TI x)),none,none,none])=_;unfold mK;generalize of (aV x) * of (aV x) - of (aU x) * of (aU x) * of r=nn at *;have mu:=eF (Fj (of (aV x))) (Fj nn)
   by_cases c1:sgn (of (aV x))=sgn (of (aU x))
   ·rw [if_pos (.inl c1)];push_cast [length_map,length_reverse,z,lV,wN,w_behind,i1,i2,c1]
   ·by_cases c2:sgn (of (aU x))=0
    ·rw [if_pos (.inr c2)];have c1':¬(sgn (of (aV x))=0):=fun q=>c1 (by rw [q,c2]);push_cast [length_map,length_reverse,z,lV,wN,w_behind,i1,i2,c2,c1']
    ·rw [if_neg (fun q=>q.elim c1 c2)]
     by_cases c3:sgn (of (aV x))=0
     ·rw [if_pos c3];have c1':¬(0=sgn (of (aU x))):=fun q=>c2 q.symm;push_cast [length_map,length_reverse,z,lV,wN,w_behind,i1,i2,c2,c3,c1']
     ·rw [if_neg c3];push_cast [length_map,length_reverse,z,lV,wN,w_behind,i1,i2,c1,c2,c3,nt,i3,mu]
theorem Fl (T:Tow rs F of) {u:F.C} {b:Int} (hb:0 < b):sgn (u / (b:F.C))=sgn u:=by
 have bp:=pD T hb;have h1:sgn ((b:F.C) * (u / (b:F.C)))=sgn (u / (b:F.C)):=by rw [sgn_mul,sgn_p.mpr bp,Int.one_mul]
 rw [<- h1]; congr 1; grind
theorem jT (T:Tow rs F of) (h3:rs.length<=3) (hrs:∀r∈rs,Bd ρ r) {p:Nat} {d:D} {u:F.C} (h:Nm of rs.length p d u) (hs:SOk ρ rs.length p):fP [RT rs,d]=.ok (.int (sgn u)):=by
 obtain ⟨x,b,rfl,nx,lx,bx,bb,ex⟩:=h;have pb:=nx.pos;have i:=Tw T 4 x p (by omega) h3 hrs lx bx hs;have i':vO [RT rs,TI x]=.ok (.int (sgn (of x))):=i;show outD (mL [some (.arg (RT rs)),some (.arg (num x b))])=_;unfold mL;rw [ex,Fl T pb];push_cast [i']
open Classical in
noncomputable def fabs {F:OF} (u:F.C):F.C:=if u < 0 then -u else u
theorem Aw (T:Tow rs F of) (h3:rs.length<=3) (hrs:∀r∈rs,Bd ρ r) {p:Nat} {d:D} {u:F.C} (h:Nm of rs.length p d u) (hs:SOk ρ rs.length p):∃z,jg [RT rs,d]=.ok z/\Nm of rs.length p z (fabs u):=by
 have i:=jT T h3 hrs h hs;have o:∀z,outD (jQ [some (.arg (RT rs)),some (.arg d)])=.ok z->jg [RT rs,d]=.ok z:=fun z q=>q;unfold fabs
 by_cases c:u < 0
 ·obtain ⟨z,ez,hz⟩:=n6 T h3 h;refine ⟨z,o z ?_,by rw [if_pos c]; exact hz⟩;unfold jQ;have e:=sgn_n.mpr c;push_cast [i,e,ez]
 ·refine ⟨d,o d ?_,by rw [if_neg c]; exact h⟩;unfold jQ;have e:¬(sgn u < 0):=by
   rcases lE u with ⟨_,e⟩ | ⟨_,e⟩ | ⟨h2,e⟩
   ·rw [e]; decide
   ·rw [e]; decide
   ·exact (c h2).elim
  push_cast [i,e]
noncomputable def oB (ρ:Nat):Nat->Nat->Nat
 | 0,p=>p
 | k + 1,p=>p + oB ρ k (2 * p + eT ρ (k + 1)) + eT ρ (k + 1)
theorem Tz (ρ:Nat):∀(k p:Nat),p<=oB ρ k p
 | 0,p=>Nat.le_refl _
 | k + 1,p=>by show p<=p + oB ρ k (2 * p + eT ρ (k + 1)) + eT ρ (k + 1); omega
theorem xR (T:Tow rs F of):∀(n p:Nat) (d:D) (u:F.C),rs.length < n->rs.length<=3->(∀r∈rs,Bd ρ r)->Nm of rs.length p d u->u≠0->oB ρ rs.length p<=8000 ->
  ∃z,je n [RT rs,d]=.ok z/\Nm of rs.length (oB ρ rs.length p) z (u⁻¹):=by
 induction T with
 | nil =>
  intro n p d u hn h3 hrs h u0 hp
  match n,hn with
  | n + 1,_ =>
   obtain ⟨x,b,rfl,nx,lx,bx,bb,ex⟩:=h
   match x,lx with
   | [a],_ =>
    have pb:=nx.pos;have a0:a≠0:=fun z=>u0 (by rw [ex,z]; show ((0:Int):Rat) / _=0; rw [show ((0:Int):Rat)=0 from rfl]; grind)
    have ab:a.natAbs < 2 ^ p:=bx a (by simp);obtain ⟨z,ez,hz⟩:=jR Tow.nil (by decide) (ts:=[b]) (b:=a) (n:=p) rfl a0 (fun t ht=>by rw [mem_singleton.mp ht]; exact bb) ab hp;have val:(((b:Int):Rat)) / ((a:Int):Rat)=(((a:Int):Rat) / ((b:Int):Rat))⁻¹:=by
     have h1:((a:Int):Rat)≠0:=fun z=>a0 (Rat.intCast_eq_zero_iff.mp z);have h2:((b:Int):Rat)≠0:=fun z=>absurd (Rat.intCast_eq_zero_iff.mp z) (by omega)
     grind
    refine ⟨z,?_,?_⟩
    ·show outD (jC (je n) [some (.arg (RT [])),some (.arg (num [a] b)),none])=_;unfold jC;have lQ:bA (TI [a]) (.int 0)=.ok (.int a):=ix_tup0 _ _;have ez':du [.tup [.int b],.int a]=.ok z:=ez;push_cast [reverse_nil,map_nil,map_cons,lQ,ez']
    ·rw [ex];have hz':Nm (F:=ratOF) (fun x=>((x.headD 0:Int):Rat)) 0 p z ((((b:Int):Rat)) / ((a:Int):Rat)):=hz;rw [val] at hz';exact hz'
 | @cons rs F of T r hl hr hn' ih =>
  intro n p d u hn h3 hrs h u0 hp
  match n,hn with
  | n + 1,hn =>
   have h3':rs.length + 1<=3:=h3;have hp':p + oB ρ rs.length (2 * p + eT ρ (rs.length + 1)) + eT ρ (rs.length + 1)<=8000:=hp;have hrs':∀r∈rs,Bd ρ r:=fun u hu=>hrs u (mem_cons_of_mem _ hu);have le:=Tz ρ rs.length (2 * p + eT ρ (rs.length + 1));obtain ⟨m,em_,hm⟩:=pH T (by omega) hl (hr:=hr) (hn:=hn') (hrs r (by simp)) hrs' h (by omega);obtain ⟨b,eb,hb⟩:=ih n _ m _ (Nat.lt_of_succ_lt_succ hn) (by omega) hrs' hm (Ml u u0) (by omega);obtain ⟨t,et,ht⟩:=wO T (by omega) h;obtain ⟨l,el,hl'⟩:=wQ T (by omega) (r:=r) (hr:=hr) (hn:=hn') hb;have TT:=Tow.cons T r hl hr hn';obtain ⟨z,ez,hz⟩:=eV TT h3 hrs ht hl' hp';rw [<- Mm u u0] at hz;refine ⟨z,?_,hz⟩;show outD (jC (je n) [some (.arg (RT (r :: rs))),some (.arg d),none])=_;unfold jC;have zz:¬(((rs.length + 1:Nat):Int)=0):=by omega
   push_cast [length_map,length_reverse,zz,lV,em_,eb,et,el,ez]
theorem jU (T:Tow rs F of) (h3:rs.length<=3) (hrs:∀r∈rs,Bd ρ r) {p q:Nat} {d e:D} {u v:F.C} (h1:Nm of rs.length p d u) (h2:Nm of rs.length q e v) (v0:v≠0) (hn:p + oB ρ rs.length q + eT ρ rs.length<=8000) :
  ∃z,dC [RT rs,d,e]=.ok z/\Nm of rs.length (p + oB ρ rs.length q + eT ρ rs.length) z (u / v):=by
 obtain ⟨i,ei,hi⟩:=xR T 4 q e v (by omega) h3 hrs h2 v0 (by omega);obtain ⟨z,ez,hz⟩:=eV T h3 hrs h1 hi hn;rw [show u * v⁻¹=u / v by grind] at hz;refine ⟨z,?_,hz⟩;have no:=cs' T h3 h2;have ei':rP [RT rs,e]=.ok i:=ei;show outD (jf [some (.arg (RT rs)),some (.arg d),some (.arg e)])=_;unfold jf;push_cast [no,v0,ei',ez]
end
theorem TF (l:Nat) (h:l<=3):bA (.lst [.int 1,.int 2,.int 4,.int 8]) (.int l)=.ok (.int ((2 ^ l:Nat):Int)):=by
 have:l=0\/l=1\/l=2\/l=3:=by omega
 rcases this with z | z | z | z <;> subst z
 ·exact ix_lst0 _ _
 ·exact ix_lst1 _ _ _
 ·exact ix_lst2 _ _ _ _
 ·exact ix_lst3 _ _ _ _ _
theorem up {x n:Nat} (h:x < 2 ^ n) (m:Nat) (e:n<=m):x < 2 ^ m:=Nat.lt_of_lt_of_le h (Nat.pow_le_pow_right (by decide) e)
noncomputable def mixV:List Int:=[271828183,314159269,161803399,141421357,173205081,223606797,244948975,264575131,331662479,360555127]
noncomputable def mix (c:Int) (k:Nat) (m:Int):Int:=Int.fmod (Int.fmod ((c + 1) * mixV.getD k 0) 1000000007) m
theorem vf (c:Int) (k:Nat) {m:Int} (h:0 < m):0<=mix c k m/\mix c k m < m:=⟨Int.fmod_nonneg_of_pos _ h,Int.fmod_lt_of_pos _ h⟩
theorem qC (c:Int) (k:Nat) (m:Int) (hk:k < 10) (hm:0 < m):cQ [.int c,.int k,.int m]=.ok (.int (mix c k m)):=by
 show outD (rH [some (.arg (.int c)),some (.arg (.int k)),some (.arg (.int m)),none])=_;unfold rH mix;have ad:a_ (.lst [.int 271828183,.int 314159269,.int 161803399,.int 141421357,.int 173205081]) (.lst [.int 223606797,.int 244948975,.int 264575131,.int 331662479,.int 360555127])=.ok (.lst (mixV.map .int)):=rfl;have hl:k < mixV.length:=hk;have hg:(mixV.map D.int)[k]? = some (.int (mixV.getD k 0)):=by
  rw [List.getElem?_map,getD_eq_getElem?_getD,List.getElem?_eq_getElem hl]; rfl
 have hs:∀v∈mixV,v.natAbs < 2 ^ 64:=by decide
 have hv:(mixV.getD k 0).natAbs < 2 ^ 64:=by
  rw [getD_eq_getElem?_getD,List.getElem?_eq_getElem hl]; exact hs _ (getElem_mem hl)
 push_cast [ad,yP _ k _ hg,Ho hv,h_ (show (1000000007:Int)≠0 by decide),h_ (Int.ne_of_gt hm)]
theorem TJ:cJ [[2]]/\cJ [[3,0],[2]]/\cJ [[5,0,0,0],[3,0],[2]]:=yZ (by decide) (by decide) (by decide) fun n hn=>by
 simp only [mem_cons,not_mem_nil,or_false] at hn;rcases hn with rfl | rfl | rfl | rfl | rfl | rfl | rfl
 ·exact ⟨1,by decide,by decide,by decide⟩
 ·exact ⟨1,by decide,by decide,by decide⟩
 ·exact ⟨2,by decide,by decide,by decide⟩
 ·exact ⟨2,by decide,by decide,by decide⟩
 ·exact ⟨3,by decide,by decide,by decide⟩
 ·exact ⟨3,by decide,by decide,by decide⟩
 ·exact ⟨5,by decide,by decide,by decide⟩
theorem TQ:cJ [[3]]/\cJ [[5,0],[3]]/\cJ [[7,0,0,0],[5,0],[3]]:=yZ (by decide) (by decide) (by decide) fun n hn=>by
 simp only [mem_cons,not_mem_nil,or_false] at hn;rcases hn with rfl | rfl | rfl | rfl | rfl | rfl | rfl
 ·exact ⟨1,by decide,by decide,by decide⟩
 ·exact ⟨2,by decide,by decide,by decide⟩
 ·exact ⟨3,by decide,by decide,by decide⟩
 ·exact ⟨2,by decide,by decide,by decide⟩
 ·exact ⟨4,by decide,by decide,by decide⟩
 ·exact ⟨5,by decide,by decide,by decide⟩
 ·exact ⟨10,by decide,by decide,by decide⟩
theorem TV:cJ [[5]]/\cJ [[7,0],[5]]/\cJ [[11,0,0,0],[7,0],[5]]:=yZ (by decide) (by decide) (by decide) fun n hn=>by
 simp only [mem_cons,not_mem_nil,or_false] at hn;rcases hn with rfl | rfl | rfl | rfl | rfl | rfl | rfl
 ·exact ⟨2,by decide,by decide,by decide⟩
 ·exact ⟨2,by decide,by decide,by decide⟩
 ·exact ⟨5,by decide,by decide,by decide⟩
 ·exact ⟨3,by decide,by decide,by decide⟩
 ·exact ⟨7,by decide,by decide,by decide⟩
 ·exact ⟨8,by decide,by decide,by decide⟩
 ·exact ⟨19,by decide,by decide,by decide⟩
theorem TX:cJ [[7]]/\cJ [[11,0],[7]]/\cJ [[13,0,0,0],[11,0],[7]]:=yZ (by decide) (by decide) (by decide) fun n hn=>by
 simp only [mem_cons,not_mem_nil,or_false] at hn;rcases hn with rfl | rfl | rfl | rfl | rfl | rfl | rfl
 ·exact ⟨2,by decide,by decide,by decide⟩
 ·exact ⟨3,by decide,by decide,by decide⟩
 ·exact ⟨8,by decide,by decide,by decide⟩
 ·exact ⟨3,by decide,by decide,by decide⟩
 ·exact ⟨9,by decide,by decide,by decide⟩
 ·exact ⟨11,by decide,by decide,by decide⟩
 ·exact ⟨31,by decide,by decide,by decide⟩
theorem TY:cJ [[11]]/\cJ [[13,0],[11]]/\cJ [[2,0,0,0],[13,0],[11]]:=yZ (by decide) (by decide) (by decide) fun n hn=>by
 simp only [mem_cons,not_mem_nil,or_false] at hn;rcases hn with rfl | rfl | rfl | rfl | rfl | rfl | rfl
 ·exact ⟨3,by decide,by decide,by decide⟩
 ·exact ⟨3,by decide,by decide,by decide⟩
 ·exact ⟨11,by decide,by decide,by decide⟩
 ·exact ⟨1,by decide,by decide,by decide⟩
 ·exact ⟨4,by decide,by decide,by decide⟩
 ·exact ⟨5,by decide,by decide,by decide⟩
 ·exact ⟨16,by decide,by decide,by decide⟩
theorem T3:cJ [[13]]/\cJ [[2,0],[13]]/\cJ [[3,0,0,0],[2,0],[13]]:=yZ (by decide) (by decide) (by decide) fun n hn=>by
 simp only [mem_cons,not_mem_nil,or_false] at hn;rcases hn with rfl | rfl | rfl | rfl | rfl | rfl | rfl
 ·exact ⟨3,by decide,by decide,by decide⟩
 ·exact ⟨1,by decide,by decide,by decide⟩
 ·exact ⟨5,by decide,by decide,by decide⟩
 ·exact ⟨1,by decide,by decide,by decide⟩
 ·exact ⟨6,by decide,by decide,by decide⟩
 ·exact ⟨2,by decide,by decide,by decide⟩
 ·exact ⟨8,by decide,by decide,by decide⟩
theorem T4 (i:Int) (h0:0<=i) (h6:i < 6):∃v1 v2 v3:Int,bA (.lst [.int 2,.int 3,.int 5,.int 7,.int 11,.int 13]) (.int i)=.ok (.int v1)/\bA (.lst [.int 2,.int 3,.int 5,.int 7,.int 11,.int 13]) (.int (Int.fmod (i + 1) 6))=.ok (.int v2)/\bA (.lst [.int 2,.int 3,.int 5,.int 7,.int 11,.int 13]) (.int (Int.fmod (i + 2) 6))=.ok (.int v3)/\v1.natAbs < 2 ^ 10/\v2.natAbs < 2 ^ 10/\v3.natAbs < 2 ^ 10/\cJ [[v1]]/\cJ [[v2,0],[v1]]/\cJ [[v3,0,0,0],[v2,0],[v1]]:=by
 have:i=0\/i=1\/i=2\/i=3\/i=4\/i=5:=by omega
 rcases this with z | z | z | z | z | z <;> rw [z]
 ·exact ⟨2,3,5,rfl,rfl,rfl,by decide,by decide,by decide,TJ⟩
 ·exact ⟨3,5,7,rfl,rfl,rfl,by decide,by decide,by decide,TQ⟩
 ·exact ⟨5,7,11,rfl,rfl,rfl,by decide,by decide,by decide,TV⟩
 ·exact ⟨7,11,13,rfl,rfl,rfl,by decide,by decide,by decide,TX⟩
 ·exact ⟨11,13,2,rfl,rfl,rfl,by decide,by decide,by decide,TY⟩
 ·exact ⟨13,2,3,rfl,rfl,rfl,by decide,by decide,by decide,T3⟩
theorem y_ {n:Nat} {a:Int} (h:a.natAbs < 2 ^ n):Bd n [a]:=fun t ht=>by rw [mem_singleton.mp ht]; exact h
theorem wR {n:Nat} {a:Int} {l:List Int} (h:a.natAbs < 2 ^ n) (hl:Bd n l):Bd n (a :: l):=fun t ht=>(mem_cons.mp ht).elim (fun z=>by rw [z]; exact h) (hl t)
theorem T5 (c:Int):∃R1 R2 R3:List Int,R1.length=1/\R2.length=2/\R3.length=4/\Bd 10 R1/\Bd 10 R2/\Bd 10 R3/\(cJ [R1]/\cJ [R2,R1]/\cJ [R3,R2,R1])/\∀level:Nat,rJ [.int c,.int level]=.ok (.tup ([TI R1,TI R2,TI R3].take level)):=by
 have b0:=vf c 0 (m:=6) (by decide);have x0:cQ [.int c,.int 0,.int 6]=_:=qC c 0 6 (by decide) (by decide);generalize mix c 0 6=y0 at b0 x0;have sq:(1 + y0) * (1 + y0)<=6 * 6:=Int.mul_le_mul (by omega) (by omega) (by omega) (by decide);have sq0:0<=(1 + y0) * (1 + y0):=Int.mul_nonneg (by omega) (by omega);have b1:=vf c 1 (m:=2 * (1 + y0)) (by omega);have x1:cQ [.int c,.int 1,.int (2 * (1 + y0))]=_:=qC c 1 (2 * (1 + y0)) (by decide) (by omega);generalize mix c 1 (2 * (1 + y0))=y1 at b1 x1;have b2:=vf c 2 (m:=3) (by decide);have x2:cQ [.int c,.int 2,.int 3]=_:=qC c 2 3 (by decide) (by decide);generalize mix c 2 3=y2 at b2 x2;have b3:=vf c 3 (m:=3) (by decide);have x3:cQ [.int c,.int 3,.int 3]=_:=qC c 3 3 (by decide) (by decide);generalize mix c 3 3=y3 at b3 x3;have br:(1 + y2) * (1 + y0)<=3 * 6:=Int.mul_le_mul (by omega) (by omega) (by omega) (by decide);have br0:0<=(1 + y2) * (1 + y0):=Int.mul_nonneg (by omega) (by omega);have b4:=vf c 4 (m:=(1 + y2) * (1 + y0) + 1) (by omega);have x4:cQ [.int c,.int 4,.int ((1 + y2) * (1 + y0) + 1)]=_:=qC c 4 ((1 + y2) * (1 + y0) + 1) (by decide) (by omega);generalize mix c 4 ((1 + y2) * (1 + y0) + 1)=y4 at b4 x4;have b5:=vf c 5 (m:=1 + y3) (by omega);have x5:cQ [.int c,.int 5,.int (1 + y3)]=_:=qC c 5 (1 + y3) (by decide) (by omega);generalize mix c 5 (1 + y3)=y5 at b5 x5;have x6:cQ [.int c,.int 6,.int 3]=_:=qC c 6 3 (by decide) (by decide);generalize mix c 6 3=y6 at x6;have b7:=vf c 7 (m:=6) (by decide);have x7:cQ [.int c,.int 7,.int 6]=_:=qC c 7 6 (by decide) (by decide);generalize mix c 7 6=y7 at b7 x7;have big:(1024:Nat)=2 ^ 10:=by decide
 have tiny:∀{a:Int},0<=a->a < 1000->a.natAbs < 2 ^ 1000:=fun {a} h1 h2=>Nat.lt_of_lt_of_le (show a.natAbs < 2 ^ 10 by rw [<- big]; omega) (Nat.pow_le_pow_right (by decide) (by decide));have m1:=xH (a:=1 + y0) (b:=1 + y0) (tiny (by omega) (by omega)) (tiny (by omega) (by omega));have m2:=xH (a:=2) (b:=1 + y0) (tiny (by omega) (by omega)) (tiny (by omega) (by omega));have m3:=xH (a:=1 + y2) (b:=1 + y0) (tiny (by omega) (by omega)) (tiny (by omega) (by omega));have z10:(0:Int).natAbs < 2 ^ 10:=by decide
 by_cases h:y6=0
 ·obtain ⟨v1,v2,v3,e1,e2,e3,w1,w2,w3,sc⟩:=T4 y7 b7.1 b7.2;refine ⟨[v1],[v2,0],[v3,0,0,0],rfl,rfl,rfl,y_ w1,wR w2 (y_ z10),wR w3 (wR z10 (wR z10 (y_ z10))),sc,fun level=>?_⟩;show outD (nZ [some (.arg (.int c)),some (.arg (.int level)),none,none,none,none,none,none,none])=_;unfold nZ;push_cast [x0,x1,x2,x3,x4,x5,x6,x7,m1,m2,m3,h,e1,e2,e3,h_ (show (6:Int)≠0 by decide),yS];rfl
 ·have ex:(1 + y0 + 1) * (1 + y0 + 1)=(1 + y0) * (1 + y0) + 2 * (1 + y0) + 1:=by grind
  have sn:=Tu (m:=(1 + y0) * (1 + y0) + 1 + y1) (r:=1 + y0) (c:=y4) (b:=1 + y2) (e:=y5) (k:=1 + y3) (by omega) (by omega) (by omega) (by omega) (by omega) (by omega) (by omega) (by omega);refine ⟨[(1 + y0) * (1 + y0) + 1 + y1],[y4,1 + y2],[y5,0,1 + y3,0],rfl,rfl,rfl,y_ (by rw [<- big]; omega),wR (by rw [<- big]; omega) (y_ (by rw [<- big]; omega)),wR (by rw [<- big]; omega) (wR z10 (wR (by rw [<- big]; omega) (y_ z10))),sn,fun level=>?_⟩;show outD (nZ [some (.arg (.int c)),some (.arg (.int level)),none,none,none,none,none,none,none])=_;unfold nZ;push_cast [x0,x1,x2,x3,x4,x5,x6,m1,m2,m3,h,yS];rfl
theorem T6 (c:Int) (level:Nat) (h:level<=3):∃rs F of,rJ [.int c,.int level]=.ok (RT rs)/\Tow rs F of/\rs.length=level/\∀r∈rs,Bd 10 r:=by
 obtain ⟨R1,R2,R3,l1,l2,l3,b1,b2,b3,⟨s1,s2,s3⟩,e⟩:=T5 c;have:level=0\/level=1\/level=2\/level=3:=by omega
 rcases this with z | z | z | z <;> subst z <;> rw [e]
 ·exact ⟨[],_,_,rfl,Tow.nil,rfl,fun r hr=>by cases hr⟩
 ·obtain ⟨F,of,T⟩:=s1;exact ⟨[R1],F,of,rfl,T,rfl,fun r hr=>by rw [mem_singleton.mp hr]; exact b1⟩
 ·obtain ⟨F,of,T⟩:=s2;refine ⟨[R2,R1],F,of,rfl,T,rfl,fun r hr=>?_⟩;rcases mem_cons.mp hr with z | z
  ·rw [z]; exact b2
  ·rw [mem_singleton.mp z]; exact b1
 ·obtain ⟨F,of,T⟩:=s3;refine ⟨[R3,R2,R1],F,of,rfl,T,rfl,fun r hr=>?_⟩;rcases mem_cons.mp hr with z | z
  ·rw [z]; exact b3
  ·rcases mem_cons.mp z with z | z
   ·rw [z]; exact b2
   ·rw [mem_singleton.mp z]; exact b1
theorem Fo (x y:List Int) (hl:x.length<=1000):nY [TI x,TI y]=.ok (TI (bM x y)):=by
 show outD (rn [some (.arg (TI x)),some (.arg (TI y))])=_;unfold rn;have c:=Hv (fe:=two (ak 0) (ak 1) a_) (fi:=cX ‹"f"› nP) (fr:=[]) (δ:=[some (.arg (TI x)),some (.arg (TI y))]) (rest:=[]) (xs:=x) (ys:=y) (g:=fun a b=>.int (a + b))
  (p_ (ds:=[TI x,TI y]) rfl rfl) rfl (Nat.le_trans hl (by decide)) fun a _ b _=>by push_cast [DL.ap_seq]
 rw [Ad] at c;push_cast [c]
theorem xT (k:Int) (x:List Int) (hl:x.length<=1000) (hk:k.natAbs < 2 ^ 200000) (hx:Bd 200000 x):fM [.int k,TI x]=.ok (TI (x.map (k * ·))):=by
 show outD (rA [some (.arg (.int k)),some (.arg (TI x))])=_;unfold rA;have c:=qR (fe:=two (ak 1) (ak 0) bK) (fi:=bindL (ak 1) aM) (fr:=[0]) (δ:=[some (.arg (.int k)),some (.arg (TI x))]) (rest:=[some (.arg (.int k))]) (ts:=x) (g:=fun t=>.int (k * t))
  (by push_cast [DL.ap_seq]) rfl (Nat.le_trans hl (by decide)) fun t ht=>by push_cast [eF hk (hx t ht)]
 rw [S7] at c;push_cast [c]
theorem w_lt {ρ:Nat}:∀(rs:List (List Int)) (n:Nat) (x y:List Int) (p q:Nat),rs.length < n->Sc rs->(∀r∈rs,Bd ρ r)->x.length=2 ^ rs.length->y.length=2 ^ rs.length->Bd p x->Bd q y->p + q + eT ρ rs.length<=200000->rs.length<=8 ->
  jO n [RT rs,TI x,TI y]=.ok (TI (lt rs x y))
 | _,0,_,_,_,_,h,_,_,_,_,_,_,_,_=>absurd h (Nat.not_lt_zero _)
 | [],n + 1,x,y,p,q,_,_,_,hx,hy,bx,by_,hb,_=>by
  show outD (mF (jO n) [some (.arg (RT [])),some (.arg (TI x)),some (.arg (TI y)),none,none,none,none,none])=_;unfold mF;have e1:=lJ bx.head (show p<=200000 by omega);have e2:=lJ by_.head (show q<=200000 by omega);have hx':x.length=1:=hx;push_cast [length_map,hx',Eu (qT (k:=0) hx),Eu (qT (k:=0) hy),eF e1 e2];rfl
 | r :: rs,n + 1,x,y,p,q,hn,S,hr,hx,hy,bx,by_,hb,h8=>by
  obtain ⟨hr1,S⟩:=S;have hb:p + q + (2 * eT ρ rs.length + ρ + 1)<=200000:=hb;have h8:rs.length + 1<=8:=h8;have hr':∀r∈rs,Bd ρ r:=fun u hu=>hr u (mem_cons_of_mem _ hu);have a:=iQ hx;have b:=jo hx;have c:=iQ hy;have d:=jo hy;have hn':rs.length < n:=Nat.lt_of_succ_lt_succ hn;have i1:=w_lt rs n (aV x) (aV y) p q hn' S hr' a c bx.fr by_.fr (by omega) (by omega);have i2:=w_lt rs n (aU x) (aU y) p q hn' S hr' b d bx.bh by_.bh (by omega) (by omega);have i3:=w_lt rs n (aV x) (aU y) p q hn' S hr' a d bx.fr by_.bh (by omega) (by omega);have i4:=w_lt rs n (aU x) (aV y) p q hn' S hr' b c bx.bh by_.fr (by omega) (by omega);have i5:=w_lt rs n r (lt rs (aU x) (aU y)) ρ (p + q + eT ρ rs.length) hn' S hr' hr1 (by rw [nA]; exact dX rs _ _ S b d) (hr r (by simp)) (by rw [nA]; exact iB rs hr' bx.bh by_.bh) (by omega) (by omega);have small:2 ^ rs.length<=256:=Nat.le_trans (Nat.pow_le_pow_right (by decide) (show rs.length<=8 by omega)) (by decide);have l1:(lt rs (aV x) (aV y)).length=2 ^ rs.length:=by rw [nA]; exact dX rs _ _ S a c
  have l2:(lt rs r (lt rs (aU x) (aU y))).length=2 ^ rs.length:=by rw [nA,nA]; exact dX rs _ _ S hr1 (dX rs _ _ S b d)
  have l3:(lt rs (aV x) (aU y)).length=2 ^ rs.length:=by rw [nA]; exact dX rs _ _ S a d
  have l4:(lt rs (aU x) (aV y)).length=2 ^ rs.length:=by rw [nA]; exact dX rs _ _ S b c
  have p1:=Fo (lt rs (aV x) (aV y)) (lt rs r (lt rs (aU x) (aU y))) (by omega);have p2:=Fo (lt rs (aV x) (aU y)) (lt rs (aU x) (aV y)) (by omega);have f1:=pC l1 l2;have f2:=pC l3 l4;have ad:=Ew (a:=bM (lt rs (aV x) (aV y)) (lt rs r (lt rs (aU x) (aU y)))) (b:=bM (lt rs (aV x) (aU y)) (lt rs (aU x) (aV y))) (qT f1) (by omega);show outD (mF (jO n) [some (.arg (RT (r :: rs))),some (.arg (TI x)),some (.arg (TI y)),none,none,none,none,none])=_;unfold mF;have z:¬((x.length:Int)=1):=by
   rw [hx]; show ¬(((2 ^ (rs.length + 1):Nat):Int)=1);have:=Nat.two_pow_pos rs.length;rw [Nat.pow_succ]; omega
  have fx:x.take (x.length / 2)=aV x:=rfl;have bx':x.drop (x.length / 2)=aU x:=rfl;have e:x.length / 2=y.length / 2:=by rw [hx,hy]
  have fy:y.take (x.length / 2)=aV y:=by rw [e]; rfl
  have by':y.drop (x.length / 2)=aU y:=by rw [e]; rfl
  push_cast [length_map,z,bs',lV,wG,wH,u9,fx,bx',fy,by',i1,i2,i3,i4,i5,p1,p2,ad,lt]
noncomputable def Rw {F:OF} (of:List Int->F.C) (k n:Nat) (d:D) (v:F.C):Prop :=
 ∃x b,d=num x b/\0 < b/\x.length=2 ^ k/\Bd n x/\b.natAbs < 2 ^ n/\v=of x / (b:F.C)
section
variable {rs:List (List Int)} {F:OF} {of:List Int->F.C} {ρ:Nat}
theorem _root_.Mine.Nm.rw {k n:Nat} {d:D} {v:F.C} (h:Nm of k n d v):Rw of k n d v:=by
 obtain ⟨x,b,h1,h2,h3,h4,h5,h6⟩:=h;exact ⟨x,b,h1,h2.pos,h3,h4,h5,h6⟩
theorem Rw.mono {k n m:Nat} {d:D} {v:F.C} (h:Rw of k n d v) (e:n<=m):Rw of k m d v:=by
 obtain ⟨x,b,h1,h2,h3,h4,h5,h6⟩:=h;exact ⟨x,b,h1,h2,h3,h4.mono e,Nat.lt_of_lt_of_le h5 (iR e),h6⟩
theorem fl_mul {a b c d:F.C}:a * c / (b * d)=a / b * (c / d):=by grind
theorem T7 {a b c d:F.C} (hb:b≠0) (hd:d≠0):(d * a + b * c) / (b * d)=a / b + c / d:=by grind
theorem Mt (T:Tow rs F of) (h3:rs.length<=3) (hr:∀r∈rs,Bd ρ r) {p q N:Nat} {d e:D} {u v:F.C} (h1:Rw of rs.length p d u) (h2:Rw of rs.length q e v) (hN:∀{x y:List Int},Bd p x->Bd q y->Bd N (pt rs x y)) (hq:p + q<=N) (hg:p + q + eT ρ rs.length<=200000) :
  ∃z,fO [RT rs,d,e]=.ok z/\Rw of rs.length N z (u * v):=by
 obtain ⟨x,b,rfl,pb,lx,bx,bb,ex⟩:=h1;obtain ⟨y,c,rfl,pc,ly,b_y,bc,ey⟩:=h2;have S:=T.sc;have t:jB [RT rs,TI x,TI y]=_:=w_lt rs 4 x y p q (by omega) S hr lx ly bx b_y hg (by omega);rw [nA] at t;refine ⟨num (pt rs x y) (b * c),?_,_,_,rfl,Int.mul_pos pb pc,dX rs x y S lx ly,hN bx b_y,Nat.lt_of_lt_of_le (ie bb bc) (iR (by omega)),?_⟩
 ·show outD (rK [some (.arg (RT rs)),some (.arg (num x b)),some (.arg (num y c))])=_;unfold rK;push_cast [t,eF (lJ bb (show p<=200000 by omega)) (lJ bc (show q<=200000 by omega))]
 ·rw [xM T lx ly,Lean.Grind.Ring.intCast_mul,ex,ey]; exact fl_mul.symm
theorem T8 (T:Tow rs F of) (h3:rs.length<=3) (hr:∀r∈rs,Bd ρ r) {p q:Nat} {d e:D} {u v:F.C} (h1:Rw of rs.length p d u) (h2:Rw of rs.length q e v) (hn:p + q + eT ρ rs.length<=200000) :
  ∃z,fO [RT rs,d,e]=.ok z/\Rw of rs.length (p + q + eT ρ rs.length) z (u * v) :=
 Mt T h3 hr h1 h2 (fun bx b_y=>iB rs hr bx b_y) (by omega) hn
theorem hQ' (T:Tow rs F of) (h3:rs.length<=3) {p q:Nat} {d e:D} {u v:F.C} (h1:Rw of rs.length p d u) (h2:Rw of rs.length q e v) (hn:p + q + 1<=200000) :
  ∃z,jc [d,e]=.ok z/\Rw of rs.length (p + q + 1) z (u + v):=by
 obtain ⟨x,b,rfl,pb,lx,bx,bb,ex⟩:=h1;obtain ⟨y,c,rfl,pc,ly,b_y,bc,ey⟩:=h2;have e8:=iC h3;have hb:=lJ bb (show p<=200000 by omega);have hc:=lJ bc (show q<=200000 by omega);have s1:=xT c x (by omega) hc (bx.mono (by omega));have s2:=xT b y (by omega) hb (b_y.mono (by omega));have ad:=Fo (x.map (c * ·)) (y.map (b * ·)) (by rw [length_map]; omega);refine ⟨num (bM (x.map (c * ·)) (y.map (b * ·))) (b * c),?_,_,_,rfl,Int.mul_pos pb pc,pC (by simpa using lx) (by simpa using ly),?_,Nat.lt_of_lt_of_le (ie bb bc) (iR (by omega)),?_⟩
 ·show outD (rE [some (.arg (num x b)),some (.arg (num y c))])=_;unfold rE;push_cast [s1,s2,ad,eF hb hc]
 ·have b1:=Ex bx bc;have b2:=Ex b_y bb;rw [Nat.add_comm q p] at b1;exact b1.add b2
 ·rw [vK T (by simpa using lx) (by simpa using ly),jz T _ lx,jz T _ ly,Lean.Grind.Ring.intCast_mul,ex,ey];exact (T7 (fL T (show b≠0 by omega)) (fL T (show c≠0 by omega))).symm
theorem Mu (T:Tow rs F of) {p:Nat} {d:D} {u:F.C} (h:Nm of rs.length p d u):kI [d,.int ((2 ^ rs.length:Nat):Int)]=.ok (.bl true):=by
 obtain ⟨x,b,rfl,nx,lx,bx,bb,ex⟩:=h;exact ks' (2 ^ rs.length) nx lx (qT lx)
end
theorem mO {k p:Nat} (h:k<=3) (hp:p<=20000):SOk 10 k p:=by
 have:k=0\/k=1\/k=2\/k=3:=by omega
 rcases this with z | z | z | z <;> subst z <;> simp only [SOk,eT] <;> omega
section
variable {rs:List (List Int)} {F:OF} {of:List Int->F.C} {ρ:Nat}
end
end Bk
namespace Bk
open PySem PySem.Spec PyProof.Rows L2 DL
noncomputable def rT:DS->Out :=
 (aH (aq (aj (two (aq ‹"f"› eZ) (two ‹97› (ak 1) bK) a_) (aj (two (ak 1) ‹10› bR) (aj ‹1000000007› ‹""›))) cQ))
noncomputable def ig:List D->Res D:=bG 2 2 rT
noncomputable def rW:DS->Out :=
 (aD (aG 2 (ak 1)) (aD (lN (bF 3) ‹"x"› (aG 2 (aq ‹"Y"› nW))) (aH ‹"k"›)))
noncomputable def ji:List D->Res D:=bG 2 4 rW
noncomputable def rY:DS->Out :=
 (aD (dJ 2 (aO 1 [0] (bF 0) (two (aq ‹"R"› cQ) ‹4› fZ) ‹"S"›)) (aD (bZ (aF (two (two (ak 0) ‹3› bR) ‹0› cV) aJ) (dJ 2 (two (bj (ak 2) bu (bL ‹1›)) (aO 1 [] (bF 0) ‹0› ‹"H"›) iH)) Out.nxt) (aD (bZ (aF (two (two (ak 0) ‹5› bR) ‹2› cV) aJ) (putD 2 (j9 ‹0›) ‹"g"›) Out.nxt) (aH (aq (aj (ak 2) (aj (two ‹1› (aq (aj (ak 0) (aj ‹9› (aj ‹4› ‹""›))) cQ) a_) ‹""›)) ji)))))
noncomputable def kO:List D->Res D:=bG 2 3 rY
noncomputable def rZ:DS->Out :=
 (aD (bZ (jJ (dI (aF (aq (ak 0) (iM Bk.is_tuple)) bf)) (aF (two ‹"c"› (ak 1) iK) aJ)) (aH (fun _=>.ok (.bl false))) Out.nxt) (aH (aq (aj (aO 1 [2] (bF 0) (aq ‹"f"› kI) ‹"x"›) ‹""›) iG)))
noncomputable def mQ:List D->Res D:=bG 3 3 rZ
noncomputable def sr:DS->Out :=
 (aH (aq (aj (aq ‹"s"› cO) (aj (aq (aj (ak 0) (aj ‹"h"› (aj ‹"C"› ‹""›))) cO) ‹""›)) cZ))
noncomputable def n8:List D->Res D:=bG 3 3 sr
noncomputable def mR:DS->Out :=
 (aD (aG 3 (aq (aj ‹"e"› (aj ‹"Z"› ‹""›)) iI)) (aD (aG 4 (aq (aj ‹"h"› (aj ‹"C"› ‹""›)) iI)) (aH (aq (aj (aq (aj (ak 0) (aj (ak 3) ‹"n"›)) fO) (aj (aq ‹"P"› fO) ‹""›)) jc))))
noncomputable def pJ:List D->Res D:=bG 3 5 mR
noncomputable def sy:DS->Out :=
 (aH (aZ (aj (aq (aj ‹"e"› ‹"b"›) iI) (aj (aq (aj ‹"h"› ‹"d"›) iI) ‹""›))))
noncomputable def sE:List D->Res D:=bG 2 2 sy
noncomputable def sG:DS->Out :=
 (aD (aG 3 (aq (aj (aq ‹"s"› fO) (aj (aq (aj (ak 0) (aj ‹"h"› (aj ‹"C"› ‹""›))) fO) ‹""›)) jc)) (aH (aq (aj (ak 3) (aj (two (ak 1) ‹2› bA) ‹""›)) iI)))
noncomputable def n_:List D->Res D:=bG 3 4 sG
end Bk
namespace Bk
open PySem PySem.Spec PyProof.Rows L2 DL Mine
theorem vg (ds:List D):(SV.own ds).view=.lst ds:=Eq.trans rfl rfl
theorem H_ (b:Bool):nM [.bl b]=.ok (.int (if b then 1 else 0)):=Eq.trans rfl rfl
theorem Fp (ts:List Int):aR (ts.map .int)=true:=by
 induction ts with
 | nil=>rfl
 | cons t ts ih=>rw [map_cons,aR,ih]; rfl
theorem Fq (i:Nat) {f:DS->Res D} {δ:DS} {ds:List D} (h:f δ=.ok (.lst ds)):dJ i f δ=.nxt (δ.set i (some (.own ds))):=by unfold dJ; rw [h]
theorem Ia {i:Nat} {fi fe:DS->Res D} {δ:DS} {ds:List D} {d:D} {z:Int} {j:Nat} (h1:δ[i]? = some (some (.own ds))) (h2:fe δ=.ok d) (h3:fi δ=.ok (.int z)) (h4:jY ds.length z=some j) (h5:aR ds=true) (h6:bQ d=true):putD i fi fe δ=.nxt (fH i ds j d δ):=by
 unfold putD;rw [h1]; dsimp only;rw [h2]; dsimp only [j7];rw [h3]; dsimp only [j7];rw [h4]; dsimp only;rw [if_pos ⟨h5,h6⟩]
theorem T9 {n k:Nat} (h:k < n):jY n (k:Int)=some k:=by
 unfold jY;rw [if_pos (by omega),if_pos (by omega)]
 congr 1
section
variable {rs:List (List Int)} {F:OF} {of:List Int->F.C} {ρ:Nat}
theorem zc (T:Tow rs F of):∀(n:Nat) (x:List Int) (p:Nat),rs.length < n->rs.length<=3->(∀r∈rs,Bd ρ r)->x.length=2 ^ rs.length->Bd p x->SOk ρ rs.length p ->
  jh n [RT rs,TI x]=.ok (.int (sgn (of x))):=by
 induction T with
 | nil =>
  intro n x p hn h3 hrs lx bx hs
  match n,hn,x,lx with
  | n + 1,_,[a],_ =>
   show outD (jD (jh n) [some (.arg (RT [])),some (.arg (TI [a])),none,none,none,none,none,none])=_;unfold jD;have lQ:bA (TI [a]) (.int 0)=.ok (.int a):=ix_tup0 _ _;have e:sgn (F:=ratOF) (((a:Int):Rat))=sg a:=Ms Tow.nil a;show _=Res.ok (D.int (sgn (F:=ratOF) (((a:Int):Rat))));rw [e];have l1:((List.map D.int [a]).length:Int)=1:=rfl;rcases Hz a with ⟨h,e⟩ | ⟨h,e⟩ | ⟨h,e⟩ <;> rw [e]
   ·subst h;push_cast [l1,lQ,H_]; rfl
   ·have h1:¬(a < 0):=by omega
    push_cast [l1,lQ,H_,h,h1]; rfl
   ·have h1:¬(0 < a):=by omega
    push_cast [l1,lQ,H_,h,h1]; rfl
 | @cons rs F of T r hl hr hn' ih =>
  intro n x p hn h3 hrs lx bx hs
  match n,hn with
  | n + 1,hn =>
   obtain ⟨hs1,hs2⟩:=hs;have h3':rs.length + 1<=3:=h3;have hrs':∀r∈rs,Bd ρ r:=fun u hu=>hrs u (mem_cons_of_mem _ hu);have hrr:=hrs r (by simp);have hn2:rs.length < n:=Nat.lt_of_succ_lt_succ hn;have S:=T.sc;have lf:=iQ lx;have lb:=jo lx;have e8:=iC (k:=rs.length) (by omega);have hp':2 * p + (2 * eT ρ rs.length + ρ + 1)<=200000:=hs1;have i1:=ih n (aV x) p hn2 (by omega) hrs' lf bx.fr (hs2.mono (by omega));have i2:=ih n (aU x) p hn2 (by omega) hrs' lb bx.bh (hs2.mono (by omega));have t2:jB [RT rs,TI (aU x),TI (aU x)]=_:=w_lt rs 4 _ _ p p (by omega) S hrs' lb lb bx.bh bx.bh (by omega) (by omega);rw [nA] at t2;have l2:=dX rs _ _ S lb lb;have t3:jB [RT rs,TI r,TI (pt rs (aU x) (aU x))]=_:=w_lt rs 4 _ _ ρ (p + p + eT ρ rs.length) (by omega) S hrs' hl l2 hrr (iB rs hrs' bx.bh bx.bh) (by omega) (by omega);rw [nA,yR rs r (pt rs (aU x) (aU x))] at t3;have t1:jB [RT rs,TI (aV x),TI (aV x)]=_:=w_lt rs 4 _ _ p p (by omega) S hrs' lf lf bx.fr bx.fr (by omega) (by omega);rw [nA] at t1;have l3:=dX rs _ _ S l2 hl;have l1:=dX rs _ _ S lf lf;have sc:=xT (-1) (pt rs (pt rs (aU x) (aU x)) r) (by omega) (Nat.lt_of_lt_of_le (show Int.natAbs (-1) < 2 ^ 1 by decide) (iR (by decide))) ((iB rs hrs' (iB rs hrs' bx.bh bx.bh) hrr).mono (by omega));rw [Ez] at sc;have ad:=Fo (pt rs (aV x) (aV x)) ((pt rs (pt rs (aU x) (aU x)) r).map fun t=>-t) (by omega);have i3:=ih n (ql r rs x) _ hn2 (by omega) hrs' (Aq S hl lx) (Ar hrr hrs' bx) hs2;rw [Av T hl lx] at i3;have nt:bM (pt rs (aV x) (aV x)) ((pt rs (pt rs (aU x) (aU x)) r).map fun t=>-t)=ql r rs x:=rfl;rw [nt] at ad;have es:=Ag (hr:=hr) (hn:=hn') (aY of r hr hn' x);have es':sgn (aY of r hr hn' x)=if sgn (of (aV x))=sgn (of (aU x))\/sgn (of (aU x))=0 then sgn (of (aV x)) else if sgn (of (aV x))=0 then sgn (of (aU x)) else sgn (of (aV x)) * sgn (of (aV x) * of (aV x) - of (aU x) * of (aU x) * of r):=es
   rw [es'];have z:¬((x.length:Int)=1):=by
    rw [lx]; show ¬(((2 ^ (rs.length + 1):Nat):Int)=1);have:=Nat.two_pow_pos rs.length;rw [Nat.pow_succ]; omega
   have fx:x.take (x.length / 2)=aV x:=rfl;have bx':x.drop (x.length / 2)=aU x:=rfl;show outD (jD (jh n) [some (.arg (RT (r :: rs))),some (.arg (TI x)),none,none,none,none,none,none])=_;unfold jD;generalize of (aV x) * of (aV x) - of (aU x) * of (aU x) * of r=nn at *;have mu:=eF (Fj (of (aV x))) (Fj nn)
   by_cases c1:sgn (of (aV x))=sgn (of (aU x))
   ·rw [if_pos (.inl c1)];push_cast [length_map,z,bs',wH,u9,fx,bx',lV,i1,i2,c1]
   ·by_cases c2:sgn (of (aU x))=0
    ·rw [if_pos (.inr c2)];have c1':¬(sgn (of (aV x))=0):=fun q=>c1 (by rw [q,c2]);push_cast [length_map,z,bs',wH,u9,fx,bx',lV,i1,i2,c2,c1']
    ·rw [if_neg (fun q=>q.elim c1 c2)]
     by_cases c3:sgn (of (aV x))=0
     ·rw [if_pos c3];have c1':¬(0=sgn (of (aU x))):=fun q=>c2 q.symm;push_cast [length_map,z,bs',wH,u9,fx,bx',lV,i1,i2,c2,c3,c1']
     ·rw [if_neg c3];push_cast [length_map,z,bs',wH,u9,fx,bx',lV,wG,i1,i2,c1,c2,c3,t1,t2,t3,sc,ad,i3,mu]
end
end Bk
namespace Bk
open PySem PySem.Spec PyProof.Rows L2 DL Mine Lean.Grind
section
variable {F:OF} {r:F.C} {hr:0 < r} {hn:∀z:F.C,z * z≠r}
theorem Ft:em (hr:=hr) (hn:=hn) (0:F.C)=0:=rfl
theorem lb' (x:F.C):em (hr:=hr) (hn:=hn) (-x)=-em x:=Ext.eqs (r:=r) rfl (show (0:F.C)=-0 by grind)
theorem T_ (x y:F.C):em (hr:=hr) (hn:=hn) (x - y)=em x - em y:=Ext.eqs (r:=r) rfl (show (0:F.C)=0 - 0 by grind)
theorem Fv {x:F.C} (h:0 < x):0 < em (hr:=hr) (hn:=hn) x:=yX h
theorem Mv {x y:F.C} (h:em (hr:=hr) (hn:=hn) x=em y):x=y:=congrArg (Ext.a (r:=r)) h
theorem Mw {x y:F.C} (h:x < y):em (hr:=hr) (hn:=hn) x < em y:=by
 have:=Fv (hr:=hr) (hn:=hn) (x:=y - x) (by grind);rw [T_] at this; grind
theorem Ua (x:F.C):sgn (em (hr:=hr) (hn:=hn) x)=sgn x:=by
 rcases lE x with ⟨h,e⟩ | ⟨h,e⟩ | ⟨h,e⟩ <;> rw [e]
 ·rw [h]; exact sgn_0.mpr rfl
 ·exact sgn_p.mpr (Fv h)
 ·have:=Fv (hr:=hr) (hn:=hn) (x:=-x) (by grind);rw [lb'] at this;exact sgn_n.mpr (by grind)
theorem Mx (x:F.C):em (hr:=hr) (hn:=hn) (x⁻¹)=(em x)⁻¹:=by
 by_cases c:x=0
 ·rw [c,show (0:F.C)⁻¹=0 by grind,Ft]; grind
 ·have e:em (hr:=hr) (hn:=hn) x * em (x⁻¹)=1:=by rw [<- Am,show x * x⁻¹=1 by grind]; rfl
  grind
theorem Ub (x y:F.C):em (hr:=hr) (hn:=hn) (x / y)=em x / em y:=by
 rw [show x / y=x * y⁻¹ by grind,Am,Mx]; grind
noncomputable def Ib (hr:0 < r) (hn:∀z:F.C,z * z≠r):(aN F r hr hn).C:=gQ hr hn 0 1
theorem My:0 < Ib hr hn:=by
 have:=OrderedRing.zero_lt_one (R:=F.C);exact Fe (Std.le_refl _) this
theorem Uc (x:(aN F r hr hn).C):x=em (Ext.a (r:=r) x) + em (Ext.b (r:=r) x) * Ib hr hn :=
 Ext.eqs (r:=r) (show Ext.a (r:=r) x=Ext.a (r:=r) x + (Ext.b (r:=r) x * 0 + 0 * 1 * r) by grind) (show Ext.b (r:=r) x=0 + (Ext.b (r:=r) x * 1 + 0 * 0) by grind)
end
section
variable {rs:List (List Int)} {F:OF} {of:List Int->F.C} {ρ:Nat}
noncomputable def hB (ρ:Nat):Nat->Nat->Nat
 | 0,p=>p
 | k + 1,p=>hB ρ k p + hB ρ k ρ + 1
theorem Ud (T:Tow rs F of) {a b:Int} (h:a<=b):((a:Int):F.C)<=((b:Int):F.C):=by
 by_cases c:a=b
 ·rw [c]; exact Std.le_refl _
 ·have:=pD T (k:=b - a) (by omega);rw [Ring.intCast_sub] at this; grind
theorem Ue (T:Tow rs F of) {a b:Int} (h:a < b):((a:Int):F.C) < ((b:Int):F.C):=by
 have:=pD T (k:=b - a) (by omega);rw [Ring.intCast_sub] at this; grind
theorem lt_int (T:Tow rs F of) {a b:Int} (h:((a:Int):F.C) < ((b:Int):F.C)):a < b:=by
 rcases Int.lt_or_le a b with c | c
 ·exact c
 ·have:=Ud T c; grind
theorem le_int (T:Tow rs F of) {a b:Int} (h:((a:Int):F.C)<=((b:Int):F.C)):a<=b:=by
 rcases Int.lt_or_le b a with c | c
 ·have:=Ue T c; grind
 ·exact c
end
theorem hR' {c:DS->Res Bool} {b:DS->Out} {m:Nat} {δ δ':DS} (h1:c δ=.ok true) (h2:b δ=.nxt δ'):bJ c b (m + 1) δ=bJ c b m δ':=by
 rw [bJ,h1];dsimp only;rw [h2]
theorem hT' {c:DS->Res Bool} {b:DS->Out} {m:Nat} {δ:DS} (h1:c δ=.ok false):bJ c b (m + 1) δ=.nxt δ:=by
 rw [bJ,h1]
theorem Fw {t:gb} {b:DS->Out} {d:D} {ds:List D} {δ δ1 δ2:DS} (h1:t d δ=some δ1) (h2:b δ1=.nxt δ2):di t b (d :: ds) δ=di t b ds δ2:=by
 rw [di,h1];dsimp only;rw [h2]
theorem Mz {t:gb} {b:DS->Out} {δ:DS}:di t b [] δ=.nxt δ:=Eq.trans rfl rfl
section
variable {rs:List (List Int)} {F:OF} {of:List Int->F.C} {ρ:Nat}
theorem wU (T:Tow rs F of) (h3:rs.length<=3) {p q:Nat} {d e:D} {u v:F.C} (h1:Rw of rs.length p d u) (h2:Rw of rs.length q e v) (hn:p + q + 1<=200000) :
  ∃z,iI [d,e]=.ok z/\Rw of rs.length (p + q + 1) z (u - v):=by
 obtain ⟨y,c,rfl,pc,ly,b_y,bc,ey⟩:=h2;have e8:=iC h3;have s1:=xT (-1) y (by omega) (Nat.lt_of_lt_of_le (show Int.natAbs (-1) < 2 ^ 1 by decide) (iR (by decide))) (b_y.mono (by omega));rw [Ez] at s1;have hneg:Rw of rs.length q (num (y.map fun t=>-t) c) (-v):=⟨_,_,rfl,pc,by simpa using ly,cJ' b_y,bc,by
  rw [xN T ly,ey];have c0:=fL T (show c≠0 by omega)
  grind⟩
 obtain ⟨z,ez,hz⟩:=hQ' T h3 h1 hneg hn;refine ⟨z,?_,by rwa [show u + -v=u - v by grind] at hz⟩;show outD (rF [some (.arg d),some (.arg (num y c))])=_;unfold rF;push_cast [s1,ez]
theorem Ie (T:Tow rs F of) (h3:rs.length<=3) (hr:∀r∈rs,Bd 10 r) {p:Nat} {x:List Int} {b:Int} {u:F.C} (h:Rw of rs.length p (num x b) u) (hp:p<=20000):dF [RT rs,TI x]=.ok (.int (sgn u)):=by
 obtain ⟨y,c,e,pc,ly,b_y,bc,ey⟩:=h;have e1:x=y:=by
  simp only [num,D.tup.injEq,List.cons.injEq,D.int.injEq,and_true] at e;have inj:∀(x y:List Int),x.map D.int=y.map D.int->x=y:=by
   intro x
   induction x with
   | nil=>intro y h; cases y with | nil=>rfl | cons _ _=>simp at h
   | cons a x ih =>
    intro y h
    cases y with
    | nil=>simp at h
    | cons a' y =>
     simp only [map_cons,List.cons.injEq,D.int.injEq] at h;rw [h.1,ih y h.2]
  exact inj _ _ e.1
 subst e1;have i:dF [RT rs,TI x]=_:=zc T 4 x p (by omega) h3 hr ly b_y (mO h3 hp);rw [i,ey,Fl T pc]
theorem cN' (ns:List Int) (k:Nat):∃c,ig [.lst (ns.map .int),.int (k:Int)]=.ok (.int c):=by
 have hc:=Aj ns k;have mu:dY (.int 97) (.int (k:Int))=.ok (.int (97 * (k:Int))):=by
  unfold dY;exact if_pos (.inr (.inl (intBits_le (show Int.natAbs 97 < 2 ^ 64 by decide))))
 have mo:=h_ (a:=(k:Int)) (show (10:Int)≠0 by decide);obtain ⟨j,hj⟩:∃j:Nat,Int.fmod (k:Int) 10=(j:Int)/\j < 10:=by
  have a:=Int.fmod_nonneg_of_pos (k:Int) (b:=10) (by decide);have b:=Int.fmod_lt_of_pos (k:Int) (b:=10) (by decide);exact ⟨(Int.fmod (k:Int) 10).toNat,by omega,by omega⟩
 rw [hj.1] at mo;have mx:=qC (cell ns k + 97 * (k:Int)) j 1000000007 hj.2 (by decide);refine ⟨mix (cell ns k + 97 * (k:Int)) j 1000000007,?_⟩
 ·show outD (rT [some (.arg (.lst (ns.map .int))),some (.arg (.int (k:Int)))])=_;unfold rT;push_cast [hc,mu,mo,mx]
theorem Fx (T:Tow rs F of) (h3:rs.length<=3) {p:Nat} {x:List Int} {b:Int} (lx:x.length=2 ^ rs.length) (bx:Bd p x) (pb:0 < b) (bb:b.natAbs < 2 ^ p) (hp:p<=8000) {w:D} (hw:w=.lst (x.map .int)\/w=TI x):∃z,ji [w,.int b]=.ok z/\Nm of rs.length p z (of x / (b:F.C)):=by
 obtain ⟨K,y,c,k0,e1,e2,nf,yl,kb,hN⟩:=vL T lx (show b≠0 by omega) bx bb;refine ⟨_,?_,hN⟩;have cp:=nf.pos;have kp:0 < K:=by
  rcases Int.lt_or_le 0 K with q | q
  ·exact q
  ·have:=Int.mul_nonpos_of_nonpos_of_nonneg q (Int.le_of_lt cp); omega
 have k8:K.natAbs < 2 ^ 8000:=HX kb hp;have e8:=iC h3;have hs:x.foldl cm b=K:=by
  rw [e1,e2,Li nf k0 (qT yl)]; omega
 have si:aM w=.ok (x.map .int):=by rcases hw with z | z <;> rw [z] <;> rfl
 obtain ⟨z',e⟩:=Er (i:=3) (f:=cm) (b:=aG 2 (aq ‹"Y"› nW))
  (fun acc z=>[some (.val w),some (.val (.int b)),some (.val (.int acc)),z])
  (fun acc z t=>by push_cast [L_]) x b none
 rw [hs] at e;have th:thaw [some (SV.arg w),some (.arg (.int b)),some (.val (.int b)),none]=[some (.val w),some (.val (.int b)),some (.val (.int b)),none]:=rfl;have th2:gO (Out.nxt [some (.val w),some (.val (.int b)),some (.val (.int K)),z'])=.nxt [some (.val w),some (.val (.int b)),some (.val (.int K)),z'.map thaw2]:=rfl;have cp':∀z2,aO 1 [2] (bF 0) (two (ak 0) (ak 1) bH) ‹"x"› [some (.val w),some (.val (.int b)),some (.val (.int K)),z2]=.ok (.lst (x.map fun t=>.int (Int.fdiv t K))):=fun z2 =>
  qR (rest:=[some (.arg (.int K))]) (by push_cast [si]) rfl (Nat.le_trans (show x.length<=63 by omega) (by decide)) fun t _=>by
   push_cast [qQ k0 k8]
 have cl:x.map (fun t=>D.int (Int.fdiv t K))=y.map .int:=by
  rw [e1,map_map];simp only [Function.comp_def,Hr _ _ k0]
 have cb':Int.fdiv b K=c:=by rw [e2,Hr _ _ k0]
 show outD (rW [some (.arg w),some (.arg (.int b)),none,none])=_;unfold rW;push_cast [si,th,e,th2,cp',cl,qQ k0 k8,cb']
theorem Ug (ds:List D) (k:Nat):cutD (.lst ds) none (some (k:Int))=.ok (.lst (ds.take k)):=by
 have h:=yS ds k;have h':Res.ok (D.tup (f9 ds none (some (k:Int))))=.ok (.tup (ds.take k)):=h;injection h' with h'
 injection h' with h'
 show Res.ok (D.lst (f9 ds none (some (k:Int))))=_;rw [h']
theorem Uh (ds:List D) (k:Nat):cutD (.lst ds) (some (k:Int)) none=.ok (.lst (ds.drop k)):=by
 have h:=Hu ds k;have h':Res.ok (D.tup (f9 ds (some (k:Int)) none))=.ok (.tup (ds.drop k)):=h;injection h' with h'
 injection h' with h'
 show Res.ok (D.lst (f9 ds (some (k:Int)) none))=_;rw [h']
theorem Ui (T:Tow rs F of) (h3:rs.length<=3) (c:Int) (N:Nat) (hN:70<=N\/(3<=N/\Int.fmod c 5≠2)) (h8:N<=8000):∃d v,kO [.int c,.int (rs.length:Int)]=.ok d/\Nm of rs.length N d v:=by
 have n3:8<=2 ^ N:=iR (n:=3) (by omega);have e8:=iC h3;have p0:=Nat.two_pow_pos rs.length;have m3:bR (.int c) (.int 3)=_:=h_ (show (3:Int)≠0 by decide);have m5:bR (.int c) (.int 5)=_:=h_ (show (5:Int)≠0 by decide);have d5:bH (.int c) (.int 5)=_:=qQ (show (5:Int)≠0 by decide) (Nat.lt_of_lt_of_le (show 5 < 2 ^ 3 by decide) (Nat.pow_le_pow_right (by decide) (by decide)));generalize Int.fdiv c 5=q at *;have p20:nF (.int 10) (.int 20)=.ok (.int (10 ^ 20)):=rfl;have mu2:dY (.int 2) (.int (10 ^ 20))=.ok (.int (2 * 10 ^ 20)):=eF (Nat.lt_of_lt_of_le (show Int.natAbs 2 < 2 ^ 2 by decide) (iR (by decide))) (Nat.lt_of_lt_of_le (show Int.natAbs (10 ^ 20) < 2 ^ 70 by decide) (iR (by decide)));have mB:=h_ (a:=q) (show (2 * 10 ^ 20 + 1:Int)≠0 by decide);have b0:=Int.fmod_nonneg_of_pos q (show (0:Int) < 2 * 10 ^ 20 + 1 by decide);have b1:=Int.fmod_lt_of_pos q (show (0:Int) < 2 * 10 ^ 20 + 1 by decide);generalize Int.fmod q (2 * 10 ^ 20 + 1)=big at *;have x9:cQ [.int c,.int 9,.int 4]=_:=qC c 9 4 (by decide) (by decide);have b9:=vf c 9 (m:=4) (by decide);generalize mix c 9 4=bot at *
 let tops:List Int:=((List.range (2 ^ rs.length)).map fun (k:Nat)=>(k:Int)).map fun t=>mix c t.toNat 9 - 4
 have tl:tops.length=2 ^ rs.length:=by simp [tops]
 have tb:Bd N tops:=fun t ht=>by
  obtain ⟨u,_,rfl⟩:=mem_map.mp ht;have:=vf c u.toNat (m:=9) (by decide);omega
 have mi:=TF rs.length h3;have c0:(aO 1 [0] (bF 0) (two (aq ‹"R"› cQ) ‹4› fZ) ‹"S"›) [some (.arg (.int c)),some (.arg (.int (rs.length:Int))),none]=.ok (.lst (tops.map .int)):=by
  have:=qR (fe:=(two (aq ‹"R"› cQ) ‹4› fZ)) (fi:=‹"S"›) (fr:=[0]) (δ:=[some (.arg (.int c)),some (.arg (.int (rs.length:Int))),none]) (rest:=[some (.arg (.int c))])
   (ts:=(List.range (2 ^ rs.length)).map fun (k:Nat)=>(k:Int)) (g:=fun t=>.int (mix c t.toNat 9 - 4)) (p_ (ds:=[.int ((2 ^ rs.length:Nat):Int)]) (by push_cast [mi]) (Ht _ (by omega))) rfl (by simp only [length_map,length_range]; exact Nat.le_trans e8 (by decide)) fun t ht=>by
    obtain ⟨j,hj,rfl⟩:=mem_map.mp ht;have hj':j < 2 ^ rs.length:=mem_range.mp hj;push_cast [qC c j 9 (by omega) (by decide),Int.toNat_natCast]
  rw [this];simp only [tops,map_map,Function.comp_def]
 have mid:∃ts:List Int,ts.length=2 ^ rs.length/\Bd N ts/\(bZ (aF (two (two (ak 0) ‹3› bR) ‹0› cV) aJ) (dJ 2 (two (bj (ak 2) bu (bL ‹1›)) (aO 1 [] (bF 0) ‹0› ‹"H"›) iH)) Out.nxt) [some (.arg (.int c)),some (.arg (.int (rs.length:Int))),some (.own (tops.map .int))]=.nxt [some (.arg (.int c)),some (.arg (.int (rs.length:Int))),some (.own (ts.map .int))]:=by
  by_cases h:Int.fmod c 3=0
  ·refine ⟨tops.take 1 ++ List.replicate (2 ^ rs.length - 1) 0,by simp [tl]; omega,Bd.app (fun t ht=>tb t (mem_of_mem_take ht)) (fun t ht=>by rw [eq_of_mem_replicate ht]; exact Nat.two_pow_pos N),?_⟩;have cz:aO 1 [] (bF 0) ‹0› ‹"H"› [some (.arg (.int c)),some (.arg (.int (rs.length:Int))),some (.own (tops.map .int))]=.ok (.lst ((List.replicate (2 ^ rs.length - 1) (0:Int)).map .int)):=by
    have:=qR (fe:=fun _=>.ok (.int 0)) (fi:=bindL (bj (ak 2) (bL ‹1›) bu) aM) (fr:=[]) (δ:=[some (.arg (.int c)),some (.arg (.int (rs.length:Int))),some (.own (tops.map .int))]) (rest:=[]) (ts:=tops.drop 1) (g:=fun _=>.int 0)
     (by
      have cd:cutD (.lst (tops.map .int)) (some 1) none=.ok (.lst ((tops.map .int).drop 1)):=Uh _ 1;push_cast [vg,cd,map_drop]) rfl (by rw [length_drop,tl]; exact Nat.le_trans (show 2 ^ rs.length - 1<=63 by omega) (by decide)) fun t ht=>rfl
    rw [this,Ac,length_drop,tl];simp
   have ct:cutD (.lst (tops.map .int)) none (some 1)=.ok (.lst ((tops.map .int).take 1)):=Ug _ 1;have cg:iH (.lst ((tops.map .int).take 1)) (.lst ((List.replicate (2 ^ rs.length - 1) (0:Int)).map .int))=.ok (.lst ((tops.take 1 ++ List.replicate (2 ^ rs.length - 1) 0).map .int)):=by
    show (if ((tops.map D.int).take 1).length + ((List.replicate (2 ^ rs.length - 1) (0:Int)).map D.int).length<=sizeLine then Res.ok (D.lst ((tops.map D.int).take 1 ++ (List.replicate (2 ^ rs.length - 1) (0:Int)).map D.int)) else .stuck)=_
    have bigL:(1000:Nat)<=sizeLine:=by decide
    rw [if_pos (by simp; omega),map_append,map_take]
   have oc:=Fq 2 (f:=two (bj (ak 2) bu (bL ‹1›)) (aO 1 [] (bF 0) ‹0› ‹"H"›) iH) (δ:=[some (.arg (.int c)),some (.arg (.int (rs.length:Int))),some (.own (tops.map .int))]) (ds:=(tops.take 1 ++ List.replicate (2 ^ rs.length - 1) 0).map .int) (by
    push_cast [vg,ct,cz,cg])
   push_cast [m3,h,oc]
  ·exact ⟨tops,tl,tb,by push_cast [m3,h]⟩
 obtain ⟨ts,sl,sb,es⟩:=mid;have mid2:∃ts':List Int,ts'.length=2 ^ rs.length/\Bd N ts'/\(bZ (aF (two (two (ak 0) ‹5› bR) ‹2› cV) aJ) (putD 2 (j9 ‹0›) ‹"g"›) Out.nxt) [some (.arg (.int c)),some (.arg (.int (rs.length:Int))),some (.own (ts.map .int))]=.nxt [some (.arg (.int c)),some (.arg (.int (rs.length:Int))),some (.own (ts'.map .int))]:=by
  by_cases h:Int.fmod c 5=2
  ·refine ⟨ts.set 0 (big - 10 ^ 20),by rw [length_set]; exact sl,fun t ht=>?_,?_⟩
   ·rcases mem_or_eq_of_mem_set ht with z | z
    ·exact sb t z
    ·have e70:(1180591620717411303424:Nat)<=2 ^ N:=iR (n:=70) (by rcases hN with g | g; exact g; exact (g.2 h).elim)
     rw [z]; omega
   ·have hp:(putD 2 (j9 ‹0›) ‹"g"›) [some (.arg (.int c)),some (.arg (.int (rs.length:Int))),some (.own (ts.map .int))]=.nxt [some (.arg (.int c)),some (.arg (.int (rs.length:Int))),some (.own ((ts.set 0 (big - 10 ^ 20)).map .int))]:=by
     have:=Ia (i:=2) (fi:=(j9 ‹0›)) (fe:=‹"g"›)
      (δ:=[some (.arg (.int c)),some (.arg (.int (rs.length:Int))),some (.own (ts.map .int))]) (ds:=ts.map .int) (d:=.int (big - 10 ^ 20)) (z:=0) (j:=0) rfl (by push_cast [d5,p20,mu2,mB]) (K7 rfl) (T9 (k:=0) (by rw [length_map,sl]; exact p0)) (Fp _) rfl
     rw [this];unfold fH;rw [map_set];have fl:=Fp ts;simp only [map_cons,map_nil,Option.bind_some,cM,fl,st2,↓reduceIte]
    simp only [ap_if,ap_bT,ap_two,sl0,bnd_ok,vw_arg,m5,h,eqI,bool_ok,ont_ok,decide_true,↓reduceIte,hp]
  ·exact ⟨ts,sl,sb,by push_cast [m5,h]⟩
 obtain ⟨ts',sl',sb',es'⟩:=mid2;have bb:(1 + bot).natAbs < 2 ^ N:=by omega
 obtain ⟨z,ez,hz⟩:=Fx T h3 sl' sb' (show 0 < 1 + bot by omega) bb h8 (.inl rfl);refine ⟨z,_,?_,hz⟩;show outD (rY [some (.arg (.int c)),some (.arg (.int (rs.length:Int))),none])=_;unfold rY;rw [ap_seq,Fq 2 c0];simp only [sq_nxt,st2,ap_seq (bZ _ _ _),es,es'];push_cast [x9,vg,ez]
end
theorem Fy {p:Prop} {i:Decidable p} {r:Res D} (h:r=.ok (.bl (@decide p i))) (c:p):r=.ok (.bl true):=by rw [h,_root_.decide_eq_true c]
theorem Ax {p:Prop} {i:Decidable p} {r:Res D} (h:r=.ok (.bl (@decide p i))) (c:¬p):r=.ok (.bl false):=by rw [h,_root_.decide_eq_false c]
section
variable {rs:List (List Int)} {F:OF} {of:List Int->F.C} {ρ:Nat}
theorem Fz {a:F.C} (h:0 < a):a≠0:=by grind
theorem MF (T:Tow rs F of) (h3:rs.length<=3) (hr:∀r∈rs,Bd ρ r) {p1 p2 q1 q2:Nat} {d1 d2 e1 e2:D} {r1 r2:List D} {u1 u2 v1 v2:F.C} (a1:Nm of rs.length p1 d1 u1) (a2:Nm of rs.length p2 d2 u2) (b1:Nm of rs.length q1 e1 v1) (b2:Nm of rs.length q2 e2 v2) (hn:p1 + q1 + eT ρ rs.length + (p2 + q2 + eT ρ rs.length) + 1<=8000) :
  ∃z,n8 [RT rs,.tup (d1 :: d2 :: r1),.tup (e1 :: e2 :: r2)]=.ok z/\Nm of rs.length (p1 + q1 + eT ρ rs.length + (p2 + q2 + eT ρ rs.length) + 1) z (u1 * v1 + u2 * v2):=by
 obtain ⟨x,ex,hx⟩:=eV T h3 hr a1 b1 (by omega);obtain ⟨y,ey,hy⟩:=eV T h3 hr a2 b2 (by omega);obtain ⟨z,ez,hz⟩:=eU T h3 hx hy (by omega);refine ⟨z,?_,hz⟩;show outD (sr [some (.arg (RT rs)),some (.arg (.tup (d1 :: d2 :: r1))),some (.arg (.tup (e1 :: e2 :: r2)))])=_;unfold sr;push_cast [ex,ey,ez]
theorem Uj (T:Tow rs F of) (h3:rs.length<=3) {p:Nat} {d1 d2 e1 e2:D} {u1 u2 v1 v2:F.C} (a1:Rw of rs.length p d1 u1) (a2:Rw of rs.length p d2 u2) (b1:Rw of rs.length p e1 v1) (b2:Rw of rs.length p e2 v2) (hn:p + p + 1<=20000) :
  ∃z1 z2,sE [.tup [d1,d2],.tup [e1,e2]]=.ok (.tup [z1,z2])/\Rw of rs.length (p + p + 1) z1 (v1 - u1)/\Rw of rs.length (p + p + 1) z2 (v2 - u2):=by
 obtain ⟨z1,ez1,hz1⟩:=wU T h3 b1 a1 (by omega);obtain ⟨z2,ez2,hz2⟩:=wU T h3 b2 a2 (by omega);refine ⟨z1,z2,?_,hz1,hz2⟩;show outD (sy [some (.arg (.tup [d1,d2])),some (.arg (.tup [e1,e2]))])=_;unfold sy;push_cast [ez1,ez2]
theorem Uk (a:List Int) (p:Int):dD 7 (num a p)=true:=by
 show ([D.tup (a.map .int),D.int p]:List D).all (dD 6)=true;simp only [all_cons,all_nil,Bool.and_true];rw [show dD 6 (D.tup (a.map .int))=(a.map D.int).all (dD 5) from rfl,yQ]; rfl
theorem MJ (a b:List Int) (p q:Int):dD 8 (.tup [num a p,num b q])=true:=by
 show ([num a p,num b q]:List D).all (dD 7)=true;simp only [all_cons,all_nil,Bool.and_true,Uk]
open Classical in
theorem Ul (T:Tow rs F of) {n m:Nat} {p1 p2 q1 q2:D} {u1 u2 v1 v2:F.C} (a1:Nm of rs.length n p1 u1) (a2:Nm of rs.length n p2 u2) (b1:Nm of rs.length m q1 v1) (b2:Nm of rs.length m q2 v2):cV (.tup [p1,p2]) (.tup [q1,q2])=.ok (.bl (decide (u1=v1/\u2=v2))):=by
 have h1:=Fb T a1 b1;have h2:=Fb T a2 b2;obtain ⟨x1,c1,rfl,_⟩:=a1;obtain ⟨x2,c2,rfl,_⟩:=a2;obtain ⟨y1,e1,rfl,_⟩:=b1;obtain ⟨y2,e2,rfl,_⟩:=b2;rw [Et] at h1 h2;injection h1 with h1; injection h1 with h1
 injection h2 with h2; injection h2 with h2
 unfold cV;rw [if_pos ⟨MJ x1 x2 c1 c2,MJ y1 y2 e1 e2⟩];have e:PyData.eqv (cI (.tup [num x1 c1,num x2 c2])) (cI (.tup [num y1 e1,num y2 e2]))=(PyData.eqv (cI (num x1 c1)) (cI (num y1 e1)) && (PyData.eqv (cI (num x2 c2)) (cI (num y2 e2)) && true)):=by
  simp only [cI,eE,PyData.eqv,PyData.eqvAll]
 rw [e,Ab,Ab,h1,h2,Bool.and_true]
 congr 2
 by_cases k1:u1=v1 <;> by_cases k2:u2=v2 <;> simp [k1,k2]
end
end Bk
namespace K24
open PySem PySem.Spec PyProof.Rows L2 DL Bk Mine
noncomputable def dZ:D->Option Bool
 | .excf c _ _=>if c = "NoMeet" then some true else none
 | .non=>some false
 | _=>none
noncomputable def cG:D->Option Bool
 | .excf c _ _=>if c = "NoMeet" then some true else none
 | .non=>some false
 | _=>none
noncomputable def d7:D->Option Bool
 | .excf c _ _=>if c = "NoMeet" then some false else none
 | .non=>some false
 | _=>none
noncomputable def cR (c:Str):Option Bool:=if c = "NoMeet" then some true else none
noncomputable def eG (c:Str):Bool:=c == "NoMeet"
abbrev Ig:V->Prop:=fun _=>True
theorem hU' {K:Frag} {fe:DS->Res D} (δ:DS) (d:D) (H:Hp) (v:V) (_:fe δ=.ok d) (_:Rep K H d v):Ig v:=trivial
noncomputable def top (i:Nat):Stmt:=PySem.Challenge.pw_compasshall_k24_lines_meet_rings.main.body.getD i (.Pass ⟨0,0,0,0⟩)
abbrev oh:Stmt:=top 8
abbrev sH:Stmt:=top 9
abbrev oA:Stmt:=top 16
abbrev sI:Stmt:=top 19
abbrev sJ:Stmt:=top 20
abbrev sO:Stmt:=top 21
abbrev sS:Stmt:=top 22
abbrev sU:Stmt:=top 23
abbrev sV:Stmt:=top 34
abbrev sW:Stmt:=top 46
abbrev sX:Stmt:=top 56
abbrev sY:Stmt:=top 57
abbrev sZ:Stmt:=top 58
abbrev tu:Stmt:=top 61
abbrev pK:Stmt:=top 62
abbrev tD:Stmt:=top 68
abbrev tE:Stmt:=top 78
abbrev kW:Stmt:=top 11
abbrev tG:Stmt:=top 14
abbrev tH:Stmt:=top 18
abbrev oE:Stmt:=top 26
abbrev tK:Stmt:=top 54
abbrev tL:Stmt:=top 59
abbrev tM:Stmt:=top 60
abbrev tO:Stmt:=top 65
abbrev tQ:Stmt:=top 69
abbrev pL:Stmt:=top 71
abbrev pM:Stmt:=top 79
abbrev tR:Stmt:=top 83
abbrev kY:Stmt:=top 12
abbrev oF:Stmt:=top 17
abbrev tU:Stmt:=top 40
abbrev tV:Stmt:=top 45
abbrev tW:Stmt:=top 66
abbrev pN:Stmt:=top 72
abbrev pO:Stmt:=top 77
abbrev oG:Stmt:=top 13
abbrev tX:Stmt:=top 53
abbrev tY:Stmt:=top 76
abbrev pP:Stmt:=top 82
abbrev pQ:Stmt:=top 84
abbrev mU:Stmt:=top 24
abbrev oH:Stmt:=top 44
abbrev mV:Stmt:=top 63
abbrev oJ:Stmt:=top 15
abbrev tZ:Stmt:=top 28
abbrev t6:Stmt:=top 64
abbrev oK:Stmt:=top 27
abbrev t7:Stmt:=top 37
abbrev t8:Stmt:=top 43
abbrev t_:Stmt:=top 52
abbrev oM:Stmt:=top 74
abbrev uc:Stmt:=top 75
abbrev oN:Stmt:=top 85
abbrev mW:Stmt:=top 70
abbrev mX:Stmt:=top 33
abbrev ud:Stmt:=top 80
abbrev ue:Stmt:=top 81
abbrev mY:Stmt:=top 30
abbrev oO:Stmt:=top 32
abbrev oR:Stmt:=top 29
abbrev oV:Stmt:=top 35
abbrev jj:Stmt:=top 39
abbrev uf:Stmt:=top 41
abbrev ug:Stmt:=top 42
abbrev kZ:Stmt:=top 49
abbrev uh:Stmt:=top 51
abbrev um:Stmt:=top 86
abbrev uo:Stmt:=top 87
abbrev vQ:Stmt:=top 88
theorem sc_qc1:FnScope ["a", "b", "one", "other", "rest"] ["a", "b"] (az oh):=‹"0"›
theorem sc_qy:FnScope ["n", "guess"] ["n"] (az sH):=‹"0"›
theorem xU:FnScope ["x", "many"] ["x", "many"] (az oA):=‹"0"›
theorem Ay:FnScope ["tops"] ["tops"] (az sI):=‹"0"›
theorem Az:FnScope ["tops"] ["tops"] (az sJ):=‹"0"›
theorem A_:FnScope ["tops"] ["tops"] (az sO):=‹"0"›
theorem Ba:FnScope ["one", "other"] ["one", "other"] (az sS):=‹"0"›
theorem Bb:FnScope ["tops"] ["tops"] (az sU):=‹"0"›
theorem Bc:FnScope ["n"] ["n"] (az sV):=‹"0"›
theorem Be:FnScope ["b"] ["b"] (az sW):=‹"0"›
theorem Bf:FnScope ["_law_script", "_law_k"] ["_law_script", "_law_k"] (az sX):=‹"0"›
theorem Bg:FnScope ["_law_found"] ["_law_found"] (az sY):=‹"0"›
theorem sc_qI:FnScope ["_law_cell_here", "_law_k", "_law_many", "_law_some"] ["_law_cell_here", "_law_k", "_law_many"] (az sZ):=‹"0"›
theorem Bh:FnScope ["_law_one", "_law_other"] ["_law_one", "_law_other"] (az tu):=‹"0"›
theorem Bj:FnScope ["_law_k", "_law_one"] ["_law_k", "_law_one"] (az pK):=‹"0"›
theorem sc_qC:FnScope ["_law_one", "_law_other", "_law_rest"] ["_law_one", "_law_other"] (az tD):=‹"0"›
theorem Bl:FnScope ["_law_x", "_law_many"] ["_law_x", "_law_many"] (az tE):=‹"0"›
theorem sc_qk1:FnScope ["tops", "bottom", "shared", "top"] ["tops", "bottom"] (az kW):=‹"0"›
theorem Bm:FnScope ["x"] ["x"] (az tG):=‹"0"›
theorem Bo:FnScope ["x"] ["x"] (az tH):=‹"0"›
theorem xV:FnScope ["x"] ["x"] (az oE):=‹"0"›
theorem Bp:FnScope ["roots", "pair"] ["roots", "pair"] (az tK):=‹"0"›
theorem Bq:FnScope ["_law_script", "_law_k"] ["_law_script", "_law_k"] (az tL):=‹"0"›
theorem sc_ql:FnScope ["_law_cell_here", "_law_many", "_law_r", "_law_m", "_law_b", "_law_k", "_law_roots", "_law_primes", "_law_at"] ["_law_cell_here", "_law_many"] (az tM):=‹"0"›
theorem Br:FnScope ["_law_one", "_law_other"] ["_law_one", "_law_other"] (az tO):=‹"0"›
theorem sc_qh:FnScope ["_law_found", "_law_many", "_law_shared", "_law_top"] ["_law_found", "_law_many"] (az tQ):=‹"0"›
theorem sc_qL:FnScope ["_law_tops_here", "_law_bottom", "_law_shared", "_law_top"] ["_law_tops_here", "_law_bottom"] (az pL):=‹"0"›
theorem Bs:FnScope ["_law_numbers", "_law_many"] ["_law_numbers", "_law_many"] (az pM):=‹"0"›
theorem Bt:FnScope ["_law_found", "_law_many"] ["_law_found", "_law_many"] (az tR):=‹"0"›
theorem sc_ql1:FnScope ["x", "y", "tops"] ["x", "y"] (az kY):=‹"0"›
theorem xW:FnScope ["x"] ["x"] (az oF):=‹"0"›
theorem sc_qa:FnScope ["x", "product", "whole"] ["x"] (az tU):=‹"0"›
theorem Bu:FnScope ["x"] ["x"] (az tV):=‹"0"›
theorem Bv:FnScope ["_law_one", "_law_other"] ["_law_one", "_law_other"] (az tW):=‹"0"›
theorem sc_qr:FnScope ["_law_cell_here", "_law_many", "_law_tops_here"] ["_law_cell_here", "_law_many"] (az pN):=‹"0"›
theorem Bw:FnScope ["_law_found", "_law_count", "_law_many"] ["_law_found", "_law_count", "_law_many"] (az pO):=‹"0"›
theorem xX:FnScope ["x", "y"] ["x", "y"] (az oG):=‹"0"›
theorem Bx:FnScope ["one", "other"] ["one", "other"] (az tX):=‹"0"›
theorem By:FnScope ["_law_one", "_law_other"] ["_law_one", "_law_other"] (az tY):=‹"0"›
theorem sc_qE:FnScope ["_law_found", "_law_roots", "_law_extra", "_law_many"] ["_law_found", "_law_roots", "_law_extra"] (az pP):=‹"0"›
theorem sc_qU:FnScope ["_law_script", "_law_at", "_law_many", "_law_line_here", "_law_nought"] ["_law_script", "_law_at", "_law_many"] (az pQ):=‹"0"›
theorem sc_qF:FnScope ["roots", "one", "other", "beneath", "a", "b", "c", "d", "squared", "front", "behind"] ["roots", "one", "other"] (az mU):=‹"0"›
theorem xY:FnScope ["a", "n"] ["a", "n"] (az oH):=‹"0"›
theorem sc_qe:FnScope ["_law_roots", "_law_one", "_law_other", "_law_half", "_law_below", "_law_both", "_law_left", "_law_cross"] ["_law_roots", "_law_one", "_law_other"] (az mV):=‹"0"›
theorem xZ:FnScope ["roots", "x", "y"] ["roots", "x", "y"] (az oJ):=‹"0"›
theorem sc_qN:FnScope ["roots", "tops", "beneath", "a", "b", "squared"] ["roots", "tops"] (az tZ):=‹"0"›
theorem BJ:FnScope ["_law_roots", "_law_one", "_law_other"] ["_law_roots", "_law_one", "_law_other"] (az t6):=‹"0"›
theorem x_:FnScope ["roots", "x"] ["roots", "x"] (az oK):=‹"0"›
theorem BK:FnScope ["roots", "one", "other"] ["roots", "one", "other"] (az t7):=‹"0"›
theorem BL:FnScope ["roots", "a"] ["roots", "a"] (az t8):=‹"0"›
theorem BP:FnScope ["roots", "pair", "x"] ["roots", "pair", "x"] (az t_):=‹"0"›
theorem sc_qb1:FnScope ["_law_roots", "_law_one", "_law_other", "_law_across", "_law_up"] ["_law_roots", "_law_one", "_law_other"] (az oM):=‹"0"›
theorem sc_qt:FnScope ["_law_roots", "_law_line_here", "_law_point_here", "_law_both"] ["_law_roots", "_law_line_here", "_law_point_here"] (az uc):=‹"0"›
theorem sc_qi1:FnScope ["_law_roots", "_law_line_here", "_law_ring", "_law_both", "_law_off", "_law_found"] ["_law_roots", "_law_line_here", "_law_ring"] (az oN):=‹"0"›
theorem sc_qu:FnScope ["_law_roots", "_law_tops_here", "_law_half", "_law_below", "_law_here", "_law_there", "_law_square", "_law_other"] ["_law_roots", "_law_tops_here"] (az mW):=‹"0"›
theorem sc_qm:FnScope ["roots", "tops", "beneath", "front", "behind"] ["roots", "tops"] (az mX):=‹"0"›
theorem BR:FnScope ["_law_roots", "_law_ring", "_law_point_here"] ["_law_roots", "_law_ring", "_law_point_here"] (az ud):=‹"0"›
theorem BV:FnScope ["_law_roots", "_law_line_here", "_law_point_here"] ["_law_roots", "_law_line_here", "_law_point_here"] (az ue):=‹"0"›
theorem sc_qV:FnScope ["roots", "y", "beneath"] ["roots", "y"] (az mY):=‹"0"›
theorem yc:FnScope ["roots", "x"] ["roots", "x"] (az oO):=‹"0"›
theorem yd:FnScope ["roots", "x", "y"] ["roots", "x", "y"] (az oR):=‹"0"›
theorem ye:FnScope ["roots", "x"] ["roots", "x"] (az oV):=‹"0"›
theorem sc_qq1:FnScope ["roots", "x", "parts"] ["roots", "x"] (az jj):=‹"0"›
theorem sc_qi:FnScope ["roots", "a", "beneath", "numbers", "told"] ["roots", "a"] (az uf):=‹"0"›
theorem sc_qn:FnScope ["roots", "a", "b", "product", "beneath", "n", "middle", "u", "behind"] ["roots", "a", "b", "product"] (az ug):=‹"0"›
theorem sc_qj1:FnScope ["roots", "x", "told", "under", "front", "last"] ["roots", "x"] (az kZ):=‹"0"›
theorem sc_qj:FnScope ["roots", "line", "ring", "n", "h", "w", "told", "aside", "foot", "way", "step", "back"] ["roots", "line", "ring"] (az uh):=‹"0"›
theorem sc_qx:FnScope ["_law_roots", "_law_line_here", "_law_ring", "_law_w_here", "_law_met", "e"] ["_law_roots", "_law_line_here", "_law_ring", "_law_w_here"] (az um):=‹"0"›
theorem sc_qf:FnScope ["_law_roots", "_law_line_here", "_law_ring", "_law_w_here", "_law_found", "_law_many", "_law_point_here", "_law_way_here", "_law_along"] ["_law_roots", "_law_line_here", "_law_ring", "_law_w_here"] (az uo):=‹"0"›
theorem sc_law:FnScope ["_law_script", "_law_many", "_law_roots", "_law_s", "_law_ring", "_law_line_here", "_law_near", "_law_w_here", "_law_back"] ["_law_script"] (az vQ):=‹"0"›
noncomputable def uq:DS->Out :=
 (aH (aZ (aj (two (two (aZ (aj ‹0› ‹""›)) (aq ‹"b"› bI) bK) ‹"t"› a_) ‹"d"›)))
noncomputable def mZ:List D->Res D:=bG 1 1 uq
noncomputable def ur:DS->Out :=
 (aH (aZ (aj (two ‹"t"› (aq (aj (aO 1 [] (bF 0) ‹0› ‹"L"›) ‹""›) bY) a_) ‹"d"›)))
noncomputable def gK:List D->Res D:=bG 2 2 ur
noncomputable def uv:DS->Out :=
 (aH (aZ (aj (aq (aj ‹"e"› ‹"N"›) cN) (aj (aq (aj ‹"h"› ‹"N"›) cN) ‹""›))))
noncomputable def m6:List D->Res D:=bG 2 2 uv
noncomputable def uw:DS->Out :=
 (aH (aq (aj (aO 1 [1] (bF 0) (aq ‹"f"› gK) ‹"x"›) ‹""›) bY))
noncomputable def oW:List D->Res D:=bG 2 2 uw
noncomputable def ux:DS->Out :=
 (aD (bZ (jJ (dI (aF (aq (ak 0) (iM Bk.is_tuple)) bf)) (aF (two ‹"c"› (ak 1) iK) aJ)) (aH (fun _=>.ok (.bl false))) Out.nxt) (aH (aq (aj (aO 1 [] (bF 0) (aq (aj (ak 0) ‹""›) l_) ‹"x"›) ‹""›) iG)))
noncomputable def uy:List D->Res D:=bG 2 2 ux
noncomputable def oY:DS->Out :=
 (aD (aG 1 (two (two ‹"t"› ‹0› bA) ‹"q"› bK)) (aD (bZ (aF (two (ak 1) ‹0› ‹"p"›) aJ) (aH (fun _=>.ok .non)) Out.nxt) (aD (aG 2 (aq ‹"a"› vP)) (aD (bZ (aF (two (two (ak 2) (ak 2) bK) (ak 1) iK) aJ) (aH (fun _=>.ok .non)) Out.nxt) (aH (aq (aj (aZ ‹"K"›) ‹"d"›) du))))))
noncomputable def oZ:List D->Res D:=bG 1 3 oY
noncomputable def uz:DS->Out :=
 (aH (aq (aj ‹"t"› (aj (two ‹2› ‹"q"› bK) ‹""›)) du))
noncomputable def uA:List D->Res D:=bG 1 1 uz
noncomputable def uC:DS->Out :=
 (aH (aZ (aj (aq (aj ‹"t"› ‹"E"›) cZ) (aj (aq (aj ‹"q"› (aj ‹"h"› ‹""›)) cZ) ‹""›))))
noncomputable def jk:List D->Res D:=bG 2 2 uC
noncomputable def uD:DS->Out :=
 (aD (bZ (jJ (dI (aF (aq (ak 0) (iM Bk.is_tuple)) bf)) (jJ (aF (two ‹"c"› ‹2› iK) aJ) (dI (aF (aq ‹"t"› (iM Bk.is_tuple)) bf)))) (aH (fun _=>.ok (.bl false))) Out.nxt) (aD (bZ (jJ (aF (two (bj ‹"t"› bu (bL (aq ‹"a"› bI))) (ak 1) iK) aJ) (aF (two (two (aq ‹"b"› bI) (aq ‹"a"› bI) fZ) (ak 2) dM) aJ)) (aH (fun _=>.ok (.bl false))) Out.nxt) (aD (aG 3 (two ‹"o"› (aq ‹"b"› bI) bA)) (aD (bZ (jZ (aF (two (aq ‹"b"› bI) (aq ‹"a"› bI) ‹"A"›) aJ) (dI (aF (aq (aj (two ‹"t"› (gF ‹1›) bA) (aj (two (ak 3) ‹2› bH) ‹""›)) uy) bf))) (aH (fun _=>.ok (.bl false))) Out.nxt) (aD (bZ (jJ (dI (aF (aq ‹"q"› (iM Bk.is_list)) bf)) (aF (two (aq ‹"d"› bI) (aZ (aj ‹1› (aj ‹2› ‹""›))) dM) aJ)) (aH (fun _=>.ok (.bl false))) Out.nxt) (aD (bZ (jZ (aF (two (aq ‹"d"› bI) ‹2› cV) aJ) (aF (two (two ‹"q"› ‹0› bA) (two ‹"q"› ‹1› bA) cV) aJ)) (aH (fun _=>.ok (.bl false))) Out.nxt) (aH (aq (aj (aO 1 [3] (bF 0) (aq ‹"T"› mQ) (bindL ‹"q"› aM)) ‹""›) iG))))))))
noncomputable def qm:List D->Res D:=bG 3 4 uD
noncomputable def uE:DS->Out :=
 (j_ (dJ 3 (aO 1 [2,0,1] (bF 0) (aq (aj (two (two (two (aq ‹"y"› ig) ‹5› bH) ‹5› bK) ‹"r"› a_) ‹"a"›) kO) (cX (aj ‹3› ‹""›) jw))) (j_ (aG 4 (aq (aj (aq (aj ‹0› (aj (two ‹"j"› ‹0› bA) ‹""›)) fM) (aj ‹1› ‹""›)) ji)) (j_ (bZ ‹"u"› (putD 3 (j9 (two (aq ‹"f"› eZ) ‹2› bR)) ‹"i"›) Out.nxt) (kh 3))))
noncomputable def qp:List D->Res D:=bG 3 5 uE
noncomputable def m8:DS->Out :=
 (aH (jx (aj (aq (aj (aq ‹"f"› cZ) ‹""›) uA) (aj (aq (aj (aq ‹"f"› iz) ‹""›) uA) ‹""›))))
noncomputable def m9:List D->Res D:=bG 2 2 m8
noncomputable def uF:DS->Out :=
 (aH (jx (aj (ak 1) (aj (aq (aj ‹"m"› (aj (ak 1) (aj (aZ (aj ‹"M"› (aj ‹1› ‹""›))) ‹""›))) cO) ‹""›))))
noncomputable def o7:List D->Res D:=bG 2 2 uF
noncomputable def uG:DS->Out :=
 (aH (aZ (aj (aq (aj (ak 0) (aj ‹"e"› ‹"K"›)) cO) (aj (aq (aj (ak 0) (aj ‹"h"› ‹"K"›)) cO) ‹""›))))
noncomputable def k_:List D->Res D:=bG 3 3 uG
noncomputable def m_:DS->Out :=
 (aD (aG 3 (aq (aj (aq (aj (ak 0) (aj ‹"e"› ‹"E"›)) fO) (aj (aq (aj (ak 0) (aj ‹"h"› (aj ‹"h"› ‹""›))) fO) ‹""›)) jc)) (aD (aG 4 (aq ‹"l"› n_)) (aD (aG 5 (aq (aj (aq (aj (ak 0) (aj (two (ak 2) ‹2› bA) ‹"n"›)) fO) (aj (aq ‹"P"› fO) ‹""›)) iI)) (aH (aq (aj (two (ak 5) ‹0› bA) (aj (two (ak 5) ‹1› bA) ‹""›)) ji)))))
noncomputable def ni:List D->Res D:=bG 3 6 m_
noncomputable def uH:DS->Out :=
 (aH (two (aq (aj (ak 0) (aj (two (aq (aj (aq (aj (ak 0) (aj (ak 2) ‹"a"›)) pJ) (aj (two (ak 1) ‹2› bA) ‹""›)) iI) ‹0› bA) ‹""›)) dF) ‹0› cV))
noncomputable def jE:List D->Res D:=bG 3 3 uH
noncomputable def uI:DS->Out :=
 (aH (two (aq (aj (ak 0) (aj (two (aq ‹"l"› n_) ‹0› bA) ‹""›)) dF) ‹0› cV))
noncomputable def jF:List D->Res D:=bG 3 3 uI
noncomputable def fQ (R:List D->Res D):DS->Out :=
 (aD (aG 2 ‹"m"›) (aD (aG 3 (aq ‹"f"› o7)) (aD (aG 4 (aq (aj (ak 2) ‹"I"›) R)) (aD (bZ (aF (two (ak 4) (fun _=>.ok .non) bW) aJ) (aH (aq (aj (ak 4) ‹"N"›) cN)) Out.nxt) (aD (aG 4 (aq (aj (ak 2) (aj (two (ak 3) ‹1› bA) ‹""›)) R)) (aD (bZ (aF (two (ak 4) (fun _=>.ok .non) cL) aJ) (aH (fun _=>.ok .non)) Out.nxt) (aH (aq (aj (aq (aj (ak 2) (aj (ak 4) (aj (aZ (aj ‹"M"› (aj ‹1› ‹""›))) ‹""›))) dC) ‹""›) mZ))))))))
noncomputable def gU (R:List D->Res D):DS->Out :=
 (aD (aG 4 ‹"m"›) (aD (aG 5 (aq (aj (ak 4) ‹"n"›) R)) (aD (bZ (aF (two (ak 5) (fun _=>.ok .non) cL) aJ) (aH (fun _=>.ok .non)) Out.nxt) (aD (lN (bF 6) (bindL (aq (aj (ak 1) ‹"F"›) m9) aM) (aD (aG 7 (aq (aj (ak 4) ‹"z"›) R)) (bZ ‹"J"› (aD (aG 8 (aq (aj (aq (aj (ak 4) (aj (ak 2) (aj (aq (aj (ak 7) ‹"G"›) cZ) ‹""›))) dC) ‹""›) mZ)) (aH (aq (aj (ak 0) (aj (aq (aj (aq (aj (ak 7) ‹"N"›) cN) (aj (ak 8) ‹""›)) cZ) ‹""›)) jg))) Out.nxt))) (aH (fun _=>.ok .non))))))
noncomputable def d9 (R:List D->Res D):DS->Out :=
 (aD (bZ ‹"V"› (aH (aq ‹"a"› oZ)) Out.nxt) (aD (aG 2 (aq ‹"a"› jM)) (aD (bZ (aF (aq (aj ‹"C"› ‹""›) gJ) bf) (aH (aq (aj (ak 0) (aj ‹"Z"› ‹""›)) (bG 2 5 (fQ R)))) Out.nxt) (aH (aq (aj (ak 0) (aj ‹"Z"› (aj ‹"C"› (aj (aq ‹"f"› jd) ‹""›)))) (bG 4 9 (gU R)))))))
noncomputable def cY:Nat->List D->Res D
 | 0=>fun _=>.stuck
 | n + 1=>bG 2 3 (d9 (cY n))
noncomputable def jl:List D->Res D:=cY 4
noncomputable def jm:DS->Out :=
 (aD (bZ (aF (two (aq ‹"f"› fP) ‹0› ‹"p"›) aJ) (fun _=>.stuck) Out.nxt) (aD (aG 2 (aq ‹"f"› jl)) (aD (bZ (aF (two (ak 2) (fun _=>.ok .non) bW) aJ) (aH (aZ (aj (ak 0) ‹"K"›))) Out.nxt) (aD (bZ (aF (two ‹"c"› ‹3› cV) aJ) (fun _=>.stuck) Out.nxt) (aD (aG 3 (aq (aj (aO 1 [1] (bF 0) (two (ak 0) ‹"h"› bK) (bindL ‹"e"› aM)) ‹""›) bY)) (aD (aG 4 (two (aZ (aj ‹0› ‹""›)) (aq ‹"n"› bI) bK)) (aD (aG 5 (two (aZ (aj ‹1› ‹""›)) (two (aZ (aj ‹0› ‹""›)) (two (aq ‹"n"› bI) ‹1› fZ) bK) a_)) (aH (aZ (aj (two (ak 0) (aZ ‹"n"›) a_) (aj (aZ (aj (two (ak 4) (ak 5) a_) (aj ‹"h"› ‹""›))) ‹""›)))))))))))
noncomputable def fU:List D->Res D:=bG 2 6 jm
noncomputable def lg:DS->Out :=
 (aD (aG 3 (aq (aj (ak 0) (aj (ak 1) ‹"a"›)) n8)) (aD (aG 4 (aq (aj (two (ak 1) ‹2› bA) (aj (aq ‹"l"› n8) ‹""›)) iz)) (aD (aG 5 (aq (aj (aq (aj (ak 0) (aj (two (ak 2) ‹2› bA) ‹"n"›)) cO) (aj (aq ‹"P"› cO) ‹""›)) iz)) (aD (bZ (aF (two (aq (aj (ak 0) ‹"F"›) fP) ‹0› ‹"p"›) aJ) (dO "NoMeet" "number" (ak 5)) Out.nxt) (aD (aG 6 (aq (aj (ak 0) ‹"F"›) fU)) (aD (aG 7 (aq (aj (ak 0) (aj (aZ (aj ‹"e"› (aj ‹"h"› ‹""›))) (aj (aq (aj (ak 0) (aj (ak 4) ‹"n"›)) dC) ‹""›))) k_)) (aD (aG 8 (aq (aj ‹"D"› (aj (aq (aj (aZ (aj ‹"Z"› (aj ‹"C"› ‹""›))) ‹"G"›) jk) ‹""›)) m6)) (aD (bZ (aF (aq ‹"F"› gJ) bf) (aH (aZ (aj ‹"D"› (aj (jx (aj (ak 8) ‹""›)) ‹""›)))) Out.nxt) (aD (aG 9 (aq (aj ‹"D"› (aj (aZ (aj ‹"h"› (aj (aq ‹"E"› jb) ‹""›))) ‹""›)) m6)) (aD (aG 10 (aq (aj ‹"D"› (aj (ak 9) (aj (aq (aj ‹"D"› (aj (two (ak 6) ‹1› bA) (aj (aq (aj (ak 3) (aj (aq (aj ‹"D"› ‹""›) bI) ‹""›)) cN) ‹""›))) dC) ‹""›))) k_)) (aD (aG 11 (aZ (aj (aq (aj (two (ak 10) ‹0› bA) ‹""›) jb) (aj (aq (aj (two (ak 10) ‹1› bA) ‹""›) jb) ‹""›)))) (aH (aZ (aj ‹"D"› (aj (jx (aj (aq (aj (ak 8) (aj (ak 11) ‹""›)) jk) (aj (aq (aj (ak 8) (aj (ak 10) ‹""›)) jk) ‹""›))) ‹""›)))))))))))))))
noncomputable def fV:List D->Res D:=bG 3 12 lg
noncomputable def uJ:DS->Out :=
 (aD (aG 4 (fun _=>.ok .non)) (aD (g8 5 cR (pA (aq ‹"l"› fV)) (aG 4 (ak 5))) (aD (bZ (jJ (dI (aF (aq (ak 4) (iM dZ)) bf)) (jJ (aF (aq (ak 4) (iM d7)) bf) (dI (aF (aq (ak 4) (iM cG)) bf)))) (aH (fun _=>.ok (.bl false))) Out.nxt) (aH (two (aq (ak 4) (pB eG "number")) (ak 3) cV)))))
noncomputable def uK:List D->Res D:=bG 4 6 uJ
noncomputable def uL:DS->Out :=
 (aD (aG 4 (aq ‹"l"› fV)) (aD (bZ (dI (aF (aq ‹"X"› qm) bf)) (aH (fun _=>.ok (.bl false))) Out.nxt) (aD (bZ (jZ (aF (two (aq (aj ‹"v"› ‹""›) bI) ‹"c"› ‹"A"›) aJ) (aF (two (two ‹"v"› (gF ‹1›) bA) (aq (aj (two (ak 3) ‹1› bA) ‹"I"›) fM) iK) aJ)) (aH (fun _=>.ok (.bl false))) Out.nxt) (aD (aG 5 (two ‹"o"› (aq (aj ‹"v"› ‹""›) bI) bA)) (aD (aG 1 (aq (aj (ak 1) ‹"F"›) oW)) (aD (aG 2 (aq (aj (ak 2) ‹"F"›) oW)) (aD (lN (bF 6) (bindL (two (ak 4) ‹1› bA) aM) (bZ (jJ (dI (aF (aq (aj ‹"v"› (aj (ak 1) ‹"z"›)) jF) bf)) (dI (aF (aq (aj ‹"v"› (aj (ak 2) ‹"z"›)) jE) bf))) (aH (fun _=>.ok (.bl false))) Out.nxt)) (aD (bZ (aF (two (aq (aj (ak 0) ‹"I"›) dF) ‹0› cV) aJ) (aH (pW (two (aq (aj (two (ak 4) ‹1› bA) ‹""›) bI) ‹1› cV) (two ‹"v"› (ak 0) cV))) Out.nxt) (aD (bZ (aF (two (aq (aj (two (ak 4) ‹1› bA) ‹""›) bI) ‹2› iK) aJ) (aH (fun _=>.ok (.bl false))) Out.nxt) (aD (aG 7 (aq (aj (two (two (ak 4) ‹1› bA) ‹0› bA) (aj (two (two (ak 4) ‹1› bA) ‹1› bA) ‹""›)) sE)) (aD (aG 8 (aq (aj (aq (aj ‹"v"› (aj ‹"h"› (aj (two (ak 7) ‹0› bA) ‹""›))) fO) (aj (aq (aj ‹"v"› (aj ‹"e"› (aj (two (ak 7) ‹1› bA) ‹""›))) fO) ‹""›)) iI)) (aH (two (aq (aj ‹"v"› (aj (two (ak 8) ‹0› bA) ‹""›)) dF) ‹1› cV)))))))))))))
noncomputable def uM:List D->Res D:=bG 4 9 uL
noncomputable def nj:DS->Out :=
 (aD (aG 1 (aq (aj (aq (aj (ak 0) (aj ‹0› ‹""›)) eZ) (aj ‹9› (aj ‹3› ‹""›))) cQ)) (aD (aG 2 (aq (aj (aq (aj (ak 0) (aj ‹1› ‹""›)) ig) ‹"a"›) rJ)) (aD (aG 3 (aq (aj (two (two (aq (aj (ak 0) (aj ‹2› ‹""›)) ig) ‹5› bH) ‹5› bK) ‹"a"›) kO)) (aD (bZ (aF (two (aq (aj (ak 2) ‹"I"›) dF) ‹1› ‹"p"›) aJ) (aG 3 (aZ (aj (two (aZ (aj (two ‹1› (two (aq (aj (ak 0) (aj ‹2› ‹""›)) eZ) ‹7› bR) a_) ‹""›)) ‹"W"› a_) (aj ‹1› ‹""›)))) Out.nxt) (aD (bZ (aF (two (aq (aj (ak 2) ‹"I"›) dF) ‹1› ‹"p"›) aJ) ‹"w"› Out.nxt) (aD (aG 4 (aZ (aj (aq (aj (two (two (aq (aj (ak 0) (aj ‹3› ‹""›)) ig) ‹5› bH) ‹5› bK) ‹"a"›) kO) (aj (aq (aj (two (two (two (aq (aj (ak 0) (aj ‹4› ‹""›)) ig) ‹5› bH) ‹5› bK) ‹1› a_) ‹"a"›) kO) ‹"n"›)))) (aD (dJ 5 (aq (aj (ak 0) (aj ‹5› ‹"a"›)) (iw qp))) (aD (bZ (aF (two (two (aq ‹"U"› eZ) ‹3› bR) ‹0› ‹"A"›) aJ) (aD (aG 6 (aq (aj (aq ‹"B"› n_) (aj (two (ak 5) ‹2› bA) ‹""›)) jc)) (aD (aG 6 (aq (aj (ak 6) (aj (aq (aj (aZ (aj (aZ (aj (two (two (two (aq ‹"U"› eZ) ‹3› bH) ‹5› bR) ‹2› fZ) ‹""›)) (aj ‹4› ‹""›))) (aj (aq ‹"I"› bI) ‹""›)) gK) ‹""›)) jc)) (putD 5 (j9 ‹2›) (aq ‹"Q"› ji)))) Out.nxt) (aD (aG 7 (aq ‹"B"› ni)) (aD (aG 5 (aq ‹"F"› bY)) (aD (bZ (aF (two (aq (aj (ak 2) (aj (two (ak 7) ‹0› bA) ‹""›)) dF) ‹0› ‹"p"›) aJ) (aH (aq (aj (ak 2) (aj (ak 5) (aj (ak 4) ‹"G"›))) uK)) Out.nxt) (aD (bZ (dI (aF (aq (aj (ak 2) (aj (ak 5) (aj (ak 4) ‹"G"›))) uM) bf)) (aH (fun _=>.ok (.bl false))) Out.nxt) (aD (aG 8 (aq (aj (aO 1 [] (bF 0) (aZ (aj (aq (aj (gF ‹1›) ‹"b"›) fM) ‹"d"›)) (bindL (ak 5) aM)) ‹""›) bY)) (aH (two (two (aq (aj (ak 2) (aj (ak 8) (aj (ak 4) ‹""›))) fV) ‹1› bA) (aq (two (aq ‹"B"› fV) ‹1› bA) lR) cV)))))))))))))))
noncomputable def jn:List D->Res D:=bG 1 9 nj
structure Adr where
 c_HallError:Addr
 c_Below:Addr
 c_NoOver:Addr
 c_NoRoom:Addr
 c_NoLine:Addr
 c_NoMeet:Addr
structure Txt (K:Frag) (mg:Str->Option Value) (a:Adr):Prop where
 m_HallError:mg "HallError" = some (.ref a.c_HallError)
 m_Below:mg "Below" = some (.ref a.c_Below)
 n_Below:nsIn K mainGlobals "Below" = some (some (.ref a.c_Below))
 x_Below:excIn K a.c_Below [.type "ValueError",.type "Exception",.type "BaseException",.type "object"] "ValueError.__new__" = true
 m_NoOver:mg "NoOver" = some (.ref a.c_NoOver)
 n_NoOver:nsIn K mainGlobals "NoOver" = some (some (.ref a.c_NoOver))
 x_NoOver:excIn K a.c_NoOver [.type "ValueError",.type "Exception",.type "BaseException",.type "object"] "ValueError.__new__" = true
 m_NoRoom:mg "NoRoom" = some (.ref a.c_NoRoom)
 m_NoLine:mg "NoLine" = some (.ref a.c_NoLine)
 m_NoMeet:mg "NoMeet" = some (.ref a.c_NoMeet)
 n_NoMeet:nsIn K mainGlobals "NoMeet" = some (some (.ref a.c_NoMeet))
 m_MOST_ROOTS:∃t:Tok,mg "MOST_ROOTS" = some (.int 3 t)
 s_HallError:∀x C,nsIn K mainGlobals x=some (some (.ref C))->cR x=some true->exmOne K (.ref C) (.ref a.c_HallError)=some true
 i_int:∀d b,Bk.is_int d=some b->j8 K (.type "int") b d
 i_bool:∀d b,Bk.is_bool d=some b->j8 K (.type "bool") b d
 i_tuple:∀d b,Bk.is_tuple d=some b->j8 K (.type "tuple") b d
 i_list:∀d b,Bk.is_list d=some b->j8 K (.type "list") b d
 i_NoMeet:∀d b,dZ d=some b->j8 K (.ref a.c_NoMeet) b d
 i_NoLine:∀d b,d7 d=some b->j8 K (.ref a.c_NoLine) b d
 i_ValueError:∀d b,cG d=some b->j8 K (.type "ValueError") b d
 a_number:∀c,eG c=true->∀C,nsIn K mainGlobals c=some (some (.ref C))->ExcCls K C/\findIn K (.ref C) "number" = some none
 z_ValueError:mg "ValueError" = none
 z_abs:mg "abs" = none
 z_all:mg "all" = none
 z_bool:mg "bool" = none
 z_int:mg "int" = none
 z_isinstance:mg "isinstance" = none
 z_len:mg "len" = none
 z_list:mg "list" = none
 z_range:mg "range" = none
 z_reversed:mg "reversed" = none
 z_tuple:mg "tuple" = none
 z_zip:mg "zip" = none
section
variable {P:Program} {w:World} {K:Frag} {mg:Str->Option Value} {base:Heap} {a:Adr}
variable (G_qc1:aP P w K mg base 1 "common" lZ) (G_qk:aP P w K mg base 1 "against_tops" qi) (G_qo:aP P w K mg base 1 "are_noughts" vM) (G_qz:aP P w K mg base 1 "front_tops" km) (G_qp:aP P w K mg base 1 "behind_tops" kE) (G_qd1:aP P w K mg base 1 "lifted" cN) (G_qI:aP P w K mg base 1 "_law_mixed" cQ) (G_qQ:aP P w K mg base 1 "_law_cell" eZ) (G_qJ:aP P w K mg base 1 "_law_added" nY) (G_qB:aP P w K mg base 1 "_law_scaled" fM) (G_qC:aP P w K mg base 1 "_law_common" nW) (G_qH:aP P w K mg base 1 "_law_whole" l_) (G_qR:aP P w K mg base 1 "_law_lift" gK) (G_qk1:aP P w K mg base 2 "made" du) (G_qy:aP P w K mg base 1 "whole_root" vP) (G_qX:aP P w K mg base 2 "_law_sum" jc) (G_qL:aP P w K mg base 2 "_law_least" ji) (G_qh:aP P w K mg base 2 "_law_is_number" kI) (G_ql1:aP P w K mg base 3 "plus" cZ) (G_qW:aP P w K mg base 2 "against" jb) (G_qT:aP P w K mg base 3 "_law_less" iI) (G_qS:aP P w K mg base 2 "_law_tops" uy) (G_qb:aP P w K mg base 3 "_law_are_numbers" mQ) (G_qr:aP P w K mg base 3 "_law_drawn" kO) (G_qD:aP P w K mg base 2 "_law_spread" ig) (G_qG:aP P w K mg base 1 "plus_tops" qj) (G_qY:aP P w K mg base 3 "half_of" uA) (G_qg1:aP P w K mg base 4 "minus" iz) (G_qF:aP P w K mg base 5 "times_tops" jA) (G_qe:aP P w K mg base 5 "_law_tops_times" jB) (G_qN:aP P w K mg base 6 "norm_tops" rN) (G_qh1:aP P w K mg base 6 "times" cO) (G_qs:aP P w K mg base 6 "_law_product" fO) (G_qt:aP P w K mg base 7 "_law_by_line" n_) (G_qg:aP P w K mg base 1 "sign_of_whole" vN) (G_qu:aP P w K mg base 9 "_law_sign_of" dF) (G_qb1:aP P w K mg base 7 "_law_far" pJ) (G_qm1:aP P w K mg base 7 "norm" jd) (G_qe1:aP P w K mg base 2 "turned" pF) (G_qm:aP P w K mg base 10 "sign_of_tops" vO) (G_qK:aP P w K mg base 2 "is_nought" gJ) (G_qV:aP P w K mg base 11 "one_over" rP) (G_qn1:aP P w K mg base 11 "sign" fP) (G_qf1:aP P w K mg base 3 "halves" jM) (G_qa:aP P w K mg base 3 "root_of_fraction" oZ) (G_qO:aP P w K mg base 7 "both_ways" o7) (G_qA:aP P w K mg base 1 "times_last" mZ) (G_qo1:aP P w K mg base 12 "over" dC) (G_qa1:aP P w K mg base 5 "middles" m9) (G_qp1:aP P w K mg base 12 "size" jg) (G_qq1:aP P w K mg base 20 "root" jl) (G_qc:aP P w K mg base 7 "sum_of_products" n8) (G_qj1:aP P w K mg base 21 "grown" fU) (G_qP:aP P w K mg base 7 "stretched" k_) (G_qq:aP P w K mg base 2 "lifted_pair" m6) (G_qM:aP P w K mg base 4 "pair_plus" jk) (G_qj:aP P w K mg base 22 "meets_of_line" fV) (G_qd:aP P w K mg base 2 "_law_all_lifted" oW) (G_qZ:aP P w K mg base 4 "_law_way" sE) (G_qE:aP P w K mg base 4 "_law_points" qm) (G_qw:aP P w K mg base 10 "_law_on_line" jF) (G_qv:aP P w K mg base 10 "_law_on_ring" jE) (G_ql:aP P w K mg base 2 "_law_scaffold" rJ) (G_qU:Eo P w K mg base 4 "_law_line" qp) (G_qi1:aP P w K mg base 8 "_law_w" ni) (G_qx:aP P w K mg base 23 "_law_refused" uK) (G_qf:aP P w K mg base 23 "_law_meets_well" uM)
abbrev Ih:Stmt:=xG (top 6) 0
theorem Um:FnScope ["self", "number"] ["self", "number"] (az Ih):=‹"0"›
theorem hW' (T:Txt K mg a) (L:Xk K a.c_NoMeet a.c_HallError "NoMeet.__init__" Ih "number"):En P w K mg base a.c_NoMeet "number" Ig:=nt' L Um (fun _ _ _ _ _ h=>h _) fun f cdv A outer s H E Z=>Ov (lt' (R8 Z rfl T.m_HallError (ic' (pv 0) (ic' JB Py)) (by decide))) (ls' (R9 Z (pv 0) (pv 1)))
theorem yf (T:Txt K mg a) (F:Ent K mg "common" oh ["a", "b"]) :
  aP P w K mg base 1 "common" lZ:=by
 have q:=b_ P w base 0 lY F sc_qc1 fun _ _ _ _ _ _ _ hr=>by
  unfold lY;exact (aQ (bD 2 (dg GC in' rfl T.z_abs ‹"1"› (au (aA 0) aC)) sc_qc1.nd) (aQ (bD 3 (dg GC in' rfl T.z_abs ‹"1"› (au (aA 1) aC)) sc_qc1.nd) (aQ (GK i_ (cP (dA' hr.units) qM (aA 3) aB (cA _)) (aQ (bD 4 (bB pq o_ (aA 2) (aA 3)) sc_qc1.nd) (aQ (bD 2 (aA 3) sc_qc1.nd) (aW (bD 3 (aA 4) sc_qc1.nd))))) (aW (bC (aA 2))))))
 exact q
theorem BW (T:Txt K mg a) (F:Ent K mg "whole_root" sH ["n"]) :
  aP P w K mg base 1 "whole_root" vP:=by
 have q:=b_ P w base 0 rR F sc_qy fun _ _ _ _ _ _ _ hr=>by
  unfold rR;exact (aQ (cU (cP qw (lB _) (aA 0) aB (cA _)) (aW (GP rfl PySem.F.excBase_ValueError T.n_Below T.x_Below rfl T.m_Below (au Gu aC) (by decide) (hlen:=fun δ ds h=>G4 h))) cT) (aQ (bD 1 (bB kN' J6 aB (bB lC lz (bB fX fW (Ra (aA 0)) aB) aB)) sc_qy.nd) (aQ (GK fY (cP yM (lB _) (bB gH gG (aA 1) (aA 1)) (aA 0) (cA _)) (aW (bD 1 (bB lC lz (bB fX fW (aA 1) (bB lC lz (aA 0) (aA 1))) aB) sc_qy.nd))) (aW (bC (aA 1))))))
 exact q
theorem yg (T:Txt K mg a) (F:Ent K mg "lifted" oA ["x", "many"]) :
  aP P w K mg base 1 "lifted" cN:=by
 have q:=b_ P w base 0 gR F xU fun _ _ _ _ _ _ _ hr=>by
  unfold gR;exact (aW (bC (at' (au (bB fX fW (aL (aA 0) aB) (bB gH gG (at' (au aB aC)) (bB wy wu (bB kN' J6 aB (aA 1)) (dg dW dU rfl T.z_len ‹"1"› (au (aL (aA 0) aB) aC))))) (au (aL (aA 0) aB) aC)))))
 exact q
theorem BX (T:Txt K mg a) (F:Ent K mg "are_noughts" sI ["tops"]) :
  aP P w K mg base 1 "are_noughts" vM:=by
 have q:=b_ P w base 0 qW F Ay fun _ _ _ _ _ _ _ hr=>by
  unfold qW;exact (aW (bC (dg (El rfl) ey' rfl T.z_all ‹"1"› (au (nq (N':=["top"]) (m:=1) (fr:=[]) vD rfl (nu (by decide)) (lD (aA 0)) (fun _ _ _ _=>ju 0 (show List.Nodup (["top"]:List Str) by decide +kernel)) (fun _ _ _ _=>(qK (gh hr.units) gf (aA 0) aB (cA _)))) aC))))
 exact q
theorem BZ (T:Txt K mg a) (F:Ent K mg "front_tops" sJ ["tops"]) :
  aP P w K mg base 1 "front_tops" km:=by
 have q:=b_ P w base 0 qX F Az fun _ _ _ _ _ _ _ hr=>by
  unfold qX;exact (aW (bC (gm (aA 0) gj (gk (bB lC lz (dg dW dU rfl T.z_len ‹"1"› (au (aA 0) aC)) aB)))))
 exact q
theorem B_ (T:Txt K mg a) (F:Ent K mg "behind_tops" sO ["tops"]) :
  aP P w K mg base 1 "behind_tops" kE:=by
 have q:=b_ P w base 0 qY F A_ fun _ _ _ _ _ _ _ hr=>by
  unfold qY;exact (aW (bC (gm (aA 0) (gk (bB lC lz (dg dW dU rfl T.z_len ‹"1"› (au (aA 0) aC)) aB)) gj)))
 exact q
theorem Ca (T:Txt K mg a) (F:Ent K mg "plus_tops" sS ["one", "other"]) :
  aP P w K mg base 1 "plus_tops" qj:=by
 have q:=b_ P w base 0 rG F Ba fun _ _ _ _ _ _ _ hr=>by
  unfold rG;exact (aW (bC (nJ p6 pZ rfl T.z_tuple ‹"1"› (au (nq (N':=["first", "second"]) (m:=2) (fr:=[]) vD rfl (Hc (by decide) (by decide)) (Hb rfl T.z_zip (au (aA 0) (au (aA 1) aC))) (fun _ _ _ _=>GJ rfl (fun _=>yO 0 (show List.Nodup (["first", "second"]:List Str) by decide +kernel) (yO 1 (show List.Nodup (["first", "second"]:List Str) by decide +kernel) GF))) (fun _ _ _ _=>(bB fX fW (aA 0) (aA 1)))) aC))))
 exact q
theorem Cd (T:Txt K mg a) (F:Ent K mg "against_tops" sU ["tops"]) :
  aP P w K mg base 1 "against_tops" qi:=by
 have q:=b_ P w base 0 qZ F Bb fun _ _ _ _ _ _ _ hr=>by
  unfold qZ;exact (aW (bC (nJ p6 pZ rfl T.z_tuple ‹"1"› (au (nq (N':=["top"]) (m:=1) (fr:=[]) vD rfl (nu (by decide)) (lD (aA 0)) (fun _ _ _ _=>ju 0 (show List.Nodup (["top"]:List Str) by decide +kernel)) (fun _ _ _ _=>(iY (aA 0)))) aC))))
 exact q
theorem Ce (T:Txt K mg a) (F:Ent K mg "sign_of_whole" sV ["n"]) :
  aP P w K mg base 1 "sign_of_whole" vN:=by
 have q:=b_ P w base 0 rQ F Bc fun _ _ _ _ _ _ _ hr=>by
  unfold rQ;exact (aQ (cU (cP (gh hr.units) gf (aA 0) aB (cA _)) (aW (bC aB)) cT) (aW (bC (J2 (cP yM (lB _) (aA 0) aB (cA _)) aB (iY aB)))))
 exact q
theorem Cg (T:Txt K mg a) (F:Ent K mg "times_last" sW ["b"]) :
  aP P w K mg base 1 "times_last" mZ:=by
 have q:=b_ P w base 0 uq F Be fun _ _ _ _ _ _ _ hr=>by
  unfold uq;exact (aW (bC (at' (au (bB fX fW (bB gH gG (at' (au aB aC)) (dg dW dU rfl T.z_len ‹"1"› (au (aL (aA 0) aB) aC))) (aL (aA 0) aB)) (au (aL (aA 0) aB) aC)))))
 exact q
theorem Ci (T:Txt K mg a) (F:Ent K mg "_law_cell" sX ["_law_script", "_law_k"]) :
  aP P w K mg base 1 "_law_cell" eZ:=by
 have q:=b_ P w base 0 q_ F Bf fun _ _ _ _ _ _ _ hr=>by
  unfold q_;exact (aQ (cU (cP qw (lB _) (aA 1) (dg dW dU rfl T.z_len ‹"1"› (au (aA 0) aC)) (cA _)) (aW (bC (aL (aA 0) (aA 1)))) cT) (aW (bC aB)))
 exact q
theorem Cj (T:Txt K mg a) (F:Ent K mg "_law_whole" sY ["_law_found"]) :
  aP P w K mg base 1 "_law_whole" l_:=by
 have q:=b_ P w base 0 xQ F Bg fun _ _ _ _ _ _ _ hr=>by
  unfold xQ;exact (aW (bC (J1 (qx T.i_int (aA 0) (uY rfl T.z_int ‹"1"›) rfl T.z_isinstance) (kG' (Qp (qx T.i_bool (aA 0) (uY rfl T.z_bool ‹"1"›) rfl T.z_isinstance))))))
 exact q
theorem Ck (T:Txt K mg a) (F:Ent K mg "_law_mixed" sZ ["_law_cell_here", "_law_k", "_law_many"]) :
  aP P w K mg base 1 "_law_mixed" cQ:=by
 have q:=b_ P w base 0 rH F sc_qI fun _ _ _ _ _ _ _ hr=>by
  unfold rH;exact (aQ (bD 3 (ca' (au aB (au aB (au aB (au aB (au aB aC)))))) sc_qI.nd) (aQ (bD 3 (bB fX fW (aA 3) (ca' (au aB (au aB (au aB (au aB (au aB aC))))))) sc_qI.nd) (aW (bC (bB pq o_ (bB pq o_ (bB gH gG (bB fX fW (aA 0) aB) (aL (aA 3) (aA 1))) aB) (aA 2))))))
 exact q
theorem Cm (T:Txt K mg a) (F:Ent K mg "_law_added" tu ["_law_one", "_law_other"]) :
  aP P w K mg base 1 "_law_added" nY:=by
 have q:=b_ P w base 0 rn F Bh fun _ _ _ _ _ _ _ hr=>by
  unfold rn;exact (aW (bC (nJ p6 pZ rfl T.z_tuple ‹"1"› (au (nq (N':=["_law_a", "_law_b"]) (m:=2) (fr:=[]) vD rfl (Hc (by decide) (by decide)) (Hb rfl T.z_zip (au (aA 0) (au (aA 1) aC))) (fun _ _ _ _=>GJ rfl (fun _=>yO 0 (show List.Nodup (["_law_a", "_law_b"]:List Str) by decide +kernel) (yO 1 (show List.Nodup (["_law_a", "_law_b"]:List Str) by decide +kernel) GF))) (fun _ _ _ _=>(bB fX fW (aA 0) (aA 1)))) aC))))
 exact q
theorem Cp (T:Txt K mg a) (F:Ent K mg "_law_scaled" pK ["_law_k", "_law_one"]) :
  aP P w K mg base 1 "_law_scaled" fM:=by
 have q:=b_ P w base 0 rA F Bj fun _ _ _ _ _ _ _ hr=>by
  unfold rA;exact (aW (bC (nJ p6 pZ rfl T.z_tuple ‹"1"› (au (nq (N':=["_law_a", "_law_k"]) (m:=1) (fr:=[0]) (uZ (az pK) ["_law_k", "_law_one"] rfl rfl rfl rfl rfl ‹"1"›) rfl (nu (by decide)) (lD (aA 1)) (fun _ _ _ _=>ju 0 (show List.Nodup (["_law_a", "_law_k"]:List Str) by decide +kernel)) (fun _ _ _ _=>(bB gH gG (aA 1) (aA 0)))) aC))))
 exact q
theorem Cq (T:Txt K mg a) (F:Ent K mg "_law_common" tD ["_law_one", "_law_other"]) :
  aP P w K mg base 1 "_law_common" nW:=by
 have q:=b_ P w base 0 rm F sc_qC fun _ _ _ _ _ _ _ hr=>by
  unfold rm;exact (aQ (GK jL (cP (dA' hr.units) qM (aA 1) aB (cA _)) (aQ (bD 2 (bB pq o_ (aA 0) (aA 1)) sc_qC.nd) (aQ (bD 0 (aA 1) sc_qC.nd) (aW (bD 1 (aA 2) sc_qC.nd))))) (aW (bC (dg GC in' rfl T.z_abs ‹"1"› (au (aA 0) aC)))))
 exact q
theorem Cr (T:Txt K mg a) (F:Ent K mg "_law_lift" tE ["_law_x", "_law_many"]) :
  aP P w K mg base 1 "_law_lift" gK:=by
 have q:=b_ P w base 0 ur F Bl fun _ _ _ _ _ _ _ hr=>by
  unfold ur;exact (aW (bC (at' (au (bB fX fW (aL (aA 0) aB) (nJ p6 pZ rfl T.z_tuple ‹"1"› (au (nq (N':=["_law_k"]) (m:=1) (fr:=[]) vD rfl (nu (by decide)) (G_ rfl T.z_range (au (bB wy wu (aA 1) (dg dW dU rfl T.z_len ‹"1"› (au (aL (aA 0) aB) aC))) aC)) (fun _ _ _ _=>ju 0 (show List.Nodup (["_law_k"]:List Str) by decide +kernel)) (fun _ _ _ _=>aB)) aC))) (au (aL (aA 0) aB) aC)))))
 exact q
include G_qc1 in
theorem yh (T:Txt K mg a) (F:Ent K mg "made" kW ["tops", "bottom"]) :
  aP P w K mg base 2 "made" du:=by
 have q:=b_ P w base 1 mj F sc_qk1 fun _ _ _ _ _ _ _ hr=>by
  unfold mj;exact (aQ (cU (cP (gh hr.units) gf (aA 1) aB (cA _)) (aW (GP rfl PySem.F.excBase_ValueError T.n_NoOver T.x_NoOver rfl T.m_NoOver (au Gu aC) (by decide) (hlen:=fun δ ds h=>G4 h))) cT) (aQ (bD 2 (aA 1) sc_qk1.nd) (aQ (zR rfl (lD (aA 0)) (ju 3 sc_qk1.nd) (aW (bD 2 (cl G_qc1 hr (au (aA 2) (au (aA 3) aC))) sc_qk1.nd))) (aQ (cU (cP qw (lB _) (aA 1) aB (cA _)) (aW (bD 2 (iY (aA 2)) sc_qk1.nd)) cT) (aW (bC (at' (au (nJ p6 pZ rfl T.z_tuple ‹"1"› (au (nq (N':=["top", "shared"]) (m:=1) (fr:=[2]) (uZ (az kW) ["tops", "bottom", "shared", "top"] rfl rfl rfl rfl rfl ‹"1"›) rfl (nu (by decide)) (lD (aA 0)) (fun _ _ _ _=>ju 0 (show List.Nodup (["top", "shared"]:List Str) by decide +kernel)) (fun _ _ _ _=>(bB lC lz (aA 0) (aA 1)))) aC)) (au (bB lC lz (aA 1) (aA 2)) aC)))))))))
 exact q
include G_qk in
theorem Cu (T:Txt K mg a) (F:Ent K mg "against" tG ["x"]) :
  aP P w K mg base 2 "against" jb:=by
 have q:=b_ P w base 1 rB F Bm fun _ _ _ _ _ _ _ hr=>by
  unfold rB;exact (aW (bC (at' (au (cl G_qk hr (au (aL (aA 0) aB) aC)) (au (aL (aA 0) aB) aC)))))
 exact q
include G_qo in
theorem Cw (T:Txt K mg a) (F:Ent K mg "is_nought" tH ["x"]) :
  aP P w K mg base 2 "is_nought" gJ:=by
 have q:=b_ P w base 1 rO F Bo fun _ _ _ _ _ _ _ hr=>by
  unfold rO;exact (aW (bC (cl G_qo hr (au (aL (aA 0) aB) aC))))
 exact q
include G_qk G_qz G_qp in
theorem yj (T:Txt K mg a) (F:Ent K mg "turned" oE ["x"]) :
  aP P w K mg base 2 "turned" pF:=by
 have q:=b_ P w base 1 mH F xV fun _ _ _ _ _ _ _ hr=>by
  unfold mH;exact (aW (bC (at' (au (bB fX fW (cl G_qz hr (au (aL (aA 0) aB) aC)) (cl G_qk hr (au (cl G_qp hr (au (aL (aA 0) aB) aC)) aC))) (au (aL (aA 0) aB) aC)))))
 exact q
include G_qd1 in
theorem Cy (T:Txt K mg a) (F:Ent K mg "lifted_pair" tK ["roots", "pair"]) :
  aP P w K mg base 2 "lifted_pair" m6:=by
 have q:=b_ P w base 1 uv F Bp fun _ _ _ _ _ _ _ hr=>by
  unfold uv;exact (aW (bC (at' (au (cl G_qd1 hr (au (aL (aA 1) aB) (au (dg dW dU rfl T.z_len ‹"1"› (au (aA 0) aC)) aC))) (au (cl G_qd1 hr (au (aL (aA 1) aB) (au (dg dW dU rfl T.z_len ‹"1"› (au (aA 0) aC)) aC))) aC)))))
 exact q
include G_qI G_qQ in
theorem Cz (T:Txt K mg a) (F:Ent K mg "_law_spread" tL ["_law_script", "_law_k"]) :
  aP P w K mg base 2 "_law_spread" ig:=by
 have q:=b_ P w base 1 rT F Bq fun _ _ _ _ _ _ _ hr=>by
  unfold rT;exact (aW (bC (cl G_qI hr (au (bB fX fW (cl G_qQ hr (au (aA 0) (au (aA 1) aC))) (bB gH gG aB (aA 1))) (au (bB pq o_ (aA 1) aB) (au aB aC))))))
 exact q
include G_qI in
theorem CG (T:Txt K mg a) (F:Ent K mg "_law_scaffold" tM ["_law_cell_here", "_law_many"]) :
  aP P w K mg base 2 "_law_scaffold" rJ:=by
 have q:=b_ P w base 1 nZ F sc_ql fun _ _ _ _ _ _ _ hr=>by
  unfold nZ;exact (aQ (bD 2 (bB fX fW aB (cl G_qI hr (au (aA 0) (au aB (au aB aC))))) sc_ql.nd) (aQ (bD 3 (bB fX fW (bB fX fW (bB gH gG (aA 2) (aA 2)) aB) (cl G_qI hr (au (aA 0) (au aB (au (bB gH gG aB (aA 2)) aC))))) sc_ql.nd) (aQ (bD 4 (bB fX fW aB (cl G_qI hr (au (aA 0) (au aB (au aB aC))))) sc_ql.nd) (aQ (bD 5 (bB fX fW aB (cl G_qI hr (au (aA 0) (au aB (au aB aC))))) sc_ql.nd) (aQ (bD 6 (at' (au (at' (au (aA 3) aC)) (au (at' (au (cl G_qI hr (au (aA 0) (au aB (au (bB fX fW (bB gH gG (aA 4) (aA 2)) aB) aC)))) (au (aA 4) aC))) (au (at' (au (cl G_qI hr (au (aA 0) (au aB (au (aA 5) aC)))) (au aB (au (aA 5) (au aB aC))))) aC)))) sc_ql.nd) (aQ (cU (cP (gh hr.units) gf (cl G_qI hr (au (aA 0) (au aB (au aB aC)))) aB (cA _)) (aQ (bD 7 (ca' (au aB (au aB (au aB (au aB (au aB (au aB aC))))))) sc_ql.nd) (aQ (bD 8 (cl G_qI hr (au (aA 0) (au aB (au aB aC)))) sc_ql.nd) (aW (bD 6 (at' (au (at' (au (aL (aA 7) (aA 8)) aC)) (au (at' (au (aL (aA 7) (bB pq o_ (bB fX fW (aA 8) aB) aB)) (au aB aC))) (au (at' (au (aL (aA 7) (bB pq o_ (bB fX fW (aA 8) aB) aB)) (au aB (au aB (au aB aC))))) aC)))) sc_ql.nd)))) cT) (aW (bC (gm (aA 6) gj (gk (aA 1)))))))))))
 exact q
include G_qJ G_qB in
theorem CJ (T:Txt K mg a) (F:Ent K mg "_law_sum" tO ["_law_one", "_law_other"]) :
  aP P w K mg base 2 "_law_sum" jc:=by
 have q:=b_ P w base 1 rE F Br fun _ _ _ _ _ _ _ hr=>by
  unfold rE;exact (aW (bC (at' (au (cl G_qJ hr (au (cl G_qB hr (au (aL (aA 1) aB) (au (aL (aA 0) aB) aC))) (au (cl G_qB hr (au (aL (aA 0) aB) (au (aL (aA 1) aB) aC))) aC))) (au (bB gH gG (aL (aA 0) aB) (aL (aA 1) aB)) aC)))))
 exact q
include G_qC G_qH in
theorem CK (T:Txt K mg a) (F:Ent K mg "_law_is_number" tQ ["_law_found", "_law_many"]) :
  aP P w K mg base 2 "_law_is_number" kI:=by
 have q:=b_ P w base 1 rC F sc_qh fun _ _ _ _ _ _ _ hr=>by
  unfold rC;exact (aQ (cU (PWD.pt (nD (bm' (jH (qx T.i_tuple (aA 0) (uY rfl T.z_tuple ‹"1"›) rfl T.z_isinstance))) (nD (cP (dA' hr.units) qM (dg dW dU rfl T.z_len ‹"1"› (au (aA 0) aC)) aB (cA _)) (qL (bm' (jH (qx T.i_tuple (aL (aA 0) aB) (uY rfl T.z_tuple ‹"1"›) rfl T.z_isinstance))))))) (aW (bC ct')) cT) (aQ (cU (PWD.pt (nD (cP (dA' hr.units) qM (dg dW dU rfl T.z_len ‹"1"› (au (aL (aA 0) aB) aC)) (aA 1) (cA _)) (nD (bm' (jH (cl G_qH hr (au (aL (aA 0) aB) aC)))) (qL (cP qw (lB _) (aL (aA 0) aB) aB (cA _)))))) (aW (bC ct')) cT) (aQ (bD 2 (aL (aA 0) aB) sc_qh.nd) (aQ (zR rfl (lD (aL (aA 0) aB)) (ju 3 sc_qh.nd) (aQ (cU (bm' (jH (cl G_qH hr (au (aA 3) aC)))) (aW (bC ct')) cT) (aW (bD 2 (cl G_qC hr (au (aA 2) (au (aA 3) aC))) sc_qh.nd)))) (aW (bC (qK (gh hr.units) gf (aA 2) aB (cA _))))))))
 exact q
include G_qC in
theorem CN (T:Txt K mg a) (F:Ent K mg "_law_least" pL ["_law_tops_here", "_law_bottom"]) :
  aP P w K mg base 2 "_law_least" ji:=by
 have q:=b_ P w base 1 rW F sc_qL fun _ _ _ _ _ _ _ hr=>by
  unfold rW;exact (aQ (bD 2 (aA 1) sc_qL.nd) (aQ (zR rfl (lD (aA 0)) (ju 3 sc_qL.nd) (aW (bD 2 (cl G_qC hr (au (aA 2) (au (aA 3) aC))) sc_qL.nd))) (aW (bC (at' (au (nJ p6 pZ rfl T.z_tuple ‹"1"› (au (nq (N':=["_law_top", "_law_shared"]) (m:=1) (fr:=[2]) (uZ (az pL) ["_law_tops_here", "_law_bottom", "_law_shared", "_law_top"] rfl rfl rfl rfl rfl ‹"1"›) rfl (nu (by decide)) (lD (aA 0)) (fun _ _ _ _=>ju 0 (show List.Nodup (["_law_top", "_law_shared"]:List Str) by decide +kernel)) (fun _ _ _ _=>(bB lC lz (aA 0) (aA 1)))) aC)) (au (bB lC lz (aA 1) (aA 2)) aC)))))))
 exact q
include G_qR in
theorem CP (T:Txt K mg a) (F:Ent K mg "_law_all_lifted" pM ["_law_numbers", "_law_many"]) :
  aP P w K mg base 2 "_law_all_lifted" oW:=by
 have q:=b_ P w base 1 uw F Bs fun _ _ _ _ _ _ _ hr=>by
  unfold uw;exact (aW (bC (nJ p6 pZ rfl T.z_tuple ‹"1"› (au (nq (N':=["_law_x", "_law_many"]) (m:=1) (fr:=[1]) (uZ (az pM) ["_law_numbers", "_law_many"] rfl rfl rfl rfl rfl ‹"1"›) rfl (nu (by decide)) (lD (aA 0)) (fun _ _ _ _=>ju 0 (show List.Nodup (["_law_x", "_law_many"]:List Str) by decide +kernel)) (fun _ _ _ _=>(cl G_qR hr (au (aA 0) (au (aA 1) aC))))) aC))))
 exact q
include G_qH in
theorem CQ (T:Txt K mg a) (F:Ent K mg "_law_tops" tR ["_law_found", "_law_many"]) :
  aP P w K mg base 2 "_law_tops" uy:=by
 have q:=b_ P w base 1 ux F Bt fun _ _ _ _ _ _ _ hr=>by
  unfold ux;exact (aQ (cU (PWD.pt (nD (bm' (jH (qx T.i_tuple (aA 0) (uY rfl T.z_tuple ‹"1"›) rfl T.z_isinstance))) (qL (cP (dA' hr.units) qM (dg dW dU rfl T.z_len ‹"1"› (au (aA 0) aC)) (aA 1) (cA _))))) (aW (bC ct')) cT) (aW (bC (dg (El rfl) ey' rfl T.z_all ‹"1"› (au (nq (N':=["_law_top"]) (m:=1) (fr:=[]) vD rfl (nu (by decide)) (lD (aA 0)) (fun _ _ _ _=>ju 0 (show List.Nodup (["_law_top"]:List Str) by decide +kernel)) (fun _ _ _ _=>(cl G_qH hr (au (aA 0) aC)))) aC)))))
 exact q
include G_qk1 in
theorem ym (T:Txt K mg a) (F:Ent K mg "plus" kY ["x", "y"]) :
  aP P w K mg base 3 "plus" cZ:=by
 have q:=b_ P w base 2 mq F sc_ql1 fun _ _ _ _ _ _ _ hr=>by
  unfold mq;exact (aQ (Q4 2 (N':=["one", "other", "y", "x"]) (m:=2) (fr:=[1,0]) (uZ (az kY) ["x", "y", "tops"] rfl rfl rfl rfl rfl ‹"1"›) rfl (Hc (by decide) (by decide)) (Hb rfl T.z_zip (au (aL (aA 0) aB) (au (aL (aA 1) aB) aC))) (fun _ _ _ _=>GJ rfl (fun _=>yO 0 (show List.Nodup (["one", "other", "y", "x"]:List Str) by decide +kernel) (yO 1 (show List.Nodup (["one", "other", "y", "x"]:List Str) by decide +kernel) GF))) (fun _ _ _ _=>(bB fX fW (bB gH gG (aA 0) (aL (aA 2) aB)) (bB gH gG (aA 1) (aL (aA 3) aB)))) sc_ql1.nd) (aW (bC (cl G_qk1 hr (au (nJ p6 pZ rfl T.z_tuple ‹"1"› (au (aA 2) aC)) (au (bB gH gG (aL (aA 0) aB) (aL (aA 1) aB)) aC))))))
 exact q
include G_qz G_qp G_qk1 in
theorem yo (T:Txt K mg a) (F:Ent K mg "halves" oF ["x"]) :
  aP P w K mg base 3 "halves" jM:=by
 have q:=b_ P w base 2 my F xW fun _ _ _ _ _ _ _ hr=>by
  unfold my;exact (aW (bC (at' (au (cl G_qk1 hr (au (cl G_qz hr (au (aL (aA 0) aB) aC)) (au (aL (aA 0) aB) aC))) (au (cl G_qk1 hr (au (cl G_qp hr (au (aL (aA 0) aB) aC)) (au (aL (aA 0) aB) aC))) aC)))))
 exact q
include G_qk1 G_qy in
theorem CT (T:Txt K mg a) (F:Ent K mg "root_of_fraction" tU ["x"]) :
  aP P w K mg base 3 "root_of_fraction" oZ:=by
 have q:=b_ P w base 2 oY F sc_qa fun _ _ _ _ _ _ _ hr=>by
  unfold oY;exact (aQ (bD 1 (bB gH gG (aL (aL (aA 0) aB) aB) (aL (aA 0) aB)) sc_qa.nd) (aQ (cU (cP qw (lB _) (aA 1) aB (cA _)) (aW (bC qJ)) cT) (aQ (bD 2 (cl G_qy hr (au (aA 1) aC)) sc_qa.nd) (aQ (cU (cP (dA' hr.units) qM (bB gH gG (aA 2) (aA 2)) (aA 1) (cA _)) (aW (bC qJ)) cT) (aW (bC (cl G_qk1 hr (au (at' (au (aA 2) aC)) (au (aL (aA 0) aB) aC)))))))))
 exact q
include G_qk1 in
theorem CV (T:Txt K mg a) (F:Ent K mg "half_of" tV ["x"]) :
  aP P w K mg base 3 "half_of" uA:=by
 have q:=b_ P w base 2 uz F Bu fun _ _ _ _ _ _ _ hr=>by
  unfold uz;exact (aW (bC (cl G_qk1 hr (au (aL (aA 0) aB) (au (bB gH gG aB (aL (aA 0) aB)) aC)))))
 exact q
include G_qB G_qX in
theorem CW (T:Txt K mg a) (F:Ent K mg "_law_less" tW ["_law_one", "_law_other"]) :
  aP P w K mg base 3 "_law_less" iI:=by
 have q:=b_ P w base 2 rF F Bv fun _ _ _ _ _ _ _ hr=>by
  unfold rF;exact (aW (bC (cl G_qX hr (au (aA 0) (au (at' (au (cl G_qB hr (au (iY aB) (au (aL (aA 1) aB) aC))) (au (aL (aA 1) aB) aC))) aC)))))
 exact q
include G_qI G_qL in
theorem CZ (T:Txt K mg a) (F:Ent K mg "_law_drawn" pN ["_law_cell_here", "_law_many"]) :
  aP P w K mg base 3 "_law_drawn" kO:=by
 have q:=b_ P w base 2 rY F sc_qr fun _ _ _ _ _ _ _ hr=>by
  unfold rY;exact (aQ (K6 2 (N':=["_law_k", "_law_cell_here"]) (m:=1) (fr:=[0]) (uZ (az pN) ["_law_cell_here", "_law_many", "_law_tops_here"] rfl rfl rfl rfl rfl ‹"1"›) rfl (nu (by decide)) (G_ rfl T.z_range (au (aL (ca' (au aB (au aB (au aB (au aB aC))))) (aA 1)) aC)) (fun _ _ _ _=>ju 0 (show List.Nodup (["_law_k", "_law_cell_here"]:List Str) by decide +kernel)) (fun _ _ _ _=>(bB wy wu (cl G_qI hr (au (aA 1) (au (aA 0) (au aB aC)))) aB)) sc_qr.nd) (aQ (cU (cP (gh hr.units) gf (bB pq o_ (aA 0) aB) aB (cA _)) (aW (hD' 2 (gm (aA 2) gj (gk aB)) (nq (N':=["_law_top"]) (m:=1) (fr:=[]) vD rfl (nu (by decide)) (lD (gm (aA 2) (gk aB) gj)) (fun _ _ _ _=>ju 0 (show List.Nodup (["_law_top"]:List Str) by decide +kernel)) (fun _ _ _ _=>aB)) sc_qr.nd)) cT) (aQ (cU (cP (gh hr.units) gf (bB pq o_ (aA 0) aB) aB (cA _)) (aW (fR' 2 (bB wy wu (bB pq o_ (bB lC lz (aA 0) aB) (bB fX fW (bB gH gG aB (bB J_ J5 aB aB)) aB)) (bB J_ J5 aB aB)) (Hg aB) (Hf _))) cT) (aW (bC (cl G_qL hr (au (aA 2) (au (bB fX fW aB (cl G_qI hr (au (aA 0) (au aB (au aB aC))))) aC))))))))
 exact q
include G_qh in
theorem C_ (T:Txt K mg a) (F:Ent K mg "_law_are_numbers" pO ["_law_found", "_law_count", "_law_many"]) :
  aP P w K mg base 3 "_law_are_numbers" mQ:=by
 have q:=b_ P w base 2 rZ F Bw fun _ _ _ _ _ _ _ hr=>by
  unfold rZ;exact (aQ (cU (PWD.pt (nD (bm' (jH (qx T.i_tuple (aA 0) (uY rfl T.z_tuple ‹"1"›) rfl T.z_isinstance))) (qL (cP (dA' hr.units) qM (dg dW dU rfl T.z_len ‹"1"› (au (aA 0) aC)) (aA 1) (cA _))))) (aW (bC ct')) cT) (aW (bC (dg (El rfl) ey' rfl T.z_all ‹"1"› (au (nq (N':=["_law_x", "_law_many"]) (m:=1) (fr:=[2]) (uZ (az pO) ["_law_found", "_law_count", "_law_many"] rfl rfl rfl rfl rfl ‹"1"›) rfl (nu (by decide)) (lD (aA 0)) (fun _ _ _ _=>ju 0 (show List.Nodup (["_law_x", "_law_many"]:List Str) by decide +kernel)) (fun _ _ _ _=>(cl G_qh hr (au (aA 0) (au (aA 1) aC))))) aC)))))
 exact q
include G_ql1 G_qW in
theorem yq (T:Txt K mg a) (F:Ent K mg "minus" oG ["x", "y"]) :
  aP P w K mg base 4 "minus" iz:=by
 have q:=b_ P w base 3 mz F xX fun _ _ _ _ _ _ _ hr=>by
  unfold mz;exact (aW (bC (cl G_ql1 hr (au (aA 0) (au (cl G_qW hr (au (aA 1) aC)) aC)))))
 exact q
include G_ql1 in
theorem Dc (T:Txt K mg a) (F:Ent K mg "pair_plus" tX ["one", "other"]) :
  aP P w K mg base 4 "pair_plus" jk:=by
 have q:=b_ P w base 3 uC F Bx fun _ _ _ _ _ _ _ hr=>by
  unfold uC;exact (aW (bC (at' (au (cl G_ql1 hr (au (aL (aA 0) aB) (au (aL (aA 1) aB) aC))) (au (cl G_ql1 hr (au (aL (aA 0) aB) (au (aL (aA 1) aB) aC))) aC)))))
 exact q
include G_qT in
theorem Dd (T:Txt K mg a) (F:Ent K mg "_law_way" tY ["_law_one", "_law_other"]) :
  aP P w K mg base 4 "_law_way" sE:=by
 have q:=b_ P w base 3 sy F By fun _ _ _ _ _ _ _ hr=>by
  unfold sy;exact (aW (bC (at' (au (cl G_qT hr (au (aL (aA 1) aB) (au (aL (aA 0) aB) aC))) (au (cl G_qT hr (au (aL (aA 1) aB) (au (aL (aA 0) aB) aC))) aC)))))
 exact q
include G_qS G_qb in
theorem De (T:Txt K mg a) (F:Ent K mg "_law_points" pP ["_law_found", "_law_roots", "_law_extra"]) :
  aP P w K mg base 4 "_law_points" qm:=by
 have q:=b_ P w base 3 uD F sc_qE fun _ _ _ _ _ _ _ hr=>by
  unfold uD;exact (aQ (cU (PWD.pt (nD (bm' (jH (qx T.i_tuple (aA 0) (uY rfl T.z_tuple ‹"1"›) rfl T.z_isinstance))) (nD (cP (dA' hr.units) qM (dg dW dU rfl T.z_len ‹"1"› (au (aA 0) aC)) aB (cA _)) (qL (bm' (jH (qx T.i_tuple (aL (aA 0) aB) (uY rfl T.z_tuple ‹"1"›) rfl T.z_isinstance))))))) (aW (bC ct')) cT) (aQ (cU (PWD.pt (nD (cP (dA' hr.units) qM (gm (aL (aA 0) aB) gj (gk (dg dW dU rfl T.z_len ‹"1"› (au (aA 1) aC)))) (aA 1) (cA _)) (qL (cP La K8 (bB wy wu (dg dW dU rfl T.z_len ‹"1"› (au (aL (aA 0) aB) aC)) (dg dW dU rfl T.z_len ‹"1"› (au (aA 1) aC))) (aA 2) (by with_unfolding_all rfl))))) (aW (bC ct')) cT) (aQ (bD 3 (aL (ca' (au aB (au aB (au aB (au aB aC))))) (dg dW dU rfl T.z_len ‹"1"› (au (aL (aA 0) aB) aC))) sc_qE.nd) (aQ (cU (PWD.pt (Eh (cP yM (lB _) (dg dW dU rfl T.z_len ‹"1"› (au (aL (aA 0) aB) aC)) (dg dW dU rfl T.z_len ‹"1"› (au (aA 1) aC)) (cA _)) (Eg (bm' (jH (cl G_qS hr (au (aL (aL (aA 0) aB) (iY aB)) (au (bB lC lz (aA 3) aB) aC)))))))) (aW (bC ct')) cT) (aQ (cU (PWD.pt (nD (bm' (jH (qx T.i_list (aL (aA 0) aB) (uY rfl T.z_list ‹"1"›) rfl T.z_isinstance))) (qL (cP La K8 (dg dW dU rfl T.z_len ‹"1"› (au (aL (aA 0) aB) aC)) (at' (au aB (au aB aC))) (by with_unfolding_all rfl))))) (aW (bC ct')) cT) (aQ (cU (PWD.pt (Eh (cP (gh hr.units) gf (dg dW dU rfl T.z_len ‹"1"› (au (aL (aA 0) aB) aC)) aB (cA _)) (Eg (cP (gh hr.units) gf (aL (aL (aA 0) aB) aB) (aL (aL (aA 0) aB) aB) (cA _))))) (aW (bC ct')) cT) (aW (bC (dg (El rfl) ey' rfl T.z_all ‹"1"› (au (nq (N':=["_law_point_here", "_law_many"]) (m:=1) (fr:=[3]) (uZ (az pP) ["_law_found", "_law_roots", "_law_extra", "_law_many"] rfl rfl rfl rfl rfl ‹"1"›) rfl (nu (by decide)) (lD (aL (aA 0) aB)) (fun _ _ _ _=>ju 0 (show List.Nodup (["_law_point_here", "_law_many"]:List Str) by decide +kernel)) (fun _ _ _ _=>(cl G_qb hr (au (aA 0) (au aB (au (aA 1) aC)))))) aC))))))))))
 exact q
include G_qQ G_qB G_qL G_qr G_qD in
theorem Df (T:Txt K mg a) (F:Ent K mg "_law_line" pQ ["_law_script", "_law_at", "_law_many"]) :
  Eo P w K mg base 4 "_law_line" qp:=by
 have q:=Sq P w base 3 uE F sc_qU fun _ _ _ _ _ _ _ hr=>by
  unfold uE;exact (Hn (K6 3 (N':=["_law_k", "_law_many", "_law_script", "_law_at"]) (m:=1) (fr:=[2,0,1]) (uZ (az pQ) ["_law_script", "_law_at", "_law_many", "_law_line_here", "_law_nought"] rfl rfl rfl rfl rfl ‹"1"›) rfl (nu (by decide)) (G_ rfl T.z_range (au aB aC)) (fun _ _ _ _=>ju 0 (show List.Nodup (["_law_k", "_law_many", "_law_script", "_law_at"]:List Str) by decide +kernel)) (fun _ _ _ _=>(cl G_qr hr (au (bB fX fW (bB gH gG (bB lC lz (cl G_qD hr (au (aA 2) (au (bB fX fW (aA 3) (aA 0)) aC))) aB) aB) (aL (ca' (au aB (au aB (au aB aC)))) (aA 0))) (au (aA 1) aC)))) sc_qU.nd) (Hn (bD 4 (cl G_qL hr (au (cl G_qB hr (au aB (au (aL (aL (aA 3) aB) aB) aC))) (au aB aC))) sc_qU.nd) (Hn (cU (PWD.pt (Eh (cP (gh hr.units) gf (aL (aA 3) aB) (aA 4) (cA _)) (Eg (cP (gh hr.units) gf (aL (aA 3) aB) (aA 4) (cA _))))) (aW (fR' 3 (at' (au (bB fX fW (at' (au aB aC)) (gm (aL (aA 4) aB) (gk aB) gj)) (au aB aC))) (Hg (bB pq o_ (cl G_qQ hr (au (aA 0) (au (aA 1) aC))) aB)) (Hf _))) cT) (Sg 3))))
 exact q
include G_qz G_qp G_qG in
theorem vR (T:Txt K mg a) (F:Ent K mg "times_tops" mU ["roots", "one", "other"]) {R:List D->Res D} {k:Nat} (hk:1<=k) (G_qF:aP P w K mg base k "times_tops" R) :
  aP P w K mg base (k + 1) "times_tops" (bG 3 11 (mD R)):=by
 have q:=b_ P w base k (mD R) F sc_qF fun _ _ _ _ _ _ _ hr=>by
  unfold mD;exact (aQ (cU (cP (gh hr.units) gf (dg dW dU rfl T.z_len ‹"1"› (au (aA 0) aC)) aB (cA _)) (aW (bC (at' (au (bB gH gG (aL (aA 1) aB) (aL (aA 2) aB)) aC)))) cT) (aQ (bD 3 (gm (aA 0) gj (gk (iY aB))) sc_qF.nd) (aQ (bD 4 (cl G_qz hr (au (aA 1) aC)) sc_qF.nd) (aQ (bD 5 (cl G_qp hr (au (aA 1) aC)) sc_qF.nd) (aQ (bD 6 (cl G_qz hr (au (aA 2) aC)) sc_qF.nd) (aQ (bD 7 (cl G_qp hr (au (aA 2) aC)) sc_qF.nd) (aQ (bD 8 (cl G_qF hr (au (aA 3) (au (cl G_qF hr (au (aA 3) (au (aA 5) (au (aA 7) aC)))) (au (aL (aA 0) (iY aB)) aC)))) sc_qF.nd) (aQ (bD 9 (cl G_qG hr (au (cl G_qF hr (au (aA 3) (au (aA 4) (au (aA 6) aC)))) (au (aA 8) aC))) sc_qF.nd) (aQ (bD 10 (cl G_qG hr (au (cl G_qF hr (au (aA 3) (au (aA 4) (au (aA 7) aC)))) (au (cl G_qF hr (au (aA 3) (au (aA 5) (au (aA 6) aC)))) aC))) sc_qF.nd) (aW (bC (bB fX fW (aA 9) (aA 10)))))))))))))
 exact q
include G_qz G_qp G_qG in
theorem uO (T:Txt K mg a) (F:Ent K mg "times_tops" mU ["roots", "one", "other"]):∀n,aP P w K mg base (1 + 1 * n) "times_tops" (jN n)
 | 0=>p7 F _
 | n + 1=>vR G_qz G_qp G_qG T F (Nat.le_add_right _ _) (uO T F n)
include G_qz G_qp G_qG in
theorem Dg (T:Txt K mg a) (F:Ent K mg "times_tops" mU ["roots", "one", "other"]) :
  aP P w K mg base 5 "times_tops" jA:=uO G_qz G_qp G_qG T F  4
include G_ql1 G_qY G_qg1 in
theorem yr (T:Txt K mg a) (F:Ent K mg "middles" oH ["a", "n"]) :
  aP P w K mg base 5 "middles" m9:=by
 have q:=b_ P w base 4 m8 F xY fun _ _ _ _ _ _ _ hr=>by
  unfold m8;exact (aW (bC (ca' (au (cl G_qY hr (au (cl G_ql1 hr (au (aA 0) (au (aA 1) aC))) aC)) (au (cl G_qY hr (au (cl G_qg1 hr (au (aA 0) (au (aA 1) aC))) aC)) aC)))))
 exact q
include G_qJ in
theorem vU (T:Txt K mg a) (F:Ent K mg "_law_tops_times" mV ["_law_roots", "_law_one", "_law_other"]) {R:List D->Res D} {k:Nat} (hk:1<=k) (G_qe:aP P w K mg base k "_law_tops_times" R) :
  aP P w K mg base (k + 1) "_law_tops_times" (bG 3 8 (mF R)):=by
 have q:=b_ P w base k (mF R) F sc_qe fun _ _ _ _ _ _ _ hr=>by
  unfold mF;exact (aQ (cU (cP (gh hr.units) gf (dg dW dU rfl T.z_len ‹"1"› (au (aA 1) aC)) aB (cA _)) (aW (bC (at' (au (bB gH gG (aL (aA 1) aB) (aL (aA 2) aB)) aC)))) cT) (aQ (bD 3 (bB lC lz (dg dW dU rfl T.z_len ‹"1"› (au (aA 1) aC)) aB) sc_qe.nd) (aQ (bD 4 (gm (aA 0) gj (gk (iY aB))) sc_qe.nd) (aQ (bD 5 (cl G_qe hr (au (aA 4) (au (gm (aA 1) (gk (aA 3)) gj) (au (gm (aA 2) (gk (aA 3)) gj) aC)))) sc_qe.nd) (aQ (bD 6 (cl G_qJ hr (au (cl G_qe hr (au (aA 4) (au (gm (aA 1) gj (gk (aA 3))) (au (gm (aA 2) gj (gk (aA 3))) aC)))) (au (cl G_qe hr (au (aA 4) (au (aL (aA 0) (iY aB)) (au (aA 5) aC)))) aC))) sc_qe.nd) (aQ (bD 7 (cl G_qe hr (au (aA 4) (au (gm (aA 1) gj (gk (aA 3))) (au (gm (aA 2) (gk (aA 3)) gj) aC)))) sc_qe.nd) (aW (bC (bB fX fW (aA 6) (cl G_qJ hr (au (aA 7) (au (cl G_qe hr (au (aA 4) (au (gm (aA 1) (gk (aA 3)) gj) (au (gm (aA 2) gj (gk (aA 3))) aC)))) aC))))))))))))
 exact q
include G_qJ in
theorem uQ (T:Txt K mg a) (F:Ent K mg "_law_tops_times" mV ["_law_roots", "_law_one", "_law_other"]):∀n,aP P w K mg base (1 + 1 * n) "_law_tops_times" (jO n)
 | 0=>p7 F _
 | n + 1=>vU G_qJ T F (Nat.le_add_right _ _) (uQ T F n)
include G_qJ in
theorem Dh (T:Txt K mg a) (F:Ent K mg "_law_tops_times" mV ["_law_roots", "_law_one", "_law_other"]) :
  aP P w K mg base 5 "_law_tops_times" jB:=uQ G_qJ T F  4
include G_qk1 G_qF in
theorem yt (T:Txt K mg a) (F:Ent K mg "times" oJ ["roots", "x", "y"]) :
  aP P w K mg base 6 "times" cO:=by
 have q:=b_ P w base 5 mG F xZ fun _ _ _ _ _ _ _ hr=>by
  unfold mG;exact (aW (bC (cl G_qk1 hr (au (cl G_qF hr (au (aA 0) (au (aL (aA 1) aB) (au (aL (aA 2) aB) aC)))) (au (bB gH gG (aL (aA 1) aB) (aL (aA 2) aB)) aC)))))
 exact q
include G_qk G_qz G_qp G_qG G_qF in
theorem Di (T:Txt K mg a) (F:Ent K mg "norm_tops" tZ ["roots", "tops"]) :
  aP P w K mg base 6 "norm_tops" rN:=by
 have q:=b_ P w base 5 rM F sc_qN fun _ _ _ _ _ _ _ hr=>by
  unfold rM;exact (aQ (bD 2 (gm (aA 0) gj (gk (iY aB))) sc_qN.nd) (aQ (bD 3 (cl G_qz hr (au (aA 1) aC)) sc_qN.nd) (aQ (bD 4 (cl G_qp hr (au (aA 1) aC)) sc_qN.nd) (aQ (bD 5 (cl G_qF hr (au (aA 2) (au (cl G_qF hr (au (aA 2) (au (aA 4) (au (aA 4) aC)))) (au (aL (aA 0) (iY aB)) aC)))) sc_qN.nd) (aW (bC (cl G_qG hr (au (cl G_qF hr (au (aA 2) (au (aA 3) (au (aA 3) aC)))) (au (cl G_qk hr (au (aA 5) aC)) aC)))))))))
 exact q
include G_qe in
theorem Dj (T:Txt K mg a) (F:Ent K mg "_law_product" t6 ["_law_roots", "_law_one", "_law_other"]) :
  aP P w K mg base 6 "_law_product" fO:=by
 have q:=b_ P w base 5 rK F BJ fun _ _ _ _ _ _ _ hr=>by
  unfold rK;exact (aW (bC (at' (au (cl G_qe hr (au (aA 0) (au (aL (aA 1) aB) (au (aL (aA 2) aB) aC)))) (au (bB gH gG (aL (aA 1) aB) (aL (aA 2) aB)) aC)))))
 exact q
include G_qk1 G_qN in
theorem yu (T:Txt K mg a) (F:Ent K mg "norm" oK ["roots", "x"]) :
  aP P w K mg base 7 "norm" jd:=by
 have q:=b_ P w base 6 mJ F x_ fun _ _ _ _ _ _ _ hr=>by
  unfold mJ;exact (aW (bC (cl G_qk1 hr (au (cl G_qN hr (au (aA 0) (au (aL (aA 1) aB) aC))) (au (bB gH gG (aL (aA 1) aB) (aL (aA 1) aB)) aC)))))
 exact q
include G_ql1 G_qh1 in
theorem Dk (T:Txt K mg a) (F:Ent K mg "sum_of_products" t7 ["roots", "one", "other"]) :
  aP P w K mg base 7 "sum_of_products" n8:=by
 have q:=b_ P w base 6 sr F BK fun _ _ _ _ _ _ _ hr=>by
  unfold sr;exact (aW (bC (cl G_ql1 hr (au (cl G_qh1 hr (au (aA 0) (au (aL (aA 1) aB) (au (aL (aA 2) aB) aC)))) (au (cl G_qh1 hr (au (aA 0) (au (aL (aA 1) aB) (au (aL (aA 2) aB) aC)))) aC)))))
 exact q
include G_qh1 in
theorem Dl (T:Txt K mg a) (F:Ent K mg "both_ways" t8 ["roots", "a"]) :
  aP P w K mg base 7 "both_ways" o7:=by
 have q:=b_ P w base 6 uF F BL fun _ _ _ _ _ _ _ hr=>by
  unfold uF;exact (aW (bC (ca' (au (aA 1) (au (cl G_qh1 hr (au (gm (aA 0) gj (gk (iY aB))) (au (aA 1) (au (at' (au (aL (aA 0) (iY aB)) (au aB aC))) aC)))) aC)))))
 exact q
include G_qh1 in
theorem Dm (T:Txt K mg a) (F:Ent K mg "stretched" t_ ["roots", "pair", "x"]) :
  aP P w K mg base 7 "stretched" k_:=by
 have q:=b_ P w base 6 uG F BP fun _ _ _ _ _ _ _ hr=>by
  unfold uG;exact (aW (bC (at' (au (cl G_qh1 hr (au (aA 0) (au (aL (aA 1) aB) (au (aA 2) aC)))) (au (cl G_qh1 hr (au (aA 0) (au (aL (aA 1) aB) (au (aA 2) aC)))) aC)))))
 exact q
include G_qX G_qT G_qs in
theorem yw (T:Txt K mg a) (F:Ent K mg "_law_far" oM ["_law_roots", "_law_one", "_law_other"]) :
  aP P w K mg base 7 "_law_far" pJ:=by
 have q:=b_ P w base 6 mR F sc_qb1 fun _ _ _ _ _ _ _ hr=>by
  unfold mR;exact (aQ (bD 3 (cl G_qT hr (au (aL (aA 1) aB) (au (aL (aA 2) aB) aC))) sc_qb1.nd) (aQ (bD 4 (cl G_qT hr (au (aL (aA 1) aB) (au (aL (aA 2) aB) aC))) sc_qb1.nd) (aW (bC (cl G_qX hr (au (cl G_qs hr (au (aA 0) (au (aA 3) (au (aA 3) aC)))) (au (cl G_qs hr (au (aA 0) (au (aA 4) (au (aA 4) aC)))) aC)))))))
 exact q
include G_qX G_qT G_qs in
theorem Dn (T:Txt K mg a) (F:Ent K mg "_law_by_line" uc ["_law_roots", "_law_line_here", "_law_point_here"]) :
  aP P w K mg base 7 "_law_by_line" n_:=by
 have q:=b_ P w base 6 sG F sc_qt fun _ _ _ _ _ _ _ hr=>by
  unfold sG;exact (aQ (bD 3 (cl G_qX hr (au (cl G_qs hr (au (aA 0) (au (aL (aA 1) aB) (au (aL (aA 2) aB) aC)))) (au (cl G_qs hr (au (aA 0) (au (aL (aA 1) aB) (au (aL (aA 2) aB) aC)))) aC))) sc_qt.nd) (aW (bC (cl G_qT hr (au (aA 3) (au (aL (aA 1) aB) aC))))))
 exact q
include G_qX G_qL G_qT G_qs G_qt in
theorem yz (T:Txt K mg a) (F:Ent K mg "_law_w" oN ["_law_roots", "_law_line_here", "_law_ring"]) :
  aP P w K mg base 8 "_law_w" ni:=by
 have q:=b_ P w base 7 m_ F sc_qi1 fun _ _ _ _ _ _ _ hr=>by
  unfold m_;exact (aQ (bD 3 (cl G_qX hr (au (cl G_qs hr (au (aA 0) (au (aL (aA 1) aB) (au (aL (aA 1) aB) aC)))) (au (cl G_qs hr (au (aA 0) (au (aL (aA 1) aB) (au (aL (aA 1) aB) aC)))) aC))) sc_qi1.nd) (aQ (bD 4 (cl G_qt hr (au (aA 0) (au (aA 1) (au (aA 2) aC)))) sc_qi1.nd) (aQ (bD 5 (cl G_qT hr (au (cl G_qs hr (au (aA 0) (au (aL (aA 2) aB) (au (aA 3) aC)))) (au (cl G_qs hr (au (aA 0) (au (aA 4) (au (aA 4) aC)))) aC))) sc_qi1.nd) (aW (bC (cl G_qL hr (au (aL (aA 5) aB) (au (aL (aA 5) aB) aC))))))))
 exact q
include G_qJ G_qB G_qe in
theorem vV (T:Txt K mg a) (F:Ent K mg "_law_sign_of" mW ["_law_roots", "_law_tops_here"]) {R:List D->Res D} {k:Nat} (hk:5<=k) (G_qu:aP P w K mg base k "_law_sign_of" R) :
  aP P w K mg base (k + 1) "_law_sign_of" (bG 2 8 (jD R)):=by
 have q:=b_ P w base k (jD R) F sc_qu fun _ _ _ _ _ _ _ hr=>by
  unfold jD;exact (aQ (cU (cP (gh hr.units) gf (dg dW dU rfl T.z_len ‹"1"› (au (aA 1) aC)) aB (cA _)) (aW (bC (bB wy wu (nJ KN ne_int rfl T.z_int ‹"1"› (au (qK yM (lB _) (aL (aA 1) aB) aB (cA _)) aC)) (nJ KN ne_int rfl T.z_int ‹"1"› (au (qK qw (lB _) (aL (aA 1) aB) aB (cA _)) aC))))) cT) (aQ (bD 2 (bB lC lz (dg dW dU rfl T.z_len ‹"1"› (au (aA 1) aC)) aB) sc_qu.nd) (aQ (bD 3 (gm (aA 0) gj (gk (iY aB))) sc_qu.nd) (aQ (bD 4 (cl G_qu hr (au (aA 3) (au (gm (aA 1) gj (gk (aA 2))) aC))) sc_qu.nd) (aQ (bD 5 (cl G_qu hr (au (aA 3) (au (gm (aA 1) (gk (aA 2)) gj) aC))) sc_qu.nd) (aQ (cU (PWD.pt (nD (cP (gh hr.units) gf (aA 4) (aA 5) (cA _)) (qL (cP (gh hr.units) gf (aA 5) aB (cA _))))) (aW (bC (aA 4))) cT) (aQ (cU (cP (gh hr.units) gf (aA 4) aB (cA _)) (aW (bC (aA 5))) cT) (aQ (bD 6 (cl G_qe hr (au (aA 3) (au (gm (aA 1) (gk (aA 2)) gj) (au (gm (aA 1) (gk (aA 2)) gj) aC)))) sc_qu.nd) (aQ (bD 7 (cl G_qB hr (au (iY aB) (au (cl G_qe hr (au (aA 3) (au (aL (aA 0) (iY aB)) (au (aA 6) aC)))) aC))) sc_qu.nd) (aW (bC (bB gH gG (aA 4) (cl G_qu hr (au (aA 3) (au (cl G_qJ hr (au (cl G_qe hr (au (aA 3) (au (gm (aA 1) gj (gk (aA 2))) (au (gm (aA 1) gj (gk (aA 2))) aC)))) (au (aA 7) aC))) aC)))))))))))))))
 exact q
include G_qJ G_qB G_qe in
theorem uR (T:Txt K mg a) (F:Ent K mg "_law_sign_of" mW ["_law_roots", "_law_tops_here"]):∀n,aP P w K mg base (5 + 1 * n) "_law_sign_of" (jh n)
 | 0=>p7 F _
 | n + 1=>vV G_qJ G_qB G_qe T F (Nat.le_add_right _ _) (uR T F n)
include G_qJ G_qB G_qe in
theorem Dq (T:Txt K mg a) (F:Ent K mg "_law_sign_of" mW ["_law_roots", "_law_tops_here"]) :
  aP P w K mg base 9 "_law_sign_of" dF:=uR G_qJ G_qB G_qe T F  4
include G_qz G_qp G_qN G_qg in
theorem vW (T:Txt K mg a) (F:Ent K mg "sign_of_tops" mX ["roots", "tops"]) {R:List D->Res D} {k:Nat} (hk:6<=k) (G_qm:aP P w K mg base k "sign_of_tops" R) :
  aP P w K mg base (k + 1) "sign_of_tops" (bG 2 5 (mK R)):=by
 have q:=b_ P w base k (mK R) F sc_qm fun _ _ _ _ _ _ _ hr=>by
  unfold mK;exact (aQ (cU (cP (gh hr.units) gf (dg dW dU rfl T.z_len ‹"1"› (au (aA 0) aC)) aB (cA _)) (aW (bC (cl G_qg hr (au (aL (aA 1) aB) aC)))) cT) (aQ (bD 2 (gm (aA 0) gj (gk (iY aB))) sc_qm.nd) (aQ (bD 3 (cl G_qm hr (au (aA 2) (au (cl G_qz hr (au (aA 1) aC)) aC))) sc_qm.nd) (aQ (bD 4 (cl G_qm hr (au (aA 2) (au (cl G_qp hr (au (aA 1) aC)) aC))) sc_qm.nd) (aQ (cU (PWD.pt (nD (cP (gh hr.units) gf (aA 3) (aA 4) (cA _)) (qL (cP (gh hr.units) gf (aA 4) aB (cA _))))) (aW (bC (aA 3))) cT) (aQ (cU (cP (gh hr.units) gf (aA 3) aB (cA _)) (aW (bC (aA 4))) cT) (aW (bC (bB gH gG (aA 3) (cl G_qm hr (au (aA 2) (au (cl G_qN hr (au (aA 0) (au (aA 1) aC))) aC))))))))))))
 exact q
include G_qz G_qp G_qN G_qg in
theorem uT (T:Txt K mg a) (F:Ent K mg "sign_of_tops" mX ["roots", "tops"]):∀n,aP P w K mg base (6 + 1 * n) "sign_of_tops" (jP n)
 | 0=>p7 F _
 | n + 1=>vW G_qz G_qp G_qN G_qg T F (Nat.le_add_right _ _) (uT T F n)
include G_qz G_qp G_qN G_qg in
theorem Dr (T:Txt K mg a) (F:Ent K mg "sign_of_tops" mX ["roots", "tops"]) :
  aP P w K mg base 10 "sign_of_tops" vO:=uT G_qz G_qp G_qN G_qg T F  4
include G_qT G_qu G_qb1 in
theorem Ds (T:Txt K mg a) (F:Ent K mg "_law_on_ring" ud ["_law_roots", "_law_ring", "_law_point_here"]) :
  aP P w K mg base 10 "_law_on_ring" jE:=by
 have q:=b_ P w base 9 uH F BR fun _ _ _ _ _ _ _ hr=>by
  unfold uH;exact (aW (bC (qK (gh hr.units) gf (cl G_qu hr (au (aA 0) (au (aL (cl G_qT hr (au (cl G_qb1 hr (au (aA 0) (au (aA 2) (au (aA 1) aC)))) (au (aL (aA 1) aB) aC))) aB) aC))) aB (cA _))))
 exact q
include G_qt G_qu in
theorem Dt (T:Txt K mg a) (F:Ent K mg "_law_on_line" ue ["_law_roots", "_law_line_here", "_law_point_here"]) :
  aP P w K mg base 10 "_law_on_line" jF:=by
 have q:=b_ P w base 9 uI F BV fun _ _ _ _ _ _ _ hr=>by
  unfold uI;exact (aW (bC (qK (gh hr.units) gf (cl G_qu hr (au (aA 0) (au (aL (cl G_qt hr (au (aA 0) (au (aA 1) (au (aA 2) aC)))) aB) aC))) aB (cA _))))
 exact q
include G_qd1 G_qk1 G_qh1 G_qm1 G_qe1 in
theorem vX (T:Txt K mg a) (F:Ent K mg "one_over" mY ["roots", "y"]) {R:List D->Res D} {k:Nat} (hk:7<=k) (G_qV:aP P w K mg base k "one_over" R) :
  aP P w K mg base (k + 1) "one_over" (bG 2 3 (jC R)):=by
 have q:=b_ P w base k (jC R) F sc_qV fun _ _ _ _ _ _ _ hr=>by
  unfold jC;exact (aQ (cU (cP (gh hr.units) gf (dg dW dU rfl T.z_len ‹"1"› (au (aA 0) aC)) aB (cA _)) (aW (bC (cl G_qk1 hr (au (at' (au (aL (aA 1) aB) aC)) (au (aL (aL (aA 1) aB) aB) aC))))) cT) (aQ (bD 2 (cl G_qV hr (au (gm (aA 0) gj (gk (iY aB))) (au (cl G_qm1 hr (au (aA 0) (au (aA 1) aC))) aC))) sc_qV.nd) (aW (bC (cl G_qh1 hr (au (aA 0) (au (cl G_qe1 hr (au (aA 1) aC)) (au (cl G_qd1 hr (au (aA 2) (au (dg dW dU rfl T.z_len ‹"1"› (au (aA 0) aC)) aC))) aC))))))))
 exact q
include G_qd1 G_qk1 G_qh1 G_qm1 G_qe1 in
theorem uU (T:Txt K mg a) (F:Ent K mg "one_over" mY ["roots", "y"]):∀n,aP P w K mg base (7 + 1 * n) "one_over" (je n)
 | 0=>p7 F _
 | n + 1=>vX G_qd1 G_qk1 G_qh1 G_qm1 G_qe1 T F (Nat.le_add_right _ _) (uU T F n)
include G_qd1 G_qk1 G_qh1 G_qm1 G_qe1 in
theorem Du (T:Txt K mg a) (F:Ent K mg "one_over" mY ["roots", "y"]) :
  aP P w K mg base 11 "one_over" rP:=uU G_qd1 G_qk1 G_qh1 G_qm1 G_qe1 T F  4
include G_qm in
theorem yC (T:Txt K mg a) (F:Ent K mg "sign" oO ["roots", "x"]) :
  aP P w K mg base 11 "sign" fP:=by
 have q:=b_ P w base 10 mL F yc fun _ _ _ _ _ _ _ hr=>by
  unfold mL;exact (aW (bC (cl G_qm hr (au (aA 0) (au (aL (aA 1) aB) aC)))))
 exact q
include G_qh1 G_qK G_qV in
theorem yD (T:Txt K mg a) (F:Ent K mg "over" oR ["roots", "x", "y"]) :
  aP P w K mg base 12 "over" dC:=by
 have q:=b_ P w base 11 jf F yd fun _ _ _ _ _ _ _ hr=>by
  unfold jf;exact (aQ (cU (jH (cl G_qK hr (au (aA 2) aC))) (aW (GP rfl PySem.F.excBase_ValueError T.n_NoOver T.x_NoOver rfl T.m_NoOver (au Gu aC) (by decide) (hlen:=fun δ ds h=>G4 h))) cT) (aW (bC (cl G_qh1 hr (au (aA 0) (au (aA 1) (au (cl G_qV hr (au (aA 0) (au (aA 2) aC))) aC)))))))
 exact q
include G_qW G_qn1 in
theorem yE (T:Txt K mg a) (F:Ent K mg "size" oV ["roots", "x"]) :
  aP P w K mg base 12 "size" jg:=by
 have q:=b_ P w base 11 jQ F ye fun _ _ _ _ _ _ _ hr=>by
  unfold jQ;exact (aW (bC (J2 (cP qw (lB _) (cl G_qn1 hr (au (aA 0) (au (aA 1) aC))) aB (cA _)) (cl G_qW hr (au (aA 1) aC)) (aA 1))))
 exact q
include G_qm1 G_qK G_qf1 G_qa in
theorem uV (T:Txt K mg a) (F:Ent K mg "root" jj ["roots", "x"]) {R:List D->Res D} {k:Nat} (hk:12<=k) (G_qq1:aP P w K mg base k "root" R) (G_qi:aP P w K mg base (k + 1) "root_of_front" (bG 2 5 (fQ R))) (G_qn:aP P w K mg base (k + 1) "root_of_both" (bG 4 9 (gU R))) :
  aP P w K mg base (k + 2) "root" (bG 2 3 (d9 R)):=by
 have q:=b_ P w base (k + 1) (d9 R) F sc_qq1 fun _ _ _ _ _ _ _ hr=>by
  unfold d9;exact (aQ (cU (cP (gh hr.units) gf (dg dW dU rfl T.z_len ‹"1"› (au (aA 0) aC)) aB (cA _)) (aW (bC (cl G_qa hr (au (aA 1) aC)))) cT) (aQ (bD 2 (cl G_qf1 hr (au (aA 1) aC)) sc_qq1.nd) (aQ (cU (jH (cl G_qK hr (au (aL (aA 2) aB) aC))) (aW (bC (cl G_qi hr (au (aA 0) (au (aL (aA 2) aB) aC))))) cT) (aW (bC (cl G_qn hr (au (aA 0) (au (aL (aA 2) aB) (au (aL (aA 2) aB) (au (cl G_qm1 hr (au (aA 0) (au (aA 1) aC))) aC))))))))))
 exact q
include G_qm1 G_qK G_qf1 G_qa in
theorem iT (T:Txt K mg a) (F:Ent K mg "root" jj ["roots", "x"]) (S_qi:∀(R:List D->Res D) (k:Nat),12<=k->aP P w K mg base k "root" R->aP P w K mg base (k + 1) "root_of_front" (bG 2 5 (fQ R))) (S_qn:∀(R:List D->Res D) (k:Nat),12<=k->aP P w K mg base k "root" R->aP P w K mg base (k + 1) "root_of_both" (bG 4 9 (gU R))):∀n,aP P w K mg base (12 + 2 * n) "root" (cY n)
 | 0=>p7 F _
 | n + 1=>uV G_qm1 G_qK G_qf1 G_qa T F (Nat.le_add_right _ _) (iT T F S_qi S_qn n) (S_qi _ _ (Nat.le_add_right _ _) (iT T F S_qi S_qn n)) (S_qn _ _ (Nat.le_add_right _ _) (iT T F S_qi S_qn n))
include G_qm1 G_qK G_qf1 G_qa in
theorem yF (T:Txt K mg a) (F:Ent K mg "root" jj ["roots", "x"]) (S_qi:∀(R:List D->Res D) (k:Nat),12<=k->aP P w K mg base k "root" R->aP P w K mg base (k + 1) "root_of_front" (bG 2 5 (fQ R))) (S_qn:∀(R:List D->Res D) (k:Nat),12<=k->aP P w K mg base k "root" R->aP P w K mg base (k + 1) "root_of_both" (bG 4 9 (gU R))) :
  aP P w K mg base 20 "root" jl:=iT G_qm1 G_qK G_qf1 G_qa T F S_qi S_qn 4
include G_qd1 G_qO G_qA G_qo1 in
theorem uW (T:Txt K mg a) (F:Ent K mg "root_of_front" uf ["roots", "a"]) {R:List D->Res D} {k:Nat} (hk:12<=k) (G_qq1:aP P w K mg base k "root" R) :
  aP P w K mg base (k + 1) "root_of_front" (bG 2 5 (fQ R)):=by
 have q:=b_ P w base k (fQ R) F sc_qi fun _ _ _ _ _ _ _ hr=>by
  unfold fQ;exact (aQ (bD 2 (gm (aA 0) gj (gk (iY aB))) sc_qi.nd) (aQ (bD 3 (cl G_qO hr (au (aA 0) (au (aA 1) aC))) sc_qi.nd) (aQ (bD 4 (cl G_qq1 hr (au (aA 2) (au (aL (aA 3) aB) aC))) sc_qi.nd) (aQ (cU (cP G8 G7 (aA 4) qJ (cA _)) (aW (bC (cl G_qd1 hr (au (aA 4) (au (dg dW dU rfl T.z_len ‹"1"› (au (aA 0) aC)) aC))))) cT) (aQ (bD 4 (cl G_qq1 hr (au (aA 2) (au (aL (aA 3) aB) aC))) sc_qi.nd) (aQ (cU (cP KJ G6 (aA 4) qJ (cA _)) (aW (bC qJ)) cT) (aW (bC (cl G_qA hr (au (cl G_qo1 hr (au (aA 2) (au (aA 4) (au (at' (au (aL (aA 0) (iY aB)) (au aB aC))) aC)))) aC))))))))))
 exact q
include G_qd1 G_ql1 G_qA G_qo1 G_qa1 G_qp1 in
theorem uX (T:Txt K mg a) (F:Ent K mg "root_of_both" ug ["roots", "a", "b", "product"]) {R:List D->Res D} {k:Nat} (hk:12<=k) (G_qq1:aP P w K mg base k "root" R) :
  aP P w K mg base (k + 1) "root_of_both" (bG 4 9 (gU R)):=by
 have q:=b_ P w base k (gU R) F sc_qn fun _ _ _ _ _ _ _ hr=>by
  unfold gU;exact (aQ (bD 4 (gm (aA 0) gj (gk (iY aB))) sc_qn.nd) (aQ (bD 5 (cl G_qq1 hr (au (aA 4) (au (aA 3) aC))) sc_qn.nd) (aQ (cU (cP KJ G6 (aA 5) qJ (cA _)) (aW (bC qJ)) cT) (aQ (zR rfl (lD (cl G_qa1 hr (au (aA 1) (au (aA 5) aC)))) (ju 6 sc_qn.nd) (aQ (bD 7 (cl G_qq1 hr (au (aA 4) (au (aA 6) aC))) sc_qn.nd) (aW (cU (cP G8 G7 (aA 7) qJ (cA _)) (aQ (bD 8 (cl G_qA hr (au (cl G_qo1 hr (au (aA 4) (au (aA 2) (au (cl G_ql1 hr (au (aA 7) (au (aA 7) aC))) aC)))) aC)) sc_qn.nd) (aW (bC (cl G_qp1 hr (au (aA 0) (au (cl G_ql1 hr (au (cl G_qd1 hr (au (aA 7) (au (dg dW dU rfl T.z_len ‹"1"› (au (aA 0) aC)) aC))) (au (aA 8) aC))) aC)))))) cT)))) (aW (bC qJ))))))
 exact q
include G_qn1 G_qq1 in
theorem yG (T:Txt K mg a) (F:Ent K mg "grown" kZ ["roots", "x"]) :
  aP P w K mg base 21 "grown" fU:=by
 have q:=b_ P w base 20 jm F sc_qj1 fun _ _ _ _ _ _ _ hr=>by
  unfold jm;exact (aQ (cU (cP qw (lB _) (cl G_qn1 hr (au (aA 0) (au (aA 1) aC))) aB (cA _)) (aW Ke) cT) (aQ (bD 2 (cl G_qq1 hr (au (aA 0) (au (aA 1) aC))) sc_qj1.nd) (aQ (cU (cP G8 G7 (aA 2) qJ (cA _)) (aW (bC (at' (au (aA 0) (au (aA 2) aC))))) cT) (aQ (cU (cP (gh hr.units) gf (dg dW dU rfl T.z_len ‹"1"› (au (aA 0) aC)) (RL rfl T.m_MOST_ROOTS) (cA _)) (aW Ke) cT) (aQ (bD 3 (nJ p6 pZ rfl T.z_tuple ‹"1"› (au (nq (N':=["top", "x"]) (m:=1) (fr:=[1]) (uZ (az kZ) ["roots", "x", "told", "under", "front", "last"] rfl rfl rfl rfl rfl ‹"1"›) rfl (nu (by decide)) (lD (aL (aA 1) aB)) (fun _ _ _ _=>ju 0 (show List.Nodup (["top", "x"]:List Str) by decide +kernel)) (fun _ _ _ _=>(bB gH gG (aA 0) (aL (aA 1) aB)))) aC)) sc_qj1.nd) (aQ (bD 4 (bB gH gG (at' (au aB aC)) (dg dW dU rfl T.z_len ‹"1"› (au (aA 3) aC))) sc_qj1.nd) (aQ (bD 5 (bB fX fW (at' (au aB aC)) (bB gH gG (at' (au aB aC)) (bB wy wu (dg dW dU rfl T.z_len ‹"1"› (au (aA 3) aC)) aB))) sc_qj1.nd) (aW (bC (at' (au (bB fX fW (aA 0) (at' (au (aA 3) aC))) (au (at' (au (bB fX fW (aA 4) (aA 5)) (au (aL (aA 1) aB) aC))) aC))))))))))))
 exact q
include G_qd1 G_qW G_qg1 G_qh1 G_qK G_qn1 G_qo1 G_qc G_qj1 G_qP G_qq G_qM in
theorem Dv (T:Txt K mg a) (F:Ent K mg "meets_of_line" uh ["roots", "line", "ring"]) (G_NoMeet:En P w K mg base a.c_NoMeet "number" Ig) :
  aP P w K mg base 22 "meets_of_line" fV:=by
 have q:=b_ P w base 21 lg F sc_qj fun _ _ _ _ _ _ _ hr=>by
  unfold lg;exact (aQ (bD 3 (cl G_qc hr (au (aA 0) (au (aA 1) (au (aA 1) aC)))) sc_qj.nd) (aQ (bD 4 (cl G_qg1 hr (au (aL (aA 1) aB) (au (cl G_qc hr (au (aA 0) (au (aA 1) (au (aA 2) aC)))) aC))) sc_qj.nd) (aQ (bD 5 (cl G_qg1 hr (au (cl G_qh1 hr (au (aA 0) (au (aL (aA 2) aB) (au (aA 3) aC)))) (au (cl G_qh1 hr (au (aA 0) (au (aA 4) (au (aA 4) aC)))) aC))) sc_qj.nd) (aQ (cU (cP qw (lB _) (cl G_qn1 hr (au (aA 0) (au (aA 5) aC))) aB (cA _)) (aW (rz G_NoMeet hr rfl T.n_NoMeet rfl T.m_NoMeet (aA 5) hU')) cT) (aQ (bD 6 (cl G_qj1 hr (au (aA 0) (au (aA 5) aC))) sc_qj.nd) (aQ (bD 7 (cl G_qP hr (au (aA 0) (au (at' (au (aL (aA 1) aB) (au (aL (aA 1) aB) aC))) (au (cl G_qo1 hr (au (aA 0) (au (aA 4) (au (aA 3) aC)))) aC)))) sc_qj.nd) (aQ (bD 8 (cl G_qq hr (au (aL (aA 6) aB) (au (cl G_qM hr (au (at' (au (aL (aA 2) aB) (au (aL (aA 2) aB) aC))) (au (aA 7) aC))) aC))) sc_qj.nd) (aQ (cU (jH (cl G_qK hr (au (aA 5) aC))) (aW (bC (at' (au (aL (aA 6) aB) (au (ca' (au (aA 8) aC)) aC))))) cT) (aQ (bD 9 (cl G_qq hr (au (aL (aA 6) aB) (au (at' (au (aL (aA 1) aB) (au (cl G_qW hr (au (aL (aA 1) aB) aC)) aC))) aC))) sc_qj.nd) (aQ (bD 10 (cl G_qP hr (au (aL (aA 6) aB) (au (aA 9) (au (cl G_qo1 hr (au (aL (aA 6) aB) (au (aL (aA 6) aB) (au (cl G_qd1 hr (au (aA 3) (au (dg dW dU rfl T.z_len ‹"1"› (au (aL (aA 6) aB) aC)) aC))) aC)))) aC)))) sc_qj.nd) (aQ (bD 11 (at' (au (cl G_qW hr (au (aL (aA 10) aB) aC)) (au (cl G_qW hr (au (aL (aA 10) aB) aC)) aC))) sc_qj.nd) (aW (bC (at' (au (aL (aA 6) aB) (au (ca' (au (cl G_qM hr (au (aA 8) (au (aA 11) aC))) (au (cl G_qM hr (au (aA 8) (au (aA 10) aC))) aC))) aC))))))))))))))))
 exact q
include G_qj in
theorem Dw (T:Txt K mg a) (F:Ent K mg "_law_refused" um ["_law_roots", "_law_line_here", "_law_ring", "_law_w_here"]) :
  aP P w K mg base 23 "_law_refused" uK:=by
 have q:=b_ P w base 22 uJ F sc_qx fun _ _ _ _ _ _ _ hr=>by
  unfold uJ;exact (aQ (bD 4 qJ sc_qx.nd) (aQ (QS 5 rfl ⟨rfl,rfl⟩ sc_qx.nd rfl T.m_HallError T.s_HallError (aW (QH (cl G_qj hr (au (aA 0) (au (aA 1) (au (aA 2) aC)))))) (fun _=>(aW (bD 4 (aA 5) sc_qx.nd)))) (aQ (cU (PWD.pt (nD (bm' (jH (qx T.i_NoMeet (aA 4) (Ky rfl T.m_NoMeet) rfl T.z_isinstance))) (nD (jH (qx T.i_NoLine (aA 4) (Ky rfl T.m_NoLine) rfl T.z_isinstance)) (qL (bm' (jH (qx T.i_ValueError (aA 4) (uY rfl T.z_ValueError ‹"1"›) rfl T.z_isinstance))))))) (aW (bC ct')) cT) (aW (bC (qK (gh hr.units) gf (RQ T.a_number (aA 4)) (aA 3) (cA _)))))))
 exact q
include G_qB G_qT G_qs G_qu G_qj G_qd G_qZ G_qE G_qw G_qv in
theorem Dy (T:Txt K mg a) (F:Ent K mg "_law_meets_well" uo ["_law_roots", "_law_line_here", "_law_ring", "_law_w_here"]) :
  aP P w K mg base 23 "_law_meets_well" uM:=by
 have q:=b_ P w base 22 uL F sc_qf fun _ _ _ _ _ _ _ hr=>by
  unfold uL;exact (aQ (bD 4 (cl G_qj hr (au (aA 0) (au (aA 1) (au (aA 2) aC)))) sc_qf.nd) (aQ (cU (bm' (jH (cl G_qE hr (au (aA 4) (au (aA 0) (au (at' (au aB (au aB aC))) aC)))))) (aW (bC ct')) cT) (aQ (cU (PWD.pt (Eh (cP yM (lB _) (dg dW dU rfl T.z_len ‹"1"› (au (aL (aA 4) aB) aC)) (dg dW dU rfl T.z_len ‹"1"› (au (aA 0) aC)) (cA _)) (Eg (cP (dA' hr.units) qM (aL (aL (aA 4) aB) (iY aB)) (cl G_qB hr (au (aL (aA 3) aB) (au (aL (aA 3) aB) aC))) (cA _))))) (aW (bC ct')) cT) (aQ (bD 5 (aL (ca' (au aB (au aB (au aB (au aB aC))))) (dg dW dU rfl T.z_len ‹"1"› (au (aL (aA 4) aB) aC))) sc_qf.nd) (aQ (bD 1 (cl G_qd hr (au (aA 1) (au (aA 5) aC))) sc_qf.nd) (aQ (bD 2 (cl G_qd hr (au (aA 2) (au (aA 5) aC))) sc_qf.nd) (aQ (zR rfl (lD (aL (aA 4) aB)) (ju 6 sc_qf.nd) (aW (cU (PWD.pt (nD (bm' (jH (cl G_qw hr (au (aL (aA 4) aB) (au (aA 1) (au (aA 6) aC)))))) (qL (bm' (jH (cl G_qv hr (au (aL (aA 4) aB) (au (aA 2) (au (aA 6) aC))))))))) (aW (bC ct')) cT))) (aQ (cU (cP (gh hr.units) gf (cl G_qu hr (au (aA 0) (au (aL (aA 3) aB) aC))) aB (cA _)) (aW (bC (J1 (qK (gh hr.units) gf (dg dW dU rfl T.z_len ‹"1"› (au (aL (aA 4) aB) aC)) aB (cA _)) (kG' (qK (gh hr.units) gf (aL (aA 4) aB) (aA 0) (cA _)))))) cT) (aQ (cU (cP (dA' hr.units) qM (dg dW dU rfl T.z_len ‹"1"› (au (aL (aA 4) aB) aC)) aB (cA _)) (aW (bC ct')) cT) (aQ (bD 7 (cl G_qZ hr (au (aL (aL (aA 4) aB) aB) (au (aL (aL (aA 4) aB) aB) aC))) sc_qf.nd) (aQ (bD 8 (cl G_qT hr (au (cl G_qs hr (au (aL (aA 4) aB) (au (aL (aA 1) aB) (au (aL (aA 7) aB) aC)))) (au (cl G_qs hr (au (aL (aA 4) aB) (au (aL (aA 1) aB) (au (aL (aA 7) aB) aC)))) aC))) sc_qf.nd) (aW (bC (qK (gh hr.units) gf (cl G_qu hr (au (aL (aA 4) aB) (au (aL (aA 8) aB) aC))) aB (cA _)))))))))))))))
 exact q
include G_qI G_qQ G_qB G_qR G_qX G_qL G_qr G_qD G_qt G_qu G_qj G_ql G_qU G_qi1 G_qx G_qf in
theorem Uo (T:Txt K mg a) {f:Addr} {fd:FuncData} (F:Fun K "law" "law" vQ f fd) :
  FnOk P w K mg base (iJ P w) 24 f fd ["_law_script"] (vC K jn):=by
 exact nm' (P:=P) (w:=w) (base:=base) (N:=["_law_script", "_law_many", "_law_roots", "_law_s", "_law_ring", "_law_line_here", "_law_near", "_law_w_here", "_law_back"]) (ps:=["_law_script"]) (k:=23) (body:=nj) F sc_law fun cdv A outer s H E hr=>by
  unfold nj;exact (aQ (bD 1 (cl G_qI hr (au (cl G_qQ hr (au (aA 0) (au aB aC))) (au aB (au aB aC)))) sc_law.nd) (aQ (bD 2 (cl G_ql hr (au (cl G_qD hr (au (aA 0) (au aB aC))) (au (aA 1) aC))) sc_law.nd) (aQ (bD 3 (cl G_qr hr (au (bB gH gG (bB lC lz (cl G_qD hr (au (aA 0) (au aB aC))) aB) aB) (au (aA 1) aC))) sc_law.nd) (aQ (cU (cP qw (lB _) (cl G_qu hr (au (aA 2) (au (aL (aA 3) aB) aC))) aB (cA _)) (aW (bD 3 (at' (au (bB fX fW (at' (au (bB fX fW aB (bB pq o_ (cl G_qQ hr (au (aA 0) (au aB aC))) aB)) aC)) (gm (aL (aA 3) aB) (gk aB) gj)) (au aB aC))) sc_law.nd)) cT) (aQ (cU (cP qw (lB _) (cl G_qu hr (au (aA 2) (au (aL (aA 3) aB) aC))) aB (cA _)) (aW (bD 3 (at' (au (bB fX fW (at' (au aB aC)) (nJ p6 pZ rfl T.z_tuple ‹"1"› (au (nq (N':=["_law_k"]) (m:=1) (fr:=[]) vD rfl (nu (by decide)) (lD (gm (aL (aA 3) aB) (gk aB) gj)) (fun _ _ _ _=>ju 0 (show List.Nodup (["_law_k"]:List Str) by decide +kernel)) (fun _ _ _ _=>aB)) aC))) (au aB aC))) sc_law.nd)) cT) (aQ (bD 4 (at' (au (cl G_qr hr (au (bB gH gG (bB lC lz (cl G_qD hr (au (aA 0) (au aB aC))) aB) aB) (au (aA 1) aC))) (au (cl G_qr hr (au (bB fX fW (bB gH gG (bB lC lz (cl G_qD hr (au (aA 0) (au aB aC))) aB) aB) aB) (au (aA 1) aC))) (au (aA 3) aC)))) sc_law.nd) (aQ (R_ 5 (Ss G_qU hr (au (aA 0) (au aB (au (aA 1) aC)))) sc_law.nd) (aQ (cU (cP yM (lB _) (bB pq o_ (cl G_qQ hr (au (aA 0) (au aB aC))) aB) aB (cA _)) (aQ (bD 6 (cl G_qX hr (au (cl G_qt hr (au (aA 2) (au (aA 5) (au (aA 4) aC)))) (au (aL (aA 5) aB) aC))) sc_law.nd) (aQ (bD 6 (cl G_qX hr (au (aA 6) (au (cl G_qR hr (au (at' (au (at' (au (bB wy wu (bB pq o_ (bB lC lz (cl G_qQ hr (au (aA 0) (au aB aC))) aB) aB) aB) aC)) (au aB aC))) (au (dg dW dU rfl T.z_len ‹"1"› (au (aL (aA 3) aB) aC)) aC))) aC))) sc_law.nd) (aW (fR' 5 (cl G_qL hr (au (aL (aA 6) aB) (au (aL (aA 6) aB) aC))) (Hg aB) (Hf _))))) cT) (aQ (bD 7 (cl G_qi1 hr (au (aA 2) (au (aA 5) (au (aA 4) aC)))) sc_law.nd) (aQ (bD 5 (nJ p6 pZ rfl T.z_tuple ‹"1"› (au (aA 5) aC)) sc_law.nd) (aQ (cU (cP qw (lB _) (cl G_qu hr (au (aA 2) (au (aL (aA 7) aB) aC))) aB (cA _)) (aW (bC (cl G_qx hr (au (aA 2) (au (aA 5) (au (aA 4) (au (aA 7) aC))))))) cT) (aQ (cU (bm' (jH (cl G_qf hr (au (aA 2) (au (aA 5) (au (aA 4) (au (aA 7) aC))))))) (aW (bC ct')) cT) (aQ (bD 8 (nJ p6 pZ rfl T.z_tuple ‹"1"› (au (nq (N':=["_law_x"]) (m:=1) (fr:=[]) vD rfl (nu (by decide)) (lD (aA 5)) (fun _ _ _ _=>ju 0 (show List.Nodup (["_law_x"]:List Str) by decide +kernel)) (fun _ _ _ _=>(at' (au (cl G_qB hr (au (iY aB) (au (aL (aA 0) aB) aC))) (au (aL (aA 0) aB) aC))))) aC)) sc_law.nd) (aW (bC (qK (gh hr.units) gf (aL (cl G_qj hr (au (aA 2) (au (aA 8) (au (aA 4) aC)))) aB) (hJ' rfl rfl T.z_list rfl T.z_reversed (aL (cl G_qj hr (au (aA 2) (au (aA 5) (au (aA 4) aC)))) aB)) (cA _)))))))))))))))))
end
end K24
namespace K24
open PySem PySem.Spec PyProof.Rows L2 DL Mine Bk Lean.Grind
local macro_rules
 | `(‹"aa"›) => `(aD (aG 8 (aq (aj (aq (aj (ak 4) (aj (ak 2) (aj (aq (aj (ak 7) ‹"G"›) cZ) ‹""›))) dC) ‹""›) mZ)) (aH (aq (aj (ak 0) (aj (aq (aj (aq (aj (ak 7) ‹"N"›) cN) (aj (ak 8) ‹""›)) cZ) ‹""›)) jg)))
 | `(‹"ab"›) => `(aq (aj (two (two (two (aq ‹"y"› ig) ‹5› bH) ‹5› bK) ‹"r"› a_) ‹"a"›) kO)
 | `(‹"ac"›) => `(aZ (aj (aq (aj (gF ‹1›) ‹"b"›) fM) ‹"d"›))
abbrev rc:DS->Res Bool:=(aF (two (two (ak 1) (ak 1) bK) (ak 0) ‹"A"›) aJ)
abbrev rb:DS->Out:=(aG 1 (two (two (ak 1) (two (ak 0) (ak 1) bH) a_) ‹2› bH))
theorem qt {x n m:Nat} (h:x < 2 ^ n) (e:n<=m):x < 2 ^ m:=Nat.lt_of_lt_of_le h (iR e)
theorem Up (n g:Int) (hg:g.natAbs < 2 ^ 7900):rc [some (.arg (.int n)),some (.val (.int g))]=.ok (decide (n < g * g)):=by
 have:=eF (qt hg (show 7900<=200000 by decide)) (qt hg (show 7900<=200000 by decide));push_cast [this]
theorem Uq (n g:Int) (hg:g.natAbs < 2 ^ 7900) (h:g≠0):rb [some (.arg (.int n)),some (.val (.int g))]=.nxt [some (.arg (.int n)),some (.val (.int (Int.fdiv (g + Int.fdiv n g) 2)))]:=by
 have d1:=qQ (a:=n) h (qt hg (show 7900<=8000 by decide));have d2:=qQ (a:=g + Int.fdiv n g) (show (2:Int)≠0 by decide) (qt (show Int.natAbs 2 < 2 ^ 2 by decide) (show 2<=8000 by decide));push_cast [d1,d2]
theorem MK {n:Int} (hn:0<=n):∀(m:Nat) (g:Int),0<=g->bN n<=g->g.natAbs < 2 ^ 7900->g.toNat < m ->
  bJ rc rb m [some (.arg (.int n)),some (.val (.int g))]=.nxt [some (.arg (.int n)),some (.val (.int (bN n)))]
 | 0,_,_,_,_,h=>absurd h (Nat.not_lt_zero _)
 | m + 1,g,g0,hg,hl,h=>by
  have t:=Up n g hl
  by_cases c:n < g * g
  ·obtain ⟨a1,a2,a3,a4⟩:=Sx hn hg c g0;rw [_root_.decide_eq_true c] at t;refine Eq.trans (hR' t (Uq n g hl (by omega))) ?_;exact MK hn m _ a2 a1 (by omega) (by omega)
  ·rw [_root_.decide_eq_false c] at t;rw [hT' t,hK' hn hg c g0]
theorem MN {n:Int} (hn:0<=n) (hl:aK n<=15000):vP [.int n]=.ok (.int (bN n)):=by
 show outD (rR [some (.arg (.int n)),none])=_;unfold rR;have hb:n.natAbs < 2 ^ aK n:=natAbs_lt_pow_bits n;have hnn:¬n < 0:=by omega
 have e2:Int.fdiv ((aK n:Nat) + 1:Int) 2=(((aK n + 1) / 2:Nat):Int):=by rw [Aa]; omega
 have d2:=qQ (a:=(aK n:Nat) + 1) (show (2:Int)≠0 by decide) (qt (show Int.natAbs 2 < 2 ^ 2 by decide) (show 2<=8000 by decide));rw [e2] at d2;have sh:jt (.int 1) (.int (((aK n + 1) / 2:Nat):Int))=.ok (.int (2 ^ ((aK n + 1) / 2))):=by
  simp only [jt];rw [if_pos ⟨by omega,by omega,by decide⟩,Int.toNat_natCast,Int.one_mul]
 have p0:(0:Int) < 2 ^ ((aK n + 1) / 2):=Int.pow_pos (by decide);have pc:(((2 ^ ((aK n + 1) / 2):Nat)):Int)=2 ^ ((aK n + 1) / 2):=by simp
 have big:bN n<=2 ^ ((aK n + 1) / 2):=by
  have r:=(z_ hn).1;refine Ld (Int.le_of_lt p0) ?_;have a1:(2 ^ aK n:Nat)<=2 ^ ((aK n + 1) / 2) * 2 ^ ((aK n + 1) / 2):=by
   rw [<- Nat.pow_add]; exact Nat.pow_le_pow_right (by decide) (by omega)
  have a2:(((2 ^ ((aK n + 1) / 2) * 2 ^ ((aK n + 1) / 2):Nat)):Int)=2 ^ ((aK n + 1) / 2) * 2 ^ ((aK n + 1) / 2):=by simp
  have a3:((2:Int) ^ ((aK n + 1) / 2) + 1) * (2 ^ ((aK n + 1) / 2) + 1)=2 ^ ((aK n + 1) / 2) * 2 ^ ((aK n + 1) / 2) + 2 * 2 ^ ((aK n + 1) / 2) + 1:=by
   rw [Int.add_mul,Int.mul_add]; omega
  rw [a3];omega
 have lt:((2:Int) ^ ((aK n + 1) / 2)).natAbs < 2 ^ 7900:=by
  rw [<- pc,Int.natAbs_natCast];exact Nat.pow_lt_pow_right (by decide) (by omega)
 generalize (2:Int) ^ ((aK n + 1) / 2)=g at *;obtain ⟨fl,fu,fg⟩:∃k,fY [some (.arg (.int n)),some (.val (.int g))]=k/\g.toNat < k:=⟨g.natAbs + 1,rfl,by omega⟩;have lp:=MK hn fl g (Int.le_of_lt p0) big lt fg;have wh:∀f:DS->Out,(iW fY rc rb [some (.arg (.int n)),some (.val (.int g))]).seq f=f [some (.arg (.int n)),some (.val (.int (bN n)))]:=fun f=>by
  rw [SN,fu,lp,sq_nxt]
 have bg:iV (.int n) []=.ok (.int (aK n)):=rfl;push_cast [hnn,bg,d2,sh,wh]
section
variable {F:OF}
theorem Ii {p q a b ρ:F.C} (h1:p * p + q * q * ρ=a) (h2:p * q + q * p=b) (hb:b=0):(q=0/\a=p * p)\/(p=0/\a=q * q * ρ):=by
 have h:p * q=0:=by grind
 rcases Classical.em (q=0) with c | c
 ·left; exact ⟨c,by rw [c] at h1; grind⟩
 ·right
  have:p=0:=by grind
  exact ⟨this,by rw [this] at h1; grind⟩
theorem MP {q ρ s:F.C} (hn:∀z:F.C,z * z≠ρ) (q0:q≠0):s * s≠q * q * ρ:=fun e=>hn (s / q) (by grind)
theorem Dz {p q a b ρ:F.C} (h1:p * p + q * q * ρ=a) (h2:p * q + q * p=b):a * a - b * b * ρ=(p * p - q * q * ρ) * (p * p - q * q * ρ):=by grind
theorem mA' {p q a ρ:F.C} (h1:p * p + q * q * ρ=a):a + (p * p - q * q * ρ)=2 * (p * p):=by grind
theorem MT {p q a ρ:F.C} (h1:p * p + q * q * ρ=a):a - (p * p - q * q * ρ)=2 * (q * q * ρ):=by grind
theorem Ij {x y:F.C} (h:x=2 * y):x / 2=y:=by grind
theorem M3 {a b n u ρ:F.C} (hn:a * a - b * b * ρ=n * n) (hu:u * u=(a + n) / 2) (u0:u≠0):u * u + b / (u + u) * (b / (u + u)) * ρ=a/\u * (b / (u + u)) + b / (u + u) * u=b:=by
 have e:4 * (u * u) * ((a - n) / 2)=b * b * ρ:=by grind
 have e2:b / (u + u) * (b / (u + u)) * ρ=(a - n) / 2:=by grind
 constructor <;> grind
theorem M4 {a b n u ρ:F.C} (hn:a * a - b * b * ρ=n * n) (hu:u * u=(a + n) / 2) (b0:b≠0) (r0:0 < ρ):u≠0:=fun z=>by
 rw [z] at hu;have h:a + n=0:=by grind
 have e:b * b * ρ=0:=by grind
 have:b * b≠0:=by grind
 grind
theorem fs_abs {z:F.C}:fabs z * fabs z=z * z:=by unfold fabs; split <;> grind
theorem FJ (z:F.C):0<=fabs z:=by unfold fabs; split <;> grind
end
section
variable {rs:List (List Int)} {F:OF} {of:List Int->F.C}
theorem M5 (T:Tow rs F of) {r:List Int} {hr:0 < of r} {hn:∀z:F.C,z * z≠of r} (hl:r.length=2 ^ rs.length) {α β:Nat} {d e:D} {p q:F.C} (h1:Nm of rs.length α d p) (h2:Nm of rs.length β e q) {z:(aN F (of r) hr hn).C} (za:Ext.a (r:=of r) z=p) (zb:Ext.b (r:=of r) z=q) :
  ∃w,Nm (aY of r hr hn) (rs.length + 1) (α + β) w z:=by
 obtain ⟨x,b,rfl,nx,lx,bx,bb,ex⟩:=h1;obtain ⟨y,c,rfl,ny,ly,b_y,bc,ey⟩:=h2;have T':=Tow.cons T r hl hr hn;have pb:=nx.pos;have pc:=ny.pos;have b0:=fL T (show b≠0 by omega);have c0:=fL T (show c≠0 by omega);have ll:(x.map (c * ·)).length=(y.map (b * ·)).length:=by rw [length_map,length_map,lx,ly]
 have L:(x.map (c * ·) ++ y.map (b * ·)).length=2 ^ (r :: rs).length:=by
  rw [length_append,length_map,length_map,lx,ly,length_cons,Nat.pow_succ]; omega
 have B:Bd (α + β) (x.map (c * ·) ++ y.map (b * ·)):=by
  refine Bd.app (fun s hs=>?_) fun s hs=>?_
  ·obtain ⟨t,ht,rfl⟩:=mem_map.mp hs;rw [Nat.add_comm]; exact ie bc (bx t ht)
  ·obtain ⟨t,ht,rfl⟩:=mem_map.mp hs;exact ie bb (b_y t ht)
 have cb:c * b≠0:=by have:=Int.mul_pos pc pb; omega
 obtain ⟨K,w,g,_,_,_,_,_,_,hN⟩:=vL T' (n:=α + β) L cb B (by rw [Nat.add_comm]; exact ie bc bb);refine ⟨num w g,?_⟩;have ev:aY of r hr hn (x.map (c * ·) ++ y.map (b * ·)) / ((c * b:Int):(aN F (of r) hr hn).C)=z:=by
  have cb':=fL T cb;refine (Ao cb' ?_ ?_).symm
  ·rw [za,wK ll,jz T c lx,ex,Ring.intCast_mul]; grind
  ·rw [zb,wL ll,jz T b ly,ey,Ring.intCast_mul]; grind
 rw [ev] at hN;exact hN
theorem M6 (T:Tow rs F of):∀z:F.C,∃n d,Nm of rs.length n d z:=by
 induction T with
 | nil =>
  intro z;have z':Rat:=z;refine ⟨(Rat.num z).natAbs + (Rat.den z) + 1,num [Rat.num z] (Rat.den z),[Rat.num z],(Rat.den z:Int),rfl,⟨by have:=Rat.den_pos z; omega,?_⟩,rfl,fun t ht=>?_,?_,?_⟩
  ·show gN ((Rat.den z:Int)).natAbs [Rat.num z]=1;have:=Rat.reduced z;unfold gN;simp only [foldl_cons,foldl_nil];rw [Int.natAbs_natCast,Nat.gcd_comm]; exact this
  ·rw [mem_singleton.mp ht];have:=Nat.lt_two_pow_self (n:=(Rat.num z).natAbs + (Rat.den z) + 1);omega
  ·have:=Nat.lt_two_pow_self (n:=(Rat.num z).natAbs + (Rat.den z) + 1);rw [Int.natAbs_natCast]; omega
  ·show z=((Rat.num z:Int):Rat) / ((Rat.den z:Int):Rat);have:=Rat.num_divInt_den z;rw [Rat.divInt_eq_div] at this;exact this.symm
 | @cons rs F of T r hl hr hn ih =>
  intro z;obtain ⟨n,d,h1⟩:=ih (Ext.a (r:=of r) z);obtain ⟨m,e,h2⟩:=ih (Ext.b (r:=of r) z);obtain ⟨w,hw⟩:=M5 T (hr:=hr) (hn:=hn) hl h1 h2 (z:=z) rfl rfl;exact ⟨_,w,hw⟩
end
noncomputable def Qb:Nat->Nat->Nat
 | 0,P=>P / 2 + 1
 | k + 1,P=>Qb k (P + Qb k (2 * P + eT 10 (k + 1)) + 3) + Qb k (P + Qb k (2 * P + eT 10 (k + 1)) + 3 + oB 10 k 11 + eT 10 k)
noncomputable def QO:Nat->Nat->Prop
 | 0,_=>True
 | k + 1,P=>2 * P + eT 10 (k + 1)<=8000/\QO k (2 * P + eT 10 (k + 1))/\QO k (P + Qb k (2 * P + eT 10 (k + 1)) + 3)/\QO k (P + Qb k (2 * P + eT 10 (k + 1)) + 3 + oB 10 k 11 + eT 10 k)/\P + Qb k (2 * P + eT 10 (k + 1)) + 3 + oB 10 k 11 + eT 10 k<=8000
theorem Il {s P:Nat} (h:s * s < 2 ^ P):s < 2 ^ (P / 2 + 1):=by
 rcases Nat.lt_or_ge s (2 ^ (P / 2 + 1)) with c | c
 ·exact c
 ·exfalso;have a:=Nat.mul_le_mul c c;rw [<- Nat.pow_add] at a;have b:2 ^ P<=2 ^ (P / 2 + 1 + (P / 2 + 1)):=Nat.pow_le_pow_right (by decide) (by omega);omega
section
variable {rs:List (List Int)} {F:OF} {of:List Int->F.C}
theorem FN (T:Tow rs F of) (h3:rs.length<=3) {P:Nat} {d:D} {u:F.C} (h:Nm of rs.length P d u) (hP:P + 1<=8000):∃e,uA [d]=.ok e/\Nm of rs.length (P + 1) e (u / 2):=by
 obtain ⟨x,b,rfl,nx,lx,bx,bb,ex⟩:=h;have pb:=nx.pos;have b2:(2 * b).natAbs < 2 ^ (P + 1):=by rw [Nat.pow_succ]; omega
 obtain ⟨e,ee,he⟩:=Mg T h3 (n:=P) (m:=P + 1) lx (show 2 * b≠0 by omega) bx b2 hP;have mu:dY (.int 2) (.int b)=.ok (.int (2 * b)):=by
  unfold dY;exact if_pos (.inr (.inl (intBits_le (show Int.natAbs 2 < 2 ^ 64 by decide))))
 refine ⟨e,?_,?_⟩
 ·show outD (uz [some (.arg (num x b))])=_;unfold uz;push_cast [mu,ee]
 ·have b0:=fL T (show b≠0 by omega);have ev:of x / ((2 * b:Int):F.C)=u / 2:=by
   rw [ex,Ring.intCast_mul];have:((2:Int):F.C)=2:=by rw [show (2:Int)=1 + 1 from rfl,Ring.intCast_add,Ring.intCast_one]; grind
   rw [this]; grind
  rw [ev] at he;exact he.mono (by omega)
theorem Im (T:Tow rs F of):(2:F.C)≠0:=by
 have:=fL T (k:=2) (by decide);rw [show (2:Int)=1 + 1 from rfl,Ring.intCast_add,Ring.intCast_one] at this
 grind
theorem Io {a N q ρ:F.C} (t0:(2:F.C)≠0) (r0:0 < ρ) (h:a - N=2 * (q * q * ρ)):q * q=(a - N) / 2 / ρ:=by
 have:ρ≠0:=by grind
 grind
theorem Ip {a N p:F.C} (t0:(2:F.C)≠0) (h:a + N=2 * (p * p)):p * p=(a + N) / 2:=by grind
theorem qb (T:Tow rs F of):∀{P:Nat} {d:D} {v z:F.C},rs.length<=3->(∀r∈rs,Bd 10 r)->Nm of rs.length P d v->z * z=v->QO rs.length P->∃e,Nm of rs.length (Qb rs.length P) e z:=by
 induction T with
 | nil =>
  intro P d v z _ _ hd hz _;have T:=Tow.nil;obtain ⟨n,e,he⟩:=M6 T z;obtain ⟨x,w,rfl,nx,lx,bx,bw,ex⟩:=he
  match x,lx with
  | [s],_ =>
   have pw:=nx.pos;have cop:Nat.gcd w.natAbs s.natAbs=1:=by
    have:=nx.one;unfold gN at this;simpa using this
   have nf2:Nf [s * s] (w * w):=by
    refine ⟨Int.mul_pos pw pw,?_⟩;unfold gN;simp only [foldl_cons,foldl_nil];rw [Int.natAbs_mul,Int.natAbs_mul];have c1:Nat.Coprime w.natAbs s.natAbs:=cop;exact Nat.Coprime.mul_left (Nat.Coprime.mul_right c1 c1) (Nat.Coprime.mul_right c1 c1)
   have h2:Nm (fun x:List Int=>((x.headD 0:Int):ratOF.C)) ([]:List (List Int)).length (n + n) (num [s * s] (w * w)) v:=by
    refine ⟨_,_,rfl,nf2,rfl,fun t ht=>?_,ie bw bw,?_⟩
    ·rw [mem_singleton.mp ht]; exact ie (bx s (by simp)) (bx s (by simp))
    ·have w0:=fL T (show w≠0 by omega);rw [<- hz,ex];show ((s:Int):ratOF.C) / (w:ratOF.C) * (((s:Int):ratOF.C) / (w:ratOF.C))=(((s * s:Int)):ratOF.C) / ((w * w:Int):ratOF.C);rw [Ring.intCast_mul,Ring.intCast_mul]; grind
   have eq:=iy T h2 hd;obtain ⟨y,c,ed,ny,ly,b_y,bc,_⟩:=hd;rw [ed] at eq;simp only [num,D.tup.injEq,map_cons,map_nil,List.cons.injEq,D.int.injEq,and_true] at eq;obtain ⟨q1,q2⟩:=eq;have sP:(s * s).natAbs < 2 ^ P:=by
    match y,ly,q1,b_y with
    | [t],_,q1,b_y =>
     simp at q1;rw [q1]; exact b_y t (by simp)
   have wP:(w * w).natAbs < 2 ^ P:=by rw [q2]; exact bc
   rw [Int.natAbs_mul] at sP wP;refine ⟨num [s] w,[s],w,rfl,nx,rfl,fun t ht=>?_,Il wP,ex⟩;rw [mem_singleton.mp ht]; exact Il sP
 | @cons rs F of T r hl hr hn ih =>
  intro P d v z h3 hrs hd hz hQ;have h3':rs.length < 3:=by rw [length_cons] at h3; omega
  obtain ⟨o1,o2,o3,o4,o5⟩:=(show 2 * P + eT 10 (rs.length + 1)<=8000/\QO rs.length (2 * P + eT 10 (rs.length + 1))/\QO rs.length (P + Qb rs.length (2 * P + eT 10 (rs.length + 1)) + 3)/\QO rs.length (P + Qb rs.length (2 * P + eT 10 (rs.length + 1)) + 3 + oB 10 rs.length 11 + eT 10 rs.length)/\P + Qb rs.length (2 * P + eT 10 (rs.length + 1)) + 3 + oB 10 rs.length 11 + eT 10 rs.length<=8000 from hQ)
  have hr1:=hrs r (by simp);have hrs':∀s∈rs,Bd 10 s:=fun s hs=>hrs s (mem_cons_of_mem _ hs);have t0:=Im T;obtain ⟨da,db,_,ha,hb⟩:=pI T h3' hd (by omega);obtain ⟨dn,_,hN⟩:=pH T h3' hl hr1 hrs' hd o1;have e1:Ext.a (r:=of r) z * Ext.a (r:=of r) z + Ext.b (r:=of r) z * Ext.b (r:=of r) z * of r=Ext.a (r:=of r) v:=by rw [<- hz]; rfl
  have e2:Ext.a (r:=of r) z * Ext.b (r:=of r) z + Ext.b (r:=of r) z * Ext.a (r:=of r) z=Ext.b (r:=of r) v:=by rw [<- hz]; rfl
  have en:Ext.nrm (r:=of r) v=(Ext.a (r:=of r) z * Ext.a (r:=of r) z - Ext.b (r:=of r) z * Ext.b (r:=of r) z * of r) * (Ext.a (r:=of r) z * Ext.a (r:=of r) z - Ext.b (r:=of r) z * Ext.b (r:=of r) z * of r):=Dz e1 e2;obtain ⟨dN,hn1⟩:=ih (by omega) hrs' hN en.symm o2;obtain ⟨dp,_,hp⟩:=eU T (by omega) ha hn1 (by omega);obtain ⟨dp2,_,hp2⟩:=FN T (by omega) hp (by omega);obtain ⟨dm,_,hm⟩:=pG T (by omega) ha hn1 (by omega);obtain ⟨dm2,_,hm2⟩:=FN T (by omega) hm (by omega);have nr:Nm of rs.length 11 (num r 1) (of r):=⟨r,1,rfl,Ae _,hl,hr1.mono (by decide),by decide,by rw [Ring.intCast_one]; grind⟩;obtain ⟨dq,_,hq⟩:=jU T (by omega) hrs' (hm2.mono (show P + Qb rs.length (2 * P + eT 10 (rs.length + 1)) + 1 + 1<=P + Qb rs.length (2 * P + eT 10 (rs.length + 1)) + 3 by omega)) nr (by grind) o5;obtain ⟨ep,hep⟩:=ih (by omega) hrs' (hp2.mono (show P + Qb rs.length (2 * P + eT 10 (rs.length + 1)) + 1 + 1<=P + Qb rs.length (2 * P + eT 10 (rs.length + 1)) + 3 by omega)) (Ip t0 (mA' e1)) o3;obtain ⟨eq,heq⟩:=ih (by omega) hrs' hq (Io t0 hr (MT e1)) o4;exact M5 T hl hep heq rfl rfl
end
theorem M7 {F:OF} {a b:F.C} (h:0 < a) (g:0<=b):0<=a * b:=by
 have q:b=0\/0 < b:=by grind
 rcases q with q | q
 ·rw [q]; grind
 ·have:=cF h q; grind
theorem Ur {F:OF} {s w z:F.C} (h:0 < w) (e:z=s / w) (g:0<=z):0<=s:=by
 have a:=M7 h g;have b:w * z=s:=by rw [e]; grind
 rw [b] at a; exact a
theorem kw' {m:Int} (h:0<=m):bN (m * m)=m:=by
 obtain ⟨a,b⟩:=z_ (Int.mul_nonneg h h);have c:=Ep (m * m);generalize bN (m * m)=r at *;rcases Int.lt_trichotomy r m with q | q | q
 ·exfalso;have:=Int.mul_le_mul (show r + 1<=m by omega) (show r + 1<=m by omega) (by omega) h;omega
 ·exact q
 ·exfalso;have:=Int.mul_lt_mul_of_pos_left q (show 0 < r by omega);have:=Int.mul_le_mul_of_nonneg_right (Int.le_of_lt q) h;omega
theorem M8 {P q:Nat} {t c:Int} {e:D} {v z:ratOF.C} (hd:Nm (fun x:List Int=>((x.headD 0:Int):ratOF.C)) 0 P (num [t] c) v) (he:Nm (fun x:List Int=>((x.headD 0:Int):ratOF.C)) 0 q e z) (hz:z * z=v) :
  ∃s w:Int,e=num [s] w/\0 < w/\t=s * s/\c=w * w/\z=(s:ratOF.C) / (w:ratOF.C):=by
 have T:=Tow.nil;obtain ⟨x,w,rfl,nx,lx,bx,bw,ex⟩:=he
 match x,lx with
 | [s],_ =>
  have pw:=nx.pos;have cop:Nat.Coprime w.natAbs s.natAbs:=by
   have:=nx.one;unfold gN at this;simpa using this
  have nf2:Nf [s * s] (w * w):=by
   refine ⟨Int.mul_pos pw pw,?_⟩;unfold gN;simp only [foldl_cons,foldl_nil];rw [Int.natAbs_mul,Int.natAbs_mul];exact Nat.Coprime.mul_left (Nat.Coprime.mul_right cop cop) (Nat.Coprime.mul_right cop cop)
  have h2:Nm (fun x:List Int=>((x.headD 0:Int):ratOF.C)) ([]:List (List Int)).length (q + q) (num [s * s] (w * w)) v:=by
   refine ⟨_,_,rfl,nf2,rfl,fun t ht=>?_,ie bw bw,?_⟩
   ·rw [mem_singleton.mp ht]; exact ie (bx s (by simp)) (bx s (by simp))
   ·have w0:=fL T (show w≠0 by omega);rw [<- hz,ex];show ((s:Int):ratOF.C) / (w:ratOF.C) * (((s:Int):ratOF.C) / (w:ratOF.C))=(((s * s:Int)):ratOF.C) / ((w * w:Int):ratOF.C);rw [Ring.intCast_mul,Ring.intCast_mul]; grind
  have eq:=iy T h2 hd;simp only [num,D.tup.injEq,map_cons,map_nil,List.cons.injEq,D.int.injEq,and_true] at eq;exact ⟨s,w,rfl,pw,eq.1.symm,eq.2.symm,ex⟩
theorem Us {P q:Nat} {d e:D} {v z:ratOF.C} (hd:Nm (fun x:List Int=>((x.headD 0:Int):ratOF.C)) 0 P d v) (he:Nm (fun x:List Int=>((x.headD 0:Int):ratOF.C)) 0 q e z) (hz:z * z=v) (z0:0<=z) (hP:P<=7000):oZ [d]=.ok e:=by
 have T:=Tow.nil;have hd':=hd;obtain ⟨x,c,rfl,nx,lx,bx,bc,ex⟩:=hd'
 match x,lx with
 | [t],_ =>
  obtain ⟨s,w,ee,w0,et,ec,ez⟩:=M8 hd he hz;have c0:=nx.pos;have s0:0<=s:=by
   have wp:=pD T w0;have h1:(0:ratOF.C)<=(s:ratOF.C):=Ur wp ez z0;rw [<- Ring.intCast_zero] at h1;exact le_int T h1
  have bt:t.natAbs < 2 ^ P:=bx t (by simp);have mu:=eF (a:=t) (b:=c) (qt bt (by omega)) (qt bc (by omega));have etc:t * c=s * w * (s * w):=by rw [et,ec]; grind
  have sw0:0<=s * w:=Int.mul_nonneg s0 (Int.le_of_lt w0);have rt:=MN (n:=t * c) (by rw [etc]; exact Int.mul_nonneg sw0 sw0) (Nat.le_trans (intBits_le (ie bt bc)) (by omega));rw [etc,kw' sw0,<- etc] at rt;have swb:(s * w).natAbs < 2 ^ (P + P):=by
   have h:=ie bt bc;rw [etc,Int.natAbs_mul] at h;exact Nat.lt_of_le_of_lt (Nat.le_mul_self _) h
  have mu2:=eF (a:=s * w) (b:=s * w) (qt swb (by omega)) (qt swb (by omega));rw [<- etc] at mu2;obtain ⟨e',ee',he'⟩:=Mg T (by decide) (ts:=[s * w]) (b:=c) (n:=P + P) (m:=P) rfl (by omega) (fun y hy=>by rw [mem_singleton.mp hy]; exact swb) bc (by omega);have ev:(((s * w:Int)):ratOF.C) / (c:ratOF.C)=z:=by
   have w1:=fL T (show w≠0 by omega);rw [ez,ec,Ring.intCast_mul,Ring.intCast_mul]; grind
  have:e'=e:=iy T (v:=z) (ev ▸ he') he;subst this;have ee2:du [.tup [.int (s * w)],.int c]=_:=ee';have nn:¬(t * c < 0):=by rw [etc]; have:=Int.mul_nonneg sw0 sw0; omega
  have lQ:bA (TI [t]) (.int 0)=.ok (.int t):=ix_tup0 _ _;show outD (oY [some (.arg (num [t] c)),none,none])=_;unfold oY;push_cast [lQ,mu,nn,rt,mu2,ee2]
theorem Ut {P:Nat} {d:D} {v:ratOF.C} (hd:Nm (fun x:List Int=>((x.headD 0:Int):ratOF.C)) 0 P d v) (hz:∀z:ratOF.C,z * z≠v) (hP:P<=7000):oZ [d]=.ok .non:=by
 have T:=Tow.nil;obtain ⟨x,c,rfl,nx,lx,bx,bc,ex⟩:=hd
 match x,lx with
 | [t],_ =>
  have c0:=nx.pos;have bt:t.natAbs < 2 ^ P:=bx t (by simp);have mu:=eF (a:=t) (b:=c) (qt bt (by omega)) (qt bc (by omega));have lQ:bA (TI [t]) (.int 0)=.ok (.int t):=ix_tup0 _ _;show outD (oY [some (.arg (num [t] c)),none,none])=_;unfold oY
  by_cases nn:t * c < 0
  ·push_cast [lQ,mu,nn]
  ·have rt:=MN (n:=t * c) (by omega) (Nat.le_trans (intBits_le (ie bt bc)) (by omega));have wb:(bN (t * c)).natAbs < 2 ^ (P + P):=by
    have h:=ie bt bc;have a:=(z_ (show 0<=t * c by omega)).1;have b:=Ep (t * c);have k:(bN (t * c)).natAbs * (bN (t * c)).natAbs<=(t * c).natAbs:=by rw [<- Int.natAbs_mul]; have:=Int.mul_nonneg b b; omega
    exact Nat.lt_of_le_of_lt (Nat.le_trans (Nat.le_mul_self _) k) h
   have mu2:=eF (a:=bN (t * c)) (b:=bN (t * c)) (qt wb (by omega)) (qt wb (by omega));have ne:¬(bN (t * c) * bN (t * c)=t * c):=fun q=>by
    refine hz ((bN (t * c):ratOF.C) / (c:ratOF.C)) ?_;have c1:=fL T (show c≠0 by omega);have q':=congrArg (fun i:Int=>(i:ratOF.C)) q;simp only [Ring.intCast_mul] at q';rw [ex];show _=((t:Int):ratOF.C) / (c:ratOF.C)
    grind
   push_cast [lQ,mu,nn,rt,mu2,ne]
theorem M9 {t:gb} {b:DS->Out} {d:D} {ds:List D} {δ δ1:DS} {x:D} (h1:t d δ=some δ1) (h2:b δ1=.ret x):di t b (d :: ds) δ=.ret x:=by
 rw [di,h1];dsimp only;rw [h2]
theorem FP:bW .non .non=.ok (.bl false):=rfl
theorem M_:cL .non .non=.ok (.bl true):=rfl
section
variable {R:List D->Res D} {G G0 rD da db dn dar e2 o:D} {k:Int}
theorem Nb {e1:D} (cl:cutD G none (some (-1))=.ok G0) (bw:o7 [G,da]=.ok (.lst [da,dar])) (r1:R [G0,da]=.ok e1) (n1:bW e1 .non=.ok (.bl true)) (ln:bI [G]=.ok (.int k)) (lf:cN [e1,.int k]=.ok e2):bG 2 5 (fQ R) [G,da]=.ok e2:=by
 show outD (fQ R [some (.arg G),some (.arg da),none,none,none])=_;unfold fQ;push_cast [cl,bw,r1,n1,ln,lf]
theorem Uu {w:D} (cl:cutD G none (some (-1))=.ok G0) (bw:o7 [G,da]=.ok (.lst [da,dar])) (r1:R [G0,da]=.ok .non) (r2:R [G0,dar]=.ok w) (n1:cL w .non=.ok (.bl false)) (ix:bA G (.int (-1))=.ok rD) (ov:dC [G0,w,.tup [rD,.int 1]]=.ok o) (tl:mZ [o]=.ok e2):bG 2 5 (fQ R) [G,da]=.ok e2:=by
 show outD (fQ R [some (.arg G),some (.arg da),none,none,none])=_;unfold fQ;push_cast [cl,bw,r1,FP,r2,n1,ix,ov,tl]
theorem kE' (cl:cutD G none (some (-1))=.ok G0) (bw:o7 [G,da]=.ok (.lst [da,dar])) (r1:R [G0,da]=.ok .non) (r2:R [G0,dar]=.ok .non):bG 2 5 (fQ R) [G,da]=.ok .non:=by
 show outD (fQ R [some (.arg G),some (.arg da),none,none,none])=_;unfold fQ;push_cast [cl,bw,r1,FP,r2,M_]
theorem Uv (cl:cutD G none (some (-1))=.ok G0) (r0:R [G0,dn]=.ok .non):bG 4 9 (gU R) [G,da,db,dn]=.ok .non:=by
 show outD (gU R [some (.arg G),some (.arg da),some (.arg db),some (.arg dn),none,none,none,none,none])=_;unfold gU;push_cast [cl,r0,M_]
theorem Ng {m u uu bh lu s e nd:D} {z6 z7 z8:Option SV} (r1:R [G0,m]=.ok u) (n1:bW u .non=.ok (.bl true)) (pl:cZ [u,u]=.ok uu) (ov:dC [G0,db,uu]=.ok o) (tl:mZ [o]=.ok bh) (ln:bI [G]=.ok (.int k)) (lf:cN [u,.int k]=.ok lu) (p2:cZ [lu,bh]=.ok s) (sz:jg [G,s]=.ok e) :
  (aD (aG 7 (aq (aj (ak 4) ‹"z"›) R)) (bZ ‹"J"› ‹"aa"› Out.nxt)) [some (.val G),some (.val da),some (.val db),some (.val dn),some (.val G0),some (.val nd),some (.val m),z7,z8]=.ret e:=by
 push_cast [r1,n1,pl,ov,tl,ln,lf,p2,sz]
theorem Ir {m nd:D} {z7 z8:Option SV} (r1:R [G0,m]=.ok .non) :
  (aD (aG 7 (aq (aj (ak 4) ‹"z"›) R)) (bZ ‹"J"› ‹"aa"› Out.nxt)) [some (.val G),some (.val da),some (.val db),some (.val dn),some (.val G0),some (.val nd),some (.val m),z7,z8]=.nxt [some (.val G),some (.val da),some (.val db),some (.val dn),some (.val G0),some (.val nd),some (.val m),some (.val .non),z8]:=by
 push_cast [r1,FP]
theorem Iu {nd m1 m2:D} {x:List Int} {b:Int} {out:Out} (hnd:nd=num x b) (cl:cutD G none (some (-1))=.ok G0) (r0:R [G0,dn]=.ok nd) (md:m9 [da,nd]=.ok (.lst [m1,m2]))
  (lp:di (bF 6) (aD (aG 7 (aq (aj (ak 4) ‹"z"›) R)) (bZ ‹"J"› ‹"aa"› Out.nxt)) [m1,m2] [some (.val G),some (.val da),some (.val db),some (.val dn),some (.val G0),some (.val nd),none,none,none]=out) (ho:(∃e,out=.ret e)\/∃δ,out=.nxt δ) :
  bG 4 9 (gU R) [G,da,db,dn]=.ok (match out with | .ret e=>e | _=>.non):=by
 have n1:cL nd .non=.ok (.bl false):=by rw [hnd]; rfl
 have th:thaw [some (SV.arg G),some (.arg da),some (.arg db),some (.arg dn),some (.val G0),some (.val nd),none,none,none]=[some (.val G),some (.val da),some (.val db),some (.val dn),some (.val G0),some (.val nd),none,none,none]:=rfl;have tn:∀δ,gO (Out.nxt δ)=.nxt (δ.map (Option.map thaw2)):=fun _=>rfl;have tr:∀d,gO (Out.ret d)=.ret d:=fun _=>rfl;show outD (gU R [some (.arg G),some (.arg da),some (.arg db),some (.arg dn),none,none,none,none,none])=_;unfold gU;rcases ho with ⟨e,rfl⟩ | ⟨δ,rfl⟩
 ·push_cast [cl,r0,n1,md,th,lp,tr]
 ·push_cast [cl,r0,n1,md,th,lp,tn]
theorem Nh {d:D} {R:List D->Res D}:bG 2 3 (d9 R) [RT [],d]=oZ [d]:=by
 show outD (d9 R [some (.arg (RT [])),some (.arg d),none])=_;unfold d9;have ln:bI [RT []]=.ok (.int 0):=rfl;generalize RT []=G at *
 cases q:oZ [d] with
 | ok a=>push_cast [ln,q]
 | err x=>push_cast [ln,q]
 | stuck =>
  push_cast [ln,q];rfl
theorem FQ {d:D} {l:Nat} (ln:bI [G]=.ok (.int ((l + 1:Nat):Int))) (ha:jM [d]=.ok (.tup [da,db])) (nb:gJ [db]=.ok (.bl true)) {e:D} (fr:bG 2 5 (fQ R) [G,da]=.ok e):bG 2 3 (d9 R) [G,d]=.ok e:=by
 have hz:¬(((l + 1:Nat):Int)=0):=by omega
 show outD (d9 R [some (.arg G),some (.arg d),none])=_;unfold d9;push_cast [ln,hz,ha,nb,fr]
theorem FT {d:D} {l:Nat} (ln:bI [G]=.ok (.int ((l + 1:Nat):Int))) (ha:jM [d]=.ok (.tup [da,db])) (nb:gJ [db]=.ok (.bl false)) (no:jd [G,d]=.ok dn) {e:D} (fr:bG 4 9 (gU R) [G,da,db,dn]=.ok e):bG 2 3 (d9 R) [G,d]=.ok e:=by
 have hz:¬(((l + 1:Nat):Int)=0):=by omega
 show outD (d9 R [some (.arg G),some (.arg d),none])=_;unfold d9;push_cast [ln,hz,ha,nb,no,fr]
end
section
variable {rs:List (List Int)} {F:OF} {of:List Int->F.C}
theorem vY (T:Tow rs F of) (h3:rs.length < 3) {r:List Int} {hr:0 < of r} {hn:∀z:F.C,z * z≠of r} {P:Nat} {d:D} {q:F.C} (h:Nm of rs.length P d q) {z:(aN F (of r) hr hn).C} (za:Ext.a (r:=of r) z=0) (zb:Ext.b (r:=of r) z=q) :
  ∃e,mZ [d]=.ok e/\Nm (aY of r hr hn) (rs.length + 1) P e z:=by
 obtain ⟨x,b,rfl,nx,lx,bx,bb,ex⟩:=h;have pb:=nx.pos;have b0:=fL T (show b≠0 by omega);have e8:=iC (k:=rs.length) (by omega);have ll:(List.replicate (2 ^ rs.length) (0:Int)).length=x.length:=by simpa using lx.symm
 refine ⟨num (List.replicate (2 ^ rs.length) 0 ++ x) b,?_,_,_,rfl,⟨pb,?_⟩,?_,Bd.app (fun t ht=>by rw [eq_of_mem_replicate ht]; exact Nat.two_pow_pos P) bx,bb,?_⟩
 ·show outD (uq [some (.arg (num x b))])=_;unfold uq;have lx':((List.map D.int x).length:Int)=((2 ^ rs.length:Nat):Int):=by rw [length_map,lx]
  push_cast [lx',yU (2 ^ rs.length) (by omega),vH (a:=List.replicate (2 ^ rs.length) 0) (b:=x) (by rw [length_replicate]; omega)]
 ·rw [Ak];have:gN b.natAbs (List.replicate (2 ^ rs.length) 0)=b.natAbs:=by
   generalize 2 ^ rs.length=n
   induction n with
   | zero=>rfl
   | succ n ih =>
    rw [replicate_succ];unfold gN at ih ⊢;rw [foldl_cons];simpa using ih
  rw [this]; exact nx.one
 ·rw [length_append,length_replicate,lx,Nat.pow_succ]; omega
 ·refine Ao b0 ?_ ?_
  ·rw [za,wK ll,wM T]; grind
  ·rw [zb,wL ll]; exact ex
theorem Iv (hl:∀r:List Int,r.length=r.length) {r:List Int} (lr:r.length=2 ^ rs.length) (br:Bd 10 r):Nm of rs.length 10 (num r 1) (of r) :=
 ⟨r,1,rfl,Ae _,lr,br,by decide,by rw [Ring.intCast_one]; grind⟩
theorem DG (T:Tow rs F of) (h3:rs.length < 3) (hrs:∀s∈rs,Bd 10 s) {r:List Int} (lr:r.length=2 ^ rs.length) (br:Bd 10 r) {P:Nat} {d:D} {a:F.C} (h:Nm of rs.length P d a) (hP:P + 10 + eT 10 rs.length<=8000) :
  ∃e,o7 [RT (r :: rs),d]=.ok (.lst [d,e])/\Nm of rs.length (P + 10 + eT 10 rs.length) e (a * of r):=by
 obtain ⟨e,ee,he⟩:=eV T (by omega) hrs h (Iv (of:=of) (fun _=>rfl) lr br) hP;refine ⟨e,?_,he⟩;have cl:=lV r rs;have ix:=wG r rs;have ee':cO [RT rs,d,.tup [TI r,.int 1]]=.ok e:=ee;show outD (uF [some (.arg (RT (r :: rs))),some (.arg d)])=_;unfold uF;generalize RT (r :: rs)=G at *;generalize RT rs=G0 at *;push_cast [cl,ix,ee']
theorem wV (T:Tow rs F of) (h3:rs.length<=3) {P Q:Nat} {d e:D} {a n:F.C} (h:Nm of rs.length P d a) (g:Nm of rs.length Q e n) (hP:P + Q + 2<=8000) :
  ∃m1 m2,m9 [d,e]=.ok (.lst [m1,m2])/\Nm of rs.length (P + Q + 2) m1 ((a + n) / 2)/\Nm of rs.length (P + Q + 2) m2 ((a - n) / 2):=by
 obtain ⟨x,ex,hx⟩:=eU T h3 h g (by omega);obtain ⟨y,ey,hy⟩:=pG T h3 h g (by omega);obtain ⟨m1,e1,h1⟩:=FN T h3 hx (by omega);obtain ⟨m2,e2,h2⟩:=FN T h3 hy (by omega);refine ⟨m1,m2,?_,h1,h2⟩;show outD (m8 [some (.arg d),some (.arg e)])=_;unfold m8;push_cast [ex,ey,e1,e2]
end
noncomputable def gB (k:Nat):Nat:=2 + oB 10 k 10 + eT 10 k
noncomputable def dB:Nat->Nat
 | 0=>1
 | k + 1=>2 + dB k + dB k + gB k
noncomputable def cB:Nat->Nat
 | 0=>1
 | k + 1=>dB k + eT 10 (k + 1) + cB k + dB k + 5 + 10 + eT 10 k + cB k + gB k + eT 10 k
section
variable {F:OF}
theorem Iw {p q a b ρ:F.C} (h1:p * p + q * q * ρ=a) (h2:p * q + q * p=b):(p * p - q * q * ρ) * (p * p - q * q * ρ)=a * a - b * b * ρ:=by grind
theorem Iz {p q a ρ D n:F.C} (h1:p * p + q * q * ρ=a) (h3:n=D * (p * p - q * q * ρ)):2 * D * p * (2 * D * p)=2 * D * (D * a + n):=by grind
theorem IK {p q a ρ D n:F.C} (h1:p * p + q * q * ρ=a) (h3:n=D * (p * p - q * q * ρ)):2 * D * (q * ρ) * (2 * D * (q * ρ))=ρ * (2 * D * (D * a + -n)):=by grind
theorem IV {p D g x:F.C} (h:x=D * (2 * D * p)):g * x=2 * D * D * g * p:=by grind
theorem IW {q D g x ρ t:F.C} (r0:ρ≠0) (g0:g≠0) (h:x=D * (2 * D * (q * ρ))) (e:1 / ρ=t / g):x * t=2 * D * D * g * q:=by grind
end
theorem wW {M e:Nat} {k:Int} {x:List Int} (hk:k.natAbs < 2 ^ e) (hx:Bd M x):Bd (e + M) (x.map (k * ·)):=fun t ht=>by
 obtain ⟨a,ha,rfl⟩:=mem_map.mp ht;exact ie hk (hx a ha)
theorem cJ' {M:Nat} {x:List Int} (hx:Bd M x):Bd M (x.map fun t=>-t):=fun t ht=>by
 obtain ⟨a,ha,rfl⟩:=mem_map.mp ht;rw [Int.natAbs_neg]; exact hx a ha
section
variable {rs:List (List Int)} {F:OF} {of:List Int->F.C}
theorem Ni (T:Tow rs F of):rs.length<=3->(∀r∈rs,Bd 10 r)->∃D:Int,0 < D/\D.natAbs < 2 ^ dB rs.length/\∀(M:Nat) (y:List Int) (w:F.C),y.length=2 ^ rs.length->Bd M y->w * w=of y->∃x,x.length=2 ^ rs.length/\of x=(D:F.C) * w/\Bd (M / 2 + cB rs.length) x:=by
 induction T with
 | nil =>
  intro _ _;refine ⟨1,by decide,by decide,fun M y w ly by_ hw=>?_⟩
  match y,ly with
  | [t],_ =>
   have tb:t.natAbs < 2 ^ M:=by_ t (by simp);have hd:Nm (fun x:List Int=>((x.headD 0:Int):ratOF.C)) 0 (M + 1) (num [t] 1) (((t:Int):ratOF.C)):=⟨[t],1,rfl,Ae _,rfl,by_.mono (by omega),Nat.one_lt_two_pow (by omega),by
    show ((t:Int):ratOF.C)=((t:Int):ratOF.C) / ((1:Int):ratOF.C);rw [Ring.intCast_one]; grind⟩
   obtain ⟨q,e,he⟩:=M6 Tow.nil w;obtain ⟨s,c,ee,c0,et,ec,ez⟩:=M8 hd he hw;have c1:c=1:=by
    rcases Int.lt_trichotomy c 1 with z | z | z
    ·omega
    ·exact z
    ·have:=Int.mul_lt_mul_of_pos_left z (show 0 < c by omega);omega
   subst c1;refine ⟨[s],rfl,?_,fun a ha=>?_⟩
   ·rw [ez];show ((s:Int):ratOF.C)=((1:Int):ratOF.C) * (((s:Int):ratOF.C) / ((1:Int):ratOF.C));rw [Ring.intCast_one]; grind
   ·rw [mem_singleton.mp ha];have k:s.natAbs * s.natAbs < 2 ^ M:=by rw [<- Int.natAbs_mul,<- et]; exact tb
    exact Il k
 | @cons rs F of T r hl hr hn ih =>
  intro h3 hrs;rw [length_cons] at h3;have hr1:=hrs r (by simp);have hrs':∀s∈rs,Bd 10 s:=fun s hs=>hrs s (mem_cons_of_mem _ hs);obtain ⟨D,D0,Db,ih⟩:=ih (by omega) hrs';have r0:of r≠0:=fun h=>by rw [h] at hr; grind
  have nr:=Iv (of:=of) (fun _=>rfl) hl hr1;have o8:2 + oB 10 rs.length 10 + eT 10 rs.length<=8000:=by
   have:rs.length=0\/rs.length=1\/rs.length=2:=by omega
   rcases this with z | z | z <;> rw [z] <;> decide
  obtain ⟨zi,_,hzi⟩:=jU T (by omega) hrs' (Lz T (n:=2) (k:=1) (by decide) (by decide)) nr r0 o8;obtain ⟨ti,g,_,ng,lti,bti,bg,ei⟩:=hzi;have g0:=ng.pos;have gc:=fL T (show g≠0 by omega);rw [Ring.intCast_one] at ei;refine ⟨2 * D * D * g,by have:=Int.mul_pos (Int.mul_pos (Int.mul_pos (show (0:Int) < 2 by decide) D0) D0) g0; exact this,?_,fun M y w ly by_ hw=>?_⟩
  ·have:=ie (ie (ie (show (2:Int).natAbs < 2 ^ 2 by decide) Db) Db) bg;exact this
  ·have e1:Ext.a (r:=of r) w * Ext.a w + Ext.b w * Ext.b w * of r=of (aV y):=congrArg (Ext.a (r:=of r)) hw;have e2:Ext.a (r:=of r) w * Ext.b w + Ext.b w * Ext.a w=of (aU y):=congrArg (Ext.b (r:=of r)) hw;have lA:=iQ ly;have en:=Iw e1 e2;rw [<- Av T hl ly] at en;obtain ⟨xn,ln,on,bn⟩:=ih _ _ _ (Aq T.sc hl ly) (Ar hr1 hrs' by_) en;have D2:(2 * D).natAbs < 2 ^ (2 + dB rs.length):=ie (by decide) Db;have lDA:((aV y).map (D * ·)).length=2 ^ rs.length:=by rw [length_map]; exact lA
   have c2:((2:Int):F.C)=2:=Ring.intCast_ofNat 2;have bs:Bd (M + dB rs.length + eT 10 (rs.length + 1) + cB rs.length + 1) (bM ((aV y).map (D * ·)) xn):=Bd.add ((wW Db by_.fr).mono (by omega)) (bn.mono (by omega));have ls:=pC lDA ln;have o1:of ((bM ((aV y).map (D * ·)) xn).map (2 * D * ·))=2 * (D:F.C) * ((D:F.C) * of (aV y) + of xn):=by
    rw [jz T _ ls,vK T lDA ln,jz T D lA,Ring.intCast_mul,c2]
   obtain ⟨xp,lp,op,bp⟩:=ih _ _ (2 * (D:F.C) * Ext.a w) (by rw [length_map]; exact ls) (wW D2 bs) ((Iz e1 on).trans o1.symm);have lm:(xn.map fun t=>-t).length=2 ^ rs.length:=by rw [length_map]; exact ln
   have bs2:Bd (M + dB rs.length + eT 10 (rs.length + 1) + cB rs.length + 1) (bM ((aV y).map (D * ·)) (xn.map fun t=>-t)):=Bd.add ((wW Db by_.fr).mono (by omega)) ((cJ' bn).mono (by omega));have ls2:=pC lDA lm;have lS:((bM ((aV y).map (D * ·)) (xn.map fun t=>-t)).map (2 * D * ·)).length=2 ^ rs.length:=by rw [length_map]; exact ls2
   have o2:of (pt rs r ((bM ((aV y).map (D * ·)) (xn.map fun t=>-t)).map (2 * D * ·)))=of r * (2 * (D:F.C) * ((D:F.C) * of (aV y) + -of xn)):=by
    rw [xM T hl lS,jz T _ ls2,vK T lDA lm,jz T D lA,xN T ln,Ring.intCast_mul,c2]
   obtain ⟨xq,lq,oq,bq⟩:=ih _ _ (2 * (D:F.C) * (Ext.b w * of r)) (dX rs _ _ T.sc hl lS) (iB rs hrs' hr1 (wW D2 bs2)) ((IK e1 on).trans o2.symm);have lx1:(xp.map (g * ·)).length=2 ^ rs.length:=by rw [length_map]; exact lp
   have lx2:=dX rs xq ti T.sc lq lti;have ll:(xp.map (g * ·)).length=(pt rs xq ti).length:=lx1.trans lx2.symm;refine ⟨xp.map (g * ·) ++ pt rs xq ti,?_,?_,?_⟩
   ·rw [length_append,lx1,lx2,length_cons,Nat.pow_succ]; omega
   ·have cD:((2 * D * D * g:Int):F.C)=2 * (D:F.C) * (D:F.C) * (g:F.C):=by rw [Ring.intCast_mul,Ring.intCast_mul,Ring.intCast_mul,c2]
    refine Ext.eqs (r:=of r) ?_ ?_
    ·show of (aV _)=((2 * D * D * g:Int):F.C) * Ext.a w + 0 * Ext.b w * of r;rw [wK ll,jz T g lp,cD,IV op]; grind
    ·show of (aU _)=((2 * D * D * g:Int):F.C) * Ext.b w + 0 * Ext.a w;rw [wL ll,xM T lq lti,cD,IW r0 gc oq ei]; grind
   ·refine Bd.app ((wW bg bp).mono ?_) ((iB rs hrs' bq bti).mono ?_)
    ·simp only [length_cons,cB,gB]; omega
    ·simp only [length_cons,cB,gB]; omega
end
noncomputable def eN (k:Nat):Nat:=eT 10 (k + 1) + cB k + dB k
section
variable {F:OF}
theorem I_ {n b m:F.C} (b0:b≠0) (h:n * n=m / (b * b)):b * n * (b * n)=m:=by grind
theorem DK {n b D x:F.C} (b0:b≠0) (d0:D≠0) (h:x=D * (b * n)):x / (D * b)=n:=by grind
theorem Ja {n b D x a:F.C} (b0:b≠0) (d0:D≠0) (t0:(2:F.C)≠0) (h:x=D * (b * n)):(D * a + x) / (2 * (D * b))=(a / b + n) / 2:=by grind
theorem Jb {n b D x a:F.C} (b0:b≠0) (d0:D≠0) (t0:(2:F.C)≠0) (h:x=D * (b * n)):(D * a + -x) / (2 * (D * b))=(a / b - n) / 2:=by grind
end
section
variable {rs:List (List Int)} {F:OF} {of:List Int->F.C}
theorem Nj (T:Tow rs F of) (h3:rs.length < 3) (hrs:∀s∈rs,Bd 10 s) {r:List Int} {hr:0 < of r} {hn:∀z:F.C,z * z≠of r} (hl:r.length=2 ^ rs.length) (hr1:Bd 10 r) {P:Nat} {d:D} {v:(aN F (of r) hr hn).C} (hd:Nm (aY of r hr hn) (rs.length + 1) P d v) {n:F.C} (hv:n * n=Ext.nrm (r:=of r) v) :
  (∃e,Nm of rs.length (P + eN rs.length) e n)/\(∃e,Nm of rs.length (P + eN rs.length + 2) e ((Ext.a (r:=of r) v + n) / 2))/\∃e,Nm of rs.length (P + eN rs.length + 2) e ((Ext.a (r:=of r) v - n) / 2):=by
 obtain ⟨x,b,rfl,nx,lx,bx,bb,ex⟩:=hd;have pb:=nx.pos;have b0:=fL T (show b≠0 by omega);obtain ⟨e1,e2⟩:=An b0 ex;have t0:=Im T;obtain ⟨D,D0,Db,ir⟩:=Ni T (by omega) hrs;have d0:=fL T (show D≠0 by omega);have nv:Ext.nrm (r:=of r) v=of (ql r rs x) / ((b:F.C) * (b:F.C)):=by
  show Ext.a v * Ext.a v - Ext.b v * Ext.b v * of r=_;rw [Av T hl lx,e1,e2];exact (Mh b0).symm
 obtain ⟨X,lX,oX,bX⟩:=ir _ _ ((b:F.C) * n) (Aq T.sc hl lx) (Ar hr1 hrs bx) (I_ b0 (hv.trans nv));have lA:=iQ lx;have lDA:((aV x).map (D * ·)).length=2 ^ rs.length:=by rw [length_map]; exact lA
 have lm:(X.map fun t=>-t).length=2 ^ rs.length:=by rw [length_map]; exact lX
 have hb1:(D * b).natAbs < 2 ^ (dB rs.length + P):=ie Db bb;have hb2:(2 * (D * b)).natAbs < 2 ^ (2 + (dB rs.length + P)):=ie (by decide) hb1;have Dp:=Int.mul_pos D0 pb;have c2:((2:Int):F.C)=2:=Ring.intCast_ofNat 2;refine ⟨?_,?_,?_⟩
 ·obtain ⟨_,y,c,_,_,_,_,_,_,h⟩:=vL T (n:=P + eN rs.length) lX (show D * b≠0 by omega) (bX.mono (by unfold eN; omega)) (Nat.lt_of_lt_of_le hb1 (iR (by unfold eN; omega)));rw [Ring.intCast_mul,DK b0 d0 oX] at h;exact ⟨_,h⟩
 ·obtain ⟨_,y,c,_,_,_,_,_,_,h⟩:=vL T (n:=P + eN rs.length + 2) (pC lDA lX) (show 2 * (D * b)≠0 by omega) ((Bd.add (n:=P + eN rs.length) ((wW Db bx.fr).mono (by unfold eN; omega)) (bX.mono (by unfold eN; omega))).mono (by omega)) (Nat.lt_of_lt_of_le hb2 (iR (by unfold eN; omega)));rw [vK T lDA lX,jz T D lA,Ring.intCast_mul,Ring.intCast_mul,c2,Ja b0 d0 t0 oX,<- e1] at h;exact ⟨_,h⟩
 ·obtain ⟨_,y,c,_,_,_,_,_,_,h⟩:=vL T (n:=P + eN rs.length + 2) (pC lDA lm) (show 2 * (D * b)≠0 by omega) ((Bd.add (n:=P + eN rs.length) ((wW Db bx.fr).mono (by unfold eN; omega)) ((cJ' bX).mono (by unfold eN; omega))).mono (by omega)) (Nat.lt_of_lt_of_le hb2 (iR (by unfold eN; omega)));rw [vK T lDA lm,jz T D lA,xN T lX,Ring.intCast_mul,Ring.intCast_mul,c2,Jb b0 d0 t0 oX,<- e1] at h;exact ⟨_,h⟩
end
noncomputable def uB (k P q:Nat):Nat:=min q (P + eN k + 2 + cB k + dB k)
mutual
noncomputable def vh:Nat->Nat->Nat->Bool
 | 0,P,_=>decide (P<=7000)
 | k + 1,P,q=>decide (2 * P + eT 10 (k + 1)<=8000) && decide (2 * q + eT 10 (k + 1) < 8000) && decide (P + oB 10 k (uB k P q + 1) + eT 10 k<=8000) && decide (q + 10 + eT 10 k + oB 10 k 10 + eT 10 k<=8000) && decide (P + 10 + eT 10 k<=8000) && decide (P + (P + eN k) + 2<=8000)
  && vh k P q && qD k P && vh k (P + 10 + eT 10 k) (q + 10 + eT 10 k) && vh k (2 * P + eT 10 (k + 1)) (P + eN k) && vh k (P + eN k + 2) (uB k P q) && qD k (P + eN k + 2)
noncomputable def qD:Nat->Nat->Bool
 | 0,P=>decide (P<=7000)
 | k + 1,P=>decide (2 * P + eT 10 (k + 1)<=8000) && decide (P + 10 + eT 10 k<=8000) && decide (P + (P + eN k) + 2<=8000) && qD k P && qD k (P + 10 + eT 10 k) && qD k (2 * P + eT 10 (k + 1)) && vh k (2 * P + eT 10 (k + 1)) (P + eN k) && qD k (P + eN k + 2)
end
section
variable {F:OF}
theorem Jc {b z v x:F.C} (b0:b≠0) (hz:z * z=v) (e:v=x / b):b * z * (b * z)=b * x:=by grind
theorem Jd {x b:F.C} (b0:b≠0):2 * x / b=x / b + x / b:=by grind
end
section
variable {rs:List (List Int)} {F:OF} {of:List Int->F.C}
theorem Nk (T:Tow rs F of) (h3:rs.length<=3) (hrs:∀r∈rs,Bd 10 r) {P:Nat} {d:D} {v z:F.C} (hd:Nm of rs.length P d v) (hz:z * z=v):∃e,Nm of rs.length (P + cB rs.length + dB rs.length) e z:=by
 obtain ⟨x,b,rfl,nx,lx,bx,bb,ex⟩:=hd;have pb:=nx.pos;have b0:=fL T (show b≠0 by omega);obtain ⟨D,D0,Db,ir⟩:=Ni T h3 hrs;have d0:=fL T (show D≠0 by omega);obtain ⟨X,lX,oX,bX⟩:=ir _ (x.map (b * ·)) ((b:F.C) * z) (by rw [length_map]; exact lx) (wW bb bx) ((Jc b0 hz ex).trans (jz T b lx).symm);have hb1:(D * b).natAbs < 2 ^ (dB rs.length + P):=ie Db bb;have Dp:=Int.mul_pos D0 pb;obtain ⟨_,y,c,_,_,_,_,_,_,h⟩:=vL T (n:=P + cB rs.length + dB rs.length) lX (show D * b≠0 by omega) (bX.mono (by omega)) (Nat.lt_of_lt_of_le hb1 (iR (by omega)));rw [Ring.intCast_mul,DK b0 d0 oX] at h;exact ⟨_,h⟩
theorem Uw (T:Tow rs F of) {P:Nat} {d:D} {v:F.C} (hd:Nm of rs.length P d v):∃e,Nm of rs.length (P + 1) e (v + v):=by
 obtain ⟨x,b,rfl,nx,lx,bx,bb,ex⟩:=hd;have pb:=nx.pos;have b0:=fL T (show b≠0 by omega);obtain ⟨_,y,c,_,_,_,_,_,_,h⟩:=vL T (n:=P + 1) (ts:=x.map (2 * ·)) (by rw [length_map]; exact lx) (show b≠0 by omega) (fun t ht=>by
  obtain ⟨a,ha,rfl⟩:=mem_map.mp ht;have:=bx a ha;rw [Nat.pow_succ]; omega) (Nat.lt_of_lt_of_le bb (iR (by omega)))
 rw [jz T 2 lx,show ((2:Int):F.C)=2 from Ring.intCast_ofNat 2,Jd b0,<- ex] at h
 exact ⟨_,h⟩
theorem Ux {k a b:Nat} {d:D} {v:F.C} (h:Nm of k a d v) (g:Nm of k b d v):Nm of k (min a b) d v:=by
 rcases Nat.le_total a b with z | z
 ·rw [Nat.min_eq_left z]; exact h
 ·rw [Nat.min_eq_right z]; exact g
end
section
variable {F:OF}
theorem Np {x:F.C} (h:¬0<=x):x < 0:=by grind
theorem Nq {x:F.C} (h:x < 0) (g:0<=x):False:=by grind
theorem Uy {x p y:F.C} (h:x=y * y * p) (hy:y=0) (z:F.C) (hz:z=0):x=z * z:=by rw [h,hy,hz]; grind
theorem Uz {x:F.C} (h:x≠0) (e:x * x=0):False:=by grind
theorem UG:(0:F.C) * 0=0:=by grind
theorem UJ {u:F.C} (t0:(2:F.C)≠0) (h:u≠0):u + u≠0:=by grind
theorem Nr (x:F.C):x + 0=x:=by grind
theorem Nt (x:F.C):0 + x=x:=by grind
theorem UL {x y:F.C} (h:x=y):0 * 0 + x=y:=by grind
theorem UT (x:F.C):0 * x + x * 0=0:=by grind
theorem UW {q s:F.C} (h:q < 0) (r:0 < s):¬(0<=0 + q * s):=by
 have:=cF (show 0 < -q by grind) r
 grind
theorem U0 {q ρ:F.C}:q * ρ * (q * ρ)=q * q * ρ * ρ:=by grind
theorem U3 {q ρ:F.C} (h:0<=q) (r:0 < ρ):0<=q * ρ:=by
 have:=M7 r h; grind
theorem ob' {q ρ:F.C} (r:0 < ρ):q * ρ / ρ=q:=by
 have:ρ≠0:=by grind
 grind
theorem U4 {a w ρ:F.C} (r:0 < ρ) (h:w * w=a * ρ):w / ρ * (w / ρ) * ρ=a:=by
 have:ρ≠0:=by grind
 grind
theorem oc' {p q b u:F.C} (t0:(2:F.C)≠0) (p0:p≠0) (h:p * q + q * p=b) (hu:u=fabs p):b / (u + u)=q/\u=p\/b / (u + u)=-q/\u=-p:=by
 unfold fabs at hu
 split at hu
 ·right; subst hu; exact ⟨by grind,rfl⟩
 ·left; subst hu; exact ⟨by grind,rfl⟩
theorem od' {y z:F.C} (h:y=z\/y=-z) (hz:0<=z):fabs y=z:=by
 unfold fabs;rcases h with h | h <;> subst h <;> split <;> grind
theorem U5 {p q b:F.C} (h:p * q + q * p=b) (b0:b≠0):p≠0/\q≠0:=by constructor <;> (intro z; rw [z] at h; grind)
theorem U6 {a N x:F.C} (h:a - N=x):a + -N=x:=by grind
theorem U7 {a N x:F.C} (h:a + N=x):a - -N=x:=by grind
theorem U8 {a b n u ρ:F.C} (hn:a * a - b * b * ρ=n * n) (hu:u * u=(a - n) / 2) (u0:u≠0):u * u + b / (u + u) * (b / (u + u)) * ρ=a/\u * (b / (u + u)) + b / (u + u) * u=b:=by
 refine M3 (n:=-n) (by grind) (by grind) u0
theorem U9 {a b n u ρ:F.C} (hn:a * a - b * b * ρ=n * n) (hu:u * u=(a - n) / 2) (b0:b≠0) (r0:0 < ρ):u≠0:=M4 (n:=-n) (a:=a) (b:=b) (ρ:=ρ) (by grind) (by grind) b0 r0
end
section
variable {rs:List (List Int)} {F:OF} {of:List Int->F.C}
theorem qF {k n:Nat} {d:D} {v:F.C} (h:Nm of k n d v):∃x b,d=num x b:=by
 obtain ⟨x,b,e,_⟩:=h; exact ⟨x,b,e⟩
theorem DN {k n:Nat} {d:D} {v:F.C} (h:Nm of k n d v):bW d .non=.ok (.bl true):=by obtain ⟨x,b,rfl⟩:=qF h; rfl
theorem U_ {k n:Nat} {d:D} {v:F.C} (h:Nm of k n d v):cL d .non=.ok (.bl false):=by obtain ⟨x,b,rfl⟩:=qF h; rfl
open Classical in
theorem Nu (T:Tow rs F of) (h3:rs.length<=3) {p:Nat} {d:D} {u:F.C} (h:Nm of rs.length p d u) (c:u=0):gJ [d]=.ok (.bl true):=by rw [cs' T h3 h,_root_.decide_eq_true c]
open Classical in
theorem Nv (T:Tow rs F of) (h3:rs.length<=3) {p:Nat} {d:D} {u:F.C} (h:Nm of rs.length p d u) (c:u≠0):gJ [d]=.ok (.bl false):=by rw [cs' T h3 h,_root_.decide_eq_false c]
theorem Va (T:Tow rs F of) (h3:rs.length<=3) {p:Nat} {d:D} {u:F.C} (h:Nm of rs.length p d u):∃e,Nm of rs.length p e (fabs u):=by
 unfold fabs
 split
 ·obtain ⟨e,_,he⟩:=n6 T h3 h; exact ⟨e,he⟩
 ·exact ⟨d,h⟩
theorem Nx (T:Tow rs F of):rs.length<=3->(∀r∈rs,Bd 10 r)->∀n,rs.length < n ->
  (∀(P q:Nat) (d e:D) (v z:F.C),Nm of rs.length P d v->Nm of rs.length q e z->z * z=v->0<=z->vh rs.length P q=true->cY n [RT rs,d]=.ok e) /\
  (∀(P:Nat) (d:D) (v:F.C),Nm of rs.length P d v->(∀z:F.C,z * z≠v)->qD rs.length P=true->cY n [RT rs,d]=.ok .non):=by
 induction T with
 | nil =>
  intro _ _ n hn;obtain ⟨m,rfl⟩:∃m,n=m + 1:=⟨n - 1,by have:0 < n:=hn; omega⟩;refine ⟨fun P q d e v z hd he hz z0 ho=>?_,fun P d v hd hz ho=>?_⟩
  ·have ho':P<=7000:=of_decide_eq_true ho;exact (Nh (R:=cY m)).trans (Us hd he hz z0 ho')
  ·have ho':P<=7000:=of_decide_eq_true ho;exact (Nh (R:=cY m)).trans (Ut hd hz ho')
 | @cons rs F of T r hl hr hn ih =>
  intro h3 hrs n hk;rw [length_cons] at h3 hk;obtain ⟨m,rfl⟩:∃m,n=m + 1:=⟨n - 1,by omega⟩;have T':=Tow.cons T r hl hr hn;have hr1:=hrs r (by simp);have hrs':∀s∈rs,Bd 10 s:=fun s hs=>hrs s (mem_cons_of_mem _ hs);obtain ⟨ihA,ihB⟩:=ih (by omega) hrs' m (by omega);have t0:=Im T;have h3':rs.length < 3:=by omega
  have cl:=lV r rs;have ix:=wG r rs;have ln:bI [RT (r :: rs)]=.ok (.int ((rs.length + 1:Nat):Int)):=by
   show Res.ok (D.int (((r :: rs).reverse.map TI).length:Int))=_;rw [length_map,length_reverse,length_cons]
  have nr:=Iv (of:=of) (fun _=>rfl) hl hr1;refine ⟨fun P q d e v z hd he hz z0 ho=>?_,fun P d v hd hz ho=>?_⟩
  ·
   have ho':vh (rs.length + 1) P q=true:=ho;simp only [vh,Bool.and_eq_true,decide_eq_true_eq] at ho';obtain ⟨⟨⟨⟨⟨⟨⟨⟨⟨⟨⟨o1,o2⟩,o3⟩,o4⟩,o5⟩,o6⟩,a1⟩,b1⟩,a2⟩,a3⟩,a4⟩,b2⟩:=ho';have e1:Ext.a (r:=of r) z * Ext.a (r:=of r) z + Ext.b (r:=of r) z * Ext.b (r:=of r) z * of r=Ext.a (r:=of r) v:=by rw [<- hz]; rfl
   have e2:Ext.a (r:=of r) z * Ext.b (r:=of r) z + Ext.b (r:=of r) z * Ext.a (r:=of r) z=Ext.b (r:=of r) v:=by rw [<- hz]; rfl
   obtain ⟨da,db,ed,ha,hb⟩:=pI T h3' hd (by omega);obtain ⟨ea,eb,_,hea,heb⟩:=pI T h3' he (by omega)
   by_cases c:Ext.b (r:=of r) v=0
   ·obtain ⟨dar,ebw,har⟩:=DG T h3' hrs' hl hr1 ha o5;have nb:=Nu T (by omega) hb c;rcases Ii e1 e2 c with ⟨q0,ea2⟩ | ⟨p0,ea2⟩
    ·
     have p0:0<=Ext.a (r:=of r) z:=by
      have ez:z=em (Ext.a (r:=of r) z):=Ext.eqs (r:=of r) rfl q0;rcases Classical.em (0<=Ext.a (r:=of r) z) with g | g
      ·exact g
      ·exfalso;have lt:=Mw (hr:=hr) (hn:=hn) (Np g);rw [<- ez,Ft] at lt;exact Nq lt z0
     have r1:=ihA P q da ea _ _ ha hea ea2.symm p0 a1;obtain ⟨e',el,hl'⟩:=wQ T h3' (hr:=hr) (hn:=hn) hea;have ev:em (Ext.a (r:=of r) z)=z:=(Ext.eqs (r:=of r) rfl q0:z=em (Ext.a (r:=of r) z)).symm;rw [ev] at hl';have:e'=e:=iy T' hl' he;subst this;exact FQ ln ed nb (Nb cl ebw r1 (DN hea) ln el)
    ·
     have zq:0<=Ext.b (r:=of r) z:=by
      rcases Classical.em (0<=Ext.b (r:=of r) z) with g | g
      ·exact g
      ·exfalso;have lt:=Mw (hr:=hr) (hn:=hn) (Np g);rw [Ft] at lt;have sp:=Uc z;rw [p0,Ft] at sp;have rp:=My (hr:=hr) (hn:=hn);exact absurd z0 (by rw [sp]; exact UW lt rp)
     by_cases qz:Ext.b (r:=of r) z=0
     ·
      have a0:Ext.a (r:=of r) v=Ext.a (r:=of r) z * Ext.a (r:=of r) z:=Uy ea2 qz _ p0;have r1:=ihA P q da ea _ _ ha hea a0.symm (by rw [p0]; exact Std.le_refl _) a1;obtain ⟨e',el,hl'⟩:=wQ T h3' (hr:=hr) (hn:=hn) hea;have ev:em (Ext.a (r:=of r) z)=z:=(Ext.eqs (r:=of r) rfl qz:z=em (Ext.a (r:=of r) z)).symm;rw [ev] at hl';have:e'=e:=iy T' hl' he;subst this;exact FQ ln ed nb (Nb cl ebw r1 (DN hea) ln el)
     ·have r1:=ihB P da _ ha (fun s hs=>MP (s:=s) hn qz (hs.trans ea2)) b1;obtain ⟨w,_,hw⟩:=eV T (by omega) hrs' heb nr (by omega);have sq:Ext.b (r:=of r) z * of r * (Ext.b (r:=of r) z * of r)=Ext.a (r:=of r) v * of r:=by rw [ea2]; exact U0
      have r2:=ihA _ _ dar w _ _ har hw sq (U3 zq hr) a2;obtain ⟨o,eo,ho2⟩:=jU T (by omega) hrs' hw nr (Fz hr) o4;rw [ob' hr] at ho2;obtain ⟨e',et,hl'⟩:=vY T h3' (hr:=hr) (hn:=hn) ho2 (z:=z) p0 rfl;have:e'=e:=iy T' hl' he;subst this;exact FQ ln ed nb (Uu cl ebw r1 r2 (U_ hw) ix eo et)
   ·
    have nb:=Nv T (by omega) hb c;obtain ⟨dn,en,hN⟩:=pH T h3' hl hr1 hrs' hd o1;have nv:Ext.nrm (r:=of r) v=Ext.nrm (r:=of r) z * Ext.nrm (r:=of r) z:=Dz e1 e2;have hn1:fabs (Ext.nrm (r:=of r) z) * fabs (Ext.nrm (r:=of r) z)=Ext.nrm (r:=of r) v:=fs_abs.trans nv.symm;obtain ⟨⟨nd,hnd⟩,⟨j1,hk1⟩,j2,hk2⟩:=Nj T h3' hrs' hl hr1 hd hn1;have r0:=ihA _ _ dn nd _ _ hN hnd hn1 (FJ _) a3;obtain ⟨pz,qz⟩:=U5 e2 c;obtain ⟨m1,m2,em',hm1,hm2⟩:=wV T (by omega) ha hnd o6;have g1:=iy T hk1 hm1;have g2:=iy T hk2 hm2;subst g1 g2;clear hm1 hm2;have vs:((Ext.a (r:=of r) v + fabs (Ext.nrm (r:=of r) z)) / 2=Ext.b (r:=of r) z * Ext.b (r:=of r) z * of r/\(Ext.a (r:=of r) v - fabs (Ext.nrm (r:=of r) z)) / 2=Ext.a (r:=of r) z * Ext.a (r:=of r) z)\/(Ext.a (r:=of r) v + fabs (Ext.nrm (r:=of r) z)) / 2=Ext.a (r:=of r) z * Ext.a (r:=of r) z:=by
     rcases Classical.em (Ext.nrm (r:=of r) z < 0) with sg | sg
     ·have fN:fabs (Ext.nrm (r:=of r) z)=-Ext.nrm (r:=of r) z:=by unfold fabs; rw [if_pos sg]
      left
      rw [fN];exact ⟨Ij (U6 (MT e1)),Ij (U7 (mA' e1))⟩
     ·have fN:fabs (Ext.nrm (r:=of r) z)=Ext.nrm (r:=of r) z:=by unfold fabs; rw [if_neg sg]
      right
      rw [fN]; exact Ij (mA' e1)
    have hmid:∃mm,Nm of rs.length (P + eN rs.length + 2) mm (Ext.a (r:=of r) z * Ext.a (r:=of r) z):=by
     rcases vs with ⟨v1,v2⟩ | v1
     ·rw [v2] at hk2; exact ⟨_,hk2⟩
     ·rw [v1] at hk1; exact ⟨_,hk1⟩
    obtain ⟨u,hu0⟩:=Va T (by omega) hea;obtain ⟨mm,hmm⟩:=hmid;obtain ⟨u',hu'⟩:=Nk T (by omega) hrs' hmm (fs_abs (z:=Ext.a (r:=of r) z));have gu:=iy T hu' hu0;subst gu;have hu:Nm of rs.length (uB rs.length P q) u' (fabs (Ext.a (r:=of r) z)):=Ux hu0 hu';have Qq:uB rs.length P q<=q:=Nat.min_le_left _ _;obtain ⟨uu,euu,huu0⟩:=eU T (by omega) hu hu (by omega);obtain ⟨u2,huu⟩:=Uw T hu;have gd:=iy T huu huu0;subst gd;have up:fabs (Ext.a (r:=of r) z)≠0:=by
     intro h0;have:Ext.a (r:=of r) z * Ext.a (r:=of r) z=0:=by rw [<- fs_abs,h0]; exact UG
     exact Uz pz this
    have uu0:fabs (Ext.a (r:=of r) z) + fabs (Ext.a (r:=of r) z)≠0:=UJ t0 up;obtain ⟨o,eo,ho2⟩:=jU T (by omega) hrs' hb huu uu0 o3;obtain ⟨bh,ebh,hbh⟩:=vY T h3' (hr:=hr) (hn:=hn) ho2 (z:=gQ hr hn 0 (Ext.b (r:=of r) v / (fabs (Ext.a (r:=of r) z) + fabs (Ext.a (r:=of r) z)))) rfl rfl;obtain ⟨lu,elu,hlu⟩:=wQ T h3' (hr:=hr) (hn:=hn) hu;have val:em (fabs (Ext.a (r:=of r) z)) + gQ hr hn 0 (Ext.b (r:=of r) v / (fabs (Ext.a (r:=of r) z) + fabs (Ext.a (r:=of r) z)))=z\/em (fabs (Ext.a (r:=of r) z)) + gQ hr hn 0 (Ext.b (r:=of r) v / (fabs (Ext.a (r:=of r) z) + fabs (Ext.a (r:=of r) z)))=-z:=by
     rcases oc' t0 pz e2 rfl with ⟨x1,x2⟩ | ⟨x1,x2⟩
     ·left
      refine Ext.eqs (r:=of r) ?_ ?_
      ·show fabs (Ext.a (r:=of r) z) + 0=Ext.a (r:=of r) z;rw [x2]; exact Nr _
      ·show 0 + _=Ext.b (r:=of r) z;rw [x1]; exact Nt _
     ·right
      refine Ext.eqs (r:=of r) ?_ ?_
      ·show fabs (Ext.a (r:=of r) z) + 0=-Ext.a (r:=of r) z;rw [x2]; exact Nr _
      ·show 0 + _=-Ext.b (r:=of r) z;rw [x1]; exact Nt _
    have hbhb:∃bb,Nm (aY of r hr hn) (rs.length + 1) q bb (gQ hr hn 0 (Ext.b (r:=of r) v / (fabs (Ext.a (r:=of r) z) + fabs (Ext.a (r:=of r) z)))):=by
     rcases oc' t0 pz e2 rfl with ⟨x1,x2⟩ | ⟨x1,x2⟩
     ·rw [x1];obtain ⟨bb,_,hbb⟩:=vY T h3' (hr:=hr) (hn:=hn) heb (z:=gQ hr hn 0 (Ext.b (r:=of r) z)) rfl rfl;exact ⟨bb,hbb⟩
     ·rw [x1];obtain ⟨nb',_,hnb⟩:=n6 T (by omega) heb;obtain ⟨bb,_,hbb⟩:=vY T h3' (hr:=hr) (hn:=hn) hnb (z:=gQ hr hn 0 (-Ext.b (r:=of r) z)) rfl rfl;exact ⟨bb,hbb⟩
    obtain ⟨bb,hbb⟩:=hbhb;have:bh=bb:=iy T' hbh hbb;subst this;obtain ⟨s,es,hs⟩:=eU T' (by rw [length_cons]; omega) hlu hbb (by omega);obtain ⟨e',ee,he'⟩:=Aw T' (by rw [length_cons]; omega) hrs hs (mO (by rw [length_cons]; omega) (by omega));rw [od' val z0] at he';have:e'=e:=iy T' he' he;subst this;obtain ⟨xn,bn,en'⟩:=qF hnd;rcases vs with ⟨v1,v2⟩ | v1
    ·rw [v1] at hk1;rw [v2] at hk2;have r1:=ihB _ _ _ hk1 (fun s hs=>MP hn qz hs) b2;have r2:=ihA _ _ _ u' _ _ hk2 hu fs_abs (FJ _) a4;have lp:=Eq.trans (Fw (t:=bF 6) (d:=j1) (ds:=[j2]) (δ:=[some (.val (RT (r :: rs))),some (.val da),some (.val db),some (.val dn),some (.val (RT rs)),some (.val nd),none,none,none]) rfl (Ir (R:=cY m) (G:=RT (r :: rs)) (G0:=RT rs) (da:=da) (db:=db) (dn:=dn) (nd:=nd) (z7:=none) (z8:=none) r1)) (M9 (ds:=[]) rfl (Ng (R:=cY m) (G:=RT (r :: rs)) (G0:=RT rs) (da:=da) (db:=db) (dn:=dn) (nd:=nd) (z6:=none) (z7:=some (.val .non)) (z8:=none) r2 (DN hu) euu eo ebh ln elu es ee))
     exact FT ln ed nb en (Iu en' cl r0 em' lp (.inl ⟨_,rfl⟩))
    ·rw [v1] at hk1;have r1:=ihA _ _ _ u' _ _ hk1 hu fs_abs (FJ _) a4;have lp:=M9 (t:=bF 6) (d:=j1) (ds:=[j2]) (δ:=[some (.val (RT (r :: rs))),some (.val da),some (.val db),some (.val dn),some (.val (RT rs)),some (.val nd),none,none,none]) rfl (Ng (R:=cY m) (G:=RT (r :: rs)) (G0:=RT rs) (da:=da) (db:=db) (dn:=dn) (nd:=nd) (z6:=none) (z7:=none) (z8:=none) r1 (DN hu) euu eo ebh ln elu es ee);exact FT ln ed nb en (Iu en' cl r0 em' lp (.inl ⟨_,rfl⟩))
  ·
   have ho':qD (rs.length + 1) P=true:=ho;simp only [qD,Bool.and_eq_true,decide_eq_true_eq] at ho';obtain ⟨⟨⟨⟨⟨⟨⟨o1,o2⟩,o3⟩,b1⟩,b2⟩,b3⟩,a1⟩,b4⟩:=ho';obtain ⟨da,db,ed,ha,hb⟩:=pI T h3' hd (by omega)
   by_cases c:Ext.b (r:=of r) v=0
   ·obtain ⟨dar,ebw,har⟩:=DG T h3' hrs' hl hr1 ha o2;have nb:=Nu T (by omega) hb c;have r1:=ihB P da _ ha (fun s hs=>hz (em s) (by rw [<- Am,hs]; exact (Ext.eqs (r:=of r) rfl c:v=em (Ext.a (r:=of r) v)).symm)) b1;have r2:=ihB _ dar _ har (fun s hs=>hz (gQ hr hn 0 (s / of r)) (by
     refine Ext.eqs (r:=of r) ?_ ?_
     ·show 0 * 0 + s / of r * (s / of r) * of r=Ext.a (r:=of r) v;exact UL (U4 hr hs)
     ·show 0 * (s / of r) + s / of r * 0=Ext.b (r:=of r) v;rw [c]; exact UT _)) b2
    exact FQ ln ed nb (kE' cl ebw r1 r2)
   ·have nb:=Nv T (by omega) hb c;obtain ⟨dn,en,hN⟩:=pH T h3' hl hr1 hrs' hd o1
    by_cases sq:∃n:F.C,n * n=Ext.nrm (r:=of r) v
    ·obtain ⟨n0,hn0⟩:=sq;have hn1:fabs n0 * fabs n0=Ext.nrm (r:=of r) v:=fs_abs.trans hn0;obtain ⟨⟨nd,hnd⟩,⟨j1,hk1⟩,j2,hk2⟩:=Nj T h3' hrs' hl hr1 hd hn1;have r0:=ihA _ _ dn nd _ _ hN hnd hn1 (FJ _) a1;obtain ⟨m1,m2,em',hm1,hm2⟩:=wV T (by omega) ha hnd o3;have g1:=iy T hk1 hm1;have g2:=iy T hk2 hm2;subst g1 g2;have nv:Ext.a (r:=of r) v * Ext.a (r:=of r) v - Ext.b (r:=of r) v * Ext.b (r:=of r) v * of r=fabs n0 * fabs n0:=hn1.symm;have mk:∀u:F.C,(u * u + Ext.b (r:=of r) v / (u + u) * (Ext.b (r:=of r) v / (u + u)) * of r=Ext.a (r:=of r) v/\u * (Ext.b (r:=of r) v / (u + u)) + Ext.b (r:=of r) v / (u + u) * u=Ext.b (r:=of r) v)->False:=fun u hu =>
      hz (gQ hr hn u (Ext.b (r:=of r) v / (u + u))) (Ext.eqs (r:=of r) hu.1 hu.2)
     have r1:=ihB _ _ _ hk1 (fun u hu=>mk u (M3 nv hu (M4 nv hu c hr))) b4;have r2:=ihB _ _ _ hk2 (fun u hu=>mk u (U8 nv hu (U9 nv hu c hr))) b4;obtain ⟨xn,bn,en'⟩:=qF hnd;have lp:=Eq.trans (Fw (t:=bF 6) (d:=_) (ds:=[_]) (δ:=[some (.val (RT (r :: rs))),some (.val da),some (.val db),some (.val dn),some (.val (RT rs)),some (.val nd),none,none,none]) rfl (Ir (R:=cY m) (G:=RT (r :: rs)) (G0:=RT rs) (da:=da) (db:=db) (dn:=dn) (nd:=nd) (z7:=none) (z8:=none) r1)) (Eq.trans (Fw (ds:=[]) rfl (Ir (R:=cY m) (G:=RT (r :: rs)) (G0:=RT rs) (da:=da) (db:=db) (dn:=dn) (nd:=nd) (z7:=some (.val .non)) (z8:=none) r2)) Mz)
     exact FT ln ed nb en (Iu en' cl r0 em' lp (.inr ⟨_,rfl⟩))
    ·have r0:=ihB _ dn _ hN (fun n hn0=>sq ⟨n,hn0⟩) b3;exact FT ln ed nb en (Uv cl r0)
end
structure Gr {F F':OF} (of:List Int->F.C) (rs:List (List Int)) (of':List Int->F'.C) (rs':List (List Int)) (e:F.C->F'.C) (dz:D) (z:F'.C) (N E:Nat):Prop where
 T:Tow rs' F' of'
 l3:rs'.length<=3
 ea:∀x y,e (x + y)=e x + e y
 em:∀x y,e (x * y)=e x * e y
 en:∀x,e (-x)=-e x
 ed:∀x y,e (x / y)=e x / e y
 es:∀x,sgn (e x)=sgn x
 nz:Nm of' rs'.length N dz z
 tm:∀{p q:Nat} {d d':D} {u v:F'.C},Nm of' rs'.length p d u->Nm of' rs'.length q d' v->p + q + E<=8000->∃t,cO [RT rs',d,d']=.ok t/\Nm of' rs'.length (p + q + E) t (u * v)
 pr:∀{p q:Nat} {d d':D} {u v:F'.C},Rw of' rs'.length p d u->Rw of' rs'.length q d' v->p + q + E<=100000->∃t,fO [RT rs',d,d']=.ok t/\Rw of' rs'.length (p + q + E) t (u * v)
 lf:∀{p:Nat} {d:D} {v:F.C},Nm of rs.length p d v->∃d',cN [d,.int (rs'.length:Int)]=.ok d'/\gK [d,.int ((2 ^ rs'.length:Nat):Int)]=.ok d'/\Nm of' rs'.length p d' (e v)
 ov:∀{p:Nat} {d:D} {v:F.C},Nm of rs.length p d v->v≠0->15 * p + 385 + E<=8000->N + (7 * p + 154) + E<=8000->∃t d',cN [d,.int (rs'.length:Int)]=.ok d'/\dC [RT rs',dz,d']=.ok t/\Nm of' rs'.length (N + (7 * p + 154) + E) t (z / e v)
 s0:∀{x:List Int},x.length=2 ^ rs'.length->of' x=0->dF [RT rs',TI x]=.ok (.int 0)
 s1:∀{p:Nat} {x:List Int} {b:Int} {c:F.C},0 < b->x.length=2 ^ rs'.length->Bd p x->p<=40000->e c * z=of' x / (b:F'.C)->dF [RT rs',TI x]=.ok (.int (sgn (e c * z)))
theorem gd' (x:List Int) (b:Int) (m:Nat) (hm:x.length + m<=100):gK [num x b,.int ((x.length + m:Nat):Int)]=.ok (num (x ++ List.replicate m 0) b):=by
 show outD (ur [some (.arg (num x b)),some (.arg (.int ((x.length + m:Nat):Int)))])=_;unfold ur;have su:((x.length + m:Nat):Int) - ((x.map D.int).length:Int)=(m:Int):=by rw [length_map]; omega
 have lQ:bA (num x b) (.int 0)=.ok (TI x):=ix_tup0 _ _;have cp:aO 1 [] (bF 0) ‹0› ‹"L"› [some (.arg (num x b)),some (.arg (.int ((x.length + m:Nat):Int)))]=.ok (.lst ((List.replicate m (0:Int)).map .int)):=by
  have:=qR (fe:=fun _=>.ok (.int 0)) (fi:=‹"L"›) (fr:=[]) (δ:=[some (.arg (num x b)),some (.arg (.int ((x.length + m:Nat):Int)))]) (rest:=[]) (ts:=(List.range m).map fun (k:Nat)=>(k:Int)) (g:=fun _=>.int 0)
   (p_ (ds:=[.int (m:Int)]) (by push_cast [lQ]; rw [su]) (Ht m (by omega))) rfl (by simp only [length_map,length_range]; exact Nat.le_trans (show m<=100 by omega) (by decide)) fun t ht=>rfl
  rw [this,Ac]; simp
 push_cast [lQ,cp,vH (a:=x) (b:=List.replicate m 0) (by rw [length_replicate]; omega)]
section
variable {rs:List (List Int)} {F:OF} {of:List Int->F.C}
theorem yH {k p:Nat} (h:k<=2) (hp:p<=40000):SOk 10 k p:=by
 have:k=0\/k=1\/k=2:=by omega
 rcases this with z | z | z <;> subst z <;> simp only [SOk,eT] <;> omega
theorem Ny (T:Tow rs F of) {p q:Nat} {d d':D} {v:F.C} (h:Nm of rs.length p d v) (g:Nm of rs.length q d' v):Nm of rs.length q d v:=by
 rw [iy T h g]; exact g
theorem wX {k p:Nat} (h:k<=2):oB 10 k p<=7 * p + 154/\eT 10 k<=33:=by
 have:k=0\/k=1\/k=2:=by omega
 rcases this with z | z | z <;> subst z <;> simp only [oB,eT] <;> omega
theorem Je (T:Tow rs F of) (l2:rs.length<=2) (hr:∀r∈rs,Bd 10 r) {N:Nat} {dz:D} {z:F.C} (nz:Nm of rs.length N dz z):Gr of rs of rs (fun x=>x) dz z N (eT 10 rs.length) where
 T:=T
 l3:=by omega
 ea:=fun _ _=>rfl
 em:=fun _ _=>rfl
 en:=fun _=>rfl
 ed:=fun _ _=>rfl
 es:=fun _=>rfl
 nz:=nz
 tm:=fun h1 h2 hn=>eV T (by omega) hr h1 h2 hn
 pr:=fun h1 h2 hn=>T8 T (by omega) hr h1 h2 (by omega)
 lf:=fun {p d v} h=>by
  refine ⟨d,Mr T (by omega) h,?_,h⟩;obtain ⟨x,b,rfl,_,lx,_⟩:=h;have e8:=iC (k:=rs.length) (by omega);have:=gd' x b 0 (by omega);rw [replicate_zero,append_nil,Nat.add_zero,lx] at this;exact this
 ov:=fun {p d v} h v0 h1 h2=>by
  obtain ⟨o,e⟩:=wX (p:=p) l2;obtain ⟨t,et,ht⟩:=jU T (by omega) hr nz h v0 (by omega);exact ⟨t,d,Mr T (by omega) h,et,ht.mono (by omega)⟩
 s0:=fun {x} lx h=>by
  have z:=HJ T lx (by rw [length_replicate]) (h.trans (wM T).symm);have i:dF [RT rs,TI x]=_:=zc T 4 x 1 (by omega) (by omega) hr lx (fun t ht=>by rw [z] at ht; rw [eq_of_mem_replicate ht]; decide) (mO (by omega) (by decide));rw [i,h,sgn_0.mpr rfl]
 s1:=fun {p x b c} pb lx bx hp h=>by
  have i:dF [RT rs,TI x]=_:=zc T 4 x p (by omega) (by omega) hr lx bx (yH l2 hp);rw [i,h,Fl T pb]
end
theorem FW:∀{x y:List Int},x.map D.int=y.map D.int->x=y
 | [],[],_=>rfl
 | [],_ :: _,h=>by simp at h
 | _ :: _,[],h=>by simp at h
 | a :: x,a' :: y,h=>by
  simp only [map_cons,List.cons.injEq,D.int.injEq] at h;rw [h.1,FW h.2]
theorem Nz {ρ k:Nat} (h:k<=3):eT ρ k<=7 * (ρ + 1):=by
 have:k=0\/k=1\/k=2\/k=3:=by omega
 rcases this with z | z | z | z <;> subst z <;> simp only [eT] <;> omega
theorem Vb {ρ k:Nat} (h:k<=3) (hρ:ρ<=4000):SOk ρ k 1:=by
 have:k=0\/k=1\/k=2\/k=3:=by omega
 rcases this with z | z | z | z <;> subst z <;> simp only [SOk,eT] <;> omega
section
variable {rs:List (List Int)} {F:OF} {of:List Int->F.C} {ρ:Nat}
theorem FZ {r:List Int} (hr:Bd ρ r) (hrs:∀r∈rs,Bd 10 r) {x y:List Int} {p q:Nat} (h1:Bd p x) (h2:Bd q y):Bd (p + q + (2 * eT 10 rs.length + ρ + 1)) (pt (r :: rs) x y):=by
 have ac:=iB rs hrs h1.fr h2.fr;have bd:=iB rs hrs h1.bh h2.bh;have ad:=iB rs hrs h1.fr h2.bh;have bc:=iB rs hrs h1.bh h2.fr;have sq:=iB rs hrs bd hr;rw [pt];exact Bd.app (Bd.mono ((ac.mono (by omega)).add sq) (by omega)) (Bd.mono (ad.add bc) (by omega))
theorem Vc {r:List Int} (hr:Bd ρ r) (hrs:∀r∈rs,Bd 10 r) {x:List Int} {p:Nat} (h:Bd p x):Bd (2 * p + (2 * eT 10 rs.length + ρ + 1)) (ql r rs x):=by
 have a:=iB rs hrs h.fr h.fr;have b:=cJ' (iB rs hrs (iB rs hrs h.bh h.bh) hr);exact Bd.mono ((a.mono (by omega)).add b) (by omega)
theorem ok' {v r:F.C}:v * v - 0 * 0 * r=v * v:=by grind
theorem Vd {v:F.C} (h:v≠0):v * v≠0:=fun z=>h ((nQ z).elim id id)
theorem ps' {c x r:F.C}:c * 0 + 0 * x * r=0:=by grind
theorem Ve {x b:F.C} (b0:b≠0) (h:x / b=0):x=0:=by grind
theorem Jf {b t:F.C} (b0:b≠0):b * t=b * b * (t / b):=by grind
theorem Jg {b t:F.C} (b0:b≠0):0 * 0 + 1 / b * (1 / b) * (b * t)=t / b:=by grind
theorem Vf {b z w:F.C} (b0:b≠0) (h:z * z=b * b * w):z / b * (z / b)=w:=by grind
theorem Vg {b:F.C} (h:0 < b):0 < 1 / b:=by
 have:b≠0:=by grind
 have e:1 / b=(1 / b) * (1 / b) * b:=by grind
 have f:b * (1 / b)=1:=by grind
 have n:1 / b≠0:=fun z=>by rw [z] at f; grind
 rw [e];exact cF (yV n) h
end
section
variable {rs:List (List Int)} {F:OF} {of:List Int->F.C} {ρ:Nat}
theorem hX' (T:Tow rs F of) (l2:rs.length<=2) (hrs:∀r∈rs,Bd 10 r) {r:List Int} (hl:r.length=2 ^ rs.length) {hr:0 < of r} {hn:∀z:F.C,z * z≠of r} (hrr:Bd ρ r) (hρ:ρ<=4000) (h10:10<=ρ)
  {p:Nat} {d d':D} {v:F.C} (hd:Nm of rs.length p d v) (v0:v≠0) (hd':Nm (aY of r hr hn) (rs.length + 1) p d' (em v)) (hp:15 * p + 385 + (2 * eT 10 rs.length + ρ + 1)<=8000) :
  ∃i,rP [RT (r :: rs),d']=.ok i/\Nm (aY of r hr hn) (rs.length + 1) (7 * p + 154) i (em v)⁻¹:=by
 have TT:=Tow.cons T r hl hr hn;obtain ⟨o1,e1⟩:=wX (p:=p) l2;obtain ⟨o2,_⟩:=wX (p:=2 * p + 33) l2;have eL:=Nz (ρ:=ρ) (k:=rs.length + 1) (by omega);have hr':∀q∈r :: rs,Bd ρ q:=fun q hq=>by
  rcases mem_cons.mp hq with z | z
  ·rw [z]; exact hrr
  ·exact (hrs q z).mono h10
 obtain ⟨m,em_,hm⟩:=Mq T (by omega) hl hrr (fun q hq=>hr' q (mem_cons_of_mem _ hq)) hd' (fun bx=>Vc hrr hrs bx) (by omega) (by omega) (by omega);have nv:Ext.nrm (r:=of r) (em (hr:=hr) (hn:=hn) v)=v * v:=ok';rw [nv] at hm;obtain ⟨m2,_,hm2⟩:=eV T (by omega) hrs hd hd (by omega);have hm:=(Ny T hm hm2).mono (show _<=2 * p + 33 by omega);obtain ⟨b,eb,hb⟩:=xR T 3 _ m _ (by omega) (by omega) hrs hm (Vd v0) (by omega);obtain ⟨t,et,ht⟩:=wO T (by omega) hd';obtain ⟨l,el,hl'⟩:=wQ T (by omega) (r:=r) (hr:=hr) (hn:=hn) hb;obtain ⟨z,ez,hz⟩:=Fi TT (by rw [length_cons]; omega) hr' ht hl' (fun bx b_y=>FZ hrr hrs bx b_y) (by omega) (by omega) (by rw [length_cons]; omega);have ne:em (hr:=hr) (hn:=hn) v≠0:=fun z=>v0 (Mv z);have iv:=Mm (em (hr:=hr) (hn:=hn) v) ne;rw [nv] at iv;rw [<- iv] at hz;obtain ⟨i,_,hi⟩:=xR T 4 _ d _ (by omega) (by omega) hrs hd v0 (by omega);obtain ⟨j,_,hj⟩:=wQ T (by omega) (r:=r) (hr:=hr) (hn:=hn) hi;rw [Mx] at hj;refine ⟨z,?_,(Ny TT hz hj).mono o1⟩;show outD (jC (je 3) [some (.arg (RT (r :: rs))),some (.arg d'),none])=_;unfold jC;have zz:¬(((rs.length + 1:Nat):Int)=0):=by omega
 push_cast [length_map,length_reverse,zz,lV,em_,eb,et,el,ez]
theorem Vh (T:Tow rs F of) (l2:rs.length<=2) (hrs:∀r∈rs,Bd 10 r) {P:Nat} (hP:P<=2000) (h5:5<=P) {xs:List Int} {b:Int} {w:F.C} (hx:Nm of rs.length P (num xs b) w) (w0:0 < w) (wn:∀z:F.C,z * z≠w) :
  ∃(uP:0 < of (xs.map (b * ·))) (uN:∀z:F.C,z * z≠of (xs.map (b * ·))),Gr of rs (aY of (xs.map (b * ·)) uP uN) (xs.map (b * ·) :: rs) em (num (List.replicate (2 ^ rs.length) 0 ++ 1 :: List.replicate (2 ^ rs.length - 1) 0) b) (gQ uP uN 0 (1 / (b:F.C))) P (2 * eT 10 rs.length + (P + P) + 1)
   /\ gQ uP uN 0 (1 / (b:F.C)) * gQ uP uN 0 (1 / (b:F.C))=em w/\0 < gQ uP uN 0 (1 / (b:F.C)):=by
 obtain ⟨xs',b',e',nx,lx,bx,bb,ex⟩:=hx;simp only [num,D.tup.injEq,List.cons.injEq,D.int.injEq,and_true] at e';obtain ⟨e1,rfl⟩:=e';have e1:=FW e1;subst e1;have pb:=nx.pos;have b0:=fL T (show b≠0 by omega);have oU:of (xs.map (b * ·))=(b:F.C) * (b:F.C) * w:=by rw [jz T b lx,ex]; exact Jf b0
 have uP:0 < of (xs.map (b * ·)):=by rw [oU]; exact cF (yV b0) w0
 have uN:∀z:F.C,z * z≠of (xs.map (b * ·)):=fun z hz=>wn _ (Vf b0 (hz.trans oU));have lU:(xs.map (b * ·)).length=2 ^ rs.length:=by rw [length_map]; exact lx
 have bU:Bd (P + P) (xs.map (b * ·)):=fun t ht=>by
  obtain ⟨a,ha,rfl⟩:=mem_map.mp ht;exact ie bb (bx a ha)
 have ou:of (xs.map (b * ·))=(b:F.C) * of xs:=jz T b lx;refine ⟨uP,uN,?_,?_,?_⟩
 ·generalize xs.map (b * ·)=r at *;have TT:=Tow.cons T r lU uP uN;have l3':(r :: rs).length<=3:=by rw [length_cons]; omega
  have hr':∀q∈r :: rs,Bd (P + P) q:=fun q hq=>by
   rcases mem_cons.mp hq with z | z
   ·rw [z]; exact bU
   ·exact (hrs q z).mono (by omega)
  have eL:=Nz (ρ:=P + P) l3';have ll:(List.replicate (2 ^ rs.length) (0:Int)).length=((1:Int) :: List.replicate (2 ^ rs.length - 1) 0).length:=by
   have:=Nat.two_pow_pos rs.length;rw [length_cons,length_replicate,length_replicate]; omega
  have he:Nm (aY of r uP uN) (r :: rs).length P (num (List.replicate (2 ^ rs.length) 0 ++ 1 :: List.replicate (2 ^ rs.length - 1) 0) b) (gQ uP uN 0 (1 / (b:F.C))):=by
   refine ⟨_,b,rfl,⟨pb,?_⟩,?_,Bd.app (fun t ht=>by rw [eq_of_mem_replicate ht]; exact Nat.two_pow_pos P) (fun t ht=>?_),bb,Ao b0 ?_ ?_⟩
   ·rw [Ak,u6];show gN (Nat.gcd _ 1) _=1;rw [Nat.gcd_one_right,Ey]
   ·rw [length_append,<- ll,length_replicate,length_cons,Nat.pow_succ]; omega
   ·rcases mem_cons.mp ht with z | z
    ·rw [z]; exact Nat.one_lt_two_pow (by omega)
    ·rw [eq_of_mem_replicate z]; exact Nat.two_pow_pos P
   ·rw [wK ll,wM T]; show (0:F.C)=_; grind
   ·rw [wL ll,xO T 1,Ring.intCast_one]; rfl
  refine { T:=TT,l3:=l3',ea:=nD',em:=Am,en:=lb',ed:=Ub,es:=Ua,nz:=he,tm:=fun h1 h2 hn=>?_,pr:=fun h1 h2 hn=>?_,lf:=fun {p d v} h=>?_,ov:=fun {p d v} h v0 q1 q2=>?_,s0:=fun {x} lx h=>?_,s1:=fun {p x b' c} pb' lx bx hp h=>?_ }
  ·exact Fi TT l3' hr' h1 h2 (fun bx b_y=>FZ bU hrs bx b_y) (by omega) hn (by omega)
  ·exact Mt TT l3' hr' h1 h2 (fun bx b_y=>FZ bU hrs bx b_y) (by omega) (by omega)
  ·obtain ⟨t,et,ht⟩:=wQ T (by omega) (r:=r) (hr:=uP) (hn:=uN) h;obtain ⟨x,c,rfl,_,lx',_⟩:=h;have e8:=iC (k:=rs.length) (by omega);refine ⟨t,et,?_,ht⟩;have lw:=gd' x c (2 ^ rs.length) (by omega);have l1:cN [num x c,.int ((rs.length + 1:Nat):Int)]=.ok (num (x ++ List.replicate (2 ^ rs.length) 0) c):=by
    show outD (gR [some (.arg (num x c)),some (.arg (.int ((rs.length + 1:Nat):Int)))])=_;unfold gR;have su:((2 ^ (rs.length + 1):Nat):Int) - (x.length:Int)=((2 ^ rs.length:Nat):Int):=by
     rw [lx',Nat.pow_succ]; omega
    have lx2:((List.map D.int x).length:Int)=(x.length:Int):=by rw [length_map]
    push_cast [Hx (rs.length + 1) (by omega),lx2];rw [su];push_cast [yU (2 ^ rs.length) (by omega),vH (a:=x) (b:=List.replicate (2 ^ rs.length) 0) (by rw [length_replicate]; omega)]
   have ee:num (x ++ List.replicate (2 ^ rs.length) 0) c=t:=Res.ok.inj (l1.symm.trans et);rw [<- ee,<- lw];have e2:(x.length + 2 ^ rs.length:Nat)=2 ^ (r :: rs).length:=by rw [lx',length_cons,Nat.pow_succ]; omega
   rw [e2]
  ·obtain ⟨t,et,ht⟩:=wQ T (by omega) (r:=r) (hr:=uP) (hn:=uN) h;obtain ⟨i,ei,hi⟩:=hX' T l2 hrs lU bU (by omega) (by omega) h v0 ht q1;obtain ⟨z,ez,hz⟩:=Fi TT l3' hr' he hi (fun bx b_y=>FZ bU hrs bx b_y) (by omega) (by omega) (by omega);rw [show gQ uP uN 0 (1 / (b:F.C)) * (em v)⁻¹=gQ uP uN 0 (1 / (b:F.C)) / em v from (Field.div_eq_mul_inv _ _).symm] at hz
   refine ⟨z,t,et,?_,hz⟩;have ne:em (hr:=uP) (hn:=uN) v≠0:=fun z=>v0 (Mv z);have no:gJ [t]=.ok (.bl false):=Ax (cs' TT l3' ht) ne;show outD (jf [some (.arg (RT (r :: rs))),some (.arg _),some (.arg t)])=_;unfold jf;push_cast [no,ei,ez]
  ·have z:=HJ TT lx (by rw [length_replicate]) (h.trans (wM TT).symm);have i:dF [RT (r :: rs),TI x]=_:=zc TT 4 x 1 (by omega) l3' hr' lx (fun t ht=>by rw [z] at ht; rw [eq_of_mem_replicate ht]; decide) (Vb l3' (by omega));rw [i,h,sgn_0.mpr rfl]
  ·have b0':=fL T (show b'≠0 by omega);have a0:of (aV x)=0:=Ve b0' ((An b0' h).1.symm.trans ps');have i1:=zc T 3 (aV x) p (by omega) (by omega) hrs (iQ lx) bx.fr (yH l2 hp);have i2:=zc T 3 (aU x) p (by omega) (by omega) hrs (jo lx) bx.bh (yH l2 hp);rw [a0,sgn_0.mpr rfl] at i1;have es:=Ag (hr:=uP) (hn:=uN) (aY of r uP uN x);have es':sgn (aY of r uP uN x)=if sgn (of (aV x))=sgn (of (aU x))\/sgn (of (aU x))=0 then sgn (of (aV x)) else if sgn (of (aV x))=0 then sgn (of (aU x)) else sgn (of (aV x)) * sgn (of (aV x) * of (aV x) - of (aU x) * of (aU x) * of r):=es
   rw [h,Fl TT pb',es',a0,sgn_0.mpr rfl];have z:¬((x.length:Int)=1):=by
    rw [lx]; show ¬(((2 ^ (rs.length + 1):Nat):Int)=1);have:=Nat.two_pow_pos rs.length;rw [Nat.pow_succ]; omega
   have fx:x.take (x.length / 2)=aV x:=rfl;have bx':x.drop (x.length / 2)=aU x:=rfl;show outD (jD (jh 3) [some (.arg (RT (r :: rs))),some (.arg (TI x)),none,none,none,none,none,none])=_;unfold jD
   by_cases c2:sgn (of (aU x))=0
   ·rw [if_pos (.inr c2)];rw [c2] at i2;push_cast [length_map,z,bs',wH,u9,fx,bx',lV,i1,i2]
   ·have c3:¬(0=sgn (of (aU x))):=fun q=>c2 q.symm;rw [if_neg (by rintro (q | q); exact c3 q; exact c2 q),if_pos rfl]
    push_cast [length_map,z,bs',wH,u9,fx,bx',lV,i1,i2,c2,c3]
 ·refine Ext.eqs (r:=of (xs.map (b * ·))) ?_ ?_
  ·show 0 * 0 + 1 / (b:F.C) * (1 / (b:F.C)) * of (xs.map (b * ·))=w;rw [ou,ex]; exact Jg b0
  ·show (0:F.C) * (1 / (b:F.C)) + 1 / (b:F.C) * 0=0
   grind
 ·have e:gQ uP uN 0 (1 / (b:F.C))=Bk.em (1 / (b:F.C)) * Ib uP uN:=Ext.eqs (r:=of (xs.map (b * ·))) (show (0:F.C)=1 / (b:F.C) * 0 + 0 * 1 * _ by grind) (show 1 / (b:F.C)=1 / (b:F.C) * 1 + 0 * 0 by grind);rw [e];exact cF (Fv (Vg (pD T pb))) My
end
theorem Vi {G d e:D} {s:Int} (hs:fP [G,d]=.ok (.int s)) (s0:¬s < 0) (rt:jl [G,d]=.ok e) (nn:bW e .non=.ok (.bl true)):fU [G,d]=.ok (.tup [G,e]):=by
 show outD (jm [some (.arg G),some (.arg d),none,none,none,none])=_;unfold jm;push_cast [hs,s0,rt,nn]
theorem kz' {G xs z z' last w G':D} {us:List D} {b s n:Int} {l:Nat} (hs:fP [G,.tup [xs,.int b]]=.ok (.int s)) (s0:¬s < 0) (rt:jl [G,.tup [xs,.int b]]=.ok .non) (ln:bI [G]=.ok (.int (l:Int))) (l3:¬((l:Int)=3))
  (cp:aO 1 [1] (bF 0) (two (ak 0) ‹"h"› bK) (bindL ‹"e"› aM) [some (.arg G),some (.arg (.tup [xs,.int b])),some (.val .non),none,none,none]=.ok (.lst us))
  (lu:(us.length:Int)=n) (m1:bK (.tup [.int 0]) (.int n)=.ok z) (m2:bK (.tup [.int 0]) (.int (n - 1))=.ok z') (a1:a_ (.tup [.int 1]) z'=.ok last) (a2:a_ G (.tup [.tup us])=.ok G') (a3:a_ z last=.ok w):fU [G,.tup [xs,.int b]]=.ok (.tup [G',.tup [w,.int b]]):=by
 show outD (jm [some (.arg G),some (.arg (.tup [xs,.int b])),none,none,none,none])=_;unfold jm;push_cast [hs,s0,rt,FP,ln,l3,cp,lu,m1,m2,a1,a2,a3]
theorem Vj (rs:List (List Int)) (u:List Int) (h:rs.length<=8):a_ (RT rs) (.tup [TI u])=.ok (RT (u :: rs)):=by
 show (if (rs.reverse.map TI).length + 1<=sizeLine then Res.ok (D.tup (rs.reverse.map TI ++ [TI u])) else Res.stuck)=_
 have e:1000<=sizeLine:=by decide
 rw [if_pos (by rw [length_map,length_reverse]; omega)];simp [reverse_cons]
theorem bS' (rs:List (List Int)):bI [RT rs]=.ok (.int (rs.length:Int)):=by
 show Res.ok (D.int ((rs.reverse.map TI).length:Int))=_;rw [length_map,length_reverse]
section
variable {rs:List (List Int)} {F:OF} {of:List Int->F.C}
theorem Vk {z:F.C}:fabs z * fabs z=z * z/\0<=fabs z:=by
 unfold fabs
 split
 ·exact ⟨by grind,by grind⟩
 ·exact ⟨rfl,by grind⟩
theorem Vl {w:F.C} (h:0<=w) (n:∀z:F.C,z * z≠w):0 < w:=by
 have:=n 0;have e:(0:F.C) * 0=0:=by grind
 rw [e] at this
 grind
theorem Vm (T:Tow rs F of) (l2:rs.length<=2) (hr:∀r∈rs,Bd 10 r) {P:Nat} (hP:P<=2000) {xs:List Int} {b:Int} {w:F.C} (hx:Nm of rs.length P (num xs b) w) (w0:0 < w) (wn:∀z:F.C,z * z≠w) (bo:qD rs.length P=true) :
  fU [RT rs,num xs b]=.ok (.tup [RT (xs.map (b * ·) :: rs),num (List.replicate (2 ^ rs.length) 0 ++ 1 :: List.replicate (2 ^ rs.length - 1) 0) b]):=by
 have l3:rs.length<=3:=by omega
 have e8:=iC l3;have n0:=Nat.two_pow_pos rs.length;have sg:=jT T l3 hr hx (mO l3 (by omega));have rt:jl [RT rs,num xs b]=.ok .non:=(Nx T l3 hr 4 (by omega)).2 _ _ _ hx wn bo;rw [sgn_p.mpr w0] at sg;obtain ⟨lx,bx,bb⟩:xs.length=2 ^ rs.length/\Bd P xs/\b.natAbs < 2 ^ P:=by
  obtain ⟨xs',b',e',nx,lx,bx,bb,ex⟩:=hx;simp only [num,D.tup.injEq,List.cons.injEq,D.int.injEq,and_true] at e';obtain ⟨e1,rfl⟩:=e';have e1:=FW e1;subst e1;exact ⟨lx,bx,bb⟩
 have mu:∀t∈xs,dY (.int t) (.int b)=.ok (.int (b * t)):=fun t ht=>by
  rw [eF (lJ (bx t ht) (by omega)) (lJ bb (by omega)),Int.mul_comm]
 have cp:aO 1 [1] (bF 0) (two (ak 0) ‹"h"› bK) (bindL ‹"e"› aM) [some (.arg (RT rs)),some (.arg (.tup [TI xs,.int b])),some (.val .non),none,none,none]=.ok (.lst (xs.map fun t=>.int (b * t))):=by
  refine qR (rest:=[some (.arg (.tup [TI xs,.int b]))]) rfl rfl (Nat.le_trans (show xs.length<=8 by omega) (by decide)) fun t ht=>?_;have:=mu t ht;push_cast [this]
 have us:(xs.map fun t=>D.int (b * t))=(xs.map (b * ·)).map D.int:=by rw [map_map]; rfl
 rw [us] at cp;have m1:=yU (2 ^ rs.length) (by omega);have m2:bK (.tup [.int 0]) (.int (((2 ^ rs.length:Nat):Int) - 1))=.ok (TI (List.replicate (2 ^ rs.length - 1) 0)):=by
  rw [show ((2 ^ rs.length:Nat):Int) - 1=((2 ^ rs.length - 1:Nat):Int) by omega];exact yU _ (by omega)
 have b1:a_ (.tup [.int 1]) (TI (List.replicate (2 ^ rs.length - 1) 0))=.ok (TI (1 :: List.replicate (2 ^ rs.length - 1) 0)):=vH (a:=[1]) (by rw [length_replicate]; show 1 + _<=_; omega);have b3:a_ (TI (List.replicate (2 ^ rs.length) 0)) (TI (1 :: List.replicate (2 ^ rs.length - 1) 0))=.ok _:=vH (by rw [length_cons,length_replicate,length_replicate]; omega);exact kz' sg (by decide) rt (bS' rs) (by omega) cp (by rw [length_map,length_map,lx]) m1 m2 b1 (Vj rs (xs.map (b * ·)) (by omega)) b3
theorem Vn (T:Tow rs F of) (l2:rs.length<=2) (hr:∀r∈rs,Bd 10 r) {P:Nat} (hP:P<=2000) (h5:5<=P) {dw:D} {w:F.C} (hx:Nm of rs.length P dw w) (w0:0<=w) (bo:qD rs.length P=true) (ao:vh rs.length P (P + cB rs.length + dB rs.length)=true) :
  ∃(rs':List (List Int)) (F':OF) (of':List Int->F'.C) (e:F.C->F'.C) (dz:D) (z:F'.C) (N E:Nat),Gr of rs of' rs' e dz z N E/\fU [RT rs,dw]=.ok (.tup [RT rs',dz])/\z * z=e w/\0<=z/\(N=P/\E=2 * eT 10 rs.length + (P + P) + 1\/N=P + cB rs.length + dB rs.length/\E=eT 10 rs.length)/\((rs'=rs/\∃y:F.C,y * y=w)\/(0 < w/\∃x b,dw=num x b/\rs'=x.map (b * ·) :: rs)):=by
 have l3:rs.length<=3:=by omega
 by_cases c:∃z:F.C,z * z=w
 ·obtain ⟨y,hy⟩:=c;obtain ⟨h1,h2⟩:=Vk (z:=y);have hz:=h1.trans hy;obtain ⟨dz,nz⟩:=Nk T l3 hr hx hz;have rt:jl [RT rs,dw]=.ok dz:=(Nx T l3 hr 4 (by omega)).1 _ _ _ _ _ _ hx nz hz h2 ao;have sg:=jT T l3 hr hx (mO l3 (by omega));have sn:¬sgn w < 0:=by
   rcases lE w with ⟨_,e⟩ | ⟨_,e⟩ | ⟨h,e⟩
   ·rw [e]; decide
   ·rw [e]; decide
   ·exact (Nq h w0).elim
  exact ⟨rs,F,of,fun x=>x,dz,_,_,_,Je T l2 hr nz,Vi sg sn rt (DN nz),hz,h2,.inr ⟨rfl,rfl⟩,.inl ⟨rfl,y,hy⟩⟩
 ·have wn:∀z:F.C,z * z≠w:=fun z hz=>c ⟨z,hz⟩;have wp:=Vl w0 wn;obtain ⟨xs,b,rfl,_⟩:=id hx;obtain ⟨uP,uN,g,zz,zp⟩:=Vh T l2 hr hP h5 hx wp wn;exact ⟨_,_,_,_,_,_,_,_,g,Vm T l2 hr hP hx wp wn bo,zz,by
   generalize gQ uP uN 0 (1 / (b:F.C))=Z at zp;exact Std.le_of_lt zp,.inl ⟨rfl,rfl⟩,.inr ⟨wp,xs,b,rfl,rfl⟩⟩
end
theorem Vo (x f:Str) (fe:DS->Res D) (δ:DS):dO x f fe δ=j7 (fe δ) δ fun d=>.err ⟨x,some (f,d)⟩ δ:=by
 unfold dO
 cases fe δ <;> rfl
structure Wx (G l0 l1 l2 c0 c1 s n h w:D):Prop where
 nn:n8 [G,.tup [l0,l1,l2],.tup [l0,l1,l2]]=.ok n
 hh:∃sp,n8 [G,.tup [l0,l1,l2],.tup [c0,c1,s]]=.ok sp/\iz [l2,sp]=.ok h
 ww:∃t1 t2,cO [G,s,n]=.ok t1/\cO [G,h,h]=.ok t2/\iz [t1,t2]=.ok w
theorem oo' {G l0 l1 l2 c0 c1 s n h w:D} (W:Wx G l0 l1 l2 c0 c1 s n h w) {k:Int} (sg:fP [G,w]=.ok (.int k)) (k0:k < 0):fV [G,.tup [l0,l1,l2],.tup [c0,c1,s]]=.err ⟨"NoMeet",some ("number",w)⟩:=by
 obtain ⟨nn,⟨sp,e1,e2⟩,t1,t2,e3,e4,e5⟩:=W;show outD (lg [some (.arg G),some (.arg (.tup [l0,l1,l2])),some (.arg (.tup [c0,c1,s])),none,none,none,none,none,none,none,none,none])=_;unfold lg;push_cast [nn,e1,e2,e3,e4,e5,sg,k0,Vo]
theorem Vp {G G' z l0 l1 l2 c0 c1 s n h w q a0 a1 f0 f1 g0 g1:D} (W:Wx G l0 l1 l2 c0 c1 s n h w) {k:Int} (sg:fP [G,w]=.ok (.int k)) (k0:¬k < 0) (gr:fU [G,w]=.ok (.tup [G',z])) (ov:dC [G,h,n]=.ok q) (st:k_ [G,.tup [l0,l1],q]=.ok (.tup [a0,a1]))
  (pp:jk [.tup [c0,c1],.tup [a0,a1]]=.ok (.tup [f0,f1])) (lp:m6 [G',.tup [f0,f1]]=.ok (.tup [g0,g1])) (nw:gJ [w]=.ok (.bl true)):fV [G,.tup [l0,l1,l2],.tup [c0,c1,s]]=.ok (.tup [G',.lst [.tup [g0,g1]]]):=by
 obtain ⟨nn,⟨sp,e1,e2⟩,t1,t2,e3,e4,e5⟩:=W;show outD (lg [some (.arg G),some (.arg (.tup [l0,l1,l2])),some (.arg (.tup [c0,c1,s])),none,none,none,none,none,none,none,none,none])=_;unfold lg;push_cast [nn,e1,e2,e3,e4,e5,sg,k0,gr,ov,st,pp,lp,nw]
theorem Vq {G G' z l0 l1 l2 c0 c1 s n h w q a0 a1 f0 f1 g0 g1 m0 w0 w1 n' t s0 s1 b0 b1 p1 p2:D} (W:Wx G l0 l1 l2 c0 c1 s n h w) {k k':Int} (sg:fP [G,w]=.ok (.int k)) (k0:¬k < 0) (gr:fU [G,w]=.ok (.tup [G',z])) (ov:dC [G,h,n]=.ok q) (st:k_ [G,.tup [l0,l1],q]=.ok (.tup [a0,a1]))
  (pp:jk [.tup [c0,c1],.tup [a0,a1]]=.ok (.tup [f0,f1])) (lp:m6 [G',.tup [f0,f1]]=.ok (.tup [g0,g1])) (nw:gJ [w]=.ok (.bl false)) (ag:jb [l0]=.ok m0) (lw:m6 [G',.tup [l1,m0]]=.ok (.tup [w0,w1])) (ln:bI [G']=.ok (.int k')) (ln':cN [n,.int k']=.ok n')
  (ov2:dC [G',z,n']=.ok t) (st2:k_ [G',.tup [w0,w1],t]=.ok (.tup [s0,s1])) (ag0:jb [s0]=.ok b0) (ag1:jb [s1]=.ok b1) (q1:jk [.tup [g0,g1],.tup [b0,b1]]=.ok p1) (q2:jk [.tup [g0,g1],.tup [s0,s1]]=.ok p2) :
  fV [G,.tup [l0,l1,l2],.tup [c0,c1,s]]=.ok (.tup [G',.lst [p1,p2]]):=by
 obtain ⟨nn,⟨sp,e1,e2⟩,t1,t2,e3,e4,e5⟩:=W;show outD (lg [some (.arg G),some (.arg (.tup [l0,l1,l2])),some (.arg (.tup [c0,c1,s])),none,none,none,none,none,none,none,none,none])=_;unfold lg;push_cast [nn,e1,e2,e3,e4,e5,sg,k0,gr,ov,st,pp,lp,nw,ag,lw,ln,ln',ov2,st2,ag0,ag1,q1,q2]
theorem NB {G p0 p1 x a b:D} (h0:cO [G,p0,x]=.ok a) (h1:cO [G,p1,x]=.ok b):k_ [G,.tup [p0,p1],x]=.ok (.tup [a,b]):=by
 show outD (uG [some (.arg G),some (.arg (.tup [p0,p1])),some (.arg x)])=_;unfold uG;push_cast [h0,h1]
theorem Jh {p0 p1 q0 q1 a b:D} (h0:cZ [p0,q0]=.ok a) (h1:cZ [p1,q1]=.ok b):jk [.tup [p0,p1],.tup [q0,q1]]=.ok (.tup [a,b]):=by
 show outD (uC [some (.arg (.tup [p0,p1])),some (.arg (.tup [q0,q1]))])=_;unfold uC;push_cast [h0,h1]
theorem Ji {G p0 p1 a b:D} {k:Int} (ln:bI [G]=.ok (.int k)) (h0:cN [p0,.int k]=.ok a) (h1:cN [p1,.int k]=.ok b):m6 [G,.tup [p0,p1]]=.ok (.tup [a,b]):=by
 show outD (uv [some (.arg G),some (.arg (.tup [p0,p1]))])=_;unfold uv;push_cast [ln,h0,h1]
section
variable {rs rs':List (List Int)} {F F':OF} {of:List Int->F.C} {of':List Int->F'.C} {e:F.C->F'.C} {dz:D} {z:F'.C} {N E:Nat}
theorem DP (T:Tow rs F of) (l2:rs.length<=2) (hr:∀r∈rs,Bd 10 r) {pa pb pc qu qs:Nat} {l0 l1 l2' c0 c1 s:D} {a b c u v S:F.C} (ha:Nm of rs.length pa l0 a) (hb:Nm of rs.length pb l1 b) (hc:Nm of rs.length pc l2' c) (hu:Nm of rs.length qu c0 u) (hv:Nm of rs.length qu c1 v) (hs:Nm of rs.length qs s S)
  (hn:2 * (pa + pb) + 67 + qs + 33 + 2 * (pa + pb + 2 * qu + pc + 68) + 33 + 1<=8000) :
  ∃n h w,Wx (RT rs) l0 l1 l2' c0 c1 s n h w/\Nm of rs.length (2 * (pa + pb) + 67) n (a * a + b * b)/\Nm of rs.length (pa + pb + 2 * qu + pc + 68) h (c - (a * u + b * v))/\Nm of rs.length (2 * (pa + pb) + 67 + qs + 33 + 2 * (pa + pb + 2 * qu + pc + 68) + 33 + 1) w (S * (a * a + b * b) - (c - (a * u + b * v)) * (c - (a * u + b * v))):=by
 have l3:rs.length<=3:=by omega
 obtain ⟨_,e33⟩:=wX (p:=0) l2;obtain ⟨n,en,hn1⟩:=MF T l3 hr (r1:=[l2']) (r2:=[l2']) ha hb ha hb (by omega);obtain ⟨sp,es,hsp⟩:=MF T l3 hr (r1:=[l2']) (r2:=[s]) ha hb hu hv (by omega);have hn1:=hn1.mono (show _<=2 * (pa + pb) + 67 by omega);obtain ⟨h,eh,hh⟩:=pG T l3 hc hsp (by omega);have hh:=hh.mono (show _<=pa + pb + 2 * qu + pc + 68 by omega);obtain ⟨t1,e1,h1⟩:=eV T l3 hr hs hn1 (by omega);obtain ⟨t2,e2,h2⟩:=eV T l3 hr hh hh (by omega);obtain ⟨w,ew,hw⟩:=pG T l3 h1 h2 (by omega);exact ⟨n,h,w,⟨en,⟨sp,es,eh⟩,t1,t2,e1,e2,ew⟩,hn1,hh,hw.mono (by omega)⟩
theorem lo' (T:Tow rs F of) (l2:rs.length<=2) (hr:∀r∈rs,Bd 10 r) {pa qu ph pn:Nat} {l0 l1 c0 c1 n h:D} {a b u v nv hv':F.C} (ha:Nm of rs.length pa l0 a) (hb:Nm of rs.length pa l1 b) (hu:Nm of rs.length qu c0 u) (hv:Nm of rs.length qu c1 v) (hh:Nm of rs.length ph h hv') (hn:Nm of rs.length pn n nv) (n0:nv≠0) (hl:qu + pa + ph + (7 * pn + 154) + 67<=8000) :
  ∃q a0 a1 f0 f1,dC [RT rs,h,n]=.ok q/\k_ [RT rs,.tup [l0,l1],q]=.ok (.tup [a0,a1])/\jk [.tup [c0,c1],.tup [a0,a1]]=.ok (.tup [f0,f1])/\Nm of rs.length (qu + pa + ph + (7 * pn + 154) + 67) f0 (u + a * (hv' / nv))/\Nm of rs.length (qu + pa + ph + (7 * pn + 154) + 67) f1 (v + b * (hv' / nv)):=by
 have l3:rs.length<=3:=by omega
 obtain ⟨o,e33⟩:=wX (p:=pn) l2;obtain ⟨q,eq,hq⟩:=jU T l3 hr hh hn n0 (by omega);obtain ⟨a0,e0,h0⟩:=eV T l3 hr ha hq (by omega);obtain ⟨a1,e1,h1⟩:=eV T l3 hr hb hq (by omega);obtain ⟨f0,g0,k0⟩:=eU T l3 hu h0 (by omega);obtain ⟨f1,g1,k1⟩:=eU T l3 hv h1 (by omega);exact ⟨q,a0,a1,f0,f1,eq,NB e0 e1,Jh g0 g1,k0.mono (by omega),k1.mono (by omega)⟩
theorem op' (G:Gr of rs of' rs' e dz z N E) (T:Tow rs F of) (l2:rs.length<=2) (hr:∀r∈rs,Bd 10 r) {pa qu ph pn pw:Nat} {l0 l1 l2' c0 c1 s n h w:D} {a b u v nv hv' wv:F.C} (W:Wx (RT rs) l0 l1 l2' c0 c1 s n h w) (ha:Nm of rs.length pa l0 a) (hb:Nm of rs.length pa l1 b) (hu:Nm of rs.length qu c0 u) (hv:Nm of rs.length qu c1 v) (hh:Nm of rs.length ph h hv') (hn:Nm of rs.length pn n nv) (n0:nv≠0)
  (hw:Nm of rs.length pw w wv) (hpw:pw<=8000) (w0:0<=wv) (gr:fU [RT rs,w]=.ok (.tup [RT rs',dz])) (hl:qu + pa + ph + (7 * pn + 154) + 67<=8000) (wz:wv=0) :
  ∃g0 g1,fV [RT rs,.tup [l0,l1,l2'],.tup [c0,c1,s]]=.ok (.tup [RT rs',.lst [.tup [g0,g1]]])/\Nm of' rs'.length (qu + pa + ph + (7 * pn + 154) + 67) g0 (e (u + a * (hv' / nv)))/\Nm of' rs'.length (qu + pa + ph + (7 * pn + 154) + 67) g1 (e (v + b * (hv' / nv))):=by
 have l3:rs.length<=3:=by omega
 obtain ⟨q,a0,a1,f0,f1,ov,st,pp,h0,h1⟩:=lo' T l2 hr ha hb hu hv hh hn n0 hl;have sg:=jT T l3 hr hw (mO l3 (by omega));rw [sgn_0.mpr wz] at sg;obtain ⟨g0,i0,_,j0⟩:=G.lf h0;obtain ⟨g1,i1,_,j1⟩:=G.lf h1;have nw:gJ [w]=.ok (.bl true):=Fy (cs' T l3 hw) wz;exact ⟨g0,g1,Vp W sg (by decide) gr ov st pp (Ji (bS' rs') i0 i1) nw,j0,j1⟩
theorem NK (G:Gr of rs of' rs' e dz z N E) (T:Tow rs F of) (l2:rs.length<=2) (hr:∀r∈rs,Bd 10 r) {pa qu ph pn pw:Nat} {l0 l1 l2' c0 c1 s n h w:D} {a b u v nv hv' wv:F.C} (W:Wx (RT rs) l0 l1 l2' c0 c1 s n h w) (ha:Nm of rs.length pa l0 a) (hb:Nm of rs.length pa l1 b) (hu:Nm of rs.length qu c0 u) (hv:Nm of rs.length qu c1 v) (hh:Nm of rs.length ph h hv') (hn:Nm of rs.length pn n nv) (n0:nv≠0)
  (hw:Nm of rs.length pw w wv) (hpw:pw<=8000) (w0:0 < wv) (gr:fU [RT rs,w]=.ok (.tup [RT rs',dz])) {K:Nat} (hK:qu + pa + ph + (7 * pn + 154) + 67 + (pa + (N + (7 * pn + 154) + E) + E) + 1<=K) (hK8:K<=8000) (hpn:15 * pn + 385 + E<=8000) :
  ∃x1 y1 x2 y2,fV [RT rs,.tup [l0,l1,l2'],.tup [c0,c1,s]]=.ok (.tup [RT rs',.lst [.tup [x1,y1],.tup [x2,y2]]])
   /\ Nm of' rs'.length K x1 (e (u + a * (hv' / nv)) + -(e b * (z / e nv)))/\Nm of' rs'.length K y1 (e (v + b * (hv' / nv)) + -(e (-a) * (z / e nv)))/\Nm of' rs'.length K x2 (e (u + a * (hv' / nv)) + e b * (z / e nv))/\Nm of' rs'.length K y2 (e (v + b * (hv' / nv)) + e (-a) * (z / e nv)):=by
 have l3:rs.length<=3:=by omega
 obtain ⟨q,a0,a1,f0,f1,ov,st,pp,h0,h1⟩:=lo' T l2 hr ha hb hu hv hh hn n0 (by omega);have sg:=jT T l3 hr hw (mO l3 (by omega));rw [sgn_p.mpr w0] at sg;obtain ⟨g0,i0,_,j0⟩:=G.lf h0;obtain ⟨g1,i1,_,j1⟩:=G.lf h1;have wn:wv≠0:=Fz w0;have nw:gJ [w]=.ok (.bl false):=Ax (cs' T l3 hw) wn;obtain ⟨m0,ag,hm⟩:=n6 T l3 ha;obtain ⟨w0',k0,_,hw0⟩:=G.lf hb;obtain ⟨w1',k1,_,hw1⟩:=G.lf hm;obtain ⟨t,n',en',et,ht⟩:=G.ov hn n0 hpn (by omega);obtain ⟨s0,es0,hs0⟩:=G.tm hw0 ht (by omega);obtain ⟨s1,es1,hs1⟩:=G.tm hw1 ht (by omega);obtain ⟨b0,eb0,hb0⟩:=n6 G.T G.l3 hs0;obtain ⟨b1,eb1,hb1⟩:=n6 G.T G.l3 hs1;obtain ⟨x1,ex1,hx1⟩:=eU G.T G.l3 j0 hb0 (by omega);obtain ⟨y1,ey1,hy1⟩:=eU G.T G.l3 j1 hb1 (by omega);obtain ⟨x2,jq,hx2⟩:=eU G.T G.l3 j0 hs0 (by omega);obtain ⟨y2,ey2,hy2⟩:=eU G.T G.l3 j1 hs1 (by omega);exact ⟨x1,y1,x2,y2,Vq W sg (by decide) gr ov st pp (Ji (bS' rs') i0 i1) nw ag (Ji (bS' rs') k0 k1) (bS' rs') en' et (NB es0 es1) eb0 eb1 (Jh ex1 ey1) (Jh jq ey2),hx1.mono (by omega),hy1.mono (by omega),hx2.mono (by omega),hy2.mono (by omega)⟩
end
section
variable {rs rs':List (List Int)} {F F':OF} {of:List Int->F.C} {of':List Int->F'.C} {e:F.C->F'.C} {dz:D} {z:F'.C} {N E:Nat}
theorem Jj (G:Gr of rs of' rs' e dz z N E) {p0 p1 p2 q:Nat} {ln pt d0 d1 d2 e1 e2:D} {a b c x y:F'.C} (i0:bA ln (.int 0)=.ok d0) (i1:bA ln (.int 1)=.ok d1) (i2:bA ln (.int 2)=.ok d2) (j0:bA pt (.int 0)=.ok e1) (j1:bA pt (.int 1)=.ok e2) (h0:Rw of' rs'.length p0 d0 a) (h1:Rw of' rs'.length p1 d1 b) (h2:Rw of' rs'.length p2 d2 c) (k0:Rw of' rs'.length q e1 x) (k1:Rw of' rs'.length q e2 y) (hn:p0 + q + E + (p1 + q + E) + 1 + p2 + 1<=100000) :
  ∃t,n_ [RT rs',ln,pt]=.ok t/\Rw of' rs'.length (p0 + q + E + (p1 + q + E) + 1 + p2 + 1) t (a * x + b * y - c):=by
 obtain ⟨w1,ew1,hw1⟩:=G.pr h0 k0 (by omega);obtain ⟨w2,ew2,hw2⟩:=G.pr h1 k1 (by omega);obtain ⟨w,ew,hw⟩:=hQ' G.T G.l3 hw1 hw2 (by omega);obtain ⟨t,et,ht⟩:=wU G.T G.l3 hw h2 (by omega);refine ⟨t,?_,ht⟩;show outD (sG [some (.arg (RT rs')),some (.arg ln),some (.arg pt),none])=_;unfold sG;push_cast [i0,i1,i2,j0,j1,ew1,ew2,ew,et]
theorem Vr (G:Gr of rs of' rs' e dz z N E) {p q:Nat} {d1 d2 e1 e2:D} {r1 r2:List D} {u1 u2 v1 v2:F'.C} (a1:Rw of' rs'.length p d1 u1) (a2:Rw of' rs'.length p d2 u2) (b1:Rw of' rs'.length q e1 v1) (b2:Rw of' rs'.length q e2 v2) (hn:4 * (p + q + 1) + 2 * E + 1<=100000) :
  ∃t,pJ [RT rs',.tup (d1 :: d2 :: r1),.tup (e1 :: e2 :: r2)]=.ok t/\Rw of' rs'.length (4 * (p + q + 1) + 2 * E + 1) t ((u1 - v1) * (u1 - v1) + (u2 - v2) * (u2 - v2)):=by
 obtain ⟨x,ex,hx⟩:=wU G.T G.l3 a1 b1 (by omega);obtain ⟨y,ey,hy⟩:=wU G.T G.l3 a2 b2 (by omega);obtain ⟨xx,exx,hxx⟩:=G.pr hx hx (by omega);obtain ⟨yy,eyy,hyy⟩:=G.pr hy hy (by omega);obtain ⟨t,et,ht⟩:=hQ' G.T G.l3 hxx hyy (by omega);refine ⟨t,?_,ht.mono (by omega)⟩;show outD (mR [some (.arg (RT rs')),some (.arg (.tup (d1 :: d2 :: r1))),some (.arg (.tup (e1 :: e2 :: r2))),none,none])=_;unfold mR;push_cast [ex,ey,exx,eyy,et]
theorem Jk {x b:F'.C} (b0:b≠0) (h:0=x / b):x=0:=by grind
theorem DQ (G:Gr of rs of' rs' e dz z N E) {p:Nat} {t:D} (h:Rw of' rs'.length p t 0):∃x b,t=num x b/\dF [RT rs',TI x]=.ok (.int 0):=by
 obtain ⟨x,b,rfl,pb,lx,_,_,ex⟩:=h;exact ⟨x,b,rfl,G.s0 lx (Jk (fL G.T (show b≠0 by omega)) ex)⟩
theorem or' (G:Gr of rs of' rs' e dz z N E) {p q:Nat} {d0 d1 d2 e1 e2:D} {a b c x y:F'.C} (h0:Nm of' rs'.length p d0 a) (h1:Nm of' rs'.length p d1 b) (h2:Nm of' rs'.length p d2 c) (k0:Nm of' rs'.length q e1 x) (k1:Nm of' rs'.length q e2 y) (hn:3 * p + 2 * q + 2 * E + 2<=100000) (h:a * x + b * y - c=0) :
  jF [RT rs',.tup [d0,d1,d2],.tup [e1,e2]]=.ok (.bl true):=by
 obtain ⟨t,et,ht⟩:=Jj G (ix_tup0 d0 [d1,d2]) (ix_tup1 d0 d1 [d2]) (ix_tup2 d0 d1 d2 []) (ix_tup0 e1 [e2]) (ix_tup1 e1 e2 []) h0.rw h1.rw h2.rw k0.rw k1.rw (by omega);rw [h] at ht;obtain ⟨x,b,rfl,sg⟩:=DQ G ht;show outD (uI [some (.arg (RT rs')),some (.arg (.tup [d0,d1,d2])),some (.arg (.tup [e1,e2]))])=_;unfold uI;push_cast [et,sg]
theorem NP (G:Gr of rs of' rs' e dz z N E) {p q:Nat} {c0 c1 s e1 e2:D} {u v S x y:F'.C} (h0:Nm of' rs'.length p c0 u) (h1:Nm of' rs'.length p c1 v) (h2:Nm of' rs'.length p s S) (k0:Nm of' rs'.length q e1 x) (k1:Nm of' rs'.length q e2 y) (hn:5 * p + 4 * q + 2 * E + 6<=100000) (h:(x - u) * (x - u) + (y - v) * (y - v) - S=0) :
  jE [RT rs',.tup [c0,c1,s],.tup [e1,e2]]=.ok (.bl true):=by
 obtain ⟨f,ef,hf⟩:=Vr G (r1:=[]) (r2:=[s]) k0.rw k1.rw h0.rw h1.rw (by omega);obtain ⟨t,et,ht⟩:=wU G.T G.l3 hf h2.rw (by omega);rw [h] at ht;obtain ⟨x,b,rfl,sg⟩:=DQ G ht;show outD (uH [some (.arg (RT rs')),some (.arg (.tup [c0,c1,s])),some (.arg (.tup [e1,e2]))])=_;unfold uH;push_cast [ef,et,sg]
theorem Jl {a b c u v S:F.C}:S * (a * a + b * b) - (a * u + b * v - c) * (a * u + b * v - c)=S * (a * a + b * b) - (c - (a * u + b * v)) * (c - (a * u + b * v)):=by grind
theorem Jo (T:Tow rs F of) (l2:rs.length<=2) (hr:∀r∈rs,Bd 10 r) {pa pc qs pw:Nat} {ln l0 l1 l2' c0 c1 s w:D} {a b c u v S:F.C} (i0:bA ln (.int 0)=.ok l0) (i1:bA ln (.int 1)=.ok l1) (i2:bA ln (.int 2)=.ok l2') (ha:Nm of rs.length pa l0 a) (hb:Nm of rs.length pa l1 b) (hc:Nm of rs.length pc l2' c) (hu:Nm of rs.length qs c0 u) (hv:Nm of rs.length qs c1 v) (hs:Nm of rs.length qs s S)
  (hw:Nm of rs.length pw w (S * (a * a + b * b) - (c - (a * u + b * v)) * (c - (a * u + b * v)))) (hn:8 * pa + 2 * pc + 5 * qs + 400<=8000):ni [RT rs,ln,.tup [c0,c1,s]]=.ok w:=by
 have l3:rs.length<=3:=by omega
 obtain ⟨_,e33⟩:=wX (p:=0) l2;have G:=Je T l2 hr ha;obtain ⟨x1,e1,h1⟩:=G.pr ha.rw ha.rw (by omega);obtain ⟨x2,e2,h2⟩:=G.pr hb.rw hb.rw (by omega);obtain ⟨bo,e3,h3⟩:=hQ' T l3 h1 h2 (by omega);obtain ⟨of_,e4,h4⟩:=Jj G i0 i1 i2 (ix_tup0 c0 [c1,s]) (ix_tup1 c0 c1 [s]) ha.rw hb.rw hc.rw hu.rw hv.rw (by omega);obtain ⟨x3,e5,h5⟩:=G.pr hs.rw h3 (by omega);obtain ⟨x4,e6,h6⟩:=G.pr h4 h4 (by omega);obtain ⟨fo,e7,h7⟩:=wU T l3 h5 h6 (by omega);have h7:=h7.mono (show _<=8000 by omega);rw [Jl] at h7;obtain ⟨y,d,rfl,pd,ly,b_y,bd,ey⟩:=h7;obtain ⟨t,et,ht⟩:=Fx T l3 ly b_y pd bd (Nat.le_refl _) (.inr rfl);rw [<- ey] at ht;have:=iy T ht hw;subst this;show outD (m_ [some (.arg (RT rs)),some (.arg ln),some (.arg (.tup [c0,c1,s])),none,none,none])=_;unfold m_;push_cast [i0,i1,e1,e2,e3,e4,e5,e6,e7,et]
end
theorem F_ (L:List (List Int)):dD 8 (.tup (L.map TI))=true:=by
 show (L.map TI).all (dD 7)=true;rw [all_map,all_eq_true]; intro x _; exact yQ 6 x
theorem Jp:∀L:List (List Int),PyData.eqvAll (eE (L.map TI)) (eE (L.map TI))=true
 | []=>rfl
 | x :: L=>by
  have e:eE ((x :: L).map TI)=cI (TI x) :: eE (L.map TI):=rfl;have e2:PyData.eqv (cI (TI x)) (cI (TI x))=true:=by simp only [cI,Hs,PyData.eqv,Es]; simp
  rw [e];simp only [PyData.eqvAll,e2,Jp L,Bool.and_true]
theorem Vs (L:List (List Int)):cV (.tup (L.map TI)) (.tup (L.map TI))=.ok (.bl true):=by
 unfold cV;rw [if_pos ⟨F_ L,F_ L⟩];simp only [cI,PyData.eqv,Jp]
theorem pz' (L:List (List Int)):iK (.tup (L.map TI)) (.tup (L.map TI))=.ok (.bl false):=by
 unfold iK;rw [if_pos ⟨F_ L,F_ L⟩];simp only [cI,PyData.eqv,Jp];rfl
theorem Vt (x:List Int):iK (TI x) (TI x)=.ok (.bl false):=by
 unfold iK;rw [if_pos ⟨yQ 7 x,yQ 7 x⟩];simp only [cI,Hs,PyData.eqv,Es];simp
theorem NQ:∀x:List Int,bools (x.map fun _=>D.bl true)=some (x.map fun _=>true)
 | []=>rfl
 | a :: x=>by
  have e:bools (D.bl true :: x.map fun _=>D.bl true)=(bools (x.map fun _=>D.bl true)).map (true :: ·):=rfl;rw [map_cons,e,NQ x]; rfl
theorem Vu (x:List Int):iG [.lst (x.map fun _=>D.bl true)]=.ok (.bl true):=by
 show (match bools (x.map fun _=>D.bl true) with | some bs=>Res.ok (D.bl (bs.all id)) | none=>.stuck)=_
 rw [NQ];simp
theorem Vv (x:List Int) (h:x.length<=8):uy [TI x,.int (x.length:Int)]=.ok (.bl true):=by
 show outD (ux [some (.arg (TI x)),some (.arg (.int (x.length:Int)))])=_;unfold ux;have it1:∀ds,iM is_tuple (.tup ds)=.ok (.bl true):=fun _=>rfl;have ln:bI [TI x]=.ok (.int (x.length:Int)):=by
  show Res.ok (D.int ((x.map D.int).length:Int))=_;rw [length_map]
 have cp:aO 1 [] (bF 0) (aq (aj (ak 0) ‹""›) l_) ‹"x"› [some (SV.arg (TI x)),some (.arg (.int (x.length:Int)))]=.ok (.lst (x.map fun _=>D.bl true)) :=
  qR (rest:=[]) (g:=fun _=>D.bl true) rfl rfl (Nat.le_trans h (by decide)) fun t _=>rfl
 simp only [ap_seq,ap_if,ap_orT,ap_notT,ap_bT,ap_bF,ap_two,ap_cons,sl0,sl1,vw_arg,bnd_ok,it1,ln,truth_bl,neI,bool_ok,decide_true,Bool.not_true,ont_ok,↓reduceIte,Bool.false_eq_true,sq_nxt,ap_ret,cp,Vu,on_ok,out_ret]
theorem NT {n:Nat} (h:n<=3):bA (.lst [.int 1,.int 2,.int 4,.int 8]) (.int (n:Int))=.ok (.int ((2 ^ n:Nat):Int)):=by
 have:n=0\/n=1\/n=2\/n=3:=by omega
 rcases this with z | z | z | z <;> subst z <;> rfl
section
variable {rs rs':List (List Int)} {F F':OF} {of:List Int->F.C} {of':List Int->F'.C} {e:F.C->F'.C} {dz:D} {z:F'.C} {N E:Nat}
theorem Jq (T:Tow rs F of) (h3:rs.length<=3) {p1 p2:Nat} {d1 d2:D} {u1 u2:F.C} (a1:Nm of rs.length p1 d1 u1) (a2:Nm of rs.length p2 d2 u2):mQ [.tup [d1,d2],.int 2,.int ((2 ^ rs.length:Nat):Int)]=.ok (.bl true):=by
 have i1:=Mu T a1;have i2:=Mu T a2;show outD (rZ [some (.arg (.tup [d1,d2])),some (.arg (.int 2)),some (.arg (.int ((2 ^ rs.length:Nat):Int)))])=_;unfold rZ;have it1:∀ds,iM Bk.is_tuple (.tup ds)=.ok (.bl true):=fun _=>rfl;have cc:aO 1 [2] (bF 0) (aq ‹"f"› kI) ‹"x"› [some (.arg (.tup [d1,d2])),some (.arg (.int 2)),some (.arg (.int ((2 ^ rs.length:Nat):Int)))]=.ok (.lst [.bl true,.bl true]):=by
  have el:∀d,kI [d,.int ((2 ^ rs.length:Nat):Int)]=.ok (.bl true)->d_ (bF 0) (aq ‹"f"› kI) [none,some (.arg (.int ((2 ^ rs.length:Nat):Int)))] d=.ok (.bl true):=fun d h=>by
   show (match aq ‹"f"› kI [some (.val d),some (.arg (.int ((2 ^ rs.length:Nat):Int)))] with | .ok z=>Res.ok z | _=>.stuck)=_
   push_cast [h]
  unfold aO;have hi:bindL (ak 0) aM [some (.arg (.tup [d1,d2])),some (.arg (.int 2)),some (.arg (.int ((2 ^ rs.length:Nat):Int)))]=.ok [d1,d2]:=rfl;have hc:bV 1 [2] [some (.arg (.tup [d1,d2])),some (.arg (.int 2)),some (.arg (.int ((2 ^ rs.length:Nat):Int)))]=[none,some (.arg (.int ((2 ^ rs.length:Nat):Int)))]:=rfl;rw [hi,Res.bind_ok,hc,mapR,el d1 i1,Res.bind_ok,mapR,el d2 i2,Res.bind_ok];rfl
 have al:iG [.lst [.bl true,.bl true]]=.ok (.bl true):=rfl;push_cast [it1,cc,al]
theorem ov' (rs:List (List Int)):cutD (RT rs) none (some (rs.length:Int))=.ok (RT rs):=by
 have:=yS (rs.reverse.map TI) rs.length;rw [take_of_length_le (by simp)] at this;exact this
theorem Vw (r:List Int) (rs:List (List Int)):cutD (RT (r :: rs)) none (some (rs.length:Int))=.ok (RT rs):=by
 have:=yS ((r :: rs).reverse.map TI) rs.length;rw [reverse_cons,map_append,take_append_of_le_length (by simp),take_of_length_le (by simp)] at this;rw [<- this];show cutD (.tup ((r :: rs).reverse.map TI)) _ _=_;rw [reverse_cons,map_append]
structure Sct (rs rs':List (List Int)):Prop where
 cut:cutD (RT rs') none (some (rs.length:Int))=.ok (RT rs)
 df:((rs'.length:Int) - (rs.length:Int)=0/\¬((rs.length:Int) < (rs'.length:Int)))\/((rs'.length:Int) - (rs.length:Int)=1/\(rs.length:Int) < (rs'.length:Int)/\∃r,bA (RT rs') (.int (-1))=.ok (TI r)/\uy [TI r,.int ((2 ^ rs'.length / 2:Nat):Int)]=.ok (.bl true))
theorem Vx (rs:List (List Int)):Sct rs rs:=⟨ov' rs,.inl ⟨by omega,by omega⟩⟩
theorem Vy {rs:List (List Int)} {r:List Int} (lr:r.length=2 ^ rs.length) (l2:rs.length<=2):Sct rs (r :: rs):=by
 have e8:=iC (k:=rs.length) (by omega);refine ⟨Vw r rs,.inr ⟨by rw [length_cons]; omega,by rw [length_cons]; omega,r,wG r rs,?_⟩⟩;have h:2 ^ (r :: rs).length / 2=r.length:=by rw [length_cons,Nat.pow_succ,lr]; omega
 rw [h]; exact Vv r (by omega)
theorem NZ {rs rs':List (List Int)} (S:Sct rs rs') (l3:rs'.length<=3) {pts:List D} {k:Nat} (hk:pts.length=k) (h12:(k=1/\∃p,pts=[p])\/(k=2/\∃p q,pts=[p,q]/\cV p q=.ok (.bl false))) (hp:∀p∈pts,mQ [p,.int 2,.int ((2 ^ rs'.length:Nat):Int)]=.ok (.bl true)) :
  qm [.tup [RT rs',.lst pts],RT rs,.tup [.int 0,.int 1]]=.ok (.bl true):=by
 have i4:=NT l3;have ln:=bS' rs;have ln':=bS' rs';have ne:=pz' rs.reverse;have cut:=S.cut;have it1:∀ds,iM Bk.is_tuple (.tup ds)=.ok (.bl true):=fun _=>rfl;have it2:iM Bk.is_tuple (RT rs')=.ok (.bl true):=rfl;have il:∀ds,iM Bk.is_list (.lst ds)=.ok (.bl true):=fun _=>rfl;have n0:dM (.int 0) (.tup [.int 0,.int 1])=.ok (.bl false):=rfl;have n1:dM (.int 1) (.tup [.int 0,.int 1])=.ok (.bl false):=rfl;have m1:dM (.int 1) (.tup [.int 1,.int 2])=.ok (.bl false):=rfl;have m2:dM (.int 2) (.tup [.int 1,.int 2])=.ok (.bl false):=rfl;have hf:=bs' (2 ^ rs'.length);have el:∀p∈pts,d_ (bF 0) (aq ‹"T"› mQ) [none,some (.arg (.int ((2 ^ rs'.length:Nat):Int)))] p=.ok (.bl true):=fun p hp'=>by
  have:=hp p hp';show (match aq ‹"T"› mQ [some (.val p),some (.arg (.int ((2 ^ rs'.length:Nat):Int)))] with | .ok z=>Res.ok z | _=>.stuck)=_
  push_cast [this]
 have hc:bV 1 [3] [some (.arg (.tup [RT rs',.lst pts])),some (.arg (RT rs)),some (.arg (.tup [.int 0,.int 1])),some (.val (.int ((2 ^ rs'.length:Nat):Int)))]=[none,some (.arg (.int ((2 ^ rs'.length:Nat):Int)))]:=rfl;have hi:bindL ‹"q"› aM [some (.arg (.tup [RT rs',.lst pts])),some (.arg (RT rs)),some (.arg (.tup [.int 0,.int 1])),some (.val (.int ((2 ^ rs'.length:Nat):Int)))]=.ok pts:=rfl;have fin:∃bs,aO 1 [3] (bF 0) (aq ‹"T"› mQ) (bindL ‹"q"› aM) [some (.arg (.tup [RT rs',.lst pts])),some (.arg (RT rs)),some (.arg (.tup [.int 0,.int 1])),some (.val (.int ((2 ^ rs'.length:Nat):Int)))]=.ok (.lst bs)/\iG [.lst bs]=.ok (.bl true):=by
  unfold aO;rw [hi,Res.bind_ok,hc];rcases h12 with ⟨_,p,rfl⟩ | ⟨_,p,q,rfl,_⟩
  ·exact ⟨[.bl true],by rw [mapR,el p (by simp),Res.bind_ok]; rfl,rfl⟩
  ·exact ⟨[.bl true,.bl true],by rw [mapR,el p (by simp),Res.bind_ok,mapR,el q (by simp),Res.bind_ok]; rfl,rfl⟩
 obtain ⟨bs,cc,al⟩:=fin;have df:=S.df;show outD (uD [some (.arg (.tup [RT rs',.lst pts])),some (.arg (RT rs)),some (.arg (.tup [.int 0,.int 1])),none])=_;unfold uD;generalize ((2 ^ rs'.length:Nat):Int)=M at *;generalize (rs.length:Int)=L at *;generalize (rs'.length:Int)=L' at *;have ne':iK (RT rs) (RT rs)=.ok (.bl false):=ne;generalize RT rs=G at *;generalize RT rs'=G' at *;rcases df with ⟨d1,d2⟩ | ⟨d1,d2,r,d3,d4⟩
 ·rcases h12 with ⟨rfl,p,rfl⟩ | ⟨rfl,p,q,rfl,eq⟩
  ·push_cast [it1,it2,ln,ln',cut,ne',d1,d2,n0,i4,il,m1,cc,al]
  ·push_cast [it1,it2,ln,ln',cut,ne',d1,d2,n0,i4,il,m2,eq,cc,al]
 ·rcases h12 with ⟨rfl,p,rfl⟩ | ⟨rfl,p,q,rfl,eq⟩
  ·push_cast [it1,it2,ln,ln',cut,ne',d1,d2,n1,i4,hf,d3,d4,il,m1,cc,al]
  ·push_cast [it1,it2,ln,ln',cut,ne',d1,d2,n1,i4,hf,d3,d4,il,m2,eq,cc,al]
end
theorem N5 {d0 d1 d2 e0 e1 e2:D} {M:Int} (h0:gK [d0,.int M]=.ok e0) (h1:gK [d1,.int M]=.ok e1) (h2:gK [d2,.int M]=.ok e2):oW [.tup [d0,d1,d2],.int M]=.ok (.tup [e0,e1,e2]):=by
 show outD (uw [some (.arg (.tup [d0,d1,d2])),some (.arg (.int M))])=_;unfold uw;have el:∀d x,gK [d,.int M]=.ok x->d_ (bF 0) (aq ‹"f"› gK) [none,some (.arg (.int M))] d=.ok x:=fun d x h=>by
  show (match aq ‹"f"› gK [some (.val d),some (.arg (.int M))] with | .ok z=>Res.ok z | _=>.stuck)=_
  push_cast [h]
 have cc:aO 1 [1] (bF 0) (aq ‹"f"› gK) ‹"x"› [some (.arg (.tup [d0,d1,d2])),some (.arg (.int M))]=.ok (.lst [e0,e1,e2]):=by
  unfold aO;have hi:bindL (ak 0) aM [some (.arg (.tup [d0,d1,d2])),some (.arg (.int M))]=.ok [d0,d1,d2]:=rfl;have hc:bV 1 [1] [some (.arg (.tup [d0,d1,d2])),some (.arg (.int M))]=[none,some (.arg (.int M))]:=rfl;rw [hi,Res.bind_ok,hc,mapR,el d0 e0 h0,Res.bind_ok,mapR,el d1 e1 h1,Res.bind_ok,mapR,el d2 e2 h2,Res.bind_ok];rfl
 push_cast [cc]
theorem N6 {G G' ln' rg' w found:D} {m:Int}:∀(pts:List D) (s6:Option SV),(∀p∈pts,jF [G',ln',p]=.ok (.bl true)/\jE [G',rg',p]=.ok (.bl true))->bA found (.int 0)=.ok G'->∃s6',di (bF 6) (bZ (jJ (dI (aF (aq (aj ‹"v"› (aj (ak 1) ‹"z"›)) jF) bf)) (dI (aF (aq (aj ‹"v"› (aj (ak 2) ‹"z"›)) jE) bf))) (aH (fun _=>.ok (.bl false))) Out.nxt) pts [some (.val G),some (.val ln'),some (.val rg'),some (.val w),some (.val found),some (.val (.int m)),s6,none,none]=.nxt [some (.val G),some (.val ln'),some (.val rg'),some (.val w),some (.val found),some (.val (.int m)),s6',none,none]
 | [],s6,_,_=>⟨s6,Mz⟩
 | p :: pts,s6,h,i0=>by
  obtain ⟨h1,h2⟩:=h p (by simp);obtain ⟨s6',ih⟩:=N6 pts (some (.val p)) (fun q hq=>h q (mem_cons_of_mem _ hq)) i0;refine ⟨s6',Eq.trans (Fw (δ1:=[some (.val G),some (.val ln'),some (.val rg'),some (.val w),some (.val found),some (.val (.int m)),some (.val p),none,none]) rfl ?_) ih⟩
  push_cast [i0,h1,h2]
structure Scr (G G' xs:D) (b L L':Int):Prop where
 ln:bI [G]=.ok (.int L)
 ln':bI [G']=.ok (.int L')
 rt:¬(L < L')\/(L < L'/\∃r,bA G' (.int (-1))=.ok r/\fM [.int b,xs]=.ok r/\iK r r=.ok (.bl false))
theorem N7 {G G' ln rg ln' rg' xs:D} {b L L' M k:Int} {pts:List D} (C:Scr G G' xs b L L') (hm:fV [G,ln,rg]=.ok (.tup [G',.lst pts])) (hp:qm [.tup [G',.lst pts],G,.tup [.int 0,.int 1]]=.ok (.bl true)) (i4:bA (.lst [.int 1,.int 2,.int 4,.int 8]) (.int L')=.ok (.int M))
  (al:oW [ln,.int M]=.ok ln') (ar:oW [rg,.int M]=.ok rg') (on:∀p∈pts,jF [G',ln',p]=.ok (.bl true)/\jE [G',rg',p]=.ok (.bl true)) (sg:dF [G,xs]=.ok (.int k))
  (fin:(k=0/\(∃p,pts=[p])/\cV G' G=.ok (.bl true))\/(k≠0/\∃p q w0 w1 l0 l1 x1 x2 y,pts=[p,q]/\sE [p,q]=.ok (.tup [w0,w1])/\bA ln' (.int 0)=.ok l0/\bA ln' (.int 1)=.ok l1/\fO [G',l1,w0]=.ok x1/\fO [G',l0,w1]=.ok x2/\∃c,iI [x1,x2]=.ok (.tup [y,c])/\dF [G',y]=.ok (.int 1))) :
  uM [G,ln,rg,.tup [xs,.int b]]=.ok (.bl true):=by
 obtain ⟨s6',fo⟩:=N6 (G:=G) (w:=.tup [xs,.int b]) (found:=.tup [G',.lst pts]) (m:=M) pts none on (ix_tup0 _ _);obtain ⟨lG,lG',rt⟩:=C;have th:thaw [some (.arg G),some (.val ln'),some (.val rg'),some (.arg (.tup [xs,.int b])),some (.val (.tup [G',.lst pts])),some (.val (.int M)),none,none,none]=[some (.val G),some (.val ln'),some (.val rg'),some (.val (.tup [xs,.int b])),some (.val (.tup [G',.lst pts])),some (.val (.int M)),none,none,none]:=rfl;have tho:gO (Out.nxt [some (.val G),some (.val ln'),some (.val rg'),some (.val (.tup [xs,.int b])),some (.val (.tup [G',.lst pts])),some (.val (.int M)),s6',none,none])=.nxt [some (.val G),some (.val ln'),some (.val rg'),some (.val (.tup [xs,.int b])),some (.val (.tup [G',.lst pts])),some (.val (.int M)),s6'.map thaw2,none,none]:=rfl;have s2:(bZ (jZ (aF (two (aq (aj ‹"v"› ‹""›) bI) ‹"c"› ‹"A"›) aJ) (aF (two (two ‹"v"› (gF ‹1›) bA) (aq (aj (two (ak 3) ‹1› bA) ‹"I"›) fM) iK) aJ)) (aH (fun _=>.ok (.bl false))) Out.nxt) [some (.arg G),some (.arg ln),some (.arg rg),some (.arg (.tup [xs,.int b])),some (.val (.tup [G',.lst pts])),none,none,none,none]=.nxt [some (.arg G),some (.arg ln),some (.arg rg),some (.arg (.tup [xs,.int b])),some (.val (.tup [G',.lst pts])),none,none,none,none]:=by
  rcases rt with c | ⟨c,r,i,sc,ne⟩
  ·push_cast [lG,lG',c]
  ·push_cast [lG,lG',c,i,sc,ne]
 show outD (uL [some (.arg G),some (.arg ln),some (.arg rg),some (.arg (.tup [xs,.int b])),none,none,none,none,none])=_;unfold uL;rw [ap_seq];simp only [ap_set,ap_bF,ap_cons,bnd_ok,sl0,sl1,sl2,vw_arg,hm,on_ok,st4,sq_nxt];rw [ap_seq];have s1:(bZ (dI (aF (aq ‹"X"› qm) bf)) (aH (fun _=>.ok (.bl false))) Out.nxt) [some (.arg G),some (.arg ln),some (.arg rg),some (.arg (.tup [xs,.int b])),some (.val (.tup [G',.lst pts])),none,none,none,none]=.nxt [some (.arg G),some (.arg ln),some (.arg rg),some (.arg (.tup [xs,.int b])),some (.val (.tup [G',.lst pts])),none,none,none,none]:=by
  push_cast [hp]
 rw [s1,sq_nxt,ap_seq,s2,sq_nxt];rcases fin with ⟨rfl,⟨p,rfl⟩,eg⟩ | ⟨k0,p,q,w0,w1,l0,l1,x1,x2,y,rfl,ew,j0,j1,e1,e2,c,e3,sg'⟩
 ·push_cast [lG',i4,al,ar,th,fo,tho,sg,eg]
 ·push_cast [lG',i4,al,ar,th,fo,tho,sg,k0,ew,j0,j1,e1,e2,e3,sg']
theorem Vz {G ln rg w:D} (nm:fV [G,ln,rg]=.err ⟨"NoMeet",some ("number",w)⟩) (eq:cV w w=.ok (.bl true)):uK [G,ln,rg,w]=.ok (.bl true):=by
 have hx:∀s3:Option SV,((pA (aq ‹"l"› fV)) [some (.arg G),some (.arg ln),some (.arg rg),some (.arg w),s3,none])=.err ⟨"NoMeet",some ("number",w)⟩ [some (.arg G),some (.arg ln),some (.arg rg),some (.arg w),s3,none]:=fun s3=>by
  push_cast [nm]
 show outD (uJ [some (.arg G),some (.arg ln),some (.arg rg),some (.arg w),none,none])=_;unfold uJ;have t:(g8 5 cR (pA (aq ‹"l"› fV)) (aG 4 (ak 5))) [some (.arg G),some (.arg ln),some (.arg rg),some (.arg w),some (.val .non),none]=.nxt [some (.arg G),some (.arg ln),some (.arg rg),some (.arg w),some (.val (.excf "NoMeet" "number" w)),none]:=by
  unfold g8;rw [hx]; rfl
 have i1:∀d,iM dZ (.excf "NoMeet" "number" d)=.ok (.bl true):=fun _=>rfl;have i2:∀d,iM cG (.excf "NoMeet" "number" d)=.ok (.bl true):=fun _=>rfl;have i3:∀d,iM d7 (.excf "NoMeet" "number" d)=.ok (.bl false):=fun _=>rfl;have at_:∀d,pB eG "number" (.excf "NoMeet" "number" d)=.ok d:=fun _=>rfl;rw [ap_seq,ap_set,on_ok,sq_nxt,ap_seq];rw [show ([some (.arg G),some (.arg ln),some (.arg rg),some (.arg w),none,none]:DS).set 4 (some (SV.val .non))=[some (.arg G),some (.arg ln),some (.arg rg),some (.arg w),some (.val .non),none] from rfl,t,sq_nxt]
 push_cast [i1,i2,i3,at_,eq]
theorem VB (a:List Int) (p:Int):dD 6 (num a p)=true:=by
 show ([D.tup (a.map .int),D.int p]:List D).all (dD 5)=true;simp only [all_cons,all_nil,Bool.and_true];rw [show dD 5 (D.tup (a.map .int))=(a.map D.int).all (dD 4) from rfl,yQ]; rfl
theorem ox' (a b:List Int) (p q:Int):dD 7 (.tup [num a p,num b q])=true:=by
 show ([num a p,num b q]:List D).all (dD 6)=true;simp only [all_cons,all_nil,Bool.and_true,VB]
theorem Jr (a b:List Int) (p q:Int):PyData.eqv (cI (.tup [num a p,num b q])) (cI (.tup [num a p,num b q]))=true:=by
 have e:PyData.eqv (cI (.tup [num a p,num b q])) (cI (.tup [num a p,num b q]))=(PyData.eqv (cI (num a p)) (cI (num a p)) && (PyData.eqv (cI (num b q)) (cI (num b q)) && true)):=by
  simp only [cI,eE,PyData.eqv,PyData.eqvAll]
 rw [e,Ab,Ab]; simp
theorem VD (a b:List Int) (p q:Int):cV (.lst [.tup [num a p,num b q]]) (.lst [.tup [num a p,num b q]])=.ok (.bl true):=by
 have ok:dD 8 (.lst [.tup [num a p,num b q]])=true:=by
  show ([.tup [num a p,num b q]]:List D).all (dD 7)=true;simp only [all_cons,all_nil,Bool.and_true,ox']
 unfold cV;rw [if_pos ⟨ok,ok⟩];have e:PyData.eqv (cI (.lst [.tup [num a p,num b q]])) (cI (.lst [.tup [num a p,num b q]]))=(PyData.eqv (cI (.tup [num a p,num b q])) (cI (.tup [num a p,num b q])) && true):=by
  rw [show cI (.lst [.tup [num a p,num b q]])=.list [cI (.tup [num a p,num b q])] from rfl]
  simp only [PyData.eqv,PyData.eqvAll]
 rw [e,Jr]; rfl
theorem VF (a b a' b':List Int) (p q p' q':Int):cV (.lst [.tup [num a p,num b q],.tup [num a' p',num b' q']]) (.lst [.tup [num a p,num b q],.tup [num a' p',num b' q']])=.ok (.bl true):=by
 have ok:dD 8 (.lst [.tup [num a p,num b q],.tup [num a' p',num b' q']])=true:=by
  show ([.tup [num a p,num b q],.tup [num a' p',num b' q']]:List D).all (dD 7)=true;simp only [all_cons,all_nil,Bool.and_true,ox']
 unfold cV;rw [if_pos ⟨ok,ok⟩];have e:PyData.eqv (cI (.lst [.tup [num a p,num b q],.tup [num a' p',num b' q']])) (cI (.lst [.tup [num a p,num b q],.tup [num a' p',num b' q']]))=(PyData.eqv (cI (.tup [num a p,num b q])) (cI (.tup [num a p,num b q])) && (PyData.eqv (cI (.tup [num a' p',num b' q'])) (cI (.tup [num a' p',num b' q'])) && true)):=by
  rw [show cI (.lst [.tup [num a p,num b q],.tup [num a' p',num b' q']])=.list [cI (.tup [num a p,num b q]),cI (.tup [num a' p',num b' q'])] from rfl]
  simp only [PyData.eqv,PyData.eqvAll]
 rw [e,Jr,Jr]; rfl
section
variable {F:OF}
theorem DR {A B C U V q κ N H:F.C} (hN:N=A * A + B * B) (hH:H=C - (A * U + B * V)) (hq:N * q=H):A * (U + A * q + B * κ) + B * (V + B * q + -A * κ) - C=0:=by
 subst hN; grind
theorem DW {A B U V S q κ N H:F.C} (hN:N=A * A + B * B) (n0:N≠0) (hq:N * q=H) (hk:N * κ * (N * κ)=S * N - H * H):(U + A * q + B * κ - U) * (U + A * q + B * κ - U) + (V + B * q + -A * κ - V) * (V + B * q + -A * κ - V) - S=0:=by
 have e:N * ((U + A * q + B * κ - U) * (U + A * q + B * κ - U) + (V + B * q + -A * κ - V) * (V + B * q + -A * κ - V) - S)=0:=by
  have e2:(U + A * q + B * κ - U) * (U + A * q + B * κ - U) + (V + B * q + -A * κ - V) * (V + B * q + -A * κ - V)=N * (q * q) + N * (κ * κ):=by rw [hN]; grind
  rw [e2]; grind
 exact (nQ e).resolve_left n0
theorem Js {N H:F.C} (n0:N≠0):N * (H / N)=H:=by grind
theorem Jt {N z W:F.C} (n0:N≠0) (h:z * z=W):N * (z / N) * (N * (z / N))=W:=by grind
theorem VG {N z W:F.C} (n0:N≠0) (h:z * z=W):N * -(z / N) * (N * -(z / N))=W:=by grind
theorem Ju {A B X Y κ:F.C} (N:F.C) (hN:N=A * A + B * B):B * (X + B * κ - (X + -(B * κ))) - A * (Y + -A * κ - (Y + -(-A * κ)))=(N + N) * κ:=by subst hN; grind
theorem Jv {N z:F.C} (n0:N≠0):(N + N) * (z / N)=(N / N + N / N) * z:=by grind
theorem DX {x b k:F.C}:x + -(b * k)=x + b * -k:=by grind
theorem VH {a b:F.C} (h:¬(a=0/\b=0)):0 < a * a + b * b:=by
 by_cases c:a=0
 ·have b0:b≠0:=fun z=>h ⟨c,z⟩;have:=yV b0;rw [c]; grind
 ·have:=yV c;have:=dR b
  grind
theorem VJ {A B X Y κ N:F.C} (hN:N=A * A + B * B) (n0:N≠0) (k0:κ≠0) (h:X + -(B * κ)=X + B * κ/\Y + -(-A * κ)=Y + -A * κ):False:=by
 obtain ⟨h1,h2⟩:=h;have e1:(B + B) * κ=0:=by grind
 have e2:(A + A) * κ=0:=by grind
 have b0:=(nQ e1).resolve_right k0;have a0:=(nQ e2).resolve_right k0;have b1:B=0:=by grind
 have a1:A=0:=by grind
 rw [b1,a1] at hN;exact n0 (by grind)
theorem VL {n:F.C} (n0:n≠0):0 < n / n + n / n:=by
 have:n / n=1:=by grind
 rw [this];have:=OrderedRing.zero_lt_one (R:=F.C)
 grind
theorem VN {z W:F.C} (h:z * z=W) (w0:W≠0) (z0:0<=z):0 < z:=by
 have:z≠0:=fun q=>w0 (by rw [<- h,q]; grind)
 grind
theorem VP {z N:F.C} (z0:0 < z) (n0:N≠0):z / N≠0:=by
 have:z≠0:=by grind
 grind
theorem N8 {x B:F.C}:x + B * 0=x:=by grind
theorem VR {N S H:F.C} (h:S * N - H * H=0):N * 0 * (N * 0)=S * N - H * H:=by rw [h]; grind
end
section
variable {rs rs':List (List Int)} {F F':OF} {of:List Int->F.C} {of':List Int->F'.C} {e:F.C->F'.C} {dz:D} {z:F'.C} {N E:Nat}
theorem Gr.esub (G:Gr of rs of' rs' e dz z N E) (x y:F.C):e (x - y)=e x - e y:=by
 rw [show x - y=x + -y by grind,G.ea,G.en]; grind
theorem Gr.e0 (G:Gr of rs of' rs' e dz z N E) {x:F.C} (h:x≠0):e x≠0:=fun q=>h (sgn_0.mp ((G.es x).symm.trans (sgn_0.mpr q)))
theorem Gr.ez (G:Gr of rs of' rs' e dz z N E) {x:F.C} (h:x=0):e x=0:=sgn_0.mp ((G.es x).trans (sgn_0.mpr h))
theorem Gr.ep (G:Gr of rs of' rs' e dz z N E) {x:F.C} (h:0 < x):0 < e x:=sgn_p.mp ((G.es x).trans (sgn_p.mpr h))
end
section
variable {rs:List (List Int)} {F:OF} {of:List Int->F.C}
theorem N_ {x y:List Int} {b c:Int} (h:num x b=num y c):x=y/\b=c:=by
 simp only [num,D.tup.injEq,List.cons.injEq,D.int.injEq,and_true] at h;exact ⟨FW h.1,h.2⟩
theorem Jw {k:Nat} (h:k<=2):qD k 510=true/\vh k 510 (510 + cB k + dB k)=true/\cB k + dB k<=350:=by
 have:k=0\/k=1\/k=2:=by omega
 rcases this with z | z | z <;> subst z <;> decide
theorem VV {a b:F.C}:-a * -a + -b * -b=a * a + b * b:=by grind
theorem V0 {a b c u v:F.C}:-c - (-a * u + -b * v)=-(c - (a * u + b * v)):=by grind
theorem V1 {S n h:F.C}:S * n - -h * -h=S * n - h * h:=by grind
theorem Jx {u a h n:F.C}:u + -a * (-h / n)=u + a * (h / n):=by grind
theorem V2 {x b k:F.C}:x + -(-b * k)=x + b * k:=by grind
theorem V3 {x b k:F.C}:x + -b * k=x + -(b * k):=by grind
theorem V4 {x b k:F.C}:x + -(- -b * k)=x + -b * k:=by grind
theorem V5 {x b k:F.C}:x + - -b * k=x + -(-b * k):=by grind
theorem V6 (T:Tow rs F of) (l2:rs.length<=2) (hr:∀r∈rs,Bd 10 r) {l0 l1 l2' c0 c1 s m0 m1 m2:D} {a b c u v S:F.C} (ha:Nm of rs.length 3 l0 a) (hb:Nm of rs.length 3 l1 b) (hc:Nm of rs.length 100 l2' c) (hu:Nm of rs.length 3 c0 u) (hv:Nm of rs.length 3 c1 v) (hs:Nm of rs.length 3 s S) (ne:¬(a=0/\b=0)) (ma:Nm of rs.length 3 m0 (-a)) (mb:Nm of rs.length 3 m1 (-b)) (mc:Nm of rs.length 100 m2 (-c)) :
  ∃xs bo,(∀ln,bA ln (.int 0)=.ok l0->bA ln (.int 1)=.ok l1->bA ln (.int 2)=.ok l2'->ni [RT rs,ln,.tup [c0,c1,s]]=.ok (num xs bo))/\∃k,dF [RT rs,TI xs]=.ok (.int k)/\(k < 0->uK [RT rs,.tup [l0,l1,l2'],.tup [c0,c1,s],num xs bo]=.ok (.bl true))/\(¬k < 0->uM [RT rs,.tup [l0,l1,l2'],.tup [c0,c1,s],num xs bo]=.ok (.bl true) /\
   ∃X ds,fV [RT rs,.tup [l0,l1,l2'],.tup [c0,c1,s]]=.ok (.tup [X,.lst ds])/\fV [RT rs,.tup [m0,m1,m2],.tup [c0,c1,s]]=.ok (.tup [X,.lst ds.reverse])/\ds.length<=8/\cV (.lst ds.reverse) (.lst ds.reverse)=.ok (.bl true)):=by
 have l3:rs.length<=3:=by omega
 obtain ⟨bo',ao',cd⟩:=Jw l2;obtain ⟨_,e33⟩:=wX (p:=0) l2;obtain ⟨n,h,w,W,hn,hh,hw⟩:=DP T l2 hr ha hb hc hu hv hs (by decide);obtain ⟨n2,h2,w2,W2,hn2,hh2,hw2⟩:=DP T l2 hr ma mb mc hu hv hs (by decide);rw [VV] at hn2 hw2;rw [V0] at hh2 hw2;rw [V1] at hw2;have ew:=iy T hw2 hw;subst ew;have hw:=hw.mono (show _<=510 by decide);have hww:=fun ln i0 i1 i2=>Jo (ln:=ln) T l2 hr i0 i1 i2 ha hb hc hu hv hs hw (by decide);have np:=VH ne;have n0:=Fz np;generalize hnv:a * a + b * b=nv at *;generalize hhv:c - (a * u + b * v)=hv' at *;generalize hwv:S * nv - hv' * hv'=wv at *;obtain ⟨xs,bo,rfl⟩:=qF hw;have sgl:=Ie T l3 hr hw.rw (by decide);have sgp:=jT T l3 hr hw (mO l3 (by decide));refine ⟨xs,bo,hww,sgn wv,sgl,fun k0=>Vz (oo' W sgp k0) (by rw [Et]; simp),fun k0=>?_⟩;have w0:0<=wv:=by
  rcases lE wv with ⟨q,_⟩ | ⟨q,_⟩ | ⟨_,q⟩
  ·rw [q]; exact Std.le_refl _
  ·exact Std.le_of_lt q
  ·exact (k0 (by rw [q]; decide)).elim
 obtain ⟨rs',F',of',e,dz,z,N,E,G,gr,zz,z0,hNE,sh⟩:=Vn T l2 hr (by decide) (by decide) hw w0 bo' ao';have hN:N<=860:=by omega
 have hE:E<=1087:=by omega
 have hN':=G.e0 n0;have eN:e nv=e a * e a + e b * e b:=by rw [<- hnv,G.ea,G.em,G.em]
 have eH:e hv'=e c - (e a * e u + e b * e v):=by rw [<- hhv,G.esub,G.ea,G.em,G.em]
 have eW:e wv=e S * e nv - e hv' * e hv':=by rw [<- hwv,G.esub,G.em,G.em]
 have eX:e (u + a * (hv' / nv))=e u + e a * (e hv' / e nv):=by rw [G.ea,G.em,G.ed]
 have eY:e (v + b * (hv' / nv))=e v + e b * (e hv' / e nv):=by rw [G.ea,G.em,G.ed]
 have hq:=Js (N:=e nv) (H:=e hv') hN';obtain ⟨L0,_,q0,hL0⟩:=G.lf ha;obtain ⟨L1,_,q1,hL1⟩:=G.lf hb;obtain ⟨L2,_,q2,hL2⟩:=G.lf hc;obtain ⟨C0,_,q3,hC0⟩:=G.lf hu;obtain ⟨C1,_,q4,hC1⟩:=G.lf hv;obtain ⟨S0,_,q5,hS0⟩:=G.lf hs;have al:=N5 q0 q1 q2;have ar:=N5 q3 q4 q5;have i4:=NT G.l3;obtain ⟨lx,bx,bb⟩:xs.length=2 ^ rs.length/\Bd 510 xs/\bo.natAbs < 2 ^ 510:=by
  obtain ⟨xs',b',e',nx,lx,bx,bb,ex⟩:=hw;obtain ⟨e1,e2⟩:=N_ e';subst e1 e2;exact ⟨lx,bx,bb⟩
 have e8:=iC l3;have Sc:Sct rs rs'/\Scr (RT rs) (RT rs') (TI xs) bo (rs.length:Int) (rs'.length:Int):=by
  rcases sh with ⟨rfl,_⟩ | ⟨_,x,b',e',rfl⟩
  ·exact ⟨Vx _,bS' _,bS' _,.inl (by omega)⟩
  ·obtain ⟨e1,e2⟩:=N_ e';subst e1 e2;refine ⟨Vy (by rw [length_map]; exact lx) l2,bS' _,bS' _,.inr ⟨by rw [length_cons]; omega,_,wG _ _,xT bo xs (by omega) (lJ bb (by decide)) (bx.mono (by decide)),Vt _⟩⟩
 by_cases wz:wv=0
 ·
  have rr:rs'=rs:=by
   rcases sh with ⟨q,_⟩ | ⟨q,_⟩
   ·exact q
   ·exact ((Fz q) wz).elim
  obtain ⟨g0,g1,em1,h0,h1⟩:=op' G T l2 hr W ha hb hu hv hh hn n0 hw (by decide) w0 gr (by decide) wz;obtain ⟨k0',k1',em2,j0,j1⟩:=op' G T l2 hr W2 ma mb hu hv hh2 hn2 n0 hw (by decide) w0 gr (by decide) wz;rw [Jx] at j0 j1;have u0:=iy G.T j0 h0;have u1:=iy G.T j1 h1;subst u0 u1;rw [eX] at h0;rw [eY] at h1;have kz:=VR (N:=e nv) (S:=e S) (H:=e hv') (eW.symm.trans (G.ez wz));have on:∀p∈[D.tup [k0',k1']],jF [RT rs',.tup [L0,L1,L2],p]=.ok (.bl true)/\jE [RT rs',.tup [C0,C1,S0],p]=.ok (.bl true):=fun p hp=>by
   rw [mem_singleton.mp hp];have h0:Nm of' rs'.length 1000 k0' (e u + e a * (e hv' / e nv) + e b * 0):=by rw [N8]; exact h0.mono (by decide)
   have h1:Nm of' rs'.length 1000 k1' (e v + e b * (e hv' / e nv) + -e a * 0):=by rw [N8]; exact h1.mono (by decide)
   exact ⟨or' G (hL0.mono (show 3<=100 by decide)) (hL1.mono (show 3<=100 by decide)) hL2 h0 h1 (by omega) (DR eN eH hq),NP G hC0 hC1 hS0 h0 h1 (by omega) (DW eN hN' hq kz)⟩
  have hp:=NZ Sc.1 G.l3 (pts:=[.tup [k0',k1']]) rfl (.inl ⟨rfl,_,rfl⟩) fun p hp=>by rw [mem_singleton.mp hp]; exact Jq G.T G.l3 h0 h1
  have eg:cV (RT rs') (RT rs)=.ok (.bl true):=by rw [rr]; exact Vs rs.reverse
  refine ⟨N7 Sc.2 em1 hp i4 al ar on sgl (.inl ⟨sgn_0.mpr wz,⟨_,rfl⟩,eg⟩),_,_,em1,em2,Nat.le_of_ble_eq_true rfl,?_⟩;obtain ⟨x,p,rfl⟩:=qF h0;obtain ⟨y,q,rfl⟩:=qF h1;exact VD x y p q
 ·have wp:0 < wv:=by
   rcases lE wv with ⟨q,_⟩ | ⟨q,_⟩ | ⟨_,q⟩
   ·exact (wz q).elim
   ·exact q
   ·exact (k0 (by rw [q]; decide)).elim
  have zp:=VN zz (G.e0 wz) z0;obtain ⟨x1,y1,x2,y2,em1,h1,h2',h3,h4⟩:=NK G T l2 hr W ha hb hu hv hh hn n0 hw (by decide) wp gr (K:=4800) (by omega) (by decide) (by omega);obtain ⟨X1,Y1,X2,Y2,em2,j1,j2,j3,j4⟩:=NK G T l2 hr W2 ma mb hu hv hh2 hn2 n0 hw (by decide) wp gr (K:=4800) (by omega) (by decide) (by omega);rw [Jx,G.en b] at j1 j3;rw [Jx,G.en,G.en] at j2 j4;rw [V2] at j1;rw [V3] at j3;rw [G.en] at h2' h4;rw [V4] at j2;rw [V5] at j4;have u1:=iy G.T j1 h3;have u2:=iy G.T j2 h4;have u3:=iy G.T j3 h1;have u4:=iy G.T j4 h2';subst u1 u2 u3 u4;have hk:=(Jt (N:=e nv) hN' zz).trans eW;have hk2:=(VG (N:=e nv) hN' zz).trans eW;have kn:=VP zp hN';have onp:∀{x y:D} {κ:F'.C},Nm of' rs'.length 4800 x (e u + e a * (e hv' / e nv) + e b * κ)->Nm of' rs'.length 4800 y (e v + e b * (e hv' / e nv) + -e a * κ)->e nv * κ * (e nv * κ)=e S * e nv - e hv' * e hv'->jF [RT rs',.tup [L0,L1,L2],.tup [x,y]]=.ok (.bl true)/\jE [RT rs',.tup [C0,C1,S0],.tup [x,y]]=.ok (.bl true):=fun {x y κ} hx hy hκ =>
   ⟨or' G (hL0.mono (show 3<=100 by decide)) (hL1.mono (show 3<=100 by decide)) hL2 hx hy (by omega) (DR eN eH hq),NP G hC0 hC1 hS0 hx hy (by omega) (DW eN hN' hq hκ)⟩
  have eqf:cV (.tup [X2,Y2]) (.tup [X1,Y1])=.ok (.bl false):=Ax (Ul G.T h1 h2' h3 h4) fun q=>VJ eN hN' kn q;obtain ⟨w0',w1',ewy,hw0,hw1⟩:=Uj G.T G.l3 h1.rw h2'.rw h3.rw h4.rw (by decide);obtain ⟨p1,ep1,hp1⟩:=G.pr hL1.rw hw0 (by omega);obtain ⟨p2,ep2,hp2⟩:=G.pr hL0.rw hw1 (by omega);obtain ⟨t,et,ht⟩:=wU G.T G.l3 hp1 hp2 (by omega);rw [Ju (e nv) eN,Jv hN',<- G.ed,<- G.ea] at ht;obtain ⟨ty,tb,rfl,ptb,lty,bty,_,ety⟩:=ht;rw [eX,DX] at h1;rw [eX] at h3;rw [eY,DX] at h2';rw [eY] at h4;have on:∀p∈[D.tup [X2,Y2],D.tup [X1,Y1]],jF [RT rs',.tup [L0,L1,L2],p]=.ok (.bl true)/\jE [RT rs',.tup [C0,C1,S0],p]=.ok (.bl true):=fun p hp=>by
   rcases mem_cons.mp hp with q | q
   ·rw [q]; exact onp h1 h2' hk2
   ·rw [mem_singleton.mp q]; exact onp h3 h4 hk
  have hp:=NZ Sc.1 G.l3 (pts:=[.tup [X2,Y2],.tup [X1,Y1]]) rfl (.inr ⟨rfl,_,_,rfl,eqf⟩) fun p hp=>by
   rcases mem_cons.mp hp with q | q
   ·rw [q]; exact Jq G.T G.l3 h1 h2'
   ·rw [mem_singleton.mp q]; exact Jq G.T G.l3 h3 h4
  have sg':=G.s1 ptb lty bty (by omega) ety;have sp:sgn (e (nv / nv + nv / nv) * z)=1:=sgn_p.mpr (cF (G.ep (VL n0)) zp);rw [sp] at sg';refine ⟨N7 Sc.2 em1 hp i4 al ar on sgl (.inr ⟨fun q=>wz (sgn_0.mp q),_,_,w0',w1',L0,L1,p1,p2,TI ty,rfl,ewy,ix_tup0 _ _,ix_tup1 _ _ _,ep1,ep2,.int tb,et,sg'⟩),_,_,em1,em2,Nat.le_of_ble_eq_true rfl,?_⟩;obtain ⟨x,p,rfl⟩:=qF h1;obtain ⟨y,q,rfl⟩:=qF h2';obtain ⟨x',p',rfl⟩:=qF h3;obtain ⟨y',q',rfl⟩:=qF h4;exact VF x' y' x y p' q' p q
end
theorem yI (q:Int):dY (.int q) (.int 5)=.ok (.int (q * 5)):=by
 unfold dY;exact if_pos (.inr (.inr (intBits_le (show Int.natAbs 5 < 2 ^ 64 by decide))))
theorem yJ (q:Int):bH (.int q) (.int 5)=.ok (.int (Int.fdiv q 5)):=qQ (show (5:Int)≠0 by decide) (Nat.lt_of_lt_of_le (show 5 < 2 ^ 3 by decide) (Nat.pow_le_pow_right (by decide) (by decide)))
theorem Jy (q j:Int) (h0:0<=j) (h5:j < 5):Int.fmod (q * 5 + j) 5=j:=by
 rw [Int.fmod_eq_emod_of_nonneg _ (by decide)]; omega
theorem Ga (x:List Int) (b:Int):bQ (num x b)=true:=by
 show aR [D.tup (x.map .int),D.int b]=true;rw [aR,aR,aR,bQ,Fp]; rfl
theorem Oa:∀L:List (List Int),aR (L.map TI)=true
 | []=>rfl
 | x :: L=>by
  rw [map_cons,aR,Oa L,bQ,Fp]; rfl
section
variable {rs:List (List Int)} {F:OF} {of:List Int->F.C}
theorem vm {k n:Nat} {d:D} {v:F.C} (h:Nm of k n d v):bQ d=true:=by obtain ⟨x,b,rfl⟩:=qF h; exact Ga x b
theorem eS' (T:Tow rs F of) (l3:rs.length<=3) (c j:Int) (h0:0<=j) (h5:j < 5) (h2:j≠2):∃d v,kO [.int (Int.fdiv c 5 * 5 + j),.int (rs.length:Int)]=.ok d/\Nm of rs.length 3 d v:=Ui T l3 _ 3 (.inr ⟨by decide,by rw [Jy _ j h0 h5]; exact h2⟩) (by decide)
theorem V7 (T:Tow rs F of) (h3:rs.length<=3) {p:Nat} {x:List Int} (lx:x.length=2 ^ rs.length) (bx:Bd p x) (hp:p<=8000):fM [.int 0,TI x]=.ok (TI (List.replicate (2 ^ rs.length) 0))/\ji [TI (List.replicate (2 ^ rs.length) 0),.int 1]=.ok (num (List.replicate (2 ^ rs.length) 0) 1):=by
 have e8:=iC h3;have sc:=xT 0 x (by omega) (Nat.lt_of_lt_of_le (show Int.natAbs 0 < 2 ^ 1 by decide) (iR (by decide))) (bx.mono (by omega));have zz:x.map ((0:Int) * ·)=List.replicate (2 ^ rs.length) 0:=by
  rw [<- lx,<- Ac (0:Int) x];exact map_congr_left fun t _=>Int.zero_mul t
 rw [zz] at sc;obtain ⟨z,ez,hz⟩:=Fx T h3 (x:=List.replicate (2 ^ rs.length) 0) (b:=1) (p:=70) (by simp) (fun t ht=>by rw [eq_of_mem_replicate ht]; decide) (by decide) (by decide) (by decide) (.inr rfl);refine ⟨sc,?_⟩;rw [ez];have v0:of (List.replicate (2 ^ rs.length) 0) / ((1:Int):F.C)=0:=by rw [wM T]; grind
 rw [v0] at hz;rw [iy T hz (HN T (n:=2) (by decide))]
theorem V8 (T:Tow rs F of) (h3:rs.length<=3) (ns:List Int) (k:Nat):∃d0 d1 d2 v0 v1 v2,qp [.lst (ns.map .int),.int (k:Int),.int (rs.length:Int)]=.ok (.lst [d0,d1,d2])/\Nm of rs.length 3 d0 v0/\Nm of rs.length 3 d1 v1/\Nm of rs.length 3 d2 v2/\¬(v0=0/\v1=0):=by
 have e8:=iC h3;have p0:=Nat.two_pow_pos rs.length;have el:∀(j:Nat) (i:Int),bA (.lst [.int 0,.int 1,.int 3]) (.int (j:Int))=.ok (.int i)->0<=i->i < 5->i≠2->∃d v,d_ (bF 0) (‹"ab"›) [none,some (.arg (.int (rs.length:Int))),some (.arg (.lst (ns.map .int))),some (.arg (.int (k:Int)))] (.int (j:Int))=.ok d/\Nm of rs.length 3 d v:=fun j i hi i0 i5 i2=>by
  obtain ⟨c,e1⟩:=cN' ns (k + j);have k1:(k:Int) + (j:Int)=((k + j:Nat):Int):=by omega
  obtain ⟨d,v,q,h⟩:=eS' T h3 c i i0 i5 i2;refine ⟨d,v,?_,h⟩;show (match ‹"ab"› [some (.val (.int (j:Int))),some (.arg (.int (rs.length:Int))),some (.arg (.lst (ns.map .int))),some (.arg (.int (k:Int)))] with | .ok z=>Res.ok z | _=>.stuck)=_
  push_cast [k1,e1,yJ,yI,hi,q]
 obtain ⟨d0,v0,q0,h0⟩:=el 0 0 rfl (by decide) (by decide) (by decide);obtain ⟨d1,v1,q1,h1⟩:=el 1 1 rfl (by decide) (by decide) (by decide);obtain ⟨d2,v2,q2,h2⟩:=el 2 3 rfl (by decide) (by decide) (by decide);have cc:(aO 1 [2,0,1] (bF 0) ‹"ab"› (cX (aj ‹3› ‹""›) jw)) [some (.arg (.lst (ns.map .int))),some (.arg (.int (k:Int))),some (.arg (.int (rs.length:Int))),none,none]=.ok (.lst [d0,d1,d2]):=by
  unfold aO;have hi:cX (aj ‹3› ‹""›) jw [some (.arg (.lst (ns.map .int))),some (.arg (.int (k:Int))),some (.arg (.int (rs.length:Int))),none,none]=.ok [.int ((0:Nat):Int),.int ((1:Nat):Int),.int ((2:Nat):Int)]:=p_ (ds:=[.int ((3:Nat):Int)]) rfl (Ht 3 (by decide));have hc:bV 1 [2,0,1] [some (.arg (.lst (ns.map .int))),some (.arg (.int (k:Int))),some (.arg (.int (rs.length:Int))),none,none]=[none,some (.arg (.int (rs.length:Int))),some (.arg (.lst (ns.map .int))),some (.arg (.int (k:Int)))]:=rfl;rw [hi,Res.bind_ok,hc,mapR,q0,Res.bind_ok,mapR,q1,Res.bind_ok,mapR,q2,Res.bind_ok];rfl
 have zn:=HN T (n:=3) (by decide);have z1:=Lz T (n:=3) (k:=1) (by decide) (by decide);rw [Ring.intCast_one] at z1;have one0:(1:F.C)≠0:=fun z=>absurd (OrderedRing.zero_lt_one (R:=F.C)) (by rw [z]; exact Std.lt_irrefl);have h0':=h0;obtain ⟨x,b,rfl,_,lx,bx,_⟩:=h0';obtain ⟨sc,ls⟩:=V7 T h3 lx bx (by decide);have eq0:=Fb T h0 zn;have eq1:=Fb T h1 zn
 suffices h:∃e0 e1 w0 w1,(bZ ‹"u"› (putD 3 (j9 (two (aq ‹"f"› eZ) ‹2› bR)) ‹"i"›) Out.nxt) [some (.arg (.lst (ns.map .int))),some (.arg (.int (k:Int))),some (.arg (.int (rs.length:Int))),some (.own [num x b,d1,d2]),some (.val (num (List.replicate (2 ^ rs.length) 0) 1))]=.nxt [some (.arg (.lst (ns.map .int))),some (.arg (.int (k:Int))),some (.arg (.int (rs.length:Int))),some (.own [e0,e1,d2]),some (.val (num (List.replicate (2 ^ rs.length) 0) 1))]/\Nm of rs.length 3 e0 w0/\Nm of rs.length 3 e1 w1/\¬(w0=0/\w1=0) by
  obtain ⟨e0,e1,w0,w1,es,g0,g1,nz⟩:=h;refine ⟨e0,e1,d2,w0,w1,v2,?_,g0,g1,h2,nz⟩;show outD (uE [some (.arg (.lst (ns.map .int))),some (.arg (.int (k:Int))),some (.arg (.int (rs.length:Int))),none,none])=_;unfold uE;have sg:∀(f g:DS->Out) (δ δ':DS),f δ=.nxt δ'->j_ f g δ=g δ':=fun f g δ δ' h=>by unfold j_; rw [h]
  rw [sg _ _ _ _ (Fq 3 cc),sg _ _ _ _ (show (aG 4 (aq (aj (aq (aj ‹0› (aj (two ‹"j"› ‹0› bA) ‹""›)) fM) (aj ‹1› ‹""›)) ji)) _=.nxt [some (.arg (.lst (ns.map .int))),some (.arg (.int (k:Int))),some (.arg (.int (rs.length:Int))),some (.own [num x b,d1,d2]),some (.val (num (List.replicate (2 ^ rs.length) 0) 1))] by push_cast [vg,sc,ls]),sg _ _ _ _ es];rfl
 by_cases c0:v0=0
 ·by_cases c1:v1=0
  ·have eq0':=Fy eq0 c0;have eq1':=Fy eq1 c1;have hc:=Aj ns k;have m2:bR (.int (cell ns k)) (.int 2)=_:=h_ (show (2:Int)≠0 by decide);have ct:cutD (TI (List.replicate (2 ^ rs.length) 0)) (some 1) none=.ok (TI (List.replicate (2 ^ rs.length - 1) 0)):=by
    have:=Hu ((List.replicate (2 ^ rs.length) (0:Int)).map D.int) 1;rw [<- map_drop,drop_replicate] at this;exact this
   have ad:a_ (.tup [.int 1]) (TI (List.replicate (2 ^ rs.length - 1) 0))=.ok (TI (1 :: List.replicate (2 ^ rs.length - 1) 0)):=Ew (a:=[1]) (b:=List.replicate (2 ^ rs.length - 1) 0) (by simp) (by simp; omega);have f0:=vm h0;have f1:=vm h1;have f2:=vm h2;have fz:=Ga (List.replicate (2 ^ rs.length) 0) 1;have fd:=Ga (1 :: List.replicate (2 ^ rs.length - 1) 0) 1;have fl:aR [num x b,d1,d2]=true:=by rw [aR,aR,aR,aR,f0,f1,f2]; rfl
   have r0:=Int.fmod_nonneg_of_pos (cell ns k) (b:=2) (by decide);have r1:=Int.fmod_lt_of_pos (cell ns k) (b:=2) (by decide);generalize Int.fmod (cell ns k) 2=r at *;have ev:∀(z:Int) (j:Nat),r=z->jY 3 z=some j->(bZ ‹"u"› (putD 3 (j9 (two (aq ‹"f"› eZ) ‹2› bR)) ‹"i"›) Out.nxt) [some (.arg (.lst (ns.map .int))),some (.arg (.int (k:Int))),some (.arg (.int (rs.length:Int))),some (.own [num x b,d1,d2]),some (.val (num (List.replicate (2 ^ rs.length) 0) 1))]=.nxt [some (.arg (.lst (ns.map .int))),some (.arg (.int (k:Int))),some (.arg (.int (rs.length:Int))),some (.own ([num x b,d1,d2].set j (num (1 :: List.replicate (2 ^ rs.length - 1) 0) 1))),some (.val (num (List.replicate (2 ^ rs.length) 0) 1))]:=fun z j er hj=>by
    subst er;have hp:=Ia (i:=3) (fi:=(j9 (two (aq ‹"f"› eZ) ‹2› bR))) (fe:=‹"i"›) (δ:=[some (.arg (.lst (ns.map .int))),some (.arg (.int (k:Int))),some (.arg (.int (rs.length:Int))),some (.own [num x b,d1,d2]),some (.val (num (List.replicate (2 ^ rs.length) 0) 1))]) (ds:=[num x b,d1,d2]) (d:=num (1 :: List.replicate (2 ^ rs.length - 1) 0) 1) (z:=r) (j:=j) rfl
     (by push_cast [ct,ad]) (by unfold j9; push_cast [hc,m2]) hj fl fd
    have hs:fH 3 [num x b,d1,d2] j (num (1 :: List.replicate (2 ^ rs.length - 1) 0) 1) [some (.arg (.lst (ns.map .int))),some (.arg (.int (k:Int))),some (.arg (.int (rs.length:Int))),some (.own [num x b,d1,d2]),some (.val (num (List.replicate (2 ^ rs.length) 0) 1))]=[some (.arg (.lst (ns.map .int))),some (.arg (.int (k:Int))),some (.arg (.int (rs.length:Int))),some (.own ([num x b,d1,d2].set j (num (1 :: List.replicate (2 ^ rs.length - 1) 0) 1))),some (.val (num (List.replicate (2 ^ rs.length) 0) 1))]:=by
     unfold fH;simp only [map_cons,map_nil,Option.bind_some,cM,fl,fz,st3,↓reduceIte]
    rw [hs] at hp;push_cast [vg,eq0',eq1',hp]
   rcases (show r=0\/r=1 by omega) with er | er
   ·exact ⟨_,_,_,_,ev 0 0 er rfl,z1,h1,fun q=>one0 q.1⟩
   ·exact ⟨_,_,_,_,ev 1 1 er rfl,h0,z1,fun q=>one0 q.2⟩
  ·have eq0':=Fy eq0 c0;have eq1':=Ax eq1 c1;exact ⟨_,_,_,_,by push_cast [vg,eq0',eq1'],h0,h1,fun q=>c1 q.2⟩
 ·have eq0':=Ax eq0 c0;exact ⟨_,_,_,_,by push_cast [vg,eq0'],h0,h1,fun q=>c0 q.1⟩
end
section
variable {rs:List (List Int)} {F:OF} {of:List Int->F.C}
theorem Ob (T:Tow rs F of) {p:Nat} {x:List Int} (lx:x.length=2 ^ rs.length) (bx:Bd p x) (hp:0 < p):Nm of rs.length p (num x 1) (of x / ((1:Int):F.C)):=⟨x,1,rfl,Ae x,lx,bx,Nat.one_lt_two_pow (by omega),rfl⟩
theorem oC' {x b:F.C}:-(x / b)=-x / b:=by grind
theorem Jz (T:Tow rs F of) (l3:rs.length<=3) {p:Nat} {d:D} {v:F.C} (h:Nm of rs.length p d v) (hp:p<=8000):∃x b m,d=num x b/\fM [.int (-1),TI x]=.ok m/\Nm of rs.length p (.tup [m,.int b]) (-v):=by
 obtain ⟨x,b,rfl,nx,lx,bx,bb,ex⟩:=h;have e8:=iC l3;have s1:=xT (-1) x (by omega) (Nat.lt_of_lt_of_le (show Int.natAbs (-1) < 2 ^ 1 by decide) (iR (by decide))) (bx.mono (by omega));rw [Ez] at s1;exact ⟨x,b,_,rfl,s1,_,b,rfl,Lj nx,by rw [length_map]; exact lx,cJ' bx,bb,by rw [xN T lx,ex]; exact oC'⟩
theorem V9 (T:Tow rs F of) (l3:rs.length<=3) (hr:∀r∈rs,Bd 10 r) (ns:List Int) {s:D} {v:F.C} (hs:Nm of rs.length 3 s v):∃s' v',Nm of rs.length 3 s' v' /\
  (bZ (aF (two (aq (aj (ak 2) ‹"I"›) dF) ‹1› ‹"p"›) aJ) (aG 3 (aZ (aj (two (aZ (aj (two ‹1› (two (aq (aj (ak 0) (aj ‹2› ‹""›)) eZ) ‹7› bR) a_) ‹""›)) ‹"W"› a_) (aj ‹1› ‹""›)))) Out.nxt) [some (.arg (.lst (ns.map .int))),some (.val (.int (rs.length:Int))),some (.val (RT rs)),some (.val s),none,none,none,none,none]=.nxt [some (.arg (.lst (ns.map .int))),some (.val (.int (rs.length:Int))),some (.val (RT rs)),some (.val s'),none,none,none,none,none]:=by
 have e8:=iC l3;have n0:=Nat.two_pow_pos rs.length;obtain ⟨x,b,rfl,nx,lx,bx,bb,ex⟩:=id hs;have sg:=Ie T l3 hr hs.rw (by decide);generalize sgn v=k at sg
 by_cases c:k < 1
 ·have hc:eZ [.lst (ns.map .int),.int 2]=_:=Aj ns 2;have m7:bR (.int (cell ns 2)) (.int 7)=_:=h_ (show (7:Int)≠0 by decide);have r0:=Int.fmod_nonneg_of_pos (cell ns 2) (b:=7) (by decide);have r1:=Int.fmod_lt_of_pos (cell ns 2) (b:=7) (by decide);generalize Int.fmod (cell ns 2) 7=r at *;have cu:cutD (TI x) (some 1) none=.ok (TI (x.drop 1)):=u9 x 1;have ad:a_ (.tup [.int (1 + r)]) (TI (x.drop 1))=.ok (TI ((1 + r) :: x.drop 1)):=vH (a:=[1 + r]) (b:=x.drop 1) (by rw [length_drop,lx]; simp; omega);refine ⟨_,_,Ob T (x:=(1 + r) :: x.drop 1) (by rw [length_cons,length_drop,lx]; omega) (fun t ht=>?_) (by decide),?_⟩
  ·rcases mem_cons.mp ht with z | z
   ·rw [z]; show _ < 8; omega
   ·exact bx t (mem_of_mem_drop z)
  ·push_cast [sg,c,hc,m7,cu,ad]
 ·exact ⟨_,_,hs,by push_cast [sg,c]⟩
theorem V_ (T:Tow rs F of) (l3:rs.length<=3) (hr:∀r∈rs,Bd 10 r) (L:D) {s:D} {v:F.C} (hs:Nm of rs.length 3 s v):∃s' v',Nm of rs.length 3 s' v' /\
  (bZ (aF (two (aq (aj (ak 2) ‹"I"›) dF) ‹1› ‹"p"›) aJ) ‹"w"› Out.nxt) [some (.arg L),some (.val (.int (rs.length:Int))),some (.val (RT rs)),some (.val s),none,none,none,none,none]=.nxt [some (.arg L),some (.val (.int (rs.length:Int))),some (.val (RT rs)),some (.val s'),none,none,none,none,none]:=by
 have e8:=iC l3;have n0:=Nat.two_pow_pos rs.length;obtain ⟨x,b,rfl,nx,lx,bx,bb,ex⟩:=id hs;have sg:=Ie T l3 hr hs.rw (by decide);generalize sgn v=k at sg
 by_cases c:k < 1
 ·have cu:cutD (TI x) (some 1) none=.ok (TI (x.drop 1)):=u9 x 1;have lQ:bA (num x b) (.int 0)=.ok (TI x):=ix_tup0 _ _;have cz:aO 1 [] (bF 0) ‹0› (bindL ‹"W"› aM) [some (.arg L),some (.val (.int (rs.length:Int))),some (.val (RT rs)),some (.val (num x b)),none,none,none,none,none]=.ok (.lst ((List.replicate (2 ^ rs.length - 1) (0:Int)).map .int)):=by
   have:=qR (fe:=fun _=>.ok (.int 0)) (fi:=bindL ‹"W"› aM) (fr:=[]) (δ:=[some (.arg L),some (.val (.int (rs.length:Int))),some (.val (RT rs)),some (.val (num x b)),none,none,none,none,none]) (rest:=[]) (ts:=x.drop 1) (g:=fun _=>.int 0)
    (by push_cast [cu]) rfl (by rw [length_drop,lx]; exact Nat.le_trans (show 2 ^ rs.length - 1<=63 by omega) (by decide)) fun t ht=>rfl
   rw [this,Ac,length_drop,lx];simp
  have ad:a_ (.tup [.int 3]) (TI (List.replicate (2 ^ rs.length - 1) 0))=.ok (TI (3 :: List.replicate (2 ^ rs.length - 1) 0)):=vH (a:=[3]) (by rw [length_replicate]; show 1 + _<=_; omega);refine ⟨_,_,Ob T (x:=3 :: List.replicate (2 ^ rs.length - 1) 0) (by rw [length_cons,length_replicate]; omega) (fun t ht=>?_) (by decide),?_⟩
  ·rcases mem_cons.mp ht with z | z
   ·rw [z]; decide
   ·rw [eq_of_mem_replicate z]; decide
  ·push_cast [sg,c,cz,ad]
 ·exact ⟨_,_,hs,by push_cast [sg,c]⟩
theorem Wa (T:Tow rs F of) (l2:rs.length<=2) (hr:∀r∈rs,Bd 10 r) (ns:List Int) {d0 d1 d2 c0 c1 s:D} {a b c u v S:F.C} (ha:Nm of rs.length 3 d0 a) (hb:Nm of rs.length 3 d1 b) (hc:Nm of rs.length 3 d2 c) (hu:Nm of rs.length 3 c0 u) (hv:Nm of rs.length 3 c1 v) (hs:Nm of rs.length 3 s S):∃e2 c' s6,Nm of rs.length 100 e2 c' /\
  (bZ (aF (two (two (aq ‹"U"› eZ) ‹3› bR) ‹0› ‹"A"›) aJ) (aD (aG 6 (aq (aj (aq ‹"B"› n_) (aj (two (ak 5) ‹2› bA) ‹""›)) jc)) (aD (aG 6 (aq (aj (ak 6) (aj (aq (aj (aZ (aj (aZ (aj (two (two (two (aq ‹"U"› eZ) ‹3› bH) ‹5› bR) ‹2› fZ) ‹""›)) (aj ‹4› ‹""›))) (aj (aq ‹"I"› bI) ‹""›)) gK) ‹""›)) jc)) (putD 5 (j9 ‹2›) (aq ‹"Q"› ji)))) Out.nxt) [some (.arg (.lst (ns.map .int))),some (.val (.int (rs.length:Int))),some (.val (RT rs)),some (.val s),some (.val (.tup [c0,c1,s])),some (.own [d0,d1,d2]),none,none,none]=.nxt [some (.arg (.lst (ns.map .int))),some (.val (.int (rs.length:Int))),some (.val (RT rs)),some (.val s),some (.val (.tup [c0,c1,s])),some (.own [d0,d1,e2]),s6,none,none]:=by
 have l3:rs.length<=3:=by omega
 obtain ⟨_,e33⟩:=wX (p:=0) l2;have e8:=iC l3;have n0:=Nat.two_pow_pos rs.length;have c8:eZ [.lst (ns.map .int),.int 8]=_:=Aj ns 8;have m3:bR (.int (cell ns 8)) (.int 3)=_:=h_ (show (3:Int)≠0 by decide)
 by_cases cw:0 < Int.fmod (cell ns 8) 3
 ·have d3:bH (.int (cell ns 8)) (.int 3)=_:=qQ (show (3:Int)≠0 by decide) (Nat.lt_of_lt_of_le (show 3 < 2 ^ 3 by decide) (Nat.pow_le_pow_right (by decide) (by decide)));have m5:bR (.int (Int.fdiv (cell ns 8) 3)) (.int 5)=_:=h_ (show (5:Int)≠0 by decide);have r0:=Int.fmod_nonneg_of_pos (Int.fdiv (cell ns 8) 3) (b:=5) (by decide);have r1:=Int.fmod_lt_of_pos (Int.fdiv (cell ns 8) 3) (b:=5) (by decide);generalize Int.fmod (Int.fdiv (cell ns 8) 3) 5=r at *;have G:=Je T l2 hr ha;obtain ⟨t1,e1,h1⟩:=Jj G (ix_lst0 d0 [d1,d2]) (ix_lst1 d0 d1 [d2]) (ix_lst2 d0 d1 d2 []) (ix_tup0 c0 [c1,s]) (ix_tup1 c0 c1 [s]) ha.rw hb.rw hc.rw hu.rw hv.rw (by omega);obtain ⟨t2,e2,h2⟩:=hQ' T l3 h1 hc.rw (by omega);obtain ⟨xs,bs,rfl,_,lxs,_⟩:=id hs;have lw:=gd' [r - 2] 4 (2 ^ rs.length - 1) (by show 1 + _<=_; omega);rw [show ([r - 2].length + (2 ^ rs.length - 1):Nat)=2 ^ rs.length by show 1 + _=_; omega] at lw;have lw':gK [.tup [.tup [.int (r - 2)],.int 4],.int ((2 ^ rs.length:Nat):Int)]=_:=lw;have ls:bI [TI xs]=.ok (.int ((2 ^ rs.length:Nat):Int)):=by
   show Res.ok (D.int ((xs.map D.int).length:Int))=_;rw [length_map,lxs]
  have hl:Rw of rs.length 3 (num ([r - 2] ++ List.replicate (2 ^ rs.length - 1) 0) 4) (of ([r - 2] ++ List.replicate (2 ^ rs.length - 1) 0) / ((4:Int):F.C)):=by
   refine ⟨_,4,rfl,by decide,by rw [length_append,length_replicate]; show 1 + _=_; omega,fun t ht=>?_,by decide,rfl⟩;rcases mem_append.mp ht with z | z
   ·rw [mem_singleton.mp z]; show _ < 8; omega
   ·rw [eq_of_mem_replicate z]; decide
  obtain ⟨t3,e3,h3⟩:=hQ' T l3 h2 hl (by omega);obtain ⟨y,b',rfl,pb,ly,b_y,bb,ey⟩:=h3;obtain ⟨z,ez,hz⟩:=Fx T l3 ly b_y pb bb (by omega) (.inr rfl);refine ⟨z,_,some (.val (num y b')),hz.mono (by omega),?_⟩;have f0:=vm ha;have f1:=vm hb;have f2:=vm hc;have fu:=vm hu;have fv:=vm hv;have fs:=vm hs;have fl:aR [d0,d1,d2]=true:=by rw [aR,aR,aR,aR,f0,f1,f2]; rfl
  have fr:bQ (.tup [c0,c1,num xs bs])=true:=by rw [bQ,aR,aR,aR,aR,fu,fv,fs]; rfl
  have fi:∀i:Int,bQ (.int i)=true:=fun _=>rfl;have fR:bQ (RT rs)=true:=Oa rs.reverse;have fy:=Ga y b';have hp:=Ia (i:=5) (fi:=(j9 ‹2›)) (fe:=(aq ‹"Q"› ji)) (δ:=[some (.arg (.lst (ns.map .int))),some (.val (.int (rs.length:Int))),some (.val (RT rs)),some (.val (num xs bs)),some (.val (.tup [c0,c1,num xs bs])),some (.own [d0,d1,d2]),some (.val (num y b')),none,none]) (ds:=[d0,d1,d2]) (d:=z) (z:=2) (j:=2) rfl
   (by push_cast [ez]) (K7 rfl) rfl fl (vm hz)
  have hs':fH 5 [d0,d1,d2] 2 z [some (.arg (.lst (ns.map .int))),some (.val (.int (rs.length:Int))),some (.val (RT rs)),some (.val (num xs bs)),some (.val (.tup [c0,c1,num xs bs])),some (.own [d0,d1,d2]),some (.val (num y b')),none,none]=[some (.arg (.lst (ns.map .int))),some (.val (.int (rs.length:Int))),some (.val (RT rs)),some (.val (num xs bs)),some (.val (.tup [c0,c1,num xs bs])),some (.own ([d0,d1,z])),some (.val (num y b')),none,none]:=by
   unfold fH;generalize RT rs=GG at *;simp only [map_cons,map_nil,Option.bind_some,Option.bind_none,cM,fl,fr,fi,fR,fy,fs,st5,↓reduceIte];rfl
  rw [hs'] at hp;push_cast [vg,c8,m3,cw,d3,m5,e1,e2,ls,lw',e3,hp]
 ·exact ⟨d2,c,none,hc.mono (by decide),by push_cast [c8,m3,cw]⟩
end
theorem Wb (ns:List Int) (_:ns.length<=63):jn [.lst (ns.map .int)]=.ok (.bl true):=by
 show outD (nj [some (.arg (.lst (ns.map .int))),none,none,none,none,none,none,none,none])=_;unfold nj;have c0:eZ [.lst (ns.map .int),.int 0]=_:=Aj ns 0;have mx:cQ [.int (cell ns 0),.int 9,.int 3]=_:=qC (cell ns 0) 9 3 (by decide) (by decide);have bd:=vf (cell ns 0) 9 (m:=3) (by decide);generalize mix (cell ns 0) 9 3=lv at *;obtain ⟨l,rfl⟩:=Int.eq_ofNat_of_zero_le bd.1;have l2:l<=2:=by omega
 have l3:l<=3:=by omega
 obtain ⟨k1,es1⟩:=cN' ns 1;obtain ⟨k2,es2⟩:=cN' ns 2;obtain ⟨k3,es3⟩:=cN' ns 3;obtain ⟨k4,es4⟩:=cN' ns 4;obtain ⟨rs,F,of,hs,T,rl,hr⟩:=T6 k1 l l3;subst rl;have es1':ig [.lst (ns.map .int),.int 1]=.ok (.int k1):=es1;have es2':ig [.lst (ns.map .int),.int 2]=.ok (.int k2):=es2;have es3':ig [.lst (ns.map .int),.int 3]=.ok (.int k3):=es3;have es4':ig [.lst (ns.map .int),.int 4]=.ok (.int k4):=es4;obtain ⟨s0,v0,q0,h0⟩:=eS' T l3 k2 0 (by decide) (by decide) (by decide);obtain ⟨c0',u,qu,hu⟩:=eS' T l3 k3 0 (by decide) (by decide) (by decide);obtain ⟨c1',v,qv,hv⟩:=eS' T l3 k4 1 (by decide) (by decide) (by decide);rw [Int.add_zero] at q0 qu;obtain ⟨s1,v1,h1,f3⟩:=V9 T l3 hr ns h0;obtain ⟨s,S,hS,f4⟩:=V_ T l3 hr (.lst (ns.map .int)) h1;obtain ⟨d0,d1,d2,a,b,c,el,ha,hb,hc,ne⟩:=V8 T l3 ns 5;have el':qp [.lst (ns.map .int),.int 5,.int (rs.length:Int)]=_:=el;obtain ⟨e2,c',s6,hc',f7⟩:=Wa T l2 hr ns ha hb hc hu hv hS;obtain ⟨x0,b0,m0,rfl,sm0,ma⟩:=Jz T l3 ha (by decide);obtain ⟨x1,b1,m1,rfl,sm1,mb⟩:=Jz T l3 hb (by decide);obtain ⟨x2,b2,m2,rfl,sm2,mc⟩:=Jz T l3 hc' (by decide);obtain ⟨xs,bo,hw,k,sg,rf,wl⟩:=V6 T l2 hr ha hb hc' hu hv hS ne ma mb mc;have hw':=hw (.lst [num x0 b0,num x1 b1,num x2 b2]) (ix_lst0 _ _) (ix_lst1 _ _ _) (ix_lst2 _ _ _ _);have gv:iw qp [.lst (ns.map .int),.int 5,.int (rs.length:Int)]=.ok (.lst [num x0 b0,num x1 b1,d2]):=by unfold iw; rw [el']
 have tg:∀ds,bY [.lst ds]=.ok (.tup ds):=fun _=>rfl;rw [ap_seq];simp only [ap_set,ap_bF,ap_cons,bnd_ok,sl0,vw_arg,c0,mx,on_ok,st1,sq_nxt];rw [ap_seq];simp only [ap_set,ap_bF,ap_cons,bnd_ok,sl0,sl1,vw_arg,vw_val,es1',hs,on_ok,st2,sq_nxt];rw [ap_seq];simp only [ap_set,ap_bF,ap_two,ap_cons,bnd_ok,sl0,sl1,vw_arg,vw_val,es2',yJ,mulE_i,yI,q0,on_ok,st3,sq_nxt];rw [ap_seq,f3,sq_nxt,ap_seq,f4,sq_nxt,ap_seq];simp only [ap_set,ap_tup,ap_bF,ap_two,ap_cons,bnd_ok,sl0,sl1,sl3,vw_arg,vw_val,es3',es4',yJ,mulE_i,yI,add_ok,qu,qv,on_ok,tup3,st4,sq_nxt];rw [ap_seq,Fq 5 (ds:=[num x0 b0,num x1 b1,d2]) (by simp only [ap_bF,ap_cons,bnd_ok,sl0,sl1,vw_arg,vw_val,gv]),sq_nxt];rw [show ([some (.arg (.lst (ns.map .int))),some (.val (.int (rs.length:Int))),some (.val (RT rs)),some (.val s),some (.val (.tup [c0',c1',s])),none,none,none,none]:DS).set 5 (some (SV.own [num x0 b0,num x1 b1,d2]))=[some (.arg (.lst (ns.map .int))),some (.val (.int (rs.length:Int))),some (.val (RT rs)),some (.val s),some (.val (.tup [c0',c1',s])),some (.own [num x0 b0,num x1 b1,d2]),none,none,none] from rfl]
 rw [ap_seq,f7,sq_nxt];have bk:aO 1 [] (bF 0) ‹"ac"› (bindL (ak 5) aM) [some (.arg (.lst (ns.map .int))),some (.val (.int (rs.length:Int))),some (.val (RT rs)),some (.val s),some (.val (.tup [c0',c1',s])),some (.val (.tup [num x0 b0,num x1 b1,num x2 b2])),s6,some (.val (num xs bo)),none]=.ok (.lst [.tup [m0,.int b0],.tup [m1,.int b1],.tup [m2,.int b2]]):=by
  have elt:∀(x:List Int) (b:Int) (m:D),fM [.int (-1),TI x]=.ok m->d_ (bF 0) ‹"ac"› [none] (num x b)=.ok (.tup [m,.int b]):=fun x b m h=>by
   show (match ‹"ac"› [some (.val (num x b))] with | .ok z=>Res.ok z | _=>.stuck)=_
   push_cast [h]
  unfold aO;have hi:bindL (ak 5) aM [some (.arg (.lst (ns.map .int))),some (.val (.int (rs.length:Int))),some (.val (RT rs)),some (.val s),some (.val (.tup [c0',c1',s])),some (.val (.tup [num x0 b0,num x1 b1,num x2 b2])),s6,some (.val (num xs bo)),none]=.ok [num x0 b0,num x1 b1,num x2 b2]:=rfl;have hcs:bV 1 [] [some (.arg (.lst (ns.map .int))),some (.val (.int (rs.length:Int))),some (.val (RT rs)),some (.val s),some (.val (.tup [c0',c1',s])),some (.val (.tup [num x0 b0,num x1 b1,num x2 b2])),s6,some (.val (num xs bo)),none]=[none]:=rfl;rw [hi,Res.bind_ok,hcs,mapR,elt x0 b0 m0 sm0,Res.bind_ok,mapR,elt x1 b1 m1 sm1,Res.bind_ok,mapR,elt x2 b2 m2 sm2,Res.bind_ok];rfl
 by_cases k0:k < 0
 ·have rf':=rf k0;generalize RT rs=GG at *;push_cast [vg,hw',tg,sg,k0,rf']
 ·obtain ⟨w1,X,ds,em1,em2,d8,eq⟩:=wl k0;have lv:lR (.lst ds)=.ok (.lst ds.reverse):=if_pos d8;generalize RT rs=GG at *;push_cast [vg,hw',tg,sg,k0,w1,bk,em1,em2,lv,eq]
theorem Oc {K:Frag} {H:Hp}:∀ns:List Int,Reps K H (ns.map .int) (ns.map V.int)
 | []=>.nil
 | n :: ns=>.cons j6 (Oc ns)
end K24
namespace K24
open PySem PySem.Spec PyProof.Rows L2 DL
theorem all_mk {l:OpenLaw} {w:World} {K:Frag} {h:Heap} {mg:Str->Option Value} {fa c_HallError c_Below c_NoOver c_NoRoom c_NoLine c_NoMeet f_law:Addr} (X:K.In h) (G:h.Ns mainGlobals mg) (hfa:mg "law" = some (.ref fa))
  {t_MOST_ROOTS:Tok}
  {od_law an_law:Option Addr} {sl_law:Array (Option Value)} {oc_law kV_law dc_law pm_law cd_law ct_law:Value}
  (n_HallError:nsIn K mainGlobals "HallError" = some (some (.ref c_HallError)))
  (n_Below:nsIn K mainGlobals "Below" = some (some (.ref c_Below)))
  (x_Below:excIn K c_Below [.type "ValueError",.type "Exception",.type "BaseException",.type "object"] "ValueError.__new__" = true)
  (n_NoOver:nsIn K mainGlobals "NoOver" = some (some (.ref c_NoOver)))
  (x_NoOver:excIn K c_NoOver [.type "ValueError",.type "Exception",.type "BaseException",.type "object"] "ValueError.__new__" = true)
  (n_NoRoom:nsIn K mainGlobals "NoRoom" = some (some (.ref c_NoRoom)))
  (n_NoLine:nsIn K mainGlobals "NoLine" = some (some (.ref c_NoLine)))
  (n_NoMeet:nsIn K mainGlobals "NoMeet" = some (some (.ref c_NoMeet)))
  (xk_NoMeet:Xk K c_NoMeet c_HallError "NoMeet.__init__" Ih "number")
  (no_number_NoMeet:findIn K (.ref c_NoMeet) "number" = some none)
  (l_qc1:Lk K "common" oh)
  (l_qy:Lk K "whole_root" sH)
  (l_qd1:Lk K "lifted" oA)
  (l_qo:Lk K "are_noughts" sI)
  (l_qz:Lk K "front_tops" sJ)
  (l_qp:Lk K "behind_tops" sO)
  (l_qG:Lk K "plus_tops" sS)
  (l_qk:Lk K "against_tops" sU)
  (l_qg:Lk K "sign_of_whole" sV)
  (l_qA:Lk K "times_last" sW)
  (l_qQ:Lk K "_law_cell" sX)
  (l_qH:Lk K "_law_whole" sY)
  (l_qI:Lk K "_law_mixed" sZ)
  (l_qJ:Lk K "_law_added" tu)
  (l_qB:Lk K "_law_scaled" pK)
  (l_qC:Lk K "_law_common" tD)
  (l_qR:Lk K "_law_lift" tE)
  (l_qk1:Lk K "made" kW)
  (l_qW:Lk K "against" tG)
  (l_qK:Lk K "is_nought" tH)
  (l_qe1:Lk K "turned" oE)
  (l_qq:Lk K "lifted_pair" tK)
  (l_qD:Lk K "_law_spread" tL)
  (l_ql:Lk K "_law_scaffold" tM)
  (l_qX:Lk K "_law_sum" tO)
  (l_qh:Lk K "_law_is_number" tQ)
  (l_qL:Lk K "_law_least" pL)
  (l_qd:Lk K "_law_all_lifted" pM)
  (l_qS:Lk K "_law_tops" tR)
  (l_ql1:Lk K "plus" kY)
  (l_qf1:Lk K "halves" oF)
  (l_qa:Lk K "root_of_fraction" tU)
  (l_qY:Lk K "half_of" tV)
  (l_qT:Lk K "_law_less" tW)
  (l_qr:Lk K "_law_drawn" pN)
  (l_qb:Lk K "_law_are_numbers" pO)
  (l_qg1:Lk K "minus" oG)
  (l_qM:Lk K "pair_plus" tX)
  (l_qZ:Lk K "_law_way" tY)
  (l_qE:Lk K "_law_points" pP)
  (l_qU:Lk K "_law_line" pQ)
  (l_qF:Lk K "times_tops" mU)
  (l_qa1:Lk K "middles" oH)
  (l_qe:Lk K "_law_tops_times" mV)
  (l_qh1:Lk K "times" oJ)
  (l_qN:Lk K "norm_tops" tZ)
  (l_qs:Lk K "_law_product" t6)
  (l_qm1:Lk K "norm" oK)
  (l_qc:Lk K "sum_of_products" t7)
  (l_qO:Lk K "both_ways" t8)
  (l_qP:Lk K "stretched" t_)
  (l_qb1:Lk K "_law_far" oM)
  (l_qt:Lk K "_law_by_line" uc)
  (l_qi1:Lk K "_law_w" oN)
  (l_qu:Lk K "_law_sign_of" mW)
  (l_qm:Lk K "sign_of_tops" mX)
  (l_qv:Lk K "_law_on_ring" ud)
  (l_qw:Lk K "_law_on_line" ue)
  (l_qV:Lk K "one_over" mY)
  (l_qn1:Lk K "sign" oO)
  (l_qo1:Lk K "over" oR)
  (l_qp1:Lk K "size" oV)
  (l_qq1:Lk K "root" jj)
  (l_qi:Lk K "root_of_front" uf)
  (l_qn:Lk K "root_of_both" ug)
  (l_qj1:Lk K "grown" kZ)
  (l_qj:Lk K "meets_of_line" uh)
  (l_qx:Lk K "_law_refused" um)
  (l_qf:Lk K "_law_meets_well" uo)
  (n_law:nsIn K mainGlobals "law" = some (some (.ref f_law)))
  (l_law:K.lookup f_law=some ⟨oc_law,od_law,.func (fnOf "law" "law" (bO vQ) (bz vQ) (az vQ) .none kV_law dc_law pm_law an_law cd_law ct_law),sl_law⟩)
  (c_law:codeIn K cd_law "law" = true)
  (k_law:keepIn K (.ref f_law)=true)
  (n_MOST_ROOTS:nsIn K mainGlobals "MOST_ROOTS" = some (some (.int 3 t_MOST_ROOTS)))
  (z_ValueError:nsIn K mainGlobals "ValueError" = some none)
  (z_abs:nsIn K mainGlobals "abs" = some none)
  (z_all:nsIn K mainGlobals "all" = some none)
  (z_bool:nsIn K mainGlobals "bool" = some none)
  (z_int:nsIn K mainGlobals "int" = some none)
  (z_isinstance:nsIn K mainGlobals "isinstance" = some none)
  (z_len:nsIn K mainGlobals "len" = some none)
  (z_list:nsIn K mainGlobals "list" = some none)
  (z_range:nsIn K mainGlobals "range" = some none)
  (z_reversed:nsIn K mainGlobals "reversed" = some none)
  (z_tuple:nsIn K mainGlobals "tuple" = some none)
  (z_zip:nsIn K mainGlobals "zip" = some none)
  (e0_NoMeet:findIn K (.ref c_NoMeet) "__getattribute__" = some (some (.builtin "BaseException.__getattribute__")))
  (e1_NoMeet:findIn K (.ref c_NoMeet) "__getattr__" = some none)
  (e2_NoMeet:hasDictIn K c_NoMeet=true)
  (e3_NoMeet:findIn K (.ref c_NoMeet) "__class__" = some (some (.builtin "object.__class__")))
  (e6_NoMeet:mroIn K c_NoMeet (.type "object")=some true)
  (e7_NoMeet:mroIn K c_NoMeet (.type "BaseException")=some true)
  (e4:specialIn K (.builtin "object.__class__") "__get__" = some (some (.builtin "getset_descriptor.__get__")))
  (e5:takesIn K (.builtin "object.__class__")=some true)
  (s_NoMeet_HallError:exmOne K (.ref c_NoMeet) (.ref c_HallError)=some true)
  (i_int_int:kitOne K (.type "int") (.type "int")=some true)
  (i_bool_int:kitOne K (.type "bool") (.type "int")=some true)
  (i_NoneType_int:kitOne K (.type "NoneType") (.type "int")=some false)
  (i_str_int:kitOne K (.type "str") (.type "int")=some false)
  (i_tuple_int:kitOne K (.type "tuple") (.type "int")=some false)
  (i_list_int:kitOne K (.type "list") (.type "int")=some false)
  (i_dict_int:kitOne K (.type "dict") (.type "int")=some false)
  (i_int_bool:kitOne K (.type "int") (.type "bool")=some false)
  (i_bool_bool:kitOne K (.type "bool") (.type "bool")=some true)
  (i_NoneType_bool:kitOne K (.type "NoneType") (.type "bool")=some false)
  (i_str_bool:kitOne K (.type "str") (.type "bool")=some false)
  (i_tuple_bool:kitOne K (.type "tuple") (.type "bool")=some false)
  (i_list_bool:kitOne K (.type "list") (.type "bool")=some false)
  (i_dict_bool:kitOne K (.type "dict") (.type "bool")=some false)
  (i_int_tuple:kitOne K (.type "int") (.type "tuple")=some false)
  (i_bool_tuple:kitOne K (.type "bool") (.type "tuple")=some false)
  (i_NoneType_tuple:kitOne K (.type "NoneType") (.type "tuple")=some false)
  (i_str_tuple:kitOne K (.type "str") (.type "tuple")=some false)
  (i_tuple_tuple:kitOne K (.type "tuple") (.type "tuple")=some true)
  (i_list_tuple:kitOne K (.type "list") (.type "tuple")=some false)
  (i_dict_tuple:kitOne K (.type "dict") (.type "tuple")=some false)
  (i_int_list:kitOne K (.type "int") (.type "list")=some false)
  (i_bool_list:kitOne K (.type "bool") (.type "list")=some false)
  (i_NoneType_list:kitOne K (.type "NoneType") (.type "list")=some false)
  (i_str_list:kitOne K (.type "str") (.type "list")=some false)
  (i_tuple_list:kitOne K (.type "tuple") (.type "list")=some false)
  (i_list_list:kitOne K (.type "list") (.type "list")=some true)
  (i_dict_list:kitOne K (.type "dict") (.type "list")=some false)
  (i_NoneType_NoMeet:kitOne K (.type "NoneType") (.ref c_NoMeet)=some false)
  (i_NoMeet_NoMeet:kitOne K (.ref c_NoMeet) (.ref c_NoMeet)=some true)
  (i_NoneType_NoLine:kitOne K (.type "NoneType") (.ref c_NoLine)=some false)
  (i_NoMeet_NoLine:kitOne K (.ref c_NoMeet) (.ref c_NoLine)=some false)
  (i_NoneType_ValueError:kitOne K (.type "NoneType") (.type "ValueError")=some false)
  (i_NoMeet_ValueError:kitOne K (.ref c_NoMeet) (.type "ValueError")=some true)
  : ∃fd:FuncData,(∀(s:Shared) (v:Value),BindsTo s fd ⟨[v],[]⟩ [("_law_script",v)])/\∀base:Heap,K.In base->base.Ns mainGlobals mg->FnOk l.prog w K mg base (iJ l.prog w) 24 fa fd ["_law_script"] (vC K jn):=by
 have e:=hfa.symm.trans (mg_of X G n_law)
 cases e
 have jn:=Gs (st:=vQ) l_law c_law k_law;have T:Txt K mg { c_HallError:=c_HallError,c_Below:=c_Below,c_NoOver:=c_NoOver,c_NoRoom:=c_NoRoom,c_NoLine:=c_NoLine,c_NoMeet:=c_NoMeet }:={
  m_HallError:=mg_of X G n_HallError
  m_Below:=mg_of X G n_Below
  n_Below:=n_Below
  x_Below:=x_Below
  m_NoOver:=mg_of X G n_NoOver
  n_NoOver:=n_NoOver
  x_NoOver:=x_NoOver
  m_NoRoom:=mg_of X G n_NoRoom
  m_NoLine:=mg_of X G n_NoLine
  m_NoMeet:=mg_of X G n_NoMeet
  n_NoMeet:=n_NoMeet
  m_MOST_ROOTS:=⟨_,mg_of X G n_MOST_ROOTS⟩
  z_ValueError:=mg_none_of X G z_ValueError
  z_abs:=mg_none_of X G z_abs
  z_all:=mg_none_of X G z_all
  z_bool:=mg_none_of X G z_bool
  z_int:=mg_none_of X G z_int
  z_isinstance:=mg_none_of X G z_isinstance
  z_len:=mg_none_of X G z_len
  z_list:=mg_none_of X G z_list
  z_range:=mg_none_of X G z_range
  z_reversed:=mg_none_of X G z_reversed
  z_tuple:=mg_none_of X G z_tuple
  z_zip:=mg_none_of X G z_zip
  a_number:=by
   intro c hc C hC;unfold eG at hc;simp only [beq_iff_eq] at hc;subst hc; cases n_NoMeet.symm.trans hC; exact ⟨⟨e0_NoMeet,e1_NoMeet,e2_NoMeet,e3_NoMeet,e4,e5,e6_NoMeet,e7_NoMeet⟩,no_number_NoMeet⟩
  s_HallError:=by
   intro x C hC hs;unfold cR at hs
   split at hs
   ·rename_i e; subst e; cases n_NoMeet.symm.trans hC; exact s_NoMeet_HallError
   ·cases hs
  i_int:=by
   intro d b hd
   cases d <;> simp only [Bk.is_int] at hd <;> cases hd <;> first | exact i_int_int | exact i_bool_int | exact i_NoneType_int | exact i_str_int | exact i_tuple_int | exact i_list_int | exact i_dict_int
  i_bool:=by
   intro d b hd
   cases d <;> simp only [Bk.is_bool] at hd <;> cases hd <;> first | exact i_int_bool | exact i_bool_bool | exact i_NoneType_bool | exact i_str_bool | exact i_tuple_bool | exact i_list_bool | exact i_dict_bool
  i_tuple:=by
   intro d b hd
   cases d <;> simp only [Bk.is_tuple] at hd <;> cases hd <;> first | exact i_int_tuple | exact i_bool_tuple | exact i_NoneType_tuple | exact i_str_tuple | exact i_tuple_tuple | exact i_list_tuple | exact i_dict_tuple
  i_list:=by
   intro d b hd
   cases d <;> simp only [Bk.is_list] at hd <;> cases hd <;> first | exact i_int_list | exact i_bool_list | exact i_NoneType_list | exact i_str_list | exact i_tuple_list | exact i_list_list | exact i_dict_list
  i_NoMeet:=by
   intro d b hd
   cases d with
   | excf c _ _ =>
    simp only [dZ] at hd
    split at hd
    ·rename_i e; subst e; cases hd; intro C hC; cases n_NoMeet.symm.trans hC; exact ⟨⟨e0_NoMeet,e1_NoMeet,e2_NoMeet,e3_NoMeet,e4,e5,e6_NoMeet,e7_NoMeet⟩,i_NoMeet_NoMeet⟩
    ·cases hd
   | non=>simp only [dZ] at hd; cases hd; exact i_NoneType_NoMeet
   | _=>cases hd
  i_NoLine:=by
   intro d b hd
   cases d with
   | excf c _ _ =>
    simp only [d7] at hd
    split at hd
    ·rename_i e; subst e; cases hd; intro C hC; cases n_NoMeet.symm.trans hC; exact ⟨⟨e0_NoMeet,e1_NoMeet,e2_NoMeet,e3_NoMeet,e4,e5,e6_NoMeet,e7_NoMeet⟩,i_NoMeet_NoLine⟩
    ·cases hd
   | non=>simp only [d7] at hd; cases hd; exact i_NoneType_NoLine
   | _=>cases hd
  i_ValueError:=by
   intro d b hd
   cases d with
   | excf c _ _ =>
    simp only [cG] at hd
    split at hd
    ·rename_i e; subst e; cases hd; intro C hC; cases n_NoMeet.symm.trans hC; exact ⟨⟨e0_NoMeet,e1_NoMeet,e2_NoMeet,e3_NoMeet,e4,e5,e6_NoMeet,e7_NoMeet⟩,i_NoMeet_ValueError⟩
    ·cases hd
   | non=>simp only [cG] at hd; cases hd; exact i_NoneType_ValueError
   | _=>cases hd
 }
 refine ⟨fnOf "law" "law" (bO vQ) (bz vQ) (az vQ) .none kV_law dc_law pm_law an_law cd_law ct_law,fun s v=>.of_eq rfl,fun base _ _=>?_⟩;have G_NoMeet:=hW' (P:=l.prog) (w:=w) (base:=base) T xk_NoMeet;have G_qc1:=yf (P:=l.prog) (w:=w) (base:=base) T (bT X G l_qc1);have G_qy:=BW (P:=l.prog) (w:=w) (base:=base) T (gP X G l_qy);have G_qd1:=yg (P:=l.prog) (w:=w) (base:=base) T (bT X G l_qd1);have G_qo:=BX (P:=l.prog) (w:=w) (base:=base) T (gP X G l_qo);have G_qz:=BZ (P:=l.prog) (w:=w) (base:=base) T (gP X G l_qz);have G_qp:=B_ (P:=l.prog) (w:=w) (base:=base) T (gP X G l_qp);have G_qG:=Ca (P:=l.prog) (w:=w) (base:=base) T (bT X G l_qG);have G_qk:=Cd (P:=l.prog) (w:=w) (base:=base) T (gP X G l_qk);have G_qg:=Ce (P:=l.prog) (w:=w) (base:=base) T (gP X G l_qg);have G_qA:=Cg (P:=l.prog) (w:=w) (base:=base) T (gP X G l_qA);have G_qQ:=Ci (P:=l.prog) (w:=w) (base:=base) T (bT X G l_qQ);have G_qH:=Cj (P:=l.prog) (w:=w) (base:=base) T (gP X G l_qH);have G_qI:=Ck (P:=l.prog) (w:=w) (base:=base) T (fJ X G l_qI);have G_qJ:=Cm (P:=l.prog) (w:=w) (base:=base) T (bT X G l_qJ);have G_qB:=Cp (P:=l.prog) (w:=w) (base:=base) T (bT X G l_qB);have G_qC:=Cq (P:=l.prog) (w:=w) (base:=base) T (bT X G l_qC);have G_qR:=Cr (P:=l.prog) (w:=w) (base:=base) T (bT X G l_qR);have G_qk1:=yh G_qc1 T (bT X G l_qk1);have G_qW:=Cu G_qk T (gP X G l_qW);have G_qK:=Cw G_qo T (gP X G l_qK);have G_qe1:=yj G_qk G_qz G_qp T (gP X G l_qe1);have G_qq:=Cy G_qd1 T (bT X G l_qq);have G_qD:=Cz G_qI G_qQ T (bT X G l_qD);have G_ql:=CG G_qI T (bT X G l_ql);have G_qX:=CJ G_qJ G_qB T (bT X G l_qX);have G_qh:=CK G_qC G_qH T (bT X G l_qh);have G_qL:=CN G_qC T (bT X G l_qL);have G_qd:=CP G_qR T (bT X G l_qd);have G_qS:=CQ G_qH T (bT X G l_qS);have G_ql1:=ym G_qk1 T (bT X G l_ql1);have G_qf1:=yo G_qz G_qp G_qk1 T (gP X G l_qf1);have G_qa:=CT G_qk1 G_qy T (gP X G l_qa);have G_qY:=CV G_qk1 T (gP X G l_qY);have G_qT:=CW G_qB G_qX T (bT X G l_qT);have G_qr:=CZ G_qI G_qL T (bT X G l_qr);have G_qb:=C_ G_qh T (fJ X G l_qb);have G_qg1:=yq G_ql1 G_qW T (bT X G l_qg1);have G_qM:=Dc G_ql1 T (bT X G l_qM);have G_qZ:=Dd G_qT T (bT X G l_qZ);have G_qE:=De G_qS G_qb T (fJ X G l_qE);have G_qU:=Df G_qQ G_qB G_qL G_qr G_qD T (fJ X G l_qU);have G_qF:=Dg G_qz G_qp G_qG T (fJ X G l_qF);have G_qa1:=yr G_ql1 G_qY G_qg1 T (bT X G l_qa1);have G_qe:=Dh G_qJ T (fJ X G l_qe);have G_qh1:=yt G_qk1 G_qF T (fJ X G l_qh1);have G_qN:=Di G_qk G_qz G_qp G_qG G_qF T (bT X G l_qN);have G_qs:=Dj G_qe T (fJ X G l_qs);have G_qm1:=yu G_qk1 G_qN T (bT X G l_qm1);have G_qc:=Dk G_ql1 G_qh1 T (fJ X G l_qc);have G_qO:=Dl G_qh1 T (bT X G l_qO);have G_qP:=Dm G_qh1 T (fJ X G l_qP);have G_qb1:=yw G_qX G_qT G_qs T (fJ X G l_qb1);have G_qt:=Dn G_qX G_qT G_qs T (fJ X G l_qt);have G_qi1:=yz G_qX G_qL G_qT G_qs G_qt T (fJ X G l_qi1);have G_qu:=Dq G_qJ G_qB G_qe T (bT X G l_qu);have G_qm:=Dr G_qz G_qp G_qN G_qg T (bT X G l_qm);have G_qv:=Ds G_qT G_qu G_qb1 T (fJ X G l_qv);have G_qw:=Dt G_qt G_qu T (fJ X G l_qw);have G_qV:=Du G_qd1 G_qk1 G_qh1 G_qm1 G_qe1 T (bT X G l_qV);have G_qn1:=yC G_qm T (bT X G l_qn1);have G_qo1:=yD G_qh1 G_qK G_qV T (fJ X G l_qo1);have G_qp1:=yE G_qW G_qn1 T (bT X G l_qp1);have G_qq1:=yF G_qm1 G_qK G_qf1 G_qa T (bT X G l_qq1) (fun R k hk g=>(uW G_qd1 G_qO G_qA G_qo1 T (bT X G l_qi) hk g )) (fun R k hk g=>(uX G_qd1 G_ql1 G_qA G_qo1 G_qa1 G_qp1 T (vG X G l_qn) hk g ));have G_qi:=uW G_qd1 G_qO G_qA G_qo1 T (bT X G l_qi) (by decide) G_qq1;have G_qn:=uX G_qd1 G_ql1 G_qA G_qo1 G_qa1 G_qp1 T (vG X G l_qn) (by decide) G_qq1;have G_qj1:=yG G_qn1 G_qq1 T (bT X G l_qj1);have G_qj:=Dv G_qd1 G_qW G_qg1 G_qh1 G_qK G_qn1 G_qo1 G_qc G_qj1 G_qP G_qq G_qM T (fJ X G l_qj) G_NoMeet;have G_qx:=Dw G_qj T (vG X G l_qx);have G_qf:=Dy G_qB G_qT G_qs G_qu G_qj G_qd G_qZ G_qE G_qw G_qv T (vG X G l_qf);exact Uo G_qI G_qQ G_qB G_qR G_qX G_qL G_qr G_qD G_qt G_qu G_qj G_ql G_qU G_qi1 G_qx G_qf T jn
theorem walk {l:OpenLaw} {q:Program} {loose:List Str} {XP:(Str->Option Value)->Heap->Prop} {YP:World->Heap->Prop} {d:DefRec} {K:Params->Frag} (hn:l.most=some 63) (hdf:d.params.defaults=[])
  (hY:∀(w:World) (h:Heap),YP w h->(K w.params).In h)
  (F:∀(w:World) (mg:Str->Option Value) (fa:Addr) (h:Heap),(K w.params).In h->h.Ns mainGlobals mg->mg d.name=some (.ref fa) ->
   ∃fd:FuncData,(∀(s:Shared) (u:Value),BindsTo s fd ⟨[u],[]⟩ [("_law_script",u)])/\∀base:Heap,(K w.params).In base->base.Ns mainGlobals mg->FnOk l.prog w (K w.params) mg base (iJ l.prog w) 24 fa fd ["_law_script"] (vC (K w.params) jn)) :
  WalkO q loose XP YP l.row.toRowW d [] (fun f vs=>PySem.call f vs) :=
 L2.walk_of (n:=63) (k:=24) (x:="_law_script") (CX:=fun w=>iJ l.prog w) (sp:=fun w=>vC (K w.params) jn) hn (by decide) hdf ⟨rfl,by decide,by decide⟩ hY F
  (fun w H a ns hl _ hS=>⟨[.lst (ns.map .int)],.cons (vB hS (Oc ns)) .nil,by rw [Wb ns hl]; exact fun v H' _ r=>by rw [Rep] at r; exact r⟩)
  fun _ _ _ _ _ z=>by obtain ⟨_,_,_,_,_,_,_,_,_,_,z⟩:=z; exact z
end K24
open PySem PySem.W PyProof.Rows
namespace PySem.W.Fast
def tw2315688477588503000:=()
def tw224962305888165973:=()
def tw13528624037818661403:=()
def tw6755672507517209766:=()
def tw16160454308174664090:=()
def tw7521157615373012612:=()
def tw2212115005867899868:=()
def tw17581454659730597710:=()
def tw11497798297817521728:=()
def tw16621267027228951031:=()
def tw6323208131351880473:=()
def tw10833375460346970551:=()
def tw11339531953477661939:=()
def tw6407309072931913608:=()
def tw4665117290695855378:=()
def tw18418684000013348287:=()
def tw11017424197347230541:=()
def tw7455042488094569792:=()
def tw11647649127012626620:=()
def tw5051694701516280990:=()
def tw11385430607422651737:=()
def tw8368180870750757440:=()
def tw7161110275370848351:=()
def tw6605538857396098020:=()
def tw8407538204021129906:=()
def tw4871941466953886405:=()
def tw9463293642691702315:=()
def tw4247322109279260452:=()
def tw8465645229917772034:=()
def tw11515642720956407100:=()
def tw1913243636636195299:=()
def tw11640524165382746964:=()
def tw11752772264400396344:=()
def tw15885060988776308556:=()
def tw3211900778068939782:=()
def tw16086320372130163813:=()
def tw6481944769215325537:=()
def tw1801645735496464815:=()
def tw3508590672678027607:=()
def tw6472424802470914007:=()
def tw16485241762665190429:=()
def tw8377081824145114221:=()
def tw5399837138085580223:=()
def tw3912948067364311355:=()
def tw9447892863224664739:=()
def tw8849162047082547934:=()
def tw12096608046419501050:=()
def tw6158930541353513802:=()
def tw16365675508479723023:=()
def tw11726883917513936607:=()
def tw4374766396774570663:=()
def tw4164510324899964654:=()
def tw10306081389925314404:=()
def tw12537004488068514406:=()
def tw13740069772602999812:=()
def tw474855195170697238:=()
def tw17889613606938481300:=()
def tw9513086371838834103:=()
def tw4358927366717073717:=()
def tw11352494150659844822:=()
def tw13522374261525288614:=()
def tw12872852329015626433:=()
def tw13091418099958925944:=()
def tw636370487502577355:=()
def tw2556370385614378232:=()
def tw14976753345303679396:=()
def tw2670313585104159685:=()
def tw8884431319886785568:=()
def tw1496700805809929266:=()
def tw3279495643182339708:=()
def tw4988147064665333003:=()
def tw7321315861968433140:=()
def tw5190192216635546577:=()
def tw9215206970905177188:=()
def tw15712511140248190969:=()
def tw11894213870777650455:=()
def tw7220031079752527519:=()
def tw12471857183316339607:=()
def tw6928570611738536392:=()
def tw11663951681343972332:=()
def tw13168725451973658153:=()
def tw8558318063139366332:=()
def tw4859203903756966326:=()
def tw16761126106137197156:=()
def tw14083755823812181511:=()
def tw6078088038215670825:=()
def tw11049636102455756099:=()
def tw5077173857426094976:=()
def tw7848589529586643312:=()
def tw1071772696468636075:=()
def tw7565670926436020359:=()
def tw2858628776489365273:=()
def tw5490397923382182810:=()
def tw3923671337561143940:=()
def tw11603644061761798282:=()
def tw17074493189806039622:=()
def tw6573158815487924417:=()
def tw13534652755987132237:=()
def tw10523881836766162506:=()
def tw7955670101596444495:=()
def tw6609986762765043757:=()
def tw1869901736321644445:=()
def tw5447585305348425819:=()
def tw18394855642081642536:=()
def tw13758759043482656443:=()
def tw8989932845352849428:=()
def tw13269760192801464451:=()
def tw15520721039428660145:=()
def tw3249548553782207973:=()
def tw7578487726259555800:=()
def tw5806133093799559347:=()
def tw10644700698871603396:=()
def tw5961236677561678947:=()
def tw10558637962069161135:=()
def tw6566430349885161567:=()
def tw14541142178095755824:=()
def tw9028123036029133995:=()
def tw1037010693756179491:=()
def tw9551633686963305123:=()
def tw8081699022543345188:=()
def tw3981027051044151604:=()
def tw12497746789635517487:=()
def tw3597969526987564143:=()
def tw7750012772070947918:=()
def tw8091752593964818919:=()
def tw1549833032652710156:=()
def tw15325231982564922643:=()
def tw15289486107596828198:=()
def tw4062578558776118473:=()
def tw10753794916017329290:=()
def tw5092225255470298776:=()
def tw5767112305776391727:=()
def tw9733597180359316681:=()
def tw635729776143015329:=()
def tw11669475367287551317:=()
def tw14170144440889659331:=()
def tw4856235009073580933:=()
def tw10307759284684806286:=()
def tw3542260381037007041:=()
def tw1590573148701564436:=()
def tw13269286005281530391:=()
def tw16408850463245499582:=()
def tw4147606626947256931:=()
def tw15382988319048369738:=()
def tw12010078464427815955:=()
def tw85598237111542500:=()
def tw6097042142047149599:=()
def tw5670844715514786091:=()
def tw13904083685012330450:=()
def tw10485608993238046391:=()
def tw17887341674465101248:=()
def tw1879117565789771435:=()
def tw15796819802237805679:=()
def tw15069552589633881460:=()
def tw10277757584948471861:=()
def tw13026275404857821925:=()
def tw4715169604663856626:=()
def tw870411183336555989:=()
def tw7800125374001987791:=()
def tw3472493021667504774:=()
def tw8589437599557470101:=()
def tw8382013403228309949:=()
def tw10060009524821953626:=()
def tw4161251847882558891:=()
def tw6245599325533973959:=()
def tw3668214540405627387:=()
def tw17354604609195045670:=()
def tw3856493257845119716:=()
def tw12159332157388404239:=()
def tw6230328335135359010:=()
def tw17623094537583230773:=()
def tw7363068990964509612:=()
def tw7423568199696801523:=()
def tw5559831070342186401:=()
def tw18080041000681867026:=()
def tw10861062147406401598:=()
def tw7394688530392182491:=()
def tw15663635726313430334:=()
def tw10158173865729601731:=()
def tw10438057824696296365:=()
def tw9129951612131185123:=()
def tw7483064153771155240:=()
def tw3140127161018342344:=()
def tw3523509224377882092:=()
def tw659634926112667601:=()
def tw15413666997677799815:=()
def tw15573618085784309129:=()
def tw14910359102331125823:=()
def tw11300558348670240941:=()
def tw14132922539040186596:=()
def tw7016905110466874922:=()
def tw16195380308274839576:=()
def tw14346499596543055883:=()
def tw12645504979273322252:=()
def tw1875426735985974665:=()
def tw7010734106409465154:=()
def tw48751272299496490:=()
def tw16255029233641514493:=()
def tw13215439180133562909:=()
def tw319600855037467958:=()
def tw4117485054856552443:=()
def tw15576667991285096260:=()
def tw5339762091238354034:=()
def tw8919631292138395042:=()
def tw17062518095910149936:=()
def tw3994355307340176405:=()
def tw10834600198482924029:=()
def tw8860845070986980554:=()
def tw14498142916356113308:=()
def tw12939472111022614505:=()
def tw14942960180460435565:=()
def tw17819735273404090305:=()
def tw14215653081824669665:=()
end PySem.W.Fast
set_option maxRecDepth 100000 in
set_option maxHeartbeats 0 in
theorem PySem.Challenge.cw_compasshall_k24_lines_meet_rings_holds : PySem.Challenge.rw_compasshall_k24_lines_meet_rings.Holds := by
  w_on; o_law; k_head; (case hw => w_witness2)
  k_fill
  refine K24.walk (l := PySem.Challenge.rw_compasshall_k24_lines_meet_rings) rfl rfl (fun w h Y => kIn_of Y) ?F
  case F =>
    intro w mg fa h KX G hmg
    refine' K24.all_mk KX G hmg ?q0 ?q1 ?q2 ?q3 ?q4 ?q5 ?q6 ?q7 ?q8 ?q9 ?q10 ?q11 ?q12 ?q13 ?q14 ?q15 ?q16 ?q17 ?q18 ?q19 ?q20 ?q21 ?q22 ?q23 ?q24 ?q25 ?q26 ?q27 ?q28 ?q29 ?q30 ?q31 ?q32 ?q33 ?q34 ?q35 ?q36 ?q37 ?q38 ?q39 ?q40 ?q41 ?q42 ?q43 ?q44 ?q45 ?q46 ?q47 ?q48 ?q49 ?q50 ?q51 ?q52 ?q53 ?q54 ?q55 ?q56 ?q57 ?q58 ?q59 ?q60 ?q61 ?q62 ?q63 ?q64 ?q65 ?q66 ?q67 ?q68 ?q69 ?q70 ?q71 ?q72 ?q73 ?q74 ?q75 ?q76 ?q77 ?q78 ?q79 ?q80 ?q81 ?q82 ?q83 ?q84 ?q85 ?q86 ?q87 ?q88 ?q89 ?q90 ?q91 ?q92 ?q93 ?q94 ?q95 ?q96 ?q97 ?q98 ?q99 ?q100 ?q101 ?q102 ?q103 ?q104 ?q105 ?q106 ?q107 ?q108 ?q109 ?q110 ?q111 ?q112 ?q113 ?q114 ?q115 ?q116 ?q117 ?q118 ?q119 ?q120 ?q121 ?q122 ?q123 ?q124 ?q125 ?q126 ?q127 ?q128 ?q129 ?q130 ?q131 ?q132 ?q133 ?q134 ?q135 ?q136 ?q137 ?q138
    case q0 | q1 => k_is
    case q2 => k_exc
    case q3 => k_is
    case q4 => k_exc
    case q5 | q6 | q7 => k_is
    case q8 => (refine' DL.xk_mk ?a ?b ?c ?d ?e ?f ?g ?h ?i ?j ?k ?l; (case a => k_is); (case b => k_is); (case c => k_is); (case d => k_is); (case e => k_is); (case f => k_exc); (case g => k_is); (case h => k_is); (case i => k_is); (case j => k_is); (case k => k_is); (case l => k_is))
    case q9 => k_is
    case q10 | q11 | q12 | q13 | q14 | q15 | q16 | q17 | q18 | q19 | q20 | q21 | q22 | q23 | q24 | q25 | q26 | q27 | q28 | q29 | q30 | q31 | q32 | q33 | q34 | q35 | q36 | q37 | q38 | q39 | q40 | q41 | q42 | q43 | q44 | q45 | q46 | q47 | q48 | q49 | q50 | q51 | q52 | q53 | q54 | q55 | q56 | q57 | q58 | q59 | q60 | q61 | q62 | q63 | q64 | q65 | q66 | q67 | q68 | q69 | q70 | q71 | q72 | q73 | q74 | q75 | q76 | q77 | q78 => (refine' DL.lk_mk ?a ?b ?c ?d; (case a => k_is); (case b => k_is); (case c => k_is); (case d => k_is))
    case q79 | q80 | q81 | q82 | q83 | q84 | q85 | q86 | q87 | q88 | q89 | q90 | q91 | q92 | q93 | q94 | q95 | q96 | q97 | q98 | q99 | q100 | q101 | q102 | q103 => k_is
    case q104 => kts_exm
    case q105 | q106 | q107 | q108 | q109 | q110 | q111 | q112 | q113 | q114 | q115 | q116 | q117 | q118 | q119 | q120 | q121 | q122 | q123 | q124 | q125 | q126 | q127 | q128 | q129 | q130 | q131 | q132 | q133 | q134 | q135 | q136 | q137 | q138 => kit_is
