import PyProof.Rows.All
import Wide.All
import OpenK.AllK
import Wide.FinOn
import Lean
import PyProof.EqAt
import PyProof.EqKinds
import PyProof.TupleCall
import PySem.Challenge.RW_compasshall_k29_no_rows
noncomputable section
set_option Elab.async false
set_option linter.all false
set_option maxRecDepth 100000
namespace L2
open PySem PySem.Spec PyProof.Rows
abbrev Key:=Sum Int Str
noncomputable def iu:Key->Value->Bool
 | .inl k,v=>Value.isInt k v
 | .inr x,v=>Value.isStrOf x v
noncomputable def zT (w:World):Key->Int
 | .inl k=>hashInt k
 | .inr x=>hashStr w x
theorem o8:∀{k:Key} {v:Value},iu k v=true->(∃i t,k=Sum.inl i/\v=Value.int i t)\/(∃x t,k=Sum.inr x/\v=Value.str x t)
 | .inl i,v,h=>by
  obtain ⟨t,e⟩:=Value.isInt_shape (k:=i) (v:=v) h;exact .inl ⟨i,t,rfl,e⟩
 | .inr x,v,h=>by
  obtain ⟨t,e⟩:=Value.isStrOf_shape (x:=x) (v:=v) h;exact .inr ⟨x,t,rfl,e⟩
theorem Hw (i:Int) (t:Tok):iu (.inl i) (.int i t)=true:=by simp [iu,Value.isInt]
theorem Hx (x:Str) (t:Tok):iu (.inr x) (.str x t)=true:=by simp [iu,Value.isStrOf]
theorem Hy (a b:Int):decide ((Sum.inl a:Key)=Sum.inl b)=(a == b):=by
 by_cases e:a=b
 ·subst e; simp
 ·have h:¬(Sum.inl a:Key)=Sum.inl b:=fun q=>e (Sum.inl.inj q);rw [decide_eq_false h];exact (beq_eq_false_iff_ne.mpr e).symm
theorem Hz (a b:Str):decide ((Sum.inr a:Key)=Sum.inr b)=decide (a=b):=by
 by_cases e:a=b
 ·subst e; simp
 ·have h:¬(Sum.inr a:Key)=Sum.inr b:=fun q=>e (Sum.inr.inj q);rw [decide_eq_false h,decide_eq_false e]
theorem HB (a:Int) (b:Str):decide ((Sum.inl a:Key)=Sum.inr b)=false:=decide_eq_false (fun q=>nomatch q)
theorem HD (a:Str) (b:Int):decide ((Sum.inr a:Key)=Sum.inl b)=false:=decide_eq_false (fun q=>nomatch q)
noncomputable def aP (prog:Program) (w:World):PySem.KeyKind prog w Key where
 is:=iu
 hash:=zT w
 inj:=fun v a b ha hb=>by
  rcases o8 ha with ⟨i,t,rfl,rfl⟩ | ⟨x,t,rfl,rfl⟩
  ·rcases o8 hb with ⟨j,u,rfl,e⟩ | ⟨y,u,rfl,e⟩
   ·injection e with e1 _; rw [e1]
   ·exact nomatch e
  ·rcases o8 hb with ⟨j,u,rfl,e⟩ | ⟨y,u,rfl,e⟩
   ·exact nomatch e
   ·injection e with e1 _; rw [e1]
 byValue:=fun k v h=>by
  rcases o8 h with ⟨i,t,rfl,rfl⟩ | ⟨x,t,rfl,rfl⟩ <;> rfl
 pyHash:=fun hv h=>by
  rcases o8 hv with ⟨i,t,rfl,rfl⟩ | ⟨x,t,rfl,rfl⟩
  ·exact wpAny_pyHash_int h
  ·exact wpAny_pyHash_str h
 eqBool:=fun hu hv h=>by
  rcases o8 hu with ⟨i,t,rfl,rfl⟩ | ⟨x,t,rfl,rfl⟩
  ·rcases o8 hv with ⟨j,u,rfl,rfl⟩ | ⟨y,u,rfl,rfl⟩
   ·rw [Hy] at h; exact wpAny_eqBool_int h
   ·rw [HB] at h; exact SeqAt.EqAt.int_str i t y u _ _ _ _ h
  ·rcases o8 hv with ⟨j,u,rfl,rfl⟩ | ⟨y,u,rfl,rfl⟩
   ·rw [HD] at h; exact SeqAt.EqAt.str_int x t j u _ _ _ _ h
   ·rw [Hz] at h; exact wpAny_eqBool_str h
 «strs»:=fun k x t v h=>by
  rcases o8 h with ⟨i,u,rfl,e⟩ | ⟨y,u,rfl,e⟩
  ·exact nomatch e
  ·injection e with e1 _
   subst e1
   cases v <;> rfl
theorem HF (prog:Program) (w:World) (i:Int) (t:Tok):(aP prog w).is (.inl i) (.int i t)=true:=Hw i t
theorem HH (prog:Program) (w:World) (x:Str) (t:Tok):(aP prog w).is (.inr x) (.str x t)=true:=Hx x t
inductive V where
 | non | bl (b:Bool) | int (i:Int) | str (x:Str) | byt (b:Array UInt8) | flt (b:UInt64) | ref (a:Addr) | ty (n:String)
 deriving DecidableEq
noncomputable def RelV:V->Value->Prop
 | .non,u=>u=Value.none
 | .bl b,u=>u=Value.bool b
 | .int i,u=>∃t,u=Value.int i t
 | .str x,u=>∃t,u=Value.str x t
 | .byt b,u=>∃t,u=Value.bytes b t
 | .flt b,u=>∃t,u=Value.float b t
 | .ref a,u=>u=Value.ref a
 | .ty n,u=>u=Value.type n
abbrev Vals:List V->List Value->Prop:=Paired RelV
theorem Vals.length {xs:List V} {us:List Value} (r:Vals xs us):xs.length=us.length:=Paired.length r
theorem Vals.get:∀{xs:List V} {us:List Value} {i:Nat} {x:V},Vals xs us->xs[i]? = some x->∃u,us[i]? = some u/\RelV x u
 | _,_,_,_,.nil,e=>by simp at e
 | _,_,0,_,.cons r _,e=>by simp at e; subst e; exact ⟨_,rfl,r⟩
 | _,_,i + 1,x,.cons _ t,e=>by
  obtain ⟨u,h1,h2⟩:=Vals.get (i:=i) (x:=x) t (by simpa using e);exact ⟨u,by simpa using h1,h2⟩
theorem Vals.set {x:V} {u:Value} (r:RelV x u):∀{xs:List V} {us:List Value} (i:Nat),Vals xs us->Vals (xs.set i x) (us.set i u)
 | _,_,_,.nil=>.nil
 | _,_,0,.cons _ t=>.cons r t
 | _,_,i + 1,.cons q t=>.cons q (Vals.set r i t)
theorem Vals.append:∀{xs ys:List V} {us ws:List Value},Vals xs us->Vals ys ws->Vals (xs ++ ys) (us ++ ws)
 | _,_,_,_,.nil,s=>s
 | _,_,_,_,.cons r t,s=>.cons r (Vals.append t s)
theorem Vals.take:∀{xs:List V} {us:List Value} (n:Nat),Vals xs us->Vals (xs.take n) (us.take n)
 | _,_,0,_=>.nil
 | _,_,_ + 1,.nil=>.nil
 | _,_,n + 1,.cons r t=>.cons r (Vals.take n t)
theorem Vals.drop:∀{xs:List V} {us:List Value} (n:Nat),Vals xs us->Vals (xs.drop n) (us.drop n)
 | _,_,0,r=>r
 | _,_,_ + 1,.nil=>.nil
 | _,_,n + 1,.cons _ t=>Vals.drop n t
theorem Vals.none_of:∀{xs:List V} {us:List Value} {i:Nat},Vals xs us->xs[i]? = none->us[i]? = none:=fun {xs us i} r e=>by
 have h1:=r.length;have h2:xs.length<=i:=List.getElem?_eq_none_iff.mp e;exact List.getElem?_eq_none_iff.mpr (by omega)
noncomputable def RelO:Option V->Option Value->Prop
 | some v,some u=>RelV v u
 | none,none=>True
 | _,_=>False
noncomputable def KV {κ:Type}:List (κ×V)->List (κ×Value)->Prop:=Paired fun (p:κ×V) (q:κ×Value)=>p.1=q.1/\RelV p.2 q.2
noncomputable def kV:Key->V
 | .inl i=>.int i
 | .inr x=>.str x
inductive HO where
 | lst (xs:List V)
 | tup (xs:List V)
 | dK (kvs:List (Key×V)) | dT (kvs:List (List Key×V))
 | set (S:Int->Bool) (n:Nat)
 | ins (C dx:Addr) (fs:List (Str×V))
 | own (x:Addr)
 | xd (fs:List (Str×V))
 | met (f x:Addr)
 | rng (lo hi:Int)
 | frz (o:Obj) (u:HO)
 | tbl (ps:Array Value)
 | ext (φ:Heap->Prop)
abbrev Hp:=Addr->Option HO
noncomputable def upd (H:Hp) (a:Addr) (o:HO):Hp:=fun b=>if b=a then some o else H b
theorem bR {H:Hp} {a:Addr} {o:HO}:upd H a o a=some o:=by unfold upd; rw [if_pos rfl]
theorem aL {H:Hp} {a b:Addr} {o:HO} (h:b≠a):upd H a o b=H b:=by unfold upd; rw [if_neg h]
theorem upd_upd {H:Hp} {a:Addr} {o u:HO}:upd (upd H a o) a u=upd H a u:=by
 funext b; unfold upd; split <;> rfl
theorem HJ {H:Hp} {a b:Addr} {o u:HO} (h:H a=some o) (h':H b=some u) (d:o≠u):a≠b:=by
 intro e; subst e; rw [h] at h'; exact d (Option.some.inj h')
theorem jP {H:Hp} {a b:Addr} {o:HO} (h:H a=some o) (h':H b=none):a≠b:=by
 intro e; subst e; rw [h] at h'; cases h'
section
variable (P:Program) (w:World)
noncomputable def ObjOk (H:Hp) (h:Heap) (a:Addr):HO->Prop
 | .lst xs=>xs.length<=sizeLine/\∃(its:List Value) (n:Nat),Vals xs its/\h.get? a=some { cls:=.type "list",data:=.seq its.toArray n }
 | .tup xs=>xs.length<=sizeLine/\∃its:List Value,Vals xs its/\IsTup h a its.toArray
 | .dK kvs=>kvs.length<=sizeLine/\(a == sysModules)=false/\∃vs,KV kvs vs/\h.DictOf (aP P w) a vs
 | .dT kvs=>kvs.length<=sizeLine/\(a == sysModules)=false/\∃xs:List (List Key×Addr×Value),
   Paired (fun (p:List Key×V) (q:List Key×Addr×Value)=>p.1=q.1/\H q.2.1=some (.tup (p.1.map kV))/\RelV p.2 q.2.2) kvs xs /\
   ∃o es ep,h.get? a=some o/\o.ExactDict/\o.data=.dict es ep/\es.toList=xs.map (entryOfKey (tupleKind (aP P w)))/\(xs.map (·.1)).Nodup
 | .set S n=>h.SetOf (intKind P w) a S n
 | .ins C dx fs=>H dx=some (.own a)/\fs.length<=1000/\dx≠a/\h.get? a=some (PySem.W.instObj C dx) /\
   ∃mA,h.Ns1 dx mA/\(∀f,RelO (fs.lookup f) (mA f))/\PySem.Within mA (fs.map (·.1))
 | .own _=>∃o,h.get? a=some o
 | .xd fs=>∃mA,h.Ns1 a mA/\∀f,RelO (fs.lookup f) (mA f)
 | .rng lo hi=>∃t u v,h.get? a=some { cls:=.type "range",data:=.fields #[.int lo t,.int hi u,.int 1 v] }
 | .frz o u=>h.get? a=some o/\ObjOk H h a u
 | .tbl ps=>h.get? a=some { cls:=.none,data:=.fields ps }
 | .met f x=>h.get? a=some (PySem.W.methodObj (.ref f) (.ref x))
 | .ext φ=>φ h/\(∃o,h.get? a=some o)/\∀h1 h2:Heap,φ h1->(∀o,h1.get? a=some o->h2.get? a=some o)->φ h2
noncomputable def HOk (H:Hp) (h:Heap):Prop:=∀a o,H a=some o->ObjOk P w H h a o
end
section
variable {P:Program} {w:World} {H H':Hp} {h h':Heap} {a:Addr} {o:HO}
theorem ObjOk.lt (x:ObjOk P w H h a o):a < h.objs.size:=by
 cases o with
 | lst xs=>obtain ⟨_,_,_,_,e⟩:=x; exact Heap.lt_size e
 | tup xs=>obtain ⟨_,_,_,p⟩:=x; exact p.lt
 | dK kvs=>obtain ⟨_,_,_,_,o,_,_,e,_⟩:=x; exact Heap.lt_size e
 | dT kvs=>obtain ⟨_,_,_,_,o,_,_,e,_⟩:=x; exact Heap.lt_size e
 | set S n=>obtain ⟨o,_,_,_,e,_⟩:=x; exact Heap.lt_size e
 | ins C dx fs=>obtain ⟨_,_,_,e,_⟩:=x; exact Heap.lt_size e
 | own y=>obtain ⟨_,e⟩:=x; exact Heap.lt_size e
 | xd fs=>obtain ⟨_,⟨_,_,_,e,_⟩,_⟩:=x; exact Heap.lt_size e
 | rng lo hi=>obtain ⟨_,_,_,e⟩:=x; exact Heap.lt_size e
 | frz ob u=>obtain ⟨e,_⟩:=x; exact Heap.lt_size e
 | tbl ps=>exact Heap.lt_size (show h.get? a=some _ from x)
 | met f y=>exact Heap.lt_size (show h.get? a=some _ from x)
 | ext φ=>obtain ⟨_,⟨_,e⟩,_⟩:=x; exact Heap.lt_size e
theorem Paired.mapP {α β:Type} {F G:α->β->Prop}:∀{l₁:List α} {l₂:List β},Paired F l₁ l₂->(∀a b,F a b->G a b)->Paired G l₁ l₂
 | _,_,.nil,_=>.nil
 | _,_,.cons r t,f=>.cons (f _ _ r) (Paired.mapP t f)
theorem ObjOk.stay (x:ObjOk P w H h a o) (k:∀b u,(b=a\/H b=some (.own a))->h.get? b=some u->h'.get? b=some u)
  (ho:∀b,H b=some (.own a)->H' b=some (.own a)) (ht:∀b xs,H b=some (.tup xs)->H' b=some (.tup xs)):ObjOk P w H' h' a o:=by
 induction o with
 | lst xs=>obtain ⟨z,its,n,r,e⟩:=x; exact ⟨z,its,n,r,k _ _ (.inl rfl) e⟩
 | tup xs=>obtain ⟨z,its,r,ob,e,c⟩:=x; exact ⟨z,its,r,ob,k _ _ (.inl rfl) e,c⟩
 | dK kvs=>obtain ⟨z,y,vs,r,ob,es,ep,e,c⟩:=x; exact ⟨z,y,vs,r,ob,es,ep,k _ _ (.inl rfl) e,c⟩
 | dT kvs =>
  obtain ⟨z,y,xs,r,ob,es,ep,e,c⟩:=x;exact ⟨z,y,xs,Paired.mapP r fun p q z=>⟨z.1,ht _ _ z.2.1,z.2.2⟩,ob,es,ep,k _ _ (.inl rfl) e,c⟩
 | set S n=>obtain ⟨ob,es,ep,t,e,c⟩:=x; exact ⟨ob,es,ep,t,k _ _ (.inl rfl) e,c⟩
 | ins C dx fs =>
  obtain ⟨d,z,ne,e,mA,⟨od,es,ep,e2,c⟩,r⟩:=x;exact ⟨ho _ d,z,ne,k _ _ (.inl rfl) e,mA,⟨od,es,ep,k _ _ (.inr d) e2,c⟩,r⟩
 | own y=>obtain ⟨ob,e⟩:=x; exact ⟨ob,k _ _ (.inl rfl) e⟩
 | xd fs=>obtain ⟨mA,⟨od,es,ep,e,c⟩,r⟩:=x; exact ⟨mA,⟨od,es,ep,k _ _ (.inl rfl) e,c⟩,r⟩
 | rng lo hi=>obtain ⟨t,u,v,e⟩:=x; exact ⟨t,u,v,k _ _ (.inl rfl) e⟩
 | frz ob u ih=>obtain ⟨e,q⟩:=x; exact ⟨k _ _ (.inl rfl) e,ih q⟩
 | tbl ps =>
  have e:h.get? a=some { cls:=.none,data:=.fields ps }:=x;show h'.get? a=some { cls:=.none,data:=.fields ps };exact k a _ (.inl rfl) e
 | met f y =>
  have e:h.get? a=some (PySem.W.methodObj (.ref f) (.ref y)):=x;show h'.get? a=some (PySem.W.methodObj (.ref f) (.ref y));exact k a _ (.inl rfl) e
 | ext φ=>obtain ⟨p,⟨o,e⟩,st⟩:=x; exact ⟨st _ _ p fun o q=>k _ _ (.inl rfl) q,⟨o,k _ _ (.inl rfl) e⟩,st⟩
theorem HOk.lt (x:HOk P w H h) (e:H a=some o):a < h.objs.size:=(x a o e).lt
theorem HOk.fresh (x:HOk P w H h) (e:h.objs.size<=a):H a=none:=by
 cases q:H a with
 | none=>rfl
 | some u=>exact absurd (Nat.lt_of_lt_of_le (x.lt q) e) (Nat.lt_irrefl _)
theorem HOk.kept (x:HOk P w H h) (k:∀b u,h.get? b=some u->h'.get? b=some u):HOk P w H h':=fun a o e =>
 (x a o e).stay (fun b u _ q=>k b u q) (fun _ q=>q) fun _ _ q=>q
theorem HOk.laid (x:HOk P w H h) (k:∀b u,h.get? b=some u->h'.get? b=some u) (hp:h.objs.size<=a) (new:ObjOk P w (upd H a o) h' a o):HOk P w (upd H a o) h':=fun b u e=>by
 have hn:=x.fresh hp
 by_cases hb:b=a
 ·subst hb; rw [bR] at e; cases e; exact new
 ·rw [aL hb] at e;exact (x b u e).stay (fun c v _ q=>k c v q) (fun c q=>by rw [aL (jP q hn)]; exact q) fun c xs q=>by rw [aL (jP q hn)]; exact q
end
noncomputable def Rd (H:Hp) (a:Addr) (u:HO):Prop:=H a=some u\/∃o,H a=some (.frz o u)
theorem Rd.of {H:Hp} {a:Addr} {u:HO} (h:H a=some u):Rd H a u:=.inl h
theorem Rd.ok {P:Program} {w:World} {H:Hp} {h:Heap} {a:Addr} {u:HO} (r:Rd H a u) (x:HOk P w H h):ObjOk P w H h a u:=by
 rcases r with r | ⟨o,r⟩
 ·exact x a u r
 ·obtain ⟨_,q⟩:=x a _ r;exact q
noncomputable def uQ:Option HO->Prop
 | some (.lst _)=>True
 | some (.dK _)=>True
 | some (.dT _)=>True
 | some (.set _ _)=>True
 | some (.ins _ _ _)=>True
 | some (.ext _)=>True
 | _=>False
section
variable {P:Program} {w:World} {H:Hp} {h h':Heap} {x e:Addr} {o':HO}
theorem HOk.write (ok:HOk P w H h) (mu:uQ (H x)) (he:e=x\/H e=some (.own x)) (k:∀b u,b≠e->h.get? b=some u->h'.get? b=some u) (heo:∃u,h'.get? e=some u)
  (new:ObjOk P w (upd H x o') h' x o'):HOk P w (upd H x o') h':=fun b u q=>by
 have nown:∀c y,H c=some (.own y)->c≠x:=fun c y r z=>by subst z; rw [r] at mu; exact mu
 have ntup:∀c xs,H c=some (.tup xs)->c≠x:=fun c xs r z=>by subst z; rw [r] at mu; exact mu
 by_cases hb:b=x
 ·subst hb; rw [bR] at q; cases q; exact new
 ·rw [aL hb] at q
  by_cases hbe:b=e
  ·have q':H b=some (.own x):=by
    rcases he with z | z
    ·exact absurd (hbe.trans z) hb
    ·rw [hbe]; exact z
   rw [q] at q'; cases q';obtain ⟨v,hv⟩:=heo;exact ⟨v,by rw [hbe]; exact hv⟩
  ·refine (ok b u q).stay (fun c v hc r=>k c v ?_ r) (fun c r=>by rw [aL (nown c b r)]; exact r) fun c xs r=>by rw [aL (ntup c xs r)]; exact r
   rcases hc with rfl | hc
   ·exact hbe
   ·rintro rfl
    rcases he with z | z
    ·exact nown c b hc z
    ·rw [hc] at z; cases z; exact hb rfl
end
structure Un (fs ex:List Addr) (H H':Hp) (h h':Heap):Prop where
 keep:∀b o,h.get? b=some o->H b=none->b∉fs->b∉ex->h'.get? b=some o
 slot:∀b o,h.get? b=some o->H b=none->b∈fs->b∉ex->∃sl,h'.get? b=some { o with slots:=sl }
 free:∀b o,h.get? b=some o->H b=none->b∉ex->H' b=none
 there:∀b o,h.get? b=some o->b∉ex->∃o',h'.get? b=some o'
 tups:∀b xs,H b=some (.tup xs)->H' b=some (.tup xs)
 frzs:∀b o u,H b=some (.frz o u)->H' b=some (.frz o u)
 tbls:∀b ps,H b=some (.tbl ps)->∃more,H' b=some (.tbl (ps ++ more))
section
variable {fs fs' ex ex':List Addr} {H H1 H2:Hp} {h h1 h2 h':Heap} {a x e:Addr} {o:HO}
theorem Un.any (u:Un fs ex H H1 h h1) {b:Addr} {ob:Obj} (q:h.get? b=some ob) (n:H b=none) (hx:b∉ex):∃sl,h1.get? b=some { ob with slots:=sl }:=by
 by_cases hb:b∈fs
 ·exact u.slot b ob q n hb hx
 ·exact ⟨ob.slots,u.keep b ob q n hb hx⟩
theorem Un.trans (a:Un fs ex H H1 h h1) (b:Un fs ex H1 H2 h1 h2):Un fs ex H H2 h h2 where
 keep:=fun c ob q n hc hx=>b.keep c ob (a.keep c ob q n hc hx) (a.free c ob q n hx) hc hx
 slot:=fun c ob q n hc hx=>by
  obtain ⟨sl,e1⟩:=a.slot c ob q n hc hx;obtain ⟨sl',e2⟩:=b.slot c _ e1 (a.free c ob q n hx) hc hx;exact ⟨sl',e2⟩
 free:=fun c ob q n hx=>by
  obtain ⟨o',e1⟩:=a.there c ob q hx;exact b.free c o' e1 (a.free c ob q n hx) hx
 there:=fun c ob q hx=>by
  obtain ⟨o',e1⟩:=a.there c ob q hx;exact b.there c o' e1 hx
 tups:=fun c xs q=>b.tups c xs (a.tups c xs q)
 frzs:=fun c ob xs q=>b.frzs c ob xs (a.frzs c ob xs q)
 tbls:=fun c ps q=>by
  obtain ⟨m1,e1⟩:=a.tbls c ps q;obtain ⟨m2,e2⟩:=b.tbls c _ e1;exact ⟨m1 ++ m2,by rw [e2,Array.append_assoc]⟩
theorem Un.kept (k:∀b u,h.get? b=some u->h'.get? b=some u):Un fs ex H H h h' :=
 ⟨fun b ob q _ _ _=>k b ob q,fun b ob q _ _ _=>⟨ob.slots,k b ob q⟩,fun _ _ _ n _=>n,fun b ob q _=>⟨ob,k b ob q⟩,fun _ _ q=>q,fun _ _ _ q=>q,fun _ ps q=>⟨#[],by rw [q]; simp⟩⟩
theorem Un.refl:Un fs ex H H h h:=Un.kept fun _ _ q=>q
theorem Un.laid (k:∀b u,h.get? b=some u->h'.get? b=some u) (hp:h.objs.size<=a) (hn:H a=none):Un fs ex H (upd H a o) h h' where
 keep:=fun b u q _ _ _=>k b u q
 slot:=fun b u q _ _ _=>⟨u.slots,k b u q⟩
 free:=fun b u q n _=>by rw [aL (Nat.ne_of_lt (Nat.lt_of_lt_of_le (Heap.lt_size q) hp))]; exact n
 there:=fun b u q _=>⟨u,k b u q⟩
 tups:=fun b xs q=>by rw [aL (jP q hn)]; exact q
 frzs:=fun b u xs q=>by rw [aL (jP q hn)]; exact q
 tbls:=fun b ps q=>⟨#[],by rw [aL (jP q hn),q]; simp⟩
theorem Un.write (mu:uQ (H x)) (he:e=x\/H e=some (.own x)) (k:∀b u,b≠e->h.get? b=some u->h'.get? b=some u) (heo:∃u,h'.get? e=some u):Un fs ex H (upd H x o) h h':=by
 have hx:∀b,H b=none->b≠x:=fun b n z=>by subst z; rw [n] at mu; exact mu
 have hb:∀b,H b=none->b≠e:=fun b n z=>by
  subst z;rcases he with r | r
  ·exact hx b n r
  ·rw [n] at r; cases r
 have hm:∀b u,H b=some u->¬uQ (some u)->b≠x:=fun b u q nm z=>by subst z; rw [q] at mu; exact nm mu
 refine ⟨fun b u q n _ _=>k b u (hb b n) q,fun b u q n _ _=>⟨u.slots,k b u (hb b n) q⟩,fun b u q n _=>by rw [aL (hx b n)]; exact n,fun b u q _=>?_,
  fun b xs q=>by rw [aL (hm b _ q fun z=>z)]; exact q,fun b u xs q=>by rw [aL (hm b _ q fun z=>z)]; exact q,fun b ps q=>⟨#[],by rw [aL (hm b _ q fun z=>z),q]; simp⟩⟩
 by_cases hbe:b=e
 ·subst hbe; exact heo
 ·exact ⟨u,k b u hbe q⟩
theorem Un.mono (u:Un fs ex H H1 h h1) (hs:∀b∈fs,b∈fs') (hx:∀b∈ex,b∈ex'):Un fs' ex' H H1 h h1 :=
 ⟨fun b ob q n hb he=>u.keep b ob q n (fun z=>hb (hs b z)) fun z=>he (hx b z),fun _ _ q n _ he=>u.any q n fun z=>he (hx _ z),fun b ob q n he=>u.free b ob q n fun z=>he (hx b z),fun b ob q he=>u.there b ob q fun z=>he (hx b z),u.tups,u.frzs,u.tbls⟩
end
noncomputable def trk (h:Heap) (H:Hp):List Addr:=(List.range h.objs.size).filter fun a=>(H a).isSome
noncomputable def iH (h:Heap) (H:Hp):Heap:=PySem.W.hideAll h (trk h H)
theorem HN (h:Heap) (H:Hp):(iH h H).objs.size=h.objs.size:=PySem.W.hideAll_size _ _
theorem HQ {h:Heap} {H:Hp} {b:Addr} {o:Obj} (e:h.get? b=some o) (n:H b=none):(iH h H).get? b=some o :=
 PySem.W.hideAll_get _ e fun hm=>by
  have q:(H b).isSome=true:=(List.mem_filter.mp hm).2;rw [n] at q; simp at q
theorem HR {h:Heap} {H:Hp} {b:Addr} {o:Obj} (e:(iH h H).get? b=some o):h.get? b=some o/\H b=none:=by
 have e':h.get? b=some o:=PySem.W.of_hideAll (trk h H) e;refine ⟨e',?_⟩
 cases q:H b with
 | none=>rfl
 | some x =>
  have hm:b∈trk h H:=List.mem_filter.mpr ⟨List.mem_range.mpr (Heap.lt_size e'),by simp [q]⟩;have z:(iH h H).get? b=none:=PySem.W.hideAll_none (trk h H) hm;rw [z] at e; cases e
noncomputable def o9 (g h:Heap) (L:Addr):List (Addr×Obj):=(List.range h.objs.size).filterMap fun a=>if a=L\/(g.get? a).isSome=true then none else (h.get? a).map fun o=>(a,o)
noncomputable def rest (g h:Heap) (L d:Addr):List (Addr×Obj):=(o9 g h L).filter fun p=>decide (p.1≠d)
structure Mod (K:PySem.W.Frag) (mg:Str->Option Value) (base:Heap):Prop where
 kin:K.In base
 glob:base.Ns mainGlobals mg
 blt:∃mb,base.Ns builtinsNs mb/\∀x:Str,x≠"__name__"->mb x=bootBuiltins x
 nolimit:base.NoLimit
structure Cx where
 prog:Program
 w:World
 K:PySem.W.Frag
 mg:Str->Option Value
 base:Heap
 A:Around
 N:List Str
 s₀:Shared
 H₀:Hp
 env:Env
 outer:List Env
 stack:List Env
 ex:List Addr
 fn:Str->Bool
 calm:Bool
 pn:List (Addr×Obj)
 xe:Value->Shared->Prop
noncomputable def frs (l:List Env):List Addr:=l.filterMap (·.frame)
abbrev Cx.fs (X:Cx):List Addr:=frs X.outer
noncomputable def qz (sc:Scope) (x:Str):Prop:=sc.names.lookup x=some .local\/sc.names.lookup x=some .cell\/sc.names.lookup x=some .free
noncomputable def Loc (sc:Scope) (x:Str):Prop:=sc.names.lookup x=some .local\/sc.names.lookup x=some .cell
noncomputable def Look (env:Env) (h:Heap) (m:Str->Option Value) (x:Str) (u:Value):Prop :=
 (env.kindOf x=some .local/\m x=some u)\/((env.kindOf x=some .cell\/env.kindOf x=some .free)/\∃c,env.cells.lookup x=some c/\h.IsCell c (some u))
structure Cx.Ok (X:Cx):Prop where
 mod:Mod X.K X.mg X.base
 kind:X.env.scope.kind=.function
 glob:X.env.globals=mainGlobals
 blt:X.env.builtins=builtinsNs
 above:X.s₀.heap.objs.size<=X.env.locals
 inj:∀x y c,X.env.cells.lookup x=some c->X.env.cells.lookup y=some c->x=y
 has:∀x,(X.env.kindOf x=some .cell\/X.env.kindOf x=some .free)->∃c,X.env.cells.lookup x=some c
 cab:∀x c,X.fn x=true->X.env.cells.lookup x=some c->X.s₀.heap.objs.size<=c
 hd:X.calm=true->X.A.handled=none
 frames:X.A.frames=some X.stack
 stk:X.stack=X.outer\/(X.stack=X.env :: X.outer/\X.env.frame=some X.env.locals)
 exf:∀b∈X.ex,b≠X.env.locals/\∀x c,X.env.cells.lookup x=some c->c≠b
 bs:∀b o,X.base.get? b=some o->X.s₀.heap.get? b=some o/\X.H₀ b=none
 bsz:X.base.objs.size<=X.s₀.heap.objs.size
 noex:∀b o,X.base.get? b=some o->b∉X.ex
 exfs:∀b∈X.ex,b∉X.fs
 funs:X.s₀.heap.FunFrames X.base X.outer
 frf:∀b∈X.fs,X.H₀ b=none
structure Inv (X:Cx) (pins:List (Addr×Obj)) (σ:List (Option V)) (H:Hp) (s:Shared):Prop where
 ok:X.Ok
 os:s.os=X.s₀.os
 bare:AllBare s.gens
 base:Un X.fs X.ex X.H₀ H X.s₀.heap s.heap
 loc:∃m,s.heap.Ns X.env.locals m/\∀(i:Nat) (x:Str) (v:V),X.N[i]? = some x->σ[i]? = some (some v)->qz X.env.scope x->∃u,RelV v u/\Look X.env s.heap m x u
 cell:∀x c,X.env.cells.lookup x=some c->∃v,s.heap.IsCell c v
 free:H X.env.locals=none
 freeC:∀x c,X.env.cells.lookup x=some c->H c=none
 pin:∀p∈X.pn ++ pins,s.heap.get? p.1=some p.2/\H p.1=none/\p.1≠X.env.locals/\p.1∉X.fs/\∀v,p.2.data≠.cell v
 hok:HOk X.prog X.w H s.heap
 len:σ.length=X.N.length
section
variable {X:Cx} {pins:List (Addr×Obj)} {σ:List (Option V)} {H H':Hp} {s:Shared} {h':Heap}
theorem Cx.Ok.nofr (ok:X.Ok) {b:Addr} {o:Obj} (e:X.base.get? b=some o):b∉X.fs:=fun hb=>by
 have:=(ok.funs.mem hb).1;rw [e] at this; cases this
theorem Inv.bs (I:Inv X pins σ H s):∀b o,X.base.get? b=some o->s.heap.get? b=some o/\H b=none:=fun b o e =>
 ⟨I.base.keep b o (I.ok.bs b o e).1 (I.ok.bs b o e).2 (I.ok.nofr e) (I.ok.noex b o e),I.base.free b o (I.ok.bs b o e).1 (I.ok.bs b o e).2 (I.ok.noex b o e)⟩
theorem Inv.bk (I:Inv X pins σ H s):∀b o,X.base.get? b=some o->s.heap.get? b=some o:=fun b o e=>(I.bs b o e).1
theorem Inv.mod (I:Inv X pins σ H s):Mod X.K X.mg X.base:=I.ok.mod
theorem Inv.kIn (I:Inv X pins σ H s):X.K.In s.heap:=I.ok.mod.kin.keeps I.bk
theorem Inv.nolimit (I:Inv X pins σ H s):s.heap.NoLimit:=I.ok.mod.nolimit.keeps I.bk
theorem Inv.fr (I:Inv X pins σ H s):∃m,Fr X.base X.env.locals s.heap m :=
 let ⟨m,hn,_⟩:=I.loc
 ⟨m,hn,I.bk,Nat.le_trans I.ok.bsz I.ok.above⟩
theorem Inv.lt (I:Inv X pins σ H s):X.env.locals < s.heap.objs.size:=let ⟨_,hn,_⟩:=I.loc; hn.lt
theorem Inv.sz (I:Inv X pins σ H s):X.s₀.heap.objs.size<=s.heap.objs.size:=Nat.le_trans I.ok.above (Nat.le_of_lt I.lt)
theorem Inv.nofs (I:Inv X pins σ H s) {a:Addr} (h:s.heap.objs.size<=a):a∉X.fs:=fun hb=>by
 obtain ⟨_,o,ho,_⟩:=I.ok.funs.mem hb;exact absurd (Nat.lt_of_lt_of_le (Heap.lt_size ho) (Nat.le_trans I.sz h)) (Nat.lt_irrefl _)
theorem Inv.cne (I:Inv X pins σ H s):∀x c,X.env.cells.lookup x=some c->c≠X.env.locals:=fun x c e z=>by
 obtain ⟨v,o,ho,hd⟩:=I.cell x c e;obtain ⟨m,⟨o',es,ep,ho',hd',_⟩,_⟩:=I.loc;rw [z,ho'] at ho; cases ho; rw [hd'] at hd; cases hd
theorem Inv.funs (I:Inv X pins σ H s):s.heap.FunFrames X.base X.outer:=by
 have all:∀(l:List Env),(∀b∈frs l,b∈X.fs)->X.s₀.heap.FunFrames X.base l->s.heap.FunFrames X.base l:=by
  intro l
  induction l with
  | nil=>intro _ _; trivial
  | cons env r ih =>
   intro hs hl;obtain ⟨hk,⟨L,o,hf,hn,ho,hd⟩,hr⟩:=hl;have hL:L∈X.fs:=hs L (by unfold frs; rw [List.filterMap_cons,hf]; exact List.mem_cons_self);obtain ⟨sl,e⟩:=I.base.slot L o ho (I.ok.frf L hL) hL fun z=>I.ok.exfs L z hL;exact ⟨hk,⟨L,_,hf,hn,e,hd⟩,ih (fun b hb=>hs b (by unfold frs; rw [List.filterMap_cons,hf]; exact List.mem_cons_of_mem _ hb)) hr⟩
 exact all X.outer (fun _ hb=>hb) I.ok.funs
theorem Inv.stack (I:Inv X pins σ H s):s.heap.FunFrames X.base X.stack:=by
 rcases I.ok.stk with e | ⟨e,hf⟩
 ·rw [e]; exact I.funs
 ·rw [e];obtain ⟨m,hn,_⟩:=I.loc;refine .cons (by rw [I.ok.kind]; decide) hf hn ?_ I.funs;exact Heap.get?_none_of_le (Nat.le_trans I.ok.bsz I.ok.above)
theorem Inv.stkSub (I:Inv X pins σ H s):∀b∈frs X.stack,b∈X.env.locals :: X.fs:=fun b hb=>by
 rcases I.ok.stk with e | ⟨e,hf⟩
 ·rw [e] at hb; exact List.mem_cons_of_mem _ hb
 ·rw [e] at hb;unfold frs at hb;rw [List.filterMap_cons,hf] at hb;exact hb
theorem Inv.stkFree (I:Inv X pins σ H s):∀b∈frs X.stack,H b=none:=fun b hb=>by
 rcases List.mem_cons.mp (I.stkSub b hb) with e | hb
 ·rw [e]; exact I.free
 ·obtain ⟨_,o,ho,_⟩:=I.ok.funs.mem hb;exact I.base.free b o ho (I.ok.frf b hb) fun z=>I.ok.exfs b z hb
theorem Inv.step {g':Array GenState} {t':Nat} {d':Drawn} {ch:List Addr} (I:Inv X pins σ H s)
  (hch:∀b∈ch,(b∈X.ex\/X.s₀.heap.objs.size<=b)/\b≠X.env.locals/\(∀x c,X.env.cells.lookup x=some c->c≠b)/\∀p∈X.pn ++ pins,p.1≠b)
  (keep:∀b o,b≠X.env.locals->b∉X.fs->b∉ch->s.heap.get? b=some o->H b=none->h'.get? b=some o)
  (slot:∀b o,b≠X.env.locals->b∈X.fs->b∉ch->s.heap.get? b=some o->H b=none->∃sl,h'.get? b=some { o with slots:=sl }) (free:∀b o,b∉ch->s.heap.get? b=some o->H b=none->H' b=none)
  (there:∀b o,b∉ch->s.heap.get? b=some o->∃o',h'.get? b=some o')
  (tups:∀b xs,H b=some (.tup xs)->H' b=some (.tup xs)) (frzs:∀b o u,H b=some (.frz o u)->H' b=some (.frz o u)) (tbls:∀b ps,H b=some (.tbl ps)->∃more,H' b=some (.tbl (ps ++ more)))
  (ns:∀m,s.heap.Ns X.env.locals m->h'.Ns X.env.locals m) (hok:HOk X.prog X.w H' h') (hg:AllBare g') :
  Inv X pins σ H' { s with heap:=h',gens:=g',drawn:=d',toks:=t' }:=by
 have neL:∀b o,X.s₀.heap.get? b=some o->b≠X.env.locals:=fun b o e=>Nat.ne_of_lt (Nat.lt_of_lt_of_le (Heap.lt_size e) I.ok.above);have neC:∀b o,X.s₀.heap.get? b=some o->b∉X.ex->b∉ch:=fun b o e hx hb=>by
  rcases (hch b hb).1 with z | z
  ·exact hx z
  ·exact absurd (Nat.lt_of_lt_of_le (Heap.lt_size e) z) (Nat.lt_irrefl _)
 have cellK:∀x c,X.env.cells.lookup x=some c->∀v,s.heap.IsCell c v->h'.IsCell c v:=fun x c e v ⟨o,ho,hd⟩=>by
  have nch:c∉ch:=fun z=>(hch c z).2.2.1 x c e rfl
  by_cases hc:c∈X.fs
  ·obtain ⟨sl,q⟩:=slot c o (I.cne x c e) hc nch ho (I.freeC x c e);exact ⟨_,q,hd⟩
  ·exact ⟨o,keep c o (I.cne x c e) hc nch ho (I.freeC x c e),hd⟩
 refine ⟨I.ok,I.os,hg,⟨fun b o e n hb hx=>?_,fun b o e n hb hx=>?_,fun b o e n hx=>?_,fun b o e hx=>?_,fun b xs e=>tups b xs (I.base.tups b xs e),fun b o xs e=>frzs b o xs (I.base.frzs b o xs e),fun b ps e=>?_⟩,?_,fun x c e=>?_,?_,fun x c e=>?_,fun p hp=>?_,hok,I.len⟩
 ·exact keep b o (neL b o e) hb (neC b o e hx) (I.base.keep b o e n hb hx) (I.base.free b o e n hx)
 ·obtain ⟨sl,e1⟩:=I.base.slot b o e n hb hx;obtain ⟨sl',e2⟩:=slot b _ (neL b o e) hb (neC b o e hx) e1 (I.base.free b o e n hx);exact ⟨sl',e2⟩
 ·obtain ⟨o',e1⟩:=I.base.there b o e hx;exact free b o' (neC b o e hx) e1 (I.base.free b o e n hx)
 ·obtain ⟨o',e1⟩:=I.base.there b o e hx;exact there b o' (neC b o e hx) e1
 ·obtain ⟨m1,e1⟩:=I.base.tbls b ps e;obtain ⟨m2,e2⟩:=tbls b _ e1;exact ⟨m1 ++ m2,by rw [e2,Array.append_assoc]⟩
 ·obtain ⟨m,hn,hl⟩:=I.loc;refine ⟨m,ns m hn,fun i x v e1 e2 e3=>?_⟩;obtain ⟨u,r,l⟩:=hl i x v e1 e2 e3;refine ⟨u,r,?_⟩;rcases l with l | ⟨k,c,e,z⟩
  ·exact .inl l
  ·exact .inr ⟨k,c,e,cellK x c e _ z⟩
 ·obtain ⟨v,z⟩:=I.cell x c e;exact ⟨v,cellK x c e v z⟩
 ·obtain ⟨m,⟨o,_,_,ho,_⟩,_⟩:=I.loc;exact free _ o (fun z=>(hch _ z).2.1 rfl) ho I.free
 ·obtain ⟨v,o,ho,hd⟩:=I.cell x c e;exact free c o (fun z=>(hch c z).2.2.1 x c e rfl) ho (I.freeC x c e)
 ·obtain ⟨e,n,ne,nf,d⟩:=I.pin p hp;have nch:p.1∉ch:=fun z=>(hch p.1 z).2.2.2 p hp rfl;exact ⟨keep p.1 p.2 ne nf nch e n,free p.1 p.2 nch e n,ne,nf,d⟩
theorem Inv.un {t':Nat} (I:Inv X pins σ H s) (u:Un X.fs [] H H' s.heap h') (hok:HOk X.prog X.w H' h'):Inv X pins σ H' { s with heap:=h',toks:=t' }:=by
 obtain ⟨m,⟨o,es,ep,ho,r⟩,_⟩:=id I.loc;obtain ⟨sl,hL⟩:=u.any ho I.free (by simp);exact I.step (g':=s.gens) (d':=s.drawn) (ch:=[]) (fun _ z=>nomatch z) (fun b o _ hb _ e n=>u.keep b o e n hb (by simp)) (fun b o _ hb _ e n=>u.slot b o e n hb (by simp)) (fun b o _ e n=>u.free b o e n (by simp)) (fun b o _ e=>u.there b o e (by simp)) u.tups u.frzs u.tbls (fun m' hm=>by
  obtain ⟨o',es',ep',ho',r'⟩:=hm;rw [ho] at ho'; cases ho';exact ⟨_,es',ep',hL,r'⟩) hok I.bare
theorem Inv.call {g':Array GenState} {t':Nat} {d':Drawn} {ch:List Addr} (I:Inv X pins σ H s) (u:Un (frs X.stack) ch H H' s.heap h') (hok:HOk X.prog X.w H' h') (hg:AllBare g')
  (hch:∀b∈ch,(b∈X.ex\/X.s₀.heap.objs.size<=b)/\b≠X.env.locals/\(∀x c,X.env.cells.lookup x=some c->c≠b)/\∀p∈X.pn ++ pins,p.1≠b) :
  Inv X pins σ H' { s with heap:=h',gens:=g',drawn:=d',toks:=t' }:=by
 obtain ⟨m,⟨o,es,ep,ho,r⟩,_⟩:=id I.loc;obtain ⟨sl,hL⟩:=u.any ho I.free fun z=>(hch _ z).2.1 rfl;exact I.step (ch:=ch) hch (fun b o hL hb hc e n=>u.keep b o e n (fun z=>(List.mem_cons.mp (I.stkSub b z)).elim hL hb) hc) (fun b o _ _ hc e n=>u.any e n hc) (fun b o hc e n=>u.free b o e n hc) (fun b o hc e=>u.there b o e hc) u.tups u.frzs u.tbls (fun m' hm=>by
  obtain ⟨o',es',ep',ho',r'⟩:=hm;rw [ho] at ho'; cases ho';exact ⟨_,es',ep',hL,r'⟩) hok hg
theorem Inv.turned {t':Nat} {it:Addr} (I:Inv X pins σ H s) (k:∀b o,b≠it->s.heap.get? b=some o->h'.get? b=some o) (hn:H it=none) (hL:it≠X.env.locals)
  (h1:it∈X.ex\/X.s₀.heap.objs.size<=it) (h2:∀x c,X.env.cells.lookup x=some c->c≠it) (h3:∀p∈X.pn ++ pins,p.1≠it):Inv X pins σ H { s with heap:=h',toks:=t' }:=by
 have nit:∀b u,H b=some u->b≠it:=fun b u e z=>by rw [z,hn] at e; cases e
 refine I.step (g':=s.gens) (d':=s.drawn) (ch:=[it]) (fun b hb=>?_) (fun b o _ _ hc e _=>k b o (fun z=>hc (by simp [z])) e) (fun b o _ _ hc e _=>⟨o.slots,k b o (fun z=>hc (by simp [z])) e⟩) (fun _ _ _ _ n=>n)
  (fun b o hc e=>⟨o,k b o (fun z=>hc (by simp [z])) e⟩) (fun _ _ e=>e) (fun _ _ _ e=>e) (fun b ps e=>⟨#[],by rw [e]; simp⟩) (fun m hm=>?_) (fun b u e=>?_) I.bare
 ·have e:b=it:=by simpa using hb
  subst e;exact ⟨h1,hL,h2,h3⟩
 ·obtain ⟨o,es,ep,ho,r⟩:=hm;exact ⟨o,es,ep,k _ o (Ne.symm hL) ho,r⟩
 ·refine (I.hok b u e).stay (fun c v hc q=>k c v ?_ q) (fun _ q=>q) fun _ _ q=>q;rcases hc with z | z
  ·rw [z]; exact nit b u e
  ·exact nit c _ z
theorem Inv.tok (I:Inv X pins σ H s) (t:Nat):Inv X pins σ H { s with toks:=t }:=I.un (h':=s.heap) (t':=t) Un.refl I.hok
theorem Inv.kept {t':Nat} (I:Inv X pins σ H s) (k:∀b u,s.heap.get? b=some u->h'.get? b=some u):Inv X pins σ H { s with heap:=h',toks:=t' }:=I.un (Un.kept k) (I.hok.kept k)
theorem Inv.laid {a:Addr} {o:HO} {t':Nat} (I:Inv X pins σ H s) (k:∀b u,s.heap.get? b=some u->h'.get? b=some u) (hp:s.heap.objs.size<=a) (new:ObjOk X.prog X.w (upd H a o) h' a o) :
  Inv X pins σ (upd H a o) { s with heap:=h',toks:=t' }:=I.un (Un.laid k hp (I.hok.fresh hp)) (I.hok.laid k hp new)
theorem Inv.write {x e:Addr} {o:HO} {t':Nat} (I:Inv X pins σ H s) (mu:uQ (H x)) (he:e=x\/H e=some (.own x)) (k:∀b u,b≠e->s.heap.get? b=some u->h'.get? b=some u) (heo:∃u,h'.get? e=some u)
  (new:ObjOk X.prog X.w (upd H x o) h' x o):Inv X pins σ (upd H x o) { s with heap:=h',toks:=t' }:=I.un (Un.write mu he k heo) (I.hok.write mu he k heo new)
theorem Inv.weak {σ':List (Option V)} (I:Inv X pins σ H s) (hl:σ'.length=σ.length) (w:∀(i:Nat) v,σ'[i]? = some (some v)->σ[i]? = some (some v)):Inv X pins σ' H s :=
 ⟨I.ok,I.os,I.bare,I.base,let ⟨m,hn,hl'⟩:=I.loc; ⟨m,hn,fun i x v e1 e2 e3=>hl' i x v e1 (w i v e2) e3⟩,I.cell,I.free,I.freeC,I.pin,I.hok,hl.trans I.len⟩
theorem Inv.pins_of {pins':List (Addr×Obj)} (I:Inv X pins σ H s) (h:∀p∈pins',s.heap.get? p.1=some p.2/\H p.1=none/\p.1≠X.env.locals/\p.1∉X.fs/\∀v,p.2.data≠.cell v):Inv X pins' σ H s :=
 ⟨I.ok,I.os,I.bare,I.base,I.loc,I.cell,I.free,I.freeC,fun p hp=>(List.mem_append.mp hp).elim (fun z=>I.pin p (List.mem_append_left _ z)) (h p),I.hok,I.len⟩
theorem zU {N:List Str} (hN:N.Nodup) {i j:Nat} {x:Str} (a:N[i]? = some x) (b:N[j]? = some x):i=j:=by
 obtain ⟨h1,e1⟩:=List.getElem?_eq_some_iff.mp a;obtain ⟨h2,e2⟩:=List.getElem?_eq_some_iff.mp b;exact (List.getElem_inj hN).mp (e1.trans e2.symm)
theorem yM {M:Model} {A:Around} {E:Value->Shared->Prop} {i:Nat} {x:Str} {v:V} {u:Value} {Q:Unit->Shared->Prop} (I:Inv X pins σ H s) (hN:X.N.Nodup) (hi:X.N[i]? = some x) (hx:Loc X.env.scope x) (r:RelV v u)
  (h:∀s',Inv X pins (σ.set i (some v)) H s'->(∃a,Heap.SameBut a s.heap s'.heap/\(a=X.env.locals\/X.env.cells.lookup x=some a))->Q () s') (hf:X.fn x=true\/X.env.scope.names.lookup x=some .local:=by first | exact .inl rfl | exact .inr rfl | assumption):wpAny M A (storeName X.env x u) Q E s:=by
 obtain ⟨m,hn,hl⟩:=id I.loc;have hcls:(X.env.scope.kind == .class || (X.env.scope.kind == .module && X.env.locals != X.env.globals))=false:=by rw [I.ok.kind]; rfl
 have hiσ:i < σ.length:=by rw [I.len]; exact (List.getElem?_eq_some_iff.mp hi).1
 have cne:=I.cne;have tracked:∀{a:Addr} {h':Heap},(∃o,s.heap.get? a=some o/\H a=none)->Heap.SameBut a s.heap h'->HOk X.prog X.w H h':=fun {a h'} ha hs b ob e=>by
  obtain ⟨_,_,hfree⟩:=ha;refine (I.hok b ob e).stay (fun c w' hc q=>(hs.2 c ?_).trans q) (fun _ q=>q) fun _ _ q=>q
  rintro rfl
  rcases hc with rfl | hc
  ·rw [hfree] at e; cases e
  ·rw [hfree] at hc; cases hc
 rcases hx with hk | hk
 ·refine wpAny_storeName_local hk hn (fun h' hn' hs=>?_) hcls;obtain ⟨oL,_,_,hoL,_⟩:=id hn;refine h _ ⟨I.ok,I.os,I.bare,⟨fun b o e n hb hx=>?_,fun b o e n hb hx=>?_,I.base.free,fun b o e hx=>?_,I.base.tups,I.base.frzs,I.base.tbls⟩,⟨_,hn',fun j y v' e1 e2 e3=>?_⟩,fun y c e=>?_,I.free,I.freeC,fun p hp=>?_,tracked ⟨oL,hoL,I.free⟩ hs,by simpa using I.len⟩ ⟨_,hs,.inl rfl⟩
  ·exact (hs.2 b (Nat.ne_of_lt (Nat.lt_of_lt_of_le (Heap.lt_size e) I.ok.above))).trans (I.base.keep b o e n hb hx)
  ·obtain ⟨sl,e1⟩:=I.base.slot b o e n hb hx;exact ⟨sl,(hs.2 b (Nat.ne_of_lt (Nat.lt_of_lt_of_le (Heap.lt_size e) I.ok.above))).trans e1⟩
  ·obtain ⟨o',e1⟩:=I.base.there b o e hx;exact ⟨o',(hs.2 b (Nat.ne_of_lt (Nat.lt_of_lt_of_le (Heap.lt_size e) I.ok.above))).trans e1⟩
  ·by_cases hj:j=i
   ·subst hj;rw [hi] at e1; cases e1;rw [List.getElem?_set_self hiσ] at e2
    cases e2
    exact ⟨u,r,.inl ⟨hk,by simp⟩⟩
   ·rw [List.getElem?_set_ne (Ne.symm hj)] at e2;obtain ⟨u',r',q⟩:=hl j y v' e1 e2 e3;refine ⟨u',r',?_⟩;rcases q with ⟨k,e⟩ | ⟨k,c,e,z⟩
    ·refine .inl ⟨k,?_⟩;have:y≠x:=fun e=>hj (zU hN e1 (e ▸ hi));simp [this,e]
    ·exact .inr ⟨k,c,e,z.sameBut hs (cne y c e)⟩
  ·obtain ⟨w',z⟩:=I.cell y c e;exact ⟨w',z.sameBut hs (cne y c e)⟩
  ·obtain ⟨e,n,ne,nf,d⟩:=I.pin p hp;exact ⟨(hs.2 p.1 ne).trans e,n,ne,nf,d⟩
 ·have hfn:X.fn x=true:=by
   rcases hf with z | z
   ·exact z
   ·rw [z] at hk; cases hk
  obtain ⟨c,hc⟩:=I.ok.has x (.inl hk);obtain ⟨w',z⟩:=I.cell x c hc;refine wpAny_storeName_cell I.ok.kind hk hc z (fun h' hc' hs=>?_);obtain ⟨oc,hoc,hocd⟩:=id z;refine h { s with heap:=h' } ⟨I.ok,I.os,I.bare,⟨fun b o e n hb hx=>?_,fun b o e n hb hx=>?_,I.base.free,fun b o e hx=>?_,I.base.tups,I.base.frzs,I.base.tbls⟩,⟨m,hn.sameBut hs (Ne.symm (cne x c hc)),fun j y v' e1 e2 e3=>?_⟩,fun y c' e=>?_,I.free,I.freeC,fun p hp=>?_,tracked ⟨oc,hoc,I.freeC x c hc⟩ hs,by simpa using I.len⟩ ⟨c,hs,.inr hc⟩
  ·exact (hs.2 b (Nat.ne_of_lt (Nat.lt_of_lt_of_le (Heap.lt_size e) (I.ok.cab x c hfn hc)))).trans (I.base.keep b o e n hb hx)
  ·obtain ⟨sl,e1⟩:=I.base.slot b o e n hb hx;exact ⟨sl,(hs.2 b (Nat.ne_of_lt (Nat.lt_of_lt_of_le (Heap.lt_size e) (I.ok.cab x c hfn hc)))).trans e1⟩
  ·obtain ⟨o',e1⟩:=I.base.there b o e hx;exact ⟨o',(hs.2 b (Nat.ne_of_lt (Nat.lt_of_lt_of_le (Heap.lt_size e) (I.ok.cab x c hfn hc)))).trans e1⟩
  ·by_cases hj:j=i
   ·subst hj;rw [hi] at e1; cases e1;rw [List.getElem?_set_self hiσ] at e2
    cases e2
    exact ⟨u,r,.inr ⟨.inl hk,c,hc,hc'⟩⟩
   ·rw [List.getElem?_set_ne (Ne.symm hj)] at e2;obtain ⟨u',r',q⟩:=hl j y v' e1 e2 e3;refine ⟨u',r',?_⟩;rcases q with q | ⟨k,c',e,z'⟩
    ·exact .inl q
    ·refine .inr ⟨k,c',e,z'.sameBut hs ?_⟩
     rintro rfl
     exact hj (zU hN e1 (I.ok.inj _ _ _ e hc ▸ hi))
  ·by_cases hcc:c'=c
   ·subst hcc; exact ⟨_,hc'⟩
   ·obtain ⟨w2,z2⟩:=I.cell y c' e;exact ⟨w2,z2.sameBut hs hcc⟩
  ·obtain ⟨e,n,ne,nf,d⟩:=I.pin p hp;refine ⟨(hs.2 p.1 ?_).trans e,n,ne,nf,d⟩;intro q;rw [q,hoc] at e;have q':oc=p.2:=Option.some.inj e;exact d w' (by rw [<- q']; exact hocd)
theorem uB {M:Model} {A:Around} {E:Value->Shared->Prop} {i:Nat} {x:Str} {v:V} {u:Value} {Q:Unit->Shared->Prop} (I:Inv X pins σ H s) (hN:X.N.Nodup) (hi:X.N[i]? = some x) (hx:Loc X.env.scope x) (r:RelV v u)
  (h:∀s',Inv X pins (σ.set i (some v)) H s'->Q () s') (hf:X.fn x=true\/X.env.scope.names.lookup x=some .local:=by first | exact .inl rfl | exact .inr rfl | assumption):wpAny M A (storeName X.env x u) Q E s :=
 yM I hN hi hx r (fun s' I' _=>h s' I') hf
theorem Inv.call' {s':Shared} {ch:List Addr} (I:Inv X pins σ H s) (ho:s'.os=s.os) (u:Un (frs X.stack) ch H H' s.heap s'.heap) (hok:HOk X.prog X.w H' s'.heap) (hg:AllBare s'.gens)
  (hch:∀b∈ch,(b∈X.ex\/X.s₀.heap.objs.size<=b)/\b≠X.env.locals/\(∀x c,X.env.cells.lookup x=some c->c≠b)/\∀p∈X.pn ++ pins,p.1≠b):Inv X pins σ H' s':=by
 obtain ⟨h',g',d',t',o'⟩:=s';have e:o'=s.os:=ho;subst e;exact I.call (g':=g') (t':=t') (d':=d') u hok hg hch
end
abbrev XK:=Value->Option Addr->Hp->Prop
abbrev St:=List (Option V)
abbrev VK:=V->Hp->Prop
abbrev TE:=St->Hp->VK->Prop
abbrev TT:=St->Hp->(Bool->Hp->Prop)->Prop
abbrev TA:=St->Hp->(List V->Hp->Prop)->Prop
structure Ends where
 nx:St->Hp->Prop
 rt:VK
 bk:St->Hp->Prop:=fun _ _=>False
 ct:St->Hp->Prop:=fun _ _=>False
abbrev TS:=Ends->St->Hp->Prop
noncomputable def EP (X:Cx) (pins:List (Addr×Obj)) (σ:St) (Q:VK) (u:Value) (s':Shared):Prop:=∃v H',Inv X pins σ H' s'/\RelV v u/\Q v H'
noncomputable def TP (X:Cx) (pins:List (Addr×Obj)) (σ:St) (Q:Bool->Hp->Prop) (b:Bool) (s':Shared):Prop:=∃H',Inv X pins σ H' s'/\Q b H'
noncomputable def AP (X:Cx) (pins:List (Addr×Obj)) (σ:St) (Q:List V->Hp->Prop) (us:List Value) (s':Shared):Prop:=∃vs H',Inv X pins σ H' s'/\Vals vs us/\Q vs H'
noncomputable def SP (X:Cx) (pins:List (Addr×Obj)) (D:Ends) (f:Flow) (s':Shared):Prop :=
 match f with
 | .next=>∃σ' H',Inv X pins σ' H' s'/\D.nx σ' H'
 | .brk=>∃σ' H',Inv X pins σ' H' s'/\D.bk σ' H'
 | .cont=>∃σ' H',Inv X pins σ' H' s'/\D.ct σ' H'
 | .ret u=>∃v σ' H',Inv X pins σ' H' s'/\RelV v u/\D.rt v H'
noncomputable def PE (X:Cx) (e:Expr) (t:TE):Prop :=
 ∀(pins:List (Addr×Obj)) (s:Shared) (σ:St) (H:Hp) (Q:VK),Inv X pins σ H s->t σ H Q->wpAny (model X.prog X.w) X.A (eval e X.env) (EP X pins σ Q) X.xe s
noncomputable def PT (X:Cx) (e:Expr) (t:TT):Prop :=
 ∀(pins:List (Addr×Obj)) (s:Shared) (σ:St) (H:Hp) (Q:Bool->Hp->Prop),Inv X pins σ H s->t σ H Q->wpAny (model X.prog X.w) X.A (isTrue e X.env (eval e X.env)) (TP X pins σ Q) X.xe s
noncomputable def PW (X:Cx) (e:Expr) (t:TT):Prop :=
 ∀(whole:Sem Value) (pins:List (Addr×Obj)) (s:Shared) (σ:St) (H:Hp) (Q:Bool->Hp->Prop),Inv X pins σ H s->t σ H Q->wpAny (model X.prog X.w) X.A (isTrue e X.env whole) (TP X pins σ Q) X.xe s
theorem PW.pt {X:Cx} {e:Expr} {t:TT} (h:PW X e t):PT X e t:=h _
noncomputable def PA (X:Cx) (es:List Expr) (t:TA):Prop :=
 ∀(pos:Pos) (pins:List (Addr×Obj)) (s:Shared) (σ:St) (H:Hp) (Q:List V->Hp->Prop),Inv X pins σ H s->t σ H Q->wpAny (model X.prog X.w) X.A (spliced (backTo pos (starEach es X.env))) (AP X pins σ Q) X.xe s
noncomputable def PS (X:Cx) (st:Stmt) (t:TS):Prop :=
 ∀(pins:List (Addr×Obj)) (s:Shared) (σ:St) (H:Hp) (D:Ends),Inv X pins σ H s->t D σ H->wpAny (model X.prog X.w) X.A (exec st X.env) (SP X pins D) X.xe s
noncomputable def PSs (X:Cx) (st:List Stmt) (t:TS):Prop :=
 ∀(pins:List (Addr×Obj)) (s:Shared) (σ:St) (H:Hp) (D:Ends),Inv X pins σ H s->t D σ H->wpAny (model X.prog X.w) X.A (execs st X.env) (SP X pins D) X.xe s
theorem cN {α:Type} {t:Sem α} {Q Q':α->Shared->Prop} {M:Model} {A:Around} {E:Value->Shared->Prop} {s:Shared} (h:wpAny M A t Q E s) (hQ:∀a s,Q a s->Q' a s):wpAny M A t Q' E s:=wpAny_mono h hQ fun _ _ x=>x
section
variable {X:Cx}
noncomputable def cG (i:Nat):TE:=fun σ H Q=>∃v,σ[i]? = some (some v)/\Q v H
noncomputable def tC (v:V):TE:=fun _ H Q=>Q v H
theorem yN {i:Nat} {x:Str} {pos:Pos} (hN:X.N[i]? = some x) (hv:qz X.env.scope x) (hd:(x == ("__debug__" : Str))=false:=by decide) (hcd:(x == ("__classdict__" : Str))=false:=by decide):PE X (.Name x pos) (cG i):=by
 intro pins s σ H Q I h;obtain ⟨v,e,h⟩:=h;obtain ⟨m,hn,hl⟩:=I.loc;obtain ⟨u,r,l⟩:=hl i x v hN e hv;have fin:EP X pins σ Q u s:=⟨v,H,I,r,h⟩;rcases l with ⟨hk,hm⟩ | ⟨hk,c,hc,hcell⟩
 ·exact wpAny_Name (wpAny_loadName_local I.ok.kind hk hn hm fin) hd
 ·rcases hk with hk | hk
  ·exact wpAny_Name (wpAny_loadName_cell I.ok.kind hk hc hcell fin) hd
  ·exact wpAny_Name (wpAny_loadName_free I.ok.kind hk hc hcell fin hcd) hd
theorem HS {i j pos}:PE X (.Constant (.int i) j pos) (tC (.int i)):=fun _ _ _ H _ I h=>wpAny_Constant_int ⟨.int i,H,I.tok _,⟨_,rfl⟩,h⟩
theorem HW {b j pos}:PE X (.Constant (.bool b) j pos) (tC (.bl b)):=fun _ _ _ H _ I h=>Constant_bool ⟨.bl b,H,I,rfl,h⟩
theorem HX {j pos}:PE X (.Constant .none j pos) (tC .non):=fun _ _ _ H _ I h=>Constant_none ⟨.non,H,I,rfl,h⟩
theorem Dc {x j pos}:PE X (.Constant (.str x) j pos) (tC (.str x)):=fun _ _ _ H _ I h=>Calls.Constant_str ⟨.str x,H,I.tok _,⟨_,rfl⟩,h⟩
noncomputable def Gl (X:Cx) (x:Str):Prop:=X.env.kindOf x=some .globalImplicit
theorem j9 {E:Value->Shared->Prop} {pins:List (Addr×Obj)} {s:Shared} {σ:St} {H:Hp} {x:Str} {u:Value} {pos:Pos} {Q:Value->Shared->Prop} (I:Inv X pins σ H s) (hg:Gl X x) (hm:X.mg x=some u) (h:Q u s)
  (hd:(x == ("__debug__" : Str))=false:=by decide):wpAny (model X.prog X.w) X.A (eval (.Name x pos) X.env) Q E s :=
 Calls.Name_function_global I.ok.kind hg (Calls.loadGlobal_global (by rw [I.ok.glob]; exact I.mod.glob.keeps I.bk) hm h) hd
theorem oN {E:Value->Shared->Prop} {pins:List (Addr×Obj)} {s:Shared} {σ:St} {H:Hp} {x:Str} {u:Value} {pos:Pos} {Q:Value->Shared->Prop} (I:Inv X pins σ H s) (hg:Gl X x) (hm:X.mg x=none) (hv:bootBuiltins x=some u) (h:Q u s)
  (hn:x≠"__name__":=by decide) (hd:(x == ("__debug__" : Str))=false:=by decide):wpAny (model X.prog X.w) X.A (eval (.Name x pos) X.env) Q E s:=by
 obtain ⟨mb,h1,h2⟩:=I.mod.blt;exact Calls.Name_function_global I.ok.kind hg (Calls.loadGlobal_builtin (by rw [I.ok.glob]; exact I.mod.glob.keeps I.bk) hm (by rw [I.ok.blt]; exact h1.keeps I.bk) ((h2 x hn).trans hv) h) hd
theorem HY {x:Str} {v:V} {u:Value} {pos:Pos} (hg:Gl X x) (hm:X.mg x=some u) (r:RelV v u) (hd:(x == ("__debug__" : Str))=false:=by decide):PE X (.Name x pos) (tC v) :=
 fun _ _ _ H _ I h=>j9 I hg hm ⟨v,H,I,r,h⟩ hd
noncomputable def H_ (ta tb:TE) (k:Int->Int->Hp->Prop):St->Hp->Prop:=fun σ H=>ta σ H fun x H1=>tb σ H1 fun y H2=>∃i j,x=.int i/\y=.int j/\k i j H2
variable {a b:Expr} {ta tb:TE} {pos:Pos}
noncomputable def j_ (p:Int->Int->Bool) (ta tb:TE):TE:=fun σ H Q=>H_ ta tb (fun i j H2=>Q (.bl (p i j)) H2) σ H
abbrev Qe:TE->TE->TE:=j_ fun i j=>decide (i < j)
abbrev Qf:TE->TE->TE:=j_ fun i j=>decide (i<=j)
abbrev Qg:TE->TE->TE:=j_ fun i j=>decide (j < i)
abbrev Qh:TE->TE->TE:=j_ fun i j=>decide (j<=i)
abbrev Ia:TE->TE->TE:=j_ fun i j=>decide (i=j)
abbrev Ib:TE->TE->TE:=j_ fun i j=>!decide (i=j)
noncomputable def tB (t:TE):TT:=fun σ H Q=>t σ H fun x H1=>∃c,x=.bl c/\Q c H1
variable {tA tB':TT} {rest:List Expr}
end
noncomputable def SqL (K:PySem.W.Frag) (H:Hp) (a:Addr) (xs:List V):Prop :=
 Rd H a (.lst xs) \/
  ∃(o:Obj) (its:Array Value) (n:Nat),K.lookup a=some o/\o.cls=.type "list"/\o.dict=none/\o.data=.seq its n/\its.size<=sizeLine/\Vals xs its.toList
noncomputable def SqT (K:PySem.W.Frag) (H:Hp) (a:Addr) (xs:List V):Prop :=
 Rd H a (.tup xs) \/
  ∃(o:Obj) (its:Array Value) (n:Nat),K.lookup a=some o/\o.cls=.type "tuple"/\o.data=.seq its n/\its.size<=sizeLine/\Vals xs its.toList
noncomputable def zV:Value->Option V
 | .none=>some .non
 | .bool b=>some (.bl b)
 | .int i _=>some (.int i)
 | .str x _=>some (.str x)
 | .bytes b _=>some (.byt b)
 | .float b _=>some (.flt b)
 | .ref a=>some (.ref a)
 | .type n=>some (.ty n)
 | _=>none
theorem RelV.abs {x:V} {u:Value} (r:RelV x u):zV u=some x:=by
 cases x with
 | non=>cases r; rfl
 | bl _=>cases r; rfl
 | int _=>obtain ⟨t,rfl⟩:=r; rfl
 | str _=>obtain ⟨t,rfl⟩:=r; rfl
 | byt _=>obtain ⟨t,rfl⟩:=r; rfl
 | flt _=>obtain ⟨t,rfl⟩:=r; rfl
 | ref _=>cases r; rfl
 | ty _=>cases r; rfl
theorem RelV.inj {x y:V} {u:Value} (r:RelV x u) (q:RelV y u):x=y:=Option.some.inj (r.abs.symm.trans q.abs)
theorem Vals.inj:∀{xs ys:List V} {us:List Value},Vals xs us->Vals ys us->xs=ys
 | _,_,_,.nil,.nil=>rfl
 | _,_,_,.cons r t,.cons r' t'=>by rw [r.inj r',Vals.inj t t']
section
variable {X:Cx} {pins:List (Addr×Obj)} {σ:St} {H:Hp} {s:Shared} {a:Addr} {xs ys:List V}
theorem SqL.of {K:PySem.W.Frag} (h:H a=some (.lst xs)):SqL K H a xs:=.inl (.inl h)
theorem SqT.of {K:PySem.W.Frag} (h:H a=some (.tup xs)):SqT K H a xs:=.inl (.inl h)
theorem Inv.list (I:Inv X pins σ H s) (h:SqL X.K H a xs):∃its:List Value,Vals xs its/\PlainL s.heap a its.toArray/\xs.length<=sizeLine:=by
 rcases h with h | ⟨o,its,n,hk,hc,hd,hs,hz,r⟩
 ·obtain ⟨z,its,n,r,e⟩:=h.ok I.hok;exact ⟨its,r,⟨_,n,e,rfl,rfl,rfl⟩,z⟩
 ·refine ⟨its.toList,r,⟨o,n,I.kIn a o hk,hc,hd,by simpa using hs⟩,?_⟩;have e:=r.length;simp only [Array.length_toList] at e;omega
theorem Inv.tuple (I:Inv X pins σ H s) (h:SqT X.K H a xs):∃its:List Value,Vals xs its/\IsTup s.heap a its.toArray/\xs.length<=sizeLine:=by
 rcases h with h | ⟨o,its,n,hk,hc,hs,hz,r⟩
 ·obtain ⟨z,its,r,p⟩:=h.ok I.hok;exact ⟨its,r,p,z⟩
 ·refine ⟨its.toList,r,⟨o,I.kIn a o hk,hc,n,by simpa using hs⟩,?_⟩;have e:=r.length;simp only [Array.length_toList] at e;omega
theorem Inv.list_inj (I:Inv X pins σ H s) (h:SqL X.K H a xs) (h':SqL X.K H a ys):xs=ys:=by
 obtain ⟨its,r,⟨o,n,e,_,_,d⟩,_⟩:=I.list h;obtain ⟨its',r',⟨o',n',e',_,_,d'⟩,_⟩:=I.list h';rw [e] at e'; cases e';rw [d] at d';injection d' with d1 _
 have:its=its':=by simpa using congrArg Array.toList d1
 subst this;exact r.inj r'
theorem Inv.tuple_inj (I:Inv X pins σ H s) (h:SqT X.K H a xs) (h':SqT X.K H a ys):xs=ys:=by
 obtain ⟨its,r,⟨o,e,_,n,d⟩,_⟩:=I.tuple h;obtain ⟨its',r',⟨o',e',_,n',d'⟩,_⟩:=I.tuple h';rw [e] at e'; cases e';rw [d] at d';injection d' with d1 _
 have:its=its':=by simpa using congrArg Array.toList d1
 subst this;exact r.inj r'
end
abbrev Cx.wish (X:Cx) (E:Value->Shared->Prop):Cx:={ X with xe:=E }
abbrev Cx.nox (X:Cx):Cx:=X.wish fun _ _=>False
theorem Cx.Ok.wish {X:Cx} (ok:X.Ok) (E:Value->Shared->Prop):(X.wish E).Ok :=
 ⟨ok.mod,ok.kind,ok.glob,ok.blt,ok.above,ok.inj,ok.has,ok.cab,ok.hd,ok.frames,ok.stk,ok.exf,ok.bs,ok.bsz,ok.noex,ok.exfs,ok.funs,ok.frf⟩
theorem Cx.Ok.unwish {X:Cx} {E:Value->Shared->Prop} (ok:(X.wish E).Ok):X.Ok :=
 ⟨ok.mod,ok.kind,ok.glob,ok.blt,ok.above,ok.inj,ok.has,ok.cab,ok.hd,ok.frames,ok.stk,ok.exf,ok.bs,ok.bsz,ok.noex,ok.exfs,ok.funs,ok.frf⟩
section
variable {X:Cx} {pins:List (Addr×Obj)} {σ:St} {H:Hp} {s:Shared} {E:Value->Shared->Prop}
theorem Inv.wish (I:Inv X pins σ H s) (E:Value->Shared->Prop):Inv (X.wish E) pins σ H s:=⟨I.ok.wish E,I.os,I.bare,I.base,I.loc,I.cell,I.free,I.freeC,I.pin,I.hok,I.len⟩
theorem Inv.unwish (I:Inv (X.wish E) pins σ H s):Inv X pins σ H s:=⟨I.ok.unwish,I.os,I.bare,I.base,I.loc,I.cell,I.free,I.freeC,I.pin,I.hok,I.len⟩
theorem SP.unwish {D:Ends} {f:Flow} {s':Shared} (h:SP (X.wish E) pins D f s'):SP X pins D f s':=by
 cases f with
 | next=>obtain ⟨σ',H',I,q⟩:=h; exact ⟨σ',H',I.unwish,q⟩
 | brk=>obtain ⟨σ',H',I,q⟩:=h; exact ⟨σ',H',I.unwish,q⟩
 | cont=>obtain ⟨σ',H',I,q⟩:=h; exact ⟨σ',H',I.unwish,q⟩
 | ret u=>obtain ⟨v,σ',H',I,r,q⟩:=h; exact ⟨v,σ',H',I.unwish,r,q⟩
theorem PE.nox {e:Expr} {t:TE} (h:PE X.nox e t):PE X e t:=fun pins s σ H Q I hw =>
 wpAny_mono (h pins s σ H Q (I.wish _) hw) (fun _ _ ⟨v,H',I',r,q⟩=>⟨v,H',I'.unwish,r,q⟩) fun _ _ z=>False.elim z
theorem PT.nox {e:Expr} {t:TT} (h:PT X.nox e t):PT X e t:=fun pins s σ H Q I hw =>
 wpAny_mono (h pins s σ H Q (I.wish _) hw) (fun _ _ ⟨H',I',q⟩=>⟨H',I'.unwish,q⟩) fun _ _ z=>False.elim z
theorem PSs.nox {st:List Stmt} {t:TS} (h:PSs X.nox st t):PSs X st t:=fun pins s σ H D I hw =>
 wpAny_mono (h pins s σ H D (I.wish _) hw) (fun _ _ q=>q.unwish) fun _ _ z=>False.elim z
end
section
variable {X:Cx} {st:Stmt} {rest:List Stmt} {t u:TS} {e:Expr} {te:TE} {pos:Pos}
noncomputable def qC:TS:=fun D σ H=>D.nx σ H
noncomputable def fZ (t u:TS):TS:=fun D σ H=>t { D with nx:=u D } σ H
theorem o_:PSs X [] qC:=fun _ _ σ H _ I h=>wpAny_execs_nil ⟨σ,H,I,h⟩
theorem gq (h1:PS X st t) (h2:PSs X rest u):PSs X (st :: rest) (fZ t u):=by
 intro pins s σ H D I h;refine wpAny_execs_cons (cN (h1 pins s σ H { D with nx:=u D } I h) fun f s1 q=>?_)
 cases f with
 | next =>
  obtain ⟨σ',H',I',q⟩:=q;exact h2 pins s1 σ' H' D I' q
 | ret v=>exact q
 | brk=>exact q
 | cont=>exact q
theorem uR (h1:PS X st t):PSs X [st] t:=by
 intro pins s σ H D I h;refine wpAny_execs_cons (cN (h1 pins s σ H D I h) fun f s1 q=>?_)
 cases f with
 | next=>exact wpAny_execs_nil q
 | ret v=>exact q
 | brk=>exact q
 | cont=>exact q
theorem Inv.quiet {pins:List (Addr×Obj)} {σ:St} {H:Hp} {s:Shared} (I:Inv X pins σ H s):interactive X.env=false:=by simp [interactive,I.ok.kind]
noncomputable def lM (te:TE):TS:=fun D σ H=>te σ H fun _ H1=>D.nx σ H1
theorem ph (he:PE X e te) (hs:swapsWith e none pos.line X.env=pure false:=by rfl):PS X (.Expr e pos) (lM te):=by
 intro pins s σ H D I h;exact wpAny_Expr_any (cN (he pins s σ H _ I h) fun v s1 ⟨x,H1,I1,r1,q1⟩=>⟨σ,H1,I1,q1⟩) I.quiet hs
noncomputable def zW (c:TT) (t u:TS):TS:=fun D σ H=>c σ H fun b H1=>if b=true then t D σ H1 else u D σ H1
theorem zX {c:Expr} {a b:List Stmt} {tc:TT} (hc:PT X c tc) (ha:PSs X a t) (hb:PSs X b u):PS X (.If c a b pos) (zW tc t u):=by
 intro pins s σ H D I h;refine wpAny_If (cN (hc pins s σ H _ I h) fun d s1 ⟨H1,I1,q1⟩=>?_)
 cases d with
 | true=>exact ha pins s1 σ H1 D I1 q1
 | false=>exact hb pins s1 σ H1 D I1 q1
end
abbrev TG:=V->St->Hp->(St->Hp->Prop)->Prop
abbrev qD:=List V->St->Hp->(St->Hp->Prop)->Prop
noncomputable def PG (X:Cx) (target:Expr) (t:TG):Prop :=
 ∀(pins:List (Addr×Obj)) (s:Shared) (σ:St) (H:Hp) (v:V) (u:Value) (Q:St->Hp->Prop),Inv X pins σ H s->RelV v u->t v σ H Q ->
  wpAny (model X.prog X.w) X.A (assign target X.env u) (fun _ s'=>∃σ' H',Inv X pins σ' H' s'/\Q σ' H') X.xe s
noncomputable def qF (X:Cx) (ts:List Expr) (t:qD):Prop :=
 ∀(pins:List (Addr×Obj)) (s:Shared) (σ:St) (H:Hp) (vs:List V) (us:List Value) (Q:St->Hp->Prop),Inv X pins σ H s->Vals vs us->t vs σ H Q ->
  wpAny (model X.prog X.w) X.A (assignInOrder ((assignEach ts X.env).map (·.2)) us) (fun _ s'=>∃σ' H',Inv X pins σ' H' s'/\Q σ' H') X.xe s
abbrev Ie:=V->V->V->Hp->(Hp->Prop)->Prop
abbrev Qi:=V->V->Hp->VK->Prop
section
variable {X:Cx} {pos:Pos}
noncomputable def qG (i:Nat):TG:=fun v σ H Q=>Q (σ.set i (some v)) H
theorem Dd {i:Nat} {x:Str} (hN:X.N.Nodup) (hi:X.N[i]? = some x) (hx:Loc X.env.scope x) (hf:X.fn x=true\/X.env.scope.names.lookup x=some .local:=by first | exact .inl rfl | exact .inr rfl | assumption):PG X (.Name x pos) (qG i):=by
 intro pins s σ H v u Q I r h;exact wpAny_assign_Name (uB I hN hi hx r (fun s' I'=>⟨_,H,I',h⟩) hf)
noncomputable def zY:qD:=fun vs σ H Q=>vs=[]/\Q σ H
noncomputable def uT (t:TG) (u:qD):qD:=fun vs σ H Q=>∃v r,vs=v :: r/\t v σ H fun σ' H'=>u r σ' H' Q
theorem Ig:qF X [] zY:=by
 intro pins s σ H vs us Q I r h;obtain ⟨e,h⟩:=h;subst e
 cases r
 exact assignInOrder_nil ⟨σ,H,I,h⟩
theorem Ih {e:Expr} {es:List Expr} {t:TG} {u:qD} (h1:PG X e t) (h2:qF X es u)
  (hs:(assignEach (e :: es) X.env).map (·.2)=assign e X.env :: (assignEach es X.env).map (·.2):=by rfl):qF X (e :: es) (uT t u):=by
 intro pins s σ H vs us Q I r h;obtain ⟨v,vr,e1,h⟩:=h;subst e1
 cases r with
 | cons r rr =>
  rw [hs];refine assignInOrder_cons (cN (h1 pins s σ H _ _ _ I r h) fun _ s1 ⟨σ1,H1,I1,q1⟩=>?_);exact h2 pins s1 σ1 H1 _ _ Q I1 rr q1
noncomputable def zZ (K:PySem.W.Frag) (n:Nat) (t:qD):TG:=fun v σ H Q=>∃a xs,v=.ref a/\SqT K H a xs/\xs.length=n/\t xs σ H Q
theorem lF' {es:List Expr} {k:Nat} {t:qD} {n:Nat} (hc:X.calm=true) (h:qF X es t)
  (hn:(assignEach es X.env).length=n:=by rfl) (hst:(assignEach es X.env).findIdx? (·.1)=none:=by rfl):PG X (.Tuple es k pos) (zZ X.K n t):=by
 intro pins s σ H v u Q I r hw;obtain ⟨a,xs,e1,hq,hl,hw⟩:=hw;subst e1
 cases r
 obtain ⟨its,rv,ht,hz⟩:=I.tuple hq;refine assign_Tuple_tuple (I.ok.hd hc) ht (by simp [hn,<- hl,rv.length]) hst fun h' hx=>?_;have I1:Inv X pins σ H { s with heap:=h' }:=I.kept (t':=s.toks) fun b o e=>hx b o (Nat.ne_of_lt (Heap.lt_size e)) e
 exact h pins _ σ H xs _ Q I1 (by simpa using rv) hw
noncomputable def z8 (te:TE) (g:TG):TS:=fun D σ H=>te σ H fun x H1=>g x σ H1 D.nx
theorem z9 {i:Nat} {x:Str} {e:Expr} {te:TE} {pos':Pos} (hN:X.N.Nodup) (hi:X.N[i]? = some x) (hx:Loc X.env.scope x) (he:PE X e te) (hs:swapsWith e (some (.Name x pos')) pos.line X.env=pure false:=by rfl) (hf:X.fn x=true\/X.env.scope.names.lookup x=some .local:=by first | exact .inl rfl | exact .inr rfl | assumption) :
  PS X (.Assign [.Name x pos'] e pos) (z8 te (qG i)):=by
 intro pins s σ H D I h;refine wpAny_Assign_Name (cN (he pins s σ H _ I h) fun v s1 ⟨y,H1,I1,r1,q1⟩=>?_) hs;exact uB I1 hN hi hx r1 (fun s2 I2=>⟨_,H1,I2,q1⟩) hf
end
section
variable {X:Cx} {pos:Pos}
noncomputable def rA (c:TT) (tb:TS):TS:=fun D σ H=>∃W:Nat->St->Hp->Prop,(∃m,W m σ H)/\∀m σ H,W m σ H ->
 c σ H fun b H1=>if b=true then ∃N:St->Hp->Prop,(∀σ' H',N σ' H'->∃m',m' < m/\W m' σ' H')/\tb { D with nx:=N,ct:=N,bk:=D.nx } σ H1 else D.nx σ H1
theorem iq' {c:Expr} {body:List Stmt} {tc:TT} {tb:TS} (hp:PassesOwn (model X.prog X.w) X.A X.env X.xe) (hc:PT X c tc) (hb:PSs X body tb):PS X (.While c body [] pos) (rA tc tb):=by
 intro pins s σ H D I h;obtain ⟨W,⟨m0,w0⟩,turn⟩:=h;refine wpAny_While (codeAny_whileLoop (fun n s'=>∃σ' H',Inv X pins σ' H' s'/\W n σ' H') ?_ m0 ⟨σ,H,I,w0⟩)
 rintro n s1 ⟨σ1,H1,I1,w1⟩
 refine wpAny_passesOwn hp (cN (hc pins s1 σ1 H1 _ I1 (turn n σ1 H1 w1)) fun b s2 ⟨H2,I2,q2⟩=>?_)
 cases b with
 | true =>
  obtain ⟨N,hN,q2⟩:=q2;rw [if_pos rfl];refine wpAny_passesOwn hp (cN (hb pins s2 σ1 H2 _ I2 q2) fun f s3 q3=>?_)
  cases f with
  | next =>
   obtain ⟨σ3,H3,I3,n3⟩:=q3;obtain ⟨m',hm,w3⟩:=hN σ3 H3 n3;exact ⟨m',hm,σ3,H3,I3,w3⟩
  | cont =>
   obtain ⟨σ3,H3,I3,n3⟩:=q3;obtain ⟨m',hm,w3⟩:=hN σ3 H3 n3;exact ⟨m',hm,σ3,H3,I3,w3⟩
  | brk=>exact q3
  | ret v=>exact q3
 | false =>
  rw [if_neg Bool.false_ne_true];exact wpAny_execs_nil ⟨σ1,H2,I2,q2⟩
end
structure It where
 go:Nat->Hp->Prop
 yld:Nat->Hp->V->Hp->Prop
 stop:Nat->Hp->Prop
noncomputable def fK (X:Cx) (pins:List (Addr×Obj)) (H:Hp) (b:Addr):Prop :=
 H b=none/\b≠X.env.locals/\b∉X.fs/\(b∈X.ex\/X.s₀.heap.objs.size<=b)/\(∀x c,X.env.cells.lookup x=some c->c≠b)/\∀p∈X.pn ++ pins,p.1≠b
theorem Inv.fpOk {X:Cx} {pins:List (Addr×Obj)} {σ:St} {H H':Hp} {s:Shared} {b:Addr} (I:Inv X pins σ H s) (hb:s.heap.objs.size<=b) (hn:H' b=none):fK X pins H' b:=by
 refine ⟨hn,Nat.ne_of_gt (Nat.lt_of_lt_of_le I.lt hb),I.nofs hb,.inr (Nat.le_trans I.sz hb),fun x c e z=>?_,fun p hp z=>?_⟩
 ·obtain ⟨v,q⟩:=I.cell x c e;exact absurd (Nat.lt_of_lt_of_le q.lt (by rw [z]; exact hb)) (Nat.lt_irrefl _)
 ·exact absurd (Nat.lt_of_lt_of_le (Heap.lt_size (I.pin p hp).1) (by rw [z]; exact hb)) (Nat.lt_irrefl _)
structure Turn (P:Program) (w:World) (K:PySem.W.Frag) (tg:Expr) (J:It) (fp:List Addr) (it:Addr) (tn:Nat->Heap->Prop):Prop where
 mem:it∈fp
 obj:∀i h,tn i h->∀b∈fp,∃o,h.get? b=some o/\∀v,o.data≠.cell v
 keep:∀i h h',tn i h->(∀b∈fp,∀o,h.get? b=some o->h'.get? b=some o)->tn i h'
 item:∀(X:Cx),X.prog=P->X.w=w->X.K=K->X.calm=true->∀(i:Nat) (pins:List (Addr×Obj)) (s:Shared) (σ:St) (H:Hp) (E:Value->Shared->Prop),Inv X pins σ H s->(∀b∈fp,fK X pins H b)->tn i s.heap->J.go i H ->
  wpAny (model P w) X.A (pyNext (.ref it)) (fun r s1=>∃u,r=some u /\
   wpAny (model P w) X.A (letOwnedTupleGo tg (.ref it) u) (fun _ s2=>∃x H',Inv X pins σ H' s2/\RelV x u/\J.yld i H x H'/\tn (i + 1) s2.heap/\∀b∈fp,H' b=none) E s1) E s
 done:∀(X:Cx),X.prog=P->X.w=w->X.K=K->X.calm=true->∀(i:Nat) (pins:List (Addr×Obj)) (s:Shared) (σ:St) (H:Hp) (E:Value->Shared->Prop),Inv X pins σ H s->(∀b∈fp,fK X pins H b)->tn i s.heap->J.stop i H ->
  wpAny (model P w) X.A (pyNext (.ref it)) (fun r s1=>r=none/\Inv X pins σ H s1) E s
 self:∀(A:Around) (i:Nat) (s:Shared) (Q:Value->Shared->Prop) (E:Value->Shared->Prop),tn i s.heap->Q (.ref it) s->wpAny (model P w) A (pyIter (.ref it)) Q E s
abbrev TI:=St->Hp->(It->Hp->Prop)->Prop
noncomputable def PIE (X:Cx) (pins:List (Addr×Obj)) (σ:St) (tg:Expr) (R:It->Hp->Prop) (itv:Value) (s2:Shared):Prop :=
 ∃(it:Addr) (fp:List Addr) (tn:Nat->Heap->Prop) (J:It) (H':Hp),itv=.ref it/\Inv X pins σ H' s2/\Turn X.prog X.w X.K tg J fp it tn/\tn 0 s2.heap/\(∀b∈fp,fK X pins H' b)/\R J H'
noncomputable def PI (X:Cx) (tg iter:Expr) (wi:TI):Prop :=
 ∀(pins:List (Addr×Obj)) (s:Shared) (σ:St) (H:Hp) (R:It->Hp->Prop),Inv X pins σ H s->wi σ H R ->
  wpAny (model X.prog X.w) X.A (eval iter X.env) (fun v s1=>wpAny (model X.prog X.w) X.A (pyIter v) (PIE X pins σ tg R) X.xe s1) X.xe s
theorem uU {M:Model} {A:Around} {E:Value->Shared->Prop} {s:Shared} {tg:Expr} {it:Addr} {u:Value} {o:Obj} {n:String} {vs:Array Value} {Q:Unit->Shared->Prop} (ho:s.heap.get? it=some o) (hc:o.cls=.type n) (hd:o.data=.fields vs)
    (hn:["enumerate", "zip", "dict_itemiterator", "dict_reverseitemiterator", "odict_iterator", "itertools.zip_longest", "itertools.pairwise"].contains n=false) (hQ:Q () s):wpAny M A (letOwnedTupleGo tg (.ref it) u) Q E s:=by
  unfold letOwnedTupleGo
  cases tg <;> first
    | exact wpAny_pure hQ
    | (cases u <;> first
        | exact wpAny_pure hQ
        | (refine wpAny_bind (wpAny_load ho ?_)
           rw [hc,hd];show wpAny M A (if (["enumerate", "zip", "dict_itemiterator", "dict_reverseitemiterator", "odict_iterator", "itertools.zip_longest", "itertools.pairwise"].contains n && vs[0]? == some (rawInt _))=true then _ else _) Q E s
           rw [if_neg (by intro h; rw [hn,Bool.false_and] at h; cases h)];exact wpAny_pure hQ))
noncomputable def De (K:PySem.W.Frag) (a:Addr):It :=
 ⟨fun i H=>∃xs x,SqL K H a xs/\xs[i]? = some x,fun i H x H'=>H'=H/\∀xs,SqL K H a xs->xs[i]? = some x,fun i H=>∃xs,SqL K H a xs/\xs.length<=i⟩
noncomputable def Df (K:PySem.W.Frag) (a:Addr):It :=
 ⟨fun i H=>∃xs x,SqT K H a xs/\xs[i]? = some x,fun i H x H'=>H'=H/\∀xs,SqT K H a xs->xs[i]? = some x,fun i H=>∃xs,SqT K H a xs/\xs.length<=i⟩
noncomputable def pq (lo:Int) (n:Nat):It:=⟨fun i _=>i < n,fun i H x H'=>H'=H/\x=.int (lo + i),fun i _=>n<=i⟩
theorem Ii {P:Program} {w:World} {K:PySem.W.Frag} {tg:Expr} (a it:Addr):Turn P w K tg (De K a) [it] it (fun i h=>h.IsListIter it a i) where
 mem:=by simp
 obj:=fun i h st b hb=>by
  have e:b=it:=by simpa using hb
  subst e;obtain ⟨o,e,c,d⟩:=st;exact ⟨o,e,fun v z=>by rw [d] at z; cases z⟩
 keep:=fun i h h' st k=>st.at fun o e=>k it (by simp) o e
 item:=by
  intro X hP hw hK hc i pins s σ H E I hf st hg;subst hP hw hK;obtain ⟨xs,x,hq,hx⟩:=hg;obtain ⟨its,rv,p,hz⟩:=I.list hq;obtain ⟨u,hu,ru⟩:=rv.get hx;obtain ⟨f0,f1,f2,f3,f4,f5⟩:=hf it (by simp);refine wpAny_pyNext_list_item st p.isList (x:=u) (by simpa using hu) fun h' st' sb=>?_;have I1:Inv X pins σ H { s with heap:=h' }:=I.turned (t':=s.toks) (fun b o hb e=>(sb.2 b hb).trans e) f0 f1 f3 f4 f5
  obtain ⟨o,e,c,d⟩:=id st';exact ⟨u,rfl,uU (s:={ s with heap:=h' }) e c d (by decide) ⟨x,H,I1,ru,⟨rfl,fun ys hy=>by rw [I.list_inj hy hq]; exact hx⟩,st',fun b hb=>(hf b hb).1⟩⟩
 done:=by
  intro X hP hw hK hc i pins s σ H E I hf st hg;subst hP hw hK;obtain ⟨xs,hq,hx⟩:=hg;obtain ⟨its,rv,p,hz⟩:=I.list hq;obtain ⟨f0,f1,f2,f3,f4,f5⟩:=hf it (by simp);have hl:=rv.length;exact wpAny_pyNext_list_end (I.ok.hd hc) st p.isList (by simp; omega) fun h' eb=>⟨rfl,I.turned (t':=s.toks) (fun b o hb e=>eb b o hb e) f0 f1 f3 f4 f5⟩
 self:=fun _ _ _ _ _ st h=>wpAny_pyIter_listiter st h
theorem Ij {P:Program} {w:World} {K:PySem.W.Frag} {tg:Expr} (a it:Addr):Turn P w K tg (Df K a) [it] it (fun i h=>h.IsTupleIter it a i) where
 mem:=by simp
 obj:=fun i h st b hb=>by
  have e:b=it:=by simpa using hb
  subst e;obtain ⟨o,e,c,d⟩:=st;exact ⟨o,e,fun v z=>by rw [d] at z; cases z⟩
 keep:=fun i h h' st k=>st.at fun o e=>k it (by simp) o e
 item:=by
  intro X hP hw hK hc i pins s σ H E I hf st hg;subst hP hw hK;obtain ⟨xs,x,hq,hx⟩:=hg;obtain ⟨its,rv,p,hz⟩:=I.tuple hq;obtain ⟨u,hu,ru⟩:=rv.get hx;obtain ⟨f0,f1,f2,f3,f4,f5⟩:=hf it (by simp);refine wpAny_pyNext_tuple_item st (show s.heap.IsTuple a its.toArray from p) (x:=u) (by simpa using hu) fun h' st' sb=>?_
  have I1:Inv X pins σ H { s with heap:=h' }:=I.turned (t':=s.toks) (fun b o hb e=>(sb.2 b hb).trans e) f0 f1 f3 f4 f5
  obtain ⟨o,e,c,d⟩:=id st';exact ⟨u,rfl,uU (s:={ s with heap:=h' }) e c d (by decide) ⟨x,H,I1,ru,⟨rfl,fun ys hy=>by rw [I.tuple_inj hy hq]; exact hx⟩,st',fun b hb=>(hf b hb).1⟩⟩
 done:=by
  intro X hP hw hK hc i pins s σ H E I hf st hg;subst hP hw hK;obtain ⟨xs,hq,hx⟩:=hg;obtain ⟨its,rv,p,hz⟩:=I.tuple hq;obtain ⟨f0,f1,f2,f3,f4,f5⟩:=hf it (by simp);have hl:=rv.length;exact wpAny_pyNext_tuple_end (I.ok.hd hc) st (show s.heap.IsTuple a its.toArray from p) (by simp; omega) fun h' eb=>⟨rfl,I.turned (t':=s.toks) (fun b o hb e=>eb b o hb e) f0 f1 f3 f4 f5⟩
 self:=fun _ _ _ _ _ st h=>wpAny_pyIter_tupleiter st h
theorem Il {P:Program} {w:World} {K:PySem.W.Frag} {tg:Expr} (it:Addr) (lo:Int) (n:Nat):Turn P w K tg (pq lo n) [it] it (fun i h=>IsRangeIter h it (lo + (i:Nat) * 1) ((n:Int) - (i:Nat)) 1) where
 mem:=by simp
 obj:=fun i h st b hb=>by
  have e:b=it:=by simpa using hb
  subst e;exact ⟨_,st,fun v z=>by
   have z':Data.fields _=Data.cell v:=z
   cases z'⟩
 keep:=fun i h h' st k=>k it (by simp) _ st
 item:=by
  intro X hP hw hK hc i pins s σ H E I hf st hg;subst hP hw hK;obtain ⟨f0,f1,f2,f3,f4,f5⟩:=hf it (by simp);have W:=Walks.range (prog:=X.prog) (w:=X.w) (I.ok.hd hc) it lo 1 n;refine W.item i s _ _ hg st fun v h' tk hv st' kk=>?_;obtain ⟨t,rfl⟩:=hv;have I1:Inv X pins σ H { s with heap:=h',toks:=tk }:=I.turned (fun b o hb e=>kk b o (by simpa using hb) e) f0 f1 f3 f4 f5
  refine ⟨_,rfl,uU (s:={ s with heap:=h',toks:=tk }) (n:="range_iterator") st' rfl rfl (by decide) ⟨.int (lo + i),H,I1,⟨t,?_⟩,⟨rfl,rfl⟩,st',fun b hb=>(hf b hb).1⟩⟩
  rw [Int.mul_one]
 done:=by
  intro X hP hw hK hc i pins s σ H E I hf st hg;subst hP hw hK;obtain ⟨f0,f1,f2,f3,f4,f5⟩:=hf it (by simp);exact wpAny_pyNext_range_end (I.ok.hd hc) st (by have:n<=i:=hg; omega) fun h' eb=>⟨rfl,I.turned (t':=s.toks) (fun b o hb e=>eb b o hb e) f0 f1 f3 f4 f5⟩
 self:=fun _ _ _ _ _ st h=>wpAny_pyIter_rangeiter st h
section
variable {X:Cx} {tg:Expr}
theorem Im {pins:List (Addr×Obj)} {σ:St} {H:Hp} {s:Shared} {R:It->Hp->Prop} {E:Value->Shared->Prop} {lo hi:Int} {t u v:Tok} {tk:Nat} (I:Inv X pins σ H s) (h1:-(2 ^ 62)<=lo) (h2:lo < 2 ^ 62) (h3:-(2 ^ 62)<=hi) (h4:hi < 2 ^ 62)
  (q:R (pq lo (hi - lo).toNat) H):wpAny (model X.prog X.w) X.A (pyIter (.ref s.heap.objs.size)) (PIE X pins σ tg R) E { s with heap:=s.heap.push { cls:=.type "range",data:=.fields #[.int lo t,.int hi u,.int 1 v] },toks:=tk }:=by
 refine wpAny_pyIter_range (IsRange.new ..) (small_one h1 h2 h3 h4) ?_;have I1:Inv X pins σ H { s with heap:=s.heap.push { cls:=.type "range",data:=.fields #[.int lo t,.int hi u,.int 1 v] },toks:=tk }:=I.kept fun b o e=>Heap.get?_push_of_some _ e
 refine ⟨(s.heap.push { cls:=.type "range",data:=.fields #[.int lo t,.int hi u,.int 1 v] }).objs.size,[(s.heap.push { cls:=.type "range",data:=.fields #[.int lo t,.int hi u,.int 1 v] }).objs.size],_,_,H,rfl,
  I1.kept (t':=tk) fun b o e=>Heap.get?_push_of_some _ e,Il _ lo (hi - lo).toNat,?_,fun b hb=>?_,q⟩
 ·have e1:lo + ((0:Nat):Int) * 1=lo:=by simp
  have e2:(((hi - lo).toNat:Nat):Int) - ((0:Nat):Int)=Builtin.Range.rangeSize lo hi 1:=by rw [rangeSize_one]; split <;> omega
  show IsRangeIter _ _ (lo + ((0:Nat):Int) * 1) ((((hi - lo).toNat:Nat):Int) - ((0:Nat):Int)) 1;rw [e1,e2];exact Heap.get?_push_size _ rfl
 ·have e:b=(s.heap.push { cls:=.type "range",data:=.fields #[.int lo t,.int hi u,.int 1 v] }).objs.size:=by simpa using hb
  subst e;exact I1.fpOk (Nat.le_refl _) (I1.hok.fresh (Nat.le_refl _))
noncomputable def uV (ta:TA):TI:=fun σ H R=>ta σ H fun vs H1=>∃j:Int,vs=[.int j]/\-(2 ^ 62)<=j/\j < 2 ^ 62/\R (pq 0 j.toNat) H1
theorem Io {a:Expr} {ta:TA} {p pos:Pos} (hg:Gl X "range") (hm:X.mg "range" = none) (ha:PA X [a] ta) (hs:starEach [a] X.env=[(false,eval a X.env)]:=by rfl):PI X tg (.Call (.Name "range" p) [a] [] pos) (uV ta):=by
 intro pins s σ H R I h;refine Call_ (oN I hg hm boot_range (PyProof.Rows.callWith_type1 (cN (ha pos pins s σ H _ I h) fun us s1 ⟨vs,H1,I1,r1,q1⟩=>?_) hs rfl));obtain ⟨j,e,q1,q2,q⟩:=q1;subst e
 cases r1 with
 | cons r rr =>
  cases rr
  obtain ⟨t,rfl⟩:=r;exact call_range_1 (Im I1 (by omega) (by omega) q1 q2 (by simpa using q))
noncomputable def z_ (wi:TI) (g:TG) (tb:TS):TS:=fun D σ H=>wi σ H fun J H1=>∃W:Nat->Nat->St->Hp->Prop,(∃m,W 0 m σ H1)/\∀i m σ H,W i m σ H ->
 (J.stop i H/\D.nx σ H)\/(J.go i H/\∃N:St->Hp->Prop,(∀σ' H',N σ' H'->∃m',m' < m/\W (i + 1) m' σ' H')/\∀x H',J.yld i H x H'->g x σ H' fun σ2 H2=>tb { D with nx:=N,ct:=N,bk:=D.nx } σ2 H2)
noncomputable def iI (fp:List Addr) (h:Heap):List (Addr×Obj):=fp.filterMap fun b=>(h.get? b).map fun o=>(b,o)
theorem yO {fp:List Addr} {h:Heap} {b:Addr} {o:Obj} (hb:b∈fp) (e:h.get? b=some o):(b,o)∈iI fp h:=List.mem_filterMap.mpr ⟨b,hb,by rw [e]; rfl⟩
theorem Ip {fp:List Addr} {h:Heap} {p:Addr×Obj} (hp:p∈iI fp h):p.1∈fp/\h.get? p.1=some p.2:=by
 obtain ⟨b,hb,e⟩:=List.mem_filterMap.mp hp
 cases q:h.get? b with
 | none=>rw [q] at e; cases e
 | some o =>
  rw [q] at e;have e':(b,o)=p:=Option.some.inj e;subst e';exact ⟨hb,q⟩
theorem Inv.pinned {pins:List (Addr×Obj)} {σ:St} {H:Hp} {s:Shared} {fp:List Addr} (I:Inv X pins σ H s) (hf:∀b∈fp,fK X pins H b) (ho:∀b∈fp,∃o,s.heap.get? b=some o/\∀v,o.data≠.cell v):Inv X (pins ++ iI fp s.heap) σ H s :=
 I.pins_of fun p hp=>(List.mem_append.mp hp).elim (fun z=>I.pin p (List.mem_append_right _ z)) fun z=>by
  obtain ⟨hb,e⟩:=Ip z;obtain ⟨f0,f1,f2,_⟩:=hf p.1 hb;obtain ⟨o,e',d⟩:=ho p.1 hb;rw [e] at e'; cases e';exact ⟨e,f0,f1,f2,d⟩
theorem Inv.unpinned {pins pl:List (Addr×Obj)} {σ:St} {H:Hp} {s:Shared} (I:Inv X (pins ++ pl) σ H s):Inv X pins σ H s:=I.pins_of fun p hp=>I.pin p (List.mem_append_right _ (List.mem_append_left _ hp))
theorem Aa {iter:Expr} {body:List Stmt} {wi:TI} {g:TG} {tb:TS} {pos:Pos} (hp:PassesOwn (model X.prog X.w) X.A X.env X.xe) (hc:X.calm=true) (hi:PI X tg iter wi) (hg:PG X tg g) (hb:PSs X body tb)
  (hs:∀x,foldedSetIterable iter X.env x=pure x:=by intro _; rfl):PS X (.For tg iter body [] pos) (z_ wi g tb):=by
 intro pins s σ H D I h;refine wpAny_For (cN (hi pins s σ H _ I h) fun v s1 h1=>cN h1 fun itv s2 h2=>?_) hs;obtain ⟨it,fp,tn,J,H2,e,I2,T,st2,f2,W,⟨m0,w0⟩,turn⟩:=h2;subst e;have stat:∀{H':Hp},(∀b∈fp,H' b=none)->∀b∈fp,fK X pins H' b:=fun hn b hb=>⟨hn b hb,(f2 b hb).2⟩;refine codeAny_forLoop_any (fun n s'=>∃i σ' H',Inv X pins σ' H' s'/\tn i s'.heap/\(∀b∈fp,H' b=none)/\W i n σ' H') ?_ m0 ⟨0,σ,H2,I2,st2,fun b hb=>(f2 b hb).1,w0⟩
 rintro n s3 ⟨i,σ3,H3,I3,st3,fr3,w3⟩
 rcases turn i n σ3 H3 w3 with ⟨stop,qn⟩ | ⟨go,N,hN,step⟩
 ·refine wpAny_passesOwn hp (cN (T.done X rfl rfl rfl hc i pins s3 σ3 H3 X.xe I3 (stat fr3) st3 stop) fun r s4 ⟨hr,I4⟩=>?_)
  subst hr;exact wpAny_execs_nil ⟨σ3,H3,I4,qn⟩
 ·refine wpAny_passesOwn hp (cN (T.item X rfl rfl rfl hc i pins s3 σ3 H3 X.xe I3 (stat fr3) st3 go) fun r s4 ⟨u,hr,h4⟩=>?_);subst hr;refine wpAny_passesOwn hp (cN h4 fun _ s5 ⟨x,H5,I5,r5,y5,st5,fr5⟩=>?_);have I5':=I5.pinned (stat fr5) (T.obj _ _ st5);refine wpAny_passesOwn hp (cN (hg _ s5 σ3 H5 x u _ I5' r5 (step x H5 y5)) fun _ s6 ⟨σ6,H6,I6,q6⟩=>?_);refine wpAny_passesOwn hp (cN (hb _ s6 σ6 H6 _ I6 q6) fun f s7 q7=>?_);have again:∀{σ7:St} {H7:Hp},Inv X (pins ++ iI fp s5.heap) σ7 H7 s7->N σ7 H7->∃m,m < n/\∃i σ' H',Inv X pins σ' H' s7/\tn i s7.heap/\(∀b∈fp,H' b=none)/\W i m σ' H':=fun {σ7 H7} I7 n7=>by
   obtain ⟨m',hm,w7⟩:=hN σ7 H7 n7;refine ⟨m',hm,i + 1,σ7,H7,I7.unpinned,T.keep _ _ _ st5 fun b hb o e=>(I7.pin (b,o) (List.mem_append_right _ (List.mem_append_right _ (yO hb e)))).1,fun b hb=>?_,w7⟩;obtain ⟨o,e,d⟩:=T.obj _ _ st5 b hb;exact (I7.pin (b,o) (List.mem_append_right _ (List.mem_append_right _ (yO hb e)))).2.1
  cases f with
  | next=>obtain ⟨σ7,H7,I7,n7⟩:=q7; exact again I7 n7
  | cont=>obtain ⟨σ7,H7,I7,n7⟩:=q7; exact again I7 n7
  | brk=>obtain ⟨σ7,H7,I7,q7⟩:=q7; exact ⟨σ7,H7,I7.unpinned,q7⟩
  | ret v=>obtain ⟨x7,σ7,H7,I7,r7,q7⟩:=q7; exact ⟨x7,σ7,H7,I7.unpinned,r7,q7⟩
end
theorem Ir {lo:Int} {n:Nat} {g:TG} {tb:TS} {D:Ends} {σ:St} {H:Hp} (Pv:Nat->St->Hp->Prop) (h0:Pv 0 σ H)
  (hs:∀i σ H,i < n->Pv i σ H->g (.int (lo + i)) σ H fun σ2 H2=>tb { D with nx:=Pv (i + 1),ct:=Pv (i + 1),bk:=D.nx } σ2 H2) (hd:∀σ H,Pv n σ H->D.nx σ H) :
  ∃W:Nat->Nat->St->Hp->Prop,(∃m,W 0 m σ H)/\∀i m σ H,W i m σ H ->
   ((pq lo n).stop i H/\D.nx σ H)\/((pq lo n).go i H/\∃N:St->Hp->Prop,(∀σ' H',N σ' H'->∃m',m' < m/\W (i + 1) m' σ' H')/\∀x H',(pq lo n).yld i H x H'->g x σ H' fun σ2 H2=>tb { D with nx:=N,ct:=N,bk:=D.nx } σ2 H2):=by
 refine ⟨fun i m σ H=>m=n - i/\i<=n/\Pv i σ H,⟨n,by simp,Nat.zero_le _,h0⟩,?_⟩
 rintro i m σ H ⟨rfl,hi,p⟩
 by_cases hlt:i < n
 ·refine .inr ⟨hlt,Pv (i + 1),fun σ' H' p'=>⟨n - (i + 1),by omega,rfl,hlt,p'⟩,fun x H' y=>?_⟩;obtain ⟨e,y⟩:=y;subst e y;exact hs i σ _ hlt p
 ·have e:i=n:=by omega
  subst e;exact .inl ⟨Nat.le_refl _,hd σ H p⟩
abbrev R2:=V->V->Hp->VK->Prop
noncomputable def OpR (X:Cx) (f:Value->Value->Sem Value) (r:R2):Prop :=
 ∀(pins:List (Addr×Obj)) (s:Shared) (σ:St) (H:Hp) (x y:V) (v u:Value) (Q:VK),Inv X pins σ H s->RelV x v->RelV y u->r x y H Q ->
  wpAny (model X.prog X.w) X.A (f v u) (EP X pins σ Q) X.xe s
noncomputable def Dg (X:Cx) (f:Value->Sem Value) (r:V->Hp->VK->Prop):Prop :=
 ∀(pins:List (Addr×Obj)) (s:Shared) (σ:St) (H:Hp) (x:V) (v:Value) (Q:VK),Inv X pins σ H s->RelV x v->r x H Q ->
  wpAny (model X.prog X.w) X.A (f v) (EP X pins σ Q) X.xe s
noncomputable def CallR (X:Cx) (f:Value) (r:List V->Hp->VK->Prop):Prop :=
 ∀(pins:List (Addr×Obj)) (s:Shared) (σ:St) (H:Hp) (xs:List V) (us:List Value) (Q:VK),Inv X pins σ H s->Vals xs us->r xs H Q ->
  wpAny (model X.prog X.w) X.A (call f us) (EP X pins σ Q) X.xe s
noncomputable def Ab (X:Cx) (r:V->Hp->(Bool->Hp->Prop)->Prop):Prop :=
 ∀(pins:List (Addr×Obj)) (s:Shared) (σ:St) (H:Hp) (x:V) (v:Value) (Q:Bool->Hp->Prop),Inv X pins σ H s->RelV x v->r x H Q ->
  wpAny (model X.prog X.w) X.A (truthy v) (TP X pins σ Q) X.xe s
noncomputable def rI (C:Int->Int->Prop) (g:Int->Int->V):R2:=fun x y H Q=>∃i j,x=.int i/\y=.int j/\C i j/\Q (g i j) H
noncomputable def pA (g:Int->Int->V):R2:=fun x y H Q=>∃i j,x=.int i/\y=.int j/\Q (g i j) H
noncomputable def rU (g:Int->V):V->Hp->VK->Prop:=fun x H Q=>∃i,x=.int i/\Q (g i) H
section
variable {X:Cx} {a b c:Expr} {ta tb tc:TE} {pos:Pos}
theorem uC {f:Value->Value->Sem Value} {C:Int->Int->Prop} {g:Int->Int->Int}
  (rule:∀(i j:Int) (t u:Tok) (s:Shared) (Q:Value->Shared->Prop) (E:Value->Shared->Prop),C i j->Q (.int (g i j) s.toks) { s with toks:=s.toks + 1 }->wpAny (model X.prog X.w) X.A (f (.int i t) (.int j u)) Q E s) :
  OpR X f (rI C fun i j=>.int (g i j)):=by
 intro pins s σ H x y v u Q I rx ry h;obtain ⟨i,j,rfl,rfl,hc,q⟩:=h;obtain ⟨t,rfl⟩:=rx;obtain ⟨t',rfl⟩:=ry;exact rule i j t t' s _ _ hc ⟨.int (g i j),H,I.tok _,⟨_,rfl⟩,q⟩
theorem uW {f:Value->Value->Sem Value} {g:Int->Int->Int}
  (rule:∀(i j:Int) (t u:Tok) (s:Shared) (Q:Value->Shared->Prop) (E:Value->Shared->Prop),Q (.int (g i j) s.toks) { s with toks:=s.toks + 1 }->wpAny (model X.prog X.w) X.A (f (.int i t) (.int j u)) Q E s) :
  OpR X f (pA fun i j=>.int (g i j)):=by
 intro pins s σ H x y v u Q I rx ry h;obtain ⟨i,j,rfl,rfl,q⟩:=h;obtain ⟨t,rfl⟩:=rx;obtain ⟨t',rfl⟩:=ry;exact rule i j t t' s _ _ ⟨.int (g i j),H,I.tok _,⟨_,rfl⟩,q⟩
theorem rB {f:Value->Value->Sem Value} {g:Int->Int->Bool}
  (rule:∀(i j:Int) (t u:Tok) (s:Shared) (Q:Value->Shared->Prop) (E:Value->Shared->Prop),Q (.bool (g i j)) s->wpAny (model X.prog X.w) X.A (f (.int i t) (.int j u)) Q E s) :
  OpR X f (pA fun i j=>.bl (g i j)):=by
 intro pins s σ H x y v u Q I rx ry h;obtain ⟨i,j,rfl,rfl,q⟩:=h;obtain ⟨t,rfl⟩:=rx;obtain ⟨t',rfl⟩:=ry;exact rule i j t t' s _ _ ⟨.bl (g i j),H,I,rfl,q⟩
noncomputable def uX (i j:Int):Prop:=0<=j/\j<=1000000/\i.natAbs < 2 ^ 64
noncomputable def CMul (i j:Int):Prop:=(-(2 ^ 64) < i/\i < 2 ^ 64)\/(-(2 ^ 64) < j/\j < 2 ^ 64)
theorem CMul.ok {i j:Int} (h:CMul i j):IntMulOk i j:=by
 rcases h with ⟨h1,h2⟩ | ⟨h1,h2⟩
 ·exact .of_left (intBits_le_64 h1 h2)
 ·exact .of_right (intBits_le_64 h1 h2)
theorem op_add:OpR X (binaryOp .Add) (pA fun i j=>.int (i + j)):=uW fun _ _ _ _ _ _ _ q=>add_int q
theorem Iu:OpR X (binaryOp .Sub) (pA fun i j=>.int (i - j)):=uW fun _ _ _ _ _ _ _ q=>sub_int q
theorem Iv:OpR X (binaryOp .Mod) (rI (fun _ j=>j≠0) fun i j=>.int (i.fmod j)):=uC fun _ _ _ _ _ _ _ hc q=>mod_int' hc q
theorem Iw:OpR X (binaryOp .Pow) (rI uX fun i j=>.int (i ^ j.toNat)):=uC fun _ _ _ _ _ _ _ hc q=>pow_int_small hc.1 hc.2.1 hc.2.2 q
theorem Iz:OpR X (binaryOp .LShift) (rI uX fun i j=>.int (i * 2 ^ j.toNat)):=uC fun _ _ _ _ _ _ _ hc q=>lshift_int_small hc.1 hc.2.1 hc.2.2 q
theorem unI {f:Value->Sem Value} {g:Int->Int}
  (rule:∀(i:Int) (t:Tok) (s:Shared) (Q:Value->Shared->Prop) (E:Value->Shared->Prop),Q (.int (g i) s.toks) { s with toks:=s.toks + 1 }->wpAny (model X.prog X.w) X.A (f (.int i t)) Q E s) :
  Dg X f (rU fun i=>.int (g i)):=by
 intro pins s σ H x v Q I rx h;obtain ⟨i,rfl,q⟩:=h;obtain ⟨t,rfl⟩:=rx;exact rule i t s _ _ ⟨.int (g i),H,I.tok _,⟨_,rfl⟩,q⟩
theorem IK:Dg X (unaryOp .USub) (rU fun i=>.int (-i)):=unI fun _ _ _ _ _ q=>neg_int q
end
noncomputable def scal:V->V->Bool
 | .non,.non=>true | .non,.int _=>true | .int _,.non=>true | .non,.bl _=>true | .bl _,.non=>true | .non,.str _=>true | .str _,.non=>true
 | .int _,.int _=>true | .bl _,.bl _=>true | .str _,.str _=>true | .byt _,.byt _=>true
 | .int _,.str _=>true | .str _,.int _=>true | .bl _,.str _=>true | .str _,.bl _=>true
 | _,_=>false
section
variable {X:Cx} {a b c:Expr} {ta tb tc:TE} {pos:Pos}
theorem Dh {pins:List (Addr×Obj)} {σ:St} {H:Hp} {s:Shared} {Q:VK} {k k':Bool} (I:Inv X pins σ H s) (q:Q (.bl k) H) (e:k=k'):EP X pins σ Q (.bool k') s:=by
 subst e;exact ⟨.bl k,H,I,rfl,q⟩
theorem IV:OpR X (compareOp .Lt) (pA fun i j=>.bl (decide (i < j))):=rB fun _ _ _ _ _ _ _ q=>lt_int q
theorem mN':OpR X (compareOp .Gt) (pA fun i j=>.bl (decide (j < i))):=rB fun _ _ _ _ _ _ _ q=>gt_int q
theorem IW:OpR X (compareOp .GtE) (pA fun i j=>.bl (decide (j<=i))):=rB fun _ _ _ _ _ _ _ q=>ge_int q
theorem I_:OpR X (compareOp .In) (fun x y H Q=>∃i j,x=.str i/\y=.str j/\Q (.bl (!(Builtin.Str.occurrences j i 0 j.length 1).isEmpty)) H):=by
 intro pins s σ H x y v u Q I rx ry h;obtain ⟨i,j,rfl,rfl,q⟩:=h;obtain ⟨t,rfl⟩:=rx;obtain ⟨t',rfl⟩:=ry;exact in_str (Dh I q rfl)
theorem Ja:OpR X (compareOp .Is) (fun x y H Q=>y=.non/\Q (.bl (decide (x=.non))) H):=by
 intro pins s σ H x y v u Q I rx ry h;obtain ⟨rfl,q⟩:=h
 cases ry
 refine is_none_gen (Dh I q ?_)
 cases x <;> first
  | (cases rx; rfl)
  | (obtain ⟨t,rfl⟩:=rx; rfl)
theorem OpR.or {f:Value->Value->Sem Value} {r r':R2} (h:OpR X f r) (h':OpR X f r'):OpR X f (fun x y H Q=>r x y H Q\/r' x y H Q):=by
 intro pins s σ H x y v u Q I rx ry q;rcases q with q | q
 ·exact h pins s σ H x y v u Q I rx ry q
 ·exact h' pins s σ H x y v u Q I rx ry q
theorem dD (b:Expr) {op:CmpOp} (h:op≠.In:=by decide) (h2:op≠.NotIn:=by decide):behindInMarks op b=false:=by
 have e1:(op == CmpOp.In)=false:=by cases op <;> first | rfl | exact absurd rfl h
 have e2:(op == CmpOp.NotIn)=false:=by cases op <;> first | rfl | exact absurd rfl h2
 cases b <;> simp [behindInMarks,e1,e2]
noncomputable def Ac (K:PySem.W.Frag) (x:V) (H:Hp) (k:Bool):Prop :=
 match x with
 | .non=>k=false
 | .bl b=>k=b
 | .int i=>k=(i != 0)
 | .str y=>y.length<=sizeLine/\k=((y.length:Int) != 0)
 | .byt y=>y.size<=sizeLine/\k=((y.size:Int) != 0)
 | .ref p=>(∃xs,SqL K H p xs/\k = !xs.isEmpty)\/(∃xs,SqT K H p xs/\k = !xs.isEmpty)\/∃kvs,H p=some (.dK kvs)/\k = !kvs.isEmpty
 | _=>False
theorem Jb {κ:Type} {kvs:List (κ×V)} {vs:List (κ×Value)} (r:KV kvs vs):(!vs.isEmpty) = !kvs.isEmpty:=by
 cases r <;> rfl
theorem Di {xs:List V} {its:List Value} (r:Vals xs its):(!its.toArray.isEmpty) = !xs.isEmpty:=by
 cases r <;> simp
theorem uY:(sizeLine:Nat) < 2 ^ 63:=by rw [sizeLine_eq]; decide
theorem Jc:Ab X (fun x H Q=>∃k,Ac X.K x H k/\Q k H):=by
 intro pins s σ H x v Q I rx h;obtain ⟨k,e,q⟩:=h;have hl:=uY;have hs:sizeLine=16777216:=sizeLine_eq
 cases x with
 | non =>
  cases rx
  have e':k=false:=e;subst e';exact truthy_none ⟨H,I,q⟩
 | bl b =>
  cases rx
  have e':k=b:=e;subst e';exact wpAny_truthy_bool ⟨H,I,q⟩
 | int i =>
  obtain ⟨t,rfl⟩:=rx;have e':k=(i != 0):=e;subst e';exact PySem.P.truthy_int ⟨H,I,q⟩
 | str y =>
  obtain ⟨t,rfl⟩:=rx;obtain ⟨hy,e'⟩:y.length<=sizeLine/\k=((y.length:Int) != 0):=e;subst e';exact PySem.P.truthy_str (by omega) ⟨H,I.tok _,q⟩
 | byt y =>
  obtain ⟨t,rfl⟩:=rx;obtain ⟨hy,e'⟩:y.size<=sizeLine/\k=((y.size:Int) != 0):=e;subst e';exact PySem.W.truthy_bytes (by omega) ⟨H,I.tok _,q⟩
 | ref p =>
  cases rx
  have e':(∃xs,SqL X.K H p xs/\k = !xs.isEmpty)\/(∃xs,SqT X.K H p xs/\k = !xs.isEmpty)\/∃kvs,H p=some (.dK kvs)/\k = !kvs.isEmpty:=e;rcases e' with ⟨xs,hx,e'⟩ | ⟨xs,hx,e'⟩ | ⟨kvs,hx,e'⟩
  ·subst e';obtain ⟨its,r,pl,hz⟩:=I.list hx;have hlen:=r.length;exact wpAny_truthy_list pl.isList (by simp only [List.size_toArray]; omega) ⟨H,I.tok _,by rw [Di r]; exact q⟩
  ·subst e';obtain ⟨its,r,pl,hz⟩:=I.tuple hx;have hlen:=r.length;exact truthy_tuple pl (by simp only [List.size_toArray]; omega) ⟨H,I.tok _,by rw [Di r]; exact q⟩
  ·subst e';obtain ⟨hz,hS,vs,r,m⟩:kvs.length<=sizeLine/\(p == sysModules)=false/\∃vs,KV kvs vs/\s.heap.DictOf (aP X.prog X.w) p vs:=I.hok p _ hx;have hlen:kvs.length=vs.length:=Paired.length r;exact wpAny_truthy_dict hS m (by omega) ⟨H,I.tok _,by rw [Jb r]; exact q⟩
 | _=>exact (show False from e).elim
theorem op_add_str:OpR X (binaryOp .Add) (fun x y H Q=>∃i j,x=.str i/\y=.str j/\i.length + j.length<=sizeLine/\Q (.str (i ++ j)) H):=by
 intro pins s σ H x y v u Q I rx ry h;obtain ⟨i,j,rfl,rfl,hz,q⟩:=h;obtain ⟨t,rfl⟩:=rx;obtain ⟨t',rfl⟩:=ry;exact add_str (fun t' tk=>⟨.str (i ++ j),H,I.tok _,⟨_,rfl⟩,q⟩) hz
theorem vals1 {x:V} {us:List Value} (r:Vals [x] us):∃u,us=[u]/\RelV x u:=by
 cases r with
 | cons r1 r2=>cases r2; exact ⟨_,rfl,r1⟩
theorem is':CallR X (.builtin "abs") (fun xs H Q=>∃i,xs=[.int i]/\Q (.int (if i < 0 then -i else i)) H):=by
 intro pins s σ H xs us Q I r h;obtain ⟨i,rfl,q⟩:=h;obtain ⟨u,rfl,t,rfl⟩:=vals1 r;exact call_abs_int fun u tk=>⟨.int (if i < 0 then -i else i),H,I.tok _,⟨_,rfl⟩,q⟩
theorem Jd:CallR X (.type "str") (fun xs H Q=>∃i,xs=[.int i]/\i.natAbs.log2 < 1920/\Q (.str (toString i)) H):=by
 intro pins s σ H xs us Q I r h;obtain ⟨i,rfl,hz,q⟩:=h;obtain ⟨u,rfl,t,rfl⟩:=vals1 r;exact PySem.P.str_of_int hz ⟨.str _,H,I.tok _,⟨_,rfl⟩,q⟩
noncomputable def uZ (K:PySem.W.Frag) (x:V) (H:Hp) (n:Nat):Prop :=
 match x with
 | .str y=>y.length<=sizeLine/\n=y.length
 | .byt y=>y.size<=sizeLine/\n=y.size
 | .ref p=>(∃xs,SqL K H p xs/\n=xs.length)\/∃xs,SqT K H p xs/\n=xs.length
 | _=>False
theorem Je:CallR X (.builtin "len") (fun xs H Q=>∃x n,xs=[x]/\uZ X.K x H n/\Q (.int n) H):=by
 intro pins s σ H xs us Q I r h;obtain ⟨x,n,rfl,e,q⟩:=h;obtain ⟨u,rfl,rx⟩:=vals1 r;have hl:=uY;have hs:sizeLine=16777216:=sizeLine_eq
 cases x with
 | str y =>
  obtain ⟨t,rfl⟩:=rx;obtain ⟨hy,e'⟩:y.length<=sizeLine/\n=y.length:=e;subst e';exact len_str (by omega) ⟨.int _,H,I.tok _,⟨_,rfl⟩,q⟩
 | byt y =>
  obtain ⟨t,rfl⟩:=rx;obtain ⟨hy,e'⟩:y.size<=sizeLine/\n=y.size:=e;subst e';exact PySem.W.len_bytes (by omega) ⟨.int _,H,I.tok _,⟨_,rfl⟩,q⟩
 | ref p =>
  cases rx
  have e':(∃xs,SqL X.K H p xs/\n=xs.length)\/∃xs,SqT X.K H p xs/\n=xs.length:=e;rcases e' with ⟨xs,hx,e'⟩ | ⟨xs,hx,e'⟩
  ·subst e';obtain ⟨its,r',pl,hz⟩:=I.list hx;have hlen:=r'.length;exact Calls.call_len_list pl.isList (by simp only [List.size_toArray]; omega) ⟨.int xs.length,H,I.tok _,⟨_,by simp only [List.size_toArray]; rw [hlen]⟩,q⟩
  ·subst e';obtain ⟨its,r',pl,hz⟩:=I.tuple hx;have hlen:=r'.length;exact len_tuple pl (by simp only [List.size_toArray]; omega) ⟨.int xs.length,H,I.tok _,⟨_,by simp only [List.size_toArray]; rw [hlen]⟩,q⟩
 | _=>exact (show False from e).elim
end
structure ObjM (h:Heap) (x dx C:Addr) (mA:Str->Option Value):Prop where
 obj:h.get? x=some (PySem.W.instObj C dx)
 ns:h.Ns1 dx mA
 ne:dx≠x
theorem Jf {h:Heap} {dx:Addr} {mA:Str->Option Value} (n:h.Ns1 dx mA):∃od,h.get? dx=some od/\∀name,PySem.W.lookIn name od=some (mA name):=by
 obtain ⟨o,es,ep,ho,hd,hk,_,hm⟩:=n;refine ⟨o,ho,fun name=>?_⟩;have e:=hm name;unfold nsFind findBy at e;rw [<- Array.find?_toList] at e;unfold PySem.W.lookIn;rw [hd];dsimp only
 split
 ·rename_i y q;rw [q] at e;exact congrArg some e
 ·rename_i q;rw [q] at e;have a:es.toList.any (·.refKey)=false:=by
   rw [List.any_eq_false];intro y hy;obtain ⟨z,t,hkey⟩:=hk y (Array.mem_toList_iff.mp hy);simp [DictEntry.refKey,hkey]
  have a':¬es.toList.any (·.refKey)=true:=by rw [a]; exact Bool.false_ne_true
  rw [if_neg a'];exact congrArg some e
theorem ObjM.look {h:Heap} {x dx C:Addr} {mA:Str->Option Value} (I:ObjM h x dx C mA):∃od,PySem.W.InstAt h x (PySem.W.instObj C dx) C (some od)/\∀name,PySem.W.lookIn name od=some (mA name) :=
 let ⟨od,ho,hl⟩:=Jf I.ns
 ⟨od,⟨I.obj,rfl,rfl,ho⟩,hl⟩
section
variable {prog:Program} {w:World} {A:Around} {E:Value->Shared->Prop} {s:Shared} {K:PySem.W.Frag} {x dx C f:Addr} {mA:Str->Option Value} {name:Str} {v:Value}
theorem Jg {expr:Bool} {Q:Value->Shared->Prop} (X:K.In s.heap) (I:ObjM s.heap x dx C mA) (hg:PySem.W.plainGet K C name=true) (hh:PySem.W.hasDictIn K C=true)
  (ha:PySem.W.findIn K (.ref C) name=some none) (hv:mA name=some v) (hv':PySem.W.handedIn v=true) (h:Q v { s with toks:=s.toks + 1 }) :
  wpAny (model prog w) A (getAttr (.ref x) name expr) Q E s:=by
 obtain ⟨od,J,hl⟩:=I.look;exact PySem.W.get_value X J (PySem.W.plainGet_of hg).1 (PySem.W.findObj_own hh ha rfl (by rw [hl,hv])) hv' h
theorem Jh {pl:Sem Bool} {Q:Value×List Value->Shared->Prop} (X:K.In s.heap) (I:ObjM s.heap x dx C mA) (hg:PySem.W.plainGet K C name=true)
  (hf:PySem.W.findIn K (.ref C) name=some (some (.ref f))) (ht:PySem.W.isFn K (.ref f)=true) (hv:mA name=none) (h:Q (.ref f,[.ref x]) s) :
  wpAny (model prog w) A (getMethod (.ref x) name pl) Q E s:=by
 obtain ⟨od,J,hl⟩:=I.look;exact PySem.W.method_fn X J (PySem.W.plainGet_of hg).1 (PySem.W.plainGet_of hg).2 hf (beq_iff_eq.mp ht) (by show (PySem.W.lookIn name od).map (·.isSome)=some false; rw [hl,hv]; rfl) h
theorem Ji {ns:List Str} {Q:Unit->Shared->Prop} (X:K.In s.heap) (I:ObjM s.heap x dx C mA)
  (hs:PySem.W.findIn K (.ref C) "__setattr__" = some (some (.builtin "object.__setattr__"))) (hp:PySem.W.plainOver K C=true) (ht:PySem.W.takerIn K C name=some none) (hh:PySem.W.hasDictIn K C=true)
  (hw:PySem.Within mA ns) (hsz:ns.length<=sizeLine)
  (h:∀h',ObjM h' x dx C (fun y=>if y=name then some v else mA y)->Heap.SameBut dx s.heap h'->Q () { s with heap:=h',toks:=s.toks + 2 }) :
  wpAny (model prog w) A (setAttr (.ref x) name v) Q E s:=by
 obtain ⟨od,J,hl⟩:=I.look;refine PySem.W.set_plain X J hs (PySem.W.osa_open (s:={ s with toks:=s.toks + 1 }) (r:=none) X J hp ht fun b=>?_)
 obtain ⟨cd,hc,hd'⟩:=PySem.W.any_some hh;have hx:s.heap.get? x=some ⟨.ref C,some dx,.plain,#[]⟩:=I.obj;refine wpAny_bind (wpAny_pure (wpAny_bind (wpAny_bind (wpAny_loadPart hx (wpAny_bind (PySem.W.Looks.here (s:={ s with toks:=s.toks + 1 }) (PySem.W.looks_clsIn X hc) ?_))))))
 rw [hd'];refine wpAny_pure (a:=some dx) (wpAny_bind (wpAny_pure (wpAny_bind ?_)));refine wpAny_nsSet1 (s:={ s with toks:=s.toks + 1 }) I.ns fun h' hn2 hs2=>?_
 obtain ⟨oD,esD,epD,hoD,hdD,hcD⟩:=hn2.count (PySem.Within.cons name v hw);refine wpAny_bind (wpAny_lookBehind hoD (by rw [hdD]; exact pastItsLine_dict (Nat.le_trans hcD (by rw [List.length_cons]; omega))) ?_);exact wpAny_pure (h _ ⟨(hs2.2 _ (Ne.symm I.ne)).trans I.obj,hn2,I.ne⟩ hs2)
theorem Jj {R:Result->Shared->Prop} {vs:List Value} {kw:List (Str×Value)} (X:K.In s.heap) (hm:PySem.W.makesIn K C=true)
    (hi:PySem.W.findIn K (.ref C) "__init__" = some (some (.ref f))) (hf:PySem.W.typeIn K (.ref f)=some (.type "function"))
    (h:codeAny (model prog w) (A.under (.builtin "type.__call__" ⟨.ref C :: vs,kw⟩)) (.call (.ref f) ⟨.ref (s.heap.objs.size + 1) :: vs,kw⟩) (PySem.W.InitBack (s.heap.objs.size + 1) R)
      { s with heap:=(s.heap.push PySem.W.emptyDict).push (PySem.W.instObj C s.heap.objs.size) }) :
    codeAny (model prog w) A (.call (.ref C) ⟨vs,kw⟩) R s:=by
  obtain ⟨hh,g,d,t,os⟩:=s;exact PySem.W.make_core (PySem.W.makes_of X hm) (PySem.W.looks_findIn X hi) (fun self=>PySem.W.bind_fn X self hf) (.inl rfl) h
end
noncomputable def bW (f:Str) (v:V):List (Str×V)->List (Str×V)
 | []=>[(f,v)]
 | (g,x) :: r=>if g=f then (g,v) :: r else (g,x) :: bW f v r
theorem Dj (f g:Str) (v:V):∀fs:List (Str×V),(bW f v fs).lookup g=if g=f then some v else fs.lookup g
 | []=>by
  show List.lookup g [(f,v)]=_
  by_cases h:g=f
  ·have hb:(g == f)=true:=beq_iff_eq.mpr h;simp only [List.lookup,hb,if_pos h]
  ·have hb:(g == f)=false:=beq_eq_false_iff_ne.mpr h;simp only [List.lookup,hb,if_neg h]
 | (k,x) :: r=>by
  have ih:=Dj f g v r;rw [show bW f v ((k,x) :: r)=(if k=f then (k,v) :: r else (k,x) :: bW f v r) from rfl]
  by_cases hk:k=f
  ·rw [if_pos hk]
   by_cases h:g=k
   ·have hb:(g == k)=true:=beq_iff_eq.mpr h;simp only [List.lookup,hb,if_pos (h.trans hk)]
   ·have hb:(g == k)=false:=beq_eq_false_iff_ne.mpr h;simp only [List.lookup,hb,if_neg (fun e:g=f=>h (e.trans hk.symm))]
  ·rw [if_neg hk]
   by_cases h:g=k
   ·have hb:(g == k)=true:=beq_iff_eq.mpr h;simp only [List.lookup,hb,if_neg (fun e:g=f=>hk (h.symm.trans e))]
   ·have hb:(g == k)=false:=beq_eq_false_iff_ne.mpr h;simp only [List.lookup,hb];exact ih
theorem Ad (f:Str) (v:V):∀fs:List (Str×V),f∈(bW f v fs).map (·.1)/\∀g,g∈fs.map (·.1)->g∈(bW f v fs).map (·.1)
 | []=>⟨by simp [bW],fun g h=>by simp at h⟩
 | (k,x) :: r=>by
  obtain ⟨i1,i2⟩:=Ad f v r;rw [show bW f v ((k,x) :: r)=(if k=f then (k,v) :: r else (k,x) :: bW f v r) from rfl]
  by_cases hk:k=f
  ·rw [if_pos hk];subst hk;exact ⟨by simp,fun g h=>by simpa using h⟩
  ·rw [if_neg hk];refine ⟨?_,fun g h=>?_⟩
   ·rw [List.map_cons];exact List.mem_cons_of_mem _ i1
   ·rw [List.map_cons] at h ⊢;rcases List.mem_cons.mp h with e | e
    ·exact List.mem_cons.mpr (.inl e)
    ·exact List.mem_cons_of_mem _ (i2 g e)
theorem Dk (f:Str) (v:V):∀fs:List (Str×V),(bW f v fs).length<=fs.length + 1
 | []=>by simp [bW]
 | (k,x) :: r=>by
  have ih:=Dk f v r;rw [show bW f v ((k,x) :: r)=(if k=f then (k,v) :: r else (k,x) :: bW f v r) from rfl]
  by_cases hk:k=f
  ·rw [if_pos hk,List.length_cons,List.length_cons]; omega
  ·rw [if_neg hk,List.length_cons,List.length_cons]; omega
theorem RelO.some_of {v:V} {o:Option Value} (r:RelO (some v) o):∃u,o=some u/\RelV v u:=by
 cases o with
 | none=>exact (show False from r).elim
 | some u=>exact ⟨u,rfl,r⟩
theorem RelO.none_of {o:Option Value} (r:RelO none o):o=none:=by
 cases o with
 | none=>rfl
 | some u=>exact (show False from r).elim
theorem Jk {v:V} {u:Value} (r:RelV v u):PySem.W.handedIn u=true:=by
 cases v with
 | non=>cases (show u=Value.none from r); rfl
 | bl b=>cases (show u=Value.bool b from r); rfl
 | int i=>obtain ⟨t,e⟩:=(show ∃t,u=Value.int i t from r); cases e; rfl
 | str x=>obtain ⟨t,e⟩:=(show ∃t,u=Value.str x t from r); cases e; rfl
 | byt b=>obtain ⟨t,e⟩:=(show ∃t,u=Value.bytes b t from r); cases e; rfl
 | flt b=>obtain ⟨t,e⟩:=(show ∃t,u=Value.float b t from r); cases e; rfl
 | ref a=>cases (show u=Value.ref a from r); rfl
 | ty n=>cases (show u=Value.type n from r); rfl
section
variable {P:Program} {w:World} {H H':Hp} {h h':Heap} {a C dx:Addr} {fs fs':List (Str×V)}
theorem yP (hok:HOk P w H h) (e:H a=some (.ins C dx fs)):∃mA,ObjM h a dx C mA/\(∀f,RelO (fs.lookup f) (mA f))/\PySem.Within mA (fs.map (·.1))/\fs.length<=1000/\H dx=some (.own a):=by
 obtain ⟨d,z,ne,ob,mA,n,r,q⟩:=(show ObjOk P w H h a (.ins C dx fs) from hok a _ e)
 exact ⟨mA,⟨ob,n,ne⟩,r,q,z,d⟩
end
structure Cls (K:PySem.W.Frag) (C:Addr):Prop where
 pg:PySem.W.plainGet K C Str.empty=true
 hd:PySem.W.hasDictIn K C=true
 po:PySem.W.plainOver K C=true
 sa:PySem.W.findIn K (.ref C) "__setattr__" = some (some (.builtin "object.__setattr__"))
theorem Cls.get {K:PySem.W.Frag} {C:Addr} (c:Cls K C) (f:Str):PySem.W.plainGet K C f=true:=c.pg
noncomputable def NoAttr (K:PySem.W.Frag) (C:Addr) (f:Str):Prop:=PySem.W.findIn K (.ref C) f=some none
theorem NoAttr.taker {K:PySem.W.Frag} {C:Addr} {f:Str} (n:NoAttr K C f):PySem.W.takerIn K C f=some none:=by
 unfold PySem.W.takerIn;rw [show PySem.W.findIn K (.ref C) f=some none from n]
 rfl
structure Con (K:PySem.W.Frag) (C:Addr) (f:Str) (v:V) (u:Value):Prop where
 at_:PySem.W.findIn K (.ref C) f=some (some u)
 rel:RelV v u
 get:PySem.W.specialIn K u "__get__" = some none
 cp:PySem.W.copiedNames.contains f=false
structure Meth (K:PySem.W.Frag) (C:Addr) (m:Str) (f:Addr):Prop where
 at_:PySem.W.findIn K (.ref C) m=some (some (.ref f))
 fn:PySem.W.isFn K (.ref f)=true
 kp:PySem.W.keepIn K (.ref f)=true
section
variable {X:Cx} {pins:List (Addr×Obj)} {σ:St} {H:Hp} {s:Shared} {a C dx:Addr} {fs:List (Str×V)} {f:Str} {v:V} {A:Around} {E:Value->Shared->Prop}
theorem Dl {b:Bool} {Q:Value->Shared->Prop} (I:Inv X pins σ H s) (e:H a=some (.ins C dx fs)) (c:Cls X.K C) (n:NoAttr X.K C f) (l:fs.lookup f=some v)
  (h:∀u s',Inv X pins σ H s'->RelV v u->Q u s'):wpAny (model X.prog X.w) A (getAttr (.ref a) f b) Q E s:=by
 obtain ⟨mA,O,r,_,_,_⟩:=yP I.hok e;obtain ⟨u,hu,ru⟩:=RelO.some_of (v:=v) (o:=mA f) (by rw [<- l]; exact r f);exact Jg I.kIn O (c.get f) c.hd n hu (Jk ru) (h u _ (I.tok _) ru)
theorem yQ {m:Str} {g:Addr} {pl:Sem Bool} {Q:Value×List Value->Shared->Prop} (I:Inv X pins σ H s) (e:H a=some (.ins C dx fs)) (c:Cls X.K C) (k:Meth X.K C m g) (l:fs.lookup m=none)
  (h:Q (.ref g,[.ref a]) s):wpAny (model X.prog X.w) A (getMethod (.ref a) m pl) Q E s:=by
 obtain ⟨mA,O,r,_,_,_⟩:=yP I.hok e;have hn:mA m=none:=RelO.none_of (by rw [<- l]; exact r m);exact Jh I.kIn O (c.get m) k.at_ k.fn hn h
theorem Jl {y:V} {u:Value} {Q:Unit->Shared->Prop} (I:Inv X pins σ H s) (e:H a=some (.ins C dx fs)) (c:Cls X.K C) (n:NoAttr X.K C f) (hl:fs.length < 1000) (ry:RelV y u)
  (h:∀s',Inv X pins σ (upd H a (.ins C dx (bW f y fs))) s'->Q () s'):wpAny (model X.prog X.w) A (setAttr (.ref a) f u) Q E s:=by
 obtain ⟨mA,O,r,wi,_,ho⟩:=yP I.hok e;have hz:(fs.map (·.1)).length<=sizeLine:=by rw [List.length_map,sizeLine_eq]; omega
 refine Ji I.kIn O c.sa c.po n.taker c.hd wi hz fun h' O' sb=>h _ ?_;have hd:∃o,h'.get? dx=some o:=let ⟨o,_,_,e',_⟩:=O'.ns; ⟨o,e'⟩;refine I.write (x:=a) (e:=dx) (by rw [e]; exact True.intro) (.inr ho) (fun b q hb z=>(sb.2 b hb).trans z) hd ?_;refine ⟨by rw [aL O.ne]; exact ho,?_,O.ne,O'.obj,_,O'.ns,fun g=>?_,fun g hg=>?_⟩
 ·have:=Dk f y fs; omega
 ·show RelO ((bW f y fs).lookup g) (if g=f then some u else mA g)
  rw [Dj]
  by_cases q:g=f
  ·rw [if_pos q,if_pos q]; exact ry
  ·rw [if_neg q,if_neg q]; exact r g
 ·by_cases q:g=f
  ·rw [q]; exact (Ad f y fs).1
  ·refine (Ad f y fs).2 g (wi g fun z=>hg ?_);show (if g=f then some u else mA g)=none
   rw [if_neg q]; exact z
theorem Inv.made (I:Inv X pins σ H s):Inv X pins σ (upd (upd H s.heap.objs.size (.own (s.heap.objs.size + 1))) (s.heap.objs.size + 1) (.ins C s.heap.objs.size []))
    { s with heap:=(s.heap.push PySem.W.emptyDict).push (PySem.W.instObj C s.heap.objs.size) }:=by
  have e1:(s.heap.push PySem.W.emptyDict).get? s.heap.objs.size=some PySem.W.emptyDict:=Heap.get?_push_size s.heap rfl;have e2:((s.heap.push PySem.W.emptyDict).push (PySem.W.instObj C s.heap.objs.size)).get? (s.heap.objs.size + 1)=some (PySem.W.instObj C s.heap.objs.size):=by
    have:=Heap.get?_push_size (s.heap.push PySem.W.emptyDict) (o:=PySem.W.instObj C s.heap.objs.size) rfl
    rwa [Heap.size_push] at this
  have e3:(s.heap.push PySem.W.emptyDict).Ns s.heap.objs.size (fun _=>none):=⟨PySem.W.emptyDict,#[],_,e1,rfl,(fun e he=>absurd he (by simp)),fun _=>rfl⟩;have I1:=I.laid (a:=s.heap.objs.size) (o:=.own (s.heap.objs.size + 1)) (h':=s.heap.push PySem.W.emptyDict) (t':=s.toks) (fun b u q=>Heap.get?_push_of_some _ q) (Nat.le_refl _) ⟨_,e1⟩;refine I1.laid (a:=s.heap.objs.size + 1) (o:=.ins C s.heap.objs.size []) (t':=s.toks) (fun b u q=>Heap.get?_push_of_some _ q) (Nat.le_of_eq (Heap.size_push _ _)) ?_;have ne:s.heap.objs.size≠s.heap.objs.size + 1:=Nat.ne_of_lt (Nat.lt_succ_self _);refine ⟨by rw [aL ne,bR],Nat.zero_le _,ne,e2,fun _=>none,(Heap.Ns1.of_empty e3).at fun o q=>Heap.get?_push_of_some _ q,fun _=>True.intro,fun y hy=>absurd rfl hy⟩
theorem Dm {prog:Program} {w:World} {env:Env} {e:Expr} {f:Str} {pos:Pos} {s:Shared} {Q:Value->Shared->Prop} (hb:attributeBase e f env (eval e env)=eval e env)
  (h:wpAny (model prog w) A (eval e env) (fun o s₁=>wpAny (model prog w) A (getAttr o f true) Q E s₁) E s):wpAny (model prog w) A (eval (.Attribute e f pos) env) Q E s :=
 Attribute_any_ h (by rw [arm_eval_Attribute,hb])
end
noncomputable def Ae (K:PySem.W.Frag) (ta:TE) (f:Str):TE:=fun σ H Q=>ta σ H fun x H1=>∃a C dx fs v,x=.ref a/\H1 a=some (.ins C dx fs)/\Cls K C/\NoAttr K C f/\fs.lookup f=some v/\Q v H1
noncomputable def e_ (K:PySem.W.Frag) (ta tv:TE) (f:Str):TS:=fun D σ H=>tv σ H fun y H1=>ta σ H1 fun x H2=>∃a C dx fs,x=.ref a/\H2 a=some (.ins C dx fs)/\Cls K C/\NoAttr K C f/\fs.length < 1000 /\
 D.nx σ (upd H2 a (.ins C dx (bW f y fs)))
section
variable {X:Cx} {o e value:Expr} {f:Str} {pos pos' tpos:Pos} {ta tv:TE}
theorem Af (he:PE X e ta) (hb:attributeBase e f X.env (eval e X.env)=eval e X.env):PE X (.Attribute e f pos) (Ae X.K ta f):=by
 intro pins s σ H Q I h;refine Dm hb (cN (he pins s σ H _ I h) fun u s1 ⟨x,H1,I1,rx,a,C,dx,fs,v,ex,ea,c,n,l,q⟩=>?_);subst ex;obtain rfl:u=Value.ref a:=rx;exact Dl I1 ea c n l fun u' s2 I2 ru=>⟨v,H1,I2,ru,q⟩
theorem lJ (ha:PE X o ta) (hv:PE X value tv) (hs:swapsWith value (some (.Attribute o f pos')) pos.line X.env=pure false):PS X (.Assign [.Attribute o f pos'] value pos) (e_ X.K ta tv f):=by
 intro pins s σ H D I h;refine plainObj_wpAny_Assign_Attribute (cN (hv pins s σ H _ I h) fun u s1 ⟨y,H1,I1,ry,q⟩=>cN (ha pins s1 σ H1 _ I1 q) fun ov s2 ⟨x,H2,I2,rx,a,C,dx,fs,ex,ea,c,n,l,q2⟩=>?_) hs;subst ex;obtain rfl:ov=Value.ref a:=rx;exact Jl I2 ea c n l ry fun s3 I3=>⟨σ,_,I3,q2⟩
end
section
variable {X:Cx} {pins:List (Addr×Obj)} {σ:St} {H:Hp} {s:Shared} {A:Around} {E:Value->Shared->Prop} {Q:Value->Shared->Prop} {c:Value} {b:Bool}
inductive TyOf (K:PySem.W.Frag) (H:Hp):V->Value->Prop where
 | non:TyOf K H .non (.type "NoneType")
 | bl (x:Bool):TyOf K H (.bl x) (.type "bool")
 | int (i:Int):TyOf K H (.int i) (.type "int")
 | str (x:Str):TyOf K H (.str x) (.type "str")
 | flt (x:UInt64):TyOf K H (.flt x) (.type "float")
 | lst {a:Addr} {xs:List V} (e:H a=some (.lst xs)):TyOf K H (.ref a) (.type "list")
 | frz {a:Addr} {o:Obj} {xs:List V} (e:H a=some (.frz o (.lst xs))):TyOf K H (.ref a) (.type "list")
 | tup {a:Addr} {xs:List V} (e:H a=some (.tup xs)):TyOf K H (.ref a) (.type "tuple")
 | dK {a:Addr} {kvs:List (Key×V)} (e:H a=some (.dK kvs)):TyOf K H (.ref a) (.type "dict")
 | dT {a:Addr} {kvs:List (List Key×V)} (e:H a=some (.dT kvs)):TyOf K H (.ref a) (.type "dict")
 | ins {a C dx:Addr} {fs:List (Str×V)} (e:H a=some (.ins C dx fs)) (cl:Cls K C) (ha:PySem.W.findIn K (.ref C) "__class__" = some (some (.builtin "object.__class__")))
   (hn:PySem.W.specialIn K (.builtin "object.__class__") "__get__" = some (some (.builtin "getset_descriptor.__get__"))) (htk:PySem.W.takesIn K (.builtin "object.__class__")=some true)
   (hm:PySem.W.mroIn K C (.type "object")=some true):TyOf K H (.ref a) (.ref C)
theorem u6 {x:V} {u t:Value} (I:Inv X pins σ H s) (rx:RelV x u) (ty:TyOf X.K H x t) (e:PySem.W.kitOne X.K t c=some b) (h:∀tk,Q (.bool b) { s with toks:=tk }) :
  wpAny (model X.prog X.w) A (call (.builtin "isinstance") [u,c]) Q E s:=by
 cases ty with
 | non=>cases (show u=Value.none from rx); exact PySem.W.kia_one PySem.W.kitx_none I.kIn True.intro e (fun z=>nomatch z) h
 | bl y=>cases (show u=Value.bool y from rx); exact PySem.W.kia_one PySem.W.kitx_bool I.kIn True.intro e (fun z=>nomatch z) h
 | int i=>obtain ⟨t,q⟩:=(show ∃t,u=Value.int i t from rx); cases q; exact PySem.W.kia_one PySem.W.kitx_int I.kIn True.intro e (fun z=>nomatch z) h
 | str y=>obtain ⟨t,q⟩:=(show ∃t,u=Value.str y t from rx); cases q; exact PySem.W.kia_one PySem.W.kitx_str I.kIn True.intro e (fun z=>nomatch z) h
 | flt y=>obtain ⟨t,q⟩:=(show ∃t,u=Value.float y t from rx); cases q; exact PySem.W.kia_one PySem.W.kitx_float I.kIn True.intro e (fun z=>nomatch z) h
 | @lst a xs ea =>
  cases (show u=Value.ref a from rx)
  obtain ⟨_,_,n,_,h1⟩:=(show ObjOk X.prog X.w H s.heap a (.lst xs) from I.hok a _ ea)
  exact PySem.W.kia_one PySem.W.kitx_list I.kIn ⟨_,h1,rfl⟩ e (fun z=>nomatch z) h
 | @frz a ob xs ea =>
  cases (show u=Value.ref a from rx)
  obtain ⟨_,_,_,n,_,h1⟩:=(show ObjOk X.prog X.w H s.heap a (.frz ob (.lst xs)) from I.hok a _ ea)
  exact PySem.W.kia_one PySem.W.kitx_list I.kIn ⟨_,h1,rfl⟩ e (fun z=>nomatch z) h
 | @tup a xs ea =>
  cases (show u=Value.ref a from rx)
  obtain ⟨_,_,_,p⟩:=(show ObjOk X.prog X.w H s.heap a (.tup xs) from I.hok a _ ea)
  obtain ⟨o,h1,h2,_⟩:=p;exact PySem.W.kia_one PySem.W.kitx_tuple I.kIn ⟨o,h1,h2⟩ e (fun z=>nomatch z) h
 | @dK a kvs ea =>
  cases (show u=Value.ref a from rx)
  obtain ⟨_,_,vs,_,p⟩:=(show ObjOk X.prog X.w H s.heap a (.dK kvs) from I.hok a _ ea)
  obtain ⟨o,es,ep,h1,h2,_⟩:=p;exact PySem.W.kia_one PySem.W.kitx_dict I.kIn ⟨o,h1,h2.1⟩ e (fun z=>nomatch z) h
 | @dT a kvs ea =>
  cases (show u=Value.ref a from rx)
  obtain ⟨_,_,xs,_,o,es,ep,h1,h2,_⟩:=(show ObjOk X.prog X.w H s.heap a (.dT kvs) from I.hok a _ ea)
  exact PySem.W.kia_one PySem.W.kitx_dict I.kIn ⟨o,h1,h2.1⟩ e (fun z=>nomatch z) h
 | @ins a C dx fs ea cl ha hn htk hm =>
  cases (show u=Value.ref a from rx)
  obtain ⟨mA,O,_⟩:=yP I.hok ea;obtain ⟨od,J,_⟩:=O.look;exact PySem.W.kia_one (PySem.W.kitx_own (cl.get _) cl.hd ha hn htk hm) I.kIn J e (fun z=>nomatch z) h
end
structure Room (k:Nat) (A:Around):Prop where
 hd:A.handled=none
 dp:A.depth + 3 * k + 5 < recursionLimit
 un:A.units + 16 * k + 200 < cLine
theorem Room.mono {j k:Nat} {A:Around} (r:Room k A) (h:j<=k):Room j A:=⟨r.hd,by have:=r.dp; omega,by have:=r.un; omega⟩
theorem Room.deeper {k:Nat} {A:Around} (r:Room (k + 1) A) (env:Env):Room k (A.deeper env) :=
 ⟨r.hd,by have:=r.dp; show A.depth + 1 + 3 * k + 5 < _; omega,by have:=r.un; show A.units + 3 + 16 * k + 200 < _; omega⟩
theorem Room.in1 {k:Nat} {A:Around} (r:Room (k + 1) A):Room k A.in1 :=
 ⟨r.hd,by have:=r.dp; show A.depth + 3 * k + 5 < _; omega,by have:=r.un; show A.units + 1 + 16 * k + 200 < _; omega⟩
theorem Jo {A:Around} {C:Addr} {us:List Value} {kw:List (Str×Value)}:(A.under (.builtin "type.__call__" ⟨.ref C :: us,kw⟩)).depth=A.depth + 1:=by
 first | rfl | simp [Around.under,Code.weight,Code.isCreation,Code.isGuard,Code.isCaller,Code.frames,Code.isFrame,guardIds]
theorem Jp {A:Around} {C:Addr} {us:List Value} {kw:List (Str×Value)}:(A.under (.builtin "type.__call__" ⟨.ref C :: us,kw⟩)).units=A.units + 1:=by
 first | rfl | simp [Around.under,Code.cUnits,Code.frames,Code.isFrame]
theorem Room.make {k:Nat} {A:Around} (r:Room (k + 1) A) (C:Addr) (us:List Value) (kw:List (Str×Value)):Room k (A.under (.builtin "type.__call__" ⟨.ref C :: us,kw⟩)) :=
 ⟨r.hd,by have:=r.dp; rw [Jo]; omega,by have:=r.un; rw [Jp]; omega⟩
theorem Room.depth {k:Nat} {A:Around} (r:Room k A):A.depth < recursionLimit:=by have:=r.dp; omega
theorem Room.units {k:Nat} {A:Around} (r:Room k A):A.units + 64 < cLine:=by have:=r.un; omega
noncomputable def kh:TA:=fun _ H Q=>Q [] H
noncomputable def lN (ta:TE) (tr:TA):TA:=fun σ H Q=>ta σ H fun x H1=>tr σ H1 fun xs H2=>Q (x :: xs) H2
section
variable {X:Cx} {e:Expr} {es:List Expr} {te:TE} {t:TA} {pos:Pos}
theorem u9:PA X [] kh:=fun _ _ _ _ H Q I h=>Calls.spliced_nil ⟨[],H,I,.nil,h⟩
theorem pB (ha:PE X e te) (hr:PA X es t) (hs:starEach (e :: es) X.env=(false,eval e X.env) :: starEach es X.env:=by rfl):PA X (e :: es) (lN te t):=by
 intro pos pins s σ H Q I h;rw [hs];show wpAny _ _ (spliced ((false,eval e X.env) :: backTo pos (starEach es X.env))) _ _ s;refine Calls.spliced_cons (cN (ha pins s σ H _ I h) fun u s1 ⟨x,H1,I1,r1,q1⟩=>?_);exact cN (hr pos pins s1 σ H1 _ I1 q1) fun us s2 ⟨xs,H2,I2,r2,q2⟩=>⟨x :: xs,H2,I2,.cons r1 r2,q2⟩
noncomputable def rC (t:TA):TE:=fun σ H Q=>t σ H fun xs H1=>xs.length<=sizeLine/\∀p,H1 p=none->Q (.ref p) (upd H1 p (.tup xs))
noncomputable def rD (t:TA):TE:=fun σ H Q=>t σ H fun xs H1=>xs.length<=sizeLine/\∀p,H1 p=none->Q (.ref p) (upd H1 p (.lst xs))
theorem Jq {x1} (h:PA X es t):PE X (.Tuple es x1 pos) (rC t):=by
 intro pins s σ H Q I hq;refine wpAny_Tuple_spliced (cN (h pos pins s σ H _ I hq) fun us s1 ⟨xs,H1,I1,r,z,q⟩=>⟨by rw [<- r.length]; exact z,?_⟩);have hf:H1 s1.heap.objs.size=none:=I1.hok.fresh (Nat.le_refl _);refine ⟨.ref s1.heap.objs.size,upd H1 s1.heap.objs.size (.tup xs),I1.laid (t':=s1.toks) (fun b u e=>Heap.get?_push_of_some _ e) (Nat.le_refl _) ?_,rfl,q _ hf⟩;exact ⟨z,us,r,⟨_,Heap.get?_push_size _ rfl,rfl,_,rfl⟩⟩
theorem lN' (h:PA X es t):PE X (.List es pos) (rD t):=by
 intro pins s σ H Q I hq;refine wpAny_List_spliced (cN (h pos pins s σ H _ I hq) fun us s1 ⟨xs,H1,I1,r,z,q⟩=>⟨by rw [<- r.length]; exact z,?_⟩);have hf:H1 s1.heap.objs.size=none:=I1.hok.fresh (Nat.le_refl _);refine ⟨.ref s1.heap.objs.size,upd H1 s1.heap.objs.size (.lst xs),I1.laid (t':=s1.toks) (fun b u e=>Heap.get?_push_of_some _ e) (Nat.le_refl _) ?_,rfl,q _ hf⟩;exact ⟨z,us,0,r,Heap.get?_push_size _ rfl⟩
end
abbrev Sp:=List V->Hp->VK->XK->Prop
abbrev iV:=List Env->Hp->Shared->XK->Value->Shared->Prop
structure Env0 (P:Program) (w:World) (K:PySem.W.Frag) (mg:Str->Option Value) (base:Heap) (A:Around) (outer:List Env) (s:Shared) (H:Hp):Prop where
 frames:A.frames=some outer
 mod:Mod K mg base
 bs:∀b o,base.get? b=some o->s.heap.get? b=some o/\H b=none
 bsz:base.objs.size<=s.heap.objs.size
 funs:s.heap.FunFrames base outer
 frf:∀b∈frs outer,H b=none
 hok:HOk P w H s.heap
 bare:AllBare s.gens
noncomputable def CE (outer:List Env) (P:Program) (w:World) (H:Hp) (s:Shared) (Q:VK) (u:Value) (s':Shared):Prop :=
 ∃v H',s'.os=s.os/\AllBare s'.gens/\Un (frs outer) [] H H' s.heap s'.heap/\HOk P w H' s'.heap/\RelV v u/\Q v H'
noncomputable def CR (CX:iV) (outer:List Env) (P:Program) (w:World) (H:Hp) (s:Shared) (Q:VK) (E:XK) (r:Result) (s':Shared):Prop :=
 match r with
 | .ok (.ret u)=>CE outer P w H s Q u s'
 | .ok _=>False
 | .error e=>CX outer H s E e s'
structure FnOk (P:Program) (w:World) (K:PySem.W.Frag) (mg:Str->Option Value) (base:Heap) (CX:iV) (k:Nat) (f:Addr) (fd:FuncData) (ps:List Str) (sp:Sp):Prop where
 len:∀vs H Q E,sp vs H Q E->vs.length=ps.length
 run:∀(A:Around) (outer:List Env) (s:Shared) (H:Hp) (args:Args) (us:List Value) (vs:List V) (Q:VK) (E:XK),Room k A->Env0 P w K mg base A outer s H->BindsTo s fd args (ps.zip us)->Vals vs us->sp vs H Q E ->
  codeAny (model P w) A (.call (.ref f) args) (CR CX outer P w H s Q E) s
theorem FnOk.mono {P:Program} {w:World} {K:PySem.W.Frag} {mg:Str->Option Value} {base:Heap} {CX:iV} {j k:Nat} {f:Addr} {fd:FuncData} {ps:List Str} {sp:Sp} (F:FnOk P w K mg base CX j f fd ps sp) (h:j<=k) :
  FnOk P w K mg base CX k f fd ps sp:=⟨F.len,fun A outer s H args us vs Q E hr=>F.run A outer s H args us vs Q E (hr.mono h)⟩
theorem FnOk.imp {P:Program} {w:World} {K:PySem.W.Frag} {mg:Str->Option Value} {base:Heap} {CX:iV} {k:Nat} {f:Addr} {fd:FuncData} {ps:List Str} {sp sp':Sp} (F:FnOk P w K mg base CX k f fd ps sp)
  (h:∀vs H Q E,sp' vs H Q E->sp vs H Q E):FnOk P w K mg base CX k f fd ps sp' :=
 ⟨fun vs H Q E q=>F.len vs H Q E (h _ _ _ _ q),fun A outer s H args us vs Q E hr he hb hv hs=>F.run A outer s H args us vs Q E hr he hb hv (h _ _ _ _ hs)⟩
theorem Env0.make {P:Program} {w:World} {K:PySem.W.Frag} {mg:Str->Option Value} {base:Heap} {A:Around} {outer:List Env} {s:Shared} {H:Hp} (e:Env0 P w K mg base A outer s H) (C:Addr) (us:List Value) (kw:List (Str×Value)) :
  Env0 P w K mg base (A.under (.builtin "type.__call__" ⟨.ref C :: us,kw⟩)) outer s H:=⟨by first | exact e.frames | (simpa [Around.under,Code.envs,Code.isFrame,pushEnvs] using e.frames),e.mod,e.bs,e.bsz,e.funs,e.frf,e.hok,e.bare⟩
theorem Env0.in1 {P:Program} {w:World} {K:PySem.W.Frag} {mg:Str->Option Value} {base:Heap} {A:Around} {outer:List Env} {s:Shared} {H:Hp} (e:Env0 P w K mg base A outer s H) :
  Env0 P w K mg base A.in1 outer s H:=⟨e.frames,e.mod,e.bs,e.bsz,e.funs,e.frf,e.hok,e.bare⟩
section
variable {X:Cx} {pins:List (Addr×Obj)} {σ:St} {H:Hp} {s s':Shared}
theorem Inv.env0 (I:Inv X pins σ H s):Env0 X.prog X.w X.K X.mg X.base X.A X.stack s H :=
 ⟨I.ok.frames,I.ok.mod,I.bs,Nat.le_trans I.ok.bsz I.sz,I.stack,I.stkFree,I.hok,I.bare⟩
theorem Inv.after {Q:VK} {u:Value} (I:Inv X pins σ H s) (h:CE X.stack X.prog X.w H s Q u s'):EP X pins σ Q u s':=by
 obtain ⟨v,H',os,bare,un,hok,r,q⟩:=h;obtain ⟨hh,g,d,t,os'⟩:=s';obtain rfl:os'=s.os:=os;exact ⟨v,H',I.call (h':=hh) (g':=g) (d':=d) (t':=t) (ch:=[]) un hok bare (fun b z=>absurd z (by simp)),r,q⟩
end
noncomputable def u_ (C:Addr) (m:Str) (sp:Sp) (dvs:List V) (E:XK) (ta:TE) (t:TA):TE:=fun σ H Q=>ta σ H fun x H1=>∃a dx fs,x=.ref a/\H1 a=some (.ins C dx fs)/\fs.lookup m=none /\
 t σ H1 fun vs H2=>sp (x :: (vs ++ dvs)) H2 Q E
noncomputable def vd (C:Addr) (sp:Sp) (dvs:List V) (E:XK) (t:TA):TE:=fun σ H Q=>t σ H fun vs H1=>∀x dx,H1 x=none->H1 dx=none->dx≠x ->
 sp (.ref x :: (vs ++ dvs)) (upd (upd H1 dx (.own x)) x (.ins C dx [])) (fun v H2=>v=.non/\Q (.ref x) H2) E
noncomputable def Binds (K:PySem.W.Frag) (fd:FuncData) (ps:List Str) (ds:List Value):Prop :=
 ∀(s:Shared) (us:List Value),K.In s.heap->(us ++ ds).length=ps.length->BindsTo s fd ⟨us,[]⟩ (ps.zip (us ++ ds))
theorem Binds.all {K:PySem.W.Frag} {fd:FuncData} {ps:List Str} (h:∀us:List Value,us.length=ps.length->bindArgs fd ⟨us,[]⟩=pure (ps.zip us)):Binds K fd ps []:=fun s us _ hl=>by
 rw [List.append_nil] at hl ⊢;exact .of_eq (h us hl)
noncomputable def gr (CX:iV) (X:Cx) (E:XK):Prop:=∀(pins:List (Addr×Obj)) (σ:St) (H:Hp) (s:Shared) (e:Value) (s':Shared),Inv X pins σ H s->CX X.stack H s E e s'->X.xe e s'
section
variable {X:Cx} {CX:iV} {k:Nat} {f C:Addr} {fd:FuncData} {ps:List Str} {sp:Sp} {dvs:List V} {ds:List Value} {E:XK} {x m:Str} {p pos apos:Pos} {e o:Expr} {es:List Expr} {ta:TE} {t:TA}
theorem Dn {pins:List (Addr×Obj)} {σ:St} {H:Hp} {s:Shared} {Q:VK} {us:List Value} {vs:List V} (F:FnOk X.prog X.w X.K X.mg X.base CX k f fd ps sp) (hr:Room k X.A) (hb:Binds X.K fd ps ds) (hd:Vals dvs ds) (hx:gr CX X E)
  (I:Inv X pins σ H s) (r:Vals vs us) (h:sp (vs ++ dvs) H Q E):wpAny (model X.prog X.w) X.A (call (.ref f) us) (EP X pins σ Q) X.xe s:=by
 have r2:Vals (vs ++ dvs) (us ++ ds):=r.append hd;have hl:(us ++ ds).length=ps.length:=by rw [<- r2.length]; exact F.len _ _ _ _ h
 refine wpAny_call (codeAny_mono (F.run X.A X.stack s H ⟨us,[]⟩ (us ++ ds) (vs ++ dvs) Q E hr I.env0 (hb s us I.kIn hl) r2 h) fun r s' hq=>?_)
 cases r with
 | error e=>exact hx pins σ H s e s' I hq
 | ok fl =>
  cases fl with
  | ret u=>exact I.after hq
  | next=>exact False.elim hq
  | brk=>exact False.elim hq
  | cont=>exact False.elim hq
theorem Dp {pl:Sem Bool} (he:PE X o ta) (c:Cls X.K C) (hm:Meth X.K C m f) (F:FnOk X.prog X.w X.K X.mg X.base CX k f fd ps sp) (hr:Room k X.A) (hb:Binds X.K fd ps ds) (hd:Vals dvs ds) (hx:gr CX X E) (ha:PA X (e :: es) t)
  (hst:starEach (e :: es) X.env=(false,eval e X.env) :: starEach es X.env:=by rfl) (hpl:(backTo pos (starEach es X.env)).any (·.1)=false:=by rfl)
  (ht:eval (.Call (.Attribute o m apos) (e :: es) [] pos) X.env=(do
   let ov <- eval o X.env
   standAt apos.atName
   let (f,first) <- holding [ov] (getMethod ov m pl)
   callWith pos f first (backTo pos (starEach (e :: es) X.env)) (backToKw pos (keywordEach [] X.env))):=by rfl) :
  PE X (.Call (.Attribute o m apos) (e :: es) [] pos) (u_ C m sp dvs E ta t):=by
 intro pins s σ H Q I h;refine PySem.W.methodCall_KW (pl:=pl) (cN (he pins s σ H _ I h) fun u s1 ⟨x,H1,I1,rx,a,dx,fs,ex,ea,l,q⟩=>?_) ht;subst ex;obtain rfl:u=Value.ref a:=rx;refine yQ I1 ea c hm l ?_;refine PySem.W.callWith_K (first:=[.ref a]) (h₀:=X.base) I.ok.mod.kin hm.kp (cN (ha pos pins s1 σ H1 _ I1 q) fun us s2 ⟨vs,H2,I2,r,q2⟩=>⟨I2.kIn,?_⟩) hst hpl
 exact Dn (us:=.ref a :: us) (vs:=.ref a :: vs) F hr hb hd hx I2 (.cons rfl r) q2
structure Mk (K:PySem.W.Frag) (C f:Addr):Prop where
 makes:PySem.W.makesIn K C=true
 init:PySem.W.findIn K (.ref C) "__init__" = some (some (.ref f))
 fn:PySem.W.isFn K (.ref f)=true
 kp:PySem.W.keepIn K (.ref C)=true
theorem dv' {pins:List (Addr×Obj)} {σ:St} {H:Hp} {s:Shared} {Q:VK} {us:List Value} {vs:List V} (M:Mk X.K C f) (F:FnOk X.prog X.w X.K X.mg X.base CX k f fd ps sp) (hr:Room (k + 1) X.A) (hb:Binds X.K fd ps ds) (hd:Vals dvs ds)
  (hx:gr CX X E) (I:Inv X pins σ H s) (r:Vals vs us)
  (h:∀x dx,H x=none->H dx=none->dx≠x->sp (.ref x :: (vs ++ dvs)) (upd (upd H dx (.own x)) x (.ins C dx [])) (fun v H2=>v=.non/\Q (.ref x) H2) E) :
  wpAny (model X.prog X.w) X.A (call (.ref C) us) (EP X pins σ Q) X.xe s:=by
 have hq:=h (s.heap.objs.size + 1) s.heap.objs.size (I.hok.fresh (Nat.le_succ _)) (I.hok.fresh (Nat.le_refl _)) (Nat.ne_of_lt (Nat.lt_succ_self _));have I2:=Inv.made (C:=C) I;have r2:Vals (V.ref (s.heap.objs.size + 1) :: (vs ++ dvs)) (Value.ref (s.heap.objs.size + 1) :: (us ++ ds)):=.cons rfl (r.append hd);have hl:(Value.ref (s.heap.objs.size + 1) :: us ++ ds).length=ps.length:=by
  have e:=r2.length;rw [F.len _ _ _ _ hq] at e;exact e.symm
 refine wpAny_call (Jj (f:=f) I.kIn M.makes M.init (beq_iff_eq.mp M.fn) (codeAny_mono (F.run _ X.stack _ _ ⟨Value.ref (s.heap.objs.size + 1) :: us,[]⟩ (Value.ref (s.heap.objs.size + 1) :: (us ++ ds)) _ _ E (hr.make C us [])
  (I2.env0.make C us []) (hb _ (Value.ref (s.heap.objs.size + 1) :: us) I2.kIn hl) r2 hq) fun r s' hq'=>?_))
 cases r with
 | error e=>exact hx pins σ _ _ e s' I2 hq'
 | ok fl =>
  cases fl with
  | ret u =>
   obtain ⟨v,H',I3,rv,ev,q3⟩:=I2.after hq';subst ev;exact ⟨rv,⟨V.ref (s.heap.objs.size + 1),H',I3,rfl,q3⟩⟩
  | next=>exact False.elim hq'
  | brk=>exact False.elim hq'
  | cont=>exact False.elim hq'
theorem Jr (M:Mk X.K C f) (F:FnOk X.prog X.w X.K X.mg X.base CX k f fd ps sp) (hr:Room (k + 1) X.A) (hg:Gl X x) (hm:X.mg x=some (.ref C)) (hb:Binds X.K fd ps ds) (hd:Vals dvs ds) (hx:gr CX X E)
  (hdb:(x == ("__debug__" : Str))=false:=by decide):PE X (.Call (.Name x p) [] [] pos) (vd C sp dvs E kh):=by
 intro pins s σ H Q I h;refine wpAny_Call_Name_kw (j9 I hg hm ?_ hdb);exact PySem.W.callWith_K0 I.kIn M.kp (dv' (us:=[]) M F hr hb hd hx I .nil h)
end
section
variable {X:Cx} {CX:iV} {k:Nat} {f C:Addr} {fd:FuncData} {ps ks:List Str} {sp:Sp} {E:XK} {x m:Str} {p pos apos kpos:Pos} {e o:Expr} {es:List Expr} {kws:List Keyword} {te ta:TE} {t tk:TA} {nm:Option Str}
structure KBinds (K:PySem.W.Frag) (fd:FuncData) (ps ks:List Str) (g:List Value->List Value->List Value) (gV:List V->List V->List V):Prop where
 to:∀(s:Shared) (us ws:List Value),K.In s.heap->(g us ws).length=ps.length->BindsTo s fd ⟨us,ks.zip ws⟩ (ps.zip (g us ws))
 rel:∀{vs:List V} {us:List Value} {zs:List V} {ws:List Value},Vals vs us->Vals zs ws->Vals (gV vs zs) (g us ws)
variable {g:List Value->List Value->List Value} {gV:List V->List V->List V}
end
structure FnScope (N P:List Str) (sc:Scope):Prop where
 kind:sc.kind=.function
 co:sc.isCoroutine=false
 gen:sc.isGenerator=false
 nd:N.Nodup
 pre:N.take P.length=P
 par:∀x∈P,sc.names.lookup x=some .local\/sc.names.lookup x=some .cell
 nofree:∀y∈sc.names,y.2≠.free
theorem Dq {kindOf:Str->Option NameKind} {x:Str}:∀{binds:List (Str×Value)} {m:Str->Option Value},(∀v,(x,v)∉binds)->bindL kindOf binds m x=m x
 | [],_,_=>rfl
 | (n,v) :: r,m,h=>by
  unfold bindL;rw [Dq fun w hw=>h w (List.mem_cons_of_mem _ hw)]
  split
  ·have:x≠n:=by rintro rfl; exact h v List.mem_cons_self
   simp [this]
  ·rfl
theorem Dr {kindOf:Str->Option NameKind} {x:Str}:∀{binds:List (Str×Value)} {m:Str->Option Value},(∀v,(x,v)∉binds)->bindC kindOf binds m x=m x
 | [],_,_=>rfl
 | (n,v) :: r,m,h=>by
  unfold bindC;rw [Dr fun w hw=>h w (List.mem_cons_of_mem _ hw)]
  split
  ·rfl
  ·have:x≠n:=by rintro rfl; exact h v List.mem_cons_self
   simp [this]
theorem Ds {kindOf:Str->Option NameKind} {x:Str} {v:Value}:∀{P:List Str} {vs:List Value} {i:Nat} {m:Str->Option Value},P.Nodup->P[i]? = some x->vs[i]? = some v->kindOf x=some .local ->
  bindL kindOf (P.zip vs) m x=some v
 | [],_,_,_,_,h,_,_=>by simp at h
 | _ :: _,[],_,_,_,_,h,_=>by simp at h
 | p :: P,w :: vs,0,m,nd,h1,h2,hk=>by
  simp at h1 h2; subst h1; subst h2;show bindL kindOf ((p,w) :: P.zip vs) m p=_;unfold bindL;rw [Dq fun v hv=>(List.nodup_cons.mp nd).1 (List.of_mem_zip hv).1,if_pos hk];simp
 | p :: P,w :: vs,i + 1,m,nd,h1,h2,hk=>by
  show bindL kindOf ((p,w) :: P.zip vs) m x=_;unfold bindL;exact Ds (i:=i) (List.nodup_cons.mp nd).2 (by simpa using h1) (by simpa using h2) hk
theorem Dt {kindOf:Str->Option NameKind} {x:Str} {v:Value}:∀{P:List Str} {vs:List Value} {i:Nat} {m:Str->Option Value},P.Nodup->P[i]? = some x->vs[i]? = some v->kindOf x≠some .local ->
  bindC kindOf (P.zip vs) m x=some v
 | [],_,_,_,_,h,_,_=>by simp at h
 | _ :: _,[],_,_,_,_,h,_=>by simp at h
 | p :: P,w :: vs,0,m,nd,h1,h2,hk=>by
  simp at h1 h2; subst h1; subst h2;show bindC kindOf ((p,w) :: P.zip vs) m p=_;unfold bindC;rw [Dr fun v hv=>(List.nodup_cons.mp nd).1 (List.of_mem_zip hv).1,if_neg hk];simp
 | p :: P,w :: vs,i + 1,m,nd,h1,h2,hk=>by
  show bindC kindOf ((p,w) :: P.zip vs) m x=_;unfold bindC;exact Dt (i:=i) (List.nodup_cons.mp nd).2 (by simpa using h1) (by simpa using h2) hk
noncomputable def start (N:List Str) (vs:List V):St:=vs.map some ++ List.replicate (N.length - vs.length) none
noncomputable def bN (CX:iV) (P:Program) (w:World) (K:PySem.W.Frag) (mg:Str->Option Value) (base:Heap) (N:List Str) (qual:Str) (scope:Scope) (f:Addr) (cd:Value) (A:Around) (outer:List Env) (s:Shared) (H:Hp) (E:XK):Cx where
 prog:=P
 w:=w
 K:=K
 mg:=mg
 base:=base
 A:=A.deeper (envOfC qual scope s.heap.objs.size f cd)
 N:=N
 s₀:=s
 H₀:=H
 env:=envOfC qual scope s.heap.objs.size f cd
 outer:=outer
 stack:=envOfC qual scope s.heap.objs.size f cd :: outer
 ex:=[]
 calm:=true
 fn:=fun _=>true
 pn:=[]
 xe:=fun e s'=>wpAny (model P w) (A.deeper (envOfC qual scope s.heap.objs.size f cd)) (leaving (envOfC qual scope s.heap.objs.size f cd) e) (fun _ s''=>CX outer H s E e s'') (fun e' s''=>CX outer H s E e' s'') s'
theorem Ag {sc:Scope} {n:Nat} {x:Str} (h:sc.names.lookup x=some .cell):∃c,(cellsFrom n sc.names []).lookup x=some c:=by
 have q:=PySem.W.cellsFrom_some sc.names n [] (.inl h);exact Option.isSome_iff_exists.mp q
theorem Ah {CX:iV} {P:Program} {w:World} {K:PySem.W.Frag} {mg:Str->Option Value} {base:Heap} {N ps:List Str} {qual:Str} {scope:Scope} {f:Addr} {cd:Value} {A:Around} {outer:List Env} {s s1:Shared} {H:Hp} {E:XK} {us:List Value} {vs:List V}
  (S:FnScope N ps scope) (hd:A.handled=none) (e0:Env0 P w K mg base A outer s H) (hl:vs.length=ps.length) (r:Vals vs us)
  (x:InCallC s s.heap.objs.size (bindL (envOfC qual scope s.heap.objs.size f cd).kindOf (ps.zip us) fun _=>none) (cellsFrom (s.heap.objs.size + 1) scope.names []) (bindC (envOfC qual scope s.heap.objs.size f cd).kindOf (ps.zip us) fun _=>none) s1) :
  Inv (bN CX P w K mg base N qual scope f cd A outer s H E) [] (start N vs) H s1:=by
 have hpl:ps.length<=N.length:=by have:=congrArg List.length S.pre; rw [List.length_take] at this; omega
 obtain ⟨h1,tk,rfl,hk⟩:=x.done
 have noA:∀b:Addr,b∉(bN CX P w K mg base N qual scope f cd A outer s H E).ex:=fun b z=>absurd (show b∈([]:List Addr) from z) (by simp)
 refine ⟨⟨e0.mod,S.kind,rfl,rfl,Nat.le_refl _,fun y z c h1 h2=>?_,fun y hy=>?_,fun y c _ h=>?_,fun _=>hd,Around.frames_deeper e0.frames,.inr ⟨rfl,rfl⟩,fun b z=>absurd z (noA b),e0.bs,e0.bsz,fun b _ _=>noA b,fun b z=>absurd z (noA b),e0.funs,e0.frf⟩,
  rfl,e0.bare,Un.kept hk,⟨_,x.toInCall.ns,fun i y v h1 h2 h3=>?_⟩,fun y c h=>⟨_,x.cell y c h⟩,e0.hok.fresh (Nat.le_refl _),fun y c h=>?_,fun p hp=>absurd (show p∈([]:List (Addr×Obj)) from hp) (by simp),e0.hok.kept hk,?_⟩
 ·exact name_of_addr x.apart (PySem.mem_of_lookup h1) (PySem.mem_of_lookup h2)
 ·have hy:scope.names.lookup y=some .cell\/scope.names.lookup y=some .free:=hy;rcases hy with hy | hy
  ·exact Ag hy
  ·exact absurd rfl (S.nofree _ (PySem.mem_of_lookup hy))
 ·exact Nat.le_of_lt (x.above y c (PySem.mem_of_lookup h))
 ·have hi:i < vs.length:=by
   unfold start at h2
   by_cases hi:i < vs.length
   ·exact hi
   ·rw [List.getElem?_append_right (by simpa using hi)] at h2;rw [List.getElem?_replicate] at h2
    split at h2 <;> cases h2
  have ha:vs[i]? = some v:=by
   unfold start at h2;rw [List.getElem?_append_left (by simpa using hi),List.getElem?_map] at h2
   cases e:vs[i]? with
   | none=>rw [e] at h2; cases h2
   | some a=>rw [e] at h2; cases h2; rfl
  obtain ⟨u,hu,rv⟩:=r.get ha;have hp:ps[i]? = some y:=by
   rw [<- S.pre,List.getElem?_take_of_lt (by omega)]; exact h1
  have ndP:ps.Nodup:=by rw [<- S.pre]; exact S.nd.sublist (List.take_sublist _ _)
  refine ⟨u,rv,?_⟩;rcases S.par y (List.mem_of_getElem? hp) with k | k
  ·exact .inl ⟨k,Ds ndP hp hu k⟩
  ·obtain ⟨c,e⟩:=Ag (n:=s.heap.objs.size + 1) k;refine .inr ⟨.inl k,c,e,?_⟩;have q:=x.cell y c e;rw [Dt ndP hp hu (by show scope.names.lookup y≠_; rw [k]; decide)] at q;exact q
 ·exact e0.hok.fresh (Nat.le_of_lt (x.above y c (PySem.mem_of_lookup h)))
 ·unfold start;show _=N.length;rw [List.length_append,List.length_map,List.length_replicate];omega
theorem pC {CX:iV} {P:Program} {w:World} {K:PySem.W.Frag} {mg:Str->Option Value} {base:Heap} {k:Nat} {f:Addr} {name qual:Str} {params:Arguments} {body:List Stmt} {scope:Scope} {dV kV doc pm cdv ct oc:Value} {an od:Option Addr}
  {osl:Array (Option Value)} {N ps:List Str} {sp:Sp} (lk:K.lookup f=some ⟨oc,od,.func (PySem.W.fnOf name qual params body scope dV kV doc pm an cdv ct),osl⟩) (hcd:PySem.W.codeIn K cdv qual=true) (S:FnScope N ps scope)
  (len:∀vs H Q E,sp vs H Q E->vs.length=ps.length)
  (hbody:∀(A:Around) (outer:List Env) (s:Shared) (H:Hp) (vs:List V) (Q:VK) (E:XK),Room k (A.deeper (envOfC qual scope s.heap.objs.size f cdv))->sp vs H Q E ->
   ∃t,PSs (bN CX P w K mg base N qual scope f cdv A outer s H E) body t/\t { nx:=fun _ H'=>Q .non H',rt:=Q } (start N vs) H) :
  FnOk P w K mg base CX (k + 1) f (PySem.W.fnOf name qual params body scope dV kV doc pm an cdv ct) ps sp:=by
 refine ⟨len,fun A outer s H args us vs Q E hr e0 hb r hsp=>?_⟩;have hl:=len _ _ _ _ hsp;have KX:K.In s.heap:=e0.mod.kin.keeps fun b o e=>(e0.bs b o e).1;have lim:s.heap.NoLimit:=e0.mod.nolimit.keeps fun b o e=>(e0.bs b o e).1;have hkind:∀y∈ps.zip us,scope.names.lookup y.1=some .local\/(scope.names.lookup y.1=some .cell/\((cellsFrom (s.heap.objs.size + 1) scope.names []).lookup y.1).isSome=true):=fun ⟨n,v⟩ hy=>by
  rcases S.par n (List.of_mem_zip hy).1 with q | q
  ·exact .inl q
  ·exact .inr ⟨q,PySem.W.cellsFrom_some _ _ _ (.inl q)⟩
 refine codeAny_call_function hr.depth (KX _ _ lk) rfl S.co S.gen rfl (PySem.W.codeRec_of KX hcd) (hb _ _ _ _ ?_);refine wpAny_newFunctionEnv_cells S.kind hkind fun env he s1 x=>?_;subst he;refine ⟨lim.keeps x.toInCall.keep,codeAny_func ?_⟩;obtain ⟨t,ht,hq⟩:=hbody A outer s H vs Q E (hr.deeper _) hsp;have I:Inv (bN CX P w K mg base N qual scope f cdv A outer s H E) [] (start N vs) H s1:=Ah S hr.hd e0 hl r x;refine wpAny_mono (ht [] s1 (start N vs) H _ I hq) (fun fl s' hs=>?_) fun e s' hs=>hs;have fin:∀{σ':St} {H':Hp} {v:V} {u:Value},Inv (bN CX P w K mg base N qual scope f cdv A outer s H E) [] σ' H' s'->RelV v u->Q v H'->CE outer P w H s Q u s' :=
  fun {σ' H' v u} J rv q=>⟨v,H',J.os,J.bare,J.base,J.hok,rv,q⟩
 cases fl with
 | ret u =>
  obtain ⟨v,σ',H',J,rv,q⟩:=hs;exact fin J rv q
 | next =>
  obtain ⟨σ',H',J,q⟩:=hs;exact fin (v:=V.non) (u:=Value.none) J rfl q
 | brk =>
  obtain ⟨_,_,_,q⟩:=hs;exact False.elim q
 | cont =>
  obtain ⟨_,_,_,q⟩:=hs;exact False.elim q
section
variable {X:Cx} {x:Str} {p pos:Pos} {e:Expr} {es:List Expr} {t:TA} {id T:String} {r:List V->Hp->VK->Prop}
end
end L2
namespace HT
open PySem PyProof.Rows
section
open PySem.SeqAt
open PySem.AutoSeq1 (wpAny_loadPart')
open PySem.MeetsSeq PySem.MeetsSeq2 PySem.MeetsSeq3
end
section
variable {prog:Program} {w:World} {A:Around} {E:Value->Shared->Prop} {s:Shared}
theorem cat_tup {t b:Addr} {vs ws:List Value} {Q:Value->Shared->Prop} (ht:IsTup s.heap t vs.toArray) (hb:IsTup s.heap b ws.toArray) (hv:vs≠[])
  (h1:ws=[]->Q (.ref t) s) (h2:ws≠[]->Q (.ref s.heap.objs.size) { s with heap:=s.heap.push { cls:=.type "tuple",data:=.seq (vs ++ ws).toArray } })
  (hsz:vs.length + ws.length<=sizeLine):wpAny (model prog w) A (binaryOp .Add (.ref t) (.ref b)) Q E s:=by
 obtain ⟨⟨cls,dd,data,sl⟩,ho,hc,n,hd⟩:=id ht;obtain ⟨⟨cls2,dd2,data2,sl2⟩,ho2,hc2,n2,hd2⟩:=id hb;simp only at hc hd hc2 hd2;subst hc hd hc2 hd2;have e:vs.toArray ++ ws.toArray=(vs ++ ws).toArray:=by simp
 by_cases hw:ws=[]
 ·exact concat_meets ⟨_,ho,rfl⟩ ⟨_,ho2,rfl⟩ noFill_tuple_add seq_tuple_add PySem.F.slot_tuple_add PySem.F.entry_tuple_add (PySem.F.args_tuple_add_2 _ _)
   (tuple_addW1 t b vs.toArray ws.toArray n n2 dd dd2 sl sl2 (by simpa using hv) (by simp [hw])) ⟨ho,ho2,h1 hw⟩
 ·refine concat_meets ⟨_,ho,rfl⟩ ⟨_,ho2,rfl⟩ noFill_tuple_add seq_tuple_add PySem.F.slot_tuple_add PySem.F.entry_tuple_add (PySem.F.args_tuple_add_2 _ _)
   (tuple_addW2 t b vs.toArray ws.toArray n n2 dd dd2 sl sl2 (by simpa using hv) (by simpa using hw) (by rw [List.size_toArray,List.size_toArray]; exact hsz)) ⟨ho,ho2,?_⟩
  rw [e];exact h2 hw
noncomputable def sIx (n d:Nat):Option Int->Nat
 | none=>d
 | some v=>if v < 0 then (v + (n:Int)).toNat else min v.toNat n
theorem Js (n d:Nat) (hd:d<=n) (o:Option Int):sIx n d o<=n:=by
 cases o with
 | none=>exact hd
 | some v =>
  show (if v < 0 then (v + (n:Int)).toNat else min v.toNat n)<=n
  by_cases hv:v < 0
  ·rw [if_pos hv]; omega
  ·rw [if_neg hv]; exact Nat.min_le_right _ _
theorem Du (v:Int) (n d:Nat):(if v < 0 then max (v + (n:Int)) 0 else min v (n:Int))=((sIx n d (some v):Nat):Int):=by
 show (if v < 0 then max (v + (n:Int)) 0 else min v (n:Int))=(((if v < 0 then (v + (n:Int)).toNat else min v.toNat n):Nat):Int)
 by_cases hv:v < 0
 ·simp only [if_pos hv]; omega
 ·simp only [if_neg hv]; omega
theorem Jt (lo hi:Option Int) (n:Nat):Builtin.Slice.sliceAdjust lo hi 1 (n:Int)=(((sIx n 0 lo:Nat):Int),((sIx n n hi:Nat):Int)):=by
 have h1:¬((1:Int) < 0):=by omega
 unfold Builtin.Slice.sliceAdjust;simp only [h1,if_false];refine Prod.ext ?_ ?_
 ·cases lo with
  | none=>rfl
  | some v=>exact Du v n 0
 ·cases hi with
  | none=>rfl
  | some v=>exact Du v n n
theorem Ju (i j:Nat):Builtin.Slice.slicePlaces (i:Int) (j:Int) 1=j - i:=by
 unfold Builtin.Slice.slicePlaces;have h1:(1:Int) > 0:=by omega
 simp only [h1,if_true,Int.ediv_one]
 split <;> omega
theorem Dv {v:Value} {o:Option Int} {Q:Option Int->Shared->Prop} (p:IsPart v o) (h:Q o s):wpAny (model prog w) A (Builtin.Slice.slicePartIndex v) Q E s:=by
 cases p with
 | none=>exact slicePart_none h
 | int i t=>exact slicePart_int h
theorem Dw {sl:Addr} {vl vu:Value} {lo hi:Option Int} {n:Nat} {Q:Int×Int×Nat->Shared->Prop} (hs:s.heap.IsSliceOf sl vl vu .none) (pl:IsPart vl lo) (pu:IsPart vu hi)
  (h:Q (((sIx n 0 lo:Nat):Int),1,sIx n n hi - sIx n 0 lo) s):wpAny (model prog w) A (Builtin.Slice.sliceApplied (.ref sl) (pure (n:Int))) Q E s:=by
 obtain ⟨os,hos,hcs,hds⟩:=id hs;unfold Builtin.Slice.sliceApplied Builtin.Slice.sliceFields;refine wpAny_bind (wpAny_bind (wpAny_field hos hds (x:=vl) rfl (wpAny_bind (wpAny_field hos hds (x:=vu) rfl (wpAny_bind (wpAny_field hos hds (x:=.none) rfl (wpAny_pure ?_)))))));refine wpAny_bind (slicePart_none ?_);show wpAny _ _ (if ((1:Int) == 0)=true then _ else _) _ _ s
 rw [if_neg (by decide)];refine wpAny_bind (Dv pl (wpAny_bind (Dv pu (wpAny_bind (wpAny_pure ?_)))));show wpAny _ _ (match Builtin.Slice.sliceAdjust lo hi 1 (n:Int) with | (lo,hi)=>pure (lo,(1:Int),Builtin.Slice.slicePlaces lo hi 1)) _ _ s
 rw [Jt lo hi n];show wpAny _ _ (pure (((sIx n 0 lo:Nat):Int),(1:Int),Builtin.Slice.slicePlaces ((sIx n 0 lo:Nat):Int) ((sIx n n hi:Nat):Int) 1)) _ _ s;rw [Ju];exact wpAny_pure h
theorem Jv (xs:Array Value) (i k:Nat):((List.range k).filterMap fun (m:Nat)=>xs[((i:Int) + (m:Int) * 1).toNat]?).toArray=((xs.toList.drop i).take k).toArray:=by
 have e:(fun (m:Nat)=>xs[((i:Int) + (m:Int) * 1).toNat]?)=fun m=>xs[i + m]?:=by
  funext m
  have:((i:Int) + (m:Int) * 1).toNat=i + m:=by omega
  rw [this]
 rw [e];have:=pick_run xs i k;rw [List.filterMap_map] at this;have e2:((fun x=>xs[x]?) ∘ fun x=>i + x)=fun m=>xs[i + m]?:=rfl;rw [e2] at this;rw [this]
theorem getItem_tuple_cut {t sl:Addr} {items:Array Value} {vl vu:Value} {lo hi:Option Int} {Q:Value->Shared->Prop} (ht:IsTup s.heap t items) (hs:s.heap.IsSliceOf sl vl vu .none) (pl:IsPart vl lo) (pu:IsPart vu hi)
  (hw:¬(sIx items.size 0 lo=0/\sIx items.size items.size hi=items.size))
  (h:Q (.ref s.heap.objs.size) { s with heap:=s.heap.push { cls:=.type "tuple",data:=.seq ((items.toList.drop (sIx items.size 0 lo)).take (sIx items.size items.size hi - sIx items.size 0 lo)).toArray } })
  (hsz:items.size<=sizeLine):wpAny (model prog w) A (getItem (.ref t) (.ref sl)) Q E s:=by
 have htake:sizeOk (.seq ((items.toList.drop (sIx items.size 0 lo)).take (sIx items.size items.size hi - sIx items.size 0 lo)).toArray):=by
  show ((items.toList.drop (sIx items.size 0 lo)).take (sIx items.size items.size hi - sIx items.size 0 lo)).toArray.size<=sizeLine;rw [List.size_toArray,List.length_take,List.length_drop,Array.length_toList];omega
 have hj:sIx items.size items.size hi<=items.size:=Js _ _ (Nat.le_refl _) hi;obtain ⟨os,hos,hcs,hds⟩:=id hs;have hTs:s.TypeIs (.ref sl) "slice":=⟨os,hos,hcs⟩;unfold getItem
 try with_reducible refine wpAny_holding ?_
 first | refine wpAny_bind (wpAny_pure ?_) | skip
 refine wpAny_bind (wpAny_sequenceKey ht.typeIs (by decide) ?_);refine wpAny_bind (wpAny_callSpecial?_slot (name:=Str.ofString "__getitem__") ht.typeIs PyProof.Rows.slot_tuple_getitem
  (wpAny_call_entry PyProof.Rows.slot_tuple_getitem ht.typeIs entry_tuple_getitem ?_ (args_tuple_getitem _ _)))
 show wpAny _ _ (Builtin.Tuple.tupleItemsOf (.ref t) >>= _) _ _ s;refine wpAny_bind (tupleItemsOf_ ht ?_);refine wpAny_bind (wpAny_typeOf hTs ?_);rw [if_pos (by decide)];refine wpAny_bind (Dw hs pl pu ?_);have hno:¬((((sIx items.size 0 lo:Nat):Int) == 0 && (1:Int) == 1 && (sIx items.size items.size hi - sIx items.size 0 lo) == items.size)=true):=by
  intro q;rw [Bool.and_eq_true,Bool.and_eq_true] at q;have q1:((sIx items.size 0 lo:Nat):Int)=0:=eq_of_beq q.1.1;have q2:sIx items.size items.size hi - sIx items.size 0 lo=items.size:=eq_of_beq q.2;exact hw ⟨by omega,by omega⟩
 show wpAny _ _ (if (((sIx items.size 0 lo:Nat):Int) == 0 && (1:Int) == 1 && (sIx items.size items.size hi - sIx items.size 0 lo) == items.size)=true then _ else _) _ _ s
 rw [if_neg hno,Jv]
 first
  | exact wpAny_bind (m:=Builtin.Tuple.tupleExact _) (wpAny_newObj_type (wpAny_pure ⟨_,rfl,wpAny_pure h⟩) htake)
  | exact wpAny_bind (m:=Builtin.Tuple.tupleExact _) (wpAny_newObj_type (wpAny_bind (wpAny_pure (wpAny_pure ⟨_,rfl,wpAny_pure h⟩))) htake)
  | exact wpAny_bind (wpAny_bind (m:=Builtin.Tuple.tupleExact _) (wpAny_newObj_type (wpAny_pure (wpAny_pure ⟨_,rfl,wpAny_pure h⟩)) htake))
  | exact wpAny_bind (wpAny_bind (m:=Builtin.Tuple.tupleExact _) (wpAny_newObj_type (wpAny_pure ⟨_,rfl,wpAny_pure h⟩) htake))
end
end HT
namespace L2
open PySem PySem.Spec PyProof.Rows
abbrev TO:=St->Hp->(Option Int->Hp->Prop)->Prop
section
variable {X:Cx} {e:Expr} {te:TE} {lo hi:Option Expr} {tl th:TO} {pos p2:Pos}
noncomputable def SlR (X:Cx) (r:V->Option Int->Option Int->Hp->VK->Prop):Prop :=
 ∀(pins:List (Addr×Obj)) (s:Shared) (σ:St) (H:Hp) (x:V) (v vl vu:Value) (lo hi:Option Int) (sl:Addr) (Q:VK),Inv X pins σ H s->RelV x v->s.heap.IsSliceOf sl vl vu .none->IsPart vl lo->IsPart vu hi->r x lo hi H Q ->
  ∃T id,typeLookup (.type T) "__getitem__" = pure (some (.builtin id))/\s.TypeIs v T/\wpAny (model X.prog X.w) X.A (getItem v (.ref sl)) (EP X pins σ Q) X.xe s
theorem SlR.or {r r':V->Option Int->Option Int->Hp->VK->Prop} (h:SlR X r) (h':SlR X r'):SlR X (fun x lo hi H Q=>r x lo hi H Q\/r' x lo hi H Q):=by
 intro pins s σ H x v vl vu lo hi sl Q I rx hs pl pu q;rcases q with q | q
 ·exact h pins s σ H x v vl vu lo hi sl Q I rx hs pl pu q
 ·exact h' pins s σ H x v vl vu lo hi sl Q I rx hs pl pu q
noncomputable def iZ (xs:List V) (lo hi:Option Int):List V:=(xs.drop (HT.sIx xs.length 0 lo)).take (HT.sIx xs.length xs.length hi - HT.sIx xs.length 0 lo)
theorem Dy (xs:List V) (lo hi:Option Int):(iZ xs lo hi).length<=xs.length:=by
 unfold iZ;rw [List.length_take,List.length_drop];omega
noncomputable def vf (K:PySem.W.Frag):V->Option Int->Option Int->Hp->VK->Prop:=fun x lo hi H Q=>∃a xs,x=.ref a/\SqT K H a xs /\
 ¬(HT.sIx xs.length 0 lo=0/\HT.sIx xs.length xs.length hi=xs.length)/\∀p,H p=none->Q (.ref p) (upd H p (.tup (iZ xs lo hi)))
theorem sl_tup:SlR X (vf X.K):=by
 intro pins s σ H x v vl vu lo hi sl Q I rx hs pl pu h;obtain ⟨a,xs,rfl,hx,hw,q⟩:=h
 cases rx
 obtain ⟨its,r,ht,hz⟩:=I.tuple hx;have hlen:its.toArray.size=xs.length:=by rw [List.size_toArray]; exact r.length.symm
 refine ⟨"tuple",_,PyProof.Rows.slot_tuple_getitem.lookup,ht.typeIs,?_⟩;refine HT.getItem_tuple_cut ht hs pl pu (by rw [hlen]; exact hw) ?_ (by rw [hlen]; exact hz);rw [hlen];refine ⟨.ref s.heap.objs.size,_,I.laid (t':=s.toks) (o:=.tup (iZ xs lo hi)) (fun b ob q=>Heap.get?_push_of_some _ q) (Nat.le_refl _) ?_,rfl,q _ (I.hok.fresh (Nat.le_refl _))⟩;exact ⟨Nat.le_trans (Dy xs lo hi) hz,_,(r.drop (HT.sIx xs.length 0 lo)).take (HT.sIx xs.length xs.length hi - HT.sIx xs.length 0 lo),IsTup.new _ _⟩
noncomputable def qH (K:PySem.W.Frag):R2:=fun x y H Q=>∃a b xs ys,x=.ref a/\y=.ref b/\SqT K H a xs/\SqT K H b ys/\xs≠[]/\xs.length + ys.length<=sizeLine /\
 (ys=[]->Q (.ref a) H)/\(ys≠[]->∀p,H p=none->Q (.ref p) (upd H p (.tup (xs ++ ys))))
theorem Vals.nil_iff {xs:List V} {us:List Value} (r:Vals xs us):us=[]↔xs=[]:=by
 cases r with
 | nil=>simp
 | cons _ _=>simp
theorem Jw:OpR X (binaryOp .Add) (qH X.K):=by
 intro pins s σ H x y v u Q I rx ry h;obtain ⟨a,b,xs,ys,rfl,rfl,ha,hb,hx,hz,q1,q2⟩:=h
 cases rx
 cases ry
 obtain ⟨its,r1,p1,_⟩:=I.tuple ha;obtain ⟨its2,r2,p2,_⟩:=I.tuple hb;refine HT.cat_tup p1 p2 (fun z=>hx (r1.nil_iff.mp z)) (fun z=>⟨.ref a,H,I,rfl,q1 (r2.nil_iff.mp z)⟩) (fun z=>?_) (by rw [<- r1.length,<- r2.length]; exact hz);refine ⟨.ref s.heap.objs.size,_,I.laid (t':=s.toks) (o:=.tup (xs ++ ys)) (fun b ob q=>Heap.get?_push_of_some _ q) (Nat.le_refl _) ?_,rfl,q2 (fun w=>z (r2.nil_iff.mpr w)) _ (I.hok.fresh (Nat.le_refl _))⟩;exact ⟨by rw [List.length_append]; exact hz,_,r1.append r2,IsTup.new _ _⟩
end
noncomputable def rE (n:Nat) (i:Int):Option Nat:=if 0<=i then (if i < n then some i.toNat else none) else if -(n:Int)<=i then some (i + n).toNat else none
noncomputable def i_ {α:Type} (xs:List α) (i:Int):Option α:=(rE xs.length i).bind fun j=>xs[j]?
theorem Jx {n:Nat} {i:Int} {j:Nat} (h:rE n i=some j):seqIndex? i n=some j/\j < n/\-(n:Int)<=i/\i < n:=by
 unfold rE at h
 by_cases h0:0<=i
 ·rw [if_pos h0] at h
  by_cases h1:i < n
  ·rw [if_pos h1] at h;have e:i.toNat=j:=Option.some.inj h;exact ⟨by rw [seqIndex_of h0 h1,e],by omega,by omega,h1⟩
  ·rw [if_neg h1] at h; cases h
 ·rw [if_neg h0] at h
  by_cases h1:-(n:Int)<=i
  ·rw [if_pos h1] at h;have e:(i + n).toNat=j:=Option.some.inj h;exact ⟨by rw [seqIndex_neg (by omega) h1,e],by omega,h1,by omega⟩
  ·rw [if_neg h1] at h; cases h
theorem Ai {α:Type} {xs:List α} {i:Int} {v:α} (h:i_ xs i=some v):∃j,seqIndex? i xs.length=some j/\xs[j]? = some v/\j < xs.length/\-(xs.length:Int)<=i/\i < xs.length:=by
 unfold i_ at h
 cases e:rE xs.length i with
 | none=>rw [e] at h; cases h
 | some j =>
  rw [e] at h;obtain ⟨h1,h2,h3,h4⟩:=Jx e;exact ⟨j,h1,h,h2,h3,h4⟩
noncomputable def pD (b:Expr):Prop:=∀o i,subscripted b false o i=operate [o,i] (getItem o i)
noncomputable def IxR (X:Cx) (r:R2):Prop :=
 ∀(value slice:Expr) (pins:List (Addr×Obj)) (s:Shared) (σ:St) (H:Hp) (x y:V) (v u:Value) (Q:VK),Inv X pins σ H s->RelV x v->RelV y u->r x y H Q ->
  subscripted slice false v u=operate [v,u] (getItem v u)->wpAny (model X.prog X.w) X.A (subscriptTail value slice v u) (EP X pins σ Q) X.xe s
noncomputable def MtR (X:Cx) (id:String) (r:V->List V->Hp->VK->Prop):Prop :=
 ∀(pins:List (Addr×Obj)) (s:Shared) (σ:St) (H:Hp) (x:V) (xs:List V) (v:Value) (us:List Value) (Q:VK),Inv X pins σ H s->RelV x v->Vals xs us->r x xs H Q ->
  wpAny (model X.prog X.w) X.A (call (.builtin id) (v :: us)) (EP X pins σ Q) X.xe s
section
variable {X:Cx} {a b:Expr} {ta tb:TE} {pos:Pos}
theorem IxR.or {r r':R2} (h:IxR X r) (h':IxR X r'):IxR X (fun x y H Q=>r x y H Q\/r' x y H Q):=by
 intro value slice pins s σ H x y v u Q I rx ry q hs;rcases q with q | q
 ·exact h value slice pins s σ H x y v u Q I rx ry q hs
 ·exact h' value slice pins s σ H x y v u Q I rx ry q hs
theorem MtR.or {id:String} {r r':V->List V->Hp->VK->Prop} (h:MtR X id r) (h':MtR X id r'):MtR X id (fun x xs H Q=>r x xs H Q\/r' x xs H Q):=by
 intro pins s σ H x xs v us Q I rx rs q;rcases q with q | q
 ·exact h pins s σ H x xs v us Q I rx rs q
 ·exact h' pins s σ H x xs v us Q I rx rs q
noncomputable def vg (K:PySem.W.Frag):R2:=fun x y H Q=>∃p xs i v,x=.ref p/\y=.int i/\SqL K H p xs/\i_ xs i=some v/\Q v H
noncomputable def vh (K:PySem.W.Frag):R2:=fun x y H Q=>∃p xs i v,x=.ref p/\y=.int i/\SqT K H p xs/\i_ xs i=some v/\Q v H
noncomputable def vm:R2:=fun x y H Q=>∃z i c,x=.str z/\y=.int i/\z.length<=sizeLine/\i_ z.cps.toList i=some c/\Q (.str ⟨#[c]⟩) H
theorem ix_list:IxR X (vg X.K):=by
 intro value slice pins s σ H x y v u Q I rx ry h hs;obtain ⟨p,xs,i,z,rfl,rfl,hq,he,q⟩:=h
 cases rx
 obtain ⟨t,rfl⟩:=ry;obtain ⟨its,r,pl,hz⟩:=I.list hq;obtain ⟨j,h1,h2,h3,h4,h5⟩:=Ai he;obtain ⟨w,ew,rw'⟩:=r.get h2;have hl:=r.length;have hn:=uY;have fin:EP X pins σ Q w s:=⟨z,H,I,rw',q⟩
 by_cases h0:0<=i
 ·have hj:i.toNat=j:=by
   rw [seqIndex_of h0 h5] at h1;exact Option.some.inj h1
  exact item_listR pl.isList h0 (by omega) (by rw [hj]; simpa using ew) fin hs
 ·have hj:(i + (its.toArray.size:Int)).toNat=j:=by
   rw [seqIndex_neg (by omega) h4] at h1;rw [List.size_toArray,<- hl];exact Option.some.inj h1
  exact subscriptTail_builtinR (x:=w) pl.isList.typeIs slot_list_getitem.lookup
   (wpAny_getItem_list_neg (Q:=fun r s'=>r=w/\EP X pins σ Q r s') pl.isList (by omega) (by rw [List.size_toArray] <;> omega) (by omega) (by rw [hj]; simpa using ew) ⟨rfl,fin⟩) hs
theorem ix_tup:IxR X (vh X.K):=by
 intro value slice pins s σ H x y v u Q I rx ry h hs;obtain ⟨p,xs,i,z,rfl,rfl,hq,he,q⟩:=h
 cases rx
 obtain ⟨t,rfl⟩:=ry;obtain ⟨its,r,pl,hz⟩:=I.tuple hq;obtain ⟨j,h1,h2,h3,h4,h5⟩:=Ai he;obtain ⟨w,ew,rw'⟩:=r.get h2;have hl:=r.length;have hn:=uY;have fin:EP X pins σ Q w s:=⟨z,H,I,rw',q⟩;exact subscriptTail_builtinR (x:=w) pl.typeIs slot_tuple_getitem.lookup
  (getItem_tuple (j:=j) (Q:=fun r s'=>r=w/\EP X pins σ Q r s') pl (by omega) (by omega) (by rw [List.size_toArray,<- hl]; exact h1) (by simpa using ew) ⟨rfl,fin⟩) hs
theorem Jy:IxR X vm:=by
 intro value slice pins s σ H x y v u Q I rx ry h hs;obtain ⟨z,i,c,rfl,rfl,hz,he,q⟩:=h;obtain ⟨t,rfl⟩:=rx;obtain ⟨t',rfl⟩:=ry;obtain ⟨j,h1,h2,h3,h4,h5⟩:=Ai he;have hl:z.cps.toList.length=z.length:=by simp [Str.length]
 rw [hl] at h1 h4 h5;have hn:=uY;exact tail_any (typeIs_str s z t) slot_str_getitem.lookup (getItem_str (c:=c) (by
  have e1:decide (i < -(2 ^ 63:Int))=false:=decide_eq_false (by omega);have e2:decide (i>=2 ^ 63)=false:=decide_eq_false (by omega);rw [e1,e2,Bool.or_false]) (by rw [h1]; simpa using h2) ⟨.str ⟨#[c]⟩,H,I.tok _,⟨_,rfl⟩,q⟩) hs
noncomputable def Jz (K:PySem.W.Frag):R2:=fun x y H Q=>vg K x y H Q\/vh K x y H Q\/vm x y H Q
theorem JB:IxR X (Jz X.K):=ix_list.or (ix_tup.or Jy)
theorem Inv.lst {pins:List (Addr×Obj)} {σ:St} {H:Hp} {s:Shared} {p:Addr} {xs:List V} (I:Inv X pins σ H s) (h:H p=some (.lst xs)) :
  ∃(its:List Value) (n:Nat),Vals xs its/\s.heap.get? p=some { cls:=.type "list",data:=.seq its.toArray n }/\xs.length<=sizeLine:=by
 obtain ⟨z,its,n,r,e⟩:=I.hok p _ h;exact ⟨its,n,r,e,z⟩
theorem JC (lo hi:Option Int) (n:Nat):(sliceBounds lo hi none n).1=((HT.sIx n 0 lo:Nat):Int)/\(sliceBounds lo hi none n).2.1=((HT.sIx n n hi:Nat):Int)/\(sliceBounds lo hi none n).2.2=1:=by
 refine ⟨?_,?_,rfl⟩
 ·cases lo with
  | none=>simp [sliceBounds,HT.sIx]
  | some i =>
   simp only [sliceBounds,HT.sIx,Option.getD_none,show (1:Int) > 0 by decide,if_true]
   by_cases h:i < 0
   ·simp only [h,if_true] <;> omega
   ·simp only [h,if_false] <;> omega
 ·cases hi with
  | none=>simp [sliceBounds,HT.sIx]
  | some i =>
   simp only [sliceBounds,HT.sIx,Option.getD_none,show (1:Int) > 0 by decide,if_true]
   by_cases h:i < 0
   ·simp only [h,if_true] <;> omega
   ·simp only [h,if_false] <;> omega
theorem JD (its:List Value) (lo hi:Option Int):slicePick its.toArray lo hi none=((its.drop (HT.sIx its.length 0 lo)).take (HT.sIx its.length its.length hi - HT.sIx its.length 0 lo)).toArray:=by
 obtain ⟨h1,h2,h3⟩:=JC lo hi its.toArray.size;unfold slicePick;rw [h1,h2,h3];simp only [sliceRange_one,pick_run,List.size_toArray] <;> rfl
noncomputable def vo (K:PySem.W.Frag):V->Option Int->Option Int->Hp->VK->Prop:=fun x lo hi H Q=>∃a xs,x=.ref a/\SqL K H a xs/\∀p,H p=none->Q (.ref p) (upd H p (.lst (iZ xs lo hi)))
theorem sl_list:SlR X (vo X.K):=by
 intro pins s σ H x v vl vu lo hi sl Q I rx hs pl pu h;obtain ⟨a,xs,rfl,hx,q⟩:=h
 cases rx
 obtain ⟨its,r,ht,hz⟩:=I.list hx;have hlen:=r.length;refine ⟨"list",_,slot_list_getitem.lookup,ht.isList.typeIs,?_⟩;refine wpAny_getItem_list_slice ht.isList hs pl pu .none (by simp) ?_ (by rw [List.size_toArray] <;> omega)
 rw [JD,<- hlen];refine ⟨.ref s.heap.objs.size,_,I.laid (t':=s.toks) (o:=.lst (iZ xs lo hi)) (fun b ob q=>Heap.get?_push_of_some _ q) (Nat.le_refl _) ?_,rfl,q _ (I.hok.fresh (Nat.le_refl _))⟩;exact ⟨Nat.le_trans (Dy xs lo hi) hz,_,0,(r.drop (HT.sIx xs.length 0 lo)).take (HT.sIx xs.length xs.length hi - HT.sIx xs.length 0 lo),Heap.get?_push_size _ rfl⟩
noncomputable def eE:V->Bool
 | .non=>true
 | .bl _=>true
 | .int _=>true
 | .str _=>true
 | _=>false
noncomputable def qI:V->V->Bool
 | .non,.non=>true
 | .bl a,.bl b=>a == b
 | .bl a,.int b=>(if a then 1 else 0) == b
 | .int a,.bl b=>a == (if b then 1 else 0)
 | .int a,.int b=>a == b
 | .str a,.str b=>a == b
 | _,_=>false
theorem JF {A:Around} {s:Shared} {y x:V} {u v:Value} (ry:RelV y u) (rx:RelV x v) (fy:eE y=true) (fx:eE x=true):SeqAt.EqAt A s u v (qI y x):=by
 cases y with
 | non =>
  cases ry
  cases x with
  | non=>cases rx; exact SeqAt.EqAt.same _
  | bl b=>cases rx; exact SeqAt.EqAt.none_bool b
  | int b=>obtain ⟨t,rfl⟩:=rx; exact SeqAt.EqAt.none_int b t
  | str b=>obtain ⟨t,rfl⟩:=rx; exact SeqAt.EqAt.none_str b t
  | _=>exact absurd (show false=true from fx) Bool.false_ne_true
 | bl a =>
  cases ry
  cases x with
  | non=>cases rx; exact SeqAt.EqAt.bool_none a
  | bl b=>cases rx; exact SeqAt.EqAt.bool_bool a b
  | int b=>obtain ⟨t,rfl⟩:=rx; exact SeqAt.EqAt.bool_int a b t
  | str b=>obtain ⟨t,rfl⟩:=rx; exact SeqAt.EqAt.bool_str a b t
  | _=>exact absurd (show false=true from fx) Bool.false_ne_true
 | int a =>
  obtain ⟨t',rfl⟩:=ry
  cases x with
  | non=>cases rx; exact SeqAt.EqAt.int_none a t'
  | bl b=>cases rx; exact SeqAt.EqAt.int_bool a t' b
  | int b=>obtain ⟨t,rfl⟩:=rx; exact SeqAt.EqAt.int_int a t' b t
  | str b=>obtain ⟨t,rfl⟩:=rx; exact SeqAt.EqAt.int_str a t' b t
  | _=>exact absurd (show false=true from fx) Bool.false_ne_true
 | str a =>
  obtain ⟨t',rfl⟩:=ry
  cases x with
  | non=>cases rx; exact SeqAt.EqAt.str_none a t'
  | bl b=>cases rx; exact SeqAt.EqAt.str_bool a t' b
  | int b=>obtain ⟨t,rfl⟩:=rx; exact SeqAt.EqAt.str_int a t' b t
  | str b=>obtain ⟨t,rfl⟩:=rx; exact SeqAt.EqAt.str_str a t' b t
  | _=>exact absurd (show false=true from fx) Bool.false_ne_true
 | _=>exact absurd (show false=true from fy) Bool.false_ne_true
noncomputable def pF (x:V) (u:Value):Bool:=match u with
 | .none=>qI .non x
 | .bool b=>qI (.bl b) x
 | .int i _=>qI (.int i) x
 | .str z _=>qI (.str z) x
 | _=>false
theorem Dz {x y:V} {u:Value} (r:RelV y u) (f:eE y=true):pF x u=qI y x:=by
 cases y with
 | non=>cases r; rfl
 | bl b=>cases r; rfl
 | int i=>obtain ⟨t,rfl⟩:=r; rfl
 | str z=>obtain ⟨t,rfl⟩:=r; rfl
 | _=>exact absurd (show false=true from f) Bool.false_ne_true
theorem Aj {x:V}:∀{xs:List V} {us:List Value},Vals xs us->xs.all eE=true->us.any (pF x)=xs.any fun y=>qI y x
 | _,_,.nil,_=>rfl
 | y :: xs,u :: us,.cons r t,f=>by
  rw [List.all_cons,Bool.and_eq_true] at f;rw [List.any_cons,List.any_cons,Dz r f.1,Aj t f.2]
theorem dA' {A:Around} {s:Shared} {x:V} {v:Value} (rx:RelV x v) (fx:eE x=true):∀{xs:List V} {us:List Value},Vals xs us->xs.all eE=true->∀u∈us,SeqAt.EqAt A s u v (pF x u)
 | _,_,.nil,_=>fun u hu=>by cases hu
 | y :: xs,u :: us,.cons r t,f=>fun u' hu=>by
  rw [List.all_cons,Bool.and_eq_true] at f;rcases List.mem_cons.mp hu with rfl | hu
  ·rw [Dz r f.1]; exact JF r rx f.1 fx
  ·exact dA' rx fx t f.2 u' hu
noncomputable def inV (x:V) (xs:List V):Bool:=xs.any fun y=>qI y x
noncomputable def Ak (K:PySem.W.Frag) (neg:Bool):R2:=fun x y H Q=>∃p xs,y=.ref p/\(SqL K H p xs\/SqT K H p xs)/\eE x=true/\xs.all eE=true/\Q (.bl (if neg then !inV x xs else inV x xs)) H
theorem DG:OpR X (compareOp .NotIn) (Ak X.K true):=by
 intro pins s σ H x y v u Q I rx ry h;obtain ⟨p,xs,rfl,hq,fx,fs,q⟩:=h
 cases ry
 rcases hq with hq | hq
 ·obtain ⟨its,r,pl,hz⟩:=I.list hq;refine SeqAt.notIn_listAt (pF x) pl.isList (fun w hw=>dA' rx fx r fs w (by simpa using hw)) ⟨.bl _,H,I,rfl,?_⟩;rw [show its.toArray.any (pF x)=its.any (pF x) by simp,Aj r fs];exact q
 ·obtain ⟨its,r,pl,hz⟩:=I.tuple hq;refine SeqAt.notIn_tupleAt (pF x) pl (fun w hw=>dA' rx fx r fs w (by simpa using hw)) ⟨.bl _,H,I,rfl,?_⟩;rw [show its.toArray.any (pF x)=its.any (pF x) by simp,Aj r fs];exact q
theorem CallR.or {f:Value} {r r':List V->Hp->VK->Prop} (h:CallR X f r) (h':CallR X f r'):CallR X f (fun xs H Q=>r xs H Q\/r' xs H Q):=by
 intro pins s σ H xs us Q I rs q;rcases q with q | q
 ·exact h pins s σ H xs us Q I rs q
 ·exact h' pins s σ H xs us Q I rs q
theorem JG:CallR X (.type "list") (fun xs H Q=>∃p ys,xs=[.ref p]/\(SqL X.K H p ys\/SqT X.K H p ys)/\∀l,H l=none->Q (.ref l) (upd H l (.lst ys))):=by
 intro pins s σ H xs us Q I r h;obtain ⟨p,ys,rfl,hq,q⟩:=h;obtain ⟨u,rfl,rx⟩:=vals1 r
 cases rx
 have fin:∀(its:List Value),Vals ys its->ys.length<=sizeLine->∀(h':Heap) (c':Nat),(∀b o',s.heap.get? b=some o'->h'.get? b=some o') ->
   h'.get? s.heap.objs.size=some { cls:=.type "list",dict:=none,data:=.seq its.toArray c',slots:=#[] }->EP X pins σ Q (.ref s.heap.objs.size) { s with heap:=h' }:=fun its r' hz h' c' kp e =>
  ⟨.ref s.heap.objs.size,_,I.laid (t':=s.toks) kp (Nat.le_refl _) (show ObjOk X.prog X.w _ h' _ (.lst ys) from ⟨hz,its,c',r',e⟩),rfl,q _ (I.hok.fresh (Nat.le_refl _))⟩
 rcases hq with hq | hq
 ·obtain ⟨its,r',pl,hz⟩:=I.list hq;have hlen:=r'.length;obtain ⟨o,ho,hc,n,hd⟩:=pl.isList;exact call_list_seq p (.inl rfl) ho hc hd (fun h' c' kp e=>fin its r' hz h' c' kp e) (by simp only [List.size_toArray] <;> omega)
 ·obtain ⟨its,r',pl,hz⟩:=I.tuple hq;have hlen:=r'.length;obtain ⟨o,ho,hc,n,hd⟩:=pl;exact call_list_seq p (.inr rfl) ho hc hd (fun h' c' kp e=>fin its r' hz h' c' kp e) (by simp only [List.size_toArray] <;> omega)
noncomputable def Am (K:PySem.W.Frag) (T:String) (x:V) (H:Hp):Prop:=match x with
 | .str _=>T = "str"
 | .int _=>T = "int"
 | .ref p=>(T = "list"/\∃xs,SqL K H p xs)\/(T = "tuple"/\∃o,K.lookup p=some o/\o.cls=.type "tuple"/\o.dict=none) \/
   (T = "dict"/\((∃kvs,H p=some (.dK kvs))\/∃kvs,H p=some (.dT kvs)))\/(T = "set"/\∃S n,H p=some (.set S n))
 | _=>False
theorem fp' {pins:List (Addr×Obj)} {σ:St} {H:Hp} {s:Shared} {T:String} {x:V} {v:Value} (I:Inv X pins σ H s) (r:RelV x v) (ty:Am X.K T x H) :
  s.TypeIs v T/\∀a,v=.ref a->∃ob,s.heap.get? a=some ob/\ob.dict=none:=by
 cases x with
 | str z =>
  obtain ⟨t,rfl⟩:=r
  cases (show T = "str" from ty)
  exact ⟨typeIs_str s z t,fun _ e=>nomatch e⟩
 | int i =>
  obtain ⟨t,rfl⟩:=r
  cases (show T = "int" from ty)
  exact ⟨typeIs_int s i t,fun _ e=>nomatch e⟩
 | ref p =>
  cases r
  rcases ty with ⟨rfl,xs,hq⟩ | ⟨rfl,o,hk,hc,hd⟩ | ⟨rfl,hk⟩ | ⟨rfl,S,n,hk⟩
  ·obtain ⟨its,_,pl,_⟩:=I.list hq;refine ⟨pl.isList.typeIs,fun a e=>?_⟩
   cases e
   obtain ⟨o,n,e,c,hd,_⟩:=pl;exact ⟨o,e,hd⟩
  ·refine ⟨⟨o,I.kIn p o hk,hc⟩,fun a e=>?_⟩
   cases e
   exact ⟨o,I.kIn _ o hk,hd⟩
  ·have z:∃o,s.heap.get? p=some o/\o.ExactDict:=by
    rcases hk with ⟨kvs,hk⟩ | ⟨kvs,hk⟩
    ·obtain ⟨_,_,_,_,o,_,_,e,ex,_⟩:=I.hok p _ hk;exact ⟨o,e,ex⟩
    ·obtain ⟨_,_,_,_,o,_,_,e,ex,_⟩:=I.hok p _ hk;exact ⟨o,e,ex⟩
   obtain ⟨o,e,ex⟩:=z;refine ⟨⟨o,e,ex.1⟩,fun a e2=>?_⟩
   cases e2
   exact ⟨o,e,ex.2.1⟩
  ·obtain ⟨o,_,_,_,e,ex,_⟩:=I.hok p _ hk;refine ⟨⟨o,e,ex.1⟩,fun a e2=>?_⟩
   cases e2
   exact ⟨o,e,ex.2.1⟩
 | _=>exact False.elim ty
noncomputable def JH (K:PySem.W.Frag) (T:String) (r:V->List V->Hp->VK->Prop) (to:TE) (t:TA):TE:=fun σ H Q=>to σ H fun x H1=>Am K T x H1/\t σ H1 fun xs H2=>r x xs H2 Q
variable {o e:Expr} {es:List Expr} {to:TE} {t:TA} {name:Str} {apos cpos:Pos} {T id:String} {r:V->List V->Hp->VK->Prop}
theorem JK (pa:PlainAttrs T) (slot:Slot T name id) (hty:typeOf (.builtin id)=pure (.type "method_descriptor")) (hm:MtR X id r) (ho:PE X o to) (ha:PA X (e :: es) t)
  (hbase:attributeBase o name X.env (eval o X.env)=eval o X.env:=by rfl)
  (hfew:((backTo cpos (starEach (e :: es) X.env)).all (fun x=>!x.1) && (backToKw cpos (keywordEach [] X.env)).all (fun x=>x.1.isSome)
   && decide ((e :: es).length + ([]:List Keyword).length + (if ([]:List Keyword).isEmpty then 0 else 1) < 30))=true:=by rfl)
  (hline:(apos.endLine == cpos.line)=true:=by rfl) (hs:starEach (e :: es) X.env=(false,eval e X.env) :: starEach es X.env:=by rfl) (hplain:(backTo cpos (starEach es X.env)).any (·.1)=false:=by rfl) :
  PE X (.Call (.Attribute o name apos) (e :: es) [] cpos) (JH X.K T r to t):=by
 intro pins s σ H Q I h;refine wpAny_Call_method_late hbase hfew hline rfl (cN (ho pins s σ H _ I h) fun v s1 ⟨x,H1,I1,r1,ty,q1⟩=>?_);obtain ⟨h1,h2⟩:=fp' I1 r1 ty;refine ⟨T,id,pa,slot,hty,h1,h2,?_⟩;have hA:=ha cpos pins s1 σ H1 _ I1 q1;rw [hs] at hA ⊢;refine Calls.callWith_builtin (by show (false || (backTo cpos (starEach es X.env)).any (·.1))=false; rw [hplain] <;> rfl) (Calls.evalArgs_plain ?_)
 exact cN hA fun us s2 ⟨vs,H2,I2,r2,q2⟩=>hm pins s2 σ H2 x vs v us Q I2 r1 r2 q2
end
noncomputable def JL (X:Cx) (id:String) (r:V->List V->Hp->VK->Prop):Prop :=
 ∀(pins:List (Addr×Obj)) (s:Shared) (σ:St) (H:Hp) (x:V) (xs:List V) (v:Value) (us:List Value) (Q:VK),Inv X pins σ H s->RelV x v->Vals xs us->r x xs H Q ->
  wpAny (model X.prog X.w) X.A (call (.builtin id) (v :: us)) (EP X pins σ Q) X.xe s
theorem Vals.one:∀{x:V} {us:List Value},Vals [x] us->∃u,us=[u]/\RelV x u
 | _,_,.cons r .nil=>⟨_,rfl,r⟩
theorem Vals.two:∀{x y:V} {us:List Value},Vals [x,y] us->∃u v,us=[u,v]/\RelV x u/\RelV y v
 | _,_,_,.cons r (.cons q .nil)=>⟨_,_,rfl,r,q⟩
theorem Vals.zero:∀{us:List Value},Vals [] us->us=[]
 | _,.nil=>rfl
theorem Vals.reverse {xs:List V} {us:List Value} (h:Vals xs us):Vals xs.reverse us.reverse:=by
 induction h with
 | nil=>exact .nil
 | cons r t ih=>rw [List.reverse_cons,List.reverse_cons]; exact Vals.append ih (.cons r .nil)
theorem Vals.rep {xs:List V} {us:List Value} (h:Vals xs us):∀k:Nat,Vals (List.replicate k xs).flatten (List.replicate k us).flatten
 | 0=>.nil
 | k + 1=>by
  rw [List.replicate_succ,List.replicate_succ,List.flatten_cons,List.flatten_cons];exact Vals.append h (Vals.rep h k)
theorem foldl_rep (its:List Value):∀(k:Nat) (acc:List Value),
  List.foldl (fun x1 x2=>x1 ++ x2) acc.toArray (List.replicate k its.toArray)=(acc ++ (List.replicate k its).flatten).toArray
 | 0,acc=>by simp
 | k + 1,acc=>by
  have e:acc.toArray ++ its.toArray=(acc ++ its).toArray:=by simp
  have e2:(acc ++ its) ++ (List.replicate k its).flatten=acc ++ (List.replicate (k + 1) its).flatten:=by
   rw [List.replicate_succ,List.flatten_cons,List.append_assoc]
  rw [<- e2,<- foldl_rep its k (acc ++ its),<- e,List.replicate_succ,List.foldl_cons]
section
variable {X:Cx} {pins:List (Addr×Obj)} {σ:St} {H:Hp} {s:Shared} {l b:Addr} {xs ys zs:List V}
theorem Inv.lset {its its':List Value} {n:Nat} {f:Array Value->Array Value} {t':Nat} (I:Inv X pins σ H s) (hH:H l=some (.lst xs))
  (e:s.heap.get? l=some { cls:=.type "list",data:=.seq its.toArray n }) (hf:f its.toArray=its'.toArray) (hv:Vals ys its') (hz:ys.length<=sizeLine) :
  Inv X pins σ (upd H l (.lst ys)) { s with heap:=s.heap.update l (Obj.mapSeq f),toks:=t' }:=by
 have q:=PySem.IsL.update e f;rw [hf] at q;refine I.write (x:=l) (e:=l) (by rw [hH]; exact trivial) (.inl rfl) (fun b' u hb hu=>(Heap.get?_update_other s.heap (Obj.mapSeq f) (Ne.symm hb)).trans hu) ⟨_,q⟩ ?_;exact ⟨hz,its',_,hv,q⟩
theorem Inv.fresh (I:Inv X pins σ H s):H s.heap.objs.size=none:=I.hok.fresh (Nat.le_refl _)
theorem Inv.lstM (I:Inv X pins σ H s) (hH:H l=some (.lst xs)):xs.length<=sizeLine/\∃(its:List Value) (n:Nat),Vals xs its/\xs.length=its.length/\s.heap.get? l=some { cls:=.type "list",data:=.seq its.toArray n }:=by
 obtain ⟨z,its,n,r,e⟩:=I.hok l _ hH;exact ⟨z,its,n,r,r.length,e⟩
end
section
variable {X:Cx}
noncomputable def pG:V->List V->Hp->VK->Prop:=fun x vs H Q=>∃l xs y,x=.ref l/\vs=[y]/\H l=some (.lst xs)/\xs.length < sizeLine/\Q .non (upd H l (.lst (xs ++ [y])))
theorem DK:JL X "list.append" pG:=by
 intro pins s σ H x vs v us Q I rx rv h;obtain ⟨l,xs,y,rfl,rfl,hH,hz,q⟩:=h
 cases rx
 obtain ⟨u,rfl,ru⟩:=rv.one;obtain ⟨z,its,n,r,hl,e⟩:=I.lstM hH;refine call_meets F.slot_list_append ⟨_,e,rfl⟩ F.entry_list_append (F.args_list_append_2 _ _) (PySem.list_append l its.toArray n u (by rw [List.size_toArray]; omega)) ⟨e,?_⟩;refine ⟨.non,_,I.lset (its':=its ++ [u]) hH e (by simp) (r.append (.cons ru .nil)) ?_,rfl,q⟩;rw [List.length_append,List.length_singleton];omega
theorem len_rep {α:Type} (xs:List α) (k:Nat):(List.replicate k xs).flatten.length=k * xs.length:=by
 induction k with
 | zero=>simp
 | succ k ih=>rw [List.replicate_succ,List.flatten_cons,List.length_append,ih,Nat.succ_mul,Nat.add_comm]
end
section
variable {prog:Program} {w:World} {A:Around} {E:Value->Shared->Prop} {s:Shared}
end
section
variable {X:Cx}
end
end L2
namespace Att
open PySem PySem.W PySem.Calls PyProof.Rows
theorem cE' {P:Params} {h:Heap}:∀(ns:List Int) (vs:List Value),WellAll P h vs (ns.map WData.int)->IntsAre vs ns:=by
 intro ns
 induction ns with
 | nil =>
  intro vs w;rw [List.map_nil] at w
  cases w
  exact .nil
 | cons n ns ih =>
  intro vs w;rw [List.map_cons] at w
  cases w with
  | cons a b =>
   cases a
   exact .cons _ _ (ih _ b)
theorem JM {l:OpenLaw} {n:Nat} (hn:l.most=some n) {P:Params} {h:Heap} {args:List WData} {vals:List Value}
  (hpre:l.row.toRowW.claim.pre args=true) (hwl:WellAll P h vals args) :
  ∃a vs ns,vals=[Value.ref a]/\args=[WData.list (ns.map WData.int)]/\h.get? a=some { cls:=.type "list",data:=.seq vs.toArray }/\IntsAre vs ns/\ns.length<=n:=by
 have hsh:WShape.hasAll [] args [.list .int]=true:=(pre_splitW hpre).1;have hc:l.pre.holds [] { args:=args }=true:=(pre_splitW hpre).2;obtain ⟨d,r,rfl,h1,h2⟩:=hasAllW_cons hsh;obtain rfl:=hasAllW_nil h2;obtain ⟨xs,rfl,h3⟩:=hasW_list h1;obtain ⟨ns,rfl⟩:=items_int h3;have hlen:ns.length<=n:=by
  unfold OpenLaw.pre at hc;have h4:(WTm.not (.lt (.lit (.int (n:Int))) (.len (.arg 0)))).holds [] { args:=[.list (ns.map .int)] }=true:=by
   have h4:=(holds_andW hc).1;rw [hn] at h4;exact h4
  have h5:=condW_of h4 (w_not (w_lt w_lit (w_len_list (w_arg rfl))));rw [List.length_map] at h5;refine Nat.le_of_not_lt fun q=>?_;have q':(n:Int) < ((ns.length:Nat):Int):=by omega
  first
   | (rw [decide_eq_true q'] at h5; exact absurd h5 (by decide))
   | (simp at h5; omega)
 cases hwl with
 | cons w1 w2 =>
  cases w2
  cases w1 with
  | list ho hall=>exact ⟨_,_,ns,rfl,rfl,ho,cE' ns _ hall,hlen⟩
theorem JN (l:OpenLaw) (args:List WData):l.row.toRowW.claim.post args (.bool true) args=true :=
 postW_of (r:=l.row.toRowW) (X:=(true == true))
  (show WShape.has [] (.bool true) .bool=true by first | rfl | decide | simp [WShape.has,WShape.arms,WShape.armsAll])
  (show (WTm.eq .res (.lit (.bool true))).value [] { args:=args,res:=some (.bool true),after:=args }=some (.bool (true == true)) from w_eq_bool (w_res rfl) w_lit) rfl
theorem attach_call {l:OpenLaw} {n:Nat} {q:Program} {loose:List Str} {XP:(Str->Option Value)->Heap->Prop} {YP:World->Heap->Prop} {d:DefRec}
  (hn:l.most=some n) (hdf:d.params.defaults=[])
  (call:∀(w:World) (s₀ s₁:Shared) (mg mb:Str->Option Value) (fa:Addr) (o:Obj) (pm cd doc:Value) (a:Addr) (vs:List Value) (ns:List Int),
   Ground q loose [] XP w s₀ mg mb s₁.heap->YP w s₁.heap ->
   s₁.heap.get? fa=some o->o.data=.func (docDef d.name d.params d.body d.scope pm cd doc)->s₁.heap.CodeRec cd d.name->mg d.name=some (.ref fa) ->
   s₁.heap.get? a=some { cls:=.type "list",data:=.seq vs.toArray }->IntsAre vs ns->ns.length<=n->s₁.gens = #[] ->
   codeAny (model l.prog w) callerA (.call (.ref fa) ⟨[.ref a],[]⟩) (fun r s'=>r=.ok (.ret (.bool true))/\OldK s₁.heap s'.heap/\s'.os=s₁.os/\AllBare s'.gens) s₁) :
  WalkO q loose XP YP l.row.toRowW d [] (fun f vs=>PySem.call f vs):=by
 intro w s₀ s₁ mg mb G Y fa o pm cd doc dV kV ho hd hcd hD hmg hg args vals as hpre hlay hrd hwl hlo;obtain rfl:dV=.none:=Dflts.none hD hdf;obtain rfl:kV=.none:=Dflts.noKw hD;obtain ⟨a,vs,ns,rfl,rfl,hobj,hints,hlen⟩:=JM hn hpre hwl;refine enter_call (codeAny_mono (call w s₀ s₁ mg mb fa o pm cd doc a vs ns G Y ho (fd_plain hd) hcd hmg hobj hints hlen hg) fun r s' hq=>?_);obtain ⟨rfl,h2,h3,h4⟩:=hq;exact ⟨.inl ⟨.bool true,.bool true,[],rfl,fun _=>rfl,.bool true,JN l _,fun _=>⟨List.Pairwise.nil,fun _ hm=>(nomatch hm)⟩⟩,h2,h3,h4⟩
section
variable {prog:Program} {w:World} {A:Around} {E:Value->Shared->Prop} {s:Shared} {K:Frag}
noncomputable def noObjs (h:Heap):Heap:={ h with objs:=#[] }
end
end Att
namespace L2
open PySem PySem.Spec PyProof.Rows
theorem DN:∀{vs:List Value} {ns:List Int},IntsAre vs ns->Vals (ns.map V.int) vs
 | _,_,.nil=>.nil
 | _,_,.cons n t h=>.cons ⟨t,rfl⟩ (DN h)
noncomputable def Only (H:Hp):Prop:=∀b,H b=none\/∃o xs,H b=some (.frz o (.lst xs))
theorem JP {P:Program} {w:World} {K:PySem.W.Frag} {mg mb:Str->Option Value} {CX:iV} {k:Nat} {fa a:Addr} {fd:FuncData} {x:Str} {sp:Sp} {s₁:Shared} {vs:List Value} {ns:List Int}
  (KX:K.In s₁.heap) (hns:s₁.heap.Ns mainGlobals mg) (hb:s₁.heap.Ns builtinsNs mb) (hbb:∀x:Str,x≠"__name__"->mb x=bootBuiltins x) (hlim:s₁.heap.NoLimit) (hg:s₁.gens = #[])
  (ha:s₁.heap.get? a=some { cls:=.type "list",data:=.seq vs.toArray }) (hi:IntsAre vs ns) (hl:ns.length<=sizeLine) (hr:Room k callerA)
  (F:∀base:Heap,K.In base->base.Ns mainGlobals mg->FnOk P w K mg base CX k fa fd [x] sp) (hbind:∀(s:Shared) (u:Value),BindsTo s fd ⟨[u],[]⟩ [(x,u)])
  (hsp:∀H:Hp,Only H->SqL K H a (ns.map V.int)->sp [.ref a] H (fun v _=>v=.bl true) fun _ _ _=>False)
  (hCX:∀H e s',CX [] H s₁ (fun _ _ _=>False) e s'->False) :
  codeAny (model P w) callerA (.call (.ref fa) ⟨[.ref a],[]⟩) (fun r s'=>r=.ok (.ret (.bool true))/\OldK s₁.heap s'.heap/\s'.os=s₁.os/\AllBare s'.gens) s₁:=by
 have rv:=DN hi;have lenV:=hi.length;have core:∀H:Hp,Only H->SqL K H a (ns.map V.int)->HOk P w H s₁.heap->(∀b,H b≠none->b=a)->(H a≠none->K.lookup a=none) ->
   codeAny (model P w) callerA (.call (.ref fa) ⟨[.ref a],[]⟩) (fun r s'=>r=.ok (.ret (.bool true))/\OldK s₁.heap s'.heap/\s'.os=s₁.os/\AllBare s'.gens) s₁:=by
  intro H hO hS hok hA hK;have base_of:∀{b:Addr} {o:Obj},s₁.heap.get? b=some o->H b=none->(iH s₁.heap H).get? b=some o:=fun e n=>HQ e n;have noA:∀{b:Addr} {o:Obj} {es:Array DictEntry} {ep:Nat},s₁.heap.get? b=some o->o.data=.dict es ep->H b=none:=fun {b o es ep} e d=>by
   cases q:H b with
   | none=>rfl
   | some u =>
    have e':b=a:=hA b (by rw [q]; simp);subst e';rw [ha] at e; cases e;have d':Data.seq vs.toArray _=Data.dict es ep:=d
    cases d'
  have nsK:∀{b:Addr} {m:Str->Option Value},s₁.heap.Ns b m->(iH s₁.heap H).Ns b m:=fun {b m} ⟨o,es,ep,e,d,r⟩=>⟨o,es,ep,base_of e (noA e d),d,r⟩;have hKb:K.In (iH s₁.heap H):=fun b o e=>base_of (KX b o e) (by
   cases q:H b with
   | none=>rfl
   | some u =>
    have e':b=a:=hA b (by rw [q]; simp);subst e';rw [hK (by rw [q]; simp)] at e; cases e)
  have hM:Mod K mg (iH s₁.heap H):=⟨hKb,nsK hns,⟨mb,nsK hb,hbb⟩,let ⟨mc,h1,h2⟩:=hlim; ⟨mc,nsK h1,h2⟩⟩;have e0:Env0 P w K mg (iH s₁.heap H) callerA [] s₁ H:=⟨rfl,hM,fun b o e=>HR e,Nat.le_of_eq (HN _ _),trivial,fun b hb=>absurd (show b∈([]:List Addr) from hb) (by simp),hok,.of_eq hg⟩
  refine codeAny_mono ((F _ hKb (nsK hns)).run callerA [] s₁ H ⟨[.ref a],[]⟩ [.ref a] [.ref a] _ _ hr e0 (hbind s₁ (.ref a)) (.cons rfl .nil) (hsp H hO hS)) fun r s' h=>?_
  cases r with
  | error e=>exact (hCX H e s' h).elim
  | ok fl =>
   cases fl with
   | next=>exact False.elim h
   | brk=>exact False.elim h
   | cont=>exact False.elim h
   | ret u =>
    obtain ⟨v,H',os,bare,un,hok',r',q⟩:=h;have q':v=.bl true:=q;subst q';obtain rfl:u=Value.bool true:=r';refine ⟨rfl,OldK.of_keep fun b o e=>?_,os,bare⟩
    cases q:H b with
    | none=>exact un.keep b o e q (by intro z; exact absurd (show b∈([]:List Addr) from z) (by simp)) (by simp)
    | some u =>
     rcases hO b with z | ⟨ob,xs,z⟩
     ·rw [q] at z; cases z
     ·have z2:=un.frzs b ob _ z;obtain ⟨e1,_⟩:=hok b _ z;obtain ⟨e2,_⟩:=hok' b _ z2;rw [e] at e1; cases e1;exact e2
 cases hk:K.lookup a with
 | some o =>
  have e:=KX a o hk;rw [ha] at e
  cases e
  refine core (fun _=>none) (fun _=>.inl rfl) (.inr ⟨_,vs.toArray,_,hk,rfl,rfl,rfl,by rw [List.size_toArray,lenV]; exact hl,by simpa using rv⟩) (fun b u z=>by have z':(none:Option HO)=some u:=z; cases z') (fun b z=>absurd rfl z) fun z=>absurd rfl z
 | none =>
  refine core (fun b=>if b=a then some (.frz { cls:=.type "list",data:=.seq vs.toArray } (.lst (ns.map V.int))) else none) (fun b=>?_) (.inl (.inr ⟨{ cls:=.type "list",data:=.seq vs.toArray },if_pos rfl⟩)) (fun b u z=>?_) (fun b z=>?_) fun _=>hk
  ·by_cases hb:b=a
   ·exact .inr ⟨_,_,if_pos hb⟩
   ·exact .inl (if_neg hb)
  ·by_cases hb:b=a
   ·have z':=(if_pos hb).symm.trans z
    cases z'
    subst hb;exact ⟨ha,by rw [List.length_map]; exact hl,vs,_,rv,ha⟩
   ·have z':=(if_neg hb).symm.trans z
    cases z'
  ·by_cases hb:b=a
   ·exact hb
   ·exact absurd (if_neg hb) z
abbrev KOf {K:PySem.W.Frag} {h:Heap} (_:K.In h):PySem.W.Frag:=K
theorem walk_of {l:PySem.W.OpenLaw} {n k:Nat} {q:Program} {loose:List Str} {XP:(Str->Option Value)->Heap->Prop} {YP:World->Heap->Prop} {d:DefRec} {K:Params->PySem.W.Frag} {CX:World->iV} {sp:World->Sp} {x:Str}
  (hn:l.most=some n) (hn2:n<=sizeLine) (hdf:d.params.defaults=[]) (hr:Room k callerA)
  (hY:∀(w:World) (h:Heap),YP w h->(K w.params).In h)
  (F:∀(w:World) (mg:Str->Option Value) (fa:Addr) (h:Heap),(K w.params).In h->h.Ns mainGlobals mg->mg d.name=some (.ref fa) ->
   ∃fd:FuncData,(∀(s:Shared) (u:Value),BindsTo s fd ⟨[u],[]⟩ [(x,u)]) /\
    ∀base:Heap,(K w.params).In base->base.Ns mainGlobals mg->FnOk l.prog w (K w.params) mg base (CX w) k fa fd [x] (sp w))
  (hsp:∀(w:World) (H:Hp) (a:Addr) (ns:List Int),ns.length<=n->Only H->SqL (K w.params) H a (ns.map V.int)->sp w [.ref a] H (fun v _=>v=.bl true) fun _ _ _=>False)
  (hCX:∀(w:World) (H:Hp) (s:Shared) (e:Value) (s':Shared),CX w [] H s (fun _ _ _=>False) e s'->False) :
  PySem.W.WalkO q loose XP YP l.row.toRowW d [] (fun f vs=>PySem.call f vs):=by
 refine Att.attach_call hn hdf fun w s₀ s₁ mg mb fa o pm cd doc a vs ns G Y ho hd hcd hmg hobj hints hlen hg=>?_;have KX:=hY w _ Y;obtain ⟨fd,hb,hF⟩:=F w mg fa _ KX G.T.g hmg;exact JP KX G.T.g G.T.b G.T.builtins G.T.nolimit hg hobj hints (Nat.le_trans hlen hn2) hr hF hb (fun H hO hS=>hsp w H a ns hlen hO hS) fun H e s'=>hCX w H s₁ e s'
noncomputable def aX (s:Stmt):Arguments:=match s with
 | .FunctionDef _ a _ _ _ _ _ _ _ _=>a
 | _=>{ posonlyargs:=[],args:=[],vararg:=none,kwonlyargs:=[],kw_defaults:=[],kwarg:=none,defaults:=[] }
noncomputable def aD (s:Stmt):List Stmt:=match s with
 | .FunctionDef _ _ b _ _ _ _ _ _ _=>b
 | _=>[]
noncomputable def ao (s:Stmt):Scope:=match s with
 | .FunctionDef _ _ _ _ _ _ sc _ _ _=>sc
 | _=>{ kind:=.function,names:=[],isGenerator:=false,isCoroutine:=false }
abbrev DP:iV:=fun _ _ _ _ _ _=>False
abbrev E0:XK:=fun _ _ _=>False
structure Fun (K:PySem.W.Frag) (x qual:Str) (st:Stmt) (f:Addr) (fd:FuncData):Prop where
 ex:∃(oc:Value) (od:Option Addr) (kV doc pm:Value) (an:Option Addr) (cdv ct:Value) (osl:Array (Option Value)),
  fd=PySem.W.fnOf x qual (aX st) (aD st) (ao st) .none kV doc pm an cdv ct/\K.lookup f=some ⟨oc,od,.func fd,osl⟩/\PySem.W.codeIn K cdv qual=true
 kp:PySem.W.keepIn K (.ref f)=true
section
variable {P:Program} {w:World} {K:PySem.W.Frag} {mg:Str->Option Value} {base:Heap}
theorem Fun.ok {x qual:Str} {st:Stmt} {f:Addr} {fd:FuncData} {N ps:List Str} {k:Nat} {sp:Sp} (F:Fun K x qual st f fd) (S:FnScope N ps (ao st)) (len:∀vs H Q E,sp vs H Q E->vs.length=ps.length)
  (hbody:∀(cdv:Value) (A:Around) (outer:List Env) (s:Shared) (H:Hp) (vs:List V) (Q:VK) (E:XK),Room k (A.deeper (envOfC qual (ao st) s.heap.objs.size f cdv))->sp vs H Q E ->
   ∃t,PSs (bN DP P w K mg base N qual (ao st) f cdv A outer s H E).nox (aD st) t/\t { nx:=fun _ H'=>Q .non H',rt:=Q } (start N vs) H):FnOk P w K mg base DP (k + 1) f fd ps sp:=by
 obtain ⟨oc,od,kV,doc,pm,an,cdv,ct,osl,rfl,lk,hcd⟩:=F.ex;refine pC lk hcd S len fun A outer s H vs Q E hr hsp=>?_;obtain ⟨t,h,q⟩:=hbody cdv A outer s H vs Q E hr hsp;exact ⟨t,h.nox,q⟩
theorem Fun.binds {x qual:Str} {st:Stmt} {f:Addr} {fd:FuncData} {ps:List Str} (F:Fun K x qual st f fd)
  (h:∀(kV doc pm:Value) (an:Option Addr) (cdv ct:Value) (us:List Value),us.length=ps.length->bindArgs (PySem.W.fnOf x qual (aX st) (aD st) (ao st) .none kV doc pm an cdv ct) ⟨us,[]⟩=pure (ps.zip us)):Binds K fd ps []:=by
 obtain ⟨oc,od,kV,doc,pm,an,cdv,ct,osl,rfl,lk,hcd⟩:=F.ex;exact .all (h kV doc pm an cdv ct)
theorem An {x qual:Str} {st:Stmt} {f:Addr} {oc:Value} {od an:Option Addr} {osl:Array (Option Value)} {kV doc pm cdv ct:Value} (l:K.lookup f=some ⟨oc,od,.func (PySem.W.fnOf x qual (aX st) (aD st) (ao st) .none kV doc pm an cdv ct),osl⟩)
  (c:PySem.W.codeIn K cdv qual=true) (k:PySem.W.keepIn K (.ref f)=true):Fun K x qual st f (PySem.W.fnOf x qual (aX st) (aD st) (ao st) .none kV doc pm an cdv ct):=⟨⟨oc,od,kV,doc,pm,an,cdv,ct,osl,rfl,l,c⟩,k⟩
end
theorem JQ {A:Around} {k:Nat} (hr:Room k A):A.units + 1 < cLine:=Nat.lt_of_le_of_lt (Nat.add_le_add_left (by decide:1<=64) _) hr.units
section
variable {X:Cx}
theorem pv (i:Nat) {x:Str} {pos:Pos} (hN:X.N[i]? = some x:=by rfl) (hv:qz X.env.scope x:=by first | exact Or.inl rfl | exact Or.inr (Or.inl rfl) | exact Or.inr (Or.inr rfl)) (hd:(x == ("__debug__" : Str))=false:=by decide)
  (hcd:(x == ("__classdict__" : Str))=false:=by decide):PE X (.Name x pos) (cG i):=yN hN hv hd hcd
end
noncomputable def Same (H H':Hp):Prop:=∀b o,H b=some o->H' b=some o
theorem Same.refl (H:Hp):Same H H:=fun _ _ h=>h
theorem Same.trans {H H1 H2:Hp} (a:Same H H1) (b:Same H1 H2):Same H H2:=fun c o h=>b c o (a c o h)
theorem Same.free {H H':Hp} (e:Same H H') {l:Addr} (h:H' l=Option.none):H l=Option.none:=by
 cases q:H l with
 | none=>rfl
 | some o =>
  rw [e l o q] at h
  cases h
theorem Same.seq {K:PySem.W.Frag} {H H':Hp} {a:Addr} {xs:List V} (e:Same H H') (h:SqL K H a xs):SqL K H' a xs:=by
 rcases h with (h | ⟨o,h⟩) | h
 ·exact .inl (.inl (e _ _ h))
 ·exact .inl (.inr ⟨o,e _ _ h⟩)
 ·exact .inr h
section
variable {κ:Type} [DecidableEq κ]
noncomputable def fL (kvs:List (κ×V)) (k:κ):Option V:=(kvs.find? fun kv=>decide (kv.1=k)).map (·.2)
noncomputable def putK (kvs:List (κ×V)) (k:κ) (v:V):List (κ×V) :=
 if (kvs.any fun kv=>decide (kv.1=k))=true then kvs.map (fun kv=>if kv.1=k then (kv.1,v) else kv) else kvs ++ [(k,v)]
noncomputable def qJ (kvs:List (κ×V)) (k:κ):List (κ×V):=kvs.filter fun kv=>decide (kv.1≠k)
theorem cs' {p:κ×V} {r:List (κ×V)} {k:κ} (e:p.1=k):fL (p :: r) k=some p.2:=by simp [fL,List.find?_cons,e]
theorem ct' {p:κ×V} {r:List (κ×V)} {k:κ} (e:¬p.1=k):fL (p :: r) k=fL r k:=by simp [fL,List.find?_cons,e]
theorem DQ (k:κ):∀kvs:List (κ×V),(kvs.any fun kv=>decide (kv.1=k))=(fL kvs k).isSome
 | []=>rfl
 | p :: r=>by
  rw [List.any_cons]
  by_cases e:p.1=k
  ·simp only [cs' e,decide_eq_true e,Bool.true_or,Option.isSome_some]
  ·rw [ct' e,decide_eq_false e,Bool.false_or]; exact DQ k r
theorem cF' (kvs:List (κ×V)) (k:κ) (v:V):(putK kvs k v).length<=kvs.length + 1:=by
 unfold putK
 split
 ·rw [List.length_map]; omega
 ·rw [List.length_append,List.length_cons,List.length_nil]; omega
theorem RelO.isSome_eq {o:Option V} {u:Option Value} (r:RelO o u):o.isSome=u.isSome:=by
 cases o with
 | none=>cases u with
  | none=>rfl
  | some _=>exact (show False from r).elim
 | some _=>cases u with
  | none=>exact (show False from r).elim
  | some _=>rfl
theorem RelO.getD {o:Option V} {u:Option Value} {d:V} {d':Value} (r:RelO o u) (rd:RelV d d'):RelV (o.getD d) (u.getD d'):=by
 cases o with
 | none=>cases u with
  | none=>exact rd
  | some _=>exact (show False from r).elim
 | some _=>cases u with
  | none=>exact (show False from r).elim
  | some _=>exact r
theorem KV.val {kvs:List (κ×V)} {vs:List (κ×Value)} (r:KV kvs vs) (k:κ):RelO (fL kvs k) (valueAt vs k):=by
 unfold KV at r
 induction r with
 | nil=>exact True.intro
 | @cons p q ps qs h t ih =>
  obtain ⟨h1,h2⟩:=h
  by_cases e:p.1=k
  ·have e':q.1=k:=h1.symm.trans e;have b:valueAt (q :: qs) k=some q.2:=by simp [valueAt,List.find?_cons,e']
   rw [cs' e,b]; exact h2
  ·have e':¬q.1=k:=fun z=>e (h1.trans z);have b:valueAt (q :: qs) k=valueAt qs k:=by simp [valueAt,List.find?_cons,e']
   rw [ct' e,b]; exact ih
theorem KV.any {kvs:List (κ×V)} {vs:List (κ×Value)} (r:KV kvs vs) (k:κ):(kvs.any fun kv=>decide (kv.1=k))=vs.any fun kv=>decide (kv.1=k):=by
 unfold KV at r
 induction r with
 | nil=>rfl
 | cons h t ih=>rw [List.any_cons,List.any_cons,ih,h.1]
theorem KV.repl {kvs:List (κ×V)} {vs:List (κ×Value)} (r:KV kvs vs) (k:κ) {y:V} {u:Value} (ry:RelV y u) :
  KV (kvs.map fun kv=>if kv.1=k then (kv.1,y) else kv) (vs.map fun kv=>if kv.1=k then (kv.1,u) else kv):=by
 unfold KV at r ⊢
 induction r with
 | nil=>exact .nil
 | @cons p q ps qs h t ih =>
  rw [List.map_cons,List.map_cons];refine .cons ?_ ih;obtain ⟨h1,h2⟩:=h
  by_cases e:p.1=k
  ·rw [if_pos e,if_pos (h1.symm.trans e)]; exact ⟨h1,ry⟩
  ·rw [if_neg e,if_neg (fun z=>e (h1.trans z))]; exact ⟨h1,h2⟩
theorem KV.put {kvs:List (κ×V)} {vs:List (κ×Value)} (r:KV kvs vs) (k:κ) {y:V} {u:Value} (ry:RelV y u):KV (putK kvs k y) (stored vs k u):=by
 unfold putK stored;rw [r.any k]
 by_cases e:(vs.any fun kv=>decide (kv.1=k))=true
 ·rw [if_pos e,if_pos e]; exact r.repl k ry
 ·rw [if_neg e,if_neg e]; exact Paired.snoc r ⟨rfl,ry⟩
theorem KV.drop {kvs:List (κ×V)} {vs:List (κ×Value)} (r:KV kvs vs) (k:κ):KV (qJ kvs k) (without vs k):=by
 unfold KV at r ⊢;unfold qJ without
 induction r with
 | nil=>exact .nil
 | @cons p q ps qs h t ih =>
  obtain ⟨h1,h2⟩:=h;rw [List.filter_cons,List.filter_cons]
  by_cases e:p.1=k
  ·have a:¬decide (p.1≠k)=true:=by simp [e]
   have b:¬decide (q.1≠k)=true:=by simp [h1.symm.trans e]
   rw [if_neg a,if_neg b]; exact ih
  ·have e':¬q.1=k:=fun z=>e (h1.trans z);have a:decide (p.1≠k)=true:=by simp [e]
   have b:decide (q.1≠k)=true:=by simp [e']
   rw [if_pos a,if_pos b]; exact .cons ⟨h1,h2⟩ ih
theorem KV.keys {kvs:List (κ×V)} {vs:List (κ×Value)} (r:KV kvs vs):kvs.map (·.1)=vs.map (·.1):=by
 unfold KV at r
 induction r with
 | nil=>rfl
 | cons h t ih=>rw [List.map_cons,List.map_cons,ih,h.1]
theorem KV.length {kvs:List (κ×V)} {vs:List (κ×Value)} (r:KV kvs vs):kvs.length=vs.length:=Paired.length r
end
theorem Ao {P:Program} {w:World} {k:Key} {u:Value} (r:RelV (kV k) u):(aP P w).is k u=true:=by
 cases k with
 | inl i=>obtain ⟨t,e⟩:=(show ∃t,u=Value.int i t from r); subst e; exact HF P w i t
 | inr x=>obtain ⟨t,e⟩:=(show ∃t,u=Value.str x t from r); subst e; exact HH P w x t
theorem DR {P:Program} {w:World}:∀{ks:List Key} {us:List Value},Vals (ks.map kV) us->ItemsAre (aP P w) ks us
 | [],_,r=>by rw [List.map_nil] at r; cases r; exact .nil
 | k :: ks,_,r=>by
  rw [List.map_cons] at r
  cases r with
  | cons h t=>exact .cons (Ao h) (DR t)
abbrev KT (H:Hp):List (List Key×V)->List (List Key×Addr×Value)->Prop:=Paired fun p q=>p.1=q.1/\H q.2.1=some (.tup (p.1.map kV))/\RelV p.2 q.2.2
theorem KT.val {H:Hp} {kvs:List (List Key×V)} {xs:List (List Key×Addr×Value)} (r:KT H kvs xs) (k:List Key):RelO (fL kvs k) ((atKey xs k).map (·.2)):=by
 induction r with
 | nil=>exact True.intro
 | @cons p q ps qs h t ih =>
  obtain ⟨h1,_,h2⟩:=h
  by_cases e:p.1=k
  ·have e':q.1=k:=h1.symm.trans e;have b:atKey (q :: qs) k=some q.2:=by simp [atKey,List.find?_cons,e']
   rw [cs' e,b]; exact h2
  ·have e':¬q.1=k:=fun z=>e (h1.trans z);have b:atKey (q :: qs) k=atKey qs k:=by simp [atKey,List.find?_cons,e']
   rw [ct' e,b]; exact ih
theorem KT.repl {H:Hp} {kvs:List (List Key×V)} {xs:List (List Key×Addr×Value)} (r:KT H kvs xs) (k:List Key) {y:V} {u:Value} (ry:RelV y u) :
  KT H (kvs.map fun kv=>if kv.1=k then (kv.1,y) else kv) (xs.map (putAt k u)):=by
 induction r with
 | nil=>exact .nil
 | @cons p q ps qs h t ih =>
  rw [List.map_cons,List.map_cons];refine .cons ?_ ih;obtain ⟨h1,h2,h3⟩:=h;unfold putAt
  by_cases e:p.1=k
  ·rw [if_pos e,if_pos (h1.symm.trans e)]; exact ⟨h1,h2,ry⟩
  ·rw [if_neg e,if_neg (fun z=>e (h1.trans z))]; exact ⟨h1,h2,h3⟩
theorem KT.put {H:Hp} {kvs:List (List Key×V)} {xs:List (List Key×Addr×Value)} (r:KT H kvs xs) (k:List Key) {b:Addr} {y:V} {u:Value} (hb:H b=some (.tup (k.map kV))) (ry:RelV y u) :
  KT H (putK kvs k y) (storedH xs k b u):=by
 have e:(kvs.any fun kv=>decide (kv.1=k))=(atKey xs k).isSome:=by
  rw [DQ,(r.val k).isSome_eq,Option.isSome_map]
 unfold putK storedH;rw [e]
 by_cases q:(atKey xs k).isSome=true
 ·rw [if_pos q,if_pos q]; exact r.repl k ry
 ·rw [if_neg q,if_neg q]; exact Paired.snoc r ⟨rfl,hb,ry⟩
theorem KT.keeps {H H':Hp} {kvs:List (List Key×V)} {xs:List (List Key×Addr×Value)} (r:KT H kvs xs) (ht:∀b ys,H b=some (.tup ys)->H' b=some (.tup ys)):KT H' kvs xs :=
 Paired.mapP r fun _ _ z=>⟨z.1,ht _ _ z.2.1,z.2.2⟩
section
variable {P:Program} {w:World} {H:Hp} {h:Heap} {a:Addr}
theorem DW {u:HO} (ok:HOk P w H h) (e:Rd H a u):ObjOk P w H h a u:=e.ok ok
theorem JR {kvs:List (Key×V)} (ok:HOk P w H h) (e:Rd H a (.dK kvs)):kvs.length<=sizeLine/\(a == sysModules)=false/\∃vs,KV kvs vs/\h.DictOf (aP P w) a vs :=
 show ObjOk P w H h a (.dK kvs) from DW ok e
theorem Aq {kvs:List (Key×V)} (ok:HOk P w H h) (e:H a=some (.dK kvs)):kvs.length<=sizeLine/\(a == sysModules)=false/\∃vs,KV kvs vs/\h.DictOf (aP P w) a vs:=JR ok (.inl e)
theorem DX {ks:List Key} (ok:HOk P w H h) (e:H a=some (.tup (ks.map kV))):(tupleKind (aP P w)).is h ks a:=by
 obtain ⟨_,its,r,o,h1,h2,n,h3⟩:=(show ObjOk P w H h a (.tup (ks.map kV)) from ok a _ e)
 exact ⟨o,its.toArray,n,h1,h2,h3,by simpa using DR r⟩
theorem JS {kvs:List (List Key×V)} (ok:HOk P w H h) (e:Rd H a (.dT kvs)):kvs.length<=sizeLine/\(a == sysModules)=false /\
  ∃xs,KT H kvs xs/\h.DictOfH (tupleKind (aP P w)) a xs:=by
 obtain ⟨z,y,xs,r,o,es,ep,h1,h2,h3,h4,h5⟩:=(show ObjOk P w H h a (.dT kvs) from DW ok e)
 refine ⟨z,y,xs,r,o,es,ep,h1,h2,h3,h4,fun x hx=>?_,h5⟩;have all:∀{l:List (List Key×V)} {m:List (List Key×Addr×Value)},KT H l m->∀x∈m,(tupleKind (aP P w)).is h x.1 x.2.1:=by
  intro l m q
  induction q with
  | nil=>intro x hx; exact nomatch hx
  | @cons p q ps qs hq t ih =>
   intro x hx;rcases List.mem_cons.mp hx with e | hx
   ·subst e;exact DX ok (by rw [<- hq.1]; exact hq.2.1)
   ·exact ih x hx
 exact all r x hx
theorem JT {kvs:List (List Key×V)} (ok:HOk P w H h) (e:H a=some (.dT kvs)):kvs.length<=sizeLine/\(a == sysModules)=false /\
  ∃xs,KT H kvs xs/\h.DictOfH (tupleKind (aP P w)) a xs:=JS ok (.inl e)
end
noncomputable def DGet (H:Hp) (a:Addr) (y:V) (r:Option V):Prop :=
 (∃kvs k,Rd H a (.dK kvs)/\y=kV k/\r=fL kvs k)\/∃kvs k b,Rd H a (.dT kvs)/\y=.ref b/\H b=some (.tup (k.map kV))/\r=fL kvs k
noncomputable def DPut (H:Hp) (a:Addr) (y v:V) (H':Hp):Prop :=
 (∃kvs k,H a=some (.dK kvs)/\y=kV k/\kvs.length < sizeLine/\H'=upd H a (.dK (putK kvs k v))) \/
 ∃kvs k b,H a=some (.dT kvs)/\y=.ref b/\H b=some (.tup (k.map kV))/\kvs.length < sizeLine/\H'=upd H a (.dT (putK kvs k v))
theorem DGet.k {H:Hp} {a:Addr} {kvs:List (Key×V)} {k:Key} (e:H a=some (.dK kvs)):DGet H a (kV k) (fL kvs k):=.inl ⟨kvs,k,.inl e,rfl,rfl⟩
theorem DGet.t {H:Hp} {a b:Addr} {kvs:List (List Key×V)} {k:List Key} (e:H a=some (.dT kvs)) (eb:H b=some (.tup (k.map kV))):DGet H a (.ref b) (fL kvs k):=.inr ⟨kvs,k,b,.inl e,rfl,eb,rfl⟩
theorem DPut.k {H:Hp} {a:Addr} {kvs:List (Key×V)} {k:Key} {v:V} (e:H a=some (.dK kvs)) (hl:kvs.length < sizeLine):DPut H a (kV k) v (upd H a (.dK (putK kvs k v))):=.inl ⟨kvs,k,e,rfl,hl,rfl⟩
theorem DPut.t {H:Hp} {a b:Addr} {kvs:List (List Key×V)} {k:List Key} {v:V} (e:H a=some (.dT kvs)) (eb:H b=some (.tup (k.map kV))) (hl:kvs.length < sizeLine) :
  DPut H a (.ref b) v (upd H a (.dT (putK kvs k v))):=.inr ⟨kvs,k,b,e,rfl,eb,hl,rfl⟩
section
variable {X:Cx} {pins:List (Addr×Obj)} {σ:St} {H:Hp} {s:Shared} {a:Addr} {y v:V} {u r:Value} {o:Option V} {A:Around} {E:Value->Shared->Prop}
theorem Inv.big (I:Inv X pins σ H s):sysModules < s.heap.objs.size:=by
 have h:mainGlobals < s.heap.objs.size:=(I.mod.glob.keeps I.bk).lt;exact Nat.lt_trans (by decide) h
theorem DY {h':Heap} {t':Nat} {ob:HO} (I:Inv X pins σ H s) (mu:uQ (H a)) (hs:Heap.SameBut a s.heap h') (he:∃q,h'.get? a=some q) (new:ObjOk X.prog X.w (upd H a ob) h' a ob) :
  Inv X pins σ (upd H a ob) { s with heap:=h',toks:=t' } :=
 I.write (x:=a) (e:=a) mu (.inl rfl) (fun b q hb z=>(hs.2 b hb).trans z) he new
theorem D_ {P:Program} {w:World} {H':Hp} {h':Heap} {kvs:List (Key×V)} {vs:List (Key×Value)} (z:kvs.length<=sizeLine) (hd:(a == sysModules)=false) (rel:KV kvs vs) (dd:h'.DictOf (aP P w) a vs) :
  ObjOk P w H' h' a (.dK kvs):=⟨z,hd,vs,rel,dd⟩
theorem JV {H':Hp} {Q:Unit->Shared->Prop} (hu:A.units + 1 < cLine) (I:Inv X pins σ H s) (g:DPut H a y v H') (ry:RelV y u) (rv:RelV v r) (h:∀s',Inv X pins σ H' s'->Q () s') :
  wpAny (model X.prog X.w) A (setItem (.ref a) u r) Q E s:=by
 rcases g with ⟨kvs,k,e,ey,l,eH⟩ | ⟨kvs,k,b,e,ey,eb,l,eH⟩
 ·subst ey eH;obtain ⟨z,hd,vs,rel,dd⟩:=Aq I.hok e;have hz:vs.length<=sizeLine:=by rw [<- rel.length]; exact z
  have hl:(putK kvs k v).length<=sizeLine:=by have:=cF' kvs k v; omega
  refine wpAny_setItem_pairs (hsz:=hz) (Ao ry) dd fun h' dd' hs=>h _ ?_;have he:∃q,h'.get? a=some q:=let ⟨q,_,_,hq,_⟩:=dd'; ⟨q,hq⟩;exact DY I (by rw [e]; exact True.intro) hs he (D_ hl hd (rel.put k rv) dd')
 ·subst ey eH
  cases (show u=Value.ref b from ry)
  obtain ⟨z,hd,xs,rel,dd⟩:=JT I.hok e;have hz:xs.length<=sizeLine:=by rw [<- Paired.length rel]; exact z
  have hl:(putK kvs k v).length<=sizeLine:=by have:=cF' kvs k v; omega
  refine wpAny_setItem_heap (hsz:=hz) (tupleKind_room_in1 hu) (DX I.hok eb) dd fun h' dd' hs=>h _ ?_;obtain ⟨q,es,ep,hq,h2,h3,h4,_,h5⟩:=dd';refine DY I (by rw [e]; exact True.intro) hs ⟨q,hq⟩ ⟨hl,hd,_,(rel.put k eb rv).keeps fun c ys ec=>?_,q,es,ep,hq,h2,h3,h4,h5⟩;rw [aL (HJ ec e (fun z=>nomatch z))];exact ec
end
section
variable {X:Cx} {pins:List (Addr×Obj)} {σ:St} {H:Hp} {s:Shared} {a:Addr} {kvs:List (Key×V)} {k:Key} {u:Value} {A:Around} {E:Value->Shared->Prop}
end
noncomputable def vq (td ty tv:TE):TS:=fun D σ H=>tv σ H fun v H1=>td σ H1 fun x H2=>ty σ H2 fun y H3=>∃a H4,x=.ref a/\DPut H3 a y v H4/\D.nx σ H4
section
variable {X:Cx} {o i e value:Expr} {pos pos' tpos:Pos} {td ty tv:TE}
theorem JW (hu:X.A.units + 1 < cLine) (ho:PE X o td) (hi:PE X i ty) (hv:PE X value tv) (hs:swapsWith value (some (.Subscript o i pos')) pos.line X.env=pure false) :
  PS X (.Assign [.Subscript o i pos'] value pos) (vq td ty tv):=by
 intro pins s σ H D I h;refine wpAny_Assign_Subscript (cN (hv pins s σ H _ I h) fun r s1 ⟨v,H1,I1,rv,q1⟩=>cN (ho pins s1 σ H1 _ I1 q1) fun u s2 ⟨x,H2,I2,rx,q2⟩=>cN (hi pins s2 σ H2 _ I2 q2) fun iv s3 ⟨y,H3,I3,ry,a,H4,ex,g,q3⟩=>?_) hs;subst ex;obtain rfl:u=Value.ref a:=rx;exact JV hu I3 g ry rv fun s4 I4=>⟨σ,H4,I4,q3⟩
end
theorem JX {P:Program} {w:World} {H:Hp} (h:Heap) (hb:sysModules < h.objs.size):ObjOk P w H (h.push { cls:=.type "dict",data:=.dict #[] }) h.objs.size (.dK []) :=
 ⟨Nat.zero_le _,beq_eq_false_iff_ne.mpr (Ne.symm (Nat.ne_of_lt hb)),[],.nil,Heap.DictOf.new h⟩
noncomputable def jx:TE:=fun _ H Q=>∀p,H p=none->Q (.ref p) (upd H p (.dK []))
section
variable {X:Cx} {pos:Pos}
theorem JZ:PE X (.Dict [] [] pos) jx:=fun pins s σ H Q I h =>
 wpAny_Dict_empty ⟨.ref s.heap.objs.size,_,I.laid (a:=s.heap.objs.size) (o:=.dK []) (t':=s.toks) (fun _ _ q=>Heap.get?_push_of_some _ q) (Nat.le_refl _) (JX s.heap I.big),rfl,h _ (I.hok.fresh (Nat.le_refl _))⟩
end
end L2
namespace DL
open PySem PySem.Spec PyProof.Rows L2
abbrev St:=L2.St
inductive D where
 | non
 | bl (b:Bool)
 | int (i:Int)
 | str (x:Str)
 | tup (ds:List D)
 | lst (ds:List D)
 | exc (c:Str)
 | excf (c f:Str) (d:D)
 | dct
 | obj (c:Str) (fs:List Str) (ds:List D)
 | dic (ks:List Str) (ds:List D)
 | adr (a:Addr)
structure Exn where
 cls:Str
 pay:Option (Str×D):=none
inductive Res (α:Type) where
 | stuck
 | ok (a:α)
 | err (x:Exn)
noncomputable def Res.bind {α β:Type} (r:Res α) (f:α->Res β):Res β:=match r with
 | .stuck=>.stuck
 | .ok a=>f a
 | .err x=>.err x
@[simp] theorem Res.bind_ok {α β:Type} (a:α) (f:α->Res β):(Res.ok a).bind f=f a:=rfl
@[simp] theorem Res.bind_stuck {α β:Type} (f:α->Res β):(Res.stuck).bind f=.stuck:=rfl
@[simp] theorem Res.bind_err {α β:Type} (x:Exn) (f:α->Res β):(Res.err x).bind f=.err x:=rfl
noncomputable def excAt (a C:Addr) (dd:Option Addr) (h:Heap):Prop:=∃o vs,h.get? a=some o/\o.cls=.ref C/\o.dict=dd/\o.data=.fields vs
section
variable (K:PySem.W.Frag)
mutual
noncomputable def Rep (H:Hp):D->V->Prop
 | .non,v=>v=.non
 | .bl b,v=>v=.bl b
 | .int i,v=>v=.int i
 | .adr a,v=>v=.ref a
 | .str x,v=>v=.str x
 | .tup ds,v=>∃a xs,v=.ref a/\SqT K H a xs/\Reps H ds xs
 | .lst ds,v=>∃a xs,v=.ref a/\SqL K H a xs/\Reps H ds xs
 | .exc c,v=>∃a C,v=.ref a/\PySem.W.nsIn K mainGlobals c=some (some (.ref C))/\H a=some (.ext (excAt a C none))
 | .excf c f d,v=>∃a C dx u,v=.ref a/\PySem.W.nsIn K mainGlobals c=some (some (.ref C))/\H a=some (.ext (excAt a C (some dx)))/\H dx=some (.xd [(f,u)])/\Rep H d u
 | .dct,v=>∃a,v=.ref a/\H a=some (.ext (PySem.W.KitAt a "dict"))
 | .obj c fs ds,v=>∃a C dx us,v=.ref a/\PySem.W.nsIn K mainGlobals c=some (some (.ref C))/\H a=some (.ins C dx (fs.zip us))/\fs.length=us.length/\Reps H ds us
 | .dic ks ds,v=>∃a us,v=.ref a/\H a=some (.dK ((ks.map Sum.inr).zip us))/\ks.length=us.length/\Reps H ds us
noncomputable def Reps (H:Hp):List D->List V->Prop
 | [],xs=>xs=[]
 | d :: ds,xs=>∃v vs,xs=v :: vs/\Rep H d v/\Reps H ds vs
end
end
theorem fr' {K:PySem.W.Frag} {H H':Hp} {a:Addr} {xs:List V} (e:Same H H') (h:SqT K H a xs):SqT K H' a xs:=by
 rcases h with (h | ⟨o,h⟩) | h
 ·exact .inl (.inl (e _ _ h))
 ·exact .inl (.inr ⟨o,e _ _ h⟩)
 ·exact .inr h
mutual
theorem Rep.mono {K:PySem.W.Frag} {H H':Hp} (e:Same H H'):∀{d:D} {v:V},Rep K H d v->Rep K H' d v
 | .non,_,h=>by rw [Rep] at h ⊢; exact h
 | .bl _,_,h=>by rw [Rep] at h ⊢; exact h
 | .int _,_,h=>by rw [Rep] at h ⊢; exact h
 | .adr _,_,h=>by rw [Rep] at h ⊢; exact h
 | .str _,_,h=>by rw [Rep] at h ⊢; exact h
 | .tup ds,_,h=>by
  rw [Rep] at h ⊢;obtain ⟨a,xs,e1,e2,e3⟩:=h;exact ⟨a,xs,e1,fr' e e2,Reps.mono e e3⟩
 | .lst ds,_,h=>by
  rw [Rep] at h ⊢;obtain ⟨a,xs,e1,e2,e3⟩:=h;exact ⟨a,xs,e1,e.seq e2,Reps.mono e e3⟩
 | .exc _,_,h=>by
  rw [Rep] at h ⊢;obtain ⟨a,C,e1,e2,e3⟩:=h;exact ⟨a,C,e1,e2,e _ _ e3⟩
 | .excf _ _ d,_,h=>by
  rw [Rep] at h ⊢;obtain ⟨a,C,dx,u,e1,e2,e3,e4,e5⟩:=h;exact ⟨a,C,dx,u,e1,e2,e _ _ e3,e _ _ e4,Rep.mono e e5⟩
 | .dct,_,h=>by
  rw [Rep] at h ⊢;obtain ⟨a,e1,e2⟩:=h;exact ⟨a,e1,e _ _ e2⟩
 | .obj _ _ ds,_,h=>by
  rw [Rep] at h ⊢;obtain ⟨a,C,dx,us,e1,e2,e3,e4,e5⟩:=h;exact ⟨a,C,dx,us,e1,e2,e _ _ e3,e4,Reps.mono e e5⟩
 | .dic _ ds,_,h=>by
  rw [Rep] at h ⊢;obtain ⟨a,us,e1,e3,e4,e5⟩:=h;exact ⟨a,us,e1,e _ _ e3,e4,Reps.mono e e5⟩
theorem Reps.mono {K:PySem.W.Frag} {H H':Hp} (e:Same H H'):∀{ds:List D} {vs:List V},Reps K H ds vs->Reps K H' ds vs
 | [],_,h=>by rw [Reps] at h ⊢; exact h
 | d :: ds,_,h=>by
  rw [Reps] at h ⊢;obtain ⟨v,vs,e1,e2,e3⟩:=h;exact ⟨v,vs,e1,Rep.mono e e2,Reps.mono e e3⟩
end
theorem Reps.nil {K:PySem.W.Frag} {H:Hp}:Reps K H [] []:=by rw [Reps]
theorem Reps.cons {K:PySem.W.Frag} {H:Hp} {d:D} {v:V} {ds:List D} {vs:List V} (h:Rep K H d v) (t:Reps K H ds vs):Reps K H (d :: ds) (v :: vs):=by
 rw [Reps]; exact ⟨v,vs,rfl,h,t⟩
theorem Reps.nil_of {K:PySem.W.Frag} {H:Hp} {xs:List V} (h:Reps K H [] xs):xs=[]:=by rw [Reps] at h; exact h
theorem Reps.cons_of {K:PySem.W.Frag} {H:Hp} {d:D} {ds:List D} {xs:List V} (h:Reps K H (d :: ds) xs):∃v vs,xs=v :: vs/\Rep K H d v/\Reps K H ds vs:=by rw [Reps] at h; exact h
theorem Reps.length {K:PySem.W.Frag} {H:Hp}:∀{ds:List D} {vs:List V},Reps K H ds vs->vs.length=ds.length
 | [],_,h=>by rw [h.nil_of]; rfl
 | d :: ds,_,h=>by
  obtain ⟨v,vs,rfl,_,t⟩:=h.cons_of;simp [Reps.length t]
theorem Reps.isEmpty {K:PySem.W.Frag} {H:Hp} {ds:List D} {vs:List V} (h:Reps K H ds vs):vs.isEmpty=ds.isEmpty:=by
 cases ds with
 | nil=>rw [h.nil_of]; rfl
 | cons d ds=>obtain ⟨v,vs,rfl,_,_⟩:=h.cons_of; rfl
theorem Reps.get {K:PySem.W.Frag} {H:Hp}:∀{ds:List D} {vs:List V} {i:Nat} {d:D},Reps K H ds vs->ds[i]? = some d->∃v,vs[i]? = some v/\Rep K H d v
 | [],_,i,d,h,e=>by simp at e
 | d' :: ds,_,0,d,h,e=>by
  obtain ⟨v,vs,rfl,r,t⟩:=h.cons_of;simp at e; subst e;exact ⟨v,by simp,r⟩
 | d' :: ds,_,i + 1,d,h,e=>by
  obtain ⟨v,vs,rfl,r,t⟩:=h.cons_of;simp at e;obtain ⟨u,e1,e2⟩:=Reps.get t e;exact ⟨u,by simpa using e1,e2⟩
theorem Reps.get' {K:PySem.W.Frag} {H:Hp}:∀{ds:List D} {vs:List V} {i:Nat} {v:V},Reps K H ds vs->vs[i]? = some v->∃d,ds[i]? = some d/\Rep K H d v
 | [],_,i,v,h,e=>by rw [h.nil_of] at e; simp at e
 | d' :: ds,_,0,v,h,e=>by
  obtain ⟨v',vs,rfl,r,t⟩:=h.cons_of;simp at e; subst e;exact ⟨d',by simp,r⟩
 | d' :: ds,_,i + 1,v,h,e=>by
  obtain ⟨v',vs,rfl,r,t⟩:=h.cons_of;simp at e;obtain ⟨u,e1,e2⟩:=Reps.get' t e;exact ⟨u,by simpa using e1,e2⟩
theorem Reps.append {K:PySem.W.Frag} {H:Hp}:∀{ds es:List D} {vs ws:List V},Reps K H ds vs->Reps K H es ws->Reps K H (ds ++ es) (vs ++ ws)
 | [],_,_,_,h,t=>by rw [h.nil_of]; exact t
 | d :: ds,_,_,_,h,t=>by
  obtain ⟨v,vs,rfl,r,q⟩:=h.cons_of;exact Reps.cons r (Reps.append q t)
theorem Reps.take {K:PySem.W.Frag} {H:Hp}:∀(n:Nat) {ds:List D} {vs:List V},Reps K H ds vs->Reps K H (ds.take n) (vs.take n)
 | 0,_,_,_=>by simpa using Reps.nil
 | n + 1,[],_,h=>by rw [h.nil_of]; simpa using Reps.nil
 | n + 1,d :: ds,_,h=>by
  obtain ⟨v,vs,rfl,r,q⟩:=h.cons_of;simpa using Reps.cons r (Reps.take n q)
theorem Reps.drop {K:PySem.W.Frag} {H:Hp}:∀(n:Nat) {ds:List D} {vs:List V},Reps K H ds vs->Reps K H (ds.drop n) (vs.drop n)
 | 0,_,_,h=>by simpa using h
 | n + 1,[],_,h=>by rw [h.nil_of]; simpa using Reps.nil
 | n + 1,d :: ds,_,h=>by
  obtain ⟨v,vs,rfl,r,q⟩:=h.cons_of;simpa using Reps.drop n q
inductive SV where
 | val (d:D)
 | arg (d:D)
 | own (ds:List D)
abbrev DS:=List (Option SV)
noncomputable def SV.view:SV->D
 | .val d=>d
 | .arg d=>d
 | .own ds=>.lst ds
noncomputable def vz (K:PySem.W.Frag) (G H:Hp):SV->V->Prop
 | .val d,v=>Rep K H d v
 | .arg d,v=>Rep K G d v
 | .own ds,v=>∃a xs,v=.ref a/\H a=some (.lst xs)/\Reps K H ds xs/\G a=none
structure RepSt (K:PySem.W.Frag) (G H:Hp) (σ:St) (δ:DS):Prop where
 same:Same G H
 len:σ.length=δ.length
 at_:∀(i:Nat) (sv:SV),δ[i]? = some (some sv)->∃v,σ[i]? = some (some v)/\vz K G H sv v
 sep:∀(i j:Nat) (ds es:List D) (v:V),i≠j->δ[i]? = some (some (.own ds))->δ[j]? = some (some (.own es))->σ[i]? = some (some v)->σ[j]?≠some (some v)
structure TK (H H':Hp):Prop where
 tup:∀b xs,H b=some (.tup xs)->H' b=some (.tup xs)
 frz:∀b o u,H b=some (.frz o u)->H' b=some (.frz o u)
 trk:∀b,H' b=none->H b=none
theorem _root_.L2.Same.tk {H H':Hp} (e:Same H H'):TK H H':=⟨fun b xs h=>e b _ h,fun b o u h=>e b _ h,fun b h=>e.free h⟩
theorem TK.refl (H:Hp):TK H H:=⟨fun _ _ h=>h,fun _ _ _ h=>h,fun _ h=>h⟩
theorem TK.trans {H H1 H2:Hp} (a:TK H H1) (b:TK H1 H2):TK H H2:=⟨fun c xs h=>b.tup c xs (a.tup c xs h),fun c o u h=>b.frz c o u (a.frz c o u h),fun c h=>a.trk c (b.trk c h)⟩
theorem RepSt.mono {K:PySem.W.Frag} {G H H':Hp} {σ:St} {δ:DS} (R:RepSt K G H σ δ) (e:Same H H'):RepSt K G H' σ δ where
 same:=R.same.trans e
 len:=R.len
 at_:=fun i sv h=>by
  obtain ⟨v,e1,e2⟩:=R.at_ i sv h;refine ⟨v,e1,?_⟩
  cases sv with
  | val d=>exact Rep.mono e e2
  | arg d=>exact e2
  | own ds =>
   obtain ⟨a,xs,q1,q2,q3,q4⟩:=e2;exact ⟨a,xs,q1,e _ _ q2,q3.mono e,q4⟩
 sep:=R.sep
theorem RepSt.view {K:PySem.W.Frag} {G H:Hp} {σ:St} {δ:DS} (R:RepSt K G H σ δ) {i:Nat} {sv:SV} (h:δ[i]? = some (some sv)):∃v,σ[i]? = some (some v)/\Rep K H sv.view v:=by
 obtain ⟨v,e1,e2⟩:=R.at_ i sv h;refine ⟨v,e1,?_⟩
 cases sv with
 | val d=>exact e2
 | arg d=>exact Rep.mono R.same e2
 | own ds =>
  obtain ⟨a,xs,rfl,q2,q3,q4⟩:=e2;show Rep K H (.lst ds) _;rw [Rep];exact ⟨a,xs,rfl,SqL.of q2,q3⟩
theorem RepSt.set {K:PySem.W.Frag} {G H:Hp} {σ:St} {δ:DS} (R:RepSt K G H σ δ) (i:Nat) {d:D} {v:V} (h:Rep K H d v):RepSt K G H (σ.set i (some v)) (δ.set i (some (.val d))) where
 same:=R.same
 len:=by simpa using R.len
 at_:=fun j sv e=>by
  by_cases hj:i=j
  ·subst hj;have hl:i < δ.length:=by
    rw [List.getElem?_set] at e
    by_cases q:i < δ.length
    ·exact q
    ·simp [q] at e
   rw [List.getElem?_set_self hl] at e
   cases e
   exact ⟨v,by rw [List.getElem?_set_self (by rw [R.len]; exact hl)],h⟩
  ·rw [List.getElem?_set_ne hj] at e;obtain ⟨u,e1,e2⟩:=R.at_ j sv e;exact ⟨u,by rw [List.getElem?_set_ne hj]; exact e1,e2⟩
 sep:=fun j k ds es u hjk e1 e2 e3=>by
  have n1:i≠j:=by
   rintro rfl
   rw [List.getElem?_set] at e1
   split at e1
   ·split at e1 <;> cases e1
   ·omega
  have n2:i≠k:=by
   rintro rfl
   rw [List.getElem?_set] at e2
   split at e2
   ·split at e2 <;> cases e2
   ·omega
  rw [List.getElem?_set_ne n1] at e1 e3;rw [List.getElem?_set_ne n2] at e2;rw [List.getElem?_set_ne n2];exact R.sep j k ds es u hjk e1 e2 e3
theorem RepSt.setOwn {K:PySem.W.Frag} {G H H':Hp} {σ:St} {δ:DS} (R:RepSt K G H σ δ) (e:Same H H') (i:Nat) {ds:List D} {a:Addr} {xs:List V} (hn:H a=none) (h:H' a=some (.lst xs)) (r:Reps K H' ds xs) :
  RepSt K G H' (σ.set i (some (.ref a))) (δ.set i (some (.own ds))) where
 same:=R.same.trans e
 len:=by simpa using R.len
 at_:=fun j sv q=>by
  have R':=R.mono e
  by_cases hj:i=j
  ·subst hj;have hl:i < δ.length:=by
    rw [List.getElem?_set] at q
    by_cases z:i < δ.length
    ·exact z
    ·simp [z] at q
   rw [List.getElem?_set_self hl] at q
   cases q
   exact ⟨.ref a,by rw [List.getElem?_set_self (by rw [R.len]; exact hl)],a,xs,rfl,h,r,R.same.free hn⟩
  ·rw [List.getElem?_set_ne hj] at q;obtain ⟨u,e1,e2⟩:=R'.at_ j sv q;exact ⟨u,by rw [List.getElem?_set_ne hj]; exact e1,e2⟩
 sep:=fun j k ds' es u hjk e1 e2 e3=>by
  have old:∀(m:Nat) (fs:List D) (z:V),δ[m]? = some (some (.own fs))->σ[m]? = some (some z)->z≠.ref a:=fun m fs z q1 q2 q3=>by
   obtain ⟨v,w1,b,ys,w2,w3,_⟩:=R.at_ m _ q1;rw [q2] at w1
   cases w1
   rw [q3] at w2
   cases w2
   rw [hn] at w3
   cases w3
  by_cases hj:i=j
  ·subst hj;have nk:i≠k:=hjk;rw [List.getElem?_set_ne nk] at e2;rw [List.getElem?_set_ne nk];intro q;have ev:u=.ref a:=by
    rw [List.getElem?_set] at e3
    split at e3
    ·split at e3
     ·cases e3; rfl
     ·cases e3
    ·omega
   exact old k es u e2 q ev
  ·rw [List.getElem?_set_ne hj] at e1 e3
   by_cases hk:i=k
   ·subst hk;intro q;have ev:u=.ref a:=by
     rw [List.getElem?_set] at q
     split at q
     ·split at q
      ·cases q; rfl
      ·cases q
     ·omega
    exact old j ds' u e1 e3 ev
   ·rw [List.getElem?_set_ne hk] at e2;rw [List.getElem?_set_ne hk];exact R.sep j k ds' es u hjk e1 e2 e3
theorem obj_some {P:Program} {w:World} {H:Hp} {h:Heap} {a:Addr} {o:HO} (x:ObjOk P w H h a o):∃ob,h.get? a=some ob:=by
 cases o with
 | lst xs=>obtain ⟨_,_,_,_,e⟩:=x; exact ⟨_,e⟩
 | tup xs=>obtain ⟨_,_,_,o,e,_⟩:=x; exact ⟨o,e⟩
 | dK kvs=>obtain ⟨_,_,_,_,o,_,_,e,_⟩:=x; exact ⟨o,e⟩
 | dT kvs=>obtain ⟨_,_,_,_,o,_,_,e,_⟩:=x; exact ⟨o,e⟩
 | set S n=>obtain ⟨o,_,_,_,e,_⟩:=x; exact ⟨o,e⟩
 | ins C dx fs=>obtain ⟨_,_,_,e,_⟩:=x; exact ⟨_,e⟩
 | own y=>obtain ⟨o,e⟩:=x; exact ⟨o,e⟩
 | xd fs=>obtain ⟨_,⟨o,_,_,e,_⟩,_⟩:=x; exact ⟨o,e⟩
 | rng lo hi=>obtain ⟨_,_,_,e⟩:=x; exact ⟨_,e⟩
 | frz ob u=>obtain ⟨e,_⟩:=x; exact ⟨_,e⟩
 | tbl ps=>exact ⟨_,show h.get? a=some _ from x⟩
 | met f y=>exact ⟨_,show h.get? a=some _ from x⟩
 | ext φ=>obtain ⟨_,⟨o,e⟩,_⟩:=x; exact ⟨o,e⟩
noncomputable def dI (h:Heap) (e:Addr):Prop:=∀o vs,h.get? e=some o->o.data≠.fields vs
noncomputable def Back (H:Hp) (h h1:Heap):Prop:=∀e,H e=none->dI h1 e->dI h e
theorem Back.refl (H:Hp) (h:Heap):Back H h h:=fun _ _ q=>q
theorem Back.trans {H H1:Hp} {h h1 h2:Heap} (a:Back H h h1) (b:Back H1 h1 h2) (k:∀e,H e=none->dI h2 e->H1 e=none):Back H h h2:=fun e n q=>a e n (b e (k e n q) q)
noncomputable def Fly (h0:Heap) (H:Hp) (h:Heap) (e:Addr) (cls:Value×Option Addr):Prop :=
 dI h0 e/\H e=none/\∃oe vs a0,h.get? e=some oe/\(oe.cls=cls.1/\oe.dict=cls.2)/\oe.data=.fields vs/\vs[0]? = some a0 /\
  (vs[1]? = some .none\/∃T oT ts,vs[1]? = some (.ref T)/\dI h0 T/\H T=none/\T≠e/\h.get? T=some oT/\oT.data=.fields ts/\ts[3]? = some .none)
theorem Fly.back {h0 h1 h:Heap} {H0 H1 H:Hp} {e:Addr} {cls:Value×Option Addr} (f:Fly h1 H h e cls) (e1:TK H0 H1) (e2:TK H1 H) (b:Back H0 h0 h1):Fly h0 H h e cls:=by
 obtain ⟨n,he,oe,vs,a0,q1,q2,q3,q4,q5⟩:=f;refine ⟨b e (e1.trk e (e2.trk e he)) n,he,oe,vs,a0,q1,q2,q3,q4,?_⟩;rcases q5 with q5 | ⟨T,oT,ts,w1,w2,w3,w4⟩
 ·exact .inl q5
 ·exact .inr ⟨T,oT,ts,w1,b T (e1.trk T (e2.trk T w3)) w2,w3,w4⟩
noncomputable def vA (K:PySem.W.Frag) (H:Hp) (x:Exn) (dd:Option Addr):Prop:=match x.pay with
 | none=>dd=none
 | some (f,d)=>∃dx u,dd=some dx/\H dx=some (.xd [(f,u)])/\Rep K H d u
noncomputable def FlyX (K:PySem.W.Frag) (x:Exn) (h0:Heap) (H:Hp) (h:Heap) (e C:Addr):Prop:=∃dd,vA K H x dd/\Fly h0 H h e (.ref C,dd)
theorem FlyX.back {K:PySem.W.Frag} {x:Exn} {h0 h1 h:Heap} {H0 H1 H:Hp} {e C:Addr} (f:FlyX K x h1 H h e C) (e1:TK H0 H1) (e2:TK H1 H) (b:Back H0 h0 h1):FlyX K x h0 H h e C:=by
 obtain ⟨dd,p,f⟩:=f;exact ⟨dd,p,f.back e1 e2 b⟩
noncomputable def EPost (X:Cx) (pins:List (Addr×Obj)) (σ:St) (H:Hp) (r:Res D) (u:Value) (s1:Shared):Prop:=∃d v H1,r=.ok d/\Inv X pins σ H1 s1/\RelV v u/\Same H H1/\Rep X.K H1 d v
noncomputable def XPost {α:Type} (X:Cx) (pins:List (Addr×Obj)) (σ:St) (H:Hp) (h0:Heap) (r:Res α) (e:Value) (s1:Shared):Prop :=
 ∃x a C H1,r=.err x/\e=.ref a/\Inv X pins σ H1 s1/\Same H H1/\PySem.W.nsIn X.K mainGlobals x.cls=some (some (.ref C))/\FlyX X.K x h0 H1 s1.heap a C
theorem XPost.back {α β:Type} {X:Cx} {pins:List (Addr×Obj)} {σ:St} {H H1:Hp} {h h1:Heap} {r:Res α} {r':Res β} {e:Value} {s1:Shared} (p:XPost X pins σ H1 h1 r e s1) (e1:Same H H1) (b:Back H h h1) (hr:∀x,r=.err x->r'=.err x):XPost X pins σ H h r' e s1:=by
 obtain ⟨x,a,C,H2,q1,q2,q3,q4,q5,q6⟩:=p;exact ⟨x,a,C,H2,hr x q1,q2,q3,e1.trans q4,q5,q6.back e1.tk q4.tk b⟩
theorem XPost.same {α β:Type} {X:Cx} {pins:List (Addr×Obj)} {σ:St} {H:Hp} {h:Heap} {r:Res α} {r':Res β} {e:Value} {s1:Shared} (p:XPost X pins σ H h r e s1) (hr:∀x,r=.err x->r'=.err x):XPost X pins σ H h r' e s1:=p.back (Same.refl H) (Back.refl H h) hr
theorem XPost.none {α:Type} {X:Cx} {pins:List (Addr×Obj)} {σ:St} {H:Hp} {h0:Heap} {a:α} {e:Value} {s1:Shared} (p:XPost X pins σ H h0 (.ok a) e s1):False:=by
 obtain ⟨x,_,_,_,q,_⟩:=p; cases q
noncomputable def PD (X:Cx) (e:Expr) (f:DS->Res D):Prop :=
 ∀(pins:List (Addr×Obj)) (s:Shared) (σ:St) (G H:Hp) (δ:DS),Inv X pins σ H s->RepSt X.K G H σ δ->f δ≠.stuck ->
  wpAny (model X.prog X.w) X.A (eval e X.env) (EPost X pins σ H (f δ)) (XPost X pins σ H s.heap (f δ)) s
open Classical in
noncomputable def f9 (X:Cx) (H:Hp) (h:Heap):List (Addr×Obj) :=
 (List.range h.objs.size).filterMap fun a=>(h.get? a).bind fun o=>if H a=none/\a≠X.env.locals/\a∉X.fs/\(∀v,o.data≠.cell v) then some (a,o) else none
theorem J0 {X:Cx} {H:Hp} {h:Heap} {p:Addr×Obj} (hp:p∈f9 X H h):h.get? p.1=some p.2/\H p.1=none/\p.1≠X.env.locals/\p.1∉X.fs/\∀v,p.2.data≠.cell v:=by
 obtain ⟨a,_,e⟩:=List.mem_filterMap.mp hp
 cases q:h.get? a with
 | none=>rw [q] at e; cases e
 | some o =>
  rw [q] at e;simp only [Option.bind_some] at e
  split at e
  ·rename_i c
   cases e
   exact ⟨q,c⟩
  ·cases e
theorem J1 {X:Cx} {H:Hp} {h:Heap} {a:Addr} {o:Obj} (e:h.get? a=some o) (c:H a=none/\a≠X.env.locals/\a∉X.fs/\∀v,o.data≠.cell v):(a,o)∈f9 X H h:=by
 refine List.mem_filterMap.mpr ⟨a,List.mem_range.mpr (Heap.lt_size e),?_⟩;rw [e];simp only [Option.bind_some];rw [if_pos c]
section
variable {X:Cx} {pins:List (Addr×Obj)} {s:Shared} {σ:St} {G H:Hp} {δ:DS}
theorem _root_.L2.Inv.all (I:Inv X pins σ H s):Inv X (pins ++ f9 X H s.heap) σ H s :=
 I.pins_of fun p hp=>(List.mem_append.mp hp).elim (fun z=>I.pin p (List.mem_append_right _ z)) J0
theorem _root_.L2.Inv.locals_dict (I:Inv X pins σ H s) {o:Obj} {vs:Array Value} (e:s.heap.get? X.env.locals=some o):o.data≠.fields vs:=by
 obtain ⟨m,⟨o',es,ep,ho,hd,_⟩,_⟩:=I.loc;rw [e] at ho; cases ho;rw [hd]; intro z; cases z
theorem _root_.L2.Inv.fs_rec (I:Inv X pins σ H s) {b:Addr} (hb:b∈X.fs) {o:Obj} {vs:Array Value} (e:s.heap.get? b=some o):o.data≠.fields vs:=by
 obtain ⟨_,o',ho,hd⟩:=I.funs.mem hb;rw [e] at ho; cases ho;exact hd vs
theorem _root_.L2.Inv.backTo {σ1:St} {H1:Hp} {s1:Shared} (I:Inv X pins σ H s) (J:Inv X (pins ++ f9 X H s.heap) σ1 H1 s1):Back H s.heap s1.heap:=by
 intro e n q o vs ho hd;have hm:(e,o)∈f9 X H s.heap:=J1 ho ⟨n,fun z=>by subst z; exact I.locals_dict ho hd,fun z=>I.fs_rec z ho hd,fun v z=>by rw [hd] at z; cases z⟩;exact q o vs (J.pin (e,o) (List.mem_append_right _ (List.mem_append_right _ hm))).1 hd
theorem PD.use {e:Expr} {f:DS->Res D} (h:PD X e f) (I:Inv X pins σ H s) (R:RepSt X.K G H σ δ) (hs:f δ≠.stuck) {P E:Value->Shared->Prop}
  (k:∀d u s1 v H1,f δ=.ok d->Inv X pins σ H1 s1->RelV v u->Same H H1->Back H s.heap s1.heap->Rep X.K H1 d v->P u s1)
  (kx:∀e s1,XPost X pins σ H s.heap (f δ) e s1->E e s1):wpAny (model X.prog X.w) X.A (eval e X.env) P E s:=by
 refine wpAny_mono (h (pins ++ f9 X H s.heap) s σ G H δ I.all R hs) (fun u s1 ⟨d,v,H1,q1,q2,q3,q4,q5⟩=>k d u s1 v H1 q1 q2.unpinned q3 q4 (I.backTo q2) q5) fun e s1 ⟨x,a,C,H1,q1,q2,q3,q4,q5,q6⟩=>kx e s1 ⟨x,a,C,H1,q1,q2,q3.unpinned,q4,q5,q6⟩
end
section
variable {X:Cx} {e:Expr} {pos:Pos}
theorem vB {d:D} {v:V} (h:∀E,PE (X.wish E) e (tC v)) (hr:∀H,Rep X.K H d v):PD X e (fun _=>.ok d):=by
 intro pins s σ G H δ I R _;refine wpAny_mono (h (fun _ _=>False) pins s σ H (fun v' H'=>v'=v/\H'=H) (I.wish _) ⟨rfl,rfl⟩) (fun u s1 q=>?_) fun _ _ z=>z.elim;obtain ⟨v',H',I',r',e1,e2⟩:=q;subst e1 e2;exact ⟨d,v',H',rfl,I'.unwish,r',Same.refl _,hr _⟩
theorem aV {i:Int} {j}:PD X (.Constant (.int i) j pos) (fun _=>.ok (.int i)):=vB (fun _=>HS) (fun _=>by rw [Rep])
theorem lK {k:Bool} {j}:PD X (.Constant (.bool k) j pos) (fun _=>.ok (.bl k)):=vB (fun _=>HW) (fun _=>by rw [Rep])
theorem jy {j}:PD X (.Constant .none j pos) (fun _=>.ok .non):=vB (fun _=>HX) (fun _=>by rw [Rep])
theorem eY {x:Str} {j}:PD X (.Constant (.str x) j pos) (fun _=>.ok (.str x)):=vB (fun _=>Dc) (fun _=>by rw [Rep])
theorem Ar {x:Str} {d:D} {v:V} {u:Value} (hg:Gl X x) (hm:X.mg x=some u) (r:RelV v u) (hr:∀H,Rep X.K H d v) (hd:(x == ("__debug__" : Str))=false:=by decide):PD X (.Name x pos) (fun _=>.ok d) :=
 vB (fun _=>HY hg hm r hd) hr
noncomputable def aj (i:Nat):DS->Res D:=fun δ=>match δ[i]? with | some (some sv)=>.ok sv.view | _=>.stuck
theorem au (i:Nat) {x:Str} (hN:X.N[i]? = some x:=by rfl) (hv:qz X.env.scope x:=by first | exact Or.inl rfl | exact Or.inr (Or.inl rfl) | exact Or.inr (Or.inr rfl)) (hd:(x == ("__debug__" : Str))=false:=by decide)
  (hcd:(x == ("__classdict__" : Str))=false:=by decide):PD X (.Name x pos) (aj i):=by
 intro pins s σ G H δ I R hs
 try dsimp only at hs ⊢
 unfold aj at hs ⊢
 split at hs
 ·rename_i sv e;obtain ⟨v,e1,e2⟩:=R.view e;refine wpAny_mono (yN (X:=X.wish fun _ _=>False) hN hv hd hcd pins s σ H (fun v' H'=>v'=v/\H'=H) (I.wish _) ⟨v,e1,rfl,rfl⟩) (fun u s1 q=>?_) fun _ _ z=>z.elim;obtain ⟨v',H',I',r',e3,e4⟩:=q;subst e3 e4;exact ⟨_,v',H',rfl,I'.unwish,r',Same.refl _,e2⟩
 ·exact (hs rfl).elim
end
noncomputable def OpD (X:Cx) (f:Value->Value->Sem Value) (g:D->D->Res D):Prop :=
 ∀(E:Value->Shared->Prop) (pins:List (Addr×Obj)) (s:Shared) (σ:St) (H:Hp) (x y:V) (v u:Value) (a b d:D),Inv X pins σ H s->RelV x v->RelV y u->Rep X.K H a x->Rep X.K H b y->g a b=.ok d ->
  wpAny (model X.prog X.w) X.A (f v u) (EPost X pins σ H (.ok d)) E s
noncomputable def aJ {α:Type} (r:Res α):Prop:=∀x,r≠.err x
noncomputable def two (fa fb:DS->Res D) (g:D->D->Res D):DS->Res D:=fun δ=>(fa δ).bind fun x=>(fb δ).bind fun y=>g x y
theorem J2 {fa fb:DS->Res D} {g:D->D->Res D} {δ:DS} (h:two fa fb g δ≠.stuck):fa δ≠.stuck:=fun q=>h (by unfold two; rw [q]; rfl)
theorem J5 {fa fb:DS->Res D} {g:D->D->Res D} {δ:DS} {x:D} (h:two fa fb g δ≠.stuck) (q1:fa δ=.ok x):fb δ≠.stuck:=fun q=>h (by unfold two; rw [q1,Res.bind_ok,q]; rfl)
theorem J6 {fa fb:DS->Res D} {g:D->D->Res D} {δ:DS} {x y:D} (q1:fa δ=.ok x) (q2:fb δ=.ok y):two fa fb g δ=g x y:=by unfold two; rw [q1,Res.bind_ok,q2,Res.bind_ok]
theorem J7 {fa fb:DS->Res D} {g:D->D->Res D} {δ:DS} {x:Exn} (q1:fa δ=.err x):two fa fb g δ=.err x:=by unfold two; rw [q1]; rfl
theorem J8 {fa fb:DS->Res D} {g:D->D->Res D} {δ:DS} {x:D} {y:Exn} (q1:fa δ=.ok x) (q2:fb δ=.err y):two fa fb g δ=.err y:=by unfold two; rw [q1,Res.bind_ok,q2]; rfl
section
variable {X:Cx} {a b:Expr} {fa fb:DS->Res D} {pos:Pos}
theorem Ea {g:D->D->Res D} {pins:List (Addr×Obj)} {s:Shared} {σ:St} {G H:Hp} {δ:DS} (ha:PD X a fa) (hb:PD X b fb) (I:Inv X pins σ H s) (R:RepSt X.K G H σ δ) (hs:two fa fb g δ≠.stuck) {P:Value->Value->Shared->Prop} {E:Value->Shared->Prop}
  (k:∀x y v u s2 vx vy H2,two fa fb g δ=g x y->Inv X pins σ H2 s2->RelV vx v->RelV vy u->Same H H2->Rep X.K H2 x vx->Rep X.K H2 y vy->P v u s2)
  (kx:∀e s1,XPost X pins σ H s.heap (two fa fb g δ) e s1->E e s1) :
  wpAny (model X.prog X.w) X.A (eval a X.env) (fun v s1=>wpAny (model X.prog X.w) X.A (eval b X.env) (fun u s2=>P v u s2) E s1) E s:=by
 refine ha.use I R (J2 hs) (fun x u s1 v H1 qa I1 r1 e1 b1 p1=>?_) fun e s1 q=>kx e s1 (q.same fun x z=>J7 z);refine hb.use I1 (R.mono e1) (J5 hs qa) (fun y u2 s2 v2 H2 qb I2 r2 e2 b2 p2=>?_) fun e s2 q=>kx e s2 (q.back e1 b1 fun x z=>J8 qa z);exact k x y u u2 s2 v v2 H2 (J6 qa qb) I2 r1 r2 (e1.trans e2) (p1.mono e2) p2
theorem EPost.from {X:Cx} {pins:List (Addr×Obj)} {σ:St} {H H1:Hp} {r r':Res D} {u:Value} {s1:Shared} (p:EPost X pins σ H1 r u s1) (e:Same H H1) (q:r=r'):EPost X pins σ H r' u s1:=by
 obtain ⟨d,v,H2,q1,q2,q3,q4,q5⟩:=p;exact ⟨d,v,H2,q ▸ q1,q2,q3,e.trans q4,q5⟩
theorem Av {g:D->D->Res D} {pins:List (Addr×Obj)} {s:Shared} {σ:St} {G H:Hp} {δ:DS} {f:Value->Value->Sem Value} (ho:OpD X f g) (hg:∀x y,aJ (g x y)) (ha:PD X a fa) (hb:PD X b fb) (I:Inv X pins σ H s) (R:RepSt X.K G H σ δ) (hs:two fa fb g δ≠.stuck) {E:Value->Shared->Prop}
  (kx:∀e s1,XPost X pins σ H s.heap (two fa fb g δ) e s1->E e s1) :
  wpAny (model X.prog X.w) X.A (eval a X.env) (fun v s1=>wpAny (model X.prog X.w) X.A (eval b X.env) (fun u s2=>wpAny (model X.prog X.w) X.A (f v u) (EPost X pins σ H (two fa fb g δ)) E s2) E s1) E s:=by
 refine Ea ha hb I R hs (fun x y v u s2 vx vy H2 q I2 r1 r2 e2 p1 p2=>?_) kx
 cases qg:g x y with
 | stuck=>exact (hs (q.trans qg)).elim
 | err z=>exact (hg x y z qg).elim
 | ok d=>exact cN (ho E pins s2 σ H2 vx vy v u x y d I2 r1 r2 p1 p2 qg) fun w s3 p=>p.from e2 (qg.symm.trans q.symm)
theorem cC {op:Operator} {g:D->D->Res D} (ho:OpD X (binaryOp op) g) (hg:∀x y,aJ (g x y)) (ha:PD X a fa) (hb:PD X b fb):PD X (.BinOp a op b pos) (two fa fb g) :=
 fun pins s σ G H δ I R hs=>wpAny_BinOp (Av ho hg ha hb I R hs fun _ _ q=>q)
theorem rF {op:CmpOp} {g:D->D->Res D} (ho:OpD X (compareOp op) g) (hg:∀x y,aJ (g x y)) (ha:PD X a fa) (hb:PD X b fb) (hm:behindInMarks op b=false):PD X (.Compare a [op] [b] pos) (two fa fb g) :=
 fun pins s σ G H δ I R hs=>wpAny_Compare1 (Av ho hg ha hb I R hs fun _ _ q=>q) hm
theorem OpD.of {f:Value->Value->Sem Value} {r:R2} {g:D->D->Res D} (ho:∀E,OpR (X.wish E) f r)
  (h:∀(H:Hp) (x y:V) (a b d:D) (Q:VK),Rep X.K H a x->Rep X.K H b y->g a b=.ok d->(∀z H',Same H H'->Rep X.K H' d z->Q z H')->r x y H Q):OpD X f g :=
 fun E pins s σ H x y v u a b d I r1 r2 p1 p2 e=>cN (ho E pins s σ H x y v u (fun z H'=>Same H H'/\Rep X.K H' d z) (I.wish _) r1 r2 (h H x y a b d _ p1 p2 e fun z H' a b=>⟨a,b⟩)) fun w s1 ⟨z,H1,I1,r3,e1,p3⟩=>⟨d,z,H1,rfl,I1.unwish,r3,e1,p3⟩
end
noncomputable def jQ (X:Cx) (pins:List (Addr×Obj)) (σ:St) (H:Hp) (r:Res Bool) (u:Bool) (s1:Shared):Prop:=∃H1,r=.ok u/\Inv X pins σ H1 s1/\Same H H1
noncomputable def PTD (X:Cx) (e:Expr) (f:DS->Res Bool):Prop :=
 ∀(pins:List (Addr×Obj)) (s:Shared) (σ:St) (G H:Hp) (δ:DS),Inv X pins σ H s->RepSt X.K G H σ δ->f δ≠.stuck ->
  wpAny (model X.prog X.w) X.A (isTrue e X.env (eval e X.env)) (jQ X pins σ H (f δ)) (XPost X pins σ H s.heap (f δ)) s
noncomputable def PWD (X:Cx) (e:Expr) (f:DS->Res Bool):Prop :=
 ∀(wh:Sem Value) (pins:List (Addr×Obj)) (s:Shared) (σ:St) (G H:Hp) (δ:DS),Inv X pins σ H s->RepSt X.K G H σ δ->f δ≠.stuck ->
  wpAny (model X.prog X.w) X.A (isTrue e X.env wh) (jQ X pins σ H (f δ)) (XPost X pins σ H s.heap (f δ)) s
theorem PWD.pt {X:Cx} {e:Expr} {f:DS->Res Bool} (h:PWD X e f):PTD X e f:=h _
section
variable {X:Cx} {pins:List (Addr×Obj)} {s:Shared} {σ:St} {G H:Hp} {δ:DS}
theorem Aw {t:Sem Bool} {f:DS->Res Bool} (h:∀pins,Inv X pins σ H s->wpAny (model X.prog X.w) X.A t (jQ X pins σ H (f δ)) (XPost X pins σ H s.heap (f δ)) s) (I:Inv X pins σ H s) {P:Bool->Shared->Prop} {E:Value->Shared->Prop}
  (k:∀d s1 H1,f δ=.ok d->Inv X pins σ H1 s1->Same H H1->Back H s.heap s1.heap->P d s1) (kx:∀e s1,XPost X pins σ H s.heap (f δ) e s1->E e s1):wpAny (model X.prog X.w) X.A t P E s:=by
 refine wpAny_mono (h (pins ++ f9 X H s.heap) I.all) (fun d s1 ⟨H1,q1,q2,q3⟩=>k d s1 H1 q1 q2.unpinned q3 (I.backTo q2)) fun e s1 ⟨x,a,C,H1,q1,q2,q3,q4,q5,q6⟩=>kx e s1 ⟨x,a,C,H1,q1,q2,q3.unpinned,q4,q5,q6⟩
theorem PTD.use {e:Expr} {f:DS->Res Bool} (h:PTD X e f) (I:Inv X pins σ H s) (R:RepSt X.K G H σ δ) (hs:f δ≠.stuck) {P:Bool->Shared->Prop} {E:Value->Shared->Prop}
  (k:∀d s1 H1,f δ=.ok d->Inv X pins σ H1 s1->Same H H1->Back H s.heap s1.heap->P d s1) (kx:∀e s1,XPost X pins σ H s.heap (f δ) e s1->E e s1):wpAny (model X.prog X.w) X.A (isTrue e X.env (eval e X.env)) P E s :=
 Aw (f:=f) (δ:=δ) (fun pins I=>h pins s σ G H δ I R hs) I k kx
theorem PWD.use {e:Expr} {f:DS->Res Bool} (h:PWD X e f) (wh:Sem Value) (I:Inv X pins σ H s) (R:RepSt X.K G H σ δ) (hs:f δ≠.stuck) {P:Bool->Shared->Prop} {E:Value->Shared->Prop}
  (k:∀d s1 H1,f δ=.ok d->Inv X pins σ H1 s1->Same H H1->Back H s.heap s1.heap->P d s1) (kx:∀e s1,XPost X pins σ H s.heap (f δ) e s1->E e s1):wpAny (model X.prog X.w) X.A (isTrue e X.env wh) P E s :=
 Aw (f:=f) (δ:=δ) (fun pins I=>h wh pins s σ G H δ I R hs) I k kx
end
noncomputable def aR:D->Res Bool
 | .non=>.ok false
 | .bl b=>.ok b
 | .int i=>.ok (i != 0)
 | .str x=>if x.length<=sizeLine then .ok ((x.length:Int) != 0) else .stuck
 | .tup ds=>.ok (!ds.isEmpty)
 | .lst ds=>.ok (!ds.isEmpty)
 | _=>.stuck
noncomputable def aF:D->Res Bool
 | .bl b=>.ok b
 | _=>.stuck
theorem Eb {d:D} (h:aF d≠.stuck):∃b,d=.bl b:=by
 cases d with
 | bl b=>exact ⟨b,rfl⟩
 | _=>exact (h rfl).elim
theorem dF {α β:Type} {r:Res α} {f:α->Res β} (h:r.bind f≠.stuck):r≠.stuck:=fun q=>h (by rw [q]; rfl)
theorem dX {α β:Type} {r:Res α} {f:α->Res β} {a:α} (h:r.bind f≠.stuck) (e:r=.ok a):f a≠.stuck:=fun q=>h (by rw [e,Res.bind_ok,q])
theorem dU {α β:Type} {r:Res α} {f:α->Res β} {x:Exn} (e:r=.err x):r.bind f=.err x:=by rw [e]; rfl
section
variable {X:Cx} {a b:Expr} {rest:List Expr} {fa:DS->Res D} {ta tb:DS->Res Bool} {pos:Pos}
theorem dJ {op:CmpOp} {fb:DS->Res D} {g:D->D->Res D} (ho:OpD X (compareOp op) g) (hg:∀x y,aJ (g x y)) (ha:PD X a fa) (hb:PD X b fb) (hm:behindInMarks op b=false):PTD X (.Compare a [op] [b] pos) (fun δ=>(two fa fb g δ).bind aF):=by
 intro pins s σ G H δ I R hs
 try dsimp only at hs ⊢
 refine wpAny_isTrue_Compare1 (cN (Av ho hg ha hb I R (dF hs) (fun _ _ q=>q.same fun x z=>dU z)) fun v s1 h1=>cN h1 fun u s2 h2=>cN h2 fun c s3 ⟨d,x,H1,q1,I1,r1,e1,p1⟩=>?_) hm;obtain ⟨k,rfl⟩:=Eb (dX hs q1);rw [Rep] at p1;subst p1
 cases r1
 exact wpAny_truthy_bool ⟨H1,by rw [q1]; rfl,I1,e1⟩
theorem jb (ha:PD X a fa) (he:∀whole,isTrue a X.env whole=(do let v <- whole; standAt a.pos; holding [v] (truthy v)):=by intro _; rfl):PTD X a (fun δ=>(fa δ).bind aR):=by
 intro pins s σ G H δ I R hs
 try dsimp only at hs ⊢
 refine isTrue_plain (ha.use I R (dF hs) (fun d u s1 v H1 q I1 r1 e1 b1 p1=>?_) fun e s1 q=>q.same fun x z=>dU z) (he _);have hd:=dX hs q;refine wpAny_mono (Jc (X:=X.wish fun _ _=>False) pins s1 σ H1 v u (fun k H2=>aR d=.ok k/\H2=H1) (I1.wish _) r1 ?_) (fun k s2 ⟨H2,I2,q2,e2⟩=>⟨H2,by rw [q,Res.bind_ok]; exact q2,I2.unwish,by rw [e2]; exact e1⟩) fun _ _ z=>z.elim
 cases d with
 | non=>rw [Rep] at p1; subst p1; exact ⟨false,rfl,rfl,rfl⟩
 | bl b=>rw [Rep] at p1; subst p1; exact ⟨b,rfl,rfl,rfl⟩
 | int i=>rw [Rep] at p1; subst p1; exact ⟨_,rfl,rfl,rfl⟩
 | str x =>
  rw [Rep] at p1; subst p1
  by_cases hz:x.length<=sizeLine
  ·exact ⟨_,⟨hz,rfl⟩,by simp only [aR,if_pos hz],rfl⟩
  ·simp only [aR,if_neg hz] at hd; exact (hd rfl).elim
 | tup ds =>
  rw [Rep] at p1;obtain ⟨b,xs,rfl,w1,w2⟩:=p1;exact ⟨!ds.isEmpty,.inr (.inl ⟨xs,w1,by rw [w2.isEmpty]⟩),rfl,rfl⟩
 | lst ds =>
  rw [Rep] at p1;obtain ⟨b,xs,rfl,w1,w2⟩:=p1;exact ⟨!ds.isEmpty,.inl ⟨xs,w1,by rw [w2.isEmpty]⟩,rfl,rfl⟩
 | exc c=>exact (hd rfl).elim
 | excf c f d=>exact (hd rfl).elim
 | dct=>exact (hd rfl).elim
 | obj c fs ds=>exact (hd rfl).elim
 | dic c ds=>exact (hd rfl).elim
 | adr c=>exact (hd rfl).elim
theorem bs' (ha:PTD X a ta):PTD X (.UnaryOp .Not a pos) (fun δ=>(ta δ).bind fun c=>.ok (!c)):=by
 intro pins s σ G H δ I R hs
 try dsimp only at hs ⊢
 exact isTrue_not (ha.use I R (dF hs) (fun d s1 H1 q I1 e1 b1=>⟨H1,by rw [q]; rfl,I1,e1⟩) fun e s1 q=>q.same fun x z=>dU z)
noncomputable def kj (ta tb:DS->Res Bool):DS->Res Bool:=fun δ=>(ta δ).bind fun c=>if c=true then tb δ else .ok false
noncomputable def jR (ta tb:DS->Res Bool):DS->Res Bool:=fun δ=>(ta δ).bind fun c=>if c=true then .ok true else tb δ
theorem Ax (ha:PTD X a ta):PWD X (.BoolOp .And [a] pos) ta:=by
 intro wh pins s σ G H δ I R hs
 try dsimp only at hs ⊢
 refine isTrue_and (ha.use I R hs (fun c s1 H1 q I1 e1 b1=>?_) fun e s1 q=>q)
 cases c with
 | true=>exact isTrue_and_nil ⟨H1,q,I1,e1⟩
 | false=>exact ⟨H1,q,I1,e1⟩
theorem rG (ha:PTD X a ta):PWD X (.BoolOp .Or [a] pos) ta:=by
 intro wh pins s σ G H δ I R hs
 try dsimp only at hs ⊢
 refine isTrue_or (ha.use I R hs (fun c s1 H1 q I1 e1 b1=>?_) fun e s1 q=>q)
 cases c with
 | false=>exact isTrue_or_nil ⟨H1,q,I1,e1⟩
 | true=>exact ⟨H1,q,I1,e1⟩
theorem eS' (ha:PTD X a ta) (hb:PWD X (.BoolOp .And (b :: rest) pos) tb):PWD X (.BoolOp .And (a :: b :: rest) pos) (kj ta tb):=by
 intro wh pins s σ G H δ I R hs
 try dsimp only at hs ⊢
 have hs':(ta δ).bind (fun c=>if c=true then tb δ else .ok false)≠.stuck:=hs
 refine isTrue_and (ha.use I R (dF hs') (fun c s1 H1 q I1 e1 b1=>?_) fun e s1 q=>q.same fun x z=>dU z);have hc:=dX hs' q;have ev:kj ta tb δ=if c=true then tb δ else .ok false:=by unfold kj; rw [q]; rfl
 cases c with
 | false=>exact ⟨H1,ev,I1,e1⟩
 | true =>
  rw [if_pos rfl] at ev hc;exact hb.use wh I1 (R.mono e1) hc (fun d s2 H2 q2 I2 e2 b2=>⟨H2,ev.trans q2,I2,e1.trans e2⟩) fun e s2 q2=>q2.back e1 b1 fun x z=>ev.trans z
theorem oO (ha:PTD X a ta) (hb:PWD X (.BoolOp .Or (b :: rest) pos) tb):PWD X (.BoolOp .Or (a :: b :: rest) pos) (jR ta tb):=by
 intro wh pins s σ G H δ I R hs
 try dsimp only at hs ⊢
 have hs':(ta δ).bind (fun c=>if c=true then .ok true else tb δ)≠.stuck:=hs
 refine isTrue_or (ha.use I R (dF hs') (fun c s1 H1 q I1 e1 b1=>?_) fun e s1 q=>q.same fun x z=>dU z);have hc:=dX hs' q;have ev:jR ta tb δ=if c=true then .ok true else tb δ:=by unfold jR; rw [q]; rfl
 cases c with
 | true=>exact ⟨H1,ev,I1,e1⟩
 | false =>
  rw [if_neg Bool.false_ne_true] at ev hc;exact hb.use wh I1 (R.mono e1) hc (fun d s2 H2 q2 I2 e2 b2=>⟨H2,ev.trans q2,I2,e1.trans e2⟩) fun e s2 q2=>q2.back e1 b1 fun x z=>ev.trans z
noncomputable def yR (fa fb:DS->Res D):DS->Res D:=fun δ=>(fa δ).bind fun x=>(aF x).bind fun c=>if c=true then .ok (.bl true) else fb δ
theorem J9 {op} (h:PD X a fa):PD X (.BoolOp op [a] pos) fa:=fun pins s σ G H δ I R hs=>BoolOp_one (h pins s σ G H δ I R hs)
theorem J_ {fb:DS->Res D} (ha:PD X a fa) (hb:PD X (.BoolOp .Or (b :: rest) pos) fb):PD X (.BoolOp .Or (a :: b :: rest) pos) (yR fa fb):=by
 intro pins s σ G H δ I R hs
 try dsimp only at hs ⊢
 have hs':(fa δ).bind (fun x=>(aF x).bind fun c=>if c=true then .ok (.bl true) else fb δ)≠.stuck:=hs
 refine BoolOp_or (ha.use I R (dF hs') (fun d u s1 v H1 q I1 r1 e1 b1 p1=>?_) fun e s1 q=>q.same fun x z=>dU z);have h2:=dX hs' q;obtain ⟨k,rfl⟩:=Eb (dF h2);rw [Rep] at p1;subst p1
 cases r1
 have ev:yR fa fb δ=if k=true then .ok (.bl true) else fb δ:=by unfold yR; rw [q]; rfl
 refine wpAny_truthy_bool ?_
 cases k with
 | true=>exact ⟨_,.bl true,H1,ev,I1,rfl,e1,by rw [Rep]⟩
 | false =>
  rw [if_neg Bool.false_ne_true] at ev;exact hb.use I1 (R.mono e1) (fun z=>hs (ev.trans z)) (fun d2 u2 s2 v2 H2 q2 I2 r2 e2 b2 p2=>⟨d2,v2,H2,ev.trans q2,I2,r2,e1.trans e2,p2⟩) fun e s2 q2=>q2.back e1 b1 fun x z=>ev.trans z
noncomputable def qK (tc:DS->Res Bool) (fa fb:DS->Res D):DS->Res D:=fun δ=>(tc δ).bind fun c=>if c=true then fa δ else fb δ
theorem vC {c:Expr} {tc:DS->Res Bool} {fb:DS->Res D} (hc:PTD X c tc) (ha:PD X a fa) (hb:PD X b fb):PD X (.IfExp c a b pos) (qK tc fa fb):=by
 intro pins s σ G H δ I R hs
 try dsimp only at hs ⊢
 have hs':(tc δ).bind (fun c=>if c=true then fa δ else fb δ)≠.stuck:=hs
 refine wpAny_IfExp (hc.use I R (dF hs') (fun k s1 H1 q I1 e1 b1=>?_) fun e s1 q=>q.same fun x z=>dU z);have ev:qK tc fa fb δ=if k=true then fa δ else fb δ:=by unfold qK; rw [q]; rfl
 cases k with
 | true =>
  rw [if_pos rfl] at ev;exact ha.use I1 (R.mono e1) (fun z=>hs (ev.trans z)) (fun d2 u2 s2 v2 H2 q2 I2 r2 e2 b2 p2=>⟨d2,v2,H2,ev.trans q2,I2,r2,e1.trans e2,p2⟩) fun e s2 q2=>q2.back e1 b1 fun x z=>ev.trans z
 | false =>
  rw [if_neg Bool.false_ne_true] at ev;exact hb.use I1 (R.mono e1) (fun z=>hs (ev.trans z)) (fun d2 u2 s2 v2 H2 q2 I2 r2 e2 b2 p2=>⟨d2,v2,H2,ev.trans q2,I2,r2,e1.trans e2,p2⟩) fun e s2 q2=>q2.back e1 b1 fun x z=>ev.trans z
theorem Ka {op:UnaryOp} {g:D->Res D} (ho:∀(E:Value->Shared->Prop) (pins:List (Addr×Obj)) (s:Shared) (σ:St) (H:Hp) (x:V) (v:Value) (d r:D),Inv X pins σ H s->RelV x v->Rep X.K H d x->g d=.ok r->wpAny (model X.prog X.w) X.A (unaryOp op v) (EPost X pins σ H (.ok r)) E s)
  (hg:∀x,aJ (g x)) (ha:PD X a fa):PD X (.UnaryOp op a pos) (fun δ=>(fa δ).bind g):=by
 intro pins s σ G H δ I R hs
 try dsimp only at hs ⊢
 refine UnaryOp_ (ha.use I R (dF hs) (fun d u s1 v H1 q I1 r1 e1 b1 p1=>?_) fun e s1 q=>q.same fun x z=>dU z);have h2:=dX hs q
 cases qg:g d with
 | stuck=>exact (h2 qg).elim
 | err z=>exact (hg d z qg).elim
 | ok r=>exact cN (ho _ pins s1 σ H1 v u d r I1 r1 p1 qg) fun w s2 p=>p.from e1 (by rw [q,Res.bind_ok,qg])
end
end DL
namespace DL
open PySem PySem.Spec PyProof.Rows L2
noncomputable def bw (i:Int):Nat:=Builtin.Int.intBits i
noncomputable def aW:D->D->Res D
 | .int i,.int j=>.ok (.int (i + j))
 | .str x,.str y=>if x.length + y.length<=sizeLine then .ok (.str (x ++ y)) else .stuck
 | .tup xs,.tup ys=>if xs.length + ys.length<=sizeLine then .ok (.tup (xs ++ ys)) else .stuck
 | .lst xs,.lst ys=>if xs.length + ys.length<=sizeLine then .ok (.lst (xs ++ ys)) else .stuck
 | _,_=>.stuck
noncomputable def lO:D->D->Res D
 | .int i,.int j=>.ok (.int (i - j))
 | _,_=>.stuck
noncomputable def fj:D->D->Res D
 | .int i,.int j=>if (bw i<=2 ^ 20/\bw j<=2 ^ 20)\/bw i<=64\/bw j<=64 then .ok (.int (i * j)) else .stuck
 | _,_=>.stuck
noncomputable def bH:D->D->Res D
 | .int i,.int j=>if j≠0/\Builtin.divisionGoesByPylong i j=false then .ok (.int (Int.fdiv i j)) else .stuck
 | _,_=>.stuck
noncomputable def bK:D->D->Res D
 | .int i,.int j=>if j≠0 then .ok (.int (Int.fmod i j)) else .stuck
 | _,_=>.stuck
noncomputable def lQ:D->D->Res D
 | .int i,.int j=>if 0<=j/\j<=1000000/\i.natAbs < 2 ^ 64 then .ok (.int (i ^ j.toNat)) else .stuck
 | _,_=>.stuck
noncomputable def lR:D->D->Res D
 | .int i,.int j=>if 0<=j/\j<=1000000/\i.natAbs < 2 ^ 64 then .ok (.int (i * 2 ^ j.toNat)) else .stuck
 | _,_=>.stuck
noncomputable def dY (p:Int->Int->Bool):D->D->Res D
 | .int i,.int j=>.ok (.bl (p i j))
 | _,_=>.stuck
theorem as' {α:Type} {c:Prop} [Decidable c] {r r':Res α} (h:aJ r) (h':aJ r'):aJ (if c then r else r'):=by
 intro x; by_cases hc:c
 ·rw [if_pos hc]; exact h x
 ·rw [if_neg hc]; exact h' x
theorem cH {α:Type} {a:α}:aJ (Res.ok a):=fun _ h=>nomatch h
theorem bT {α:Type}:aJ (Res.stuck:Res α):=fun _ h=>nomatch h
theorem fQ (x y:D):aJ (aW x y):=by cases x <;> cases y <;> first | exact bT | exact cH | exact as' cH bT
theorem Kc (x y:D):aJ (lO x y):=by cases x <;> cases y <;> first | exact bT | exact cH | exact as' cH bT
theorem Ec (x y:D):aJ (fj x y):=by cases x <;> cases y <;> first | exact bT | exact cH | exact as' cH bT
theorem uD (x y:D):aJ (bH x y):=by cases x <;> cases y <;> first | exact bT | exact cH | exact as' cH bT
theorem pH (x y:D):aJ (bK x y):=by cases x <;> cases y <;> first | exact bT | exact cH | exact as' cH bT
theorem Kd (x y:D):aJ (lQ x y):=by cases x <;> cases y <;> first | exact bT | exact cH | exact as' cH bT
theorem Ke (x y:D):aJ (lR x y):=by cases x <;> cases y <;> first | exact bT | exact cH | exact as' cH bT
theorem cn' (p:Int->Int->Bool) (x y:D):aJ (dY p x y):=by cases x <;> cases y <;> first | exact bT | exact cH | exact as' cH bT
section
variable {X:Cx} {a b:Expr} {fa fb:DS->Res D} {pos:Pos}
theorem bY {K:PySem.W.Frag} {H:Hp} {i:Int} {v:V} (h:Rep K H (.int i) v):v=.int i:=by rw [Rep] at h; exact h
theorem cI {K:PySem.W.Frag} {H:Hp} {i:Str} {v:V} (h:Rep K H (.str i) v):v=.str i:=by rw [Rep] at h; exact h
theorem Ay {K:PySem.W.Frag} {H:Hp} {i:Bool} {v:V} (h:Rep K H (.bl i) v):v=.bl i:=by rw [Rep] at h; exact h
theorem cO {K:PySem.W.Frag} {H:Hp} {ds:List D} {v:V} (h:Rep K H (.tup ds) v):∃a xs,v=.ref a/\SqT K H a xs/\Reps K H ds xs:=by rw [Rep] at h; exact h
theorem cP {K:PySem.W.Frag} {H:Hp} {ds:List D} {v:V} (h:Rep K H (.lst ds) v):∃a xs,v=.ref a/\SqL K H a xs/\Reps K H ds xs:=by rw [Rep] at h; exact h
theorem iw {K:PySem.W.Frag} {H:Hp} {i:Int}:Rep K H (.int i) (.int i):=by rw [Rep]
theorem rH {K:PySem.W.Frag} {H:Hp} {i:Str}:Rep K H (.str i) (.str i):=by rw [Rep]
theorem km {K:PySem.W.Frag} {H:Hp} {i:Bool}:Rep K H (.bl i) (.bl i):=by rw [Rep]
theorem Az {K:PySem.W.Frag} {H:Hp}:Rep K H .non .non:=by rw [Rep]
theorem iJ {K:PySem.W.Frag} {H:Hp} {a:Addr} {xs:List V} {ds:List D} (h:SqT K H a xs) (r:Reps K H ds xs):Rep K H (.tup ds) (.ref a):=by rw [Rep]; exact ⟨a,xs,rfl,h,r⟩
theorem jT {K:PySem.W.Frag} {H:Hp} {a:Addr} {xs:List V} {ds:List D} (h:SqL K H a xs) (r:Reps K H ds xs):Rep K H (.lst ds) (.ref a):=by rw [Rep]; exact ⟨a,xs,rfl,h,r⟩
theorem gb {H:Hp} {p:Addr} (h:H p=none) (o:HO):Same H (upd H p o):=fun b u q=>by rw [aL (jP q h)]; exact q
theorem yS {f:Value->Value->Sem Value} {C:Int->Int->Prop} [∀i j,Decidable (C i j)] {h:Int->Int->D} {k:Int->Int->V} {g:D->D->Res D} (ho:∀E,OpR (X.wish E) f (rI C k)) (hk:∀H i j,Rep X.K H (h i j) (k i j))
  (hg:∀x y d,g x y=.ok d->∃i j,x=.int i/\y=.int j/\C i j/\d=h i j):OpD X f g :=
 .of ho fun H x y a b d Q p1 p2 e q=>by
  obtain ⟨i,j,rfl,rfl,c,rfl⟩:=hg a b d e;exact ⟨i,j,bY p1,bY p2,c,q _ H (Same.refl H) (hk H i j)⟩
theorem Ed {f:Value->Value->Sem Value} {h:Int->Int->D} {k:Int->Int->V} {g:D->D->Res D} (ho:∀E,OpR (X.wish E) f (pA k)) (hk:∀H i j,Rep X.K H (h i j) (k i j))
  (hg:∀x y d,g x y=.ok d->∃i j,x=.int i/\y=.int j/\d=h i j):OpD X f g :=
 .of ho fun H x y a b d Q p1 p2 e q=>by
  obtain ⟨i,j,rfl,rfl,rfl⟩:=hg a b d e;exact ⟨i,j,bY p1,bY p2,q _ H (Same.refl H) (hk H i j)⟩
theorem Kf:OpD X (binaryOp .Sub) lO:=Ed (fun _=>Iu) (fun _ _ _=>iw) fun x y d e=>by
 cases x <;> cases y <;> first | (simp [lO] at e; done) | (simp only [lO,Res.ok.injEq] at e; exact ⟨_,_,rfl,rfl,e.symm⟩)
theorem A_ {p:Int->Int->Bool} {op:CmpOp} (ho:∀E,OpR (X.wish E) (compareOp op) (pA fun i j=>.bl (p i j))):OpD X (compareOp op) (dY p):=Ed ho (fun _ _ _=>km) fun x y d e=>by
 cases x <;> cases y <;> first | (simp [dY] at e; done) | (simp only [dY,Res.ok.injEq] at e; exact ⟨_,_,rfl,rfl,e.symm⟩)
theorem Bb:OpD X (compareOp .Lt) (dY fun i j=>decide (i < j)):=A_ fun _=>IV
theorem Bc:OpD X (compareOp .Gt) (dY fun i j=>decide (j < i)):=A_ fun _=>mN'
theorem Ef:OpD X (compareOp .GtE) (dY fun i j=>decide (j<=i)):=A_ fun _=>IW
theorem ks':OpR X (binaryOp .Mult) (rI (fun i j=>(bw i<=2 ^ 20/\bw j<=2 ^ 20)\/bw i<=64\/bw j<=64) fun i j=>.int (i * j)):=uC fun _ _ _ _ _ _ _ hc q=>mul_int q (by
 rcases hc with hc | hc | hc
 ·exact PySem.IntMulOk.of_bits hc.1 hc.2
 ·exact PySem.IntMulOk.of_left hc
 ·exact PySem.IntMulOk.of_right hc)
theorem Kg:OpD X (binaryOp .Mult) fj:=yS (h:=fun i j=>.int (i * j)) (fun _=>ks') (fun _ _ _=>iw) fun x y d e=>by
 cases x <;> cases y <;> first | (simp [fj] at e; done) | skip
 rename_i i j;simp only [fj] at e
 split at e
 ·rename_i c; cases e; exact ⟨_,_,rfl,rfl,c,rfl⟩
 ·cases e
theorem Kh:OpR X (binaryOp .FloorDiv) (rI (fun i j=>j≠0/\Builtin.divisionGoesByPylong i j=false) fun i j=>.int (i.fdiv j)):=uC fun _ _ _ _ _ _ _ hc q=>floordiv_int hc.1 q (.inl hc.2)
theorem uE:OpD X (binaryOp .FloorDiv) bH:=yS (h:=fun i j=>.int (i.fdiv j)) (fun _=>Kh) (fun _ _ _=>iw) fun x y d e=>by
 cases x <;> cases y <;> first | (simp [bH] at e; done) | skip
 rename_i i j;simp only [bH] at e
 split at e
 ·rename_i c; cases e; exact ⟨_,_,rfl,rfl,c,rfl⟩
 ·cases e
theorem pI:OpD X (binaryOp .Mod) bK:=yS (h:=fun i j=>.int (i.fmod j)) (fun _=>Iv) (fun _ _ _=>iw) fun x y d e=>by
 cases x <;> cases y <;> first | (simp [bK] at e; done) | skip
 rename_i i j;simp only [bK] at e
 split at e
 ·rename_i c; cases e; exact ⟨_,_,rfl,rfl,c,rfl⟩
 ·cases e
theorem Kl:OpD X (binaryOp .Pow) lQ:=.of (fun _=>Iw) fun H x y a b d Q p1 p2 e q=>by
 cases a <;> cases b <;> first | (simp [lQ] at e; done) | skip
 rename_i i j;simp only [lQ] at e
 split at e
 ·rename_i c; cases e; exact ⟨i,j,bY p1,bY p2,c,q _ H (Same.refl H) iw⟩
 ·cases e
theorem Km:OpD X (binaryOp .LShift) lR:=.of (fun _=>Iz) fun H x y a b d Q p1 p2 e q=>by
 cases a <;> cases b <;> first | (simp [lR] at e; done) | skip
 rename_i i j;simp only [lR] at e
 split at e
 ·rename_i c; cases e; exact ⟨i,j,bY p1,bY p2,c,q _ H (Same.refl H) iw⟩
 ·cases e
theorem Ko (E:Value->Shared->Prop):OpR (X.wish E) (binaryOp .Add) (qH X.K):=Jw
noncomputable def qL (K:PySem.W.Frag):R2:=fun x y H Q=>∃a b ys,x=.ref a/\y=.ref b/\SqT K H a []/\SqT K H b ys/\Q (.ref b) H
theorem Kp:OpR X (binaryOp .Add) (qL X.K):=by
 intro pins s σ H x y v u Q I rx ry h;obtain ⟨a,b,ys,rfl,rfl,h1,h2,q⟩:=h
 cases rx
 cases ry
 obtain ⟨its,r,ht,_⟩:=I.tuple h1;obtain ⟨its2,r2,ht2,_⟩:=I.tuple h2
 cases r
 obtain ⟨⟨cls,dd,data,sl⟩,ho,hc,n,hd⟩:=id ht;obtain ⟨⟨cls2,dd2,data2,sl2⟩,ho2,hc2,n2,hd2⟩:=id ht2;simp only at hc hd hc2 hd2;subst hc hd hc2 hd2;exact concat_meets ⟨_,ho,rfl⟩ ⟨_,ho2,rfl⟩ noFill_tuple_add seq_tuple_add PySem.F.slot_tuple_add PySem.F.entry_tuple_add (PySem.F.args_tuple_add_2 _ _) (tuple_addW0 a b _ its2.toArray n n2 dd dd2 sl sl2 rfl) ⟨ho,ho2,.ref b,H,I,rfl,q⟩
theorem Kq (E:Value->Shared->Prop):OpR (X.wish E) (binaryOp .Add) (qL X.K):=Kp
noncomputable def qM (K:PySem.W.Frag):R2:=fun x y H Q=>∃a b xs ys,x=.ref a/\y=.ref b/\SqL K H a xs/\SqL K H b ys/\xs.length + ys.length<=sizeLine/\∀p,H p=none->Q (.ref p) (upd H p (.lst (xs ++ ys)))
theorem Kr:OpR X (binaryOp .Add) (qM X.K):=by
 intro pins s σ H x y v u Q I rx ry h;obtain ⟨a,b,xs,ys,rfl,rfl,h1,h2,hz,q⟩:=h
 cases rx
 cases ry
 obtain ⟨its,r,⟨⟨cls,dd,data,sl⟩,n,ho,hc,hdd,hd⟩,_⟩:=I.list h1;obtain ⟨its2,r2,⟨⟨cls2,dd2,data2,sl2⟩,n2,ho2,hc2,hdd2,hd2⟩,_⟩:=I.list h2;simp only at hc hd hc2 hd2;subst hc hd hc2 hd2;have l1:=r.length;have l2:=r2.length;refine concat_meets ⟨_,ho,rfl⟩ ⟨_,ho2,rfl⟩ noFill_list_add seq_list_add PySem.F.slot_list_add PySem.F.entry_list_add (PySem.F.args_list_add_2 _ _) (list_addW a b its.toArray its2.toArray n n2 dd dd2 sl sl2 (by simp only [List.size_toArray]; omega)) ⟨ho,ho2,?_⟩;have ea:its.toArray ++ its2.toArray=(its ++ its2).toArray:=by simp
 rw [ea];refine ⟨.ref s.heap.objs.size,_,I.laid (t':=s.toks) (o:=.lst (xs ++ ys)) (fun b ob q=>Heap.get?_push_of_some _ q) (Nat.le_refl _) ?_,rfl,q _ (I.hok.fresh (Nat.le_refl _))⟩;exact ⟨by rw [List.length_append]; omega,its ++ its2,0,r.append r2,Heap.get?_push_size _ rfl⟩
theorem Ks (E:Value->Shared->Prop):OpR (X.wish E) (binaryOp .Add) (qM X.K):=Kr
theorem fU:OpD X (binaryOp .Add) aW:=.of (fun E=>op_add.or (op_add_str.or ((Ko E).or ((Ks E).or (Kq E))))) fun H x y a b d Q p1 p2 e q=>by
 cases a <;> cases b <;> first | (simp [aW] at e; done) | skip
 ·rename_i i j;simp only [aW,Res.ok.injEq] at e;subst e;exact .inl ⟨i,j,bY p1,bY p2,q _ H (Same.refl H) iw⟩
 ·rename_i i j;simp only [aW] at e
  split at e
  ·rename_i c; cases e; exact .inr (.inl ⟨i,j,cI p1,cI p2,c,q _ H (Same.refl H) rH⟩)
  ·cases e
 ·rename_i xs ys;simp only [aW] at e
  split at e
  ·rename_i c
   cases e
   obtain ⟨p,us,rfl,s1,t1⟩:=cO p1;obtain ⟨p',ws,rfl,s2,t2⟩:=cO p2
   by_cases hn:us=[]
   ·subst hn;have hx:xs=[]:=by
     have:=t1.length; exact List.eq_nil_of_length_eq_zero this.symm
    subst hx;exact .inr (.inr (.inr (.inr ⟨p,p',ws,rfl,rfl,s1,s2,q _ H (Same.refl H) (iJ s2 t2)⟩)))
   refine .inr (.inr (.inl ⟨p,p',us,ws,rfl,rfl,s1,s2,hn,?_,fun z=>?_,fun _ z hz=>?_⟩))
   ·rw [t1.length,t2.length]; exact c
   ·have hy:ys=[]:=by
     have:=t2.length; rw [z] at this; exact List.eq_nil_of_length_eq_zero this.symm
    subst hy;exact q _ H (Same.refl H) (iJ s1 (by simpa using t1))
   ·exact q _ _ (gb hz _) (iJ (SqT.of bR) ((t1.append t2).mono (gb hz _)))
  ·cases e
 ·rename_i xs ys;simp only [aW] at e
  split at e
  ·rename_i c
   cases e
   obtain ⟨p,us,rfl,s1,t1⟩:=cP p1;obtain ⟨p',ws,rfl,s2,t2⟩:=cP p2;exact .inr (.inr (.inr (.inl ⟨p,p',us,ws,rfl,rfl,s1,s2,by rw [t1.length,t2.length]; exact c,fun z hz=>q _ _ (gb hz _) (jT (SqL.of bR) ((t1.append t2).mono (gb hz _)))⟩)))
  ·cases e
end
noncomputable def vD (X:Cx) (pins:List (Addr×Obj)) (σ:St) (H:Hp) (r:Res (List D)) (us:List Value) (s1:Shared):Prop:=∃ds vs H1,r=.ok ds/\Inv X pins σ H1 s1/\Vals vs us/\Same H H1/\Reps X.K H1 ds vs
noncomputable def PAD (X:Cx) (es:List Expr) (f:DS->Res (List D)):Prop :=
 ∀(pos:Pos) (pins:List (Addr×Obj)) (s:Shared) (σ:St) (G H:Hp) (δ:DS),Inv X pins σ H s->RepSt X.K G H σ δ->f δ≠.stuck ->
  wpAny (model X.prog X.w) X.A (spliced (backTo pos (starEach es X.env))) (vD X pins σ H (f δ)) (XPost X pins σ H s.heap (f δ)) s
noncomputable def aa (f:DS->Res D) (fs:DS->Res (List D)):DS->Res (List D):=fun δ=>(f δ).bind fun d=>(fs δ).bind fun ds=>.ok (d :: ds)
section
variable {X:Cx} {e:Expr} {es:List Expr} {f:DS->Res D} {fs:DS->Res (List D)} {pos:Pos}
theorem PAD.use {pins:List (Addr×Obj)} {s:Shared} {σ:St} {G H:Hp} {δ:DS} (h:PAD X es fs) (I:Inv X pins σ H s) (R:RepSt X.K G H σ δ) (hs:fs δ≠.stuck) {P:List Value->Shared->Prop} {E:Value->Shared->Prop}
  (k:∀ds us s1 vs H1,fs δ=.ok ds->Inv X pins σ H1 s1->Vals vs us->Same H H1->Back H s.heap s1.heap->Reps X.K H1 ds vs->P us s1) (kx:∀e s1,XPost X pins σ H s.heap (fs δ) e s1->E e s1) :
  wpAny (model X.prog X.w) X.A (spliced (backTo pos (starEach es X.env))) P E s:=by
 refine wpAny_mono (h pos (pins ++ f9 X H s.heap) s σ G H δ I.all R hs) (fun us s1 ⟨ds,vs,H1,q1,q2,q3,q4,q5⟩=>k ds us s1 vs H1 q1 q2.unpinned q3 q4 (I.backTo q2) q5) fun e s1 ⟨x,a,C,H1,q1,q2,q3,q4,q5,q6⟩=>kx e s1 ⟨x,a,C,H1,q1,q2,q3.unpinned,q4,q5,q6⟩
theorem aG:PAD X [] (fun _=>.ok []):=fun pos pins s σ G H δ I R _=>Calls.spliced_nil ⟨[],[],H,rfl,I,.nil,Same.refl H,Reps.nil⟩
theorem az (ha:PD X e f) (hr:PAD X es fs) (hs:starEach (e :: es) X.env=(false,eval e X.env) :: starEach es X.env:=by rfl):PAD X (e :: es) (aa f fs):=by
 intro pos pins s σ G H δ I R hn;have hn':(f δ).bind (fun d=>(fs δ).bind fun ds=>.ok (d :: ds))≠.stuck:=hn;rw [hs];show wpAny _ _ (spliced ((false,eval e X.env) :: backTo pos (starEach es X.env))) _ _ s;refine Calls.spliced_cons (ha.use I R (dF hn') (fun d u s1 v H1 q I1 r1 e1 b1 p1=>?_) fun e s1 q=>q.same fun x z=>dU z);have hn2:=dX hn' q;refine hr.use I1 (R.mono e1) (dF hn2) (fun ds us s2 vs H2 q2 I2 r2 e2 b2 p2=>⟨d :: ds,v :: vs,H2,by unfold aa; rw [q,Res.bind_ok,q2]; rfl,I2,.cons r1 r2,e1.trans e2,Reps.cons (p1.mono e2) p2⟩) fun e s2 q2=>q2.back e1 b1 fun x z=>by unfold aa; rw [q,Res.bind_ok,z]; rfl
noncomputable def rJ (r:Res (List D)):Res D:=r.bind fun ds=>if ds.length<=sizeLine then .ok (.tup ds) else .stuck
noncomputable def gf (r:Res (List D)):Res D:=r.bind fun ds=>if ds.length<=sizeLine then .ok (.lst ds) else .stuck
theorem pJ {x1} (h:PAD X es fs):PD X (.Tuple es x1 pos) (fun δ=>rJ (fs δ)):=by
 intro pins s σ G H δ I R hs
 try dsimp only at hs ⊢
 have hs':(fs δ).bind (fun ds=>if ds.length<=sizeLine then Res.ok (D.tup ds) else .stuck)≠.stuck:=hs
 refine wpAny_Tuple_spliced (h.use I R (dF hs') (fun ds us s1 vs H1 q I1 r1 e1 b1 p1=>?_) fun e s1 q=>q.same fun x z=>dU z);have h2:=dX hs' q;have hz:ds.length<=sizeLine:=by
  by_cases c:ds.length<=sizeLine
  ·exact c
  ·rw [if_neg c] at h2; exact (h2 rfl).elim
 refine ⟨by rw [<- r1.length,p1.length]; exact hz,?_⟩;have hf:H1 s1.heap.objs.size=none:=I1.hok.fresh (Nat.le_refl _);refine ⟨.tup ds,.ref s1.heap.objs.size,upd H1 s1.heap.objs.size (.tup vs),by unfold rJ; rw [q,Res.bind_ok,if_pos hz],I1.laid (t':=s1.toks) (fun b u e=>Heap.get?_push_of_some _ e) (Nat.le_refl _) ?_,rfl,e1.trans (gb hf _),iJ (SqT.of bR) (p1.mono (gb hf _))⟩;exact ⟨by rw [p1.length]; exact hz,us,r1,⟨_,Heap.get?_push_size _ rfl,rfl,_,rfl⟩⟩
theorem di (h:PAD X es fs):PD X (.List es pos) (fun δ=>gf (fs δ)):=by
 intro pins s σ G H δ I R hs
 try dsimp only at hs ⊢
 have hs':(fs δ).bind (fun ds=>if ds.length<=sizeLine then Res.ok (D.lst ds) else .stuck)≠.stuck:=hs
 refine wpAny_List_spliced (h.use I R (dF hs') (fun ds us s1 vs H1 q I1 r1 e1 b1 p1=>?_) fun e s1 q=>q.same fun x z=>dU z);have h2:=dX hs' q;have hz:ds.length<=sizeLine:=by
  by_cases c:ds.length<=sizeLine
  ·exact c
  ·rw [if_neg c] at h2; exact (h2 rfl).elim
 refine ⟨by rw [<- r1.length,p1.length]; exact hz,?_⟩;have hf:H1 s1.heap.objs.size=none:=I1.hok.fresh (Nat.le_refl _);refine ⟨.lst ds,.ref s1.heap.objs.size,upd H1 s1.heap.objs.size (.lst vs),by unfold gf; rw [q,Res.bind_ok,if_pos hz],I1.laid (t':=s1.toks) (fun b u e=>Heap.get?_push_of_some _ e) (Nat.le_refl _) ?_,rfl,e1.trans (gb hf _),jT (SqL.of bR) (p1.mono (gb hf _))⟩;exact ⟨by rw [p1.length]; exact hz,us,0,r1,Heap.get?_push_size _ rfl⟩
noncomputable def bh:D->D->Res D
 | .tup ds,.int i=>match i_ ds i with | some d=>.ok d | none=>.stuck
 | .lst ds,.int i=>match i_ ds i with | some d=>.ok d | none=>.stuck
 | .str z,.int i=>if z.length<=sizeLine then (match i_ z.cps.toList i with | some c=>.ok (.str ⟨#[c]⟩) | none=>.stuck) else .stuck
 | _,_=>.stuck
theorem Ku (x y:D):aJ (bh x y):=by
 cases x <;> cases y <;> first | exact bT | skip
 ·simp only [bh]; split <;> first | (split <;> first | exact cH | exact bT) | exact bT
 ·simp only [bh]; split <;> first | exact cH | exact bT
 ·simp only [bh]; split <;> first | exact cH | exact bT
theorem Eg {K:PySem.W.Frag} {H:Hp} {ds:List D} {vs:List V} {i:Int} {d:D} (r:Reps K H ds vs) (e:i_ ds i=some d):∃v,i_ vs i=some v/\Rep K H d v:=by
 unfold i_ at e ⊢;rw [r.length]
 cases q:rE ds.length i with
 | none=>rw [q] at e; cases e
 | some j =>
  rw [q] at e;exact r.get e
theorem cL {o i:Expr} {fo fi:DS->Res D} (ho:PD X o fo) (hi:PD X i fi) (hp:pD i:=by intro _ _; rfl):PD X (.Subscript o i pos) (two fo fi bh):=by
 intro pins s σ G H δ I R hs
 try dsimp only at hs ⊢
 refine Subscript_ (Ea ho hi I R hs (fun x y v u s2 vx vy H2 q I2 r1 r2 e2 p1 p2=>?_) fun _ _ q=>q);have hd:bh x y≠.stuck:=fun z=>hs (q.trans z)
 cases qg:bh x y with
 | stuck=>exact (hd qg).elim
 | err z=>exact (Ku x y z qg).elim
 | ok d =>
  refine wpAny_mono (JB (X:=X.wish fun _ _=>False) o i pins s2 σ H2 vx vy v u (fun z H'=>H'=H2/\Rep X.K H2 d z) (I2.wish _) r1 r2 ?_ (hp _ _)) (fun w s3 q3=>?_) fun _ _ z=>z.elim
  rotate_left
  ·obtain ⟨z,H3,I3,r3,e3,p3⟩:=q3;subst e3;exact ⟨d,z,H3,q.trans qg,I3.unwish,r3,e2,p3⟩
  cases x with
  | tup ds =>
   cases y with
   | int k =>
    simp only [bh] at qg
    split at qg
    ·rename_i d' e
     cases qg
     obtain ⟨b,xs,rfl,w1,w2⟩:=cO p1;obtain ⟨z,z1,z2⟩:=Eg w2 e;exact .inr (.inl ⟨b,xs,k,z,rfl,bY p2,w1,z1,rfl,z2⟩)
    ·cases qg
   | _=>cases qg
  | lst ds =>
   cases y with
   | int k =>
    simp only [bh] at qg
    split at qg
    ·rename_i d' e
     cases qg
     obtain ⟨b,xs,rfl,w1,w2⟩:=cP p1;obtain ⟨z,z1,z2⟩:=Eg w2 e;exact .inl ⟨b,xs,k,z,rfl,bY p2,w1,z1,rfl,z2⟩
    ·cases qg
   | _=>cases qg
  | str z =>
   cases y with
   | int k =>
    simp only [bh] at qg
    split at qg
    ·rename_i hz
     split at qg
     ·rename_i c e
      cases qg
      exact .inr (.inr ⟨z,k,c,cI p1,bY p2,hz,e,rfl,rH⟩)
     ·cases qg
    ·cases qg
   | _=>cases qg
  | _=>cases qg
end
noncomputable def CallD (X:Cx) (f:Value) (g:List D->Res D):Prop :=
 ∀(E:Value->Shared->Prop) (pins:List (Addr×Obj)) (s:Shared) (σ:St) (H:Hp) (xs:List V) (us:List Value) (ds:List D) (d:D),Inv X pins σ H s->Vals xs us->Reps X.K H ds xs->g ds=.ok d ->
  wpAny (model X.prog X.w) X.A (call f us) (EPost X pins σ H (.ok d)) E s
theorem CallD.of {X:Cx} {f:Value} {r:List V->Hp->VK->Prop} {g:List D->Res D} (hc:∀E,CallR (X.wish E) f r) (h:∀(H:Hp) (xs:List V) (ds:List D) (d:D) (Q:VK),Reps X.K H ds xs->g ds=.ok d->(∀z H',Same H H'->Rep X.K H' d z->Q z H')->r xs H Q):CallD X f g :=
 fun E pins s σ H xs us ds d I r1 p e=>cN (hc E pins s σ H xs us (fun z H'=>Same H H'/\Rep X.K H' d z) (I.wish _) r1 (h H xs ds d _ p e fun z H' a b=>⟨a,b⟩)) fun w s1 ⟨z,H1,I1,r3,e1,p3⟩=>⟨d,z,H1,rfl,I1.unwish,r3,e1,p3⟩
section
variable {X:Cx} {e:Expr} {es:List Expr} {fs:DS->Res (List D)} {x:Str} {p pos:Pos} {id T:String} {g:List D->Res D}
theorem Eh {pins:List (Addr×Obj)} {s:Shared} {σ:St} {G H:Hp} {δ:DS} {f:Value} (hc:CallD X f g) (hg:∀ds,aJ (g ds)) (ha:PAD X es fs) (I:Inv X pins σ H s) (R:RepSt X.K G H σ δ) (hs:(fs δ).bind g≠.stuck) :
  wpAny (model X.prog X.w) X.A (spliced (backTo pos (starEach es X.env))) (fun us s1=>wpAny (model X.prog X.w) X.A (call f us) (EPost X pins σ H ((fs δ).bind g)) (XPost X pins σ H s.heap ((fs δ).bind g)) s1) (XPost X pins σ H s.heap ((fs δ).bind g)) s:=by
 refine ha.use I R (dF hs) (fun ds us s1 vs H1 q I1 r1 e1 b1 p1=>?_) fun e s1 q=>q.same fun x z=>dU z;have h2:=dX hs q
 cases qg:g ds with
 | stuck=>exact (h2 qg).elim
 | err z=>exact (hg ds z qg).elim
 | ok d=>exact cN (hc _ pins s1 σ H1 vs us ds d I1 r1 p1 qg) fun w s2 p=>p.from e1 (by rw [q,Res.bind_ok,qg])
theorem fG (hc:CallD X (.builtin id) g) (hne:∀ds,aJ (g ds)) (hg:Gl X x) (hm:X.mg x=none) (hv:bootBuiltins x=some (.builtin id)) (ha:PAD X (e :: es) fs) (hn:x≠"__name__":=by decide) (hdb:(x == ("__debug__" : Str))=false:=by decide)
  (he:starEach (e :: es) X.env=(false,eval e X.env) :: starEach es X.env:=by rfl) (hpl:(backTo pos (starEach es X.env)).any (·.1)=false:=by rfl):PD X (.Call (.Name x p) (e :: es) [] pos) (fun δ=>(fs δ).bind g):=by
 intro pins s σ G H δ I R hs
 try dsimp only at hs ⊢
 refine wpAny_Call_Name_kw (oN I hg hm hv ?_ hn hdb);exact PyProof.Rows.callWith_builtin1 (Eh hc hne ha I R hs) he hpl
theorem yU (hc:CallD X (.type T) g) (hne:∀ds,aJ (g ds)) (hg:Gl X x) (hm:X.mg x=none) (hv:bootBuiltins x=some (.type T)) (ha:PAD X (e :: es) fs) (hn:x≠"__name__":=by decide) (hdb:(x == ("__debug__" : Str))=false:=by decide)
  (he:starEach (e :: es) X.env=(false,eval e X.env) :: starEach es X.env:=by rfl) (hpl:(backTo pos (starEach es X.env)).any (·.1)=false:=by rfl):PD X (.Call (.Name x p) (e :: es) [] pos) (fun δ=>(fs δ).bind g):=by
 intro pins s σ G H δ I R hs
 try dsimp only at hs ⊢
 refine wpAny_Call_Name_kw (oN I hg hm hv ?_ hn hdb);exact PyProof.Rows.callWith_type1 (Eh hc hne ha I R hs) he hpl
end
noncomputable def jc:List D->Res D
 | [.int i]=>.ok (.int (if i < 0 then -i else i))
 | _=>.stuck
theorem yV {X:Cx}:CallD X (.builtin "abs") jc:=.of (fun _=>is') fun H xs ds d Q r e q=>by
 unfold jc at e
 split at e
 ·rename_i i
  cases e
  obtain ⟨v,vs,rfl,p1,t⟩:=r.cons_of
  cases t.nil_of
  exact ⟨i,by rw [bY p1],q _ H (Same.refl H) iw⟩
 ·cases e
theorem yW (ds:List D):aJ (jc ds):=by
 unfold jc
 split
 ·exact cH
 ·exact bT
noncomputable def bO:List D->Res D
 | [.tup ds]=>.ok (.int ds.length)
 | [.lst ds]=>.ok (.int ds.length)
 | [.str z]=>if z.length<=sizeLine then .ok (.int z.length) else .stuck
 | _=>.stuck
theorem iK (ds:List D):aJ (bO ds):=by
 unfold bO
 split <;> first | exact cH | exact bT | exact as' cH bT
theorem Kv {X:Cx} (E:Value->Shared->Prop):CallR (X.wish E) (.builtin "len") (fun xs H Q=>∃x n,xs=[x]/\uZ X.K x H n/\Q (.int n) H):=Je
theorem iM {X:Cx}:CallD X (.builtin "len") bO:=.of Kv fun H xs ds d Q r e q=>by
 unfold bO at e
 split at e
 ·rename_i es
  cases e
  obtain ⟨v,vs,rfl,p1,t⟩:=r.cons_of
  cases t.nil_of
  obtain ⟨a,ys,rfl,w1,w2⟩:=cO p1;exact ⟨_,es.length,rfl,.inr ⟨ys,w1,w2.length.symm⟩,q _ H (Same.refl H) iw⟩
 ·rename_i es
  cases e
  obtain ⟨v,vs,rfl,p1,t⟩:=r.cons_of
  cases t.nil_of
  obtain ⟨a,ys,rfl,w1,w2⟩:=cP p1;exact ⟨_,es.length,rfl,.inl ⟨ys,w1,w2.length.symm⟩,q _ H (Same.refl H) iw⟩
 ·rename_i z
  split at e
  ·rename_i hz
   cases e
   obtain ⟨v,vs,rfl,p1,t⟩:=r.cons_of
   cases t.nil_of
   cases cI p1
   exact ⟨_,z.length,rfl,⟨hz,rfl⟩,q _ H (Same.refl H) iw⟩
  ·cases e
 ·cases e
inductive Out where
 | stuck
 | nxt (δ:DS)
 | ret (d:D)
 | brk (δ:DS)
 | cnt (δ:DS)
 | err (x:Exn) (δ:DS)
noncomputable def Out.seq (o:Out) (g:DS->Out):Out:=match o with
 | .nxt δ=>g δ
 | o=>o
noncomputable def SPost (X:Cx) (pins:List (Addr×Obj)) (G H:Hp) (o:Out) (fl:Flow) (s1:Shared):Prop:=match fl with
 | .next=>∃δ' σ' H',o=.nxt δ'/\Inv X pins σ' H' s1/\TK H H'/\RepSt X.K G H' σ' δ'
 | .brk=>∃δ' σ' H',o=.brk δ'/\Inv X pins σ' H' s1/\TK H H'/\RepSt X.K G H' σ' δ'
 | .cont=>∃δ' σ' H',o=.cnt δ'/\Inv X pins σ' H' s1/\TK H H'/\RepSt X.K G H' σ' δ'
 | .ret u=>∃d v σ' H',o=.ret d/\Inv X pins σ' H' s1/\TK H H'/\Same G H'/\RelV v u/\Rep X.K H' d v
noncomputable def SX (X:Cx) (pins:List (Addr×Obj)) (G H:Hp) (h0:Heap) (o:Out) (e:Value) (s1:Shared):Prop :=
 ∃x δ' a C σ' H',o=.err x δ'/\e=.ref a/\Inv X pins σ' H' s1/\TK H H'/\RepSt X.K G H' σ' δ'/\PySem.W.nsIn X.K mainGlobals x.cls=some (some (.ref C))/\FlyX X.K x h0 H' s1.heap a C
noncomputable def PSD (X:Cx) (st:Stmt) (f:DS->Out):Prop :=
 ∀(pins:List (Addr×Obj)) (s:Shared) (σ:St) (G H:Hp) (δ:DS),Inv X pins σ H s->RepSt X.K G H σ δ->f δ≠.stuck ->
  wpAny (model X.prog X.w) X.A (exec st X.env) (SPost X pins G H (f δ)) (SX X pins G H s.heap (f δ)) s
noncomputable def PSDs (X:Cx) (st:List Stmt) (f:DS->Out):Prop :=
 ∀(pins:List (Addr×Obj)) (s:Shared) (σ:St) (G H:Hp) (δ:DS),Inv X pins σ H s->RepSt X.K G H σ δ->f δ≠.stuck ->
  wpAny (model X.prog X.w) X.A (execs st X.env) (SPost X pins G H (f δ)) (SX X pins G H s.heap (f δ)) s
noncomputable def kE (r:Res D) (δ:DS) (k:D->Out):Out:=match r with
 | .stuck=>.stuck
 | .ok d=>k d
 | .err x=>.err x δ
noncomputable def rK (r:Res Bool) (δ:DS) (k:Bool->Out):Out:=match r with
 | .stuck=>.stuck
 | .ok d=>k d
 | .err x=>.err x δ
theorem rM {r:Res D} {δ:DS} {k:D->Out} (h:kE r δ k≠.stuck):r≠.stuck:=fun q=>h (by rw [q]; rfl)
theorem Kw {r:Res Bool} {δ:DS} {k:Bool->Out} (h:rK r δ k≠.stuck):r≠.stuck:=fun q=>h (by rw [q]; rfl)
section
variable {X:Cx} {pins:List (Addr×Obj)} {G H H1:Hp} {h0 h1:Heap} {s1:Shared} {fl:Flow} {o o':Out} {e:Value}
theorem SPost.from (p:SPost X pins G H1 o fl s1) (t:TK H H1) (q:o=o'):SPost X pins G H o' fl s1:=by
 subst q
 cases fl with
 | next=>obtain ⟨δ',σ',H',q1,q2,q3,q4⟩:=p; exact ⟨δ',σ',H',q1,q2,t.trans q3,q4⟩
 | brk=>obtain ⟨δ',σ',H',q1,q2,q3,q4⟩:=p; exact ⟨δ',σ',H',q1,q2,t.trans q3,q4⟩
 | cont=>obtain ⟨δ',σ',H',q1,q2,q3,q4⟩:=p; exact ⟨δ',σ',H',q1,q2,t.trans q3,q4⟩
 | ret u=>obtain ⟨d,v,σ',H',q1,q2,q3,q4,q5,q6⟩:=p; exact ⟨d,v,σ',H',q1,q2,t.trans q3,q4,q5,q6⟩
theorem SX.from (p:SX X pins G H1 h1 o e s1) (t:TK H H1) (b:Back H h0 h1) (q:o=o'):SX X pins G H h0 o' e s1:=by
 subst q;obtain ⟨x,δ',a,C,σ',H',q1,q2,q3,q4,q5,q6,q7⟩:=p;exact ⟨x,δ',a,C,σ',H',q1,q2,q3,t.trans q4,q5,q6,q7.back t q4 b⟩
theorem XPost.sx {α:Type} {σ:St} {δ:DS} {r:Res α} (p:XPost X pins σ H h0 r e s1) (R:RepSt X.K G H σ δ) (q:∀x,r=.err x->o=.err x δ):SX X pins G H h0 o e s1:=by
 obtain ⟨x,a,C,H1,q1,q2,q3,q4,q5,q6⟩:=p;exact ⟨x,δ,a,C,σ,H1,q x q1,q2,q3,q4.tk,R.mono q4,q5,q6⟩
theorem Be {t:Sem Flow} {s:Shared} {σ:St} (h:∀pins,Inv X pins σ H s->wpAny (model X.prog X.w) X.A t (SPost X pins G H o) (SX X pins G H s.heap o) s) (I:Inv X pins σ H s) {P:Flow->Shared->Prop} {E:Value->Shared->Prop}
  (k:∀fl s1,SPost X pins G H o fl s1->Back H s.heap s1.heap->P fl s1) (kx:∀e s1,SX X pins G H s.heap o e s1->E e s1):wpAny (model X.prog X.w) X.A t P E s:=by
 refine wpAny_mono (h (pins ++ f9 X H s.heap) I.all) (fun fl s1 p=>?_) fun e s1 ⟨x,δ',a,C,σ',H',q1,q2,q3,q4,q5,q6,q7⟩=>kx e s1 ⟨x,δ',a,C,σ',H',q1,q2,q3.unpinned,q4,q5,q6,q7⟩
 cases fl with
 | next=>obtain ⟨δ',σ',H',q1,q2,q3,q4⟩:=p; exact k .next s1 ⟨δ',σ',H',q1,q2.unpinned,q3,q4⟩ (I.backTo q2)
 | brk=>obtain ⟨δ',σ',H',q1,q2,q3,q4⟩:=p; exact k .brk s1 ⟨δ',σ',H',q1,q2.unpinned,q3,q4⟩ (I.backTo q2)
 | cont=>obtain ⟨δ',σ',H',q1,q2,q3,q4⟩:=p; exact k .cont s1 ⟨δ',σ',H',q1,q2.unpinned,q3,q4⟩ (I.backTo q2)
 | ret u=>obtain ⟨d,v,σ',H',q1,q2,q3,q4,q5,q6⟩:=p; exact k (.ret u) s1 ⟨d,v,σ',H',q1,q2.unpinned,q3,q4,q5,q6⟩ (I.backTo q2)
end
section
variable {X:Cx} {st:Stmt} {rest:List Stmt} {f g:DS->Out} {e:Expr} {fe:DS->Res D} {pos:Pos}
theorem fV:PSDs X [] Out.nxt:=fun pins s σ G H δ I R _=>wpAny_execs_nil ⟨δ,σ,H,rfl,I,TK.refl H,R⟩
noncomputable def aA (f g:DS->Out):DS->Out:=fun δ=>(f δ).seq g
theorem bf (h1:PSD X st f) (h2:PSDs X rest g):PSDs X (st :: rest) (aA f g):=by
 intro pins s σ G H δ I R hs
 try dsimp only at hs ⊢
 have hf:f δ≠.stuck:=fun q=>hs (by unfold aA; rw [q]; rfl);refine wpAny_execs_cons (Be (fun pins I=>h1 pins s σ G H δ I R hf) I (fun fl s1 p b=>?_) fun e s1 p=>?_)
 ·cases fl with
  | next =>
   obtain ⟨δ',σ',H',q1,q2,q3,q4⟩:=p;have ev:aA f g δ=g δ':=by unfold aA; rw [q1]; rfl
   exact wpAny_mono (h2 pins s1 σ' G H' δ' q2 q4 fun z=>hs (ev.trans z)) (fun fl s2 p2=>p2.from q3 ev.symm) fun e s2 p2=>p2.from q3 b ev.symm
  | brk=>obtain ⟨δ',σ',H',q1,q2,q3,q4⟩:=p; exact ⟨δ',σ',H',by unfold aA; rw [q1]; rfl,q2,q3,q4⟩
  | cont=>obtain ⟨δ',σ',H',q1,q2,q3,q4⟩:=p; exact ⟨δ',σ',H',by unfold aA; rw [q1]; rfl,q2,q3,q4⟩
  | ret u=>obtain ⟨d,v,σ',H',q1,q2⟩:=p; exact ⟨d,v,σ',H',by unfold aA; rw [q1]; rfl,q2⟩
 ·obtain ⟨x,δ',a,C,σ',H',q1,q2⟩:=p;exact ⟨x,δ',a,C,σ',H',by unfold aA; rw [q1]; rfl,q2⟩
theorem bz (h1:PSD X st f):PSDs X [st] f:=by
 intro pins s σ G H δ I R hs
 try dsimp only at hs ⊢
 refine wpAny_execs_cons (wpAny_mono (h1 pins s σ G H δ I R hs) (fun fl s1 p=>?_) fun e s1 p=>p)
 cases fl with
 | next=>exact wpAny_execs_nil p
 | brk=>exact p
 | cont=>exact p
 | ret u=>exact p
noncomputable def NOut (X:Cx) (G H:Hp) (o:Out) (E:Ends):Prop:=match o with
 | .stuck=>False
 | .nxt δ=>∀σ' H',TK H H'->RepSt X.K G H' σ' δ->E.nx σ' H'
 | .ret d=>∀v H',TK H H'->Same G H'->Rep X.K H' d v->E.rt v H'
 | .brk δ=>∀σ' H',TK H H'->RepSt X.K G H' σ' δ->E.bk σ' H'
 | .cnt δ=>∀σ' H',TK H H'->RepSt X.K G H' σ' δ->E.ct σ' H'
 | .err _ _=>False
noncomputable def sD (X:Cx) (f:DS->Out):TS:=fun E σ H=>∃G δ,RepSt X.K G H σ δ/\NOut X G H (f δ) E
theorem NOut.tk {X:Cx} {G H H1:Hp} {o:Out} {E:Ends} (h:NOut X G H o E) (t:TK H H1):NOut X G H1 o E:=by
 cases o with
 | stuck=>exact h
 | nxt δ=>exact fun σ' H' t' r=>h σ' H' (t.trans t') r
 | ret d=>exact fun v H' t' r=>h v H' (t.trans t') r
 | brk δ=>exact fun σ' H' t' r=>h σ' H' (t.trans t') r
 | cnt δ=>exact fun σ' H' t' r=>h σ' H' (t.trans t') r
 | err x δ=>exact h
theorem Ei {pins:List (Addr×Obj)} {G H:Hp} {o:Out} {E:Ends} {fl:Flow} {s1:Shared} {W:Value->Shared->Prop} (h:NOut X G H o E) (p:SPost X pins G H o fl s1):SP (X.wish W) pins E fl s1:=by
 cases fl with
 | next=>obtain ⟨δ',σ',H',q1,q2,q3,q4⟩:=p; subst q1; exact ⟨σ',H',q2.wish _,h σ' H' q3 q4⟩
 | brk=>obtain ⟨δ',σ',H',q1,q2,q3,q4⟩:=p; subst q1; exact ⟨σ',H',q2.wish _,h σ' H' q3 q4⟩
 | cont=>obtain ⟨δ',σ',H',q1,q2,q3,q4⟩:=p; subst q1; exact ⟨σ',H',q2.wish _,h σ' H' q3 q4⟩
 | ret u=>obtain ⟨d,v,σ',H',q1,q2,q3,q4,q5,q6⟩:=p; subst q1; exact ⟨v,σ',H',q2.wish _,q5,h v H' q3 q4 q6⟩
theorem NOut.ns {G H:Hp} {o:Out} {E:Ends} (h:NOut X G H o E):o≠.stuck:=fun q=>by subst q; exact h
theorem NOut.sx {pins:List (Addr×Obj)} {G H:Hp} {h0:Heap} {o:Out} {E:Ends} {e:Value} {s1:Shared} (h:NOut X G H o E) (p:SX X pins G H h0 o e s1):False:=by
 obtain ⟨x,δ',_,_,_,_,q,_⟩:=p; subst q; exact h
theorem PSDs.ps (h:PSDs X rest f):PSs X.nox rest (sD X f):=by
 intro pins s σ H E I ⟨G,δ,R,n⟩;exact wpAny_mono (h pins s σ G H δ I.unwish R n.ns) (fun fl s1 p=>Ei n p) fun e s1 p=>n.sx p
theorem PSD.ps (h:PSD X st f):PS X.nox st (sD X f):=by
 intro pins s σ H E I ⟨G,δ,R,n⟩;exact wpAny_mono (h pins s σ G H δ I.unwish R n.ns) (fun fl s1 p=>Ei n p) fun e s1 p=>n.sx p
theorem PTD.pt {c:Expr} {tc:DS->Res Bool} (h:PTD X c tc):PT X.nox c (fun σ H Q=>∃G δ d,RepSt X.K G H σ δ/\tc δ=.ok d/\∀H',Same H H'->Q d H'):=by
 intro pins s σ H Q I ⟨G,δ,d,R,q,n⟩;refine wpAny_mono (h pins s σ G H δ I.unwish R (by rw [q]; intro z; cases z)) (fun b s1 ⟨H1,q1,I1,e1⟩=>?_) fun e s1 p=>?_
 ·rw [q] at q1; cases q1;exact ⟨H1,I1.wish _,n H1 e1⟩
 ·rw [q] at p; exact p.none
theorem PD.pe {fe:DS->Res D} (h:PD X e fe):PE X.nox e (fun σ H Q=>∃G δ d,RepSt X.K G H σ δ/\fe δ=.ok d/\∀v H',Same H H'->Rep X.K H' d v->Q v H'):=by
 intro pins s σ H Q I ⟨G,δ,d,R,q,n⟩;refine wpAny_mono (h pins s σ G H δ I.unwish R (by rw [q]; intro z; cases z)) (fun b s1 ⟨d',v,H1,q1,I1,r1,e1,p1⟩=>?_) fun e s1 p=>?_
 ·rw [q] at q1; cases q1;exact ⟨v,H1,I1.wish _,r1,n v H1 e1 p1⟩
 ·rw [q] at p; exact p.none
theorem PAD.pa {es:List Expr} {fs:DS->Res (List D)} (h:PAD X es fs):PA X.nox es (fun σ H Q=>∃G δ ds,RepSt X.K G H σ δ/\fs δ=.ok ds/\∀vs H',Same H H'->Reps X.K H' ds vs->Q vs H'):=by
 intro pos pins s σ H Q I ⟨G,δ,d,R,q,n⟩;refine wpAny_mono (h pos pins s σ G H δ I.unwish R (by rw [q]; intro z; cases z)) (fun b s1 ⟨d',v,H1,q1,I1,r1,e1,p1⟩=>?_) fun e s1 p=>?_
 ·rw [q] at q1; cases q1;exact ⟨v,H1,I1.wish _,r1,n v H1 e1 p1⟩
 ·rw [q] at p; exact p.none
theorem Bf (hne:∀δ x δ',f δ≠.err x δ') (h:PS X.nox st (sD X f)):PSD X st f:=by
 intro pins s σ G H δ I R hs
 try dsimp only at hs ⊢
 let E:Ends:={ nx:=fun σ' H'=>∃δ',f δ=.nxt δ'/\TK H H'/\RepSt X.K G H' σ' δ',rt:=fun v H'=>∃d,f δ=.ret d/\TK H H'/\Same G H'/\Rep X.K H' d v,bk:=fun σ' H'=>∃δ',f δ=.brk δ'/\TK H H'/\RepSt X.K G H' σ' δ',ct:=fun σ' H'=>∃δ',f δ=.cnt δ'/\TK H H'/\RepSt X.K G H' σ' δ' }
 have n:NOut X G H (f δ) E:=by
  cases q:f δ with
  | stuck=>exact (hs q).elim
  | nxt δ'=>exact fun σ' H' t r=>⟨δ',q,t,r⟩
  | brk δ'=>exact fun σ' H' t r=>⟨δ',q,t,r⟩
  | cnt δ'=>exact fun σ' H' t r=>⟨δ',q,t,r⟩
  | ret d=>exact fun v H' t g r=>⟨d,q,t,g,r⟩
  | err x δ'=>exact (hne δ x δ' q).elim
 refine wpAny_mono (h pins s σ H E (I.wish _) ⟨G,δ,R,n⟩) (fun fl s1 p=>?_) fun e s1 p=>p.elim
 cases fl with
 | next=>obtain ⟨σ',H',q2,δ',q1,q3,q4⟩:=p; exact ⟨δ',σ',H',q1,q2.unwish,q3,q4⟩
 | brk=>obtain ⟨σ',H',q2,δ',q1,q3,q4⟩:=p; exact ⟨δ',σ',H',q1,q2.unwish,q3,q4⟩
 | cont=>obtain ⟨σ',H',q2,δ',q1,q3,q4⟩:=p; exact ⟨δ',σ',H',q1,q2.unwish,q3,q4⟩
 | ret u=>obtain ⟨v,σ',H',q2,q5,d,q1,q3,q4,q6⟩:=p; exact ⟨d,v,σ',H',q1,q2.unwish,q3,q4,q5,q6⟩
theorem bU (he:PD X e fe):PSD X (.Return (some e) pos) (fun δ=>kE (fe δ) δ Out.ret):=by
 intro pins s σ G H δ I R hs
 try dsimp only at hs ⊢
 refine wpAny_Return_some (he.use I R (rM hs) (fun d u s1 v H1 q I1 r1 e1 b1 p1=>⟨d,v,σ,H1,by rw [q]; rfl,I1,e1.tk,R.same.trans e1,r1,p1⟩) fun e s1 q=>q.sx R fun x z=>by rw [z]; rfl)
theorem yX (he:PD X e fe) (hw:swapsWith e none pos.line X.env=pure false:=by rfl):PSD X (.Expr e pos) (fun δ=>kE (fe δ) δ fun _=>.nxt δ):=by
 intro pins s σ G H δ I R hs
 try dsimp only at hs ⊢
 exact wpAny_Expr_any (he.use I R (rM hs) (fun d u s1 v H1 q I1 r1 e1 b1 p1=>⟨δ,σ,H1,by rw [q]; rfl,I1,e1.tk,R.mono e1⟩) fun e s1 q=>q.sx R fun x z=>by rw [z]; rfl) I.quiet hw
theorem fH {c:Expr} {a b:List Stmt} {tc:DS->Res Bool} {fa fb:DS->Out} (hc:PTD X c tc) (ha:PSDs X a fa) (hb:PSDs X b fb):PSD X (.If c a b pos) (fun δ=>rK (tc δ) δ fun k=>if k=true then fa δ else fb δ):=by
 intro pins s σ G H δ I R hs
 try dsimp only at hs ⊢
 refine wpAny_If (hc.use I R (Kw hs) (fun k s1 H1 q I1 e1 b1=>?_) fun e s1 q=>q.sx R fun x z=>by rw [z]; rfl)
 cases k with
 | true =>
  have ev:rK (tc δ) δ (fun k=>if k=true then fa δ else fb δ)=fa δ:=by rw [q]; rfl
  exact wpAny_mono (ha pins s1 σ G H1 δ I1 (R.mono e1) fun z=>hs (ev.trans z)) (fun fl s2 p=>p.from e1.tk ev.symm) fun e s2 p=>p.from e1.tk b1 ev.symm
 | false =>
  have ev:rK (tc δ) δ (fun k=>if k=true then fa δ else fb δ)=fb δ:=by rw [q]; rfl
  exact wpAny_mono (hb pins s1 σ G H1 δ I1 (R.mono e1) fun z=>hs (ev.trans z)) (fun fl s2 p=>p.from e1.tk ev.symm) fun e s2 p=>p.from e1.tk b1 ev.symm
noncomputable def aC (i:Nat) (fe:DS->Res D):DS->Out:=fun δ=>kE (fe δ) δ fun d=>.nxt (δ.set i (some (.val d)))
theorem cM (i:Nat) {x:Str} {pos':Pos} (he:PD X e fe) (hN:X.N.Nodup) (hi:X.N[i]? = some x:=by rfl) (hx:Loc X.env.scope x:=by first | exact Or.inl rfl | exact Or.inr rfl) (hw:swapsWith e (some (.Name x pos')) pos.line X.env=pure false:=by rfl)
  (hf:X.fn x=true\/X.env.scope.names.lookup x=some .local:=by first | exact .inl rfl | exact .inr rfl | assumption):PSD X (.Assign [.Name x pos'] e pos) (aC i fe):=by
 intro pins s σ G H δ I R hs
 try dsimp only at hs ⊢
 refine wpAny_Assign_Name (he.use I R (rM hs) (fun d u s1 v H1 q I1 r1 e1 b1 p1=>?_) fun e s1 q=>q.sx R fun x z=>by unfold aC; rw [z]; rfl) hw;exact uB I1 hN hi hx r1 (fun s2 I2=>⟨_,_,H1,by unfold aC; rw [q]; rfl,I2,e1.tk,(R.mono e1).set i p1⟩) hf
abbrev cX:=D->DS->Option DS
noncomputable def PGD (X:Cx) (tg:Expr) (t:cX):Prop :=
 ∀(E:Value->Shared->Prop) (pins:List (Addr×Obj)) (s:Shared) (σ:St) (G H:Hp) (δ δ':DS) (d:D) (v:V) (u:Value),Inv X pins σ H s->RelV v u->RepSt X.K G H σ δ->Rep X.K H d v->t d δ=some δ' ->
  wpAny (model X.prog X.w) X.A (assign tg X.env u) (fun _ s1=>∃σ',Inv X pins σ' H s1/\RepSt X.K G H σ' δ') E s
theorem kI (i:Nat) {x:Str} (hN:X.N.Nodup) (hi:X.N[i]? = some x:=by rfl) (hx:Loc X.env.scope x:=by first | exact Or.inl rfl | exact Or.inr rfl) (hf:X.fn x=true\/X.env.scope.names.lookup x=some .local:=by first | exact .inl rfl | exact .inr rfl | assumption) :
  PGD X (.Name x pos) (fun d δ=>some (δ.set i (some (.val d)))):=by
 intro E pins s σ G H δ δ' d v u I r R p e
 cases e
 exact cN (Dd (X:=X.wish E) hN hi hx hf pins s σ H v u (fun σ' H'=>σ'=σ.set i (some v)/\H'=H) (I.wish _) r ⟨rfl,rfl⟩) fun _ s1 ⟨σ',H',I',e1,e2⟩=>by
  subst e1 e2;exact ⟨_,I'.unwish,R.set i p⟩
noncomputable def cQ:List Nat->List D->DS->Option DS
 | [],[],δ=>some δ
 | i :: is,d :: ds,δ=>cQ is ds (δ.set i (some (.val d)))
 | _,_,_=>none
theorem Ej:∀{is:List Nat} {ds:List D} {δ δ':DS},cQ is ds δ=some δ'->ds.length=is.length
 | [],[],_,_,_=>rfl
 | [],_ :: _,_,_,h=>by simp [cQ] at h
 | _ :: _,[],_,_,h=>by simp [cQ] at h
 | i :: is,d :: ds,δ,δ',h=>by
  have:=Ej (is:=is) (ds:=ds) (by simpa [cQ] using h);simp [this]
noncomputable def yZ (X:Cx) (is:List Nat):qD:=fun vs σ H Q=>∃G δ ds δ',RepSt X.K G H σ δ/\Reps X.K H ds vs/\cQ is ds δ=some δ'/\∀σ',RepSt X.K G H σ' δ'->Q σ' H
theorem Ek:qF X [] (yZ X []):=by
 intro pins s σ H vs us Q I r h;obtain ⟨G,δ,ds,δ',R,p,e,q⟩:=h
 cases ds with
 | nil =>
  cases e
  exact Ig pins s σ H vs us Q I r ⟨p.nil_of,q σ R⟩
 | cons d ds=>cases e
theorem y_ (i:Nat) {is:List Nat} {x:Str} {es:List Expr} (hN:X.N.Nodup) (h2:qF X es (yZ X is)) (hi:X.N[i]? = some x:=by rfl) (hx:Loc X.env.scope x:=by first | exact Or.inl rfl | exact Or.inr rfl)
  (hf:X.fn x=true\/X.env.scope.names.lookup x=some .local:=by first | exact .inl rfl | exact .inr rfl | assumption) (hs:(assignEach (.Name x pos :: es) X.env).map (·.2)=assign (.Name x pos) X.env :: (assignEach es X.env).map (·.2):=by rfl) :
  qF X (.Name x pos :: es) (yZ X (i :: is)):=by
 intro pins s σ H vs us Q I r h;obtain ⟨G,δ,ds,δ',R,p,e,q⟩:=h
 cases ds with
 | nil=>cases e
 | cons d ds =>
  obtain ⟨v,ws,rfl,p1,p2⟩:=p.cons_of;exact Ih (Dd hN hi hx hf) h2 hs pins s σ H _ us Q I r ⟨v,ws,rfl,G,_,ds,δ',R.set i p1,p2,e,q⟩
noncomputable def bZ (is:List Nat):cX:=fun d δ=>match d with
 | .tup ds=>cQ is ds δ
 | _=>none
theorem El {es:List Expr} {k:Nat} {is:List Nat} (hc:X.calm=true) (h:∀E,qF (X.wish E) es (yZ X is)) (hn:(assignEach es X.env).length=is.length:=by rfl) (hst:(assignEach es X.env).findIdx? (·.1)=none:=by rfl):PGD X (.Tuple es k pos) (bZ is):=by
 intro E pins s σ G H δ δ' d v u I r R p e
 cases d with
 | tup ds =>
  obtain ⟨a,xs,rfl,w1,w2⟩:=cO p;exact cN (lF' (X:=X.wish E) hc (h E) hn hst pins s σ H _ u (fun σ' H'=>H'=H/\RepSt X.K G H σ' δ') (I.wish _) r ⟨a,xs,rfl,w1,by rw [w2.length]; exact Ej e,G,δ,ds,δ',R,w2,e,fun σ' R'=>⟨rfl,R'⟩⟩) fun _ s1 ⟨σ',H',I',e1,e2⟩=>by
   subst e1;exact ⟨σ',I'.unwish,e2⟩
 | _=>cases e
end
noncomputable def cZ (c:DS->Res Bool) (b:DS->Out):Nat->DS->Out
 | 0,_=>.stuck
 | n + 1,δ=>match c δ with
  | .ok true=>(match b δ with
   | .nxt δ'=>cZ c b n δ'
   | .cnt δ'=>cZ c b n δ'
   | .brk δ'=>.nxt δ'
   | .ret d=>.ret d
   | _=>.stuck)
  | .ok false=>.nxt δ
  | _=>.stuck
theorem Em (c:DS->Res Bool) (b:DS->Out):∀(n:Nat) (δ:DS) (x:Exn) (δ':DS),cZ c b n δ≠.err x δ'
 | 0,_,_,_,h=>by simp [cZ] at h
 | n + 1,δ,x,δ',h=>by
  rw [cZ] at h
  split at h
  ·split at h <;> first | exact Em c b n _ x δ' h | cases h
  ·cases h
  ·cases h
theorem ed' {X:Cx} {c:Expr} {body:List Stmt} {tc:DS->Res Bool} {fb:DS->Out} {pos:Pos} (fuel:DS->Nat) (hc:PTD X c tc) (hb:PSDs X body fb) :
  PSD X (.While c body [] pos) (fun δ=>cZ tc fb (fuel δ) δ):=by
 refine Bf (fun δ=>Em tc fb (fuel δ) δ) fun pins s σ H E I h=>?_;obtain ⟨G,δ,R,h⟩:=h;refine iq' PassesOwn.never hc.pt hb.ps pins s σ H E I ⟨fun m σ' H'=>∃δ',RepSt X.K G H' σ' δ'/\NOut X G H' (cZ tc fb m δ') E,⟨fuel δ,δ,R,h⟩,?_⟩
 rintro m σ1 H1 ⟨δ1,R1,h1⟩
 cases m with
 | zero=>exact h1.elim
 | succ m =>
  rw [cZ] at h1
  cases q:tc δ1 with
  | stuck=>simp only [q] at h1; exact h1.elim
  | err x=>simp only [q] at h1; exact h1.elim
  | ok k =>
   refine ⟨G,δ1,k,R1,q,fun H2 e2=>?_⟩
   cases k with
   | false =>
    simp only [q] at h1;rw [if_neg Bool.false_ne_true];exact h1 σ1 H2 e2.tk (R1.mono e2)
   | true =>
    simp only [q] at h1;rw [if_pos rfl];refine ⟨fun σ' H'=>∃δ',RepSt X.K G H' σ' δ'/\NOut X G H' (cZ tc fb m δ') E,fun σ' H' z=>⟨m,Nat.lt_succ_self m,z⟩,G,δ1,R1.mono e2,?_⟩
    cases z:fb δ1 with
    | stuck=>rw [z] at h1; exact h1
    | err x δ'=>rw [z] at h1; exact h1
    | nxt δ'=>rw [z] at h1; exact fun σ' H' t r=>⟨δ',r,h1.tk (e2.tk.trans t)⟩
    | cnt δ'=>rw [z] at h1; exact fun σ' H' t r=>⟨δ',r,h1.tk (e2.tk.trans t)⟩
    | brk δ'=>rw [z] at h1; exact fun σ' H' t r=>h1 σ' H' (e2.tk.trans t) r
    | ret d=>rw [z] at h1; exact fun v H' t g r=>h1 v H' (e2.tk.trans t) g r
noncomputable def bj (t:cX) (b:DS->Out):List D->DS->Out
 | [],δ=>.nxt δ
 | d :: ds,δ=>match t d δ with
  | none=>.stuck
  | some δ1=>match b δ1 with
   | .nxt δ'=>bj t b ds δ'
   | .cnt δ'=>bj t b ds δ'
   | .brk δ'=>.nxt δ'
   | .ret d=>.ret d
   | _=>.stuck
theorem Bg (t:cX) (b:DS->Out):∀(ds:List D) (δ:DS) (x:Exn) (δ':DS),bj t b ds δ≠.err x δ'
 | [],_,_,_,h=>by simp [bj] at h
 | d :: ds,δ,x,δ',h=>by
  rw [bj] at h
  split at h
  ·cases h
  ·split at h <;> first | exact Bg t b ds _ x δ' h | cases h
noncomputable def bQ (lo:Int):Nat->List D
 | 0=>[]
 | n + 1=>.int lo :: bQ (lo + 1) n
theorem Ky (lo:Int) (n i:Nat) (h:i < n):(bQ lo n).drop i=.int (lo + i) :: (bQ lo n).drop (i + 1):=by
 induction i generalizing lo n with
 | zero =>
  cases n with
  | zero=>omega
  | succ n=>simp [bQ]
 | succ i ih =>
  cases n with
  | zero=>omega
  | succ n =>
   have q:=ih (lo + 1) n (by omega);simp only [bQ,List.drop_succ_cons];rw [q];have:lo + 1 + (i:Int)=lo + ((i + 1:Nat):Int):=by omega
   rw [this]
theorem zc (lo:Int) (n:Nat):(bQ lo n).length=n:=by
 induction n generalizing lo with
 | zero=>rfl
 | succ n ih=>simp [bQ,ih]
noncomputable def gD (X:Cx) (t:cX):TG:=fun v σ H Q=>∃G δ d δ',RepSt X.K G H σ δ/\Rep X.K H d v/\t d δ=some δ'/\∀σ',RepSt X.K G H σ' δ'->Q σ' H
noncomputable def pK (r:Res (List D)) (k:List D->Out):Out:=match r with
 | .ok d=>k d
 | _=>.stuck
theorem En {r:Res (List D)} {k:List D->Out} (h:∀ds x δ',k ds≠.err x δ') (x:Exn) (δ':DS):pK r k≠.err x δ':=by
 cases r with
 | ok d=>exact h d x δ'
 | stuck=>intro z; cases z
 | err _=>intro z; cases z
section
variable {X:Cx} {tg iter:Expr} {body:List Stmt} {t:cX} {fb:DS->Out} {pos:Pos} {G H:Hp} {E:Ends}
theorem PGD.pg (h:PGD X tg t):PG X.nox tg (gD X t):=by
 intro pins s σ H v u Q I r hq;obtain ⟨G,δ,d,δ',R,p,e,q⟩:=hq;exact cN (h _ pins s σ G H δ δ' d v u I.unwish r R p e) fun _ s1 ⟨σ',I',R'⟩=>⟨σ',H,I'.wish _,q σ' R'⟩
theorem Eo {ds:List D} {d:D} {δ:DS} {v:V} {σ:St} {N:St->Hp->Prop} (R:RepSt X.K G H σ δ) (p:Rep X.K H d v) (h:NOut X G H (bj t fb (d :: ds) δ) E)
  (hN:∀δ' σ' H',TK H H'->RepSt X.K G H' σ' δ'->NOut X G H' (bj t fb ds δ') E->N σ' H'):gD X t v σ H fun σ2 H2=>sD X fb { E with nx:=N,ct:=N,bk:=E.nx } σ2 H2:=by
 rw [bj] at h
 cases z:t d δ with
 | none=>rw [z] at h; exact h.elim
 | some δ1 =>
  rw [z] at h;refine ⟨G,δ,d,δ1,R,p,z,fun σ' R'=>⟨G,δ1,R',?_⟩⟩;simp only at h
  cases q:fb δ1 with
  | stuck=>rw [q] at h; exact h
  | err x δ'=>rw [q] at h; exact h
  | nxt δ'=>rw [q] at h; exact fun σ2 H2 t2 r2=>hN δ' σ2 H2 t2 r2 (h.tk t2)
  | cnt δ'=>rw [q] at h; exact fun σ2 H2 t2 r2=>hN δ' σ2 H2 t2 r2 (h.tk t2)
  | brk δ'=>rw [q] at h; exact fun σ2 H2 t2 r2=>h σ2 H2 t2 r2
  | ret d=>rw [q] at h; exact fun v H2 t2 g r2=>h v H2 t2 g r2
noncomputable def gw:List D->Res (List D)
 | [.int j]=>if -(2 ^ 62)<=j/\j < 2 ^ 62 then .ok (bQ 0 j.toNat) else .stuck
 | _=>.stuck
theorem Kz {lo:Int} {n:Nat} {δ:DS} {σ:St} (R:RepSt X.K G H σ δ) (h:NOut X G H (bj t fb (bQ lo n) δ) E) :
  ∃W:Nat->Nat->St->Hp->Prop,(∃m,W 0 m σ H)/\∀i m σ H,W i m σ H ->
   ((pq lo n).stop i H/\E.nx σ H)\/((pq lo n).go i H/\∃N:St->Hp->Prop,(∀σ' H',N σ' H'->∃m',m' < m/\W (i + 1) m' σ' H')/\∀x H',(pq lo n).yld i H x H'->gD X t x σ H' fun σ2 H2=>sD X fb { E with nx:=N,ct:=N,bk:=E.nx } σ2 H2):=by
 refine Ir (fun i σ' H'=>∃δ',RepSt X.K G H' σ' δ'/\NOut X G H' (bj t fb ((bQ lo n).drop i) δ') E) ⟨δ,R,by simpa using h⟩ ?_ ?_
 ·rintro i σ1 H1 hi ⟨δ1,R1,h1⟩
  rw [Ky lo n i hi] at h1;exact Eo R1 iw h1 fun δ' σ' H' _ r z=>⟨δ',r,z⟩
 ·rintro σ1 H1 ⟨δ1,R1,h1⟩
  rw [List.drop_eq_nil_of_le (by rw [zc]; exact Nat.le_refl _)] at h1;exact h1 σ1 H1 (TK.refl H1) R1
theorem Ep {a:Expr} {fa:DS->Res (List D)} {p ps:Pos} (hc:X.calm=true) (hgl:Gl X "range") (hm:X.mg "range" = none) (ha:PAD X [a] fa) (hg:PGD X tg t) (hb:PSDs X body fb)
  (hs:starEach [a] X.env=[(false,eval a X.env)]:=by rfl) (hf:∀x,foldedSetIterable (.Call (.Name "range" p) [a] [] ps) X.env x=pure x:=by intro _; rfl) :
  PSD X (.For tg (.Call (.Name "range" p) [a] [] ps) body [] pos) (fun δ=>pK ((fa δ).bind gw) fun ds=>bj t fb ds δ):=by
 refine Bf (fun δ=>En fun ds=>Bg t fb ds δ) fun pins s σ H E I h=>?_;obtain ⟨G,δ,R,h⟩:=h;refine Aa (X:=X.nox) PassesOwn.never hc (Io (X:=X.nox) hgl hm ha.pa hs) hg.pg hb.ps hf pins s σ H E I ?_
 cases q:fa δ with
 | stuck=>simp only [q] at h; exact h.elim
 | err x=>simp only [q] at h; exact h.elim
 | ok ds =>
  simp only [q,Res.bind_ok] at h;refine ⟨G,δ,ds,R,q,fun vs H1 e1 p1=>?_⟩;unfold gw at h
  split at h
  ·rename_i j;obtain ⟨v,ws,rfl,w1,w2⟩:=p1.cons_of
   cases w2.nil_of
   cases bY w1
   split at h
   ·rename_i hj;exact ⟨j,rfl,hj.1,hj.2,Kz (R.mono e1) (h.tk e1.tk)⟩
   ·exact h.elim
  ·exact h.elim
end
theorem dc' (o:Obj) (f):(o.mapFields f).dict=o.dict:=by
 obtain ⟨c,d,dt,sl⟩:=o; cases dt <;> rfl
noncomputable def FlyT (h0:Heap) (H:Hp) (h:Heap) (e:Addr) (cls:Value×Option Addr) (fl:Value):Prop :=
 dI h0 e/\H e=none/\∃oe vs a0 T oT ts,h.get? e=some oe/\(oe.cls=cls.1/\oe.dict=cls.2)/\oe.data=.fields vs/\vs[0]? = some a0/\vs[1]? = some (.ref T)/\dI h0 T/\H T=none/\T≠e/\h.get? T=some oT/\oT.data=.fields ts/\ts[3]? = some fl
theorem FlyT.fly {h0:Heap} {H:Hp} {h:Heap} {e:Addr} {cls:Value×Option Addr} (f:FlyT h0 H h e cls .none):Fly h0 H h e cls:=by
 obtain ⟨n,he,oe,vs,a0,T,oT,ts,q1,q2,q3,q4,q5,q6⟩:=f;exact ⟨n,he,oe,vs,a0,q1,q2,q3,q4,.inr ⟨T,oT,ts,q5,q6⟩⟩
noncomputable def dq (h:Heap) (e b:Addr):Prop:=b=e\/∃oe vs,h.get? e=some oe/\oe.data=.fields vs/\vs[1]? = some (.ref b)
structure KF (e:Addr) (fs:List Addr) (h h':Heap):Prop where
 keep:∀b o,h.get? b=some o->b∉fs->¬dq h e b->h'.get? b=some o
 slot:∀b o,h.get? b=some o->b∈fs->¬dq h e b->∃sl,h'.get? b=some { o with slots:=sl }
 there:∀b o,h.get? b=some o->∃o',h'.get? b=some o'
theorem Fly.ex {h0 h:Heap} {H:Hp} {e b:Addr} {cls:Value×Option Addr} (f:Fly h0 H h e cls) (x:dq h e b):dI h0 b/\H b=none/\∃o vs,h.get? b=some o/\o.data=.fields vs:=by
 obtain ⟨n,he,oe,vs,a0,q1,q2,q3,q4,q5⟩:=f;rcases x with rfl | ⟨oe',vs',w1,w2,w3⟩
 ·exact ⟨n,he,oe,vs,q1,q3⟩
 ·rw [q1] at w1; cases w1;rw [q3] at w2; cases w2;rcases q5 with q5 | ⟨T,oT,ts,z1,z2,z3,z4,z5,z6,z7⟩
  ·rw [q5] at w3; cases w3
  ·rw [z1] at w3; cases w3;exact ⟨z2,z3,oT,ts,z5,z6⟩
theorem FlyT.ex {h0 h:Heap} {H:Hp} {e b:Addr} {cls:Value×Option Addr} {fl:Value} (f:FlyT h0 H h e cls fl) (x:dq h e b):dI h0 b/\H b=none/\∃o vs,h.get? b=some o/\o.data=.fields vs:=by
 obtain ⟨n,he,oe,vs,a0,T,oT,ts,q1,q2,q3,q4,z1,z2,z3,z4,z5,z6,z7⟩:=f;rcases x with rfl | ⟨oe',vs',w1,w2,w3⟩
 ·exact ⟨n,he,oe,vs,q1,q3⟩
 ·rw [q1] at w1; cases w1;rw [q3] at w2; cases w2;rw [z1] at w3; cases w3;exact ⟨z2,z3,oT,ts,z5,z6⟩
section
variable {M:Model} {A:Around} {E:Value->Shared->Prop} {s:Shared} {base h0:Heap} {H:Hp} {env:Env} {outer:List Env} {L e:Addr} {Q:Unit->Shared->Prop}
theorem Er {oe:Obj} {vs:Array Value} {head a0:Value} {hadNext:Bool}
  (hfr:A.frames=some (env :: outer)) (hl:s.heap.FunFrames base (env :: outer)) (hf:env.frame=some L) (hz:h0.objs.size<=s.heap.objs.size) (hn:∀b,s.heap.objs.size<=b->H b=none)
  (nr:dI h0 e) (hH:H e=none) (he:s.heap.get? e=some oe) (hd:oe.data=.fields vs) (hsz:1 < vs.size) (h0':vs[0]? = some a0)
  (h:∀h',(∀b o,b≠e->s.heap.get? b=some o->b∉(env :: outer).filterMap (·.frame)->h'.get? b=some o)->(∀b o,b≠e->s.heap.get? b=some o->∃sl,h'.get? b=some { o with slots:=sl })->FlyT h0 H h' e (oe.cls,oe.dict) (rawInt L)->(∀b,dq h' e b->b=e\/s.heap.objs.size<=b)->Q () { s with heap:=h' }) :
  wpAny M A (do let a <- frameOf env; let pl <- entryPlaceOf L hadNext; let b <- EntryCells.newEntry head a .none (rawInt L) .none pl; setField (.ref e) 1 b) Q E s:=by
 have hene:e∉(env :: outer).filterMap (·.frame):=fun hm=>by
  obtain ⟨_,o,ho,hnf⟩:=hl.mem hm;rw [he] at ho; injection ho with ho; subst ho; exact hnf vs hd
 refine wpAny_bind (wpAny_frameOf_fun hfr hl hf fun h₁ hs₁=>?_);refine wpAny_bind (wpAny_entryPlaceOf fun pl hpl=>?_);unfold EntryCells.newEntry newFields;refine wpAny_bind (wpAny_newObj_type ?_ (hpl.sizeOk5 _ _ _ _ _));have he₁:h₁.get? e=some oe:=(hs₁.2.1 e hene).trans he;generalize hob:({ cls:=.type "traceback",dict:=none,data:=.fields ([head,.ref L,.none,rawInt L,.none] ++ (if pl.isEmpty then List.replicate 6 Value.none else pl)).toArray }:Obj)=ob
 have hobd:ob.data=.fields ([head,.ref L,.none,rawInt L,.none] ++ (if pl.isEmpty then List.replicate 6 Value.none else pl)).toArray:=by rw [<- hob]
 have hobf:ob.isFreed=false:=Obj.isFreed_of_fields hobd;have he₂:=Heap.get?_push_of_some (h:=h₁) ob he₁;refine wpAny_setField he₂ hd hsz ?_;have hTe:h₁.objs.size≠e:=Nat.ne_of_gt (Heap.lt_size he₁);have hd₃:=Obj.data_mapFields hd (·.setIfInBounds 1 (Value.ref h₁.objs.size));have he₃:=Heap.get?_update_self (Obj.mapFields (·.setIfInBounds 1 (Value.ref h₁.objs.size))) he₂ (Obj.isFreed_of_fields hd₃);have hT₃:=(Heap.get?_update_other (h₁.push ob) (Obj.mapFields (·.setIfInBounds 1 (Value.ref h₁.objs.size))) (Ne.symm hTe)).trans (Heap.get?_push_size h₁ hobf);have keep:∀b o,b≠e->h₁.get? b=some o->((h₁.push ob).update e (Obj.mapFields (·.setIfInBounds 1 (Value.ref h₁.objs.size)))).get? b=some o:=fun b o hbe hb=>by
  rw [Heap.get?_update_other _ _ (Ne.symm hbe)];exact Heap.get?_push_of_some _ hb
 refine h _ (fun b o hbe hb hbf=>keep b o hbe ((hs₁.2.1 b hbf).trans hb)) (fun b o hbe hb=>?_) ⟨nr,hH,_,_,a0,h₁.objs.size,_,_,he₃,⟨Obj.cls_mapFields _ _,dc' _ _⟩,hd₃,?_,?_,?_,?_,hTe,hT₃,hobd,?_⟩ fun b hx=>?_
 ·obtain ⟨sl,hs⟩:=hs₁.2.2 b o hb;exact ⟨sl,keep b _ hbe hs⟩
 ·rw [Array.getElem?_setIfInBounds_ne (by decide)]; exact h0'
 ·simp [hsz]
 ·intro o vs' ho;have:=Heap.lt_size ho;rw [hs₁.1] at this;exact absurd this (Nat.not_lt.mpr hz)
 ·exact hn _ (by rw [hs₁.1]; exact Nat.le_refl _)
 ·simp
 ·rcases hx with z | ⟨oe',vs',w1,w2,w3⟩
  ·exact .inl z
  ·rw [he₃] at w1; cases w1;rw [hd₃] at w2; cases w2;have w4:(vs.setIfInBounds 1 (Value.ref h₁.objs.size))[1]? = some (.ref h₁.objs.size):=by simp [hsz]
   rw [w4] at w3; cases w3;exact .inr (by rw [hs₁.1]; exact Nat.le_refl _)
theorem Bh {cls:Value×Option Addr} {fl:Value} (f:FlyT h0 H s.heap e cls fl) (h:∀h',(∀b o,s.heap.get? b=some o->¬dq s.heap e b->h'.get? b=some o)->(∀b o,s.heap.get? b=some o->∃o',h'.get? b=some o')->FlyT h0 H h' e cls .none->(∀b,dq h' e b->dq s.heap e b)->Q () { s with heap:=h' }):wpAny M A (setFlight (.ref e) none) Q E s:=by
 obtain ⟨nr,hH,oe,vs,a0,T,oT,ts,he,hc,hd,h0',h1,nT,hT,hTe,gT,dT,h3⟩:=f;have hsz:=(Array.getElem?_eq_some_iff.mp h3).1;refine wpAny_setFlight_none he hd h1 gT dT hsz ?_;have other:∀b,b≠T->(s.heap.update T (Obj.mapFields (·.setIfInBounds 3 Value.none))).get? b=s.heap.get? b:=fun b hb=>Heap.get?_update_other _ _ (Ne.symm hb);have hd₃:=Obj.data_mapFields dT (·.setIfInBounds 3 Value.none);have hT₃:=Heap.get?_update_self (Obj.mapFields (·.setIfInBounds 3 Value.none)) gT (Obj.isFreed_of_fields hd₃);refine h _ (fun b o hb hk=>(other b ?_).trans hb) (fun b o hb=>?_) ⟨nr,hH,oe,vs,a0,T,_,_,(other e (Ne.symm hTe)).trans he,hc,hd,h0',h1,nT,hT,hTe,hT₃,hd₃,by simp [hsz]⟩ fun b hx=>?_
 ·rintro rfl
  exact hk (.inr ⟨oe,vs,he,hd,h1⟩)
 ·by_cases hbT:b=T
  ·subst hbT; exact ⟨_,hT₃⟩
  ·exact ⟨o,(other b hbT).trans hb⟩
 ·rcases hx with z | ⟨oe',vs',w1,w2,w3⟩
  ·exact .inl z
  ·exact .inr ⟨oe',vs',(other e (Ne.symm hTe)).symm.trans w1,w2,w3⟩
theorem Bj {cls:Value×Option Addr} (hfr:A.frames=some (env :: outer)) (hl:s.heap.FunFrames base (env :: outer)) (hf:env.frame=some L) (hz:h0.objs.size<=s.heap.objs.size) (hn:∀b,s.heap.objs.size<=b->H b=none)
  (fl:Fly h0 H s.heap e cls) (h:∀h',KF e ((env :: outer).filterMap (·.frame)) s.heap h'->FlyT h0 H h' e cls .none->(∀b,dq h' e b->b=e\/s.heap.objs.size<=b)->Q () { s with heap:=h' }):wpAny M A (noteFrame (.ref e) env) (fun _ s'=>wpAny M A (setFlight (.ref e) none) Q E s') E s:=by
 have hex:=fun {b}=>fl.ex (b:=b);obtain ⟨nr,hH,oe,vs,a0,he,⟨hc,hdd⟩,hd,h0',q⟩:=fl;obtain ⟨c1,c2⟩:=cls;dsimp only at hc hdd;subst hc hdd;unfold noteFrame;simp only [hf];have fin:∀(hm:Heap),(∀b o,s.heap.get? b=some o->¬dq s.heap e b->hm.get? b=some o)->(∀b o,b≠e->s.heap.get? b=some o->∃o',hm.get? b=some o') ->
   ∀h1,(∀b o,b≠e->hm.get? b=some o->b∉(env :: outer).filterMap (·.frame)->h1.get? b=some o)->(∀b o,b≠e->hm.get? b=some o->∃sl,h1.get? b=some { o with slots:=sl })->FlyT h0 H h1 e (oe.cls,oe.dict) (rawInt L)->(∀b,dq h1 e b->b=e\/s.heap.objs.size<=b) ->
   wpAny M A (setFlight (.ref e) none) Q E { s with heap:=h1 }:=by
  intro hm k1 k2 h1 k4 k5 f1 k6;have nx:∀b o,s.heap.get? b=some o->b≠e->¬dq h1 e b:=fun b o hb hbe hx=>by
   rcases k6 b hx with z | z
   ·exact hbe z
   ·exact absurd (Heap.lt_size hb) (Nat.not_lt.mpr z)
  refine Bh (s:={ s with heap:=h1 }) f1 fun h2 k7 k8 f2 k9=>h h2 ⟨fun b o hb hbf hx=>?_,fun b o hb hbf hx=>?_,fun b o hb=>?_⟩ f2 fun b hx=>k6 b (k9 b hx)
  ·have hbe:b≠e:=fun z=>hx (.inl z);exact k7 b o (k4 b o hbe (k1 b o hb hx) hbf) (nx b o hb hbe)
  ·have hbe:b≠e:=fun z=>hx (.inl z);obtain ⟨sl,q1⟩:=k5 b o hbe (k1 b o hb hx);exact ⟨sl,k7 b _ q1 (nx b o hb hbe)⟩
  ·by_cases hbe:b=e
   ·subst hbe;obtain ⟨_,_,oe',_,_,_,_,_,q1,_⟩:=f1;exact k8 b oe' q1
   ·obtain ⟨o',q1⟩:=k2 b o hbe hb;obtain ⟨sl,q2⟩:=k5 b o' hbe q1;exact k8 b _ q2
 rcases q with h1 | ⟨T,oT,ts,h1,nT,hT,hTe,gT,dT,h3⟩
 ·refine wpAny_bind (wpAny_field he hd h1 ?_);rw [if_neg (by decide)];exact Er hfr hl hf hz hn nr hH he hd (Array.getElem?_eq_some_iff.mp h1).1 h0' fun h1 k4 k5 f1 k6=>fin s.heap (fun b o hb _=>hb) (fun b o _ hb=>⟨o,hb⟩) h1 k4 k5 f1 k6
 ·refine wpAny_bind (wpAny_field he hd h1 ?_);rw [if_pos (show (Value.ref T != Value.none)=true from by simp)]
  refine wpAny_bind (wpAny_field gT dT h3 ?_);rw [if_neg (show ¬((Value.none == rawInt L)=true) from by simp [rawInt])]
  refine wpAny_bind (wpAny_setField gT dT (Array.getElem?_eq_some_iff.mp h3).1 ?_);have other:∀b,b≠T->(s.heap.update T (Obj.mapFields (·.setIfInBounds 3 Value.none))).get? b=s.heap.get? b:=fun b hb=>Heap.get?_update_other _ _ (Ne.symm hb);have noRecord:∀b o,s.heap.get? b=some o->(∀vs,o.data≠.fields vs)->b≠T:=fun b o hb hnf q=>by
   rw [q,gT] at hb; injection hb with hb; subst hb; exact hnf ts dT
  have hsize:(s.heap.update T (Obj.mapFields (·.setIfInBounds 3 Value.none))).objs.size=s.heap.objs.size:=by simp [Heap.update]
  have hl':(s.heap.update T (Obj.mapFields (·.setIfInBounds 3 Value.none))).FunFrames base (env :: outer):=hl.of_keeps fun b o hb hnf=>⟨o,(other b (noRecord b o hb hnf)).trans hb,rfl⟩;refine Er (s:={ s with heap:=s.heap.update T (Obj.mapFields (·.setIfInBounds 3 Value.none)) }) hfr hl' hf (by rw [hsize]; exact hz) (fun b hb=>hn b (by rw [hsize] at hb; exact hb)) nr hH ((other e (Ne.symm hTe)).trans he) hd (Array.getElem?_eq_some_iff.mp h1).1 h0' fun h1' k4 k5 f1 k6=>fin _ (fun b o hb hx=>(other b fun z=>?_).trans hb) (fun b o hbe hb=>?_) h1' k4 k5 f1 (by rw [hsize] at k6; exact k6)
  ·subst z; exact hx (.inr ⟨oe,vs,he,hd,h1⟩)
  ·by_cases hbT:b=T
   ·subst hbT; exact ⟨_,Heap.get?_update_self _ gT (Obj.isFreed_of_fields (Obj.data_mapFields dT (·.setIfInBounds 3 Value.none)))⟩
   ·exact ⟨o,(other b hbT).trans hb⟩
end
theorem KF.plain {e:Addr} {fs:List Addr} {h h':Heap} (k:KF e fs h h') {b:Addr} {o:Obj} (q:h.get? b=some o) (n:¬dq h e b):∃sl,h'.get? b=some { o with slots:=sl }:=by
 by_cases hb:b∈fs
 ·exact k.slot b o q hb n
 ·exact ⟨o.slots,k.keep b o q hb n⟩
theorem _root_.L2.Inv.kf {X:Cx} {pins:List (Addr×Obj)} {σ:St} {H:Hp} {s:Shared} {h':Heap} {t':Nat} {a:Addr} (I:Inv X pins σ H s) (k:KF a (frs X.stack) s.heap h')
  (hr:∀b,dq s.heap a b->(∀o vs,X.s₀.heap.get? b=some o->X.H₀ b=none->b∉X.fs->b∉X.ex->o.data≠.fields vs)/\H b=none/\(∃o vs,s.heap.get? b=some o/\o.data=.fields vs)/\∀p∈X.pn ++ pins,p.1≠b):Inv X pins σ H { s with heap:=h',toks:=t' }:=by
 have old:∀b,b < X.s₀.heap.objs.size->b∉X.fs->b∉frs X.stack:=fun b hb hf hs=>by
  rcases List.mem_cons.mp (I.stkSub b hs) with z | z
  ·subst z; exact absurd hb (Nat.not_lt.mpr I.ok.above)
  ·exact hf z
 have insub:∀b,b∈X.fs->b∈frs X.stack:=fun b hb=>by
  rcases I.ok.stk with z | ⟨z,hf⟩
  ·rw [z]; exact hb
  ·rw [z]; unfold frs; rw [List.filterMap_cons,hf]; exact List.mem_cons_of_mem _ hb
 have norec:∀b o,s.heap.get? b=some o->(∀vs,o.data≠.fields vs)->¬dq s.heap a b:=fun b o hb hd hx=>by
  obtain ⟨_,_,⟨o',vs,e1,e2⟩,_⟩:=hr b hx;rw [hb] at e1; cases e1;exact hd vs e2
 have cellk:∀{c:Addr} {v:Option Value},s.heap.IsCell c v->h'.IsCell c v:=fun {c v} ⟨o,e,d⟩=>by
  obtain ⟨sl,e1⟩:=k.plain e (norec c o e fun vs z=>by rw [d] at z; cases z);exact ⟨_,e1,d⟩
 refine ⟨I.ok,I.os,I.bare,⟨fun b o e n hb hx=>?_,fun b o e n hb hx=>?_,I.base.free,fun b o e hx=>?_,I.base.tups,I.base.frzs,I.base.tbls⟩,?_,fun x c e=>?_,I.free,I.freeC,fun p hpp=>?_,fun b u q=>?_,I.len⟩
 ·have q:=I.base.keep b o e n hb hx;refine k.keep b o q (old b (Heap.lt_size e) hb) fun z=>?_;obtain ⟨n1,_,⟨o',vs,e1,e2⟩,_⟩:=hr b z;rw [q] at e1; cases e1;exact n1 o vs e n hb hx e2
 ·obtain ⟨sl,q⟩:=I.base.slot b o e n hb hx;obtain ⟨_,o',ho,hd⟩:=I.funs.mem hb;rw [q] at ho; cases ho;obtain ⟨sl2,q2⟩:=k.slot b _ q (insub b hb) (norec b _ q hd);exact ⟨sl2,q2⟩
 ·obtain ⟨o',q⟩:=I.base.there b o e hx;exact k.there b o' q
 ·obtain ⟨m,⟨o,es,ep,ho,hd,r⟩,hl⟩:=I.loc;obtain ⟨sl,e1⟩:=k.plain ho (norec _ o ho fun vs z=>by rw [hd] at z; cases z);refine ⟨m,⟨_,es,ep,e1,hd,r⟩,fun i x v h1 h2 h3=>?_⟩;obtain ⟨u,r1,l⟩:=hl i x v h1 h2 h3;refine ⟨u,r1,?_⟩;rcases l with l | ⟨l1,c,l2,l3⟩
  ·exact .inl l
  ·exact .inr ⟨l1,c,l2,cellk l3⟩
 ·obtain ⟨v,q⟩:=I.cell x c e;exact ⟨v,cellk q⟩
 ·obtain ⟨e,n,ne,nf,d⟩:=I.pin p hpp;refine ⟨k.keep p.1 p.2 e (fun z=>?_) (fun z=>(hr p.1 z).2.2.2 p hpp rfl),n,ne,nf,d⟩;rcases List.mem_cons.mp (I.stkSub _ z) with w | w
  ·exact ne w
  ·exact nf w
 ·refine (I.hok b u q).stay (fun c v hc e=>?_) (fun _ z=>z) fun _ _ z=>z;have hH:H c≠none:=by
   rcases hc with rfl | hc
   ·rw [q]; intro z; cases z
   ·rw [hc]; intro z; cases z
  exact k.keep c v e (fun z=>hH (I.stkFree c z)) fun z=>hH (hr c z).2.1
noncomputable def cA (P:Program) (w:World):iV:=fun outer H s E e s'=>∃a Cv H',e=.ref a/\s'.os=s.os/\AllBare s'.gens/\Un (frs outer) [] H H' s.heap s'.heap/\HOk P w H' s'.heap/\∃dd,Fly s.heap H' s'.heap a (Cv,dd)/\E Cv dd H'
noncomputable def jU (K:PySem.W.Frag) (F:List D->Res D):Sp:=fun vs H Q E=>∃ds,Reps K H ds vs/\match F ds with
 | .stuck=>False
 | .ok d=>∀v H',Same H H'->Rep K H' d v->Q v H'
 | .err x=>∀C H' dd,PySem.W.nsIn K mainGlobals x.cls=some (some (.ref C))->Same H H'->vA K H' x dd->E (.ref C) dd H'
section
variable {X:Cx} {k:Nat} {f:Addr} {fd:FuncData} {ps:List Str} {F:List D->Res D} {x:Str} {p pos:Pos} {e:Expr} {es:List Expr} {fs:DS->Res (List D)}
theorem kw' (Fn:FnOk X.prog X.w X.K X.mg X.base (cA X.prog X.w) k f fd ps (jU X.K F)) (hr:Room k X.A) (hg:Gl X x) (hm:X.mg x=some (.ref f)) (hk:PySem.W.keepIn X.K (.ref f)=true) (hb:Binds X.K fd ps []) (ha:PAD X (e :: es) fs)
  (hdb:(x == ("__debug__" : Str))=false:=by decide) (he:starEach (e :: es) X.env=(false,eval e X.env) :: starEach es X.env:=by rfl) (hpl:(backTo pos (starEach es X.env)).any (·.1)=false:=by rfl) :
  PD X (.Call (.Name x p) (e :: es) [] pos) (fun δ=>(fs δ).bind F):=by
 intro pins s σ G H δ I R hs
 try dsimp only at hs ⊢
 refine wpAny_Call_Name_kw (j9 I hg hm ?_ hdb);refine PySem.W.callWith_K (h₀:=X.base) I.ok.mod.kin hk (ha.use I R (dF hs) (fun ds us s1 vs H1 q I1 r1 e1 b1 p1=>⟨I1.kIn,?_⟩) fun e s1 q=>q.same fun x z=>dU z) he hpl;have h2:=dX hs q;have ev:(fs δ).bind F=F ds:=by rw [q]; rfl
 cases qg:F ds with
 | stuck=>exact (h2 qg).elim
 | ok d =>
  have hsp:jU X.K F vs H1 (fun v H'=>Same H1 H'/\Rep X.K H' d v) (fun _ _ _=>False):=⟨ds,p1,by rw [qg]; exact fun v H' a b=>⟨a,b⟩⟩;have hl:us.length=ps.length:=by rw [<- r1.length]; exact Fn.len _ _ _ _ hsp
  refine wpAny_call (codeAny_mono (Fn.run X.A X.stack s1 H1 ⟨us,[]⟩ us vs _ _ hr I1.env0 (by simpa using hb s1 us I1.kIn (by simpa using hl)) r1 hsp) fun r s' hq=>?_)
  cases r with
  | error e=>obtain ⟨_,_,_,_,_,_,_,_,_,_,z⟩:=hq; exact z.elim
  | ok fl =>
   cases fl with
   | ret u =>
    obtain ⟨v,H',I',r',e',p'⟩:=I1.after hq;exact ⟨d,v,H',ev.trans qg,I',r',e1.trans e',p'⟩
   | next=>exact False.elim hq
   | brk=>exact False.elim hq
   | cont=>exact False.elim hq
 | err z =>
  have hsp:jU X.K F vs H1 (fun v H'=>False) (fun Cv dd H'=>∃C,Cv=.ref C/\PySem.W.nsIn X.K mainGlobals z.cls=some (some (.ref C))/\Same H1 H'/\vA X.K H' z dd):=⟨ds,p1,by rw [qg]; exact fun C H' dd a b c=>⟨C,rfl,a,b,c⟩⟩;have hl:us.length=ps.length:=by rw [<- r1.length]; exact Fn.len _ _ _ _ hsp
  refine wpAny_call (codeAny_mono (Fn.run X.A X.stack s1 H1 ⟨us,[]⟩ us vs _ _ hr I1.env0 (by simpa using hb s1 us I1.kIn (by simpa using hl)) r1 hsp) fun r s' hq=>?_)
  cases r with
  | error e =>
   obtain ⟨a,Cv,H',rfl,os,bare,un,hok,dd,fly,C,rfl,hC,sm,pay⟩:=hq;exact ⟨z,a,C,H',ev.trans qg,rfl,I1.call' (ch:=[]) os un hok bare (fun b z=>absurd z (by simp)),e1.trans sm,hC,dd,pay,fly.back e1.tk sm.tk b1⟩
  | ok fl =>
   cases fl with
   | ret u =>
    obtain ⟨v,H',_,_,_,_,_,z⟩:=hq;exact z.elim
   | next=>exact False.elim hq
   | brk=>exact False.elim hq
   | cont=>exact False.elim hq
end
noncomputable def bM (n N:Nat) (ds:List D):DS:=ds.map (fun d=>some (.arg d)) ++ List.replicate (N - n) none
noncomputable def outD:Out->Res D
 | .ret d=>.ok d
 | .nxt _=>.ok .non
 | .err x _=>.err x
 | _=>.stuck
noncomputable def bJ (n N:Nat) (body:DS->Out):List D->Res D:=fun ds=>if ds.length=n then outD (body (bM n N ds)) else .stuck
theorem zf {K:PySem.W.Frag} {H:Hp} {ds:List D} {vs:List V} (N:List Str) (r:Reps K H ds vs):RepSt K H H (start N vs) (bM ds.length N.length ds):=by
 have hl:=r.length;refine ⟨Same.refl H,?_,fun i sv e=>?_,fun i j as es v hij e1 e2=>?_⟩
 ·unfold L2.start bM;simp [hl]
 ·unfold bM at e
  by_cases hi:i < ds.length
  ·rw [List.getElem?_append_left (by simpa using hi),List.getElem?_map] at e
   cases q:ds[i]? with
   | none=>rw [q] at e; cases e
   | some d =>
    rw [q] at e;simp only [Option.map_some,Option.some.injEq] at e;subst e;obtain ⟨v,e1,e2⟩:=r.get q;refine ⟨v,?_,e2⟩;unfold L2.start;rw [List.getElem?_append_left (by simpa [hl] using hi),List.getElem?_map,e1];rfl
  ·rw [List.getElem?_append_right (by simpa using hi),List.getElem?_replicate] at e
   split at e <;> cases e
 ·exfalso;unfold bM at e1
  by_cases hi:i < ds.length
  ·rw [List.getElem?_append_left (by simpa using hi),List.getElem?_map] at e1
   cases q:ds[i]? with
   | none=>rw [q] at e1; cases e1
   | some d=>rw [q] at e1; cases e1
  ·rw [List.getElem?_append_right (by simpa using hi),List.getElem?_replicate] at e1
   split at e1 <;> cases e1
section
variable {P:Program} {w:World} {K:PySem.W.Frag} {mg:Str->Option Value} {base:Heap}
theorem ef' {N:List Str} {qual:Str} {scope:Scope} {f:Addr} {cdv:Value} {A:Around} {outer:List Env} {s:Shared} {H:Hp} {E:XK} {pins:List (Addr×Obj)} {σ':St} {H':Hp} {s':Shared} {a:Addr} {Cv:Value}
  (I:Inv (bN (cA P w) P w K mg base N qual scope f cdv A outer s H E) pins σ' H' s') {dd:Option Addr} (fl:Fly s.heap H' s'.heap a (Cv,dd)) (hE:E Cv dd H') :
  (bN (cA P w) P w K mg base N qual scope f cdv A outer s H E).xe (.ref a) s':=by
 show wpAny (model P w) (A.deeper (envOfC qual scope s.heap.objs.size f cdv)) (leaving (envOfC qual scope s.heap.objs.size f cdv) (.ref a)) (fun _ s''=>cA P w outer H s E (.ref a) s'') _ s';have hz:s.heap.objs.size<=s'.heap.objs.size:=I.sz;have hn:∀b,s'.heap.objs.size<=b->H' b=none:=fun b hb=>I.hok.fresh hb;unfold leaving;refine wpAny_bind (Bj (base:=base) I.ok.frames I.stack rfl hz hn fl fun h2 k2 f2 _=>?_);have I0:Inv (bN (cA P w) P w K mg base N qual scope f cdv A outer s H E) [] σ' H' s':=I.pins_of fun p hp=>absurd hp (by simp);have J:=I0.kf (h':=h2) (t':=s'.toks) k2 fun b hx=>by
  obtain ⟨n1,n2,n3⟩:=fl.ex hx;exact ⟨fun o vs e _ _ _=>n1 o vs e,n2,n3,fun p hp=>absurd (show p∈([]:List (Addr×Obj)) ++ [] from hp) (by simp)⟩
 exact ⟨a,Cv,H',rfl,I.os,I.bare,J.base,J.hok,dd,f2.fly,hE⟩
noncomputable def tB (X:Cx) (f:DS->Out):TS:=fun D σ H=>∃G δ,RepSt X.K G H σ δ/\f δ≠.stuck/\(∀pins fl s1,SPost X pins G H (f δ) fl s1->SP X pins D fl s1)/\∀pins s2 e s1,Inv X pins σ H s2->SX X pins G H s2.heap (f δ) e s1->X.xe e s1
theorem PSDs.tb {X:Cx} {st:List Stmt} {f:DS->Out} (h:PSDs X st f):PSs X st (tB X f):=by
 intro pins s σ H D I ⟨G,δ,R,n,k1,k2⟩;exact wpAny_mono (h pins s σ G H δ I R n) (fun fl s1 p=>k1 pins fl s1 p) fun e s1 p=>k2 pins s e s1 I p
theorem Bm {x qual:Str} {st:Stmt} {f:Addr} {fd:FuncData} {N ps:List Str} {k:Nat} {body:DS->Out} (F:Fun K x qual st f fd) (S:FnScope N ps (ao st))
  (hb:∀(cdv:Value) (A:Around) (outer:List Env) (s:Shared) (H:Hp) (E:XK),Room k (A.deeper (envOfC qual (ao st) s.heap.objs.size f cdv))->PSDs (bN (cA P w) P w K mg base N qual (ao st) f cdv A outer s H E) (aD st) body) :
  FnOk P w K mg base (cA P w) (k + 1) f fd ps (jU K (bJ ps.length N.length body)):=by
 obtain ⟨oc,od,kV,doc,pm,an,cdv,ct,osl,rfl,lk,hcd⟩:=F.ex;refine pC lk hcd S (fun vs H Q E ⟨ds,r,h⟩=>?_) fun A outer s H vs Q E hr hsp=>?_
 ·rw [r.length];unfold bJ at h
  by_cases c:ds.length=ps.length
  ·exact c
  ·rw [if_neg c] at h; exact h.elim
 ·obtain ⟨ds,r,h⟩:=hsp;have c:ds.length=ps.length:=by
   unfold bJ at h
   by_cases c:ds.length=ps.length
   ·exact c
   ·rw [if_neg c] at h; exact h.elim
  have ev:bJ ps.length N.length body ds=outD (body (bM ds.length N.length ds)):=by unfold bJ; rw [if_pos c,c]
  rw [ev] at h;refine ⟨_,(hb cdv A outer s H E hr).tb,H,bM ds.length N.length ds,zf N r,fun z=>?_,fun pins fl s1 p=>?_,fun pins s2 e s1 I p=>?_⟩
  ·rw [z] at h; exact h
  ·cases fl with
   | next =>
    obtain ⟨δ',σ',H',q1,q2,q3,q4⟩:=p;rw [q1] at h;exact ⟨σ',H',q2,h .non H' q4.same Az⟩
   | brk=>obtain ⟨δ',σ',H',q1,_⟩:=p; rw [q1] at h; exact h.elim
   | cont=>obtain ⟨δ',σ',H',q1,_⟩:=p; rw [q1] at h; exact h.elim
   | ret u =>
    obtain ⟨d,v,σ',H',q1,q2,q3,q4,q5,q6⟩:=p;rw [q1] at h;exact ⟨v,σ',H',q2,q5,h v H' q4 q6⟩
  ·obtain ⟨x,δ',a,C,σ',H',q1,rfl,q3,q4,q5,q6,dd,pay,q7⟩:=p;rw [q1] at h;refine ef' q3 ?_ (h C H' dd q6 q5.same pay);refine q7.back (h0:=s.heap) (H0:=H) (H1:=H) (TK.refl H) q4 fun e n z o vs ho hd=>?_
   by_cases hf:e∈frs outer
   ·obtain ⟨_,o',ho',hd'⟩:=I.ok.funs.mem hf;have ho2:s.heap.get? e=some o':=ho';rw [ho] at ho2
    cases ho2
    exact hd' vs hd
   ·exact z o vs (I.base.keep e o ho n hf (by intro z; exact absurd z (by show e∉([]:List Addr); simp))) hd
end
theorem KC {K:PySem.W.Frag} {h₀:Heap} {mg:Str->Option Value} {x:Str} {C:Addr} {bmB:List Value} {newId:String} (X:K.In h₀) (hm:mg x=some (.ref C)) (q:PySem.W.excIn K C bmB newId=true):OwnCls x C bmB newId mg h₀:=by
 refine ⟨hm,?_⟩;unfold PySem.W.excIn at q
 split at q
 ·rename_i dd cd sl ho
  split at q
  ·rename_i C' bm k0 k1 k2 k3 n k5 hm hs;simp only [Bool.and_eq_true,beq_iff_eq,Bool.not_eq_true'] at q;obtain ⟨⟨⟨⟨⟨rfl,rfl⟩,hdel⟩,ht⟩,hok⟩,hni⟩:=q;obtain ⟨nm,bs,mro,ns,qn,hd,sn,sub,ab,col,del⟩:=cd;dsimp only at hm hdel hok hni;subst hm hdel;have hsl:sl = #[k0,k1,k2,k3,some (.builtin n),k5]:=by
    obtain ⟨l⟩:=sl;simp only at hs;rw [hs]
   subst hsl;exact ⟨bm,ns,nm,qn,bs,hd,sn,sub,ab,col,dd,k0,k1,k2,k3,k5,_,X _ _ ho,.of_isNs (PySem.W.isNs_of_in X hok),PySem.W.nsMap_none_of_in X hok hni,PySem.W.tail_of_in X ht⟩
  ·cases q
 ·cases q
noncomputable def cR (x:Str) (fs:DS->Res (List D)):DS->Out:=fun δ=>match fs δ with
 | .ok _=>.err ⟨x,none⟩ δ
 | .err y=>.err y δ
 | .stuck=>.stuck
section
variable {X:Cx} {e:Expr} {es:List Expr} {fs:DS->Res (List D)} {np cpos pos:Pos} {x:Str} {C:Addr} {B newId initId:String} {bmB:List Value}
theorem Bo (hc:X.calm=true) (FB:ExcBaseFacts B newId initId bmB) (hx:PySem.W.nsIn X.K mainGlobals x=some (some (.ref C))) (q:PySem.W.excIn X.K C bmB newId=true) (hg:Gl X x) (hm:X.mg x=some (.ref C)) (ha:PAD X (e :: es) fs) (hsz:(e :: es).length<=100)
  (hdb:(x == ("__debug__" : Str))=false:=by decide) (he:starEach (e :: es) X.env=(false,eval e X.env) :: starEach es X.env:=by rfl) (hplain:(backTo cpos (starEach es X.env)).any (·.1)=false:=by rfl) (hlen:∀δ ds,fs δ=.ok ds->ds.length<=sizeLine) :
  PSD X (.Raise (some (.Call (.Name x np) (e :: es) [] cpos)) none pos) (cR x fs):=by
 intro pins s σ G H δ I R hs
 try dsimp only at hs ⊢
 have hs':fs δ≠.stuck:=fun z=>hs (by unfold cR; rw [z]);obtain ⟨tl,N,nm,qn,bs,hdct,sn,sub,ab,col,dd,k0,k1,k2,k3,k5,mN,hC,hN,hni,T⟩:=(KC I.ok.mod.kin hm q).obj;refine wpAny_Raise_call_subT (C:=C) (nm:=nm) (q:=qn) (N:=N) (bs:=bs) (bm:=tl) (hdct:=hdct) (sn:=sn) (sub:=sub) (ab:=ab) (col:=col) (dd:=dd) (k0:=k0) (k1:=k1) (k2:=k2) (k3:=k3) (k5:=k5)
  FB (mN:=mN) (T.hasType FB.hasBase) (I.ok.hd hc) (by rw [he]; show (false || (backTo cpos (starEach es X.env)).any (·.1))=false; rw [hplain]; rfl) hni (j9 I hg hm ⟨rfl,?_⟩ hdb)
 have ha':=fun {P:List Value->Shared->Prop} {E:Value->Shared->Prop} k kx=>PAD.use (pos:=cpos) (P:=P) (E:=E) ha I R hs' k kx;rw [he] at ha' ⊢;refine Calls.evalArgs_plain (ha' (fun ds us s1 vs H1 q1 I1 r1 e1 b1 p1=>⟨rfl,?_,I1.bk _ _ hC,hN.keeps I1.bk,T.keeps I1.bk,fun h' a hme=>?_⟩) fun e s1 p=>?_)
 ·rw [<- r1.length,p1.length]; exact hlen δ ds q1
 ·obtain ⟨t,ht,ht2,ht3⟩:=hme.there;have hn:H1 a=none:=by
   cases z:H1 a with
   | none=>rfl
   | some u =>
    obtain ⟨ob,q⟩:=obj_some (I1.hok a u z);rw [hme.new] at q; cases q
  refine ⟨⟨x,none⟩,δ,a,C,σ,H1,by unfold cR; rw [q1],rfl,I1.kept (t':=s1.toks) hme.keeps,e1.tk,R.mono e1,hx,?_⟩;refine ⟨none,rfl,b1 a (e1.free hn) (fun o vs ho=>by rw [hme.new] at ho; cases ho),hn,_,_,_,ht,⟨rfl,rfl⟩,rfl,rfl,.inl rfl⟩
 ·exact p.sx R fun x z=>by unfold cR; rw [z]
end
theorem _root_.L2.Inv.goes {X:Cx} {pins:List (Addr×Obj)} {σ:St} {H:Hp} {s:Shared} {M:Model} {A:Around} {E:Value->Shared->Prop} {Q:Unit->Shared->Prop} {i:Nat} {n:Str} {pos:Pos}
  (I:Inv X pins σ H s) (hN:X.N.Nodup) (hi:X.N[i]? = some n) (hk:X.env.scope.names.lookup n=some .local) (h:∀s',Inv X pins (σ.set i none) H s'->Q () s'):wpAny M A (do bindName X.env n .none; unbindBehindTheSuite X.env n pos) Q E s:=by
 obtain ⟨m,hn,hl⟩:=id I.loc;have hcls:(X.env.scope.kind == .class || (X.env.scope.kind == .module && X.env.locals != X.env.globals))=false:=by rw [I.ok.kind]; rfl
 have cne:=I.cne;refine wpAny_nameGoes_keeps hk hn hcls fun h' v hn' hs=>h _ ?_;obtain ⟨oL,_,_,hoL,_⟩:=id hn;have tracked:HOk X.prog X.w H h':=fun b ob e=>by
  refine (I.hok b ob e).stay (fun c w' hc q=>(hs.2 c ?_).trans q) (fun _ q=>q) fun _ _ q=>q
  rintro rfl
  rcases hc with rfl | hc
  ·rw [I.free] at e; cases e
  ·rw [I.free] at hc; cases hc
 refine ⟨I.ok,I.os,I.bare,⟨fun b o e n hb hx=>?_,fun b o e n hb hx=>?_,I.base.free,fun b o e hx=>?_,I.base.tups,I.base.frzs,I.base.tbls⟩,⟨_,hn',fun j y v' e1 e2 e3=>?_⟩,fun y c e=>?_,I.free,I.freeC,fun p hp=>?_,tracked,by simpa using I.len⟩
 ·exact (hs.2 b (Nat.ne_of_lt (Nat.lt_of_lt_of_le (Heap.lt_size e) I.ok.above))).trans (I.base.keep b o e n hb hx)
 ·obtain ⟨sl,e1⟩:=I.base.slot b o e n hb hx;exact ⟨sl,(hs.2 b (Nat.ne_of_lt (Nat.lt_of_lt_of_le (Heap.lt_size e) I.ok.above))).trans e1⟩
 ·obtain ⟨o',e1⟩:=I.base.there b o e hx;exact ⟨o',(hs.2 b (Nat.ne_of_lt (Nat.lt_of_lt_of_le (Heap.lt_size e) I.ok.above))).trans e1⟩
 ·by_cases hj:j=i
  ·subst hj;rw [List.getElem?_set] at e2
   split at e2
   ·split at e2 <;> cases e2
   ·rename_i z; exact absurd rfl z
  ·rw [List.getElem?_set_ne (Ne.symm hj)] at e2;obtain ⟨u',r',q⟩:=hl j y v' e1 e2 e3;refine ⟨u',r',?_⟩;rcases q with ⟨k,e⟩ | ⟨k,c,e,z⟩
   ·refine .inl ⟨k,?_⟩;have:y≠n:=fun e=>hj (zU hN e1 (e ▸ hi));simp [this,e]
   ·exact .inr ⟨k,c,e,z.sameBut hs (cne y c e)⟩
 ·obtain ⟨w',z⟩:=I.cell y c e;exact ⟨w',z.sameBut hs (cne y c e)⟩
 ·obtain ⟨e,n,ne,nf,d⟩:=I.pin p hp;exact ⟨(hs.2 p.1 ne).trans e,n,ne,nf,d⟩
theorem RepSt.clear {K:PySem.W.Frag} {G H:Hp} {σ:St} {δ:DS} (R:RepSt K G H σ δ) (i:Nat):RepSt K G H (σ.set i none) (δ.set i none) where
 same:=R.same
 len:=by simpa using R.len
 at_:=fun j sv e=>by
  by_cases hj:i=j
  ·subst hj;rw [List.getElem?_set] at e
   split at e
   ·split at e <;> cases e
   ·rename_i z; exact absurd rfl z
  ·rw [List.getElem?_set_ne hj] at e;obtain ⟨u,e1,e2⟩:=R.at_ j sv e;exact ⟨u,by rw [List.getElem?_set_ne hj]; exact e1,e2⟩
 sep:=fun j k ds es u hjk e1 e2 e3=>by
  have n1:i≠j:=by
   rintro rfl
   rw [List.getElem?_set] at e1
   split at e1
   ·split at e1 <;> cases e1
   ·omega
  have n2:i≠k:=by
   rintro rfl
   rw [List.getElem?_set] at e2
   split at e2
   ·split at e2 <;> cases e2
   ·omega
  rw [List.getElem?_set_ne n1] at e1 e3;rw [List.getElem?_set_ne n2] at e2;rw [List.getElem?_set_ne n2];exact R.sep j k ds es u hjk e1 e2 e3
abbrev _root_.L2.Cx.marked (X:Cx) (a:Addr):Cx:={ X with A:=X.A.mark (some (.ref a)),calm:=false }
theorem _root_.L2.Inv.marked {X:Cx} {pins:List (Addr×Obj)} {σ:St} {H:Hp} {s:Shared} (I:Inv X pins σ H s) (a:Addr):Inv (X.marked a) pins σ H s :=
 ⟨⟨I.ok.mod,I.ok.kind,I.ok.glob,I.ok.blt,I.ok.above,I.ok.inj,I.ok.has,I.ok.cab,fun z=>(by cases z),I.ok.frames,I.ok.stk,I.ok.exf,I.ok.bs,I.ok.bsz,I.ok.noex,I.ok.exfs,I.ok.funs,I.ok.frf⟩,I.os,I.bare,I.base,I.loc,I.cell,I.free,I.freeC,I.pin,I.hok,I.len⟩
theorem _root_.L2.Inv.unmarked {X:Cx} {pins:List (Addr×Obj)} {σ:St} {H:Hp} {s:Shared} {a:Addr} (ok:X.Ok) (I:Inv (X.marked a) pins σ H s):Inv X pins σ H s :=
 ⟨ok,I.os,I.bare,I.base,I.loc,I.cell,I.free,I.freeC,I.pin,I.hok,I.len⟩
theorem _root_.L2.Inv.track {X:Cx} {pins:List (Addr×Obj)} {σ:St} {H:Hp} {s:Shared} {a:Addr} {o:HO} (I:Inv X pins σ H s) (hn:H a=none) (h0:∀ob,X.s₀.heap.get? a=some ob->X.H₀ a=none->a∈X.ex) (hl:a≠X.env.locals) (hc:∀x c,X.env.cells.lookup x=some c->c≠a) (hp:∀p∈X.pn ++ pins,p.1≠a)
  (new:ObjOk X.prog X.w (upd H a o) s.heap a o):Inv X pins σ (upd H a o) s:=by
 refine ⟨I.ok,I.os,I.bare,⟨I.base.keep,I.base.slot,fun b ob e n hx=>?_,I.base.there,fun b xs e=>?_,fun b ob u e=>?_,fun b ps e=>?_⟩,I.loc,I.cell,?_,fun x c e=>?_,fun p hpp=>?_,fun b u q=>?_,I.len⟩
 ·rw [aL (fun z=>?_)]
  ·exact I.base.free b ob e n hx
  ·subst z;exact hx (h0 ob e n)
 ·rw [aL (jP (I.base.tups b xs e) hn)]; exact I.base.tups b xs e
 ·rw [aL (jP (I.base.frzs b ob u e) hn)]; exact I.base.frzs b ob u e
 ·obtain ⟨more,q⟩:=I.base.tbls b ps e;exact ⟨more,by rw [aL (jP q hn)]; exact q⟩
 ·rw [aL (Ne.symm hl)]; exact I.free
 ·rw [aL (hc x c e)]; exact I.freeC x c e
 ·obtain ⟨e,n,ne,nf,d⟩:=I.pin p hpp;exact ⟨e,by rw [aL (hp p hpp)]; exact n,ne,nf,d⟩
 ·by_cases hb:b=a
  ·subst hb; rw [bR] at q; cases q; exact new
  ·rw [aL hb] at q;refine (I.hok b u q).stay (fun c v _ e=>e) (fun c z=>?_) fun c xs z=>?_
   ·rw [aL (jP z hn)]; exact z
   ·rw [aL (jP z hn)]; exact z
noncomputable def Exn.toD (x:Exn):D:=match x.pay with
 | none=>.exc x.cls
 | some (f,d)=>.excf x.cls f d
noncomputable def fM (i:Nat) (sub:Str->Option Bool) (fb fsu:DS->Out):DS->Out:=fun δ=>match fb δ with
 | .err x δ'=>(match sub x.cls with
  | some true=>(match fsu (δ'.set i (some (.val x.toD))) with
   | .nxt δ2=>.nxt (δ2.set i none)
   | .ret d=>.ret d
   | _=>.stuck)
  | _=>.stuck)
 | o=>o
noncomputable def noObjs (h:Heap):Heap:={ h with objs:=#[] }
theorem zg (h:Heap) (b:Addr):dI (noObjs h) b:=fun o vs e=>absurd (Heap.lt_size e) (Nat.not_lt_zero _)
section
variable {X:Cx} {body suite:List Stmt} {b₀:Stmt} {fb fsu:DS->Out} {sub:Str->Option Bool} {n c:Str} {C':Addr} {cp hpos pos:Pos}
theorem kz' (i:Nat) (hcalm:X.calm=true) (hst:X.stack=X.env :: X.outer/\X.env.frame=some X.env.locals) (hN:X.N.Nodup) (hcn:Gl X c) (hcm:X.mg c=some (.ref C'))
  (hsub:∀x C,PySem.W.nsIn X.K mainGlobals x=some (some (.ref C))->sub x=some true->PySem.W.exmOne X.K (.ref C) (.ref C')=some true) (hb:PSDs X body fb) (hsu:∀a,PSDs (X.marked a) (b₀ :: suite) fsu)
  (hi:X.N[i]? = some n:=by rfl) (hk:X.env.scope.names.lookup n=some .local:=by rfl) (hdb:(c == ("__debug__" : Str))=false:=by decide) :
  PSD X (.Try body [.ExceptHandler (some (.Name c cp)) (some n) (b₀ :: suite) hpos] [] [] pos) (fM i sub fb fsu):=by
 intro pins s σ G H δ I R hs;have hfb:fb δ≠.stuck:=fun z=>hs (by unfold fM; rw [z]);refine wpAny_Try_except (Be (fun pins I=>hb pins s σ G H δ I R hfb) I (fun fl s1 p b=>?_) fun e s1 p=>?_)
 ·cases fl with
  | next=>obtain ⟨δ',σ',H',q1,q2⟩:=p; exact wpAny_execs_nil ⟨δ',σ',H',by unfold fM; rw [q1],q2⟩
  | brk=>obtain ⟨δ',σ',H',q1,q2⟩:=p; exact ⟨δ',σ',H',by unfold fM; rw [q1],q2⟩
  | cont=>obtain ⟨δ',σ',H',q1,q2⟩:=p; exact ⟨δ',σ',H',by unfold fM; rw [q1],q2⟩
  | ret u=>obtain ⟨d,v,σ',H',q1,q2⟩:=p; exact ⟨d,v,σ',H',by unfold fM; rw [q1],q2⟩
 ·obtain ⟨x,δ',a,C,σ',H',q1,rfl,I1,tk1,R1,hC,dd,pay,fly⟩:=p;have hsx:sub x.cls=some true:=by
   cases z:sub x.cls with
   | none=>exact (hs (by unfold fM; rw [q1]; simp only [z])).elim
   | some k =>
    cases k with
    | true=>rfl
    | false=>exact (hs (by unfold fM; rw [q1]; simp only [z])).elim
  have ev:fM i sub fb fsu δ=(match fsu (δ'.set i (some (.val x.toD))) with
   | .nxt δ2=>.nxt (δ2.set i none)
   | .ret d=>.ret d
   | _=>.stuck):=by unfold fM; rw [q1]; simp only [hsx]
  have hfs:fsu (δ'.set i (some (.val x.toD)))≠.stuck:=fun z=>hs (by rw [ev,z]);have flyE:Fly (noObjs s.heap) H' s1.heap a (.ref C,dd):=by
   obtain ⟨_,w2,oe,vs,a0,w3,w4,w5,w6,w7⟩:=fly;refine ⟨zg _ _,w2,oe,vs,a0,w3,w4,w5,w6,?_⟩;rcases w7 with w7 | ⟨T,oT,ts,z1,z2,z3⟩
   ·exact .inl w7
   ·exact .inr ⟨T,oT,ts,z1,zg _ _,z3⟩
  have own:∀b,dq s1.heap a b->(∀o,X.s₀.heap.get? b=some o->X.H₀ b=none->b∈X.ex)/\H' b=none/\(∃o vs,s1.heap.get? b=some o/\o.data=.fields vs)/\∀p∈X.pn ++ pins,p.1≠b:=fun b hx=>by
   obtain ⟨n1,n2,o1,vs1,g1,d1⟩:=fly.ex hx;refine ⟨fun o e n=>?_,n2,⟨o1,vs1,g1,d1⟩,fun p hp z=>?_⟩
   ·by_cases hxx:b∈X.ex
    ·exact hxx
    ·exfalso
     by_cases hf:b∈X.fs
     ·exact I1.fs_rec hf g1 d1
     ·have k1:=I1.base.keep b o e n hf hxx;have k0:=I.base.keep b o e n hf hxx;rw [g1] at k1; cases k1;exact n1 o1 vs1 k0 d1
   ·subst z;have k1:=(I1.pin p hp).1;have k0:=(I.pin p hp).1;rw [g1] at k1;rw [<- Option.some.inj k1] at k0;exact n1 o1 vs1 k0 d1
  have hfr:X.A.frames=some (X.env :: X.outer):=by rw [I.ok.frames,hst.1]
  have hfun:s1.heap.FunFrames X.base (X.env :: X.outer):=by have:=I1.stack; rw [hst.1] at this; exact this
  have hfs':(X.env :: X.outer).filterMap (·.frame)=frs X.stack:=by rw [hst.1]; rfl
  refine Bj (base:=X.base) hfr hfun hst.2 (Nat.zero_le _) (fun b hb=>I1.hok.fresh hb) flyE fun h2 k2 f2 new2=>?_;rw [hfs'] at k2;have J:=I1.kf (t':=s1.toks) k2 fun b hx=>by
   obtain ⟨w1,w2⟩:=own b hx;exact ⟨fun o vs e n _ hxx=>absurd (w1 o e n) hxx,w2⟩
  have own2:∀b,dq h2 a b->(∀o,X.s₀.heap.get? b=some o->X.H₀ b=none->b∈X.ex)/\H' b=none/\(∃o vs,h2.get? b=some o/\o.data=.fields vs)/\∀p∈X.pn ++ pins,p.1≠b:=fun b hx=>by
   obtain ⟨_,n2,n3⟩:=f2.ex hx;rcases new2 b hx with z | z
   ·subst z;obtain ⟨w1,_,_,w4⟩:=own b (.inl rfl);exact ⟨w1,n2,n3,w4⟩
   ·refine ⟨fun o e _=>absurd (Nat.lt_of_lt_of_le (Heap.lt_size e) (Nat.le_trans I1.sz z)) (Nat.lt_irrefl _),n2,n3,fun p hp w=>?_⟩;have:=Heap.lt_size (I1.pin p hp).1;rw [w] at this;exact absurd this (Nat.not_lt.mpr z)
  have exf2:=f2;obtain ⟨_,hHa,oe,vs,a0,T,oT,ts,ge,⟨ce,dde⟩,de,rest⟩:=exf2;have Jm:=J.marked a;refine wpAny_handleBy_cons (codeAny_handlers_test (j9 (X:=X.marked a) Jm hcn hcm ?_ hdb)) (by intro q; cases q);have LT:PySem.W.Looks (model X.prog X.w) h2 (typeOf (.ref a)) (.ref C):=by
   have ce:oe.cls=.ref C:=ce;rw [<- ce];exact (PySem.W.Looks.ld ge).andThen .now
  refine PySem.W.exm_one J.kIn LT (hsub x.cls C hC hsx) _ _ _ _ (fun _ _ e=>e) ?_;refine codeAny_handlers_suite_as ?_;refine Bh (s:={ s1 with heap:=h2,toks:=s1.toks }) f2 fun h3 k3 k3' f3 in3=>?_
  have J3:Inv (X.marked a) pins σ' H' { s1 with heap:=h3,toks:=s1.toks }:=by
   have q:=L2.Inv.kf (X:=X.marked a) (s:={ s1 with heap:=h2,toks:=s1.toks }) (h':=h3) (t':=s1.toks) (a:=a) Jm ⟨fun b o hb _ hx=>k3 b o hb hx,fun b o hb _ hx=>⟨o.slots,k3 b o hb hx⟩,k3'⟩ fun b hx=>by
    obtain ⟨w1,w2⟩:=own2 b hx;exact ⟨fun o vs e n _ hxx=>absurd (w1 o e n) hxx,w2⟩
   exact q
  obtain ⟨_,_,oe3,vs3,_,_,_,_,ge3,⟨ce3,dde3⟩,de3,_⟩:=f3;have hHa':H' a=none:=hHa;have J4:=J3.track (o:=.ext (excAt a C dd)) hHa' (own a (.inl rfl)).1 (fun z=>by
    have g:h3.get? (X.marked a).env.locals=some oe3:=by rw [<- z]; exact ge3
    exact J3.locals_dict g de3) (fun y c' e z=>by
    obtain ⟨v,o,g,d⟩:=J3.cell y _ e;have g':h3.get? a=some o:=by rw [<- z]; exact g
    rw [ge3] at g'; cases g';rw [de3] at d; cases d) (own a (.inl rfl)).2.2.2
   ⟨⟨oe3,vs3,ge3,ce3,dde3,de3⟩,⟨oe3,ge3⟩,fun ha hb ⟨o,vs,g,q⟩ k=>⟨o,vs,k o g,q⟩⟩
  have sm:=gb hHa' (.ext (excAt a C dd));refine uB (X:=X.marked a) J4 hN hi (Or.inl hk) (v:=.ref a) (u:=.ref a) rfl (fun s4 I4=>?_) (Or.inr hk);have R4:RepSt X.K G (upd H' a (.ext (excAt a C dd))) (σ'.set i (some (.ref a))) (δ'.set i (some (.val x.toD))) :=
   (R1.mono sm).set i (by
    unfold Exn.toD;unfold vA at pay
    cases z:x.pay with
    | none =>
     rw [z] at pay;have pay:dd=none:=pay;subst pay;rw [Rep]; exact ⟨a,C,rfl,hC,bR⟩
    | some fd =>
     obtain ⟨f,d⟩:=fd;rw [z] at pay;obtain ⟨dx,u,rfl,w1,w2⟩:=pay;rw [Rep]; exact ⟨a,C,dx,u,rfl,hC,bR,sm _ _ w1,w2.mono sm⟩)
  refine wpAny_mono (hsu a pins s4 _ G _ _ I4 R4 hfs) (fun fl s5 p=>?_) fun e s5 p=>?_
  ·cases fl with
   | next =>
    obtain ⟨δ2,σ2,H2,q2,I5,t5,R5⟩:=p;refine (I5.unmarked I.ok).goes hN hi hk fun s6 I6=>?_;exact ⟨δ2.set i none,_,H2,by rw [ev,q2],I6,tk1.trans (sm.tk.trans t5),R5.clear i⟩
   | brk=>obtain ⟨δ2,σ2,H2,q2,_⟩:=p; exact (hs (by rw [ev,q2])).elim
   | cont=>obtain ⟨δ2,σ2,H2,q2,_⟩:=p; exact (hs (by rw [ev,q2])).elim
   | ret u =>
    obtain ⟨d,v,σ2,H2,q2,I5,t5,g5,r5,p5⟩:=p;refine (I5.unmarked I.ok).goes hN hi hk fun s6 I6=>?_;exact ⟨d,v,_,H2,by rw [ev,q2],I6,tk1.trans (sm.tk.trans t5),g5,r5,p5⟩
  ·obtain ⟨y,δ2,_,_,_,_,q2,_⟩:=p;exact (hs (by rw [ev,q2])).elim
end
noncomputable def a_ (X:Cx) (N':List Str) (scope:Scope) (cl:List (Str×Addr)) (C:Addr) (s:Shared) (H:Hp) (fp:List Addr):Cx where
 prog:=X.prog
 w:=X.w
 K:=X.K
 mg:=X.mg
 base:=X.base
 A:=X.A
 N:=N'
 s₀:=s
 H₀:=H
 env:=compEnvC scope cl C X.env
 outer:=X.stack
 stack:=X.stack
 ex:=fp
 fn:=fun _=>false
 calm:=X.calm
 pn:=[]
 xe:=fun _ _=>False
section
variable {X:Cx} {N':List Str} {scope:Scope} {cl:List (Str×Addr)} {C:Addr} {s:Shared} {H:Hp} {fp:List Addr} {pins:List (Addr×Obj)} {σ:St}
theorem KD (I:Inv X pins σ H s) (hk:scope.kind=.function) (hC:s.heap.objs.size<=C) (hc:∀x c,cl.lookup x=some c->X.env.cells.lookup x=some c)
  (has:∀x,((relabel scope X.env).names.lookup x=some .cell\/(relabel scope X.env).names.lookup x=some .free)->∃c,cl.lookup x=some c) (hf:∀b∈fp,fK X pins H b/\b < s.heap.objs.size):(a_ X N' scope cl C s H fp).Ok where
 mod:=I.ok.mod
 kind:=hk
 glob:=I.ok.glob
 blt:=I.ok.blt
 above:=hC
 inj:=fun x y c h1 h2=>I.ok.inj x y c (hc x c h1) (hc y c h2)
 has:=has
 cab:=fun x c h=>by cases h
 hd:=I.ok.hd
 frames:=I.ok.frames
 stk:=.inl rfl
 exf:=fun b hb=>⟨Nat.ne_of_lt (Nat.lt_of_lt_of_le (hf b hb).2 hC),fun x c h=>(hf b hb).1.2.2.2.2.1 x c (hc x c h)⟩
 bs:=I.bs
 bsz:=Nat.le_trans I.ok.bsz I.sz
 noex:=fun b o e hb=>by
  obtain ⟨_,h1,h2,h3,_⟩:=(hf b hb).1;rcases h3 with z | z
  ·exact I.ok.noex b o e z
  ·exact absurd (Nat.lt_of_lt_of_le (Heap.lt_size e) (Nat.le_trans I.ok.bsz z)) (Nat.lt_irrefl _)
 exfs:=fun b hb z=>by
  obtain ⟨_,h1,h2,_⟩:=(hf b hb).1;rcases List.mem_cons.mp (I.stkSub b z) with w | w
  ·exact h1 w
  ·exact h2 w
 funs:=I.stack
 frf:=I.stkFree
end
noncomputable def cT (K:PySem.W.Frag) (J:It) (H:Hp) (ds:List D):Prop :=
 ∀H',Same H H'->(∀i d,ds[i]? = some d->J.go i H'/\∀x H'',J.yld i H' x H''->Same H' H''/\Rep K H'' d x)/\J.stop ds.length H'
noncomputable def qN (X:Cx) (pins:List (Addr×Obj)) (σ:St) (H:Hp) (tg:Expr) (r:Res (List D)) (itv:Value) (s2:Shared):Prop :=
 ∃(ds:List D) (it:Addr) (fp:List Addr) (tn:Nat->Heap->Prop) (J:It) (H':Hp),r=.ok ds/\itv=.ref it/\Inv X pins σ H' s2/\Turn X.prog X.w X.K tg J fp it tn/\tn 0 s2.heap/\(∀b∈fp,fK X pins H' b)/\Same H H'/\cT X.K J H' ds
noncomputable def PID (X:Cx) (tg iter:Expr) (f:DS->Res (List D)):Prop :=
 ∀(pins:List (Addr×Obj)) (s:Shared) (σ:St) (G H:Hp) (δ:DS),Inv X pins σ H s->RepSt X.K G H σ δ->f δ≠.stuck ->
  wpAny (model X.prog X.w) X.A (eval iter X.env) (fun v s1=>wpAny (model X.prog X.w) X.A (pyIter v) (qN X pins σ H tg (f δ)) (XPost X pins σ H s.heap (f δ)) s1) (XPost X pins σ H s.heap (f δ)) s
noncomputable def dM (x:Str):List D:=x.cps.toList.map fun c=>.str ⟨#[c]⟩
noncomputable def Bp (x:Str):It :=
 ⟨fun i _=>i < x.cps.size,fun i H v H'=>H'=H/\∃c,x.cps[i]? = some c/\v=.str ⟨#[c]⟩,fun i _=>x.cps.size<=i⟩
theorem KH {P:Program} {w:World} {K:PySem.W.Frag} {tg:Expr} (x:Str) (t:Tok) (it:Addr):Turn P w K tg (Bp x) [it] it (fun i h=>h.IsStrIter it "str_ascii_iterator" x t i) where
 mem:=by simp
 obj:=fun i h st b hb=>by
  have e:b=it:=by simpa using hb
  subst e;obtain ⟨o,e,c,d⟩:=st;exact ⟨o,e,fun v z=>by rw [d] at z; cases z⟩
 keep:=fun i h h' st k=>by
  obtain ⟨o,e,c,d⟩:=st;exact ⟨o,k it (by simp) o e,c,d⟩
 item:=by
  intro X hP hw hK hc i pins s σ H E I hf st hg;subst hP hw hK;have hx:x.cps[i]? = some x.cps[i]:=Array.getElem?_eq_getElem hg;obtain ⟨f0,f1,f2,f3,f4,f5⟩:=hf it (by simp);refine wpAny_pyNext_ascii_item st hx fun h' st' sb=>?_;have I1:Inv X pins σ H { s with heap:=h',toks:=s.toks + 1 }:=I.turned (t':=s.toks + 1) (fun b o hb e=>(sb.2 b hb).trans e) f0 f1 f3 f4 f5
  obtain ⟨o,e,c,d⟩:=id st';exact ⟨_,rfl,uU (s:={ s with heap:=h',toks:=s.toks + 1 }) e c d (by decide) ⟨.str ⟨#[x.cps[i]]⟩,H,I1,⟨_,rfl⟩,⟨rfl,_,hx,rfl⟩,st',fun b hb=>(hf b hb).1⟩⟩
 done:=by
  intro X hP hw hK hc i pins s σ H E I hf st hg;subst hP hw hK;obtain ⟨f0,f1,f2,f3,f4,f5⟩:=hf it (by simp);exact wpAny_pyNext_ascii_end (I.ok.hd hc) st (Array.getElem?_eq_none hg) fun h' eb=>⟨rfl,I.turned (t':=s.toks) (fun b o hb e=>eb b o hb e) f0 f1 f3 f4 f5⟩
 self:=fun _ _ _ _ _ st h=>wpAny_pyIter_striter_ascii st h
theorem KJ {K:PySem.W.Frag} {H:Hp} {x:Str}:cT K (Bp x) H (dM x):=by
 intro H' e;refine ⟨fun i d hd=>?_,by unfold dM; simp [Bp]⟩;unfold dM at hd;rw [List.getElem?_map] at hd
 cases z:x.cps.toList[i]? with
 | none=>rw [z] at hd; cases hd
 | some c =>
  rw [z] at hd
  cases hd
  have hl:i < x.cps.size:=by
   have:=List.getElem?_eq_some_iff.mp z;obtain ⟨q,_⟩:=this;simpa using q
  have hc:x.cps[i]? = some c:=by simpa using z
  refine ⟨hl,fun v H'' y=>?_⟩;obtain ⟨rfl,c',h1,rfl⟩:=y;rw [hc] at h1
  cases h1
  exact ⟨Same.refl _,by rw [Rep]⟩
noncomputable def aK:D->Res (List D)
 | .tup ds=>.ok ds
 | .lst ds=>.ok ds
 | .str x=>if x.cps.all (· < 128)=true then .ok (dM x) else .stuck
 | _=>.stuck
theorem KN {K:PySem.W.Frag} {H:Hp} {a:Addr} {xs:List V} {ds:List D} {X:Cx} {pins:List (Addr×Obj)} {σ:St} {s:Shared} (hq:SqL K H a xs) (r:Reps K H ds xs):cT K (De K a) H ds:=by
 intro H' e;have hq':=e.seq hq;have r':=r.mono e;refine ⟨fun i d hd=>?_,xs,hq',by rw [r.length]; exact Nat.le_refl _⟩;obtain ⟨v,e1,e2⟩:=r'.get hd;refine ⟨⟨xs,v,hq',e1⟩,fun x H'' y=>?_⟩;obtain ⟨rfl,y⟩:=y;have:=y xs hq';rw [e1] at this
 cases this
 exact ⟨Same.refl _,e2⟩
theorem KQ {K:PySem.W.Frag} {H:Hp} {a:Addr} {xs:List V} {ds:List D} (hq:SqT K H a xs) (r:Reps K H ds xs):cT K (Df K a) H ds:=by
 intro H' e;have hq':=fr' e hq;have r':=r.mono e;refine ⟨fun i d hd=>?_,xs,hq',by rw [r.length]; exact Nat.le_refl _⟩;obtain ⟨v,e1,e2⟩:=r'.get hd;refine ⟨⟨xs,v,hq',e1⟩,fun x H'' y=>?_⟩;obtain ⟨rfl,y⟩:=y;have:=y xs hq';rw [e1] at this
 cases this
 exact ⟨Same.refl _,e2⟩
theorem lU {X:Cx} {tg iter:Expr} {f:DS->Res D} (h:PD X iter f):PID X tg iter (fun δ=>(f δ).bind aK):=by
 intro pins s σ G H δ I R hs
 try dsimp only at hs ⊢
 refine h.use I R (dF hs) (fun d u s1 v H1 q I1 r1 e1 b1 p1=>?_) fun e s1 q=>q.same fun x z=>dU z;have h2:=dX hs q
 cases d with
 | lst ds =>
  obtain ⟨a,xs,rfl,hq,r⟩:=cP p1
  cases r1
  obtain ⟨its,rv,p,hz⟩:=I1.list hq;refine wpAny_pyIter_list p.isList ?_;refine ⟨ds,s1.heap.objs.size,[s1.heap.objs.size],_,_,H1,by rw [q]; rfl,rfl,I1.kept (t':=s1.toks) fun b o e=>Heap.get?_push_of_some _ e,Ii a _,⟨_,Heap.get?_push_size _ rfl,rfl,rfl⟩,fun b hb=>?_,e1,KN (X:=X) (pins:=pins) (σ:=σ) (s:=s1) hq r⟩;have e:b=s1.heap.objs.size:=by simpa using hb
  subst e;exact I1.fpOk (Nat.le_refl _) (I1.hok.fresh (Nat.le_refl _))
 | tup ds =>
  obtain ⟨a,xs,rfl,hq,r⟩:=cO p1
  cases r1
  obtain ⟨its,rv,p,hz⟩:=I1.tuple hq;refine wpAny_pyIter_tuple p ?_;refine ⟨ds,s1.heap.objs.size,[s1.heap.objs.size],_,_,H1,by rw [q]; rfl,rfl,I1.kept (t':=s1.toks) fun b o e=>Heap.get?_push_of_some _ e,Ij a _,⟨_,Heap.get?_push_size _ rfl,rfl,rfl⟩,fun b hb=>?_,e1,KQ hq r⟩;have e:b=s1.heap.objs.size:=by simpa using hb
  subst e;exact I1.fpOk (Nat.le_refl _) (I1.hok.fresh (Nat.le_refl _))
 | str x =>
  rw [cI p1] at r1;obtain ⟨t,rfl⟩:=r1;have ha:x.cps.all (· < 128)=true:=by
   cases z:x.cps.all (· < 128) with
   | true=>rfl
   | false =>
    have h3:(if (x.cps.all fun c=>decide (c < 128))=true then Res.ok (dM x) else Res.stuck)≠.stuck:=h2
    rw [z] at h3; exact (h3 rfl).elim
  refine wpAny_pyIter_ascii ha ?_;refine ⟨dM x,s1.heap.objs.size,[s1.heap.objs.size],_,_,H1,by rw [q]; unfold aK; rw [Res.bind_ok]; simp only [ha,if_true],rfl,I1.kept (t':=s1.toks) fun b o e=>Heap.get?_push_of_some _ e,KH x t _,⟨_,Heap.get?_push_size _ rfl,rfl,rfl⟩,fun b hb=>?_,e1,KJ⟩;have e:b=s1.heap.objs.size:=by simpa using hb
  subst e;exact I1.fpOk (Nat.le_refl _) (I1.hok.fresh (Nat.le_refl _))
 | _=>exact (h2 rfl).elim
noncomputable def rN:Option SV->Option SV
 | some sv=>some (.arg sv.view)
 | none=>none
noncomputable def bV (m:Nat) (fr:List Nat) (δ:DS):DS:=List.replicate m none ++ fr.map fun i=>(δ[i]?).elim none rN
noncomputable def mapR (g:D->Res D):List D->Res (List D)
 | []=>.ok []
 | d :: ds=>(g d).bind fun x=>(mapR g ds).bind fun xs=>.ok (x :: xs)
noncomputable def eO (t:cX) (fe:DS->Res D) (δ':DS) (d:D):Res D:=match t d δ' with
 | some δ1=>(match fe δ1 with | .ok x=>.ok x | _=>.stuck)
 | none=>.stuck
noncomputable def bA (m:Nat) (fr:List Nat) (t:cX) (fe:DS->Res D) (fi:DS->Res (List D)):DS->Res D:=fun δ=>(fi δ).bind fun ds=>gf (mapR (eO t fe (bV m fr δ)) ds)
noncomputable def c7 (m:Nat) (t:cX):Prop:=∀d δ δ1,t d δ=some δ1->δ1.length=δ.length/\∀i,m<=i->δ1[i]? = δ[i]?
theorem RepSt.weak {K:PySem.W.Frag} {G H:Hp} {σ:St} {δ δ1:DS} {m:Nat} (R:RepSt K G H σ δ1) (hl:δ1.length=δ.length) (hm:∀i,m<=i->δ1[i]? = δ[i]?) (hn:∀i,i < m->∀sv,δ[i]?≠some (some sv)):RepSt K G H σ δ where
 same:=R.same
 len:=R.len.trans hl
 at_:=fun i sv e=>by
  by_cases h:i < m
  ·exact (hn i h sv e).elim
  ·exact R.at_ i sv (by rw [hm i (by omega)]; exact e)
 sep:=fun i j ds es v hij e1 e2 e3=>by
  by_cases h1:i < m
  ·exact (hn i h1 _ e1).elim
  ·by_cases h2:j < m
   ·exact (hn j h2 _ e2).elim
   ·exact R.sep i j ds es v hij (by rw [hm i (by omega)]; exact e1) (by rw [hm j (by omega)]; exact e2) e3
theorem Bq {m:Nat} {fr:List Nat} {δ:DS} (i:Nat) (h:i < m) (sv:SV):(bV m fr δ)[i]?≠some (some sv):=by
 unfold bV;rw [List.getElem?_append_left (by simpa using h),List.getElem?_replicate,if_pos h];intro z; cases z
noncomputable def iy (m:Nat) (fr:List Nat) (σ:St):St:=List.replicate m none ++ fr.map fun i=>(σ[i]?).elim none id
theorem KR {K:PySem.W.Frag} {G H:Hp} {σ:St} {δ:DS} (m:Nat) (fr:List Nat) (R:RepSt K G H σ δ):RepSt K H H (iy m fr σ) (bV m fr δ) where
 same:=Same.refl H
 len:=by simp [iy,bV]
 at_:=fun i sv e=>by
  by_cases h:i < m
  ·exact (Bq i h sv e).elim
  ·unfold bV at e;unfold iy;rw [List.getElem?_append_right (by simpa using h),List.getElem?_map] at e;rw [List.getElem?_append_right (by simpa using h),List.getElem?_map];simp only [List.length_replicate] at e ⊢
   cases q:fr[i - m]? with
   | none=>rw [q] at e; cases e
   | some k =>
    rw [q] at e;simp only [Option.map_some,Option.some.injEq] at e
    cases q2:δ[k]? with
    | none=>rw [q2] at e; cases e
    | some o =>
     rw [q2] at e
     cases o with
     | none=>cases e
     | some sv' =>
      simp only [Option.elim_some,rN,Option.some.injEq] at e;subst e;obtain ⟨v,e1,e2⟩:=R.view q2;exact ⟨v,by simp [e1],e2⟩
 sep:=fun i j ds es v hij e1 e2 e3=>by
  exfalso
  by_cases h:i < m
  ·exact (Bq i h _ e1).elim
  ·unfold bV at e1;rw [List.getElem?_append_right (by simpa using h),List.getElem?_map] at e1;simp only [List.length_replicate] at e1
   cases q:fr[i - m]? with
   | none=>rw [q] at e1; cases e1
   | some k =>
    rw [q] at e1;simp only [Option.map_some,Option.some.injEq] at e1
    cases q2:δ[k]? with
    | none=>rw [q2] at e1; cases e1
    | some o =>
     rw [q2] at e1
     cases o with
     | none=>cases e1
     | some sv'=>simp [rN] at e1
theorem Br {g:D->Res D}:∀{ds rs:List D},mapR g ds=.ok rs->rs.length=ds.length
 | [],rs,h=>by simp only [mapR,Res.ok.injEq] at h; subst h; rfl
 | d :: ds,rs,h=>by
  simp only [mapR] at h
  cases q:g d with
  | stuck=>rw [q] at h; cases h
  | err x=>rw [q] at h; cases h
  | ok x =>
   rw [q,Res.bind_ok] at h
   cases q2:mapR g ds with
   | stuck=>rw [q2] at h; cases h
   | err x=>rw [q2] at h; cases h
   | ok xs =>
    rw [q2,Res.bind_ok] at h
    cases h
    simp [Br q2]
theorem Es {g:D->Res D}:∀{ds rs:List D} {i:Nat} {d:D},mapR g ds=.ok rs->ds[i]? = some d->∃r,g d=.ok r/\rs[i]? = some r
 | [],rs,i,d,h,e=>by simp at e
 | d' :: ds,rs,i,d,h,e=>by
  simp only [mapR] at h
  cases q:g d' with
  | stuck=>rw [q] at h; cases h
  | err x=>rw [q] at h; cases h
  | ok x =>
   rw [q,Res.bind_ok] at h
   cases q2:mapR g ds with
   | stuck=>rw [q2] at h; cases h
   | err x=>rw [q2] at h; cases h
   | ok xs =>
    rw [q2,Res.bind_ok] at h
    cases h
    cases i with
    | zero=>simp at e; subst e; exact ⟨x,q,by simp⟩
    | succ i =>
     simp at e;obtain ⟨r,e1,e2⟩:=Es q2 e;exact ⟨r,e1,by simpa using e2⟩
theorem Bs {g:D->Res D} (hg:∀d,aJ (g d)):∀ds,aJ (mapR g ds)
 | []=>cH
 | d :: ds=>by
  intro x h;simp only [mapR] at h
  cases q:g d with
  | stuck=>rw [q] at h; cases h
  | err y=>exact hg d y q
  | ok y =>
   rw [q,Res.bind_ok] at h
   cases q2:mapR g ds with
   | stuck=>rw [q2] at h; cases h
   | err z=>exact Bs hg ds z q2
   | ok xs=>rw [q2,Res.bind_ok] at h; cases h
theorem KY {t:cX} {fe:DS->Res D} {δ':DS} (d:D):aJ (eO t fe δ' d):=by
 intro x h;unfold eO at h
 split at h
 ·split at h <;> cases h
 ·cases h
noncomputable def qO (cs:List Expr) (env:Env):Sem Bool:=match cs with
 | c :: _=>isTrue c env (eval c env)
 | []=>pure true
theorem KZ (elt target iter:Expr) (cs:List Expr) (scope:Scope) (pos:Pos) (it acc:Value) (env:Env) (hcs:cs.length<=1) :
  compTurn (.ListComp elt [⟨target,iter,cs,0⟩] scope pos) 0 it acc env=(standAt iter.pos >>= fun _=>pyNext it >>= fun r=>match r with
   | none=>pure (.done .next)
   | some v=>letOwnedTupleGo target it v >>= fun _=>assign target env v >>= fun _ =>
    qO cs env >>= fun ok=>(if ok=true then (eval elt env >>= fun x=>call (.builtin "list.append") [acc,x] >>= fun _=>pure ()) else pure ()) >>= fun _ =>
     again (.compLoop (.ListComp elt [⟨target,iter,cs,0⟩] scope pos) 0 it acc env)):=by
 match cs,hcs with
 | [],_=>rfl
 | [c],_ =>
  rw [compTurn_list];simp only [List.forIn_cons,List.forIn_nil,if_true,bind_assoc,pure_bind]
  congr 1
  funext _
  congr 1
  funext r
  cases r with
  | none=>rfl
  | some v =>
   dsimp only
   congr 1
   funext _
   congr 1
   funext _
   congr 1
   funext ok
   cases ok with
   | false=>rfl
   | true=>simp only [if_true,bind_assoc,pure_bind]
noncomputable def eQ (t:cX) (fc:DS->Res Bool) (fe:DS->Res D) (δ':DS) (d:D):Res D:=match t d δ' with
 | some δ1=>(match fc δ1 with
  | .ok true=>(match fe δ1 with | .ok x=>.ok (.tup [x]) | _=>.stuck)
  | .ok false=>.ok (.tup [])
  | _=>.stuck)
 | none=>.stuck
noncomputable def unI:D->List D
 | .tup xs=>xs
 | _=>[]
noncomputable def fC (t:cX) (fc:DS->Res Bool) (fe:DS->Res D) (δ':DS) (ds:List D):Res D:=if ds.length<=sizeLine then (mapR (eQ t fc fe δ') ds).bind (fun rs=>Res.ok (D.lst (rs.flatMap unI))) else .stuck
noncomputable def cD (m:Nat) (fr:List Nat) (t:cX) (fc:DS->Res Bool) (fe:DS->Res D) (fi:DS->Res (List D)):DS->Res D:=fun δ=>(fi δ).bind (fC t fc fe (bV m fr δ))
theorem he' {t:cX} {fc:DS->Res Bool} {fe:DS->Res D} {δ':DS} {d r:D} (h:eQ t fc fe δ' d=.ok r):∃δ1,t d δ'=some δ1/\((∃x,fc δ1=.ok true/\fe δ1=.ok x/\r=.tup [x])\/(fc δ1=.ok false/\r=.tup [])):=by
 unfold eQ at h
 split at h
 ·rename_i δ1 e
  split at h
  ·rename_i q
   split at h
   ·rename_i x q2
    cases h
    exact ⟨δ1,e,.inl ⟨x,q,q2,rfl⟩⟩
   ·cases h
  ·rename_i q
   cases h
   exact ⟨δ1,e,.inr ⟨q,rfl⟩⟩
  ·cases h
 ·cases h
theorem K3 {t:cX} {fc:DS->Res Bool} {fe:DS->Res D} {δ':DS} (d:D):aJ (eQ t fc fe δ' d):=by
 intro x h;unfold eQ at h
 split at h
 ·split at h
  ·split at h <;> cases h
  ·cases h
  ·cases h
 ·cases h
theorem hg' {t:cX} {fc:DS->Res Bool} {fe:DS->Res D} {δ':DS}:∀{ds rs:List D},mapR (eQ t fc fe δ') ds=.ok rs->(rs.flatMap unI).length<=ds.length
 | [],rs,h=>by simp only [mapR,Res.ok.injEq] at h; subst h; exact Nat.le_refl _
 | d :: ds,rs,h=>by
  simp only [mapR] at h
  cases q:eQ t fc fe δ' d with
  | stuck=>rw [q] at h; cases h
  | err x=>rw [q] at h; cases h
  | ok x =>
   rw [q,Res.bind_ok] at h
   cases q2:mapR (eQ t fc fe δ') ds with
   | stuck=>rw [q2] at h; cases h
   | err x=>rw [q2] at h; cases h
   | ok xs =>
    rw [q2,Res.bind_ok] at h
    cases h
    have ih:=hg' q2;obtain ⟨δ1,_,w⟩:=he' q;have hx:(unI x).length<=1:=by rcases w with ⟨y,_,_,rfl⟩ | ⟨_,rfl⟩ <;> simp [unI]
    rw [List.flatMap_cons,List.length_append,List.length_cons];omega
noncomputable def Bt (X:Cx) (cs:List Expr) (f:DS->Res Bool):Prop :=
 ∀(pins:List (Addr×Obj)) (s:Shared) (σ:St) (G H:Hp) (δ:DS),Inv X pins σ H s->RepSt X.K G H σ δ->f δ≠.stuck ->
  wpAny (model X.prog X.w) X.A (qO cs X.env) (jQ X pins σ H (f δ)) (XPost X pins σ H s.heap (f δ)) s
section
variable {X:Cx} {m:Nat} {fr:List Nat} {N':List Str} {scope:Scope} {cl:List (Str×Addr)} {tg iter elt:Expr} {cs:List Expr} {pos:Pos} {t:cX} {fc:DS->Res Bool} {fe:DS->Res D} {fi:DS->Res (List D)}
theorem gd' {C:Addr} {s3:Shared} {H2:Hp} {fp:List Addr} {it:Addr} {tn:Nat->Heap->Prop} {J:It} {ds rs:List D} {δ':DS} {acc:Addr} {RR:Result->Shared->Prop} (hcalm:X.calm=true)
  (T:Turn X.prog X.w X.K tg J fp it tn) (Y:cT X.K J H2 ds) (hR:mapR (eQ t fc fe δ') ds=.ok rs) (hz:ds.length<=sizeLine) (hkt:c7 m t) (hlow:∀i,i < m->∀sv,δ'[i]?≠some (some sv))
  (ht:PGD (a_ X N' scope cl C s3 H2 (acc :: fp)) tg t) (hcs:cs.length<=1) (hc:Bt (a_ X N' scope cl C s3 H2 (acc :: fp)) cs fc) (he:PD (a_ X N' scope cl C s3 H2 (acc :: fp)) elt fe)
  (hacc:acc∉fp) (hfp:∀b∈acc :: fp,b≠C/\b∉frs X.stack/\∀x c,cl.lookup x=some c->c≠b)
  (fin:∀s' σ' H' ys its,Inv (a_ X N' scope cl C s3 H2 (acc :: fp)) [] σ' H' s'->Same H2 H'->H' acc=none->(∀b∈fp,H' b=none)->s'.heap.PlainList acc its->Vals ys its.toList->Reps X.K H' (rs.flatMap unI) ys->RR (.ok .next) s')
  {s4:Shared} {σ0:St} {its0:Array Value} (I4:Inv (a_ X N' scope cl C s3 H2 (acc :: fp)) [] σ0 H2 s4) (R4:RepSt X.K H2 H2 σ0 δ') (st4:tn 0 s4.heap) (f4:∀b∈acc :: fp,H2 b=none) (p4:s4.heap.PlainList acc #[]) :
  codeAny (model X.prog X.w) X.A (.compLoop (.ListComp elt [⟨tg,iter,cs,0⟩] scope pos) 0 (.ref it) (.ref acc) (compEnvC scope cl C X.env)) RR s4:=by
 let X':=a_ X N' scope cl C s3 H2 (acc :: fp)
 have fpok:∀{H':Hp} {pn:List (Addr×Obj)},(∀b∈fp,H' b=none)->(∀b∈fp,∀p∈pn,p.1≠b)->∀b∈fp,fK X' pn H' b:=fun hn hp b hb =>
  ⟨hn b hb,(hfp b (List.mem_cons_of_mem _ hb)).1,(hfp b (List.mem_cons_of_mem _ hb)).2.1,.inl (List.mem_cons_of_mem _ hb),(hfp b (List.mem_cons_of_mem _ hb)).2.2,fun p hpp=>hp b hb p (by simpa [X',a_] using hpp)⟩
 refine codeAny_loop rfl (fun n s=>∃i σ' H' ys its,n=ds.length - i/\i<=ds.length/\Inv X' [] σ' H' s/\Same H2 H'/\RepSt X.K H2 H' σ' δ'/\tn i s.heap/\H' acc=none/\(∀b∈fp,H' b=none)/\s.heap.PlainList acc its/\Vals ys its.toList/\Reps X.K H' ((rs.take i).flatMap unI) ys/\ys.length<=i) (fun n s hI=>?_) ds.length
  ⟨0,σ0,H2,[],#[],by simp,Nat.zero_le _,I4,Same.refl _,R4,st4,f4 acc (by simp),fun b hb=>f4 b (List.mem_cons_of_mem _ hb),p4,.nil,by simpa using Reps.nil,Nat.le_refl _⟩
 obtain ⟨i,σ1,H1,ys,its,rfl,hi,I1,e1,R1,st1,ha1,fr1,p1,v1,r1,hyl⟩:=hI;show wpAny _ _ ((compTurn (.ListComp elt [⟨tg,iter,cs,0⟩] scope pos) 0 (.ref it) (.ref acc) (compEnvC scope cl C X.env)).onRaise (fun x=>do noteFrame x (compEnvC scope cl C X.env); theTreesLotGoes x)) _ _ s
 refine wpAny_noted ?_;rw [KZ _ _ _ _ _ _ _ _ _ hcs];refine wpAny_bind (wpAny_standAt (wpAny_bind ?_));have pk:∀{b:Addr} {o:Obj},True:=trivial
 by_cases hlt:i < ds.length
 ·obtain ⟨d,hd⟩:∃d,ds[i]? = some d:=⟨ds[i],by simp [hlt]⟩;obtain ⟨go,yl⟩:=(Y H1 e1).1 i d hd;obtain ⟨r,hg,hr⟩:=Es hR hd;obtain ⟨δ1,ht1,hf1⟩:=he' hg;obtain ⟨na,oa⟩:=p1;have pin1:Inv X' [(acc,({ cls:=.type "list",data:=.seq its na }:Obj))] σ1 H1 s:=I1.pins_of fun p hp=>by
   have:p=(acc,({ cls:=.type "list",data:=.seq its na }:Obj)):=by simpa using hp
   subst this;exact ⟨oa,ha1,(hfp acc (by simp)).1,(hfp acc (by simp)).2.1,fun v z=>(by cases z)⟩
  refine wpAny_mono (T.item X' rfl rfl rfl hcalm i _ s σ1 H1 _ pin1 (fpok fr1 fun b hb p hp z=>by
   have:p=(acc,({ cls:=.type "list",data:=.seq its na }:Obj)):=by simpa using hp
   subst this; exact hacc (by rw [show acc=b from z]; exact hb)) st1 go) (fun rv s5 ⟨u,hrv,h5⟩=>?_) fun _ _ z=>z
  subst hrv;refine wpAny_bind (wpAny_mono h5 (fun _ s6 ⟨x,H6,I6,rx,y6,st6,fr6⟩=>?_) fun _ _ z=>z);obtain ⟨e6,px⟩:=yl x H6 y6;have I6':=I6.pinned (fpok fr6 fun b hb p hp z=>by
   have:p=(acc,({ cls:=.type "list",data:=.seq its na }:Obj)):=by simpa using hp
   subst this; exact hacc (by rw [show acc=b from z]; exact hb)) (T.obj _ _ st6)
  have R6:=R1.mono e6;refine wpAny_bind (wpAny_mono (ht _ _ s6 σ1 H2 H6 δ' δ1 d x u I6' rx R6 px ht1) (fun _ s7 ⟨σ7,I7,R7⟩=>?_) fun _ _ z=>z);obtain ⟨hl1,hm1⟩:=hkt d δ' δ1 ht1;have R7':RepSt X.K H2 H6 σ7 δ':=R7.weak hl1 hm1 hlow;have e9:(rs.take (i + 1)).flatMap unI=(rs.take i).flatMap unI ++ unI r:=by rw [List.take_succ,hr]; simp
  have hfc:fc δ1≠.stuck:=by rcases hf1 with ⟨x,q,_⟩ | ⟨q,_⟩ <;> (rw [q]; intro z; cases z)
  have hfe:∀y,fc δ1≠.err y:=by rcases hf1 with ⟨x,q,_⟩ | ⟨q,_⟩ <;> (intro y; rw [q]; intro z; cases z)
  refine wpAny_bind (Aw (f:=fc) (δ:=δ1) (fun pins I=>hc pins _ _ _ _ _ I R7 hfc) I7 (fun k sk Hk qk Ik ek bk=>?_) fun e s8 q=>by obtain ⟨y,_,_,_,z,_⟩:=q; exact (hfe y z).elim);have oak:=(Ik.pin (acc,({ cls:=.type "list",data:=.seq its na }:Obj)) (by simp)).1;have hak:=(Ik.pin (acc,({ cls:=.type "list",data:=.seq its na }:Obj)) (by simp)).2.1;have fpk:∀b∈fp,∀o,s6.heap.get? b=some o->sk.heap.get? b=some o/\Hk b=none:=fun b hb o e=>by
   have q:=Ik.pin (b,o) (List.mem_append_right _ (List.mem_append_right _ (yO hb e)));exact ⟨q.1,q.2.1⟩
  cases k with
  | false =>
   have hu:unI r=[]:=by
    rcases hf1 with ⟨x,q,_⟩ | ⟨q,rfl⟩
    ·rw [q] at qk; cases qk
    ·rfl
   have Ik':Inv X' [] σ7 Hk sk:=Ik.pins_of fun p hp=>absurd hp (by simp);refine wpAny_bind (wpAny_pure (wpAny_pure ⟨rfl,ds.length - (i + 1),by omega,i + 1,σ7,Hk,ys,its,rfl,hlt,Ik',e1.trans (e6.trans ek),R7'.mono ek,?_,hak,fun b hb=>?_,⟨na,oak⟩,v1,?_,by omega⟩))
   ·refine T.keep _ _ _ st6 fun b hb o e=>(fpk b hb o e).1
   ·obtain ⟨o,e,_⟩:=T.obj _ _ st6 b hb;exact (fpk b hb o e).2
   ·rw [e9,hu,List.append_nil]; exact r1.mono (e6.trans ek)
  | true =>
   obtain ⟨xk,hfx,hrx⟩:∃x,fe δ1=.ok x/\r=.tup [x]:=by
    rcases hf1 with ⟨x,_,q2,q3⟩ | ⟨q,_⟩
    ·exact ⟨x,q2,q3⟩
    ·rw [q] at qk; cases qk
   subst hrx;refine wpAny_bind (wpAny_bind (he.use Ik (R7.mono ek) (by rw [hfx]; intro z; cases z) (fun d8 u8 s8 v8 H8 q8 I8 r8 e8 b8 p8=>?_) fun e s8 q=>by rw [hfx] at q; exact q.none.elim));rw [hfx] at q8; cases q8;have oa8:=(I8.pin (acc,({ cls:=.type "list",data:=.seq its na }:Obj)) (by simp)).1;have ha8:=(I8.pin (acc,({ cls:=.type "list",data:=.seq its na }:Obj)) (by simp)).2.1;have hsz:its.size<=i:=by have:=v1.length; simp only [Array.length_toList] at this; omega
   refine wpAny_bind (wpAny_list_append_plain (show s8.heap.PlainList acc its from ⟨na,oa8⟩) (fun h9 p9 sb9=>?_) (by omega))
   have I8':Inv X' [] σ7 H8 s8:=I8.pins_of fun p hp=>absurd hp (by simp);have fp8:∀b∈fp,∀o,s6.heap.get? b=some o->s8.heap.get? b=some o/\H8 b=none:=fun b hb o e=>by
    have q:=I8.pin (b,o) (List.mem_append_right _ (List.mem_append_right _ (yO hb e)));exact ⟨q.1,q.2.1⟩
   have nacc:∀b,H8 b≠none->b≠acc:=fun b hb z=>hb (by rw [z]; exact ha8);have I9:Inv X' [] σ7 H8 { s8 with heap:=h9 }:=I8'.call' (ch:=[acc]) rfl
    ⟨fun b o e n hb hx=>(sb9.2 b (by simpa using hx)).trans e,fun b o e n hb hx=>⟨o.slots,(sb9.2 b (by simpa using hx)).trans e⟩,fun b o e n _=>n,fun b o e hx=>⟨o,(sb9.2 b (by simpa using hx)).trans e⟩,fun b xs e=>e,fun b o u e=>e,fun b ps e=>⟨#[],by simpa using e⟩⟩
    (fun b u q=>(I8'.hok b u q).stay (fun c v hc e=>(sb9.2 c (by
     rcases hc with rfl | hc
     ·exact nacc c (by rw [q]; intro z; cases z)
     ·exact nacc c (by rw [hc]; intro z; cases z))).trans e) (fun _ z=>z) fun _ _ z=>z) I8'.bare
    fun b hb=>by
     have e:b=acc:=by simpa using hb
     subst e;exact ⟨.inl (by show b∈b :: fp; simp),(hfp b (by simp)).1,fun x c e=>(hfp b (by simp)).2.2 x c e,fun p hp=>absurd hp (by show p∉([]:List (Addr×Obj)) ++ []; simp)⟩
   refine wpAny_pure (wpAny_pure ⟨rfl,ds.length - (i + 1),by omega,i + 1,σ7,H8,ys ++ [v8],its.push u8,rfl,hlt,I9,e1.trans (e6.trans (ek.trans e8)),R7'.mono (ek.trans e8),?_,ha8,fun b hb=>?_,p9,?_,?_,by rw [List.length_append]; show _ + 1<=_; omega⟩)
   ·refine T.keep _ _ _ st6 fun b hb o e=>(sb9.2 b (fun z=>hacc (by rw [<- z]; exact hb))).trans (fp8 b hb o e).1
   ·obtain ⟨o,e,_⟩:=T.obj _ _ st6 b hb;exact (fp8 b hb o e).2
   ·rw [Array.toList_push]; exact v1.append (.cons r8 .nil)
   ·rw [e9];exact (r1.mono (e6.trans (ek.trans e8))).append (Reps.cons p8 Reps.nil)
 ·have e:i=ds.length:=by omega
  subst e;obtain ⟨na,oa⟩:=p1;have pin1:Inv X' [(acc,({ cls:=.type "list",data:=.seq its na }:Obj))] σ1 H1 s:=I1.pins_of fun p hp=>by
   have:p=(acc,({ cls:=.type "list",data:=.seq its na }:Obj)):=by simpa using hp
   subst this;exact ⟨oa,ha1,(hfp acc (by simp)).1,(hfp acc (by simp)).2.1,fun v z=>(by cases z)⟩
  refine wpAny_mono (T.done X' rfl rfl rfl hcalm ds.length _ s σ1 H1 _ pin1 (fpok fr1 fun b hb p hp z=>by
   have:p=(acc,({ cls:=.type "list",data:=.seq its na }:Obj)):=by simpa using hp
   subst this; exact hacc (by rw [show acc=b from z]; exact hb)) st1 (Y H1 e1).2) (fun rv s5 ⟨hrv,I5⟩=>?_) fun _ _ z=>z
  subst hrv;refine wpAny_pure ?_;have h:=Br hR;rw [<- h,List.take_length] at r1;have oa5:=(I5.pin (acc,({ cls:=.type "list",data:=.seq its na }:Obj)) (by simp)).1;exact fin s5 σ1 H1 ys its (I5.pins_of fun p hp=>absurd hp (by simp)) e1 ha1 fr1 ⟨na,oa5⟩ v1 r1
end
theorem _root_.L2.Inv.but {X:Cx} {pins:List (Addr×Obj)} {σ:St} {H:Hp} {s:Shared} {C:Addr} {h':Heap} {t':Nat} (J:Inv X pins σ H s) (hC:H C=none) (hC0:X.s₀.heap.objs.size<=C) (hCl:C≠X.env.locals) (hCc:∀x c,X.env.cells.lookup x=some c->c≠C)
  (hCp:∀p∈X.pn ++ pins,p.1≠C) (hs:Heap.SameBut C s.heap h'):Inv X pins σ H { s with heap:=h',toks:=t' }:=by
 have nC:∀b,H b≠none->b≠C:=fun b hb z=>hb (by rw [z]; exact hC);refine J.call' (ch:=[C]) (s':={ s with heap:=h',toks:=t' }) rfl
   ⟨fun b o e n hb hx=>(hs.2 b (by simpa using hx)).trans e,fun b o e n hb hx=>⟨o.slots,(hs.2 b (by simpa using hx)).trans e⟩,fun b o e n _=>n,fun b o e hx=>⟨o,(hs.2 b (by simpa using hx)).trans e⟩,fun b xs e=>e,fun b o u e=>e,fun b ps e=>⟨#[],by simpa using e⟩⟩
   (fun b u q=>(J.hok b u q).stay (fun c v hc e=>(hs.2 c (by
    rcases hc with rfl | hc
    ·exact nC c (by rw [q]; intro z; cases z)
    ·exact nC c (by rw [hc]; intro z; cases z))).trans e) (fun _ z=>z) fun _ _ z=>z) J.bare
   fun b hb=>by
    have e:b=C:=by simpa using hb
    subst e;exact ⟨.inr hC0,hCl,hCc,hCp⟩
section
variable {X:Cx} {m:Nat} {fr:List Nat} {N':List Str} {scope:Scope} {cl:List (Str×Addr)} {tg iter elt:Expr} {cs:List Expr} {fc:DS->Res Bool} {pos:Pos} {t:cX} {fe:DS->Res D} {fi:DS->Res (List D)}
structure Around' (X:Cx) (m:Nat) (fr:List Nat) (N':List Str) (scope:Scope) (cl:List (Str×Addr)):Prop where
 clos:closureFor scope X.env=pure cl
 nocell:∀y∈scope.names,y.2≠.cell
 kind:scope.kind=.function
 names:∀x∈scope.names,x.2=.local->scope.names.lookup x.1=some .local
 sub:∀x c,cl.lookup x=some c->X.env.cells.lookup x=some c
 has:∀x,((relabel scope X.env).names.lookup x=some .cell\/(relabel scope X.env).names.lookup x=some .free)->∃c,cl.lookup x=some c
 len:N'.length=m + fr.length
 free:∀j i,fr[j]? = some i->∃x c,N'[m + j]? = some x/\X.N[i]? = some x/\qz X.env.scope x/\(X.env.kindOf x=some .cell\/X.env.kindOf x=some .free)/\cl.lookup x=some c/\((compEnvC scope cl 0 X.env).kindOf x=some .cell\/(compEnvC scope cl 0 X.env).kindOf x=some .free)
theorem Et (W:Around' X m fr N' scope cl) (hcalm:X.calm=true) (hkt:c7 m t) (ht:∀C s H fp,PGD (a_ X N' scope cl C s H fp) tg t) (hcs:cs.length<=1) (hc:∀C s H fp,Bt (a_ X N' scope cl C s H fp) cs fc) (he:∀C s H fp,PD (a_ X N' scope cl C s H fp) elt fe)
  {pins:List (Addr×Obj)} {s:Shared} {σ:St} {G H:Hp} {δ:DS} (I:Inv X pins σ H s) (R:RepSt X.K G H σ δ) (hs:cD m fr t fc fe fi δ≠.stuck) {E:Value->Shared->Prop} (hE:∀e s1,XPost X pins σ H s.heap (cD m fr t fc fe fi δ) e s1->E e s1)
  (hi1:wpAny (model X.prog X.w) X.A (eval iter X.env) (fun v s1=>wpAny (model X.prog X.w) X.A (pyIter v) (qN X pins σ H tg (fi δ)) (XPost X pins σ H s.heap (fi δ)) s1) (XPost X pins σ H s.heap (fi δ)) s)
  {RR:Value->Addr->Result->Shared->Prop}
  (fin:∀a C s' H' ds xs mC,cD m fr t fc fe fi δ=.ok (.lst ds)->Inv X pins σ H' s'->Same H H'->H a=none->H' a=some (.lst xs)->Reps X.K H' ds xs->s'.heap.Ns C mC->H' C=none->C≠a->X.s₀.heap.objs.size<=C->C∉X.fs->C≠X.env.locals->(∀x c,X.env.cells.lookup x=some c->c≠C)->(∀p∈X.pn ++ pins,p.1≠C)->RR (.ref a) C (.ok .next) s') :
  wpAny (model X.prog X.w) X.A (eval iter X.env) (fun x s₁=>wpAny (model X.prog X.w) X.A (pyIter x) (fun itv s₂=>wpAny (model X.prog X.w) X.A (newList []) (fun acc s₃ =>
   wpAny (model X.prog X.w) X.A (newFunctionEnv scope X.env.globals cl [] X.env.qual none .none (some X.env)) (fun cenv s₄ =>
    codeAny (model X.prog X.w) X.A (.compStart (.ListComp elt [⟨tg,iter,cs,0⟩] scope pos) 0 itv acc { cenv with scope:=relabel scope X.env }) (RR acc cenv.locals) s₄) E s₃) E s₂) E s₁) E s:=by
 have hs':(fi δ).bind (fC t fc fe (bV m fr δ))≠.stuck:=hs;refine wpAny_mono hi1 (fun v s1 h1=>wpAny_mono h1 (fun itv s2 h2=>?_) fun e s2 q=>hE e s2 (q.same fun x z=>dU z)) fun e s2 q=>hE e s2 (q.same fun x z=>dU z);obtain ⟨ds,it,fp,tn,J,H2,q,rfl,I2,T,st2,f2,e2,Y⟩:=h2;have h3:fC t fc fe (bV m fr δ) ds≠.stuck:=dX hs' q;have hz':ds.length<=sizeLine:=by
  by_cases z:ds.length<=sizeLine
  ·exact z
  ·exact (h3 (by unfold fC; rw [if_neg z])).elim
 have h4:(mapR (eQ t fc fe (bV m fr δ)) ds).bind (fun rs=>Res.ok (D.lst (rs.flatMap unI)))≠.stuck:=by unfold fC at h3; rw [if_pos hz'] at h3; exact h3
 have hm:mapR (eQ t fc fe (bV m fr δ)) ds≠.stuck:=dF h4
 cases hR:mapR (eQ t fc fe (bV m fr δ)) ds with
 | stuck=>exact (hm hR).elim
 | err x=>exact (Bs (fun d=>K3 d) ds x hR).elim
 | ok rs =>
 have hz:(rs.flatMap unI).length<=sizeLine:=Nat.le_trans (hg' hR) hz';have ev:cD m fr t fc fe fi δ=.ok (.lst (rs.flatMap unI)):=by unfold cD; rw [q,Res.bind_ok]; unfold fC; rw [if_pos hz',hR]; rfl
 have R2:=R.mono e2;refine wpAny_newObj_type (wpAny_newFunctionEnv W.nocell (by intro y hy; simp at hy) (fun h₁ hns₁ hsb₁=>?_) W.kind);dsimp only at hns₁ hsb₁ ⊢;generalize hA:s2.heap.objs.size=acc at *;generalize hH3:s2.heap.push { cls:=.type "list",dict:=none,data:=.seq ([]:List Value).toArray }=h3' at hns₁ hsb₁ ⊢;have hC:h3'.objs.size=acc + 1:=by rw [<- hH3,Heap.size_push,hA]
 generalize hCC:h3'.objs.size=C at *;have k3:∀b o,s2.heap.get? b=some o->h3'.get? b=some o:=fun b o e=>by rw [<- hH3]; exact Heap.get?_push_of_some _ e
 have a3:h3'.get? acc=some { cls:=.type "list",dict:=none,data:=.seq ([]:List Value).toArray }:=by rw [<- hH3,<- hA]; exact Heap.get?_push_size _ rfl
 have k4:∀b o,h3'.get? b=some o->h₁.get? b=some o:=fun b o e=>hsb₁.extBut b o (fun z=>by have:=Heap.lt_size e; rw [hCC,z] at this; exact Nat.lt_irrefl _ this) (Heap.get?_push_of_some _ e);have hacc2:H2 acc=none:=I2.hok.fresh (by rw [hA]; exact Nat.le_refl _);have I3:Inv X pins σ H2 { s2 with heap:=h3',toks:=s2.toks }:=I2.kept k3
 have fp2:∀b∈fp,b < acc:=fun b hb=>by
  obtain ⟨o,e,_⟩:=T.obj _ _ st2 b hb;have:=Heap.lt_size e;rw [hA] at this; exact this
 have f3:∀b∈acc :: fp,fK X pins H2 b/\b < ({ s2 with heap:=h3',toks:=s2.toks }:Shared).heap.objs.size:=fun b hb=>by
  rcases List.mem_cons.mp hb with z | z
  ·subst z;exact ⟨I2.fpOk (by rw [hA]; exact Nat.le_refl _) hacc2,by show _ < h3'.objs.size; rw [hCC,hC]; exact Nat.lt_succ_self _⟩
  ·exact ⟨f2 b z,by show _ < h3'.objs.size; rw [hCC,hC]; exact Nat.lt_succ_of_lt (fp2 b z)⟩
 have hacc:acc∉fp:=fun z=>Nat.lt_irrefl _ (fp2 acc z);have okX:(a_ X N' scope cl C { s2 with heap:=h3',toks:=s2.toks } H2 (acc :: fp)).Ok:=KD I3 W.kind (by show h3'.objs.size<=C; rw [hCC]; exact Nat.le_refl _) W.sub W.has f3
 have hC2:H2 C=none:=I2.hok.fresh (by rw [hA,hC]; exact Nat.le_succ _);have hcells:∀x c,cl.lookup x=some c->∃v,h₁.IsCell c v:=fun x c e=>by
  obtain ⟨v,o,g,d⟩:=I2.cell x c (W.sub x c e);exact ⟨v,o,k4 _ _ (k3 _ _ g),d⟩
 have hos:s2.os=({ s2 with heap:=h3',toks:=s2.toks }:Shared).os:=rfl
 have I4:∀tk,Inv (a_ X N' scope cl C { s2 with heap:=h3',toks:=s2.toks } H2 (acc :: fp)) [] (iy m fr σ) H2 { s2 with heap:=h₁,toks:=tk }:=fun tk=>by
  refine ⟨okX,rfl,I2.bare,Un.kept k4,⟨_,hns₁,fun i x v e1 e2 e3=>?_⟩,hcells,hC2,fun x c e=>I2.freeC x c (W.sub x c e),fun p hp=>absurd hp (by show p∉([]:List (Addr×Obj)) ++ []; simp),I3.hok.kept k4,by show _=N'.length; rw [W.len]; simp [iy]⟩;unfold iy at e2
  by_cases hm':i < m
  ·rw [List.getElem?_append_left (by simpa using hm'),List.getElem?_replicate,if_pos hm'] at e2
   cases e2
  ·rw [List.getElem?_append_right (by simpa using hm'),List.getElem?_map] at e2;simp only [List.length_replicate] at e2
   cases qf:fr[i - m]? with
   | none=>rw [qf] at e2; cases e2
   | some k =>
    rw [qf] at e2;simp only [Option.map_some,Option.some.injEq] at e2;have e2':σ[k]? = some (some v):=by
     cases qk:σ[k]? with
     | none=>rw [qk] at e2; cases e2
     | some w=>rw [qk] at e2; simp only [Option.elim_some,id] at e2; rw [e2]
    obtain ⟨x',c,w1,w2,w3,w4,w5,w6⟩:=W.free (i - m) k qf;have hx:x'=x:=by
     have:m + (i - m)=i:=by omega
     rw [this] at w1;have e1':N'[i]? = some x:=e1;rw [e1'] at w1; cases w1; rfl
    subst hx;obtain ⟨m0,hn0,hl0⟩:=I2.loc;obtain ⟨u,r,l⟩:=hl0 k x' v w2 e2' w3;refine ⟨u,r,?_⟩;rcases l with ⟨l1,_⟩ | ⟨l1,c',l2,o,g,d⟩
    ·rcases w4 with z | z <;> (rw [z] at l1; cases l1)
    ·have hcc:c'=c:=by
      have:=W.sub x' c w5;rw [l2] at this; cases this; rfl
     subst hcc;exact .inr ⟨w6,c',w5,o,k4 _ _ (k3 _ _ g),d⟩
 have R4:=KR m fr R2;have st4:tn 0 h₁:=T.keep 0 _ _ st2 fun b hb o e=>k4 _ _ (k3 _ _ e);have hfp:∀b∈acc :: fp,b≠C/\b∉frs X.stack/\∀x c,cl.lookup x=some c->c≠b:=fun b hb=>by
  obtain ⟨⟨g1,g2,g3,g4,g5,g6⟩,g7⟩:=f3 b hb;refine ⟨Nat.ne_of_lt (by rw [<- hCC]; exact g7),fun z=>?_,fun x c e=>g5 x c (W.sub x c e)⟩;rcases List.mem_cons.mp (I2.stkSub b z) with w | w
  ·exact g2 w
  ·exact g3 w
 have hCs:s2.heap.objs.size<=C:=by rw [hA,hC]; exact Nat.le_succ _
 have loop:∀tk,codeAny (model X.prog X.w) X.A (.compLoop (.ListComp elt [⟨tg,iter,cs,0⟩] scope pos) 0 (.ref it) (.ref acc) (compEnvC scope cl C X.env)) (RR (.ref acc) C) { s2 with heap:=h₁,toks:=tk }:=fun tk=>by
  refine gd' (m:=m) (its0:=#[]) hcalm T Y hR hz' hkt (fun i h sv=>Bq i h sv) (ht C _ H2 (acc :: fp)) hcs (hc C _ H2 (acc :: fp)) (he C _ H2 (acc :: fp)) hacc hfp ?_ (I4 tk) R4 st4 (fun b hb=>(f3 b hb).1.1) ⟨0,k4 _ _ a3⟩;intro s' σ' H' ys its J e' ha' hf' p' v' r';have K1:Inv X pins σ H' s':=I3.call' (ch:=acc :: fp) J.os J.base J.hok J.bare fun b hb=>by
   obtain ⟨⟨g1,g2,g3,g4,g5,g6⟩,g7⟩:=f3 b hb;exact ⟨g4,g2,g5,g6⟩
  obtain ⟨⟨g1,g2,g3,g4,g5,g6⟩,g7⟩:=f3 acc (by simp);obtain ⟨n',o'⟩:=p';have K2:=K1.track (o:=.lst ys) ha' (fun ob e _=>absurd (Nat.lt_of_lt_of_le (Heap.lt_size e) (by rw [<- hA]; exact I2.sz)) (Nat.lt_irrefl _)) g2 g5 g6
   ⟨by rw [r'.length]; exact hz,its.toList,n',v',by simpa using o'⟩
  obtain ⟨mC,hmC,_⟩:=J.loc;have sm:=gb ha' (.lst ys);have hCa:C≠acc:=by omega
  refine fin acc C s' (upd H' acc (.lst ys)) (rs.flatMap unI) ys mC ev K2 (e2.trans (e'.trans sm)) (e2.free hacc2) bR (r'.mono sm) hmC (by rw [aL hCa]; exact J.free) hCa (Nat.le_trans I2.sz hCs) (I2.nofs hCs) (Nat.ne_of_gt (Nat.lt_of_lt_of_le I2.lt hCs)) (fun x c e z=>?_) fun p hp z=>?_
  ·obtain ⟨v,q⟩:=I2.cell x c e;exact absurd (Nat.lt_of_lt_of_le q.lt (by rw [z]; exact hCs)) (Nat.lt_irrefl _)
  ·exact absurd (Nat.lt_of_lt_of_le (Heap.lt_size (I2.pin p hp).1) (by rw [z]; exact hCs)) (Nat.lt_irrefl _)
 exact codeAny_compStart_list (loop _) (T.self X.A 0 _ _ _ st4 (loop _))
theorem Eu (W:Around' X m fr N' scope cl) (hcalm:X.calm=true) (hkt:c7 m t) (hi:PID X tg iter fi) (ht:∀C s H fp,PGD (a_ X N' scope cl C s H fp) tg t) (hcs:cs.length<=1) (hc:∀C s H fp,Bt (a_ X N' scope cl C s H fp) cs fc) (he:∀C s H fp,PD (a_ X N' scope cl C s H fp) elt fe)
  {pins:List (Addr×Obj)} {s:Shared} {σ:St} {G H:Hp} {δ:DS} (I:Inv X pins σ H s) (R:RepSt X.K G H σ δ) (hs:cD m fr t fc fe fi δ≠.stuck) {E:Value->Shared->Prop} (hE:∀e s1,XPost X pins σ H s.heap (cD m fr t fc fe fi δ) e s1->E e s1)
  {RR:Value->Addr->Result->Shared->Prop}
  (fin:∀a C s' H' ds xs mC,cD m fr t fc fe fi δ=.ok (.lst ds)->Inv X pins σ H' s'->Same H H'->H a=none->H' a=some (.lst xs)->Reps X.K H' ds xs->s'.heap.Ns C mC->H' C=none->C≠a->X.s₀.heap.objs.size<=C->C∉X.fs->C≠X.env.locals->(∀x c,X.env.cells.lookup x=some c->c≠C)->(∀p∈X.pn ++ pins,p.1≠C)->RR (.ref a) C (.ok .next) s') :
  wpAny (model X.prog X.w) X.A (eval iter X.env) (fun x s₁=>wpAny (model X.prog X.w) X.A (pyIter x) (fun itv s₂=>wpAny (model X.prog X.w) X.A (newList []) (fun acc s₃ =>
   wpAny (model X.prog X.w) X.A (newFunctionEnv scope X.env.globals cl [] X.env.qual none .none (some X.env)) (fun cenv s₄ =>
    codeAny (model X.prog X.w) X.A (.compStart (.ListComp elt [⟨tg,iter,cs,0⟩] scope pos) 0 itv acc { cenv with scope:=relabel scope X.env }) (RR acc cenv.locals) s₄) E s₃) E s₂) E s₁) E s:=Et W hcalm hkt ht hcs hc he I R hs hE (hi pins s σ G H δ I R (dF (show (fi δ).bind (fC t fc fe (bV m fr δ))≠.stuck from hs))) fin
theorem compI_true {δ:DS}:cD m fr t (fun _=>.ok true) fe fi δ=bA m fr t fe fi δ:=by
 have el:∀(δ':DS) (d:D),eQ t (fun _=>.ok true) fe δ' d=(eO t fe δ' d).bind fun x=>.ok (.tup [x]):=fun δ' d=>by
  unfold eQ eO
  cases t d δ' with
  | none=>rfl
  | some δ1=>cases h:fe δ1 <;> simp only [h] <;> rfl
 have mr:∀(δ':DS) (ds:List D),mapR (eQ t (fun _=>.ok true) fe δ') ds=(mapR (eO t fe δ') ds).bind fun rs=>.ok (rs.map fun x=>.tup [x]):=fun δ' ds=>by
  induction ds with
  | nil=>rfl
  | cons d ds ih =>
   simp only [mapR,el,ih]
   cases eO t fe δ' d with
   | stuck=>rfl
   | err x=>rfl
   | ok x=>cases mapR (eO t fe δ') ds <;> rfl
 have un:∀rs:List D,(rs.map fun x=>D.tup [x]).flatMap unI=rs:=fun rs=>by
  induction rs with
  | nil=>rfl
  | cons r rs ih=>rw [List.map_cons,List.flatMap_cons,ih]; rfl
 unfold cD bA
 cases fi δ with
 | stuck=>rfl
 | err x=>rfl
 | ok ds =>
  show fC t (fun _=>.ok true) fe (bV m fr δ) ds=gf (mapR (eO t fe (bV m fr δ)) ds);unfold fC gf;rw [mr]
  cases hR:mapR (eO t fe (bV m fr δ)) ds with
  | stuck=>split <;> rfl
  | err x=>exact (Bs (fun d=>KY d) ds x hR).elim
  | ok rs =>
   have h:=Br hR;show (if ds.length<=sizeLine then Res.ok (D.lst ((rs.map fun x=>D.tup [x]).flatMap unI)) else .stuck)=if rs.length<=sizeLine then Res.ok (D.lst rs) else .stuck
   rw [un,h]
theorem Bu (W:Around' X m fr N' scope cl) (hcalm:X.calm=true) (hkt:c7 m t) (hi:PID X tg iter fi) (ht:∀C s H fp,PGD (a_ X N' scope cl C s H fp) tg t) (he:∀C s H fp,PD (a_ X N' scope cl C s H fp) elt fe)
  {pins:List (Addr×Obj)} {s:Shared} {σ:St} {G H:Hp} {δ:DS} (I:Inv X pins σ H s) (R:RepSt X.K G H σ δ) (hs:bA m fr t fe fi δ≠.stuck) {E:Value->Shared->Prop} (hE:∀e s1,XPost X pins σ H s.heap (bA m fr t fe fi δ) e s1->E e s1)
  {RR:Value->Addr->Result->Shared->Prop}
  (fin:∀a C s' H' ds xs mC,bA m fr t fe fi δ=.ok (.lst ds)->Inv X pins σ H' s'->Same H H'->H a=none->H' a=some (.lst xs)->Reps X.K H' ds xs->s'.heap.Ns C mC->H' C=none->C≠a->X.s₀.heap.objs.size<=C->C∉X.fs->C≠X.env.locals->(∀x c,X.env.cells.lookup x=some c->c≠C)->(∀p∈X.pn ++ pins,p.1≠C)->RR (.ref a) C (.ok .next) s') :
  wpAny (model X.prog X.w) X.A (eval iter X.env) (fun x s₁=>wpAny (model X.prog X.w) X.A (pyIter x) (fun itv s₂=>wpAny (model X.prog X.w) X.A (newList []) (fun acc s₃ =>
   wpAny (model X.prog X.w) X.A (newFunctionEnv scope X.env.globals cl [] X.env.qual none .none (some X.env)) (fun cenv s₄ =>
    codeAny (model X.prog X.w) X.A (.compStart (.ListComp elt [⟨tg,iter,[],0⟩] scope pos) 0 itv acc { cenv with scope:=relabel scope X.env }) (RR acc cenv.locals) s₄) E s₃) E s₂) E s₁) E s:=by
 have e:bA m fr t fe fi δ=cD m fr t (fun _=>.ok true) fe fi δ:=compI_true.symm;rw [e] at hs hE;exact Eu (cs:=[]) W hcalm hkt hi ht (Nat.zero_le 1) (fun C s H fp pins s' σ G H' δ I R _=>wpAny_pure ⟨H',rfl,I,Same.refl _⟩) he I R hs hE fun a C s' H' ds xs mC ev=>fin a C s' H' ds xs mC (e.trans ev)
theorem uF (W:Around' X m fr N' scope cl) (hcalm:X.calm=true) (hkt:c7 m t) (hi:PID X tg iter fi) (ht:∀C s H fp,PGD (a_ X N' scope cl C s H fp) tg t) (he:∀C s H fp,PD (a_ X N' scope cl C s H fp) elt fe)
  (hf:∀x,foldedSetIterable iter X.env x=pure x:=by intro _; rfl):PD X (.ListComp elt [⟨tg,iter,[],0⟩] scope pos) (bA m fr t fe fi):=by
 intro pins s σ G H δ I R hs;rw [eval_ListComp];refine wpAny_comprehension_free (use:=none) rfl hf W.clos W.kind W.names (Bu W hcalm hkt hi ht he I R hs (fun _ _ q=>q) (RR:=fun acc C=>compPost _ _ _ none _ acc C) ?_);intro a C s' H' ds xs mC ev J e' ha hx hr hns hC hCa hC0 hCf hCl hCc hCp;refine ⟨mC,hns,fun h' hs'=>?_⟩;exact ⟨.lst ds,.ref a,H',ev,J.but (t':=s'.toks) hC hC0 hCl hCc hCp hs',rfl,e',jT (SqL.of hx) hr⟩
theorem K4 (i:Nat) {y:Str} {py spos:Pos} (W:Around' X m fr N' scope cl) (hcalm:X.calm=true) (hkt:c7 m t) (hi:PID X tg iter fi) (ht:∀C s H fp,PGD (a_ X N' scope cl C s H fp) tg t) (he:∀C s H fp,PD (a_ X N' scope cl C s H fp) elt fe)
  (hN:X.N.Nodup) (hsw:swapsWith (.ListComp elt [⟨tg,iter,[],0⟩] scope pos) (some (.Name y py)) spos.line X.env=pure true:=by rfl) (hy:X.N[i]? = some y:=by rfl) (hx:Loc X.env.scope y:=by first | exact Or.inl rfl | exact Or.inr rfl)
  (hfn:X.fn y=true\/X.env.scope.names.lookup y=some .local:=by first | exact .inl rfl | exact .inr rfl | assumption) (hf:∀x,foldedSetIterable iter X.env x=pure x:=by intro _; rfl) :
  PSD X (.Assign [.Name y py] (.ListComp elt [⟨tg,iter,[],0⟩] scope pos) spos) (aC i (bA m fr t fe fi)):=by
 intro pins s σ G H δ I R hs;have hs':bA m fr t fe fi δ≠.stuck:=rM hs;rw [exec_Assign_Name_used _ _ _ _ hsw];refine wpAny_bind (wpAny_standAt (wpAny_bind ?_));show wpAny _ X.A (do let _ <- comprehension (.ListComp elt [⟨tg,iter,[],0⟩] scope pos) scope X.env _ (newList []) false (eval iter X.env) (some (assign (.Name y py) X.env))) _ _ s
 refine wpAny_bind (wpAny_mono (wpAny_comprehension_free (use:=some (assign (.Name y py) X.env)) (Q:=fun _ s'=>SPost X pins G H (aC i (bA m fr t fe fi) δ) .next s') rfl hf W.clos W.kind W.names
  (Bu W hcalm hkt hi ht he I R hs' (fun e s1 q=>q.sx R fun x z=>by unfold aC; rw [z]; rfl) (RR:=fun acc C=>compPost _ _ _ (some (assign (.Name y py) X.env)) _ acc C) ?_)) (fun _ s' hq=>wpAny_pure (wpAny_pure hq)) fun _ _ e=>e)
 intro a C s' H' ds xs mC ev J e' ha hx' hr hns hC hCa hC0 hCf hCl hCc hCp;show wpAny _ X.A (assign (.Name y py) X.env (.ref a)) _ _ _;refine wpAny_assign_Name (yM J hN hy hx (v:=.ref a) (u:=.ref a) rfl (fun s2 I2 ⟨b,sb,hb⟩=>?_) hfn);have hbC:C≠b:=by
  rcases hb with z | z
  ·rw [z]; exact hCl
  ·exact fun w=>hCc _ _ z w.symm
 refine ⟨mC,hns.sameBut sb hbC,fun h' hs'=>?_⟩;refine ⟨_,_,H',by unfold aC; rw [ev]; rfl,I2.but (t':=s2.toks) hC hC0 hCl hCc hCp hs',e'.tk,(R.mono e').set i (jT (SqL.of hx') hr)⟩
end
mutual
noncomputable def gA:D->PyData
 | .non=>.none
 | .bl b=>.bool b
 | .int i=>.int i
 | .str x=>.str x
 | .tup ds=>.tuple (gh ds)
 | .lst ds=>.list (gh ds)
 | _=>.none
noncomputable def gh:List D->List PyData
 | []=>[]
 | d :: ds=>gA d :: gh ds
end
noncomputable def eZ:Nat->D->Bool
 | _,.non=>true
 | _,.bl _=>true
 | _,.int _=>true
 | _,.str x=>PyData.strOk x
 | n + 1,.tup ds=>ds.all (eZ n)
 | n + 1,.lst ds=>ds.all (eZ n)
 | _,_=>false
theorem vG:∀(n:Nat) (d:D),eZ n d=true->(gA d).canLay0=true/\(gA d).depth<=n:=by
 intro n;have all:∀n,(∀d,eZ n d=true->(gA d).canLay0=true/\(gA d).depth<=n)->∀ds:List D,(∀d∈ds,eZ n d=true)->PyData.canLayAll0 (gh ds)=true/\PyData.depthAll (gh ds)<=n:=by
  intro n ih ds
  induction ds with
  | nil=>intro _; simp [gh,PyData.canLayAll0,PyData.depthAll]
  | cons d ds hi =>
   intro h;have q1:=ih d (h d (.head _));have q2:=hi fun x hx=>h x (.tail _ hx);simp only [gh,PyData.canLayAll0,PyData.depthAll,Bool.and_eq_true];exact ⟨⟨q1.1,q2.1⟩,by omega⟩
 induction n with
 | zero =>
  intro d h
  cases d <;> simp_all [eZ,gA,PyData.canLay0,PyData.depth]
 | succ n ih =>
  intro d h
  cases d with
  | tup ds =>
   have:=all n ih ds (by simpa [eZ] using h);simp only [gA,PyData.canLay0,PyData.depth];exact ⟨this.1,by omega⟩
  | lst ds =>
   have:=all n ih ds (by simpa [eZ] using h);simp only [gA,PyData.canLay0,PyData.depth];exact ⟨this.1,by omega⟩
  | _=>simp_all [eZ,gA,PyData.canLay0,PyData.depth]
section
variable {X:Cx} {pins:List (Addr×Obj)} {σ:St} {H:Hp} {s:Shared}
mutual
theorem pL (I:Inv X pins σ H s):∀(n:Nat) {d:D} {v:V} {u:Value},eZ n d=true->Rep X.K H d v->RelV v u->∃as,Reads s.heap u (gA d) as
 | n,.non,v,u,_,p,r=>by rw [Rep] at p; subst p; cases r; rw [gA]; exact ⟨_,Reads.none⟩
 | n,.bl b,v,u,_,p,r=>by rw [Rep] at p; subst p; cases r; rw [gA]; exact ⟨_,Reads.bool b⟩
 | n,.int i,v,u,_,p,r=>by rw [Rep] at p; subst p; obtain ⟨t,rfl⟩:=r; rw [gA]; exact ⟨_,Reads.int i t⟩
 | n,.str x,v,u,_,p,r=>by rw [Rep] at p; subst p; obtain ⟨t,rfl⟩:=r; rw [gA]; exact ⟨_,Reads.str x t⟩
 | n + 1,.tup ds,v,u,h,p,r=>by
  obtain ⟨a,xs,rfl,hq,rs⟩:=cO p
  cases r
  obtain ⟨its,rv,⟨o,g,c,k,d⟩,hz⟩:=I.tuple hq;obtain ⟨as,q⟩:=Bv I n (by simpa [eZ] using h) rs rv;rw [gA];exact ⟨as,reads_tuple_at g c d (by simpa using q)⟩
 | n + 1,.lst ds,v,u,h,p,r=>by
  obtain ⟨a,xs,rfl,hq,rs⟩:=cP p
  cases r
  obtain ⟨its,rv,⟨o,k,g,c,_,d⟩,hz⟩:=I.list hq;obtain ⟨as,q⟩:=Bv I n (by simpa [eZ] using h) rs rv;rw [gA];exact ⟨_,reads_list_at g c d (by simpa using q)⟩
 | 0,.tup ds,v,u,h,p,r=>by simp [eZ] at h
 | 0,.lst ds,v,u,h,p,r=>by simp [eZ] at h
 | n,.exc c,v,u,h,p,r=>by cases n <;> simp [eZ] at h
 | n,.excf c f d,v,u,h,p,r=>by cases n <;> simp [eZ] at h
 | n,.dct,v,u,h,p,r=>by cases n <;> simp [eZ] at h
 | n,.obj c fs ds,v,u,h,p,r=>by cases n <;> simp [eZ] at h
 | n,.dic c fs,v,u,h,p,r=>by cases n <;> simp [eZ] at h
 | n,.adr c,v,u,h,p,r=>by cases n <;> simp [eZ] at h
theorem Bv (I:Inv X pins σ H s):∀(n:Nat) {ds:List D} {vs:List V} {us:List Value},(∀d∈ds,eZ n d=true)->Reps X.K H ds vs->Vals vs us->∃as,ReadsAll s.heap us (gh ds) as
 | n,[],vs,us,_,p,r=>by
  cases p.nil_of
  cases r
  rw [gh];exact ⟨_,ReadsAll.nil⟩
 | n,d :: ds,vs,us,h,p,r=>by
  obtain ⟨v,ws,rfl,p1,p2⟩:=p.cons_of
  cases r with
  | cons r1 r2 =>
   obtain ⟨as,q⟩:=pL I n (h d (.head _)) p1 r1;obtain ⟨bs,q2⟩:=Bv I n (fun x hx=>h x (.tail _ hx)) p2 r2;rw [gh];exact ⟨_,ReadsAll.cons q q2⟩
end
end
noncomputable def dH (a b:D):Res D:=if eZ 8 a=true/\eZ 8 b=true then .ok (.bl (PyData.eqv (gA a) (gA b))) else .stuck
noncomputable def jV (a b:D):Res D:=if eZ 8 a=true/\eZ 8 b=true then .ok (.bl (!PyData.eqv (gA a) (gA b))) else .stuck
theorem iQ (x y:D):aJ (dH x y):=as' cH bT
theorem cN' (x y:D):aJ (jV x y):=as' cH bT
theorem zj {d:D} (h:eZ 8 d=true):SeqAt.shaped (gA d)=true:=by
 have:=vG 8 d h;unfold SeqAt.shaped;rw [this.1,Bool.true_and];exact decide_eq_true (Nat.le_trans this.2 (by decide))
theorem bm' {X:Cx} (hu:X.A.units + 64 < cLine):OpD X (compareOp .Eq) dH:=by
 intro E pins s σ H x y v u a b d I r1 r2 p1 p2 e;unfold dH at e
 split at e
 ·rename_i c
  cases e
  obtain ⟨as,ra⟩:=pL I 8 c.1 p1 r1;obtain ⟨bs,rb⟩:=pL I 8 c.2 p2 r2;exact SeqAt.compareEq_shaped ra rb (zj c.1) (zj c.2) hu ⟨_,.bl _,H,rfl,I,rfl,Same.refl H,km⟩
 ·cases e
theorem rO {X:Cx} (hu:X.A.units + 64 < cLine):OpD X (compareOp .NotEq) jV:=by
 intro E pins s σ H x y v u a b d I r1 r2 p1 p2 e;unfold jV at e
 split at e
 ·rename_i c
  cases e
  obtain ⟨as,ra⟩:=pL I 8 c.1 p1 r1;obtain ⟨bs,rb⟩:=pL I 8 c.2 p2 r2;exact SeqAt.compareNe_shaped ra rb (zj c.1) (zj c.2) hu ⟨_,.bl _,H,rfl,I,rfl,Same.refl H,km⟩
 ·cases e
noncomputable def rP:D->String
 | .non=>"NoneType"
 | .bl _=>"bool"
 | .int _=>"int"
 | .str _=>"str"
 | .tup _=>"tuple"
 | .lst _=>"list"
 | .dct=>"dict"
 | _=>""
theorem K5 {K:PySem.W.Frag} {prog:Program} {w:World} {A:Around} {s:Shared} {x D:Addr} {ox:Obj} {tk:Tok} {R:Result->Shared->Prop}
  (hdct:PySem.W.hasDictIn K D=true) (ha:PySem.W.findIn K (.ref D) "__class__" = some (some (.builtin "object.__class__")))
  (hn:PySem.W.specialIn K (.builtin "object.__class__") "__get__" = some (some (.builtin "getset_descriptor.__get__"))) (htk:PySem.W.takesIn K (.builtin "object.__class__")=some true) (hm:PySem.W.mroIn K D (.type "object")=some true) (hB:PySem.W.mroIn K D (.type "BaseException")=some true)
  {od:Option Obj} (X:K.In s.heap) (I:PySem.W.InstAt s.heap x ox D od) (h:R (.ok (.ret (.ref D))) s) :
  codeAny (model prog w) A (.call (.builtin "BaseException.__getattribute__") ⟨[.ref x,.str "__class__" tk],[]⟩) R s:=by
 have hf:PySem.W.findObj K D od "__class__" = some (.bind (.builtin "getset_descriptor.__get__") (.builtin "object.__class__")):=by
  obtain ⟨cd,hc,_⟩:=PySem.W.any_some hdct;unfold PySem.W.findObj;rw [hc,Option.bind_some,ha,Option.bind_some];simp [hn,htk]
 have hk:builtinKind "BaseException.__getattribute__" = some .slot:=by decide +kernel
 have hsplit:splitId "BaseException.__getattribute__" = some ("BaseException", "__getattribute__"):=by decide +kernel
 have L0:=I.type (M:=model prog w);have L1:=PySem.W.looks_find (M:=model prog w) X I hf;have L2:=PySem.W.looks_mroIn (M:=model prog w) X hB;have har:=F.args_bexc_ga (.ref x) (.str "__class__" tk);refine codeAny_call_builtin (by decide +kernel) F.entry_bexc_ga ?_;simp only [checkBuiltinCall,hk,hsplit];refine wpAny_bind ?_;unfold isInstance;refine wpAny_bind (L0.at (L2.at ?_));simp only [Bool.not_true,Bool.false_eq_true,if_false]
 repeat (first | with_reducible refine wpAny_pure ?_ | with_reducible refine wpAny_bind ?_ | wp_step)
 obtain ⟨hh,g,dr,t,os⟩:=s;refine wpAny_loadPart I.at_ (wpAny_pure ?_);rw [I.cls];refine wpAny_bind (L1.at ?_);show wpAny _ _ (Builtin.ObjectAttr.bindTo _ _ _ _) _ _ _;unfold Builtin.ObjectAttr.bindTo;refine wpAny_bind (wpAny_holding (wpAny_call (PySem.W.class_get (s:=⟨hh,g,dr,t,os⟩) (ox:=ox) (od:=od) X I hm ?_)));exact wpAny_pure h
theorem Ew {K:PySem.W.Frag} {prog:Program} {w:World} {A:Around} {E:Value->Shared->Prop} {s:Shared} {x D:Addr} {ox:Obj} {Q:Option Value->Shared->Prop}
  (hga:PySem.W.findIn K (.ref D) "__getattribute__" = some (some (.builtin "BaseException.__getattribute__"))) (hgk:PySem.W.findIn K (.ref D) "__getattr__" = some none)
  (hdct:PySem.W.hasDictIn K D=true) (ha:PySem.W.findIn K (.ref D) "__class__" = some (some (.builtin "object.__class__")))
  (hn:PySem.W.specialIn K (.builtin "object.__class__") "__get__" = some (some (.builtin "getset_descriptor.__get__"))) (htk:PySem.W.takesIn K (.builtin "object.__class__")=some true) (hm:PySem.W.mroIn K D (.type "object")=some true) (hB:PySem.W.mroIn K D (.type "BaseException")=some true)
  {od:Option Obj} (X:K.In s.heap) (I:PySem.W.InstAt s.heap x ox D od) (h:Q (some (.ref D)) { s with toks:=s.toks + 1 }):wpAny (model prog w) A (getAttr? (.ref x) "__class__") Q E s:=by
 obtain ⟨hh,g,d,t,os⟩:=s;have L0:=I.type (M:=model prog w);have L1:=PySem.W.looks_findIn (M:=model prog w) X hga;have Lk:=PySem.W.looks_findIn (M:=model prog w) X hgk;unfold getAttr? getAttrBy? getAttrBy;refine wpAny_bind (wpAny_mkText (wpAny_bind (wpAny_attempt (wpAny_holding (wpAny_bind (L0.at (wpAny_bind (L1.at ?_))))))));show wpAny _ _ (getAttrByItsOwn _ _ _ _ _ _) _ _ _;unfold getAttrByItsOwn hookBefore;refine wpAny_bind (Lk.at ?_);refine wpAny_bind (wpAny_attempt (wpAny_holding ?_));show wpAny _ _ (boundAndCalled _ _ _) _ _ _;unfold boundAndCalled;rw [PySem.F.attrBase_ValueError.ga.bind];refine wpAny_bind (wpAny_pure (wpAny_call (K5 (s:=⟨hh,g,d,t + 1,os⟩) hdct ha hn htk hm hB X I ?_)));exact PySem.W.handed_on rfl (wpAny_pure h)
structure ExcCls (K:PySem.W.Frag) (C:Addr):Prop where
 hga:PySem.W.findIn K (.ref C) "__getattribute__" = some (some (.builtin "BaseException.__getattribute__"))
 hgk:PySem.W.findIn K (.ref C) "__getattr__" = some none
 hdct:PySem.W.hasDictIn K C=true
 ha:PySem.W.findIn K (.ref C) "__class__" = some (some (.builtin "object.__class__"))
 hn:PySem.W.specialIn K (.builtin "object.__class__") "__get__" = some (some (.builtin "getset_descriptor.__get__"))
 htk:PySem.W.takesIn K (.builtin "object.__class__")=some true
 hm:PySem.W.mroIn K C (.type "object")=some true
 hB:PySem.W.mroIn K C (.type "BaseException")=some true
theorem Ex {K:PySem.W.Frag} {a C:Addr} {dd:Option Addr} (W:ExcCls K C):PySem.W.KitX K (.ref a) (.ref C) (fun h=>excAt a C dd h/\match dd with | none=>True | some dx=>∃o,h.get? dx=some o) where
 ty:=fun M h _ ⟨⟨o,vs,g,c,_⟩,_⟩=>by rw [<- c]; exact (PySem.W.Looks.ld g).andThen .now
 it:=fun _ _ X _=>by
  obtain ⟨cdD,hcD,_⟩:=PySem.W.any_some W.hdct;unfold PySem.W.clsIn at hcD
  split at hcD
  ·rename_i c' d' cd' sl' ho;intro A' Q' E' s' k q;unfold isType loadHead;exact wpAny_bind (wpAny_loadPart (k _ _ (X _ _ ho)) (wpAny_pure q))
  ·cases hcD
 ne:=fun h tp dd its n sl X htp=>by
  obtain ⟨cdD,hcD,_⟩:=PySem.W.any_some W.hdct;refine Bool.eq_false_iff.mpr fun q=>?_;have e:C=tp:=Value.ref.inj (beq_iff_eq.mp q);subst e;unfold PySem.W.clsIn at hcD
  split at hcD
  ·rename_i c' d' cd' sl' ho;have z:=(X _ _ ho).symm.trans htp
   cases z
  ·cases hcD
 ca:=fun X ⟨⟨o,vs,g,c,d,hd⟩,w⟩ k=>by
  cases dd with
  | none=>exact Ew (od:=none) W.hga W.hgk W.hdct W.ha W.hn W.htk W.hm W.hB X ⟨g,c,by unfold PySem.W.notCls; rw [hd],by rw [d]; trivial⟩ k
  | some dx =>
   obtain ⟨od,ho⟩:=w;exact Ew (od:=some od) W.hga W.hgk W.hdct W.ha W.hn W.htk W.hm W.hB X ⟨g,c,by unfold PySem.W.notCls; rw [hd],by rw [d]; exact ho⟩ k
structure ObCls (K:PySem.W.Frag) (C:Addr):Prop where
 cl:Cls K C
 ha:PySem.W.findIn K (.ref C) "__class__" = some (some (.builtin "object.__class__"))
 hn:PySem.W.specialIn K (.builtin "object.__class__") "__get__" = some (some (.builtin "getset_descriptor.__get__"))
 htk:PySem.W.takesIn K (.builtin "object.__class__")=some true
 hm:PySem.W.mroIn K C (.type "object")=some true
noncomputable def b7 (K:PySem.W.Frag) (cv:Value) (b:Bool):D->Prop
 | .obj n _ _=>∀C,PySem.W.nsIn K mainGlobals n=some (some (.ref C))->ObCls K C/\PySem.W.kitOne K (.ref C) cv=some b
 | .exc n=>∀C,PySem.W.nsIn K mainGlobals n=some (some (.ref C))->ExcCls K C/\PySem.W.kitOne K (.ref C) cv=some b
 | .excf n _ _=>∀C,PySem.W.nsIn K mainGlobals n=some (some (.ref C))->ExcCls K C/\PySem.W.kitOne K (.ref C) cv=some b
 | .dic _ _=>False
 | .adr _=>False
 | d=>PySem.W.kitOne K (.type (rP d)) cv=some b
theorem K6 {X:Cx} {pins:List (Addr×Obj)} {σ:St} {H:Hp} {s:Shared} {A:Around} {E:Value->Shared->Prop} {Q:Value->Shared->Prop} {cv u:Value} {v:V} {d:D} {b:Bool} (I:Inv X pins σ H s) (p:Rep X.K H d v) (r:RelV v u) (ok:b7 X.K cv b d)
  (h:∀tk,Q (.bool b) { s with toks:=tk }):wpAny (model X.prog X.w) A (call (.builtin "isinstance") [u,cv]) Q E s:=by
 cases d with
 | non=>rw [Rep] at p; subst p; exact u6 I r .non ok h
 | bl k=>rw [Rep] at p; subst p; exact u6 I r (.bl k) ok h
 | int k=>rw [Rep] at p; subst p; exact u6 I r (.int k) ok h
 | str k=>rw [Rep] at p; subst p; exact u6 I r (.str k) ok h
 | tup ds =>
  obtain ⟨a,xs,rfl,hq,_⟩:=cO p
  cases r
  obtain ⟨its,_,⟨o,g,c,_⟩,_⟩:=I.tuple hq;exact PySem.W.kia_one PySem.W.kitx_tuple I.kIn ⟨o,g,c⟩ ok (fun z=>nomatch z) h
 | lst ds =>
  obtain ⟨a,xs,rfl,hq,_⟩:=cP p
  cases r
  obtain ⟨its,_,⟨o,_,g,c,_⟩,_⟩:=I.list hq;exact PySem.W.kia_one PySem.W.kitx_list I.kIn ⟨o,g,c⟩ ok (fun z=>nomatch z) h
 | exc n =>
  rw [Rep] at p;obtain ⟨a,C,rfl,hC,hH⟩:=p
  cases r
  obtain ⟨W,ok⟩:=ok C hC;exact PySem.W.kia_one (Ex (dd:=none) W) I.kIn ⟨(I.hok a _ hH).1,trivial⟩ ok (fun z=>nomatch z) h
 | excf n f d =>
  rw [Rep] at p;obtain ⟨a,C,dx,w,rfl,hC,hH,hx,_⟩:=p
  cases r
  obtain ⟨W,ok⟩:=ok C hC;obtain ⟨mA,⟨o,_,_,g,_⟩,_⟩:=I.hok dx _ hx;exact PySem.W.kia_one (Ex (dd:=some dx) W) I.kIn ⟨(I.hok a _ hH).1,o,g⟩ ok (fun z=>nomatch z) h
 | dct =>
  rw [Rep] at p;obtain ⟨a,rfl,hH⟩:=p
  cases r
  exact PySem.W.kia_one PySem.W.kitx_dict I.kIn (I.hok a _ hH).1 ok (fun z=>nomatch z) h
 | dic ks ds=>exact ok.elim
 | adr ks=>exact ok.elim
 | obj n fs ds =>
  rw [Rep] at p;obtain ⟨a,C,dx,us,rfl,hC,hH,_⟩:=p;obtain ⟨W,ok⟩:=ok C hC;exact u6 I r (.ins hH W.cl W.ha W.hn W.htk W.hm) ok h
theorem K7:bootBuiltins "isinstance" = some (.builtin "isinstance"):=by decide +kernel
noncomputable def fO (isF:D->Option Bool) (d:D):Res D:=match isF d with | some b=>.ok (.bl b) | none=>.stuck
section
variable {X:Cx} {e:Expr} {f:DS->Res D} {c:Str} {p cp pos:Pos} {cv:Value} {isF:D->Option Bool}
theorem gB (hI:∀d b,isF d=some b->b7 X.K cv b d) (ha:PD X e f) (hc:∀(pins:List (Addr×Obj)) (σ:St) (H:Hp) (s:Shared) (E:Value->Shared->Prop) (Q:Value->Shared->Prop),Inv X pins σ H s->Q cv s->wpAny (model X.prog X.w) X.A (eval (.Name c cp) X.env) Q E s)
  (hg:Gl X "isinstance") (hm:X.mg "isinstance" = none) (he:starEach [e,.Name c cp] X.env=(false,eval e X.env) :: starEach [.Name c cp] X.env:=by rfl) (he2:starEach [.Name c cp] X.env=[(false,eval (.Name c cp) X.env)]:=by rfl) :
  PD X (.Call (.Name "isinstance" p) [e,.Name c cp] [] pos) (fun δ=>(f δ).bind (fO isF)):=by
 intro pins s σ G H δ I R hs
 try dsimp only at hs ⊢
 refine wpAny_Call_Name_kw (oN I hg hm (u:=.builtin "isinstance") K7 ?_ (by decide) (by decide));refine PyProof.Rows.callWith_builtin1 ?_ he (by rw [he2]; rfl);rw [he];show wpAny _ _ (spliced ((false,eval e X.env) :: backTo pos (starEach [.Name c cp] X.env))) _ _ s;refine Calls.spliced_cons (ha.use I R (dF hs) (fun d u s1 v H1 q I1 r1 e1 b1 p1=>?_) fun e s1 q=>q.same fun x z=>dU z);rw [he2];show wpAny _ _ (spliced ((false,eval (.Name c cp) X.env) :: backTo pos [])) _ _ s1;refine Calls.spliced_cons (hc pins σ H1 s1 _ _ I1 (Calls.spliced_nil ?_));have h2:=dX hs q
 cases z:isF d with
 | none=>exact (h2 (by unfold fO; rw [z])).elim
 | some b=>exact K6 I1 p1 r1 (hI d b z) fun tk=>⟨.bl b,.bl b,H1,by rw [q,Res.bind_ok]; unfold fO; rw [z],I1.tok tk,rfl,e1,km⟩
theorem hh' {T:String} (hg:Gl X c) (hm:X.mg c=none) (hv:bootBuiltins c=some (.type T)) (hn:c≠"__name__":=by decide) (hd:(c == ("__debug__" : Str))=false:=by decide) (pins:List (Addr×Obj)) (σ:St) (H:Hp) (s:Shared) (E:Value->Shared->Prop) (Q:Value->Shared->Prop) (I:Inv X pins σ H s) (h:Q (.type T) s) :
  wpAny (model X.prog X.w) X.A (eval (.Name c cp) X.env) Q E s:=oN I hg hm hv h hn hd
theorem h_ {C:Addr} (hg:Gl X c) (hm:X.mg c=some (.ref C)) (hd:(c == ("__debug__" : Str))=false:=by decide) (pins:List (Addr×Obj)) (σ:St) (H:Hp) (s:Shared) (E:Value->Shared->Prop) (Q:Value->Shared->Prop) (I:Inv X pins σ H s) (h:Q (.ref C) s) :
  wpAny (model X.prog X.w) X.A (eval (.Name c cp) X.env) Q E s:=j9 I hg hm h hd
end
end DL
namespace DL
open PySem PySem.Spec PyProof.Rows L2
noncomputable def bools:List D->Option (List Bool)
 | []=>some []
 | .bl b :: ds=>(bools ds).map (b :: ·)
 | _=>none
theorem Ey:∀{ds:List D} {bs:List Bool} {i:Nat} {d:D},bools ds=some bs->ds[i]? = some d->∃b,d=.bl b/\bs[i]? = some b
 | [],_,_,_,_,e=>by simp at e
 | .bl b :: ds,bs,i,d,h,e=>by
  simp only [bools] at h
  cases q:bools ds with
  | none=>rw [q] at h; cases h
  | some cs =>
   rw [q] at h;simp only [Option.map_some,Option.some.injEq] at h;subst h
   cases i with
   | zero=>simp at e; subst e; exact ⟨b,rfl,by simp⟩
   | succ i =>
    simp at e;obtain ⟨b',e1,e2⟩:=Ey q e;exact ⟨b',e1,by simpa using e2⟩
 | .non :: ds,bs,i,d,h,e=>by simp [bools] at h
 | .int _ :: ds,bs,i,d,h,e=>by simp [bools] at h
 | .str _ :: ds,bs,i,d,h,e=>by simp [bools] at h
 | .tup _ :: ds,bs,i,d,h,e=>by simp [bools] at h
 | .lst _ :: ds,bs,i,d,h,e=>by simp [bools] at h
 | .exc _ :: ds,bs,i,d,h,e=>by simp [bools] at h
 | .excf _ _ _ :: ds,bs,i,d,h,e=>by simp [bools] at h
 | .dct :: ds,bs,i,d,h,e=>by simp [bools] at h
 | .obj _ _ _ :: ds,bs,i,d,h,e=>by simp [bools] at h
 | .dic _ _ :: ds,bs,i,d,h,e=>by simp [bools] at h
 | .adr _ :: ds,bs,i,d,h,e=>by simp [bools] at h
theorem Bw:∀{ds:List D} {bs:List Bool},bools ds=some bs->bs.length=ds.length
 | [],bs,h=>by simp [bools] at h; subst h; rfl
 | .bl b :: ds,bs,h=>by
  simp only [bools] at h
  cases q:bools ds with
  | none=>rw [q] at h; cases h
  | some cs =>
   rw [q] at h;simp only [Option.map_some,Option.some.injEq] at h;subst h;simp [Bw q]
 | .non :: ds,bs,h=>by simp [bools] at h
 | .int _ :: ds,bs,h=>by simp [bools] at h
 | .str _ :: ds,bs,h=>by simp [bools] at h
 | .tup _ :: ds,bs,h=>by simp [bools] at h
 | .lst _ :: ds,bs,h=>by simp [bools] at h
 | .exc _ :: ds,bs,h=>by simp [bools] at h
 | .excf _ _ _ :: ds,bs,h=>by simp [bools] at h
 | .dct :: ds,bs,h=>by simp [bools] at h
 | .obj _ _ _ :: ds,bs,h=>by simp [bools] at h
 | .dic _ _ :: ds,bs,h=>by simp [bools] at h
 | .adr _ :: ds,bs,h=>by simp [bools] at h
theorem range_all (bs:List Bool):(List.range bs.length).all (fun i=>bs.getD i true)=bs.all id:=by
 rw [Bool.eq_iff_iff];simp only [List.all_eq_true,List.mem_range,id]
 constructor
 ·intro h b hb;obtain ⟨i,hi,rfl⟩:=List.mem_iff_getElem.mp hb;have:=h i hi;simpa [hi] using this
 ·intro h i hi;have:=h bs[i] (List.getElem_mem hi);simpa [hi] using this
theorem range_any (bs:List Bool):(List.range bs.length).any (fun i=>bs.getD i true)=bs.any id:=by
 rw [Bool.eq_iff_iff];simp only [List.any_eq_true,List.mem_range,id]
 constructor
 ·rintro ⟨i,hi,h⟩
  refine ⟨bs[i],List.getElem_mem hi,?_⟩;simpa [hi] using h
 ·rintro ⟨b,hb,h⟩
  obtain ⟨i,hi,rfl⟩:=List.mem_iff_getElem.mp hb;exact ⟨i,hi,by simpa [hi] using h⟩
noncomputable def jd:List D->Res D
 | [.lst ds]=>match bools ds with | some bs=>.ok (.bl (bs.all id)) | none=>.stuck
 | _=>.stuck
noncomputable def lV:List D->Res D
 | [.lst ds]=>match bools ds with | some bs=>.ok (.bl (bs.any id)) | none=>.stuck
 | _=>.stuck
theorem Bx (ds:List D):aJ (jd ds):=by
 unfold jd
 split
 ·split
  ·exact cH
  ·exact bT
 ·exact bT
theorem K8 (ds:List D):aJ (lV ds):=by
 unfold lV
 split
 ·split
  ·exact cH
  ·exact bT
 ·exact bT
theorem ek' {X:Cx} {pins:List (Addr×Obj)} {s:Shared} {σ:St} {H:Hp} {a:Addr} {xs:List V} {ds:List D} {bs:List Bool} {its:List Value} (rv:Vals xs its) (r:Reps X.K H ds xs) (hb:bools ds=some bs) {A:Around} :
  TruthOf X.prog X.w A (fun i v=>its.toArray[i]? = some v) (fun i=>bs.getD i true):=by
 intro i v s Q E hP hQ;have hP':its[i]? = some v:=by simpa using hP
 have hl:i < xs.length:=by rw [rv.length]; exact (List.getElem?_eq_some_iff.mp hP').1
 obtain ⟨d,e1,e2⟩:=r.get' (i:=i) (v:=xs[i]) (by simp [hl]);obtain ⟨b,rfl,e3⟩:=Ey hb e1;obtain ⟨u,e4,e5⟩:=rv.get (i:=i) (x:=xs[i]) (by simp [hl]);rw [hP'] at e4; cases e4;rw [Ay e2] at e5
 cases e5
 refine wpAny_truthy_bool ?_;simpa [e3] using hQ
theorem hi' {X:Cx} (hcalm:X.calm=true):CallD X (.builtin "all") jd:=by
 intro E pins s σ H xs us ds d I r p e;unfold jd at e
 split at e
 ·rename_i es
  split at e
  ·rename_i bs hb
   cases e
   obtain ⟨v,vs,rfl,p1,t⟩:=p.cons_of
   cases t.nil_of
   obtain ⟨u,rfl,rx⟩:=vals1 r;obtain ⟨a,ys,rfl,hq,rs⟩:=cP p1
   cases rx
   obtain ⟨its,rv,pl,hz⟩:=I.list hq;refine call_all_walk (wpAny_pyIter_list pl.isList ?_);have hax:a≠s.heap.objs.size:=by
    obtain ⟨o,_,g,_⟩:=pl;exact Nat.ne_of_lt (Heap.lt_size g)
   have hn:its.toArray.size=bs.length:=by rw [List.size_toArray,<- rv.length,rs.length,Bw hb]
   refine ⟨_,_,_,_,_,_,fun i=>bs.getD i true,rfl,Walks.list (A:=X.A.in1) (show X.A.in1.handled=none from I.ok.hd hcalm) s.heap.objs.size a hax its.toArray,⟨⟨_,Heap.get?_push_size _ rfl,rfl,rfl⟩,(let ⟨o,g,r⟩:=pl.isList; ⟨o,Heap.get?_push_of_some _ g,r⟩)⟩,ek' (X:=X) (pins:=pins) (s:=s) (σ:=σ) (H:=H) (a:=a) rv rs hb,fun h' tk hk=>?_⟩
   rw [hn,range_all];have k:∀b o,s.heap.get? b=some o->h'.get? b=some o:=fun b o e=>hk b o (by
    intro z;have:b=s.heap.objs.size:=by simpa using z
    exact absurd (Heap.lt_size e) (by rw [this]; exact Nat.lt_irrefl _)) (Heap.get?_push_of_some _ e)
   exact ⟨_,.bl _,H,rfl,I.kept (t':=tk) k,rfl,Same.refl H,km⟩
  ·cases e
 ·cases e
theorem K9 {X:Cx} (hcalm:X.calm=true):CallD X (.builtin "any") lV:=by
 intro E pins s σ H xs us ds d I r p e;unfold lV at e
 split at e
 ·rename_i es
  split at e
  ·rename_i bs hb
   cases e
   obtain ⟨v,vs,rfl,p1,t⟩:=p.cons_of
   cases t.nil_of
   obtain ⟨u,rfl,rx⟩:=vals1 r;obtain ⟨a,ys,rfl,hq,rs⟩:=cP p1
   cases rx
   obtain ⟨its,rv,pl,hz⟩:=I.list hq;refine call_any_walk (wpAny_pyIter_list pl.isList ?_);have hax:a≠s.heap.objs.size:=by
    obtain ⟨o,_,g,_⟩:=pl;exact Nat.ne_of_lt (Heap.lt_size g)
   have hn:its.toArray.size=bs.length:=by rw [List.size_toArray,<- rv.length,rs.length,Bw hb]
   refine ⟨_,_,_,_,_,_,fun i=>bs.getD i true,rfl,Walks.list (A:=X.A.in1) (show X.A.in1.handled=none from I.ok.hd hcalm) s.heap.objs.size a hax its.toArray,⟨⟨_,Heap.get?_push_size _ rfl,rfl,rfl⟩,(let ⟨o,g,r⟩:=pl.isList; ⟨o,Heap.get?_push_of_some _ g,r⟩)⟩,ek' (X:=X) (pins:=pins) (s:=s) (σ:=σ) (H:=H) (a:=a) rv rs hb,fun h' tk hk=>?_⟩
   rw [hn,range_any];have k:∀b o,s.heap.get? b=some o->h'.get? b=some o:=fun b o e=>hk b o (by
    intro z;have:b=s.heap.objs.size:=by simpa using z
    exact absurd (Heap.lt_size e) (by rw [this]; exact Nat.lt_irrefl _)) (Heap.get?_push_of_some _ e)
   exact ⟨_,.bl _,H,rfl,I.kept (t':=tk) k,rfl,Same.refl H,km⟩
  ·cases e
 ·cases e
noncomputable def vH (X:Cx) (id:String) (g:D->List D->Res D):Prop :=
 ∀(E:Value->Shared->Prop) (pins:List (Addr×Obj)) (s:Shared) (σ:St) (H:Hp) (x:V) (xs:List V) (v:Value) (us:List Value) (a:D) (ds:List D) (d:D),Inv X pins σ H s->RelV x v->Vals xs us->Rep X.K H a x->Reps X.K H ds xs->g a ds=.ok d ->
  wpAny (model X.prog X.w) X.A (call (.builtin id) (v :: us)) (EPost X pins σ H (.ok d)) E s
noncomputable def By (T:String):D->Prop
 | .str _=>T = "str"
 | .int _=>T = "int"
 | .lst _=>T = "list"
 | _=>False
noncomputable def tyB (T:String):D->Bool
 | .str _=>T == "str"
 | .int _=>T == "int"
 | .lst _=>T == "list"
 | _=>false
theorem K_ {T:String} {d:D} (h:tyB T d=true):By T d:=by
 cases d <;> first | exact beq_iff_eq.mp h | cases h
noncomputable def eF (T:String) (g:D->List D->Res D) (fo:DS->Res D) (fs:DS->Res (List D)):DS->Res D:=fun δ=>(fo δ).bind fun d=>if tyB T d=true then (fs δ).bind fun ds=>g d ds else .stuck
section
variable {X:Cx} {o e:Expr} {es:List Expr} {fo:DS->Res D} {fs:DS->Res (List D)} {name:Str} {apos cpos:Pos} {T id:String} {g:D->List D->Res D}
theorem Ez {H:Hp} {d:D} {v:V} (ty:By T d) (p:Rep X.K H d v):Am X.K T v H:=by
 cases d with
 | str z=>rw [Rep] at p; subst p; exact ty
 | int z=>rw [Rep] at p; subst p; exact ty
 | lst ds=>obtain ⟨a,xs,rfl,hq,_⟩:=cP p; exact .inl ⟨ty,xs,hq⟩
 | _=>exact ty.elim
theorem uG (pa:PlainAttrs T) (slot:Slot T name id) (hty:typeOf (.builtin id)=pure (.type "method_descriptor")) (hm:vH X id g) (hne:∀d ds,aJ (g d ds)) (ho:PD X o fo) (ha:PAD X (e :: es) fs)
  (hbase:attributeBase o name X.env (eval o X.env)=eval o X.env:=by rfl)
  (hfew:((backTo cpos (starEach (e :: es) X.env)).all (fun x=>!x.1) && (backToKw cpos (keywordEach [] X.env)).all (fun x=>x.1.isSome)
   && decide ((e :: es).length + ([]:List Keyword).length + (if ([]:List Keyword).isEmpty then 0 else 1) < 30))=true:=by rfl)
  (hline:(apos.endLine == cpos.line)=true:=by rfl) (hse:starEach (e :: es) X.env=(false,eval e X.env) :: starEach es X.env:=by rfl) (hplain:(backTo cpos (starEach es X.env)).any (·.1)=false:=by rfl) :
  PD X (.Call (.Attribute o name apos) (e :: es) [] cpos) (eF T g fo fs):=by
 intro pins s σ G H δ I R hs;unfold eF at hs ⊢;refine wpAny_Call_method_late hbase hfew hline rfl (ho.use I R (dF hs) (fun d u s1 v H1 q I1 r1 e1 b1 p1=>?_) fun e s1 q=>q.same fun x z=>dU z);have h2:=dX hs q;have hB:tyB T d=true:=by
  cases z:tyB T d with
  | true=>rfl
  | false=>rw [if_neg (by rw [z]; exact Bool.false_ne_true)] at h2; exact (h2 rfl).elim
 rw [if_pos hB] at h2;have ev:((fo δ).bind fun d=>if tyB T d=true then (fs δ).bind fun ds=>g d ds else .stuck)=(fs δ).bind fun ds=>g d ds:=by rw [q,Res.bind_ok,if_pos hB]
 rw [ev];have h3:By T d:=K_ hB;obtain ⟨h1,h4⟩:=fp' I1 r1 (Ez h3 p1);refine ⟨T,id,pa,slot,hty,h1,h4,?_⟩;have hA:=fun {P:List Value->Shared->Prop} {E:Value->Shared->Prop} k kx=>PAD.use (pos:=cpos) (P:=P) (E:=E) ha I1 (R.mono e1) (dF h2) k kx;rw [hse] at hA ⊢;refine Calls.callWith_builtin (by show (false || (backTo cpos (starEach es X.env)).any (·.1))=false; rw [hplain] <;> rfl) (Calls.evalArgs_plain ?_)
 refine hA (fun ds us s2 vs H2 q2 I2 r2 e2 b2 p2=>?_) fun e s2 q2=>q2.back e1 b1 fun x z=>by rw [z]; rfl
 have h5:=dX h2 q2
 cases qg:g d ds with
 | stuck=>exact (h5 qg).elim
 | err z=>exact (hne d ds z qg).elim
 | ok r=>exact cN (hm _ pins s2 σ H2 v vs u us d ds r I2 r1 r2 (p1.mono e2) p2 qg) fun w s3 p=>p.from (e1.trans e2) (by rw [q2,Res.bind_ok,qg])
end
noncomputable def aq {α:Type} (f:DS->Res α) (g:α->Res D):DS->Res D:=fun δ=>(f δ).bind g
noncomputable def bindL (f:DS->Res D) (g:D->Res (List D)):DS->Res (List D):=fun δ=>(f δ).bind g
noncomputable def aB (f:DS->Res D) (g:D->Res Bool):DS->Res Bool:=fun δ=>(f δ).bind g
noncomputable def fP (t:DS->Res Bool):DS->Res Bool:=fun δ=>(t δ).bind fun c=>.ok (!c)
noncomputable def ie (f:DS->Res (List D)):DS->Res D:=fun δ=>rJ (f δ)
noncomputable def aQ (f:DS->Res (List D)):DS->Res D:=fun δ=>gf (f δ)
noncomputable def pM:D->Res D
 | .int i=>.ok (.int (-i))
 | _=>.stuck
noncomputable def pN (f:DS->Res D):DS->Res D:=fun δ=>(f δ).bind pM
noncomputable def aH (f:DS->Res D):DS->Out:=fun δ=>kE (f δ) δ Out.ret
noncomputable def dj (f:DS->Res D):DS->Out:=fun δ=>kE (f δ) δ fun _=>.nxt δ
noncomputable def cV (t:DS->Res Bool) (a b:DS->Out):DS->Out:=fun δ=>rK (t δ) δ fun k=>if k=true then a δ else b δ
noncomputable def lW (fuel:DS->Nat) (c:DS->Res Bool) (b:DS->Out):DS->Out:=fun δ=>cZ c b (fuel δ) δ
noncomputable def aY (i:Nat):cX:=fun d δ=>some (δ.set i (some (.val d)))
noncomputable def forR (r:List D->Res (List D)) (t:cX) (a:DS->Res (List D)) (b:DS->Out):DS->Out:=fun δ=>pK ((a δ).bind r) fun ds=>bj t b ds δ
theorem hj' {X:Cx} {a:Expr} {fa:DS->Res D} {pos:Pos} (ha:PD X a fa):PD X (.UnaryOp .USub a pos) (pN fa) :=
 Ka (g:=pM) (fun E pins s σ H x v d r I r1 p1 e=>by
  cases d with
  | int i =>
   simp only [pM,Res.ok.injEq] at e;subst e;exact wpAny_mono (IK (X:=X.wish fun _ _=>False) pins s σ H x v (fun z H'=>z=.int (-i)/\H'=H) (I.wish _) r1 ⟨i,bY p1,rfl,rfl⟩) (fun u s1 ⟨z,H1,I1,r2,e1,e2⟩=>by
    subst e1 e2;exact ⟨_,_,_,rfl,I1.unwish,r2,Same.refl _,iw⟩) fun _ _ z=>z.elim
  | _=>simp [pM] at e) (fun x=>by cases x <;> first | exact bT | exact cH) ha
theorem qP {m i:Nat} (h:i < m):c7 m (aY i):=by
 intro d δ δ1 e;simp only [aY,Option.some.injEq] at e;subst e;exact ⟨by simp,fun j hj=>by rw [List.getElem?_set_ne (by omega)]⟩
theorem BJ {f:DS->Res D} {δ:DS} {ds:List D} (h:aa f (fun _=>.ok []) δ=.ok ds):ds.length<=sizeLine:=by
 unfold aa at h
 cases q:f δ with
 | stuck=>rw [q] at h; cases h
 | err x=>rw [q] at h; cases h
 | ok d=>rw [q] at h; cases h; show 1<=sizeLine; decide
theorem La {scope:Scope} {env:Env} (hf:∀y∈scope.names,y.2≠.free):relabel scope env=scope:=by
 unfold relabel;have:(scope.names.map fun x=>match x with | (n,k)=>if (k == .free && env.scope.kind == .function && env.kindOf n == some .cell)=true then (n,NameKind.cell) else (n,k))=scope.names:=by
  refine map_eq_self fun x hx=>?_;obtain ⟨n,k⟩:=x;have:(k == NameKind.free)=false:=by simpa using hf _ hx
  simp [this]
 show { scope with names:=_ }=scope
 rw [this]
theorem rQ {X:Cx} {m:Nat} {N':List Str} {scope:Scope} (hf:∀y∈scope.names,y.2≠.free:=by decide +kernel) (hc:∀y∈scope.names,y.2≠.cell:=by decide +kernel) (hk:scope.kind=.function:=by rfl)
  (hn:∀x∈scope.names,x.2=.local->scope.names.lookup x.1=some .local:=by decide +kernel) (hl:N'.length=m:=by rfl):Around' X m [] N' scope [] where
 clos:=closureFor_none hf
 nocell:=hc
 kind:=hk
 names:=hn
 sub:=fun x c h=>by simp at h
 has:=fun x h=>by
  exfalso;rw [La hf] at h;rcases h with h | h
  ·exact hc _ (PySem.mem_of_lookup h) rfl
  ·exact hf _ (PySem.mem_of_lookup h) rfl
 len:=by simpa using hl
 free:=fun j i h=>by simp at h
noncomputable def dW:D->List D->Res D
 | .str x,[.str y]=>.ok (.bl (Txt.startswith x y))
 | _,_=>.stuck
noncomputable def dg:D->List D->Res D
 | .str x,[.str y]=>if (y.length == 0)=false/\x.length + 2<=sizeLine then .ok (.lst ((Txt.split x y).map .str)) else .stuck
 | _,_=>.stuck
noncomputable def gC:D->List D->Res D
 | .str x,[.int i]=>if PadOk i=true then .ok (.str (Txt.zfill x i)) else .stuck
 | _,_=>.stuck
theorem EY (d:D) (ds:List D):aJ (dW d ds):=by
 unfold dW; split <;> first | exact cH | exact bT
theorem E_ (d:D) (ds:List D):aJ (dg d ds):=by
 unfold dg; split <;> first | exact bT | exact as' cH bT
theorem Ld (d:D) (ds:List D):aJ (gC d ds):=by
 unfold gC; split <;> first | exact bT | exact as' cH bT
theorem je {K:PySem.W.Frag} {H:Hp} {i:Str}:Rep K H (.str i) (.str i):=by rw [Rep]
theorem rR {K:PySem.W.Frag} {H:Hp} {i:Bool}:Rep K H (.bl i) (.bl i):=by rw [Rep]
theorem Fb {X:Cx}:vH X "str.startswith" dW:=by
 intro E pins s σ H x xs v us a ds d I r1 r2 p1 p2 e;unfold dW at e
 split at e
 ·rename_i x y
  cases e
  rw [cI p1] at r1;obtain ⟨t,rfl⟩:=r1;obtain ⟨v2,vs,rfl,p3,t3⟩:=p2.cons_of
  cases t3.nil_of
  obtain ⟨u,rfl,r3⟩:=vals1 r2;rw [cI p3] at r3;obtain ⟨t',rfl⟩:=r3;exact PySem.SC.startswith ⟨_,.bl _,H,rfl,I,rfl,Same.refl H,rR⟩
 ·cases e
theorem Le {X:Cx}:vH X "str.zfill" gC:=by
 intro E pins s σ H x xs v us a ds d I r1 r2 p1 p2 e;unfold gC at e
 split at e
 ·rename_i x y
  split at e
  ·rename_i hp
   cases e
   rw [cI p1] at r1;obtain ⟨t,rfl⟩:=r1;obtain ⟨v2,vs,rfl,p3,t3⟩:=p2.cons_of
   cases t3.nil_of
   obtain ⟨u,rfl,r3⟩:=vals1 r2;rw [bY p3] at r3;obtain ⟨t',rfl⟩:=r3;exact PySem.SC.zfill hp fun t' k=>⟨_,.str _,H,rfl,I.tok _,⟨_,rfl⟩,Same.refl H,je⟩
  ·cases e
 ·cases e
theorem Fd {x y:Str} (h:x.length + 2<=sizeLine):(Builtin.Str.partsBetween x (Builtin.Str.occurrences x y 0 x.length (x.length + 1)) y.length).length<=sizeLine:=by
 have m:=StrLaws.occ_length_le x y 0 x.length (x.length + 1);rw [length_partsBetween];omega
noncomputable def pO (x y:Str) (R:Result->Shared->Prop) (s:Shared):Prop :=
 ∀l k,l.map (·.1)=Txt.split x y->R (.ok (.ret (.ref s.heap.objs.size))) { s with heap:=s.heap.push { cls:=.type "list",data:=.seq (strValues l).toArray },toks:=k }
theorem Lf {x y:Str} {t u:Tok} (hy:(y.length == 0)=false) (hsz:x.length + 2<=sizeLine):Meets (Builtin.«str.split» ⟨[.str x t,.str y u],[]⟩) (fun _ R s=>pO x y R s):=by
 intro prog w A R s h
 by_cases c1:(decide (x.length < y.length) || decide (Builtin.Str.strKind x < Builtin.Str.strKind y))=true
 ·exact meets_str_split_cannot_occur x y t u c1 prog w A R s (h [(x,t)] s.toks (by unfold Txt.split; rw [if_pos c1]; rfl))
 ·have n1:=eq_false_of_ne_true c1
  by_cases c2:(Builtin.Str.occurrences x y 0 x.length (x.length + 1)).isEmpty=true
  ·exact meets_str_split_not_found x y t u n1 hy c2 prog w A R s (h [(x,t)] s.toks (by unfold Txt.split; rw [if_neg c1,if_pos c2]; rfl))
  ·refine meets_str_split_sep x y t u n1 hy (eq_false_of_ne_true c2) (Nat.le_trans (Nat.le_add_right _ 2) hsz) (Fd hsz) prog w A R s ?_;have q:=h (numbered s.toks (Builtin.Str.partsBetween x (Builtin.Str.occurrences x y 0 x.length (x.length + 1)) y.length)) (s.toks + (Builtin.Str.partsBetween x (Builtin.Str.occurrences x y 0 x.length (x.length + 1)) y.length).length) (by rw [numbered_texts]; unfold Txt.split; rw [if_neg c1,if_neg c2]);rw [<- strsFrom_eq] at q;exact q
theorem Lg {prog:Program} {w:World} {A:Around} {E:Value->Shared->Prop} {s:Shared} {x y:Str} {t u:Tok} {Q:Value->Shared->Prop} (hy:(y.length == 0)=false)
  (h:∀l k,l.map (·.1)=Txt.split x y->Q (.ref s.heap.objs.size) { s with heap:=s.heap.push { cls:=.type "list",data:=.seq (strValues l).toArray },toks:=k })
  (hsz:x.length + 2<=sizeLine):wpAny (model prog w) A (call (.builtin "str.split") [.str x t,.str y u]) Q E s :=
 call_meets F.slot_str_split (typeIs_str _ _ _) F.entry_str_split (F.args_str_split_2 _ _) (Lf hy hsz) h
theorem hr' {x y:Str} (h:x.length + 2<=sizeLine):(Txt.split x y).length<=sizeLine:=by
 unfold Txt.split
 split
 ·show 1<=sizeLine; decide
 ·split
  ·show 1<=sizeLine; decide
  ·exact Fd h
theorem en':∀l:List (Str×Tok),Vals (l.map fun p=>V.str p.1) (strValues l)
 | []=>.nil
 | p :: l=>.cons ⟨_,rfl⟩ (en' l)
theorem Fe {K:PySem.W.Frag} {H:Hp}:∀xs:List Str,Reps K H (xs.map .str) (xs.map .str)
 | []=>Reps.nil
 | x :: xs=>Reps.cons je (Fe xs)
theorem Ff {X:Cx}:vH X "str.split" dg:=by
 intro E pins s σ H x xs v us a ds d I r1 r2 p1 p2 e;unfold dg at e
 split at e
 ·rename_i x y
  split at e
  ·rename_i hp
   cases e
   rw [cI p1] at r1;obtain ⟨t,rfl⟩:=r1;obtain ⟨v2,vs,rfl,p3,t3⟩:=p2.cons_of
   cases t3.nil_of
   obtain ⟨u,rfl,r3⟩:=vals1 r2;rw [cI p3] at r3;obtain ⟨t',rfl⟩:=r3;refine Lg hp.1 (fun l k hl=>?_) hp.2;have hf:H s.heap.objs.size=none:=I.hok.fresh (Nat.le_refl _);have hz:((Txt.split x y).map V.str).length<=sizeLine:=by rw [List.length_map]; exact hr' hp.2
   refine ⟨_,.ref s.heap.objs.size,upd H s.heap.objs.size (.lst ((Txt.split x y).map V.str)),rfl,I.laid (t':=k) (fun b u e=>Heap.get?_push_of_some _ e) (Nat.le_refl _) ?_,rfl,gb hf _,jT (SqL.of bR) (Fe _)⟩;refine ⟨hz,strValues l,0,?_,Heap.get?_push_size _ rfl⟩;rw [<- hl,List.map_map]; exact en' l
  ·cases e
 ·cases e
noncomputable def inD:D->D->Res D
 | .str x,.str y=>.ok (.bl (!(Builtin.Str.occurrences y x 0 y.length 1).isEmpty))
 | _,_=>.stuck
noncomputable def iR:D->D->Res D
 | .exc _,.non=>.ok (.bl false)
 | .non,.non=>.ok (.bl true)
 | .int _,.non=>.ok (.bl false)
 | .bl _,.non=>.ok (.bl false)
 | .str _,.non=>.ok (.bl false)
 | .tup _,.non=>.ok (.bl false)
 | .lst _,.non=>.ok (.bl false)
 | _,_=>.stuck
theorem ht' (x y:D):aJ (iR x y):=by cases x <;> cases y <;> first | exact bT | exact cH
noncomputable def kJ:List D->Res D
 | [.int i]=>if i.natAbs.log2 < 1920 then .ok (.str (toString i)) else .stuck
 | _=>.stuck
noncomputable def kO:List D->Res D
 | [.int i]=>.ok (.int i)
 | [.bl k]=>.ok (.int (if k then 1 else 0))
 | [.str x]=>if x.length<=640 then (match PySem.intText? x with | some n=>.ok (.int n) | none=>.stuck) else .stuck
 | _=>.stuck
theorem ne_str (ds:List D):aJ (kJ ds):=by
 unfold kJ; split <;> first | exact bT | exact as' cH bT
theorem ne_int (ds:List D):aJ (kO ds):=by
 unfold kO
 split <;> first | exact cH | exact bT | skip
 refine as' ?_ bT
 split <;> first | exact cH | exact bT
section
variable {X:Cx}
theorem Lh:OpD X (compareOp .In) inD:=.of (fun _=>I_) fun H x y a b d Q p1 p2 e q=>by
 unfold inD at e
 split at e
 ·rename_i i j
  cases e
  exact ⟨i,j,cI p1,cI p2,q _ H (Same.refl H) rR⟩
 ·cases e
theorem hu' {K:PySem.W.Frag} {H:Hp} {a b d:D} {x y:V} (p1:Rep K H a x) (p2:Rep K H b y) (e:iR a b=.ok d):y=.non/\d=.bl (decide (x=.non)):=by
 cases b <;> (try (cases a <;> cases e))
 all_goals (rw [Rep] at p2; subst p2)
 all_goals (refine ⟨rfl,?_⟩)
 ·rw [Rep] at p1; subst p1; rfl
 ·rw [Rep] at p1; subst p1; rfl
 ·rw [Rep] at p1; subst p1; rfl
 ·rw [Rep] at p1; subst p1; rfl
 ·obtain ⟨_,_,rfl,_⟩:=cO p1; rfl
 ·obtain ⟨_,_,rfl,_⟩:=cP p1; rfl
 ·rw [Rep] at p1; obtain ⟨_,_,rfl,_⟩:=p1; rfl
theorem Fg:CallD X (.type "str") kJ:=.of (fun _=>Jd) fun H xs ds d Q r e q=>by
 unfold kJ at e
 split at e
 ·rename_i i
  split at e
  ·rename_i hz
   cases e
   obtain ⟨v,vs,rfl,p1,t⟩:=r.cons_of
   cases t.nil_of
   exact ⟨i,by rw [bY p1],hz,q _ H (Same.refl H) je⟩
  ·cases e
 ·cases e
theorem Fj:CallD X (.type "int") kO:=by
 intro E pins s σ H xs us ds d I r p e;unfold kO at e
 split at e
 ·rename_i i
  cases e
  obtain ⟨v,vs,rfl,p1,t⟩:=p.cons_of
  cases t.nil_of
  rw [bY p1] at r;obtain ⟨u,rfl,t,rfl⟩:=vals1 r;exact call_int_int ⟨_,.int i,H,rfl,I,⟨_,rfl⟩,Same.refl H,iw⟩
 ·rename_i k
  cases e
  obtain ⟨v,vs,rfl,p1,t⟩:=p.cons_of
  cases t.nil_of
  rw [Rep] at p1;subst p1;obtain ⟨u,rfl,r1⟩:=vals1 r
  cases r1
  exact call_int_bool ⟨_,.int (if k then 1 else 0),H,rfl,I.tok _,⟨_,rfl⟩,Same.refl H,iw⟩
 ·rename_i x
  split at e
  ·rename_i hl
   split at e
   ·rename_i n hn
    cases e
    obtain ⟨v,vs,rfl,p1,t⟩:=p.cons_of
    cases t.nil_of
    rw [cI p1] at r;obtain ⟨u,rfl,t,rfl⟩:=vals1 r;exact PySem.W.KIN.call_text hn hl ⟨_,.int n,H,rfl,I.tok _,⟨_,rfl⟩,Same.refl H,iw⟩
   ·cases e
  ·cases e
 ·cases e
end
noncomputable def vI:SV->SV
 | .val d=>.val d
 | .arg d=>.val d
 | .own ds=>.val (.lst ds)
noncomputable def thaw2:SV->SV
 | .val d=>.val d
 | .arg d=>.val d
 | .own ds=>.own ds
noncomputable def thaw (δ:DS):DS:=δ.map (Option.map vI)
noncomputable def fW:Out->Out
 | .nxt δ=>.nxt (δ.map (Option.map thaw2))
 | .brk δ=>.brk (δ.map (Option.map thaw2))
 | .cnt δ=>.cnt (δ.map (Option.map thaw2))
 | .ret d=>.ret d
 | .err x δ=>.err x δ
 | .stuck=>.stuck
theorem RepSt.thaw {K:PySem.W.Frag} {G H:Hp} {σ:St} {δ:DS} (R:RepSt K G H σ δ):RepSt K H H σ (thaw δ) where
 same:=Same.refl H
 len:=by unfold DL.thaw; rw [List.length_map]; exact R.len
 at_:=fun i sv h=>by
  unfold DL.thaw at h;rw [List.getElem?_map] at h
  cases z:δ[i]? with
  | none=>rw [z] at h; cases h
  | some o =>
   cases o with
   | none=>rw [z] at h; cases h
   | some sv0 =>
    rw [z] at h
    cases h
    obtain ⟨v,e1,e2⟩:=R.view z;refine ⟨v,e1,?_⟩
    cases sv0 <;> exact e2
 sep:=fun i j ds es v _ h=>by
  unfold DL.thaw at h;rw [List.getElem?_map] at h
  cases z:δ[i]? with
  | none=>rw [z] at h; cases h
  | some o =>
   cases o with
   | none=>rw [z] at h; cases h
   | some sv0=>rw [z] at h; cases sv0 <;> cases h
theorem RepSt.thaw2 {K:PySem.W.Frag} {G G' H:Hp} {σ:St} {δ:DS} (R:RepSt K G' H σ δ) (e:Same G G'):RepSt K G H σ (δ.map (Option.map thaw2)) where
 same:=e.trans R.same
 len:=by rw [List.length_map]; exact R.len
 at_:=fun i sv h=>by
  rw [List.getElem?_map] at h
  cases z:δ[i]? with
  | none=>rw [z] at h; cases h
  | some o =>
   cases o with
   | none=>rw [z] at h; cases h
   | some sv0 =>
    rw [z] at h
    cases h
    cases sv0 with
    | val d=>exact R.at_ i _ z
    | arg d =>
     obtain ⟨v,e1,e2⟩:=R.at_ i _ z;exact ⟨v,e1,Rep.mono R.same e2⟩
    | own ds =>
     obtain ⟨v,e1,a,xs,q1,q2,q3,q4⟩:=R.at_ i _ z;exact ⟨v,e1,a,xs,q1,q2,q3,e.free q4⟩
 sep:=fun i j ds es v hij h1 h2 h3=>by
  have get:∀(k:Nat) (fs:List D),(δ.map (Option.map DL.thaw2))[k]? = some (some (.own fs))->δ[k]? = some (some (.own fs)):=fun k fs h=>by
   rw [List.getElem?_map] at h
   cases z:δ[k]? with
   | none=>rw [z] at h; cases h
   | some o =>
    cases o with
    | none=>rw [z] at h; cases h
    | some sv0 =>
     rw [z] at h
     cases sv0 <;> cases h
     rfl
  exact R.sep i j ds es v hij (get i ds h1) (get j es h2) h3
theorem NOut.thaw {X:Cx} {G G' H:Hp} {o:Out} {E:Ends} (e:Same G G') (h:NOut X G H (fW o) E):NOut X G' H o E:=by
 cases o with
 | stuck=>exact h
 | nxt δ=>exact fun σ' H' t r=>h σ' H' t (r.thaw2 e)
 | brk δ=>exact fun σ' H' t r=>h σ' H' t (r.thaw2 e)
 | cnt δ=>exact fun σ' H' t r=>h σ' H' t (r.thaw2 e)
 | ret d=>exact fun v H' t g r=>h v H' t (e.trans g) r
 | err x δ=>exact h
theorem PID.pi {X:Cx} {tg iter:Expr} {f:DS->Res (List D)} (h:PID X tg iter f):PI X.nox tg iter (fun σ H R=>∃G δ ds,RepSt X.K G H σ δ/\f δ=.ok ds/\∀J H',Same H H'->cT X.K J H' ds->R J H'):=by
 intro pins s σ H R I ⟨G,δ,ds,RR,q,n⟩;refine wpAny_mono (h pins s σ G H δ I.unwish RR (by rw [q]; intro z; cases z)) (fun v s1 p=>?_) fun e s1 p=>?_
 ·refine wpAny_mono p (fun itv s2 ⟨ds',it,fp,tn,J,H',q1,q2,I2,T,t0,hf,e2,y⟩=>?_) fun e s2 p=>?_
  ·rw [q] at q1; cases q1;exact ⟨it,fp,tn,J,H',q2,I2.wish _,T,t0,hf,n J H' e2 y⟩
  ·rw [q] at p; exact p.none
 ·rw [q] at p; exact p.none
noncomputable def jz (t:cX) (fi:DS->Res (List D)) (b:DS->Out):DS->Out:=fun δ=>pK (fi δ) fun ds=>fW (bj t b ds (thaw δ))
section
variable {X:Cx} {tg iter:Expr} {body:List Stmt} {t:cX} {fb:DS->Out} {pos:Pos}
theorem Li {J:It} {ds:List D} {H0 Hs:Hp} {E:Ends} (y:cT X.K J H0 ds) {δ:DS} {σ:St} (R:RepSt X.K H0 Hs σ δ) (h:NOut X H0 Hs (bj t fb ds δ) E) :
  ∃W:Nat->Nat->St->Hp->Prop,(∃m,W 0 m σ Hs)/\∀i m σ H,W i m σ H ->
   (J.stop i H/\E.nx σ H)\/(J.go i H/\∃N:St->Hp->Prop,(∀σ' H',N σ' H'->∃m',m' < m/\W (i + 1) m' σ' H')/\∀x H',J.yld i H x H'->gD X t x σ H' fun σ2 H2=>sD X fb { E with nx:=N,ct:=N,bk:=E.nx } σ2 H2):=by
 refine ⟨fun i m σ H=>i + m=ds.length/\∃δ',RepSt X.K H0 H σ δ'/\NOut X H0 H (bj t fb (ds.drop i) δ') E,⟨ds.length,by omega,δ,R,by simpa using h⟩,?_⟩
 rintro i m σ1 H1 ⟨hm,δ1,R1,h1⟩
 obtain ⟨y1,y2⟩:=y H1 R1.same
 by_cases hi:i < ds.length
 ·right
  have hd:ds[i]? = some ds[i]:=List.getElem?_eq_getElem hi;obtain ⟨go,yl⟩:=y1 i ds[i] hd;refine ⟨go,fun σ' H'=>(i + 1) + (m - 1)=ds.length/\∃δ',RepSt X.K H0 H' σ' δ'/\NOut X H0 H' (bj t fb (ds.drop (i + 1)) δ') E,fun σ' H' n=>⟨m - 1,by omega,n⟩,fun x H' yx=>?_⟩;obtain ⟨e,p⟩:=yl x H' yx;rw [List.drop_eq_getElem_cons hi] at h1;exact Eo (R1.mono e) p (h1.tk e.tk) fun δ' σ' H'' _ r z=>⟨by omega,δ',r,z⟩
 ·left
  have e:i=ds.length:=by omega
  subst e;rw [List.drop_eq_nil_of_le (Nat.le_refl _)] at h1;exact ⟨y2,h1 σ1 H1 (TK.refl H1) R1⟩
theorem Lj {o:Out} (h:∀x δ',o≠.err x δ') (x:Exn) (δ':DS):fW o≠.err x δ':=by
 cases o with
 | err y δ=>exact (h y δ rfl).elim
 | _=>intro z; cases z
theorem fd' {fi:DS->Res (List D)} (hc:X.calm=true) (hi:PID X tg iter fi) (hg:PGD X tg t) (hb:PSDs X body fb) (hf:∀x,foldedSetIterable iter X.env x=pure x:=by intro _; rfl) :
  PSD X (.For tg iter body [] pos) (jz t fi fb):=by
 refine Bf (fun δ=>En fun ds=>Lj (Bg t fb ds (thaw δ))) fun pins s σ H E I h=>?_;obtain ⟨G,δ,R,h⟩:=h;refine Aa (X:=X.nox) PassesOwn.never hc hi.pi hg.pg hb.ps hf pins s σ H E I ?_;unfold jz at h
 cases q:fi δ with
 | stuck=>simp only [q] at h; exact h.elim
 | err x=>simp only [q] at h; exact h.elim
 | ok ds =>
  simp only [q] at h;refine ⟨G,δ,ds,R,q,fun J H1 e1 y=>?_⟩;have R1:=(R.mono e1);exact Li y R1.thaw (NOut.thaw R1.same (h.tk e1.tk))
end
section
open HT
variable {prog:Program} {w:World} {A:Around} {E:Value->Shared->Prop} {s:Shared}
theorem hw' {t sl:Addr} {items:Array Value} {vl vu:Value} {lo hi:Option Int} {Q:Value->Shared->Prop} (ht:IsTup s.heap t items) (hs:s.heap.IsSliceOf sl vl vu .none) (pl:IsPart vl lo) (pu:IsPart vu hi)
  (hw:sIx items.size 0 lo=0/\sIx items.size items.size hi=items.size) (h:Q (.ref t) s):wpAny (model prog w) A (getItem (.ref t) (.ref sl)) Q E s:=by
 obtain ⟨os,hos,hcs,hds⟩:=id hs;unfold getItem;refine wpAny_holding (wpAny_bind (wpAny_sequenceKey ht.typeIs (by decide) ?_));refine wpAny_bind (wpAny_callSpecial?_slot (name:=Str.ofString "__getitem__") ht.typeIs PyProof.Rows.slot_tuple_getitem (wpAny_call_entry PyProof.Rows.slot_tuple_getitem ht.typeIs entry_tuple_getitem ?_ (args_tuple_getitem _ _)));show wpAny _ _ (Builtin.Tuple.tupleItemsOf (.ref t) >>= _) _ _ s;refine wpAny_bind (tupleItemsOf_ ht (wpAny_bind (wpAny_typeOf ⟨os,hos,hcs⟩ ?_)));rw [if_pos (by decide)];refine wpAny_bind (Dw hs pl pu ?_);obtain ⟨w1,w2⟩:=hw;have hc:(((sIx items.size 0 lo:Nat):Int) == 0 && (1:Int) == 1 && (sIx items.size items.size hi - sIx items.size 0 lo) == items.size)=true:=by
  rw [w1,w2]; simp
 show wpAny _ _ (if (((sIx items.size 0 lo:Nat):Int) == 0 && (1:Int) == 1 && (sIx items.size items.size hi - sIx items.size 0 lo) == items.size)=true then _ else _) _ _ s
 rw [if_pos hc];refine wpAny_bind (m:=Builtin.Tuple.tupleIsExact _) (wpAny_bind (wpAny_typeOf ht.typeIs (wpAny_pure ?_)));rw [if_pos (by decide)];exact wpAny_bind (wpAny_rule (wpAny_pure ⟨_,rfl,wpAny_pure h⟩))
end
noncomputable def vJ (K:PySem.W.Frag):V->Option Int->Option Int->Hp->VK->Prop:=fun x lo hi H Q=>∃a xs,x=.ref a/\SqT K H a xs/\(HT.sIx xs.length 0 lo=0/\HT.sIx xs.length xs.length hi=xs.length)/\Q (.ref a) H
theorem Ln {X:Cx}:SlR X (vJ X.K):=by
 intro pins s σ H x v vl vu lo hi sl Q I rx hs pl pu h;obtain ⟨a,xs,rfl,hx,hw,q⟩:=h
 cases rx
 obtain ⟨its,r,ht,hz⟩:=I.tuple hx;have hlen:its.toArray.size=xs.length:=by rw [List.size_toArray]; exact r.length.symm
 exact ⟨"tuple",_,PyProof.Rows.slot_tuple_getitem.lookup,ht.typeIs,hw' ht hs pl pu (by rw [hlen]; exact hw) ⟨.ref a,H,I,rfl,q⟩⟩
noncomputable def vK (X:Cx) (pins:List (Addr×Obj)) (σ:St) (H:Hp) (r:Res (Option Int)) (u:Value) (s1:Shared):Prop:=∃o H1,r=.ok o/\Inv X pins σ H1 s1/\IsPart u o/\Same H H1
noncomputable def POD (X:Cx) (e:Option Expr) (f:DS->Res (Option Int)):Prop :=
 ∀(pins:List (Addr×Obj)) (s:Shared) (σ:St) (G H:Hp) (δ:DS),Inv X pins σ H s->RepSt X.K G H σ δ->f δ≠.stuck ->
  wpAny (model X.prog X.w) X.A (evalPart e X.env) (vK X pins σ H (f δ)) (XPost X pins σ H s.heap (f δ)) s
noncomputable def lX:D->Res (Option Int)
 | .int i=>.ok (some i)
 | _=>.stuck
noncomputable def eU:DS->Res (Option Int):=fun _=>.ok none
noncomputable def cz (f:DS->Res D):DS->Res (Option Int):=fun δ=>(f δ).bind lX
noncomputable def kW (ds:List D) (lo hi:Option Int):List D:=(ds.drop (HT.sIx ds.length 0 lo)).take (HT.sIx ds.length ds.length hi - HT.sIx ds.length 0 lo)
noncomputable def cutD (d:D) (lo hi:Option Int):Res D:=match d with
 | .str z=>if z.length<=sizeLine then .ok (.str (Txt.slice z lo hi)) else .stuck
 | .lst ds=>.ok (.lst (kW ds lo hi))
 | .tup ds=>.ok (.tup (kW ds lo hi))
 | _=>.stuck
noncomputable def b_ (fe:DS->Res D) (fl fu:DS->Res (Option Int)):DS->Res D:=fun δ=>(fe δ).bind fun d=>(fl δ).bind fun l=>(fu δ).bind fun u=>cutD d l u
theorem Lp (d:D) (lo hi:Option Int):aJ (cutD d lo hi):=by
 unfold cutD; split <;> first | exact cH | exact bT | exact as' cH bT
theorem Reps.take' {K:PySem.W.Frag} {H:Hp}:∀(n:Nat) {ds:List D} {vs:List V},Reps K H ds vs->Reps K H (ds.take n) (vs.take n)
 | 0,_,_,_=>by simp only [List.take_zero]; exact Reps.nil
 | n + 1,[],_,h=>by cases h.nil_of; exact Reps.nil
 | n + 1,d :: ds,_,h=>by
  obtain ⟨v,vs,rfl,r,q⟩:=h.cons_of;exact Reps.cons r (Reps.take' n q)
theorem Reps.cut {K:PySem.W.Frag} {H:Hp} {ds:List D} {vs:List V} (h:Reps K H ds vs) (lo hi:Option Int):Reps K H (kW ds lo hi) (iZ vs lo hi):=by
 unfold kW iZ;rw [h.length];exact Reps.take' _ (Reps.drop _ h)
section
variable {X:Cx} {e:Expr} {fe:DS->Res D} {lo hi:Option Expr} {fl fu:DS->Res (Option Int)} {pos p2:Pos}
theorem uH:POD X none eU:=by
 intro pins s σ G H δ I R _;rw [evalPart_none];exact wpAny_pure ⟨none,H,rfl,I,.none,Same.refl H⟩
theorem oR (h:PD X e fe):POD X (some e) (cz fe):=by
 intro pins s σ G H δ I R hs;unfold cz at hs ⊢;rw [evalPart_some];refine h.use I R (dF hs) (fun d u s1 v H1 q I1 r1 e1 b1 p1=>?_) fun e s1 q=>q.same fun x z=>dU z;have h2:=dX hs q
 cases d with
 | int i =>
  rw [bY p1] at r1;obtain ⟨t,rfl⟩:=r1;exact ⟨some i,H1,by rw [q]; rfl,I1,.int i t,e1⟩
 | _=>exact (h2 rfl).elim
theorem POD.use {pins:List (Addr×Obj)} {s:Shared} {σ:St} {G H:Hp} {δ:DS} (h:POD X lo fl) (I:Inv X pins σ H s) (R:RepSt X.K G H σ δ) (hs:fl δ≠.stuck) {P E:Value->Shared->Prop}
  (k:∀o u s1 H1,fl δ=.ok o->Inv X pins σ H1 s1->IsPart u o->Same H H1->Back H s.heap s1.heap->P u s1)
  (kx:∀e s1,XPost X pins σ H s.heap (fl δ) e s1->E e s1):wpAny (model X.prog X.w) X.A (evalPart lo X.env) P E s:=by
 refine wpAny_mono (h (pins ++ f9 X H s.heap) s σ G H δ I.all R hs) (fun u s1 ⟨o,H1,q1,q2,q3,q4⟩=>k o u s1 H1 q1 q2.unpinned q3 q4 (I.backTo q2)) fun e s1 ⟨x,a,C,H1,q1,q2,q3,q4,q5,q6⟩=>kx e s1 ⟨x,a,C,H1,q1,q2,q3.unpinned,q4,q5,q6⟩
noncomputable def vL:V->Option Int->Option Int->Hp->VK->Prop:=fun x lo hi H Q=>∃z,x=.str z/\z.length<=sizeLine/\Q (.str (Txt.slice z lo hi)) H
theorem sl_str:SlR X vL:=by
 intro pins s σ H x v vl vu lo hi sl Q I rx hs pl pu h;obtain ⟨z,rfl,hz,q⟩:=h;obtain ⟨t,rfl⟩:=rx;refine ⟨"str",_,PySem.F.slot_str_getitem.lookup,typeIs_str _ _ _,?_⟩;have hl:∃l:Option (Int×Tok),vl=partValue l/\l.map (·.1)=lo:=by
  cases pl with
  | none=>exact ⟨none,rfl,rfl⟩
  | int i t=>exact ⟨some (i,t),rfl,rfl⟩
 have hu:∃u:Option (Int×Tok),vu=partValue u/\u.map (·.1)=hi:=by
  cases pu with
  | none=>exact ⟨none,rfl,rfl⟩
  | int i t=>exact ⟨some (i,t),rfl,rfl⟩
 obtain ⟨l,rfl,rfl⟩:=hl;obtain ⟨u,rfl,rfl⟩:=hu;refine wpAny_getItem_str_slice (l:=l) (u:=u) (st:=none) hs rfl ?_;exact post_val_or_str ⟨Nat.le_trans (Txt.slice_le z _ _) hz,fun t' k=>⟨.str _,H,I.tok _,⟨_,rfl⟩,q⟩⟩
theorem mg' {H:Hp} {d r:D} {v:V} {lo hi:Option Int} (p:Rep X.K H d v) (e:cutD d lo hi=.ok r):(fun x lo hi H Q=>vL x lo hi H Q\/vo X.K x lo hi H Q\/vf X.K x lo hi H Q\/vJ X.K x lo hi H Q) v lo hi H (fun z H'=>Same H H'/\Rep X.K H' r z):=by
 unfold cutD at e
 split at e
 ·rename_i z
  split at e
  ·rename_i hz
   cases e
   exact .inl ⟨z,cI p,hz,Same.refl H,je⟩
  ·cases e
 ·rename_i ds
  cases e
  obtain ⟨a,xs,rfl,hq,rr⟩:=cP p;exact .inr (.inl ⟨a,xs,rfl,hq,fun p hp=>⟨gb hp _,jT (SqL.of bR) ((rr.cut _ _).mono (gb hp _))⟩⟩)
 ·rename_i ds
  cases e
  obtain ⟨a,xs,rfl,hq,rr⟩:=cO p
  by_cases hw:HT.sIx ds.length 0 lo=0/\HT.sIx ds.length ds.length hi=ds.length
  ·have ec:kW ds lo hi=ds:=by unfold kW; rw [hw.1,hw.2]; simp
   exact .inr (.inr (.inr ⟨a,xs,rfl,hq,by rw [rr.length]; exact hw,Same.refl H,by rw [ec]; exact iJ hq rr⟩))
  ·exact .inr (.inr (.inl ⟨a,xs,rfl,hq,by rw [rr.length]; exact hw,fun p hp=>⟨gb hp _,iJ (SqT.of bR) ((rr.cut _ _).mono (gb hp _))⟩⟩))
 ·cases e
theorem qQ (he:PD X e fe) (hl:POD X lo fl) (hu:POD X hi fu):PD X (.Subscript e (.Slice lo hi none p2) pos) (b_ fe fl fu):=by
 intro pins s σ G H δ I R hs;unfold b_ at hs ⊢;refine Subscript_ (he.use I R (dF hs) (fun d v s1 x H1 q I1 r1 e1 b1 p1=>?_) fun e s1 q=>q.same fun x z=>dU z);have h2:=dX hs q;rw [q,Res.bind_ok];refine wpAny_Slice (hl.use I1 (R.mono e1) (dF h2) (fun l vl s2 H2 q2 I2 pl e2 b2=>?_) fun e s2 p=>p.back e1 b1 fun x z=>dU z);have h3:=dX h2 q2;rw [q2,Res.bind_ok];refine hu.use I2 ((R.mono e1).mono e2) (dF h3) (fun u vu s3 H3 q3 I3 pu e3 b3=>?_) fun e s3 p=>(p.back e2 b2 (r':=(fu δ).bind fun u=>cutD d l u) fun x z=>dU z).back e1 b1 fun x z=>z;have h4:=dX h3 q3;rw [q3,Res.bind_ok,evalPart_none];refine wpAny_pure ?_;have I4:Inv X pins σ H3 { s3 with heap:=s3.heap.push { cls:=.type "slice",data:=.fields #[vl,vu,.none] } }:=I3.kept (t':=s3.toks) fun b ob q=>Heap.get?_push_of_some _ q
 cases qg:cutD d l u with
 | stuck=>exact (h4 qg).elim
 | err z=>exact (Lp d l u z qg).elim
 | ok r =>
  obtain ⟨T,id,hT,ht,hg⟩:=(sl_str.or (sl_list.or (sl_tup.or Ln)):SlR X.nox _) pins { s3 with heap:=s3.heap.push { cls:=.type "slice",data:=.fields #[vl,vu,.none] } } σ H3 x v vl vu l u s3.heap.objs.size _ (I4.wish _) r1 (Heap.IsSliceOf.new ..) pl pu (mg' (X:=X) ((p1.mono e2).mono e3) qg)
  show wpAny (model X.prog X.w) X.A (subscriptTail e (.Slice lo hi none p2) v (.ref s3.heap.objs.size)) _ _ { s3 with heap:=s3.heap.push { cls:=.type "slice",data:=.fields #[vl,vu,.none] } }
  refine wpAny_mono (tail_any (ops:=[.ref s3.heap.objs.size,v]) ht hT hg (by with_unfolding_all rfl)) (fun w s4 q4=>?_) fun _ _ z=>z.elim;obtain ⟨z,H4,I5,r5,e5,p5⟩:=q4;exact ⟨r,z,H4,rfl,I5.unwish,r5,((e1.trans e2).trans e3).trans e5,p5⟩
end
mutual
noncomputable def aO:D->Bool
 | .tup ds=>bc ds
 | .lst _=>false
 | .excf _ _ _=>false
 | .obj _ _ _=>false
 | .dic _ _=>false
 | _=>true
noncomputable def bc:List D->Bool
 | []=>true
 | d :: ds=>aO d && bc ds
end
mutual
theorem Rep.lset {K:PySem.W.Frag} {H:Hp} {a:Addr} {xs ys:List V} (hH:H a=some (.lst xs)):∀{d:D} {v:V},aO d=true->Rep K H d v->Rep K (upd H a (.lst ys)) d v
 | .non,v,_,h=>by rw [Rep] at h ⊢; exact h
 | .bl _,v,_,h=>by rw [Rep] at h ⊢; exact h
 | .int _,v,_,h=>by rw [Rep] at h ⊢; exact h
 | .adr _,v,_,h=>by rw [Rep] at h ⊢; exact h
 | .str _,v,_,h=>by rw [Rep] at h ⊢; exact h
 | .lst _,v,hf,_=>by rw [aO] at hf; cases hf
 | .tup ds,v,hf,h=>by
  obtain ⟨b,zs,rfl,hq,r⟩:=cO h;rw [aO] at hf;refine iJ ?_ (Reps.lset hH hf r);rcases hq with (hq | ⟨o,hq⟩) | hq
  ·exact .inl (.inl (by rw [aL (fun z=>by subst z; rw [hH] at hq; cases hq)]; exact hq))
  ·exact .inl (.inr ⟨o,by rw [aL (fun z=>by subst z; rw [hH] at hq; cases hq)]; exact hq⟩)
  ·exact .inr hq
 | .exc n,v,_,h=>by
  rw [Rep] at h ⊢;obtain ⟨b,C,rfl,hC,hb⟩:=h;exact ⟨b,C,rfl,hC,by rw [aL (fun z=>by subst z; rw [hH] at hb; cases hb)]; exact hb⟩
 | .excf n f d,v,hf,h=>by rw [aO] at hf; cases hf
 | .obj n f d,v,hf,h=>by rw [aO] at hf; cases hf
 | .dic n d,v,hf,h=>by rw [aO] at hf; cases hf
 | .dct,v,_,h=>by
  rw [Rep] at h ⊢;obtain ⟨b,rfl,hb⟩:=h;exact ⟨b,rfl,by rw [aL (fun z=>by subst z; rw [hH] at hb; cases hb)]; exact hb⟩
theorem Reps.lset {K:PySem.W.Frag} {H:Hp} {a:Addr} {xs ys:List V} (hH:H a=some (.lst xs)):∀{ds:List D} {vs:List V},bc ds=true->Reps K H ds vs->Reps K (upd H a (.lst ys)) ds vs
 | [],_,_,h=>by cases h.nil_of; exact Reps.nil
 | d :: ds,_,hf,h=>by
  rw [bc,Bool.and_eq_true] at hf;obtain ⟨v,vs,rfl,r,q⟩:=h.cons_of;exact Reps.cons (Rep.lset hH hf.1 r) (Reps.lset hH hf.2 q)
end
noncomputable def du:SV->Option SV
 | .val d=>if aO d=true then some (.val d) else none
 | .arg d=>some (.arg d)
 | .own ds=>if bc ds=true then some (.own ds) else none
noncomputable def jf (i:Nat) (ds:List D) (d:D) (δ:DS):DS:=(δ.map fun o=>o.bind du).set i (some (.own (ds ++ [d])))
theorem BK {δ:DS} {j:Nat} {sv:SV} (h:(δ.map fun o=>o.bind du)[j]? = some (some sv)):∃sv0,δ[j]? = some (some sv0)/\du sv0=some sv:=by
 rw [List.getElem?_map] at h
 cases z:δ[j]? with
 | none=>rw [z] at h; cases h
 | some o =>
  cases o with
  | none=>rw [z] at h; cases h
  | some sv0=>rw [z] at h; exact ⟨sv0,rfl,by simpa using h⟩
theorem Fo {sv:SV} {ds:List D} (h:du sv=some (.own ds)):sv=.own ds/\bc ds=true:=by
 cases sv with
 | val d=>simp only [du] at h; split at h <;> cases h
 | arg d=>cases h
 | own es =>
  simp only [du] at h
  split at h
  ·rename_i c; cases h; exact ⟨rfl,c⟩
  ·cases h
theorem RepSt.app {K:PySem.W.Frag} {G H:Hp} {σ:St} {δ:DS} {i:Nat} {ds:List D} {d:D} {a:Addr} {xs:List V} {v:V} (R:RepSt K G H σ δ) (hδ:δ[i]? = some (some (.own ds))) (hσ:σ[i]? = some (some (.ref a))) (hH:H a=some (.lst xs)) (r:Reps K H ds xs) (hG:G a=none) (hf:bc ds=true) (hd:aO d=true) (p:Rep K H d v) :
  RepSt K G (upd H a (.lst (xs ++ [v]))) σ (jf i ds d δ) where
 same:=fun b o e=>by
  have hb:b≠a:=fun z=>by subst z; rw [hG] at e; cases e
  rw [aL hb]; exact R.same b o e
 len:=by unfold jf; rw [List.length_set,List.length_map]; exact R.len
 at_:=fun j sv h=>by
  unfold jf at h;have hl:i < δ.length:=(List.getElem?_eq_some_iff.mp hδ).1
  by_cases hj:i=j
  ·subst hj;rw [List.getElem?_set_self (by rw [List.length_map]; exact hl)] at h
   cases h
   exact ⟨.ref a,hσ,a,xs ++ [v],rfl,bR,(Reps.lset hH hf r).append (Reps.cons (Rep.lset hH hd p) Reps.nil),hG⟩
  ·rw [List.getElem?_set_ne hj] at h;obtain ⟨sv0,q1,q2⟩:=BK h;obtain ⟨u,e1,e2⟩:=R.at_ j sv0 q1;refine ⟨u,e1,?_⟩
   cases sv0 with
   | val d' =>
    simp only [du] at q2
    split at q2
    ·rename_i c; cases q2; exact Rep.lset hH c e2
    ·cases q2
   | arg d'=>cases q2; exact e2
   | own es =>
    simp only [du] at q2
    split at q2
    ·rename_i c
     cases q2
     obtain ⟨b,ys,rfl,w2,w3,w4⟩:=e2;have hb:b≠a:=fun z=>by subst z; exact R.sep i j ds es (.ref b) hj hδ q1 hσ e1
     exact ⟨b,ys,rfl,by rw [aL hb]; exact w2,Reps.lset hH c w3,w4⟩
    ·cases q2
 sep:=fun j k es fs u hjk h1 h2 h3=>by
  have get:∀(m:Nat) (gs:List D),(jf i ds d δ)[m]? = some (some (.own gs))->∃gs',δ[m]? = some (some (.own gs')):=fun m gs h=>by
   unfold jf at h
   by_cases hm:i=m
   ·subst hm; exact ⟨ds,hδ⟩
   ·rw [List.getElem?_set_ne hm] at h;obtain ⟨sv0,q1,q2⟩:=BK h;obtain ⟨rfl,_⟩:=Fo q2;exact ⟨gs,q1⟩
  obtain ⟨es',g1⟩:=get j es h1;obtain ⟨fs',g2⟩:=get k fs h2;exact R.sep j k es' fs' u hjk g1 g2 h3
noncomputable def jA (i:Nat) (fs:DS->Res (List D)):DS->Out:=fun δ=>match fs δ with
 | .ok ds=>if ds.length<=sizeLine then .nxt (δ.set i (some (.own ds))) else .stuck
 | .err x=>.err x δ
 | .stuck=>.stuck
noncomputable def pP (i:Nat) (fe:DS->Res D):DS->Out:=fun δ=>match δ[i]? with
 | some (some (.own ds))=>kE (fe δ) δ fun d=>if bc ds=true/\aO d=true/\ds.length < sizeLine then .nxt (jf i ds d δ) else .stuck
 | _=>.stuck
section
variable {X:Cx} {e:Expr} {es:List Expr} {fe:DS->Res D} {fs:DS->Res (List D)} {x:Str} {pos pos' lp np apos cpos:Pos}
theorem hy' (i:Nat) (ha:PAD X es fs) (hN:X.N.Nodup) (hi:X.N[i]? = some x:=by rfl) (hx:Loc X.env.scope x:=by first | exact Or.inl rfl | exact Or.inr rfl) (hw:swapsWith (.List es lp) (some (.Name x pos')) pos.line X.env=pure false:=by rfl)
  (hf:X.fn x=true\/X.env.scope.names.lookup x=some .local:=by first | exact .inl rfl | exact .inr rfl | assumption):PSD X (.Assign [.Name x pos'] (.List es lp) pos) (jA i fs):=by
 intro pins s σ G H δ I R hs;have hs':fs δ≠.stuck:=fun z=>hs (by unfold jA; rw [z]);refine wpAny_Assign_Name (wpAny_List_spliced (ha.use I R hs' (fun ds us s1 vs H1 q I1 r1 e1 b1 p1=>?_) fun e s1 q=>q.sx R fun x z=>by unfold jA; rw [z])) hw;have ev:jA i fs δ=if ds.length<=sizeLine then .nxt (δ.set i (some (.own ds))) else .stuck:=by unfold jA; rw [q]
 have hz:ds.length<=sizeLine:=by
  by_cases c:ds.length<=sizeLine
  ·exact c
  ·rw [ev,if_neg c] at hs; exact (hs rfl).elim
 rw [if_pos hz] at ev;refine ⟨by rw [<- r1.length,p1.length]; exact hz,?_⟩;have hf':H1 s1.heap.objs.size=none:=I1.hok.fresh (Nat.le_refl _);have I2:Inv X pins σ (upd H1 s1.heap.objs.size (.lst vs)) { s1 with heap:=s1.heap.push { cls:=.type "list",data:=.seq us.toArray } }:=I1.laid (t':=s1.toks) (fun b u e=>Heap.get?_push_of_some _ e) (Nat.le_refl _) ⟨by rw [p1.length]; exact hz,us,0,r1,Heap.get?_push_size _ rfl⟩
 exact uB I2 hN hi hx (v:=.ref s1.heap.objs.size) rfl (fun s2 I3=>⟨_,_,_,ev,I3,(e1.trans (gb hf' _)).tk,(R.mono e1).setOwn (gb hf' _) i hf' bR (p1.mono (gb hf' _))⟩) hf
theorem Fp (i:Nat) (he:PD X e fe) (hN:X.N[i]? = some x:=by rfl) (hv:qz X.env.scope x:=by first | exact Or.inl rfl | exact Or.inr (Or.inl rfl) | exact Or.inr (Or.inr rfl)) (hd:(x == ("__debug__" : Str))=false:=by decide)
  (hcd:(x == ("__classdict__" : Str))=false:=by decide) (hbase:attributeBase (.Name x np) "append" X.env (eval (.Name x np) X.env)=eval (.Name x np) X.env:=by rfl)
  (hfew:((backTo cpos (starEach [e] X.env)).all (fun x=>!x.1) && (backToKw cpos (keywordEach [] X.env)).all (fun x=>x.1.isSome)
   && decide (([e]:List Expr).length + ([]:List Keyword).length + (if ([]:List Keyword).isEmpty then 0 else 1) < 30))=true:=by rfl)
  (hline:(apos.endLine == cpos.line)=true:=by rfl) (hse:starEach [e] X.env=[(false,eval e X.env)]:=by rfl)
  (hw:swapsWith (.Call (.Attribute (.Name x np) "append" apos) [e] [] cpos) none pos.line X.env=pure false:=by rfl) :
  PSD X (.Expr (.Call (.Attribute (.Name x np) "append" apos) [e] [] cpos) pos) (pP i fe):=by
 intro pins s σ G H δ I R hs;unfold pP at hs ⊢
 split at hs
 ·rename_i ds hδ;obtain ⟨v,hσ,a,xs,rfl,hH,r,hG⟩:=R.at_ i _ hδ;refine wpAny_Expr_any ?_ I.quiet hw;refine wpAny_Call_method_late hbase hfew hline rfl (wpAny_mono (yN (X:=X.wish fun _ _=>False) hN hv hd hcd (pins ++ f9 X H s.heap) s σ H (fun v' H'=>v'=.ref a/\H'=H) (I.all.wish _) ⟨.ref a,hσ,rfl,rfl⟩) (fun u s1 q=>?_) fun _ _ z=>z.elim);obtain ⟨v',H',I1,r1,rfl,rfl⟩:=q;have b0:=I.backTo I1.unwish;have I1':=I1.unwish.unpinned;obtain ⟨h1,h4⟩:=fp' (T:="list") I1' r1 (.inl ⟨rfl,xs,SqL.of hH⟩)
  cases r1
  refine ⟨"list", "list.append",PySem.F.plainAttrs_list,PySem.F.slot_list_append,PySem.F.type_list_append,h1,h4,?_⟩;have hs':fe δ≠.stuck:=rM hs;rw [hse];refine Calls.callWith_builtin (by rfl) (Calls.evalArgs_plain ?_);show wpAny _ _ (spliced ((false,eval e X.env) :: backTo cpos [])) _ _ _;refine Calls.spliced_cons (he.use I1' R hs' (fun d u s2 w H2 q I2 r2 e2 b2 p2=>?_) fun e s1 q=>(q.back (Same.refl _) b0 (r':=fe δ) fun x z=>z).sx R fun x z=>by rw [z]; rfl);refine wpAny_pure ?_;have ev:(kE (fe δ) δ fun d=>if bc ds=true/\aO d=true/\ds.length < sizeLine then Out.nxt (jf i ds d δ) else Out.stuck)=if bc ds=true/\aO d=true/\ds.length < sizeLine then Out.nxt (jf i ds d δ) else Out.stuck:=by rw [q]; rfl
  have hc:bc ds=true/\aO d=true/\ds.length < sizeLine:=by
   by_cases c:bc ds=true/\aO d=true/\ds.length < sizeLine
   ·exact c
   ·rw [ev,if_neg c] at hs; exact (hs rfl).elim
  rw [ev,if_pos hc];have hH2:=e2 a _ hH;refine wpAny_mono (DK (X:=X.wish fun _ _=>False) pins s2 σ H2 (.ref a) [w] (.ref a) [u] (fun _ H3=>H3=upd H2 a (.lst (xs ++ [w]))) (I2.wish _) rfl (.cons r2 .nil) ⟨a,xs,w,rfl,rfl,hH2,by rw [r.length]; exact hc.2.2,rfl⟩) (fun v s3 q3=>?_) fun _ _ z=>z.elim;obtain ⟨z,H3,I3,r3,rfl⟩:=q3;refine ⟨_,σ,_,rfl,I3.unwish,⟨fun b ys h=>?_,fun b o u h=>?_,fun b h=>?_⟩,(R.mono e2).app hδ hσ hH2 (r.mono e2) hG hc.1 hc.2.1 p2⟩
  ·have hb:b≠a:=fun z=>by subst z; rw [hH] at h; cases h
   rw [aL hb]; exact e2 b _ h
  ·have hb:b≠a:=fun z=>by subst z; rw [hH] at h; cases h
   rw [aL hb]; exact e2 b _ h
  ·by_cases hb:b=a
   ·subst hb; rw [bR] at h; cases h
   ·rw [aL hb] at h; exact e2.free h
 ·exact (hs rfl).elim
end
end DL
namespace DL
open PySem PySem.Spec PyProof.Rows L2
theorem hA':typeLookup (.type "list_reverseiterator") "__len__" = pure none:=by rw [typeLookup_type,builtinLookup_eq_fast]; kernel_rfl
theorem Lq:typeLookup (.type "list_reverseiterator") "__length_hint__" = pure (some (.builtin "list_reverseiterator.__length_hint__")):=by rw [typeLookup_type,builtinLookup_eq_fast]; kernel_rfl
theorem Lr:splitId "list_reverseiterator.__length_hint__" = some ("list_reverseiterator", "__length_hint__"):=by decide +kernel
theorem kE':isSubtype (.type "list_reverseiterator") (.type "list_reverseiterator")=pure true:=by rw [isSubtype_type]; kernel_rfl
theorem kF' {M:Model} {A:Around} {Q:Bool->Shared->Prop} {E:Value->Shared->Prop} {s:Shared} {I:Addr} (hT:s.TypeIs (.ref I) "list_reverseiterator") (h:Q false s):wpAny M A (Builtin.List.listLengthHint (.ref I)) Q E s:=by
 unfold Builtin.List.listLengthHint;refine wpAny_bind (wpAny_specialOf hT hA' ?_);show wpAny _ _ (specialOf (Value.ref I) _ >>= _) _ _ _;refine wpAny_bind (wpAny_specialOf hT Lq ?_);simp only [Lr];exact wpAny_bind (wpAny_isInstance (b:=true) hT kE' (wpAny_pure h))
section
variable {prog:Program} {w:World} {A:Around} {E:Value->Shared->Prop} {s:Shared} {I:Addr} {fp wr:List Addr} {G:Array GenState->Array GenState->Prop} {n:Nat} {P:Nat->Value->Prop} {St:Nat->Shared->Prop}
theorem Ls {Q:List Value->Shared->Prop} (W:WalksS prog w A.in1 I fp wr G n P St) (hT:∀i s,St i s->s.TypeIs (.ref I) "list_reverseiterator") (h0:St 0 s) (hlt:∀b∈fp,b < s.heap.objs.size) (hI:I∈fp) (hn:n<=sizeLine)
  (hQ:∀s' acc,Moved wr G s s'->ItemsOf P acc n->Q acc.toList s'):wpAny (model prog w) A (collect (.ref I)) Q E s:=by
 let S:=s.heap.objs.size
 let o0:Obj:={ cls:=.type "list",data:=.seq ([]:List Value).toArray }
 let h1:=s.heap.push o0
 have hS:S∉fp:=fun z=>absurd (hlt S z) (Nat.lt_irrefl _);have hne:S≠I:=fun z=>hS (by rw [z]; exact hI);have st1:St 0 { s with heap:=h1 }:=W.frame 0 s h1 s.toks h0 (Nat.le_refl _) fun b _ o e=>Heap.get?_push_of_some _ e
 have g1:h1.get? S=some o0:=Heap.get?_push_size _ rfl;have same:Builtin.List.listSameRef (.ref S) (.ref I)=false:=by simp [Builtin.List.listSameRef,hne]
 unfold collect;refine wpAny_bind (m:=runValue _) (wpAny_runValue (codeAny_builtin F.entry_proto_collect (Around.under_plainId F.plain_proto_collect _ ▸ ?_)));refine wpAny_bind (m:=newList []) (wpAny_newObj_type (wpAny_pure ⟨plainId_quiet F.plain_list_iadd _,codeAny_builtin F.entry_list_iadd (Around.under_plainId F.plain_list_iadd _ ▸ ?_)⟩));show wpAny _ A.in1 (Builtin.List.listExtendWith (.ref S) (.ref I) (.ref S)) _ _ { s with heap:=h1 }
 unfold Builtin.List.listExtendWith;refine wpAny_bind (wpAny_typeOf (hT 0 _ st1) ?_);simp only [same];refine wpAny_bind (W.self 0 _ _ _ st1 (wpAny_bind (wpAny_holding (kF' (hT 0 _ st1) ?_))));refine wpAny_pure ⟨plainId_quiet F.plain_extend_loop _,codeAny_extend_loopS W hn S hS _ n 0 _ _ _ rfl (Nat.zero_le _) st1 g1 (ItemsOf.nil P) fun s' acc c m g' it=>?_⟩;exact wpAny_bind (m:=load S) (wpAny_load g' (wpAny_pure (hQ s' acc (Moved.drop_new (o:=o0) (tk:=s.toks) m (Nat.le_refl _)) it)))
end
theorem Lw (x:Str):∀(M:List (Str×Tok)),Builtin.Str.tooLong ((M.map (·.1)).toArray.foldl (· + ·.length + x.length) 0)=false->Gives (joinTail x (strValues M)) (joinMade x M)
 | [],h=>gives_joinTail x [] h
 | [p],h=>gives_joinTail x [p] h
 | p :: q :: r,h=>gives_joinTail x (p :: q :: r) h
theorem Lx {L:List (Str×Tok)} {acc:Array Value} (h:ItemsOf (fun i v=>(strValues L).toArray[(strValues L).toArray.size - 1 - i]? = some v) acc (strValues L).toArray.size):acc.toList=strValues L.reverse:=by
 obtain ⟨h1,h2⟩:=h;have hs:(strValues L).length=L.length:=by unfold strValues; simp
 have hr:strValues L.reverse=(strValues L).reverse:=by unfold strValues; rw [List.map_reverse]
 rw [hr];refine List.ext_getElem? fun i=>?_
 by_cases c:i < acc.size
 ·have q:=h2 i acc[i] (Array.getElem?_eq_getElem c);simp only [List.size_toArray,List.getElem?_toArray] at q h1;rw [List.getElem?_reverse (by omega),q];simp [c]
 ·simp only [List.size_toArray] at h1;rw [List.getElem?_eq_none (by simpa using Nat.le_of_not_lt c),List.getElem?_eq_none (by simp; omega)]
section
variable {prog:Program} {w:World} {A:Around} {E:Value->Shared->Prop} {s:Shared} {x:Str} {t:Tok} {Q:Value->Shared->Prop}
theorem Ly {l I:Addr} {L:List (Str×Tok)} (hh:A.handled=none) (hl:s.heap.IsList l (strValues L).toArray) (hi:s.heap.IsRevIter I l (((strValues L).toArray.size:Int) - 1)) (hne:l≠I) (hz:L.length<=sizeLine) (hok:JoinOk x (L.reverse.map (·.1))=true)
  (hq:∀s' t' k,Moved [I] (fun a b=>b=a) s s'->Q (.str (Txt.join x (L.reverse.map (·.1))) t') { s' with toks:=k }):wpAny (model prog w) A (call (.builtin "str.join") [.str x t,.ref I]) Q E s:=by
 have W:=(Walks.listRev (prog:=prog) (w:=w) (A:=A.in1.in1) hh I l hne (strValues L).toArray).toS;have st0:0<=(strValues L).toArray.size/\s.heap.IsRevIter I l (((strValues L).toArray.size:Int) - 1 - ((0:Nat):Int))/\s.heap.IsList l (strValues L).toArray:=⟨Nat.zero_le _,by simpa using hi,hl⟩;obtain ⟨oI,gI,_⟩:=id hi;obtain ⟨ol,gl,_⟩:=id hl;refine wpAny_call (codeAny_call_builtin F.slot_str_join.plain F.entry_str_join (F.slot_str_join.check _ _ _ _ _ _ _ _ (typeIs_str _ _ _) (F.args_str_join_2 _ _) ?_));rw [join_tree_other];refine wpAny_bind (wpAny_typeOf hi.typeIs ?_);rw [if_neg (by decide)];refine wpAny_bind (wpAny_tryCatch (W.of_in1.self 0 s _ _ st0 (wpAny_bind (Ls W (fun i s st=>st.2.1.typeIs) st0 (fun b hb=>?_) (by simp) (by simpa [strValues] using hz) fun s' acc m it=>?_))))
 ·rcases List.mem_cons.mp hb with rfl | hb
  ·exact Heap.lt_size gI
  ·rw [List.mem_singleton.mp hb]; exact Heap.lt_size gl
 ·rw [Lx it];have ok':=hok;unfold JoinOk at ok';rw [Bool.not_eq_true'] at ok';exact Lw x L.reverse ok' prog w A (wants Q E) s' (post_join L.reverse ⟨joinFit_length ok',fun t' k=>hq s' t' k m⟩)
end
noncomputable def strsOf:List D->Option (List Str)
 | []=>some []
 | .str x :: ds=>(strsOf ds).map (x :: ·)
 | _=>none
theorem zm:∀{ds:List D} {xs:List Str},strsOf ds=some xs->ds=xs.map .str
 | [],xs,h=>by cases h; rfl
 | .str x :: ds,xs,h=>by
  simp only [strsOf] at h
  cases z:strsOf ds with
  | none=>rw [z] at h; cases h
  | some ys=>rw [z] at h; cases h; rw [zm z]; rfl
 | .non :: _,_,h=>nomatch h
 | .bl _ :: _,_,h=>nomatch h
 | .int _ :: _,_,h=>nomatch h
 | .tup _ :: _,_,h=>nomatch h
 | .lst _ :: _,_,h=>nomatch h
 | .exc _ :: _,_,h=>nomatch h
 | .excf _ _ _ :: _,_,h=>nomatch h
 | .dct :: _,_,h=>nomatch h
 | .obj _ _ _ :: _,_,h=>nomatch h
 | .dic _ _ :: _,_,h=>nomatch h
 | .adr _ :: _,_,h=>nomatch h
theorem zp {K:PySem.W.Frag} {H:Hp}:∀{xs:List Str} {vs:List V},Reps K H (xs.map .str) vs->vs=xs.map .str
 | [],_,h=>by rw [h.nil_of]; rfl
 | x :: xs,_,h=>by
  obtain ⟨v,vs,rfl,r,q⟩:=h.cons_of;rw [cI r,zp q]; rfl
theorem Fq:∀{xs:List Str} {us:List Value},Vals (xs.map V.str) us->∃L:List (Str×Tok),us=strValues L/\L.map (·.1)=xs
 | [],_,h=>by cases h; exact ⟨[],rfl,rfl⟩
 | x :: xs,_,h=>by
  cases h with
  | cons r q =>
   obtain ⟨t,rfl⟩:=r;obtain ⟨L,rfl,rfl⟩:=Fq q;exact ⟨(x,t) :: L,rfl,rfl⟩
noncomputable def fD (sep:Str):D->Res D
 | .lst ds=>match strsOf ds with
  | some xs=>if JoinOk sep xs.reverse=true/\xs.length<=sizeLine then .ok (.str (Txt.join sep xs.reverse)) else .stuck
  | none=>.stuck
 | _=>.stuck
theorem boot_reversed:bootBuiltins "reversed" = some (.type "reversed"):=by decide +kernel
section
variable {X:Cx} {e:Expr} {fe:DS->Res D} {sep:Str} {p0 apos np rp cpos:Pos}
theorem Lz {j} (hc:X.calm=true) (hg:Gl X "reversed") (hm:X.mg "reversed" = none) (he:PD X e fe)
  (hbase:attributeBase (.Constant (.str sep) j p0) "join" X.env (eval (.Constant (.str sep) j p0) X.env)=eval (.Constant (.str sep) j p0) X.env:=by rfl)
  (hfew:((backTo cpos (starEach [.Call (.Name "reversed" np) [e] [] rp] X.env)).all (fun x=>!x.1) && (backToKw cpos (keywordEach [] X.env)).all (fun x=>x.1.isSome)
   && decide (([.Call (.Name "reversed" np) [e] [] rp]:List Expr).length + ([]:List Keyword).length + (if ([]:List Keyword).isEmpty then 0 else 1) < 30))=true:=by rfl)
  (hline:(apos.endLine == cpos.line)=true:=by rfl) (hse:starEach [.Call (.Name "reversed" np) [e] [] rp] X.env=[(false,eval (.Call (.Name "reversed" np) [e] [] rp) X.env)]:=by rfl)
  (hs1:starEach [e] X.env=[(false,eval e X.env)]:=by rfl) :
  PD X (.Call (.Attribute (.Constant (.str sep) j p0) "join" apos) [.Call (.Name "reversed" np) [e] [] rp] [] cpos) (fun δ=>(fe δ).bind (fD sep)):=by
 intro pins s σ G H δ I R hs;refine wpAny_Call_method_late hbase hfew hline rfl ((eY (X:=X) (x:=sep)).use I R (by intro z; cases z) (fun d0 u0 s1 v0 H1 q0 I1 r1 e1 b1 p1=>?_) fun e s1 q=>q.none.elim)
 cases q0
 rw [cI p1] at r1;obtain ⟨t0,rfl⟩:=r1;refine ⟨"str", "str.join",PySem.F.plainAttrs_str,PySem.F.slot_str_join,PySem.F.type_str_join,typeIs_str _ _ _,(fun a z=>by cases z),?_⟩;rw [hse];refine Calls.callWith_builtin (by rfl) (Calls.evalArgs_plain ?_);show wpAny _ _ (spliced ((false,eval (.Call (.Name "reversed" np) [e] [] rp) X.env) :: backTo cpos [])) _ _ _;refine Calls.spliced_cons ?_;refine wpAny_Call_Name_kw (oN I1 hg hm boot_reversed ?_ (by decide) (by decide));have hs':(fe δ).bind (fD sep)≠.stuck:=hs;refine PyProof.Rows.callWith_type1 ?_ hs1 (by rfl);rw [hs1];show wpAny _ _ (spliced ((false,eval e X.env) :: backTo rp [])) _ _ _;refine Calls.spliced_cons (he.use I1 (R.mono e1) (dF hs') (fun d u s2 v H2 q I2 r2 e2 b2 p2=>?_) fun e s2 q=>q.back e1 b1 fun x z=>dU z);refine wpAny_pure ?_;have h2:=dX hs' q;show wpAny _ _ (call (.type "reversed") [u]) _ _ s2
 cases d with
 | lst ds =>
  have h3:(match strsOf ds with
   | some xs=>if JoinOk sep xs.reverse=true/\xs.length<=sizeLine then Res.ok (D.str (Txt.join sep xs.reverse)) else .stuck
   | none=>.stuck)≠.stuck:=h2
  cases z:strsOf ds with
  | none=>rw [z] at h3; exact (h3 rfl).elim
  | some xs =>
   rw [z] at h3;have hk:JoinOk sep xs.reverse=true/\xs.length<=sizeLine:=by
    by_cases c:JoinOk sep xs.reverse=true/\xs.length<=sizeLine
    ·exact c
    ·simp only [if_neg c] at h3; exact (h3 rfl).elim
   have ev:(fe δ).bind (fD sep)=.ok (.str (Txt.join sep xs.reverse)):=by
    rw [q,Res.bind_ok];show (match strsOf ds with
     | some xs=>if JoinOk sep xs.reverse=true/\xs.length<=sizeLine then Res.ok (D.str (Txt.join sep xs.reverse)) else .stuck
     | none=>.stuck)=_
    rw [z];exact if_pos hk
   obtain ⟨a,vs,rfl,hq,rr⟩:=cP p2
   cases r2
   rw [zm z] at rr;obtain ⟨its,rv,p,hz⟩:=I2.list hq;rw [zp rr] at rv;obtain ⟨L,rfl,hL⟩:=Fq rv;have pl:=p.isList;obtain ⟨oa,ga,_⟩:=id pl;refine PySem.call_reversed_list pl ?_;refine wpAny_pure ?_;have I3:Inv X pins σ H2 { s2 with heap:=s2.heap.push (revObj a (((strValues L).toArray.size:Int) - 1)) }:=I2.kept (t':=s2.toks) fun b ob q=>Heap.get?_push_of_some _ q
   have hne:a≠s2.heap.objs.size:=Nat.ne_of_lt (Heap.lt_size ga);obtain ⟨f0,f1,f2,f3,f4,f5⟩:=I2.fpOk (Nat.le_refl s2.heap.objs.size) (I2.hok.fresh (Nat.le_refl _));refine Ly (l:=a) (I:=s2.heap.objs.size) (L:=L) (I.ok.hd hc) (pl.at fun o e=>Heap.get?_push_of_some _ e) ⟨_,Heap.get?_push_size _ rfl,rfl,rfl⟩ hne (by rw [<- hL,List.length_map] at hk; exact hk.2) (by rw [List.map_reverse,hL]; exact hk.1) fun s' t' k m=>?_;rw [List.map_reverse,hL];refine ⟨_,.str _,H2,ev,?_,⟨_,rfl⟩,e1.trans e2,je⟩;obtain ⟨h',g',d',tk',os'⟩:=s';obtain ⟨m1,m2,m3,m4,m5⟩:=m;dsimp only at m1 m2 m3 m4 m5;subst m2 m3 m4;exact I3.turned (t':=k) (fun b o hb e=>m1 b o (by simpa using hb) e) f0 f1 f3 f4 f5
 | _=>exact (h2 rfl).elim
end
noncomputable def dG (cells:List (Str×Addr)):List (Str×NameKind)->List (Str×Addr)->List (Str×Addr)
 | [],acc=>acc
 | y :: r,acc=>if (y.2 == NameKind.free)=true then dG cells r ((y.1,(cells.lookup y.1).getD 0) :: acc) else dG cells r acc
theorem LC {scope:Scope} {env:Env} (h:∀y∈scope.names,y.2=.free->∃c,env.cells.lookup y.1=some c):closureFor scope env=pure (dG env.cells scope.names []):=by
 unfold closureFor;generalize scope.names=ns at h;show (forIn ns ([]:List (Str×Addr)) _ >>= fun r=>pure r)=_;have key:∀(ns:List (Str×NameKind)) (acc:List (Str×Addr)),(∀y∈ns,y.2=.free->∃c,env.cells.lookup y.1=some c) ->
   (forIn ns acc (fun (x:Str×NameKind) (cs:List (Str×Addr))=>(match x with
    | (name,kind)=>if (kind == NameKind.free)=true then do
      let c <- cellOf env name
      pure (ForInStep.yield ((name,c) :: cs))
     else pure (ForInStep.yield cs):Sem _)))=pure (dG env.cells ns acc):=by
  intro ns
  induction ns with
  | nil=>intro acc _; rfl
  | cons y r ih =>
   intro acc hy;obtain ⟨n,k⟩:=y;rw [List.forIn_cons]
   by_cases c:(k == NameKind.free)=true
   ·obtain ⟨a,ha⟩:=hy (n,k) (by simp) (by simpa using c);have ha':env.cells.lookup n=some a:=ha;simp only [c,if_true,dG,ha',Option.getD_some];have:cellOf env n=pure a:=by unfold cellOf; rw [ha']
    rw [this];exact ih _ fun z hz=>hy z (List.mem_cons_of_mem _ hz)
   ·simp only [c,if_false,dG];exact ih _ fun z hz=>hy z (List.mem_cons_of_mem _ hz)
 exact congrArg (fun z=>z >>= fun r=>pure r) (key ns [] h)
theorem BL {cells:List (Str×Addr)}:∀(ns:List (Str×NameKind)) (acc:List (Str×Addr)),(∀y∈ns,y.2=.free->∃c,cells.lookup y.1=some c)->(∀x c,acc.lookup x=some c->cells.lookup x=some c) ->
  ∀x c,(dG cells ns acc).lookup x=some c->cells.lookup x=some c
 | [],acc,_,ha,x,c,h=>ha x c h
 | y :: r,acc,hn,ha,x,c,h=>by
  unfold dG at h
  split at h
  ·rename_i q;refine BL r _ (fun z hz=>hn z (List.mem_cons_of_mem _ hz)) (fun x' c' h'=>?_) x c h;obtain ⟨a,e⟩:=hn y (by simp) (by simpa using q);rw [List.lookup_cons] at h'
   split at h'
   ·rename_i q2;have:x'=y.1:=by simpa using q2
    subst this;rw [e] at h' ⊢;simpa using h'
   ·exact ha x' c' h'
  ·exact BL r _ (fun z hz=>hn z (List.mem_cons_of_mem _ hz)) ha x c h
theorem zq {cells:List (Str×Addr)} {x:Str}:∀(ns:List (Str×NameKind)) (acc:List (Str×Addr)),((x,NameKind.free)∈ns\/∃c,acc.lookup x=some c)->∃c,(dG cells ns acc).lookup x=some c
 | [],acc,h=>by
  rcases h with h | h
  ·cases h
  ·exact h
 | y :: r,acc,h=>by
  unfold dG
  split
  ·rename_i q;refine zq r _ ?_;rcases h with h | ⟨c,h⟩
   ·rcases List.mem_cons.mp h with z | z
    ·subst z;exact .inr ⟨(cells.lookup x).getD 0,by rw [List.lookup_cons]; simp⟩
    ·exact .inl z
   ·refine .inr ?_;rw [List.lookup_cons]
    split
    ·exact ⟨_,rfl⟩
    ·exact ⟨c,h⟩
  ·rename_i q;refine zq r _ ?_;rcases h with h | h
   ·rcases List.mem_cons.mp h with z | z
    ·subst z; exact (q rfl).elim
    ·exact .inl z
   ·exact .inr h
theorem lookup_map2 {f:Str×NameKind->Str×NameKind} (hf:∀y,(f y).1=y.1) (x:Str):∀(ns:List (Str×NameKind)),(ns.map f).lookup x=(ns.lookup x).map fun k=>(f (x,k)).2
 | []=>rfl
 | y :: r=>by
  obtain ⟨n,k⟩:=y;rw [List.map_cons,show f (n,k)=(n,(f (n,k)).2) from Prod.ext (hf _) rfl,List.lookup_cons,List.lookup_cons,lookup_map2 hf x r]
  by_cases c:x=n
  ·subst c; simp
  ·have:(x == n)=false:=by simpa using c
   simp [this]
theorem Ft {scope:Scope} {env:Env} (x:Str):(relabel scope env).names.lookup x=(scope.names.lookup x).map fun k=>if (k == .free && env.scope.kind == .function && env.kindOf x == some .cell)=true then NameKind.cell else k:=by
 show List.lookup x (List.map _ scope.names)=_;rw [lookup_map2 (fun y=>by obtain ⟨n,k⟩:=y; dsimp only; split <;> rfl)]
 cases scope.names.lookup x with
 | none=>rfl
 | some k =>
  simp only [Option.map_some]
  split <;> rfl
theorem kG' {X:Cx} {m:Nat} {fr:List Nat} {N':List Str} {scope:Scope} {n:Nat} (sc:Scope) (N:List Str) (hsc:X.env.scope=sc) (hcl:X.env.cells=cellsFrom n sc.names []) (hN:X.N=N)
  (hf:∀y∈scope.names,y.2=.free->sc.names.lookup y.1=some .cell) (hc:∀y∈scope.names,y.2≠.cell) (hk:scope.kind=.function) (hks:sc.kind=.function)
  (hn:∀x∈scope.names,x.2=.local->scope.names.lookup x.1=some .local) (hl:N'.length=m + fr.length)
  (hfr:∀j,j < fr.length->∃x,N'[m + j]? = some x/\N[fr.getD j 0]? = some x/\scope.names.lookup x=some .free/\sc.names.lookup x=some .cell):Around' X m fr N' scope (dG X.env.cells scope.names []):=by
 have hs:∀y∈scope.names,y.2=.free->∃c,X.env.cells.lookup y.1=some c:=fun y hy e=>by
  rw [hcl]; exact Ag (hf y hy e)
 have hfree:∀x k,scope.names.lookup x=some k->k≠.cell:=fun x k h=>hc _ (PySem.mem_of_lookup h);refine { clos:=LC hs,nocell:=hc,kind:=hk,names:=hn,sub:=BL _ _ hs (fun x c h=>by simp at h),has:=fun x h=>?_,len:=hl,free:=fun j i h=>?_ }
 ·rw [Ft] at h
  cases q:scope.names.lookup x with
  | none=>rw [q] at h; rcases h with h | h <;> cases h
  | some k =>
   rw [q] at h;have:k=.free:=by
    have h2:=hfree x k q
    cases k <;> first | rfl | exact (h2 rfl).elim | (rcases h with h | h <;> simp at h)
   subst this;exact zq _ _ (.inl (PySem.mem_of_lookup q))
 ·have hj:j < fr.length:=by
   rcases Nat.lt_or_ge j fr.length with z | z
   ·exact z
   ·rw [List.getElem?_eq_none z] at h; cases h
  obtain ⟨x,e1,e2,e3,e4⟩:=hfr j hj;have hi:fr.getD j 0=i:=by rw [List.getD_eq_getElem?_getD,h]; rfl
  rw [hi] at e2;obtain ⟨c,e5⟩:=zq (cells:=X.env.cells) scope.names [] (.inl (PySem.mem_of_lookup e3));refine ⟨x,c,e1,by rw [hN]; exact e2,by rw [hsc]; exact .inr (.inl e4),.inl (by unfold Env.kindOf; rw [hsc]; exact e4),e5,.inl ?_⟩;show (relabel scope X.env).names.lookup x=_;rw [Ft,e3];have:X.env.kindOf x=some .cell:=by unfold Env.kindOf; rw [hsc]; exact e4
  simp [this,hsc,hks]
noncomputable def vM (sc scope:Scope) (N N':List Str) (m:Nat) (fr:List Nat):Bool :=
 scope.names.all (fun y=>decide (y.2≠.cell) && (!(decide (y.2=.free)) || decide (sc.names.lookup y.1=some .cell)) && (!(decide (y.2=.local)) || decide (scope.names.lookup y.1=some .local))) &&
 decide (N'.length=m + fr.length) && (List.range fr.length).all fun j=>match N'[m + j]? with
  | some x=>decide (N[fr.getD j 0]? = some x) && decide (scope.names.lookup x=some .free) && decide (sc.names.lookup x=some .cell)
  | none=>false
theorem BP {X:Cx} {m:Nat} {fr:List Nat} {N':List Str} {scope:Scope} {n:Nat} (sc:Scope) (N:List Str) (hsc:X.env.scope=sc) (hcl:X.env.cells=cellsFrom n sc.names []) (hN:X.N=N) (hk:scope.kind=.function) (hks:sc.kind=.function)
  (h:vM sc scope N N' m fr=true):Around' X m fr N' scope (dG X.env.cells scope.names []):=by
 unfold vM at h;simp only [Bool.and_eq_true,List.all_eq_true,decide_eq_true_eq] at h;obtain ⟨⟨h1,h2⟩,h3⟩:=h;refine kG' sc N hsc hcl hN (fun y hy e=>?_) (fun y hy=>(h1 y hy).1.1) hk hks (fun y hy e=>?_) h2 fun j hj=>?_
 ·have:=(h1 y hy).1.2;simpa [e] using this
 ·have:=(h1 y hy).2;simpa [e] using this
 ·have:=h3 j (by simpa using hj)
  split at this
  ·rename_i x q;simp only [Bool.and_eq_true,decide_eq_true_eq] at this;exact ⟨x,q,this.1.1,this.1.2,this.2⟩
  ·cases this
noncomputable def gF (f:DS->Res (List D)) (g:List D->Res (List D)):DS->Res (List D):=fun δ=>(f δ).bind g
section
variable {prog:Program} {w:World} {A:Around} {E:Value->Shared->Prop} {s:Shared}
theorem LK {α:Type} {Q:α->Shared->Prop} (hh:A.handled=none) (h:∀(h':Heap) (e:Addr),(∀b o,s.heap.get? b=some o->h'.get? b=some o)->(∃o,h'.get? e=some o/\o.cls=.type "StopIteration")->E (.ref e) { s with heap:=h' }) :
  wpAny (model prog w) A (Builtin.SmallTypes.stopIteration:Sem α) Q E s:=by
 unfold Builtin.SmallTypes.stopIteration;refine wpAny_bind (m:=newExc _ _) ?_;rw [newExc.eq_1];refine wpAny_bind (wpAny_newTuple ?_ (by decide));rw [firstArgMember.eq_1];refine wpAny_bind (wpAny_bind (wpAny_pure (wpAny_pure ?_)));refine wpAny_newObj_type ?_;refine wpAny_raiseNew_none hh (h _ _ (fun b o e=>Heap.get?_push_of_some _ (Heap.get?_push_of_some _ e)) ⟨_,Heap.get?_push_size _ rfl,rfl⟩)
structure ZipT (h:Heap) (z TI TO i1 i2 t1 t2:Addr) (f0:Value) (i:Nat):Prop where
 zip:IsZip h z TI TO f0
 ti:IsPair h TI (.ref i1) (.ref i2)
 to:∃a b,IsPair h TO a b
 j1:h.IsTupleIter i1 t1 i
 j2:h.IsTupleIter i2 t2 i
end
theorem LQ:isSubtype (.type "StopIteration") (.type "StopIteration")=pure true:=by rw [isSubtype_type]; kernel_rfl
section
variable {prog:Program} {w:World} {A:Around} {E:Value->Shared->Prop} {s:Shared}
theorem Fv {z:Addr} {vs:Array Value} {h':Heap} {e:Addr} {Q:Option Value->Shared->Prop} (hz:h'.get? z=some { cls:=Value.type "zip",data:=Data.fields vs }) (hv:0 < vs.size) (he:∃o,h'.get? e=some o/\o.cls=.type "StopIteration")
  (hQ:Q none { s with heap:=h'.update z (Obj.mapFields fun v=>v.setIfInBounds 0 Value.none) }) :
  wpAny (model prog w) A.in1 (setField (Value.ref z) 0 Value.none) (fun _ s''=>wpAny (model prog w) A (do
   let b <- isInstance (.ref e) (Value.type "StopIteration")
   if b=true then pure none else throw (.ref e)) Q E s'') (fun e s''=>wpAny (model prog w) A (do
   let b <- isInstance e (Value.type "StopIteration")
   if b=true then pure none else throw e) Q E s'') { s with heap:=h' }:=by
 refine wpAny_setField hz rfl hv ?_;obtain ⟨o,g,c⟩:=he;have n:e≠z:=fun q=>by
  rw [q,hz] at g;have g':=Option.some.inj g;rw [<- g'] at c;injection c with c'
  exact absurd c' (by decide)
 refine wpAny_bind (wpAny_isInstance (b:=true) (T:="StopIteration") ⟨o,(by show (h'.update z _).get? e=_; rw [Heap.get?_update_other _ _ (Ne.symm n)]; exact g),c⟩ LQ (wpAny_pure hQ))
end
theorem _root_.L2.Inv.butL {X:Cx} {pins:List (Addr×Obj)} {σ:St} {H:Hp} {s:Shared} {fp:List Addr} {h':Heap} {t':Nat} (J:Inv X pins σ H s) (hf:∀b∈fp,fK X pins H b) (hk:∀b o,b∉fp->s.heap.get? b=some o->h'.get? b=some o) :
  Inv X pins σ H { s with heap:=h',toks:=t' }:=by
 have nC:∀b,H b≠none->b∉fp:=fun b hb z=>hb (hf b z).1;refine J.call' (ch:=fp) (s':={ s with heap:=h',toks:=t' }) rfl
   ⟨fun b o e n hb hx=>hk b o hx e,fun b o e n hb hx=>⟨o.slots,hk b o hx e⟩,fun b o e n _=>n,fun b o e hx=>⟨o,hk b o hx e⟩,fun b xs e=>e,fun b o u e=>e,fun b ps e=>⟨#[],by simpa using e⟩⟩
   (fun b u q=>(J.hok b u q).stay (fun c v hc e=>hk c v (by
    rcases hc with rfl | hc
    ·exact nC c (by rw [q]; intro z; cases z)
    ·exact nC c (by rw [hc]; intro z; cases z)) e) (fun _ z=>z) fun _ _ z=>z) J.bare
   fun b hb=>by
    obtain ⟨f0,f1,f2,f3,f4,f5⟩:=hf b hb;exact ⟨f3,f1,f4,f5⟩
noncomputable def pQ (xs ys:List D):List D:=List.zipWith (fun x y=>D.tup [x,y]) xs ys
theorem LR (S:Nat):List.Nodup [S + 4,S + 2,S + 3,S,S + 1]:=by
 simp only [List.nodup_cons,List.mem_cons,List.not_mem_nil,or_false,not_or,List.nodup_nil,and_true,not_false_eq_true];omega
theorem Fw {S t:Nat} (h:t < S):t∉[S + 4,S + 2,S + 3,S,S + 1]:=by
 simp only [List.mem_cons,List.not_mem_nil,or_false,not_or];omega
theorem Fx {S b:Nat} (h:b∈[S + 4,S + 2,S + 3,S,S + 1]):S<=b:=by
 simp only [List.mem_cons,List.not_mem_nil,or_false] at h;omega
theorem hB' {m i j:Nat} (h:i < m) (h':j < m):c7 m (bZ [i,j]):=by
 intro d δ δ1 e
 cases d with
 | tup ds =>
  match ds,e with
  | [x,y],e =>
   simp only [bZ,cQ,Option.some.injEq] at e;subst e;exact ⟨by simp,fun k hk=>by rw [List.getElem?_set_ne (by omega),List.getElem?_set_ne (by omega)]⟩
  | [],e=>simp [bZ,cQ] at e
  | [x],e=>simp [bZ,cQ] at e
  | _ :: _ :: _ :: _,e=>simp [bZ,cQ] at e
 | _=>simp [bZ] at e
section
variable {X:Cx} {e:Expr} {fe:DS->Res D} {pos:Pos} {op:Operator} {g:D->D->Res D}
theorem L_:OpR X (inplaceOp .Mult) (rI (fun i j=>(bw i<=2 ^ 20/\bw j<=2 ^ 20)\/bw i<=64\/bw j<=64) fun i j=>.int (i * j)):=uC fun _ _ _ _ _ _ _ hc q=>imul_int q (by
 rcases hc with hc | hc | hc
 ·exact PySem.IntMulOk.of_bits hc.1 hc.2
 ·exact PySem.IntMulOk.of_left hc
 ·exact PySem.IntMulOk.of_right hc)
theorem Ma:OpD X (inplaceOp .Mult) fj:=yS (h:=fun i j=>.int (i * j)) (fun _=>L_) (fun _ _ _=>iw) fun x y d e=>by
 cases x <;> cases y <;> first | (simp [fj] at e; done) | skip
 rename_i i j;simp only [fj] at e
 split at e
 ·rename_i c; cases e; exact ⟨_,_,rfl,rfl,c,rfl⟩
 ·cases e
theorem Mf (i:Nat) {x:Str} {pos':Pos} (ho:OpD X (inplaceOp op) g) (hg:∀x y,aJ (g x y)) (he:PD X e fe) (hN:X.N.Nodup) (hi:X.N[i]? = some x:=by rfl) (hx:Loc X.env.scope x:=by first | exact Or.inl rfl | exact Or.inr rfl)
  (hf:X.fn x=true\/X.env.scope.names.lookup x=some .local:=by first | exact .inl rfl | exact .inr rfl | assumption):PSD X (.AugAssign (.Name x pos') op e pos) (aC i (two (aj i) fe g)):=by
 intro pins s σ G H δ I R hs;have h1:two (aj i) fe g δ≠.stuck:=rM hs;have hsl:∃sv,δ[i]? = some (some sv):=by
  cases q:δ[i]? with
  | none=>exact (h1 (by unfold two aj; rw [q]; rfl)).elim
  | some o =>
   cases o with
   | none=>exact (h1 (by unfold two aj; rw [q]; rfl)).elim
   | some sv=>exact ⟨sv,rfl⟩
 obtain ⟨sv,hsv⟩:=hsl;have ev:two (aj i) fe g δ=(fe δ).bind fun y=>g sv.view y:=by unfold two aj; rw [hsv]; rfl
 rw [ev] at h1;obtain ⟨v,e1,p0⟩:=R.view hsv;obtain ⟨m,hn,hl⟩:=I.loc;have vis:qz X.env.scope x:=by
  rcases hx with k | k
  ·exact .inl k
  ·exact .inr (.inl k)
 obtain ⟨u,r,l⟩:=hl i x v hi e1 vis;refine wpAny_AugAssign_Name ?_;have go:wpAny (model X.prog X.w) X.A (eval e X.env) (fun w s₂=>wpAny (model X.prog X.w) X.A (inplaceOp op u w) (fun r s₃=>wpAny (model X.prog X.w) X.A (storeName X.env x r) (fun _=>SPost X pins G H (aC i (two (aj i) fe g) δ) .next) (SX X pins G H s.heap (aC i (two (aj i) fe g) δ)) s₃) (SX X pins G H s.heap (aC i (two (aj i) fe g) δ)) s₂) (SX X pins G H s.heap (aC i (two (aj i) fe g) δ)) s:=by
  refine he.use I R (dF h1) (fun d w s1 vy H1 q I1 r1 e2 b1 p1=>?_) fun ex s1 q=>q.sx R fun z hz=>by unfold aC; rw [ev,hz]; rfl
  have h2:=dX h1 q
  cases qg:g sv.view d with
  | stuck=>exact (h2 qg).elim
  | err z=>exact (hg _ _ z qg).elim
  | ok d2 =>
   refine cN (ho _ pins s1 σ H1 v vy u w sv.view d d2 I1 r r1 (p0.mono e2) p1 qg) fun z s2 ⟨d3,zv,H2,q3,I2,r2,e3,p2⟩=>?_
   cases q3
   exact uB I2 hN hi hx r2 (fun s3 I3=>⟨_,_,H2,by unfold aC; rw [ev,q,Res.bind_ok,qg]; rfl,I3,(e2.trans e3).tk,((R.mono e2).mono e3).set i p2⟩) hf
 rcases l with ⟨hk,hm⟩ | ⟨hk,c,hc,hcell⟩
 ·exact wpAny_loadName_local I.ok.kind hk hn hm go
 ·rcases hk with hk | hk
  ·exact wpAny_loadName_cell I.ok.kind hk hc hcell go
  ·have hk':X.env.scope.names.lookup x=some .free:=hk;rcases hx with k | k <;> (rw [k] at hk'; cases hk')
end
theorem Mg:fillsNumberSlot (.type "tuple") "mul" = pure false:=by first | exact noFill_tuple_mul | (unfold fillsNumberSlot; kernel_rfl)
theorem Mh:seqRepeat? (.type "tuple")=pure (some (.builtin "tuple.__mul__")):=by first | exact repeat_tuple | (unfold seqRepeat?; kernel_rfl)
section
variable {prog:Program} {w:World} {A:Around} {E:Value->Shared->Prop} {s:Shared}
theorem Mi {t:Addr} {items:Array Value} {k:Int} {tok:Tok} {Q:Value->Shared->Prop} (ht:IsTup s.heap t items) (h:Q .notImplemented s):wpAny (model prog w) A (call (.builtin "int.__rmul__") [.int k tok,.ref t]) Q E s:=by
 obtain ⟨o,g,hc,n,hd⟩:=id ht;refine wpAny_call (codeAny_call_builtin F.slot_int_rmul.plain F.entry_int_rmul (F.slot_int_rmul.check _ _ _ _ _ _ _ _ (typeIs_int s k tok) (F.args_int_rmul_2 _ _) ?_));refine wpAny_bind (m:=slotArgs _ _ _) (wpAny_pure ?_);refine wpAny_bind (m:=Builtin.Int.intOfSelf _) (wpAny_bind (m:=asInt? _) (wpAny_pure (wpAny_pure ?_)));refine wpAny_bind (m:=asInt? _) (wpAny_bind (m:=load _) (wpAny_load g ?_));simp only [hd];refine wpAny_pure ?_;exact wpAny_bind (wpAny_rule (wpAny_pure h))
theorem Mj {t:Addr} {items:Array Value} {k:Nat} {tok:Tok} {Q:Value->Shared->Prop} (ht:IsTup s.heap t items) (hne:items.isEmpty=false) (hk:items.size * k<=1000) (h1:k=1->Q (.ref t) s)
  (h2:k≠1->Q (.ref s.heap.objs.size) { s with heap:=s.heap.push { cls:=.type "tuple",data:=.seq (List.replicate k items.toList).flatten.toArray } }):wpAny (model prog w) A (call (.builtin "tuple.__mul__") [.ref t,.int k tok]) Q E s:=by
 refine wpAny_call (codeAny_call_builtin F.slot_tuple_mul.plain F.entry_tuple_mul (F.slot_tuple_mul.check _ _ _ _ _ _ _ _ ht.typeIs (F.args_tuple_mul_2 _ _) ?_));refine wpAny_bind (m:=asIndex _) (wpAny_bind (m:=asInt? _) (wpAny_pure (wpAny_pure ?_)));have p1:1<=items.size:=by
  rcases Nat.eq_zero_or_pos items.size with z | z
  ·rw [Array.isEmpty_eq_false_iff,<- Array.size_pos_iff] at hne; omega
  ·exact z
 have kk:k<=1000:=Nat.le_trans (Nat.le_mul_of_pos_left k p1) hk;have hfit:(decide ((k:Int) < -2 ^ 63) || decide ((k:Int)>=2 ^ 63))=false:=by
  rw [Bool.or_eq_false_iff];exact ⟨decide_eq_false (by omega),decide_eq_false (by omega)⟩
 dsimp only;rw [hfit,if_neg Bool.false_ne_true];refine wpAny_bind (tupleItemsOf_ ht ?_)
 by_cases c:k=1
 ·have hc:(items.isEmpty || ((k:Nat):Int) == 1)=true:=by rw [c]; simp
  rw [if_pos hc];refine wpAny_bind (m:=Builtin.Tuple.tupleIsExact _) (wpAny_bind (wpAny_typeOf ht.typeIs (wpAny_pure ?_)));rw [if_pos (by decide)];exact wpAny_bind (wpAny_rule (wpAny_pure (h1 c)))
 ·have hc:¬((items.isEmpty || ((k:Nat):Int) == 1)=true):=by
   rw [hne]; simp; omega
  rw [if_neg hc];have q:=h2 c
  by_cases z:k=0
  ·have hz:(decide (((k:Nat):Int)<=0) || items.isEmpty)=true:=by rw [z]; simp
   rw [if_pos hz];rw [z] at q;exact wpAny_bind (m:=Builtin.Tuple.tupleExact _) (wpAny_newObj_type (wpAny_pure q) (show 0<=sizeLine from Nat.zero_le _))
  ·have hz:¬((decide (((k:Nat):Int)<=0) || items.isEmpty)=true):=by
    rw [hne]; simp; omega
   rw [if_neg hz];have e0:((items.size:Int) * (k:Int))=((items.size * k:Nat):Int):=by simp
   have hs:(1000:Nat)<=sizeLine:=by decide
   have hm:¬((items.size:Int) * (k:Int) > (2 ^ 63 - 1) / 8):=by
    rw [e0];have:((2:Int) ^ 63 - 1) / 8=1152921504606846975:=by decide
    omega
   rw [if_neg hm];have ht2:¬(Builtin.Tuple.tupleTooMany ((items.size:Int) * (k:Int))=true):=by
    unfold Builtin.Tuple.tupleTooMany;rw [e0]; simp only [decide_eq_true_eq]; omega
   rw [if_neg ht2];have hf:List.foldl (fun x1 x2=>x1 ++ x2) #[] (List.replicate ((k:Nat):Int).toNat items)=(List.replicate k items.toList).flatten.toArray:=by
    have:=foldl_rep items.toList k [];rw [List.nil_append] at this;rw [Int.toNat_natCast];simpa using this
   rw [hf];exact wpAny_bind (m:=Builtin.Tuple.tupleExact _) (wpAny_newObj_type (wpAny_pure q) (by show _<=sizeLine; rw [List.size_toArray,len_rep,Array.length_toList,Nat.mul_comm]; omega))
end
noncomputable def qR (K:PySem.W.Frag):R2:=fun x y H Q=>∃a k xs,x=.ref a/\y=.int ((k:Nat):Int)/\SqT K H a xs/\xs≠[]/\xs.length * k<=1000/\(k=1->Q (.ref a) H)/\(k≠1->∀p,H p=none->Q (.ref p) (upd H p (.tup (List.replicate k xs).flatten)))
theorem Ml {X:Cx}:OpR X (binaryOp .Mult) (qR X.K):=by
 intro pins s σ H x y v u Q I rx ry h;obtain ⟨a,k,xs,rfl,rfl,hq,hne,hz,q1,q2⟩:=h
 cases rx
 obtain ⟨t,rfl⟩:=ry;obtain ⟨its,r,ht,hzz⟩:=I.tuple hq;have hl:=r.length;refine wpAny_binaryOp_repeat_ref (T:="tuple") (U:="int") (by decide) ht.typeIs (fun s'=>typeIs_int s' k t) Mg F.fills_int_mul F.slot_int_rmul Mh F.slot_int_index.lookup
  (Mi ht ⟨rfl,ht.typeIs,?_⟩)
 refine Mj ht ?_ (by rw [List.size_toArray,<- hl]; exact hz) (fun e=>⟨.ref a,H,I,rfl,q1 e⟩) fun e=>?_
 ·cases its with
  | nil=>exact (hne (List.eq_nil_of_length_eq_zero hl)).elim
  | cons b l=>simp
 ·have hb:(List.replicate k xs).flatten.length<=sizeLine:=by
   rw [len_rep,Nat.mul_comm]; exact Nat.le_trans hz (by decide)
  exact ⟨.ref s.heap.objs.size,_,I.laid (t':=s.toks) (o:=.tup (List.replicate k xs).flatten) (fun b ob q=>Heap.get?_push_of_some _ q) (Nat.le_refl _) ⟨hb,_,r.rep k,IsTup.new _ _⟩,rfl,q2 e _ (I.hok.fresh (Nat.le_refl _))⟩
theorem Reps.rep {K:PySem.W.Frag} {H:Hp} {ds:List D} {vs:List V} (h:Reps K H ds vs):∀k:Nat,Reps K H (List.replicate k ds).flatten (List.replicate k vs).flatten
 | 0=>Reps.nil
 | k + 1=>by
  rw [List.replicate_succ,List.replicate_succ,List.flatten_cons,List.flatten_cons];exact h.append (Reps.rep h k)
noncomputable def rT (ds:List D) (k:Int):Res D:=if ds.isEmpty=false/\0<=k/\ds.length * k.toNat<=1000 then .ok (.tup (List.replicate k.toNat ds).flatten) else .stuck
noncomputable def gj:D->D->Res D
 | .tup ds,.int k=>rT ds k
 | a,b=>fj a b
theorem vN (x y:D):aJ (gj x y):=by
 unfold gj
 split
 ·unfold rT; exact as' cH bT
 ·exact Ec _ _
theorem Mm {X:Cx} (E:Value->Shared->Prop):OpR (X.wish E) (binaryOp .Mult) (qR X.K):=Ml
theorem vO {X:Cx}:OpD X (binaryOp .Mult) gj:=by
 intro E pins s σ H x y v u a b d I r1 r2 p1 p2 e;unfold gj at e
 split at e
 ·rename_i ds k;unfold rT at e
  split at e
  ·rename_i c
   cases e
   obtain ⟨p,us,rfl,s1,t1⟩:=cO p1;have hy:=bY p2;subst hy;have hk:((k.toNat:Nat):Int)=k:=by omega
   refine cN (Mm E pins s σ H (.ref p) (.int k) v u (fun z H'=>Same H H'/\Rep X.K H' (.tup (List.replicate k.toNat ds).flatten) z) (I.wish _) r1 r2 ⟨p,k.toNat,us,rfl,by rw [hk],s1,?_,by rw [t1.length]; exact c.2.2,fun e1=>⟨Same.refl H,?_⟩,fun _ z hz=>⟨gb hz _,iJ (SqT.of bR) ((t1.rep _).mono (gb hz _))⟩⟩) fun w s2 ⟨z,H1,I1,r3,e1,p3⟩=>⟨_,z,H1,rfl,I1.unwish,r3,e1,p3⟩
   ·intro z; rw [z] at t1; have:=t1.isEmpty; rw [c.1] at this; cases this
   ·rw [e1,List.replicate_one,List.flatten_cons,List.flatten_nil,List.append_nil]; exact iJ s1 t1
  ·cases e
 ·exact Kg E pins s σ H x y v u a b d I r1 r2 p1 p2 e
noncomputable def intsOf:List D->Option (List Int)
 | []=>some []
 | .int i :: ds=>(intsOf ds).map (i :: ·)
 | _=>none
theorem zr:∀{ds:List D} {ns:List Int},intsOf ds=some ns->ds=ns.map .int
 | [],ns,h=>by cases h; rfl
 | d :: ds,ns,h=>by
  cases d <;> first | (simp [intsOf] at h; done) | skip
  rename_i i;simp only [intsOf] at h
  cases q:intsOf ds with
  | none=>rw [q] at h; cases h
  | some ms=>rw [q] at h; cases h; rw [zr q]; rfl
theorem Mp {f:Int->Bool} (ns:List Int):(List.range ns.length).any (fun i=>f (ns.getD i 0))=ns.any f:=by
 rw [Bool.eq_iff_iff];simp only [List.any_eq_true,List.mem_range]
 constructor
 ·rintro ⟨i,hi,h⟩
  refine ⟨ns[i],List.getElem_mem hi,?_⟩;simpa [hi] using h
 ·rintro ⟨b,hb,h⟩
  obtain ⟨i,hi,rfl⟩:=List.mem_iff_getElem.mp hb;exact ⟨i,hi,by simpa [hi] using h⟩
noncomputable def kY:List D->Res D
 | [.tup ds]=>match intsOf ds with | some ns=>.ok (.bl (ns.any (· != 0))) | none=>.stuck
 | x=>lV x
theorem hC' (ds:List D):aJ (kY ds):=by
 unfold kY
 split
 ·split
  ·exact cH
  ·exact bT
 ·exact K8 _
theorem Mq {K:PySem.W.Frag} {H:Hp} {ns:List Int} {xs:List V} {its:List Value} (r:Reps K H (ns.map .int) xs) (rv:Vals xs its) {i:Nat} {v:Value} (h:its[i]? = some v):∃t,v=.int (ns.getD i 0) t:=by
 have hl:i < xs.length:=by rw [rv.length]; exact (List.getElem?_eq_some_iff.mp h).1
 obtain ⟨d,e1,e2⟩:=r.get' (i:=i) (v:=xs[i]) (by simp [hl]);obtain ⟨u,e4,e5⟩:=rv.get (i:=i) (x:=xs[i]) (by simp [hl]);rw [h] at e4; cases e4;rw [List.getElem?_map] at e1
 cases q:ns[i]? with
 | none=>rw [q] at e1; cases e1
 | some n =>
  rw [q] at e1
  cases e1
  rw [bY e2] at e5;obtain ⟨t,rfl⟩:=e5;exact ⟨t,by rw [List.getD_eq_getElem?_getD,q]; rfl⟩
theorem hD' {X:Cx} (hcalm:X.calm=true):CallD X (.builtin "any") kY:=by
 intro E pins s σ H xs us ds d I r p e;unfold kY at e
 split at e
 ·rename_i es
  split at e
  ·rename_i ns hb
   cases e
   obtain ⟨v,vs,rfl,p1,t⟩:=p.cons_of
   cases t.nil_of
   obtain ⟨u,rfl,rx⟩:=vals1 r;obtain ⟨a,ys,rfl,hq,rs⟩:=cO p1
   cases rx
   obtain ⟨its,rv,pl,hz⟩:=I.tuple hq;rw [zr hb] at rs;refine call_any_walk (wpAny_pyIter_tuple (show s.heap.IsTuple a its.toArray from pl) ?_)
   obtain ⟨o,g,oc⟩:=id pl;have hax:a≠s.heap.objs.size:=Nat.ne_of_lt (Heap.lt_size g);have hn:its.toArray.size=ns.length:=by rw [List.size_toArray,<- rv.length,rs.length,List.length_map]
   refine ⟨_,_,_,_,_,_,fun i=>(ns.getD i 0) != 0,rfl,Walks.tuple (A:=X.A.in1) (show X.A.in1.handled=none from I.ok.hd hcalm) s.heap.objs.size a hax its.toArray,⟨⟨_,Heap.get?_push_size _ rfl,rfl,rfl⟩,⟨o,Heap.get?_push_of_some _ g,oc⟩⟩,fun i v s' Q E' hP hQ=>?_,fun h' tk hk=>?_⟩
   ·obtain ⟨t,rfl⟩:=Mq rs rv (i:=i) (v:=v) (by simpa using hP);exact truthy_int hQ
   ·rw [hn,Mp (f:=fun x=>x != 0)];have k:∀b o,s.heap.get? b=some o->h'.get? b=some o:=fun b o e=>hk b o (by
     intro z;have:b=s.heap.objs.size:=by simpa using z
     exact absurd (Heap.lt_size e) (by rw [this]; exact Nat.lt_irrefl _)) (Heap.get?_push_of_some _ e)
    exact ⟨_,.bl _,H,rfl,I.kept (t':=tk) k,rfl,Same.refl H,km⟩
  ·cases e
 ·exact K9 hcalm E pins s σ H xs us ds d I r p e
theorem vP {X:Cx} {x:Str} {pos:Pos} {v:Int} (hg:Gl X x) (hm:∃t:Tok,X.mg x=some (.int v t)) (hdb:(x == ("__debug__" : Str))=false:=by decide):PD X (.Name x pos) (fun _=>.ok (.int v)):=by
 obtain ⟨t,h⟩:=hm;exact Ar (v:=.int v) hg h ⟨t,rfl⟩ (fun _=>iw) hdb
theorem hE' {X:Cx} {x:Str} {pos:Pos} {v:Str} (hg:Gl X x) (hm:∃t:Tok,X.mg x=some (.str v t)) (hdb:(x == ("__debug__" : Str))=false:=by decide):PD X (.Name x pos) (fun _=>.ok (.str v)):=by
 obtain ⟨t,h⟩:=hm;exact Ar (v:=.str v) hg h ⟨t,rfl⟩ (fun _=>rH) hdb
section
variable {X:Cx}
end
structure FunV (K:PySem.W.Frag) (x qual:Str) (st:Stmt) (f:Addr) (fd:FuncData):Prop where
 ex:∃(oc:Value) (od:Option Addr) (dV kV doc pm:Value) (an:Option Addr) (cdv ct:Value) (osl:Array (Option Value)),
  fd=PySem.W.fnOf x qual (aX st) (aD st) (ao st) dV kV doc pm an cdv ct/\K.lookup f=some ⟨oc,od,.func fd,osl⟩/\PySem.W.codeIn K cdv qual=true
 kp:PySem.W.keepIn K (.ref f)=true
section
variable {P:Program} {w:World} {K:PySem.W.Frag} {mg:Str->Option Value} {base:Heap}
theorem FunV.binds {x qual:Str} {st:Stmt} {f:Addr} {fd:FuncData} {ps:List Str} (F:FunV K x qual st f fd)
  (h:∀(dV kV doc pm:Value) (an:Option Addr) (cdv ct:Value) (us:List Value),us.length=ps.length->bindArgs (PySem.W.fnOf x qual (aX st) (aD st) (ao st) dV kV doc pm an cdv ct) ⟨us,[]⟩=pure (ps.zip us)):Binds K fd ps []:=by
 obtain ⟨oc,od,dV,kV,doc,pm,an,cdv,ct,osl,rfl,lk,hcd⟩:=F.ex;exact .all (h dV kV doc pm an cdv ct)
end
noncomputable def Fy (K:PySem.W.Frag) (l:Addr):It :=
  ⟨fun i H=>∃xs v,SqL K H l xs/\xs[i]? = some v,
   fun i H x H'=>∃T,H T=none/\x=.ref T/\∃v,(∀xs,SqL K H l xs->xs[i]? = some v)/\H'=upd H T (.tup [.int (i:Int),v]),
   fun i H=>∃xs,SqL K H l xs/\xs.length<=i⟩
theorem hF' {P:Program} {w:World} {K:PySem.W.Frag} {elts:List Expr} {x1:Nat} {pos:Pos} {e it l:Addr} (hei:e≠it) :
  Turn P w K (.Tuple elts x1 pos) (Fy K l) [e,it] e (fun i h=>(∃old,IsEnum h e it ((i:Nat):Int) old)/\h.IsListIter it l i) where
 mem:=by simp
 obj:=fun i h st b hb=>by
  obtain ⟨⟨old,g1⟩,⟨o,g2,_,d2⟩⟩:=st;simp only [List.mem_cons,List.not_mem_nil,or_false] at hb;rcases hb with rfl | rfl
  ·exact ⟨_,g1,fun v q=>by cases q⟩
  ·exact ⟨_,g2,fun v q=>by rw [d2] at q; cases q⟩
 keep:=fun i h h' st k=>by
  obtain ⟨⟨old,g1⟩,⟨o,g2,r2⟩⟩:=st;exact ⟨⟨old,k e (by simp) _ g1⟩,⟨o,k it (by simp) _ g2,r2⟩⟩
 item:=by
  intro X hP hw hK hc i pins s σ H E I hf st hg;subst hP hw hK;obtain ⟨xs,v,hq,hx⟩:=hg;obtain ⟨its,rv,p,hz⟩:=I.list hq;obtain ⟨u,hu,ru⟩:=rv.get hx;obtain ⟨⟨old,g1⟩,g2⟩:=st;refine wpAny_pyNext_enum_item g1 g2 p.isList (x:=u) (by simpa using hu) hei fun h' eo it' gT sz kk=>?_;refine ⟨_,rfl,wpAny_letOwnedTupleGo_enum eo fun h'' ge'' sb=>?_⟩;have fT:fK X pins H s.heap.objs.size:=I.fpOk (Nat.le_refl _) (I.hok.fresh (Nat.le_refl _));have el:e < s.heap.objs.size:=Heap.lt_size g1;obtain ⟨oi,gi,ri⟩:=id g2;have il:it < s.heap.objs.size:=Heap.lt_size gi;have ze:s.heap.objs.size≠e:=Nat.ne_of_gt el;have kk2:∀b o,b∉[e,it]->s.heap.get? b=some o->h''.get? b=some o:=fun b o n q=>by
   simp only [List.mem_cons,List.not_mem_nil,or_false,not_or] at n;exact (sb.2 b n.1).trans (kk b o n.1 n.2 q)
  have I1:Inv X pins σ H { s with heap:=h'',toks:=s.toks + 1 }:=I.butL (t':=s.toks + 1) hf kk2
  have gT2:h''.get? s.heap.objs.size=some { cls:=Value.type "tuple",data:=Data.seq #[.int i s.toks,u] }:=(sb.2 _ ze).trans gT;obtain ⟨f0,f1,f2,f3,f4,f5⟩:=fT;have I2:Inv X pins σ (upd H s.heap.objs.size (.tup [.int (i:Int),v])) { s with heap:=h'',toks:=s.toks + 1 }:=I1.track f0 (fun ob q _=>absurd (Nat.lt_of_lt_of_le (Heap.lt_size q) I.sz) (Nat.lt_irrefl _)) f1 f4 f5
   ⟨show 2<=sizeLine by decide,[.int i s.toks,u],.cons ⟨_,rfl⟩ (.cons ru .nil),⟨_,gT2,rfl,_,rfl⟩⟩
  refine ⟨.ref s.heap.objs.size,_,I2,rfl,⟨_,f0,rfl,v,fun xs' h=>by rw [I.list_inj h hq]; exact hx,rfl⟩,⟨⟨u,?_⟩,?_⟩,fun b hb=>?_⟩
  ·have:(((i + 1:Nat)):Int)=(i:Int) + 1:=by omega
   rw [this]; exact ge''
  ·obtain ⟨o',g',r'⟩:=it';exact ⟨o',(sb.2 _ (Ne.symm hei)).trans g',r'⟩
  ·have hb2:b≠s.heap.objs.size:=fun q=>by
    simp only [List.mem_cons,List.not_mem_nil,or_false] at hb;rcases hb with rfl | rfl
    ·rw [q] at el; exact Nat.lt_irrefl _ el
    ·rw [q] at il; exact Nat.lt_irrefl _ il
   rw [aL hb2]; exact (hf b hb).1
 done:=by
  intro X hP hw hK hc i pins s σ H E I hf st hg;subst hP hw hK;obtain ⟨xs,hq,hx⟩:=hg;obtain ⟨its,rv,p,hz⟩:=I.list hq;have l1:=rv.length;obtain ⟨⟨old,g1⟩,g2⟩:=st;refine wpAny_pyNext_enum_end (I.ok.hd hc) g1 g2 p.isList (by simp; omega) fun h' kk=>⟨rfl,I.butL (t':=s.toks) hf fun b o n q=>kk b o (fun z=>n (by simp [z])) q⟩
 self:=fun _ _ _ _ _ st h=>by
  obtain ⟨⟨old,g1⟩,_⟩:=st;exact wpAny_pyIter_enum g1 h
noncomputable def fX (xs:List D):List D:=xs.zipIdx.map fun p=>D.tup [.int ((p.2:Nat):Int),p.1]
theorem hG' (xs:List D) (i:Nat):(fX xs)[i]? = xs[i]?.map fun x=>D.tup [.int ((i:Nat):Int),x]:=by
 unfold fX;rw [List.getElem?_map,List.getElem?_zipIdx]
 cases xs[i]? <;> simp
noncomputable def iz:List D->Res (List D)
 | [.lst xs]=>.ok (fX xs)
 | _=>.stuck
theorem Mr {K:PySem.W.Frag} {H:Hp} {l:Addr} {xs:List V} {ds:List D} (h1:SqL K H l xs) (r1:Reps K H ds xs):cT K (Fy K l) H (fX ds):=by
 intro H' e;have q1:=e.seq h1;have p1:=r1.mono e;refine ⟨fun i d hd=>?_,xs,q1,?_⟩
 ·rw [hG'] at hd
  cases z1:ds[i]? with
  | none=>rw [z1] at hd; simp at hd
  | some x =>
   rw [z1] at hd;simp only [Option.map_some,Option.some.injEq] at hd;subst hd;obtain ⟨v,e1,s1⟩:=p1.get z1;refine ⟨⟨xs,v,q1,e1⟩,fun a H'' yl=>?_⟩;obtain ⟨T,hT,rfl,v',k1,rfl⟩:=yl;have w1:=k1 xs q1;rw [e1] at w1
   cases w1
   have sm:=gb hT (.tup [.int (i:Int),v]);exact ⟨sm,iJ (SqT.of bR) (.cons iw (.cons (s1.mono sm) .nil))⟩
 ·unfold fX;rw [List.length_map,List.length_zipIdx,r1.length];exact Nat.le_refl _
theorem Ms {X:Cx} {a:Expr} {fa:DS->Res (List D)} {p pos tp:Pos} {elts:List Expr} {x1:Nat} (hg:Gl X "enumerate") (hm:X.mg "enumerate" = none) (ha:PAD X [a] fa) (hs:starEach [a] X.env=[(false,eval a X.env)]:=by rfl) :
  PID X (.Tuple elts x1 tp) (.Call (.Name "enumerate" p) [a] [] pos) (fun δ=>(fa δ).bind iz):=by
 intro pins s σ G H δ I R hn
 try dsimp only at hn ⊢
 refine Call_ (oN I hg hm boot_enumerate (PyProof.Rows.callWith_type1 (ha.use I R (dF hn) (fun ds us s1 vs H1 q I1 r1 e1 b1 p1=>?_) fun e s1 q=>q.same fun x z=>dU z) (by rw [hs]; rfl) rfl));have h2:=dX hn q;unfold iz at h2
 split at h2
 ·rename_i ds1;obtain ⟨v,ws,rfl,w1,w2⟩:=p1.cons_of
  cases w2.nil_of
  obtain ⟨t1,xs,rfl,s1',t1'⟩:=cP w1
  cases r1 with
  | cons ra rr =>
   cases rr
   cases ra
   obtain ⟨its1,rv1,pp1,hz1⟩:=I1.list s1';refine call_enumerate_list pp1.isList fun h' Z Zi sz kk=>?_;have I2:Inv X pins σ H1 { s1 with heap:=h' }:=I1.kept (t':=s1.toks) kk
   refine wpAny_pyIter_enum Z ?_;refine ⟨_,s1.heap.objs.size + 1,[s1.heap.objs.size + 1,s1.heap.objs.size],_,_,H1,by rw [q]; rfl,rfl,I2,hF' (Nat.succ_ne_self _),⟨⟨.none,Z⟩,Zi⟩,fun b hb=>?_,e1,Mr s1' t1'⟩;have ge:s1.heap.objs.size<=b:=by
    simp only [List.mem_cons,List.not_mem_nil,or_false] at hb;rcases hb with rfl | rfl
    ·exact Nat.le_succ _
    ·exact Nat.le_refl _
   exact I1.fpOk ge (I1.hok.fresh ge)
 ·exact (h2 rfl).elim
section
variable {X:Cx} {m:Nat} {fr:List Nat} {N':List Str} {scope:Scope} {cl:List (Str×Addr)} {tg iter elt:Expr} {pos:Pos} {t:cX} {fe:DS->Res D} {fi:DS->Res (List D)}
end
section
variable {X:Cx} {e ix:Expr} {fe fi:DS->Res D} {x:Str} {pos np sp:Pos}
end
noncomputable def gG:D->D->Res D
 | .int i,.tup ds=>(match intsOf ds with | some ns=>.ok (.bl (!ns.contains i)) | none=>.stuck)
 | .int i,.lst ds=>(match intsOf ds with | some ns=>.ok (.bl (!ns.contains i)) | none=>.stuck)
 | _,_=>.stuck
theorem Mt (x y:D):aJ (gG x y):=by
 unfold gG
 split
 ·split
  ·exact cH
  ·exact bT
 ·split
  ·exact cH
  ·exact bT
 ·exact bT
theorem BR {K:PySem.W.Frag} {H:Hp}:∀{ns:List Int} {xs:List V},Reps K H (ns.map .int) xs->xs=ns.map V.int
 | [],_,h=>h.nil_of
 | n :: ns,_,h=>by
  obtain ⟨v,vs,rfl,p,t⟩:=h.cons_of;rw [bY p,BR t]; rfl
theorem Fz (i:Int) (ns:List Int):inV (.int i) (ns.map V.int)=ns.contains i:=by
 unfold inV
 induction ns with
 | nil=>rfl
 | cons n ns ih =>
  rw [List.map_cons,List.any_cons,ih,List.contains_cons]
  congr 1
  show (n == i)=(i == n);exact Bool.eq_iff_iff.mpr ⟨fun h=>beq_iff_eq.mpr (beq_iff_eq.mp h).symm,fun h=>beq_iff_eq.mpr (beq_iff_eq.mp h).symm⟩
theorem eq' (ns:List Int):(ns.map V.int).all eE=true:=by
 induction ns with
 | nil=>rfl
 | cons n ns ih=>rw [List.map_cons,List.all_cons,ih]; rfl
section
variable {X:Cx}
theorem Mu:OpD X (compareOp .NotIn) gG:=OpD.of (r:=Ak X.K true) (fun E=>DG (X:=X.wish E)) fun H x y a b d Q p1 p2 e q=>by
 unfold gG at e
 split at e
 ·rename_i i ds
  split at e
  ·rename_i ns hn
   cases e
   have:=zr hn;subst this;obtain ⟨t,xs,rfl,hq,r⟩:=cO p2;have:=BR r;subst this;rw [bY p1];refine ⟨t,_,rfl,.inr hq,rfl,eq' ns,?_⟩;rw [if_pos rfl,Fz];exact q _ H (Same.refl H) km
  ·cases e
 ·rename_i i ds
  split at e
  ·rename_i ns hn
   cases e
   have:=zr hn;subst this;obtain ⟨t,xs,rfl,hq,r⟩:=cP p2;have:=BR r;subst this;rw [bY p1];refine ⟨t,_,rfl,.inl hq,rfl,eq' ns,?_⟩;rw [if_pos rfl,Fz];exact q _ H (Same.refl H) km
  ·cases e
 ·cases e
end
section
variable {X:Cx} {a b:Expr} {fa fb:DS->Res D} {x:Str} {pos pos' bp:Pos}
end
noncomputable def oU:D->D->Res D
 | .str x,.str y=>.ok (.bl (!(Builtin.Str.occurrences y x 0 y.length 1).isEmpty))
 | x,.lst ds=>if eZ 8 x=true/\eZ 8 (.lst ds)=true then .ok (.bl ((gh ds).any fun y=>PyData.eqv y (gA x))) else .stuck
 | x,.tup ds=>if eZ 8 x=true/\eZ 8 (.tup ds)=true then .ok (.bl ((gh ds).any fun y=>PyData.eqv y (gA x))) else .stuck
 | _,_=>.stuck
theorem FJ (x y:D):aJ (oU x y):=by
 unfold oU
 split
 ·exact cH
 ·exact as' cH bT
 ·exact as' cH bT
 ·exact bT
theorem FN {X:Cx} (hu:X.A.units + 64 < cLine):OpD X (compareOp .In) oU:=by
 intro E pins s σ H x y v u a b d I r1 r2 p1 p2 e;unfold oU at e
 split at e
 ·exact Lh E pins s σ H x y v u _ _ d I r1 r2 p1 p2 e
 ·split at e
  ·rename_i c
   cases e
   obtain ⟨as,ra⟩:=pL I 8 c.1 p1 r1;obtain ⟨bs,rb⟩:=pL I 8 c.2 p2 r2;have l1:=vG 8 _ c.1;have l2:=vG 8 _ c.2;refine PySem.SeqAt.in_list_reads rb ra l2.1 l1.1 ?_ ⟨_,.bl _,H,rfl,I,rfl,Same.refl H,km⟩;exact Nat.lt_of_le_of_lt (Nat.add_le_add_left (Nat.le_trans (Nat.min_le_right _ _) l1.2) _) (by omega)
  ·cases e
 ·split at e
  ·rename_i c
   cases e
   obtain ⟨as,ra⟩:=pL I 8 c.1 p1 r1;obtain ⟨bs,rb⟩:=pL I 8 c.2 p2 r2;have l1:=vG 8 _ c.1;have l2:=vG 8 _ c.2;refine PySem.SeqAt.in_tuple_reads rb ra l2.1 l1.1 ?_ ⟨_,.bl _,H,rfl,I,rfl,Same.refl H,km⟩;exact Nat.lt_of_le_of_lt (Nat.add_le_add_left (Nat.le_trans (Nat.min_le_right _ _) l1.2) _) (by omega)
  ·cases e
 ·cases e
noncomputable def rW (n:Nat) (lo hi:Option Int) (k:Nat):List Nat :=
 (List.range ((HT.sIx n n hi - HT.sIx n 0 lo + (k - 1)) / k)).map fun j=>HT.sIx n 0 lo + j * k
noncomputable def vQ {α:Type} (xs:List α) (lo hi:Option Int) (k:Nat):List α:=(rW xs.length lo hi k).filterMap (xs[·]?)
noncomputable def stepD (d:D) (lo hi st:Option Int):Res D:=match d,st with
 | .lst ds,some k=>if 1<=k then .ok (.lst (vQ ds lo hi k.toNat)) else .stuck
 | _,_=>.stuck
section
variable {X:Cx} {e:Expr} {fe:DS->Res D} {lo hi:Option Expr} {st:Expr} {fl fu fs:DS->Res (Option Int)} {pos p2:Pos}
end
section
variable {X:Cx} {tg:Expr}
end
section
variable {X:Cx} {tg:Expr} {t:cX} {body:List Stmt} {fb:DS->Out} {pos:Pos} {G H:Hp} {E:Ends}
end
noncomputable def jg (c:Str):D->Res D
 | .str x=>if (reprText x).length<=sizeLine/\((Str.empty ++ c) ++ reprText x).length<=sizeLine then .ok (.str ((Str.empty ++ c) ++ reprText x)) else .stuck
 | _=>.stuck
noncomputable def gH (c:Str) (f:DS->Res D):DS->Res D:=fun δ=>(f δ).bind (jg c)
theorem hH' {X:Cx} {e:Expr} {f:DS->Res D} {c:Str} {j} {p1 p2 pos:Pos} (he:PD X e f) (hz:(Str.empty ++ c).length<=sizeLine:=by decide +kernel):PD X (.JoinedStr [.Constant (.str c) j p1,.FormattedValue e 114 none p2] pos) (gH c f):=by
 intro pins s σ G H δ I R hs;unfold gH at hs ⊢;refine wpAny_JoinedStr ?_;refine (eY (X:=X) (x:=c) (j:=j) (pos:=p1)).use I R (by intro z; cases z) (fun d u s1 v H1 q I1 r1 e1 b1 q1=>?_) fun e s1 q=>q.none.elim
 cases q
 rw [cI q1] at r1;obtain ⟨t,rfl⟩:=r1;refine ⟨c,t,rfl,hz,?_⟩;refine wpAny_FormattedValue_repr (he.use I1 (R.mono e1) (dF hs) (fun d u s2 v H2 q I2 r2 e2 b2 q2=>?_) fun e s2 p=>p.back e1 b1 fun x z=>dU z);have h2:=dX hs q;unfold jg at h2
 split at h2
 ·rename_i x;rw [cI q2] at r2;obtain ⟨t2,rfl⟩:=r2
  split at h2
  ·rename_i hl;refine wpAny_pyReprObj_gives (T:="str") (typeIs_str _ _ _) PySem.F.slot_str_repr PySem.F.entry_str_repr (PySem.F.args_str_repr_1 _) (gives_str_repr x t2) ?_ rfl hl.1;have fin:∀(t3:Tok) (tk:Nat),Joins (model X.prog X.w) X.A (XPost X pins σ H s.heap ((f δ).bind (jg c))) [] ((Str.empty ++ c) ++ reprText x) (fun out s₁=>out.length<=sizeLine/\EPost X pins σ H ((f δ).bind (jg c)) (.str out s₁.toks) { s₁ with toks:=s₁.toks + 1 }) { s2 with toks:=tk }:=fun t3 tk=>by
    refine ⟨hl.2,.str _,.str _,H2,?_,(I2.tok _).tok _,⟨_,rfl⟩,e1.trans e2,je⟩;rw [q,Res.bind_ok];exact if_pos hl
   exact wpAny_formatField_str (hx:=hl.1) ⟨_,_,rfl,hl.2,fin 0 _⟩ ⟨_,_,rfl,hl.2,fin 0 _⟩
  ·exact (h2 rfl).elim
 ·exact (h2 rfl).elim
noncomputable def kZ:D->D->Res D
 | .str x,.int k=>if 2<=k/\k<=1000/\1<=x.length/\x.length<=1000 then .ok (.str ⟨(List.replicate k.toNat x.cps).foldl (· ++ ·) #[]⟩) else .stuck
 | a,b=>gj a b
theorem hI' (x y:D):aJ (kZ x y):=by
 unfold kZ
 split
 ·exact as' cH bT
 ·exact vN _ _
theorem hJ' (x:Array Nat):∀(k:Nat) (a:Array Nat),((List.replicate k x).foldl (· ++ ·) a).size=a.size + k * x.size
 | 0,a=>by simp
 | k + 1,a=>by
  rw [List.replicate_succ,List.foldl_cons,hJ' x k,Array.size_append,Nat.succ_mul]; omega
theorem hK' {X:Cx}:OpD X (binaryOp .Mult) kZ:=by
 intro E pins s σ H x y v u a b d I r1 r2 p1 p2 e;unfold kZ at e
 split at e
 ·rename_i z k
  split at e
  ·rename_i c
   cases e
   rw [cI p1] at r1;obtain ⟨t,rfl⟩:=r1;rw [bY p2] at r2;obtain ⟨t2,rfl⟩:=r2;have hz:z.length * k.toNat<=1000000:=Nat.mul_le_mul c.2.2.2 (show k.toNat<=1000 by omega);refine PySem.P.mul_str ?_ (fun _ _=>?_) (fun _ _=>?_) ?_
   ·rw [decide_eq_false (by omega),decide_eq_false (by omega)]; rfl
   ·have h1:(z.length:Int) * k<=1000 * 1000:=Int.mul_le_mul (by omega) (by omega) (by omega) (by decide);have h2:(z.length:Int)<=(2 ^ 63 - 1) / k:=Int.le_ediv_of_mul_le (by omega) (by omega);omega
   ·exact decide_eq_false (Nat.not_lt.mpr (Nat.le_trans hz (by decide)))
   ·have n1:(k == 1 || z.length == 0)=false:=by
     have a1:(k == 1)=false:=beq_eq_false_iff_ne.mpr (by omega);have a2:(z.length == 0)=false:=beq_eq_false_iff_ne.mpr (by omega);rw [a1,a2]; rfl
    rw [if_neg (by omega),n1];refine ⟨?_,.str _,.str _,H,rfl,I.tok _,⟨_,rfl⟩,Same.refl H,je⟩;show ((List.replicate k.toNat z.cps).foldl (· ++ ·) #[]).size<=sizeLine;rw [hJ'];have:k.toNat * z.cps.size=z.length * k.toNat:=Nat.mul_comm ..;rw [this];exact Nat.le_trans (by simpa using hz) (by decide)
  ·cases e
 ·exact vO E pins s σ H x y v u _ _ d I r1 r2 p1 p2 e
section
variable {X:Cx} {e:Expr} {fe:DS->Res D} {lo hi:Option Expr} {st:Expr} {fl fu fs:DS->Res (Option Int)} {pos p2:Pos}
end
section
variable {X:Cx} {tg iter:Expr} {body:List Stmt} {t:cX} {fb:DS->Out} {pos:Pos}
end
theorem aZ {X:Cx} {x:Str} {j} {pos:Pos} {es:List Expr} {fs:DS->Res (List D)} (h:PAD X es fs):PAD X (.Constant (.str x) j pos :: es) (aa (fun _=>.ok (.str x)) fs):=az eY h
section
variable {X:Cx} {e:Expr} {es:List Expr} {fs:DS->Res (List D)} {F:List D->Res D} {k:Nat} {f:Addr} {fd:FuncData} {ps:List Str} {x:Str} {p pos:Pos}
end
noncomputable def bx (P:Program) (w:World) (K:PySem.W.Frag) (mg:Str->Option Value) (base:Heap) (k:Nat) (x:Str) (F:List D->Res D):Prop :=
 ∃(f:Addr) (fd:FuncData) (ps:List Str),FnOk P w K mg base (cA P w) k f fd ps (jU K F)/\mg x=some (.ref f)/\PySem.W.keepIn K (.ref f)=true/\Binds K fd ps []
noncomputable def Ent (K:PySem.W.Frag) (mg:Str->Option Value) (x:Str) (st:Stmt) (ps:List Str):Prop :=
 ∃(f:Addr) (fd:FuncData),mg x=some (.ref f)/\Fun K x x st f fd/\Binds K fd ps []
noncomputable def Lk (K:PySem.W.Frag) (x:Str) (st:Stmt):Prop :=
 ∃(f:Addr) (fd:FuncData),PySem.W.nsIn K mainGlobals x=some (some (.ref f))/\Fun K x x st f fd
section
variable {K:PySem.W.Frag} {x:Str} {st:Stmt}
theorem lk_mk {f:Addr} {oc:Value} {od an:Option Addr} {osl:Array (Option Value)} {kV doc pm cdv ct:Value} (n:PySem.W.nsIn K mainGlobals x=some (some (.ref f))) (l:K.lookup f=some ⟨oc,od,.func (PySem.W.fnOf x x (aX st) (aD st) (ao st) .none kV doc pm an cdv ct),osl⟩)
  (c:PySem.W.codeIn K cdv x=true) (k:PySem.W.keepIn K (.ref f)=true):Lk K x st:=⟨f,_,n,An l c k⟩
variable {h:Heap} {mg:Str->Option Value}
theorem dh (X:K.In h) (G:h.Ns mainGlobals mg) (L:Lk K x st) {p:Str} (hb:∀(kV doc pm:Value) (an:Option Addr) (cdv ct a:Value),bindArgs (PySem.W.fnOf x x (aX st) (aD st) (ao st) .none kV doc pm an cdv ct) ⟨[a],[]⟩=pure [(p,a)]:=by intros; rfl):Ent K mg x st [p]:=by
 obtain ⟨f,fd,n,F⟩:=L;exact ⟨f,fd,PySem.W.mg_of X G n,F,F.binds fun _ _ _ _ _ _ us hl=>match us,hl with | [_],_=>hb _ _ _ _ _ _ _⟩
theorem k_ (X:K.In h) (G:h.Ns mainGlobals mg) (L:Lk K x st) {p q:Str} (hb:∀(kV doc pm:Value) (an:Option Addr) (cdv ct a b:Value),bindArgs (PySem.W.fnOf x x (aX st) (aD st) (ao st) .none kV doc pm an cdv ct) ⟨[a,b],[]⟩=pure [(p,a),(q,b)]:=by intros; rfl):Ent K mg x st [p,q]:=by
 obtain ⟨f,fd,n,F⟩:=L;exact ⟨f,fd,PySem.W.mg_of X G n,F,F.binds fun _ _ _ _ _ _ us hl=>match us,hl with | [_,_],_=>hb _ _ _ _ _ _ _ _⟩
theorem vR (X:K.In h) (G:h.Ns mainGlobals mg) (L:Lk K x st) {p q r:Str} (hb:∀(kV doc pm:Value) (an:Option Addr) (cdv ct a b c:Value),bindArgs (PySem.W.fnOf x x (aX st) (aD st) (ao st) .none kV doc pm an cdv ct) ⟨[a,b,c],[]⟩=pure [(p,a),(q,b),(r,c)]:=by intros; rfl):Ent K mg x st [p,q,r]:=by
 obtain ⟨f,fd,n,F⟩:=L;exact ⟨f,fd,PySem.W.mg_of X G n,F,F.binds fun _ _ _ _ _ _ us hl=>match us,hl with | [_,_,_],_=>hb _ _ _ _ _ _ _ _ _⟩
variable (P:Program) (w:World) (base:Heap)
theorem fJ {N ps:List Str} (k:Nat) (body:DS->Out) (F:Ent K mg x st ps) (S:FnScope N ps (ao st))
  (hb:∀(f:Addr) (cdv:Value) (A:Around) (outer:List Env) (s:Shared) (H:Hp) (E:XK),Room k (A.deeper (envOfC x (ao st) s.heap.objs.size f cdv))->PSDs (bN (cA P w) P w K mg base N x (ao st) f cdv A outer s H E) (aD st) body) :
  bx P w K mg base (k + 1) x (bJ ps.length N.length body):=by
 obtain ⟨f,fd,m,F,B⟩:=F;exact ⟨f,fd,ps,Bm F S (hb f),m,F.kp,B⟩
end
theorem cl {X:Cx} {j k:Nat} {F:List D->Res D} {x:Str} {p pos:Pos} {e:Expr} {es:List Expr} {fs:DS->Res (List D)} (Fn:bx X.prog X.w X.K X.mg X.base j x F) (hr:Room k X.A) (ha:PAD X (e :: es) fs)
  (hj:j<=k:=by first | decide | omega) (hg:Gl X x:=by exact rfl) (hdb:(x == ("__debug__" : Str))=false:=by decide) (he:starEach (e :: es) X.env=(false,eval e X.env) :: starEach es X.env:=by rfl) (hpl:(backTo pos (starEach es X.env)).any (·.1)=false:=by rfl) :
  PD X (.Call (.Name x p) (e :: es) [] pos) (fun δ=>(fs δ).bind F):=by
 obtain ⟨f,fd,ps,a,b,c,d⟩:=Fn;exact kw' (a.mono hj) hr hg b c d ha hdb he hpl
section
variable {X:Cx}
end
theorem Mv {X:Cx} {pos:Pos}:PD X (.Dict [] [] pos) (fun _=>.ok .dct):=by
 intro pins s σ G H δ I R hs;refine wpAny_Dict_empty ?_;have hf:H s.heap.objs.size=none:=I.hok.fresh (Nat.le_refl _);refine ⟨_,.ref s.heap.objs.size,upd H s.heap.objs.size (.ext (PySem.W.KitAt s.heap.objs.size "dict")),rfl,I.laid (t':=s.toks) (fun b u e=>Heap.get?_push_of_some _ e) (Nat.le_refl _) ?_,rfl,gb hf _,by rw [Rep]; exact ⟨_,rfl,bR⟩⟩;have g:=Heap.get?_push_size s.heap (o:={ cls:=.type "dict",data:=.dict #[] }) rfl;exact ⟨⟨_,g,rfl⟩,⟨_,g⟩,fun h1 h2 ⟨o,a,b⟩ k=>⟨o,k o a,b⟩⟩
mutual
noncomputable def gJ (n:Nat):D->Bool
 | .tup ds=>gK n ds
 | .lst ds=>(ds.length != n) && gK n ds
 | .excf _ _ _=>false
 | .obj _ _ _=>false
 | .dic _ _=>false
 | _=>true
noncomputable def gK (n:Nat):List D->Bool
 | []=>true
 | d :: ds=>gJ n d && gK n ds
end
mutual
theorem Rep.lsetN {K:PySem.W.Frag} {H:Hp} {a:Addr} {xs ys:List V} {n:Nat} (hH:H a=some (.lst xs)) (hn:xs.length=n):∀{d:D} {v:V},gJ n d=true->Rep K H d v->Rep K (upd H a (.lst ys)) d v
 | .non,v,_,h=>by rw [Rep] at h ⊢; exact h
 | .bl _,v,_,h=>by rw [Rep] at h ⊢; exact h
 | .int _,v,_,h=>by rw [Rep] at h ⊢; exact h
 | .adr _,v,_,h=>by rw [Rep] at h ⊢; exact h
 | .str _,v,_,h=>by rw [Rep] at h ⊢; exact h
 | .lst ds,v,hf,h=>by
  obtain ⟨b,zs,rfl,hq,r⟩:=cP h;rw [gJ,Bool.and_eq_true,bne_iff_ne] at hf;refine jT ?_ (Reps.lsetN hH hn hf.2 r);rcases hq with (hq | ⟨o,hq⟩) | hq
  ·refine .inl (.inl ?_);rw [aL (fun z=>by subst z; rw [hH] at hq; cases hq; exact hf.1 (r.length.symm.trans hn))]; exact hq
  ·exact .inl (.inr ⟨o,by rw [aL (fun z=>by subst z; rw [hH] at hq; cases hq)]; exact hq⟩)
  ·exact .inr hq
 | .tup ds,v,hf,h=>by
  obtain ⟨b,zs,rfl,hq,r⟩:=cO h;rw [gJ] at hf;refine iJ ?_ (Reps.lsetN hH hn hf r);rcases hq with (hq | ⟨o,hq⟩) | hq
  ·exact .inl (.inl (by rw [aL (fun z=>by subst z; rw [hH] at hq; cases hq)]; exact hq))
  ·exact .inl (.inr ⟨o,by rw [aL (fun z=>by subst z; rw [hH] at hq; cases hq)]; exact hq⟩)
  ·exact .inr hq
 | .exc n,v,_,h=>by
  rw [Rep] at h ⊢;obtain ⟨b,C,rfl,hC,hb⟩:=h;exact ⟨b,C,rfl,hC,by rw [aL (fun z=>by subst z; rw [hH] at hb; cases hb)]; exact hb⟩
 | .excf n f d,v,hf,h=>by rw [gJ] at hf; cases hf
 | .obj n f d,v,hf,h=>by rw [gJ] at hf; cases hf
 | .dic n d,v,hf,h=>by rw [gJ] at hf; cases hf
 | .dct,v,_,h=>by
  rw [Rep] at h ⊢;obtain ⟨b,rfl,hb⟩:=h;exact ⟨b,rfl,by rw [aL (fun z=>by subst z; rw [hH] at hb; cases hb)]; exact hb⟩
theorem Reps.lsetN {K:PySem.W.Frag} {H:Hp} {a:Addr} {xs ys:List V} {n:Nat} (hH:H a=some (.lst xs)) (hn:xs.length=n):∀{ds:List D} {vs:List V},gK n ds=true->Reps K H ds vs->Reps K (upd H a (.lst ys)) ds vs
 | [],_,_,h=>by cases h.nil_of; exact Reps.nil
 | d :: ds,_,hf,h=>by
  rw [gK,Bool.and_eq_true] at hf;obtain ⟨v,vs,rfl,r,q⟩:=h.cons_of;exact Reps.cons (Rep.lsetN hH hn hf.1 r) (Reps.lsetN hH hn hf.2 q)
end
section
variable {X:Cx} {e:Expr} {es:List Expr} {fe:DS->Res D} {fs:DS->Res (List D)} {x:Str} {pos pos' lp np apos cpos:Pos}
end
noncomputable def gM:List D->Res D
 | [.lst ds]=>.ok (.lst ds)
 | [.tup ds]=>.ok (.lst ds)
 | _=>.stuck
theorem Mw {X:Cx} (E:Value->Shared->Prop):CallR (X.wish E) (.type "list") (fun xs H Q=>∃p ys,xs=[.ref p]/\(SqL X.K H p ys\/SqT X.K H p ys)/\∀l,H l=none->Q (.ref l) (upd H l (.lst ys))):=JG
end DL
namespace DL
open PySem PySem.Spec PyProof.Rows L2
section
variable {K:PySem.W.Frag} {prog:Program} {w:World} {A:Around} {s:Shared} {x D:Addr} {ox od:Obj} {name:Str} {v:Value}
end
section
variable {X:Cx} {e:Expr} {f:DS->Res D} {name:Str} {pos:Pos} {isA:Str->Bool}
end
section
variable {X:Cx} {m:Nat} {fr:List Nat} {N':List Str} {scope:Scope} {cl:List (Str×Addr)} {tg iter elt c:Expr} {pos:Pos} {t:cX} {fc:DS->Res Bool} {fe:DS->Res D} {fi:DS->Res (List D)}
theorem Mx (i:Nat) {y:Str} {py spos:Pos} (W:Around' X m fr N' scope cl) (hcalm:X.calm=true) (hkt:c7 m t) (hi:PID X tg iter fi) (ht:∀C s H fp,PGD (a_ X N' scope cl C s H fp) tg t) (hc:∀C s H fp,PTD (a_ X N' scope cl C s H fp) c fc) (he:∀C s H fp,PD (a_ X N' scope cl C s H fp) elt fe)
  (hN:X.N.Nodup) (hsw:swapsWith (.ListComp elt [⟨tg,iter,[c],0⟩] scope pos) (some (.Name y py)) spos.line X.env=pure true:=by rfl) (hy:X.N[i]? = some y:=by rfl) (hx:Loc X.env.scope y:=by first | exact Or.inl rfl | exact Or.inr rfl)
  (hfn:X.fn y=true\/X.env.scope.names.lookup y=some .local:=by first | exact .inl rfl | exact .inr rfl | assumption) (hf:∀x,foldedSetIterable iter X.env x=pure x:=by intro _; rfl) :
  PSD X (.Assign [.Name y py] (.ListComp elt [⟨tg,iter,[c],0⟩] scope pos) spos) (aC i (cD m fr t fc fe fi)):=by
 intro pins s σ G H δ I R hs;have hs':cD m fr t fc fe fi δ≠.stuck:=rM hs;rw [exec_Assign_Name_used _ _ _ _ hsw];refine wpAny_bind (wpAny_standAt (wpAny_bind ?_));show wpAny _ X.A (do let _ <- comprehension (.ListComp elt [⟨tg,iter,[c],0⟩] scope pos) scope X.env _ (newList []) false (eval iter X.env) (some (assign (.Name y py) X.env))) _ _ s
 refine wpAny_bind (wpAny_mono (wpAny_comprehension_free (use:=some (assign (.Name y py) X.env)) (Q:=fun _ s'=>SPost X pins G H (aC i (cD m fr t fc fe fi) δ) .next s') rfl hf W.clos W.kind W.names
  (Eu (cs:=[c]) W hcalm hkt hi ht (Nat.le_refl 1) hc he I R hs' (fun e s1 q=>q.sx R fun x z=>by unfold aC; rw [z]; rfl) (RR:=fun acc C=>compPost _ _ _ (some (assign (.Name y py) X.env)) _ acc C) ?_)) (fun _ s' hq=>wpAny_pure (wpAny_pure hq)) fun _ _ e=>e)
 intro a C s' H' ds xs mC ev J e' ha hx' hr hns hC hCa hC0 hCf hCl hCc hCp;show wpAny _ X.A (assign (.Name y py) X.env (.ref a)) _ _ _;refine wpAny_assign_Name (yM J hN hy hx (v:=.ref a) (u:=.ref a) rfl (fun s2 I2 ⟨b,sb,hb⟩=>?_) hfn);have hbC:C≠b:=by
  rcases hb with z | z
  ·rw [z]; exact hCl
  ·exact fun w=>hCc _ _ z w.symm
 refine ⟨mC,hns.sameBut sb hbC,fun h' hs'=>?_⟩;refine ⟨_,_,H',by unfold aC; rw [ev]; rfl,I2.but (t':=s2.toks) hC hC0 hCl hCc hCp hs',e'.tk,(R.mono e').set i (jT (SqL.of hx') hr)⟩
end
section
variable {prog:Program} {w:World} {A:Around} {R:Result->Shared->Prop} {h:Heap} {g:Array GenState} {d:Drawn} {t:Nat} {os:OsState}
variable {nm q:Str} {C N:Addr} {bs bm bmB:List Value} {hdct:Bool} {sn:List Str} {sub:List Value} {ab:Bool} {col:Option Bool} {dd:Option Addr} {k0 k1 k2 k3 k5:Option Value} {B newId initId:String}
end
abbrev My (C:Addr) (dd:Option Addr) (t0:Addr):Obj:={ cls:=.ref C,dict:=dd,data:=.fields #[.ref t0,.none,.none,.none,.bool false,.none] }
section
open Builtin Builtin.ObjectAttr
variable {prog:Program} {w:World} {A:Around} {E:Value->Shared->Prop} {h:Heap} {g:Array GenState} {d:Drawn} {t:Nat} {os:OsState} {K:PySem.W.Frag}
variable {nm q:Str} {C N x:Addr} {bs bm bmB:List Value} {sn:List Str} {sub:List Value} {ab:Bool} {col:Option Bool} {dd:Option Addr} {k0 k1 k2 k3 k5:Option Value} {B newId initId:String} {name:Str} {v:Value} {t0:Addr}
end
abbrev VM:List Value:=[.type "ValueError",.type "Exception",.type "BaseException",.type "object"]
section
variable {prog:Program} {w:World} {A:Around} {E:Value->Shared->Prop} {h:Heap} {g:Array GenState} {d:Drawn} {t:Nat} {os:OsState}
variable {nm q:Str} {C N x:Addr} {bs bm bmB:List Value} {hdct:Bool} {sn:List Str} {sub:List Value} {ab:Bool} {col:Option Bool} {dd:Option Addr} {k0 k1 k2 k3 k5:Option Value} {B newId initId:String} {t0:Addr}
end
noncomputable def BV (K:PySem.W.Frag) (C:Addr):Prop:=∃(nm q:Str) (N:Addr) (bs bm:List Value) (sn:List Str) (sub:List Value) (ab:Bool) (col:Option Bool) (dd:Option Addr) (k0 k1 k2 k3 k5:Option Value),
 K.lookup C=some (excClassObj nm q C N bs bm true sn sub ab col dd k0 k1 k2 k3 k5 "ValueError.__new__")/\∀h,K.In h->OwnTail h VM bm
structure XI (K:PySem.W.Frag) (C Y f:Addr) (fld:Str):Prop where
 cls:BV K C
 set:PySem.W.findIn K (.ref C) "__setattr__" = some (some (.builtin "object.__setattr__"))
 no:PySem.W.findIn K (.ref C) fld=some none
 init:PySem.W.findIn K (.ref C) "__init__" = some (some (.ref f))
 fn:PySem.W.typeIn K (.ref f)=some (.type "function")
 y1:PySem.W.specialIn K (.ref Y) "__getattribute__" = some (some (.builtin "type.__getattribute__"))
 y2:PySem.W.readsIn K Y (.type "type")=true
 y3:PySem.W.findCls K (.ref Y) (.type "type") "__init__" = some (.val (.builtin "ValueError.__init__"))
theorem Mz {H:Hp} {a:Addr} {o:HO} (h:H a=some o):upd H a o=H:=by
 funext b
 unfold upd
 split
 ·rename_i e; rw [e,h]
 ·rfl
section
variable {X:Cx} {C Y f:Addr} {fld y:Str} {np apos pos pos':Pos} {a:Expr} {es:List Expr} {ta:TA}
end
section
variable {M:Model} {A:Around} {E:Value->Shared->Prop} {env:Env}
variable {nm q:Str} {C N:Addr} {bs bm:List Value} {hdct:Bool} {sn:List Str} {sub:List Value} {ab:Bool} {col:Option Bool} {dd:Option Addr} {k0 k1 k2 k3 k5:Option Value} {newId:String}
end
section
variable {X:Cx} {e:Expr} {fe:DS->Res D} {np cpos pos:Pos} {x fld:Str} {C Y f:Addr} {fd:FuncData} {k:Nat} {okv:V->Prop}
end
noncomputable def bF (s:Stmt) (j:Nat):Stmt:=match s with
 | .ClassDef _ _ _ body _ _ _ _ _ _ _=>body.getD j (.Pass ⟨0,0,0,0⟩)
 | _=>.Pass ⟨0,0,0,0⟩
mutual
theorem Rep.frz {K:PySem.W.Frag} {H:Hp} {a:Addr} {xs:List V} {ob:Obj} (hH:H a=some (.lst xs)):∀{d:D} {v:V},Rep K H d v->Rep K (upd H a (.frz ob (.lst xs))) d v
 | .non,_,h=>by rw [Rep] at h ⊢; exact h
 | .bl _,_,h=>by rw [Rep] at h ⊢; exact h
 | .int _,_,h=>by rw [Rep] at h ⊢; exact h
 | .adr _,_,h=>by rw [Rep] at h ⊢; exact h
 | .str _,_,h=>by rw [Rep] at h ⊢; exact h
 | .tup ds,_,h=>by
  rw [Rep] at h ⊢;obtain ⟨b,ys,e1,e2,e3⟩:=h;refine ⟨b,ys,e1,?_,Reps.frz hH e3⟩;rcases e2 with (h | ⟨o,h⟩) | h
  ·exact .inl (.inl (by rw [aL (fun z=>by subst z; rw [hH] at h; cases h)]; exact h))
  ·exact .inl (.inr ⟨o,by rw [aL (fun z=>by subst z; rw [hH] at h; cases h)]; exact h⟩)
  ·exact .inr h
 | .lst ds,_,h=>by
  rw [Rep] at h ⊢;obtain ⟨b,ys,e1,e2,e3⟩:=h;refine ⟨b,ys,e1,?_,Reps.frz hH e3⟩
  by_cases z:b=a
  ·subst z;rcases e2 with (h | ⟨o,h⟩) | h
   ·rw [hH] at h; cases h; exact .inl (.inr ⟨ob,bR⟩)
   ·rw [hH] at h; cases h
   ·exact .inr h
  ·rcases e2 with (h | ⟨o,h⟩) | h
   ·exact .inl (.inl (by rw [aL z]; exact h))
   ·exact .inl (.inr ⟨o,by rw [aL z]; exact h⟩)
   ·exact .inr h
 | .exc _,_,h=>by
  rw [Rep] at h ⊢;obtain ⟨b,C,e1,e2,e3⟩:=h;exact ⟨b,C,e1,e2,by rw [aL (fun z=>by subst z; rw [hH] at e3; cases e3)]; exact e3⟩
 | .excf _ _ d,_,h=>by
  rw [Rep] at h ⊢;obtain ⟨b,C,dx,u,e1,e2,e3,e4,e5⟩:=h;exact ⟨b,C,dx,u,e1,e2,by rw [aL (fun z=>by subst z; rw [hH] at e3; cases e3)]; exact e3,by rw [aL (fun z=>by subst z; rw [hH] at e4; cases e4)]; exact e4,Rep.frz hH e5⟩
 | .dct,_,h=>by
  rw [Rep] at h ⊢;obtain ⟨b,e1,e2⟩:=h;exact ⟨b,e1,by rw [aL (fun z=>by subst z; rw [hH] at e2; cases e2)]; exact e2⟩
 | .obj _ _ ds,_,h=>by
  rw [Rep] at h ⊢;obtain ⟨b,C,dx,us,e1,e2,e3,e4,e5⟩:=h;exact ⟨b,C,dx,us,e1,e2,by rw [aL (fun z=>by subst z; rw [hH] at e3; cases e3)]; exact e3,e4,Reps.frz hH e5⟩
 | .dic _ ds,_,h=>by
  rw [Rep] at h ⊢;obtain ⟨b,us,e1,e3,e4,e5⟩:=h;exact ⟨b,us,e1,by rw [aL (fun z=>by subst z; rw [hH] at e3; cases e3)]; exact e3,e4,Reps.frz hH e5⟩
theorem Reps.frz {K:PySem.W.Frag} {H:Hp} {a:Addr} {xs:List V} {ob:Obj} (hH:H a=some (.lst xs)):∀{ds:List D} {vs:List V},Reps K H ds vs->Reps K (upd H a (.frz ob (.lst xs))) ds vs
 | [],_,h=>by rw [Reps] at h ⊢; exact h
 | d :: ds,_,h=>by
  rw [Reps] at h ⊢;obtain ⟨v,vs,e1,e2,e3⟩:=h;exact ⟨v,vs,e1,Rep.frz hH e2,Reps.frz hH e3⟩
end
noncomputable def qT (X:Cx) (pins:List (Addr×Obj)) (σ:St) (H:Hp) (r:Res D) (u:Value) (s1:Shared):Prop :=
 ∃ds a xs H1,r=.ok (.lst ds)/\Inv X pins σ H1 s1/\u=.ref a/\Same H H1/\H a=none/\H1 a=some (.lst xs)/\Reps X.K H1 ds xs
noncomputable def PDL (X:Cx) (e:Expr) (f:DS->Res D):Prop :=
 ∀(pins:List (Addr×Obj)) (s:Shared) (σ:St) (G H:Hp) (δ:DS),Inv X pins σ H s->RepSt X.K G H σ δ->f δ≠.stuck ->
  wpAny (model X.prog X.w) X.A (eval e X.env) (qT X pins σ H (f δ)) (XPost X pins σ H s.heap (f δ)) s
theorem PDL.pd {X:Cx} {e:Expr} {f:DS->Res D} (h:PDL X e f):PD X e f:=fun pins s σ G H δ I R hs =>
 wpAny_mono (h pins s σ G H δ I R hs) (fun u s1 ⟨ds,a,xs,H1,q1,q2,q3,q4,q5,q6,q7⟩=>⟨_,.ref a,H1,q1,q2,by rw [q3]; rfl,q4,jT (SqL.of q6) q7⟩) fun _ _ z=>z
theorem Reps.reverse {K:PySem.W.Frag} {H:Hp}:∀{ds:List D} {vs:List V},Reps K H ds vs->Reps K H ds.reverse vs.reverse
 | [],_,h=>by rw [h.nil_of]; exact Reps.nil
 | d :: ds,_,h=>by
  obtain ⟨v,vs,rfl,r,t⟩:=h.cons_of;rw [List.reverse_cons,List.reverse_cons];exact (Reps.reverse t).append (Reps.cons r Reps.nil)
section
variable {X:Cx} {e:Expr} {fe:DS->Res D} {st:Expr} {fs:DS->Res (Option Int)} {pos p2:Pos}
end
end DL
namespace DL
open PySem PySem.Spec PyProof.Rows L2
section
variable {X:Cx} {tg iter:Expr} {body:List Stmt} {t:cX} {fb:DS->Out} {pos:Pos}
variable {x:Str} {np p cp tp:Pos} {elts:List Expr} {x1:Nat}
end
section
variable {X:Cx} {body:List Stmt} {t:cX} {fb:DS->Out} {pos:Pos} {x:Str} {np p cp tp:Pos} {elts:List Expr} {x1:Nat}
end
section
variable {X:Cx} {x y:Str} {pos pos' np apos cpos:Pos}
end
end DL
namespace DL
open PySem PySem.Spec PyProof.Rows L2
open AutoSeq1 (wpAny_loadPart')
end DL
namespace DL
open PySem PySem.Spec PyProof.Rows L2
section
variable {X:Cx} {e:Expr} {fe:DS->Res D} {x y:Str} {pos np apos cpos np2 apos2 cpos2:Pos}
end
abbrev MF:V->Prop:=fun v=>∃k:Int,v=.int k/\0<=k/\k<=3
noncomputable def Al (X:Cx) (G:Hp) (x:Exn):Prop:=∀(pins:List (Addr×Obj)) (σ:St) (H:Hp) (s2:Shared) (δ':DS) (e:Value) (s1:Shared),Same G H->Inv X pins σ H s2->SX X pins G H s2.heap (.err x δ') e s1->X.xe e s1
noncomputable def NOX (X:Cx) (G H:Hp) (o:Out) (E:Ends):Prop:=match o with
 | .err x _=>Al X G x
 | o=>NOut X G H o E
noncomputable def sX (X:Cx) (f:DS->Out):TS:=fun E σ H=>∃G δ,RepSt X.K G H σ δ/\NOX X G H (f δ) E
theorem NOX.tk {X:Cx} {G H H1:Hp} {o:Out} {E:Ends} (h:NOX X G H o E) (t:TK H H1):NOX X G H1 o E:=by
 cases o with
 | stuck=>exact h
 | nxt δ=>exact fun σ' H' t' r=>h σ' H' (t.trans t') r
 | ret d=>exact fun v H' t' r=>h v H' (t.trans t') r
 | brk δ=>exact fun σ' H' t' r=>h σ' H' (t.trans t') r
 | cnt δ=>exact fun σ' H' t' r=>h σ' H' (t.trans t') r
 | err x δ=>exact h
section
variable {X:Cx} {G H:Hp} {E:Ends} {st:Stmt} {rest:List Stmt} {f g:DS->Out}
theorem FP {o:Out} {fl:Flow} {pins:List (Addr×Obj)} {s1:Shared} (n:NOX X G H o E) (p:SPost X pins G H o fl s1):SP X pins E fl s1:=by
 cases fl with
 | next=>obtain ⟨δ',σ',H',rfl,q2,q3,q4⟩:=p; exact ⟨σ',H',q2,n σ' H' q3 q4⟩
 | brk=>obtain ⟨δ',σ',H',rfl,q2,q3,q4⟩:=p; exact ⟨σ',H',q2,n σ' H' q3 q4⟩
 | cont=>obtain ⟨δ',σ',H',rfl,q2,q3,q4⟩:=p; exact ⟨σ',H',q2,n σ' H' q3 q4⟩
 | ret u=>obtain ⟨d,v,σ',H',rfl,q2,q3,q4,q5,q6⟩:=p; exact ⟨v,σ',H',q2,q5,n v H' q3 q4 q6⟩
theorem FQ {o:Out} (n:NOX X G H o E):o≠.stuck:=fun z=>by rw [z] at n; exact n
theorem FT {o:Out} {pins:List (Addr×Obj)} {σ:St} {s:Shared} {e:Value} {s1:Shared} (hG:Same G H) (I:Inv X pins σ H s) (n:NOX X G H o E) (p:SX X pins G H s.heap o e s1):X.xe e s1:=by
 obtain ⟨x,δ',a,C,σ',H',rfl,q⟩:=p;exact n pins σ H s δ' e s1 hG I ⟨x,δ',a,C,σ',H',rfl,q⟩
theorem PSDs.psx (h:PSDs X rest f):PSs X rest (sX X f):=by
 intro pins s σ H E I ⟨G,δ,R,n⟩;exact wpAny_mono (h pins s σ G H δ I R (FQ n)) (fun fl s1 p=>FP n p) fun e s1 p=>FT R.same I n p
theorem PSD.psx (h:PSD X st f):PS X st (sX X f):=by
 intro pins s σ H E I ⟨G,δ,R,n⟩;exact wpAny_mono (h pins s σ G H δ I R (FQ n)) (fun fl s1 p=>FP n p) fun e s1 p=>FT R.same I n p
theorem hL' (h1:PS X st (sX X f)) (h2:PSs X rest (sX X g)):PSs X (st :: rest) (sX X (aA f g)):=by
 intro pins s σ H D I ⟨G,δ,R,n⟩;refine gq h1 h2 pins s σ H D I ⟨G,δ,R,?_⟩;have e:aA f g δ=(match f δ with | .nxt δ'=>g δ' | o=>o):=rfl
 rw [e] at n
 cases q:f δ with
 | nxt δ'=>rw [q] at n; exact fun σ' H' t r=>⟨G,δ',r,NOX.tk n t⟩
 | stuck=>rw [q] at n; exact n
 | ret d=>rw [q] at n; exact n
 | brk δ'=>rw [q] at n; exact n
 | cnt δ'=>rw [q] at n; exact n
 | err x δ'=>rw [q] at n; exact n
theorem mk' (h1:PS X st (sX X f)):PSs X [st] (sX X f):=uR h1
end
noncomputable def gO (t:cX) (b:DS->Out):List D->DS->Out
 | [],δ=>.nxt δ
 | d :: ds,δ=>match t d δ with
  | none=>.stuck
  | some δ1=>match b δ1 with
   | .nxt δ'=>gO t b ds δ'
   | .cnt δ'=>gO t b ds δ'
   | .brk δ'=>.nxt δ'
   | .ret d=>.ret d
   | .err x δ'=>.err x δ'
   | .stuck=>.stuck
section
variable {X:Cx} {tg iter:Expr} {body:List Stmt} {t:cX} {fb:DS->Out} {pos:Pos} {G H:Hp} {E:Ends}
theorem PGD.pgx (h:PGD X tg t):PG X tg (gD X t):=by
 intro pins s σ H v u Q I r hq;obtain ⟨G,δ,d,δ',R,p,e,q⟩:=hq;exact cN (h _ pins s σ G H δ δ' d v u I r R p e) fun _ s1 ⟨σ',I',R'⟩=>⟨σ',H,I',q σ' R'⟩
theorem PAD.pax {es:List Expr} {fs:DS->Res (List D)} (h:PAD X es fs):PA X es (fun σ H Q=>∃G δ ds,RepSt X.K G H σ δ/\fs δ=.ok ds/\∀vs H',Same H H'->Reps X.K H' ds vs->Q vs H'):=by
 intro pos pins s σ H Q I ⟨G,δ,d,R,q,n⟩;refine wpAny_mono (h pos pins s σ G H δ I R (by rw [q]; intro z; cases z)) (fun b s1 ⟨d',v,H1,q1,I1,r1,e1,p1⟩=>?_) fun e s1 p=>?_
 ·rw [q] at q1; cases q1;exact ⟨v,H1,I1,r1,n v H1 e1 p1⟩
 ·rw [q] at p; exact p.none.elim
theorem hM' {ds:List D} {d:D} {δ:DS} {v:V} {σ:St} {N:St->Hp->Prop} (R:RepSt X.K G H σ δ) (p:Rep X.K H d v) (h:NOX X G H (gO t fb (d :: ds) δ) E)
  (hN:∀δ' σ' H',TK H H'->RepSt X.K G H' σ' δ'->NOX X G H' (gO t fb ds δ') E->N σ' H'):gD X t v σ H fun σ2 H2=>sX X fb { E with nx:=N,ct:=N,bk:=E.nx } σ2 H2:=by
 rw [gO] at h
 cases z:t d δ with
 | none=>rw [z] at h; exact h.elim
 | some δ1 =>
  rw [z] at h;refine ⟨G,δ,d,δ1,R,p,z,fun σ' R'=>⟨G,δ1,R',?_⟩⟩;simp only at h
  cases q:fb δ1 with
  | stuck=>rw [q] at h; exact h
  | err x δ'=>rw [q] at h; exact h
  | nxt δ'=>rw [q] at h; exact fun σ2 H2 t2 r2=>hN δ' σ2 H2 t2 r2 (NOX.tk h t2)
  | cnt δ'=>rw [q] at h; exact fun σ2 H2 t2 r2=>hN δ' σ2 H2 t2 r2 (NOX.tk h t2)
  | brk δ'=>rw [q] at h; exact fun σ2 H2 t2 r2=>h σ2 H2 t2 r2
  | ret d=>rw [q] at h; exact fun v H2 t2 g r2=>h v H2 t2 g r2
end
section
variable {P:Program} {w:World} {K:PySem.W.Frag} {mg:Str->Option Value} {base:Heap}
theorem MJ {x qual:Str} {st:Stmt} {f:Addr} {fd:FuncData} {N ps:List Str} {k:Nat} {body:DS->Out} (F:Fun K x qual st f fd) (S:FnScope N ps (ao st))
  (hb:∀(cdv:Value) (A:Around) (outer:List Env) (s:Shared) (H:Hp) (E:XK),Room k (A.deeper (envOfC qual (ao st) s.heap.objs.size f cdv))->PSs (bN (cA P w) P w K mg base N qual (ao st) f cdv A outer s H E) (aD st) (sX (bN (cA P w) P w K mg base N qual (ao st) f cdv A outer s H E) body)) :
  FnOk P w K mg base (cA P w) (k + 1) f fd ps (jU K (bJ ps.length N.length body)):=by
 obtain ⟨oc,od,kV,doc,pm,an,cdv,ct,osl,rfl,lk,hcd⟩:=F.ex;refine pC lk hcd S (fun vs H Q E ⟨ds,r,h⟩=>?_) fun A outer s H vs Q E hr hsp=>?_
 ·rw [r.length];unfold bJ at h
  by_cases c:ds.length=ps.length
  ·exact c
  ·rw [if_neg c] at h; exact h.elim
 ·obtain ⟨ds,r,h⟩:=hsp;have c:ds.length=ps.length:=by
   unfold bJ at h
   by_cases c:ds.length=ps.length
   ·exact c
   ·rw [if_neg c] at h; exact h.elim
  have ev:bJ ps.length N.length body ds=outD (body (bM ds.length N.length ds)):=by unfold bJ; rw [if_pos c,c]
  rw [ev] at h;refine ⟨_,hb cdv A outer s H E hr,H,bM ds.length N.length ds,zf N r,?_⟩
  cases q:body (bM ds.length N.length ds) with
  | stuck=>rw [q] at h; exact h
  | nxt δ'=>rw [q] at h; exact fun σ' H' t r=>h .non H' r.same Az
  | ret d=>rw [q] at h; exact fun v H' t g p=>h v H' g p
  | brk δ'=>rw [q] at h; exact h.elim
  | cnt δ'=>rw [q] at h; exact h.elim
  | err x δ' =>
   rw [q] at h;intro pins σ2 H2 s2 δ2 e s1 hG I p;obtain ⟨x',δ',a,C,σ',H',q1,rfl,q3,q4,q5,q6,dd,pay,q7⟩:=p
   cases q1
   refine ef' q3 ?_ (h C H' dd q6 q5.same pay);refine q7.back (h0:=s.heap) (H0:=H2) (H1:=H2) (TK.refl H2) q4 fun e n z o vs ho hd=>?_
   by_cases hf:e∈frs outer
   ·obtain ⟨_,o',ho',hd'⟩:=I.ok.funs.mem hf;have ho2:s.heap.get? e=some o':=ho';rw [ho] at ho2
    cases ho2
    exact hd' vs hd
   ·have n0:H e=none:=by
     cases qe:H e with
     | none=>rfl
     | some o'=>rw [hG e o' qe] at n; cases n
    exact z o vs (I.base.keep e o ho n0 hf (by intro z; exact absurd z (by show e∉([]:List Addr); simp))) hd
end
theorem fnX (P:Program) (w:World) {K:PySem.W.Frag} {mg:Str->Option Value} (base:Heap) {x:Str} {st:Stmt} {N ps:List Str} (k:Nat) (body:DS->Out) (F:Ent K mg x st ps) (S:FnScope N ps (ao st))
  (hb:∀(f:Addr) (cdv:Value) (A:Around) (outer:List Env) (s:Shared) (H:Hp) (E:XK),Room k (A.deeper (envOfC x (ao st) s.heap.objs.size f cdv))->PSs (bN (cA P w) P w K mg base N x (ao st) f cdv A outer s H E) (aD st) (sX (bN (cA P w) P w K mg base N x (ao st) f cdv A outer s H E) body)) :
  bx P w K mg base (k + 1) x (bJ ps.length N.length body):=by
 obtain ⟨f,fd,m,F,B⟩:=F;exact ⟨f,fd,ps,MJ F S (hb f),m,F.kp,B⟩
noncomputable def BW (K:PySem.W.Frag) (F:List D->Res D):Sp:=fun vs H Q _=>∃ds es,Reps K H ds vs/\F ds=.ok (.lst es)/\∀a xs H',Same H H'->H a=none->H' a=some (.lst xs)->Reps K H' es xs->Q (.ref a) H'
noncomputable def FW (X:Cx) (pins:List (Addr×Obj)) (G H:Hp) (o:Out) (fl:Flow) (s1:Shared):Prop:=match fl with
 | .ret u=>∃ds a xs σ' H',o=.ret (.lst ds)/\Inv X pins σ' H' s1/\TK H H'/\Same G H'/\u=.ref a/\G a=none/\H' a=some (.lst xs)/\Reps X.K H' ds xs
 | _=>False
noncomputable def BX (X:Cx) (st:List Stmt) (f:DS->Out):Prop :=
 ∀(pins:List (Addr×Obj)) (s:Shared) (σ:St) (G H:Hp) (δ:DS),Inv X pins σ H s->RepSt X.K G H σ δ->(∃ds,f δ=.ret (.lst ds)) ->
  wpAny (model X.prog X.w) X.A (execs st X.env) (FW X pins G H (f δ)) (fun _ _=>False) s
section
variable {X:Cx} {st:Stmt} {rest:List Stmt} {f g:DS->Out} {pos pos':Pos}
end
section
variable {P:Program} {w:World} {K:PySem.W.Frag} {mg:Str->Option Value} {base:Heap}
theorem MK {x qual:Str} {st:Stmt} {f:Addr} {fd:FuncData} {N ps:List Str} {k:Nat} {body:DS->Out} (F:Fun K x qual st f fd) (S:FnScope N ps (ao st))
  (hb:∀(cdv:Value) (A:Around) (outer:List Env) (s:Shared) (H:Hp) (E:XK),Room k (A.deeper (envOfC qual (ao st) s.heap.objs.size f cdv))->BX (bN (cA P w) P w K mg base N qual (ao st) f cdv A outer s H E) (aD st) body) :
  FnOk P w K mg base (cA P w) (k + 1) f fd ps (BW K (bJ ps.length N.length body)):=by
 obtain ⟨oc,od,kV,doc,pm,an,cdv,ct,osl,rfl,lk,hcd⟩:=F.ex;have key:∀{ds es:List D},bJ ps.length N.length body ds=.ok (.lst es)->ds.length=ps.length/\body (bM ds.length N.length ds)=.ret (.lst es):=fun {ds es} h=>by
  unfold bJ at h
  by_cases c:ds.length=ps.length
  ·rw [if_pos c,<- c] at h;refine ⟨c,?_⟩
   cases q:body (bM ds.length N.length ds) with
   | ret d=>rw [q] at h; cases h; rfl
   | _=>rw [q] at h; cases h
  ·rw [if_neg c] at h; cases h
 refine pC lk hcd S (fun vs H Q E ⟨ds,es,r,h,_⟩=>by rw [r.length]; exact (key h).1) fun A outer s H vs Q E hr ⟨ds,es,r,h,hQ⟩=>?_;obtain ⟨c,h⟩:=key h;refine ⟨fun D σ H2=>∃G δ,RepSt K G H2 σ δ/\(∃ds,body δ=.ret (.lst ds))/\∀pins fl s1,FW (bN (cA P w) P w K mg base N qual (ao st) f cdv A outer s H E) pins G H2 (body δ) fl s1->SP (bN (cA P w) P w K mg base N qual (ao st) f cdv A outer s H E) pins D fl s1,?_,H,bM ds.length N.length ds,zf N r,⟨_,h⟩,fun pins fl s1 p=>?_⟩
 ·intro pins s2 σ H2 D I ⟨G,δ,R,n,k1⟩;exact wpAny_mono (hb cdv A outer s H E hr pins s2 σ G H2 δ I R n) (fun fl s1 p=>k1 pins fl s1 p) fun _ _ z=>z.elim
 ·cases fl with
  | ret u =>
   obtain ⟨es',a,xs,σ',H',q1,q2,q3,q4,q5,q6,q7,q8⟩:=p;rw [h] at q1; cases q1;exact ⟨.ref a,σ',H',q2,q5,hQ a xs H' q4 q6 q7 q8⟩
  | _=>exact p.elim
end
noncomputable def eG (F:List D->Res D):List D->Res D:=fun ds=>match F ds with
 | .ok (.lst es)=>.ok (.lst es)
 | _=>.stuck
section
variable {prog:Program} {w:World} {A:Around} {E:Value->Shared->Prop} {s:Shared} {I:Addr} {fp wr:List Addr} {G:Array GenState->Array GenState->Prop} {n:Nat} {P:Nat->Value->Prop} {St:Nat->Shared->Prop}
end
theorem dk' {K:PySem.W.Frag} {H:Hp} {f:Str} {d:D}:∀{fs:List Str} {ds:List D} {us:List V},Reps K H ds us->(fs.zip ds).lookup f=some d->∃v,(fs.zip us).lookup f=some v/\Rep K H d v
 | [],_,_,_,h=>by simp at h
 | _ :: _,[],_,_,h=>by simp at h
 | g :: fs,d' :: ds,us,r,h=>by
  obtain ⟨v,vs,rfl,r1,r2⟩:=r.cons_of;rw [List.zip_cons_cons,List.lookup_cons] at h ⊢
  cases e:f == g with
  | true=>rw [e] at h; cases h; exact ⟨v,rfl,r1⟩
  | false=>rw [e] at h; exact dk' r2 h
theorem zu {m:Str}:∀{fs:List Str} {us:List V},fs.contains m=false->(fs.zip us).lookup m=none
 | [],_,_=>by simp
 | _ :: _,[],_=>by simp
 | g :: fs,u :: us,h=>by
  rw [List.contains_cons,Bool.or_eq_false_iff] at h;rw [List.zip_cons_cons,List.lookup_cons,h.1];exact zu h.2
theorem pR {K:PySem.W.Frag} {H:Hp} {c:Str} {fs:List Str} {ds:List D} {v:V} (h:Rep K H (.obj c fs ds) v):∃a C dx us,v=.ref a/\PySem.W.nsIn K mainGlobals c=some (some (.ref C))/\H a=some (.ins C dx (fs.zip us))/\fs.length=us.length/\Reps K H ds us:=by
 rw [Rep] at h; exact h
noncomputable def pU (K:PySem.W.Frag) (aU:Str->Bool) (f:Str):Prop:=∀c,aU c=true->∀C,PySem.W.nsIn K mainGlobals c=some (some (.ref C))->Cls K C/\NoAttr K C f
noncomputable def zx (K:PySem.W.Frag) (aU:Str->Bool) (m:Str) (g:Addr):Prop:=∀c,aU c=true->∀C,PySem.W.nsIn K mainGlobals c=some (some (.ref C))->Cls K C/\Meth K C m g
noncomputable def gk (aU:Str->Bool) (f:Str):D->Res D
 | .obj c fs ds=>if aU c=true then (match (fs.zip ds).lookup f with | some d=>.ok d | none=>.stuck) else .stuck
 | _=>.stuck
noncomputable def cF (aU:Str->Bool) (m:Str) (F:List D->Res D):D->Res D
 | .obj c fs ds=>if aU c=true/\fs.contains m=false then F [.obj c fs ds] else .stuck
 | _=>.stuck
section
variable {X:Cx} {e:Expr} {fe:DS->Res D} {f m:Str} {pos apos:Pos} {aU:Str->Bool} {F:List D->Res D}
theorem lY (hO:pU X.K aU f) (he:PD X e fe) (hb:attributeBase e f X.env (eval e X.env)=eval e X.env:=by rfl):PD X (.Attribute e f pos) (fun δ=>(fe δ).bind (gk aU f)):=by
 intro pins s σ G H δ I R hs
 try dsimp only at hs ⊢
 refine Dm hb (he.use I R (dF hs) (fun d u s1 v H1 q I1 r1 e1 b1 p1=>?_) fun e s1 q=>q.same fun x z=>dU z);have hd:=dX hs q
 cases d with
 | obj c fs ds =>
  have hc:aU c=true:=by
   by_cases z:aU c=true
   ·exact z
   ·exact absurd (if_neg z) hd
  have hd':(match (fs.zip ds).lookup f with | some d=>Res.ok d | none=>.stuck)≠.stuck:=fun z=>hd ((if_pos hc).trans z)
  cases l:(fs.zip ds).lookup f with
  | none=>rw [l] at hd'; exact (hd' rfl).elim
  | some d =>
   obtain ⟨a,C,dx,us,rfl,hC,hH,hl,rr⟩:=pR p1
   cases r1
   obtain ⟨cl,no⟩:=hO c hc C hC;obtain ⟨v,lv,rv⟩:=dk' rr l;refine Dl I1 hH cl no lv fun u' s2 I2 ru=>⟨d,v,H1,?_,I2,ru,e1,rv⟩;rw [q,Res.bind_ok];show (if aU c=true then _ else _)=_
   rw [if_pos hc,l]
 | _=>exact absurd rfl hd
theorem BZ {k:Nat} {f:Addr} {fd:FuncData} {ps:List Str} {pins:List (Addr×Obj)} {σ:St} {H:Hp} {s:Shared} {ds:List D} {vs:List V} {us:List Value} (Fn:FnOk X.prog X.w X.K X.mg X.base (cA X.prog X.w) k f fd ps (jU X.K F)) (hr:Room k X.A) (hb:Binds X.K fd ps []) (I1:Inv X pins σ H s) (p1:Reps X.K H ds vs) (r1:Vals vs us) (h2:F ds≠.stuck) :
  wpAny (model X.prog X.w) X.A (call (.ref f) us) (fun u s1=>∃d v H',F ds=.ok d/\Inv X pins σ H' s1/\RelV v u/\Same H H'/\Rep X.K H' d v) (XPost X pins σ H s.heap (F ds)) s:=by
 cases qg:F ds with
 | stuck=>exact (h2 qg).elim
 | ok d =>
  have hsp:jU X.K F vs H (fun v H'=>Same H H'/\Rep X.K H' d v) (fun _ _ _=>False):=⟨ds,p1,by rw [qg]; exact fun v H' a b=>⟨a,b⟩⟩;have hl:us.length=ps.length:=by rw [<- r1.length]; exact Fn.len _ _ _ _ hsp
  refine wpAny_call (codeAny_mono (Fn.run X.A X.stack s H ⟨us,[]⟩ us vs _ _ hr I1.env0 (by simpa using hb s us I1.kIn (by simpa using hl)) r1 hsp) fun r s' hq=>?_)
  cases r with
  | error e=>obtain ⟨_,_,_,_,_,_,_,_,_,_,z⟩:=hq; exact z.elim
  | ok fl =>
   cases fl with
   | ret u =>
    obtain ⟨v,H',I',r',e',p'⟩:=I1.after hq;exact ⟨d,v,H',rfl,I',r',e',p'⟩
   | next=>exact False.elim hq
   | brk=>exact False.elim hq
   | cont=>exact False.elim hq
 | err z =>
  have hsp:jU X.K F vs H (fun v H'=>False) (fun Cv dd H'=>∃C,Cv=.ref C/\PySem.W.nsIn X.K mainGlobals z.cls=some (some (.ref C))/\Same H H'/\vA X.K H' z dd):=⟨ds,p1,by rw [qg]; exact fun C H' dd a b c=>⟨C,rfl,a,b,c⟩⟩;have hl:us.length=ps.length:=by rw [<- r1.length]; exact Fn.len _ _ _ _ hsp
  refine wpAny_call (codeAny_mono (Fn.run X.A X.stack s H ⟨us,[]⟩ us vs _ _ hr I1.env0 (by simpa using hb s us I1.kIn (by simpa using hl)) r1 hsp) fun r s' hq=>?_)
  cases r with
  | error e =>
   obtain ⟨a,Cv,H',rfl,os,bare,un,hok,dd,fly,C,rfl,hC,sm,pay⟩:=hq;exact ⟨z,a,C,H',rfl,rfl,I1.call' (ch:=[]) os un hok bare (fun b z=>absurd z (by simp)),sm,hC,dd,pay,fly⟩
  | ok fl =>
   cases fl with
   | ret u =>
    obtain ⟨v,H',_,_,_,_,_,z⟩:=hq;exact z.elim
   | next=>exact False.elim hq
   | brk=>exact False.elim hq
   | cont=>exact False.elim hq
end
noncomputable def g8 (P:Program) (w:World) (K:PySem.W.Frag) (mg:Str->Option Value) (base:Heap) (k:Nat) (aU:Str->Bool) (m:Str) (F:List D->Res D):Prop :=
 ∃(f:Addr) (fd:FuncData) (ps:List Str),FnOk P w K mg base (cA P w) k f fd ps (jU K F)/\Binds K fd ps []/\zx K aU m f
noncomputable def gm (P:Program) (w:World) (K:PySem.W.Frag) (mg:Str->Option Value) (base:Heap) (k:Nat) (aU:Str->Bool) (m:Str) (F:List D->Res D):Prop :=
 ∃(f:Addr) (fd:FuncData) (ps:List Str),FnOk P w K mg base (cA P w) k f fd ps (BW K F)/\Binds K fd ps []/\zx K aU m f
section
variable {X:Cx} {o:Expr} {fo:DS->Res D} {m:Str} {pos apos:Pos} {aU:Str->Bool} {F:List D->Res D} {j k:Nat}
theorem FZ {aU:Str->Bool} {m:Str} {F:List D->Res D} {d:D} (h:cF aU m F d≠.stuck):∃c fs ds,d=.obj c fs ds/\aU c=true/\fs.contains m=false/\cF aU m F d=F [d]:=by
 cases d with
 | obj c fs ds =>
  by_cases z:aU c=true/\fs.contains m=false
  ·exact ⟨c,fs,ds,rfl,z.1,z.2,if_pos z⟩
  ·exact absurd (if_neg z) h
 | _=>exact absurd rfl h
theorem B_ {pl:Sem Bool} (Fn:g8 X.prog X.w X.K X.mg X.base j aU m F) (hr:Room k X.A) (he:PD X o fo) (hj:j<=k:=by first | decide | omega)
  (ht:eval (.Call (.Attribute o m apos) [] [] pos) X.env=(do
   let ov <- eval o X.env
   standAt apos.atName
   let (f,first) <- holding [ov] (getMethod ov m pl)
   callWith pos f first (backTo pos (starEach [] X.env)) (backToKw pos (keywordEach [] X.env))):=by rfl) :
  PD X (.Call (.Attribute o m apos) [] [] pos) (fun δ=>(fo δ).bind (cF aU m F)):=by
 obtain ⟨f,fd,ps,Fn,hb,M⟩:=Fn;intro pins s σ G H δ I R hs
 try dsimp only at hs ⊢
 refine PySem.W.methodCall_KW (pl:=pl) (he.use I R (dF hs) (fun d u s1 v H1 q I1 r1 e1 b1 p1=>?_) fun e s1 q=>q.same fun x z=>dU z) ht;have hd:=dX hs q;obtain ⟨c,fs,ds,rfl,hc,hm,ev⟩:=FZ hd;have p1':=p1;obtain ⟨a,C,dx,us,rfl,hC,hH,hl,rr⟩:=pR p1
 cases r1
 obtain ⟨cl,mt⟩:=M c hc C hC;have ev2:(fo δ).bind (cF aU m F)=F [.obj c fs ds]:=by rw [q,Res.bind_ok,ev]
 refine yQ I1 hH cl mt (zu hm) (PySem.W.callWith_K0 (first:=[.ref a]) I1.kIn mt.kp ?_)
 refine wpAny_mono (BZ (Fn.mono hj) hr hb I1 (Reps.cons p1' .nil) (.cons rfl .nil) (by rw [<- ev]; exact hd)) (fun u s2 ⟨d,v,H',w1,w2,w3,w4,w5⟩=>⟨d,v,H',ev2.trans w1,w2,w3,e1.trans w4,w5⟩) fun e s2 z=>?_;exact z.back e1 b1 fun x w=>ev2.trans w
theorem rY {pl:Sem Bool} (Fn:gm X.prog X.w X.K X.mg X.base j aU m F) (hr:Room k X.A) (he:PD X o fo) (hj:j<=k:=by first | decide | omega)
  (ht:eval (.Call (.Attribute o m apos) [] [] pos) X.env=(do
   let ov <- eval o X.env
   standAt apos.atName
   let (f,first) <- holding [ov] (getMethod ov m pl)
   callWith pos f first (backTo pos (starEach [] X.env)) (backToKw pos (keywordEach [] X.env))):=by rfl) :
  PDL X (.Call (.Attribute o m apos) [] [] pos) (fun δ=>(fo δ).bind (cF aU m (eG F))):=by
 obtain ⟨f,fd,ps,Fn,hb,M⟩:=Fn;have Fn:=Fn.mono hj;intro pins s σ G H δ I R hs
 try dsimp only at hs ⊢
 refine PySem.W.methodCall_KW (pl:=pl) (he.use I R (dF hs) (fun d u s1 v H1 q I1 r1 e1 b1 p1=>?_) fun e s1 q=>q.same fun x z=>dU z) ht;have hd:=dX hs q;obtain ⟨c,fs,ds,rfl,hc,hm,ev⟩:=FZ hd;have p1':=p1;obtain ⟨a,C,dx,us,rfl,hC,hH,hl,rr⟩:=pR p1
 cases r1
 obtain ⟨cl,mt⟩:=M c hc C hC;refine yQ I1 hH cl mt (zu hm) (PySem.W.callWith_K0 (first:=[.ref a]) I1.kIn mt.kp ?_)
 rw [ev] at hd;unfold eG at hd
 split at hd
 ·rename_i es' qg;have ev2:(fo δ).bind (cF aU m (eG F))=.ok (.lst es'):=by rw [q,Res.bind_ok,ev]; unfold eG; rw [qg]
  have hsp:BW X.K F [.ref a] H1 (fun v H'=>∃a xs,v=.ref a/\Same H1 H'/\H1 a=none/\H' a=some (.lst xs)/\Reps X.K H' es' xs) (fun _ _ _=>False):=⟨_,es',Reps.cons p1' .nil,qg,fun a xs H' a1 a2 a3 a4=>⟨a,xs,rfl,a1,a2,a3,a4⟩⟩;have hl':[Value.ref a].length=ps.length:=Fn.len _ _ _ _ hsp;refine wpAny_call (codeAny_mono (Fn.run X.A X.stack s1 H1 ⟨[.ref a],[]⟩ [.ref a] [.ref a] _ _ hr I1.env0 (by simpa using hb s1 [.ref a] I1.kIn (by simpa using hl')) (.cons rfl .nil) hsp) fun r s' hq=>?_)
  cases r with
  | error e=>obtain ⟨_,_,_,_,_,_,_,_,_,_,z⟩:=hq; exact z.elim
  | ok fl =>
   cases fl with
   | ret u =>
    obtain ⟨v,H',I',r',b,xs,rfl,e',h1,h3,h4⟩:=I1.after hq;exact ⟨es',b,xs,H',ev2,I',r',e1.trans e',e1.free h1,h3,h4⟩
   | next=>exact False.elim hq
   | brk=>exact False.elim hq
   | cont=>exact False.elim hq
 ·exact (hd rfl).elim
theorem Ca {e:Expr} {fe:DS->Res D} (he:PDL X e fe):BX X [.Return (some e) pos] (aH fe):=by
 intro pins s σ G H δ I R ⟨ds,ee⟩;have q:fe δ=.ok (.lst ds):=by
  unfold aH at ee
  cases z:fe δ with
  | ok d=>rw [z] at ee; cases ee; rfl
  | stuck=>rw [z] at ee; cases ee
  | err x=>rw [z] at ee; cases ee
 refine wpAny_execs_cons (wpAny_Return_some (wpAny_mono (he pins s σ G H δ I R (by rw [q]; intro z; cases z)) (fun u s1 ⟨ds',a,xs,H1,q1,q2,q3,q4,q5,q6,q7⟩=>?_) fun e s1 z=>?_))
 ·rw [q] at q1; cases q1;exact ⟨ds,a,xs,σ,H1,ee,q2,q4.tk,R.same.trans q4,q3,R.same.free q5,q6,q7⟩
 ·rw [q] at z; exact z.none.elim
end
noncomputable def F_ (K:PySem.W.Frag) (C:Addr) (fs:List Str) (g:List D->Res (List D)):Sp:=fun vs H Q _=>∃a dx ds us es,vs=.ref a :: us/\H a=some (.ins C dx [])/\Reps K H ds us/\g ds=.ok es /\
 ∀H' ws,(∀b o,b≠a->H b=some o->H' b=some o)->H' a=some (.ins C dx (fs.zip ws))->fs.length=ws.length->Reps K H' es ws->Q .non H'
noncomputable def eV (x:Str) (fs:List Str) (g:List D->Res (List D)):List D->Res D:=fun ds=>match g ds with
 | .ok es=>.ok (.obj x fs es)
 | _=>.stuck
noncomputable def jh (P:Program) (w:World) (K:PySem.W.Frag) (mg:Str->Option Value) (base:Heap) (k:Nat) (x:Str) (fs:List Str) (g:List D->Res (List D)):Prop :=
 ∃(C f:Addr) (fd:FuncData) (ps:List Str),Mk K C f/\FnOk P w K mg base (cA P w) k f fd ps (F_ K C fs g)/\Binds K fd ps []/\mg x=some (.ref C)/\PySem.W.nsIn K mainGlobals x=some (some (.ref C))
theorem zy {X:Cx}:gr (cA X.prog X.w) X (fun _ _ _=>False):=fun _ _ _ _ _ _ _ h=>by
 obtain ⟨_,_,_,_,_,_,_,_,_,_,z⟩:=h; exact z.elim
theorem uI {X:Cx} {j k:Nat} {fs:List Str} {g:List D->Res (List D)} {x:Str} {p pos:Pos} {e:Expr} {es:List Expr} {fa:DS->Res (List D)} (Fn:jh X.prog X.w X.K X.mg X.base j x fs g) (hr:Room k X.A) (ha:PAD X (e :: es) fa)
  (hj:j + 1<=k:=by first | decide | omega) (hg:Gl X x:=by exact rfl) (hdb:(x == ("__debug__" : Str))=false:=by decide) (he:starEach (e :: es) X.env=(false,eval e X.env) :: starEach es X.env:=by rfl) (hpl:(backTo pos (starEach es X.env)).any (·.1)=false:=by rfl) :
  PD X (.Call (.Name x p) (e :: es) [] pos) (fun δ=>(fa δ).bind (eV x fs g)):=by
 obtain ⟨C,f,fd,ps,M,Fn,hb,hm,hn⟩:=Fn;intro pins s σ G H δ I R hs
 try dsimp only at hs ⊢
 refine wpAny_Call_Name_kw (j9 I hg hm ?_ hdb);refine PySem.W.callWith_K (h₀:=X.base) I.ok.mod.kin M.kp (ha.use I R (dF hs) (fun ds us s1 vs H1 q I1 r1 e1 b1 p1=>⟨I1.kIn,?_⟩) fun e s1 q=>q.same fun x z=>dU z) he hpl;have h2:=dX hs q;unfold eV at h2
 split at h2
 ·rename_i es' qg;have ev:(fa δ).bind (eV x fs g)=.ok (.obj x fs es'):=by rw [q,Res.bind_ok]; unfold eV; rw [qg]
  refine wpAny_mono (dv' (X:=X.wish fun _ _=>False) (E:=fun _ _ _=>False) (dvs:=[]) (Q:=fun v H'=>Same H1 H'/\Rep X.K H' (.obj x fs es') v) M Fn (hr.mono hj) hb .nil (fun _ _ _ _ _ _ _ h=>by obtain ⟨_,_,_,_,_,_,_,_,_,_,z⟩:=h; exact z.elim) (I1.wish _) r1 fun a dx na nd ne=>?_) (fun u s2 ⟨v,H',I2,rv,sm,rp⟩=>⟨_,v,H',ev,I2.unwish,rv,e1.trans sm,rp⟩) fun _ _ z=>z.elim;have sm:Same H1 (upd (upd H1 dx (.own a)) a (.ins C dx [])):=fun b o h=>by
   have b1:b≠a:=fun z=>by subst z; rw [na] at h; cases h
   have b2:b≠dx:=fun z=>by subst z; rw [nd] at h; cases h
   rw [aL b1,aL b2]; exact h
  refine ⟨a,dx,ds,vs,es',by simp,bR,p1.mono sm,qg,fun H' ws k1 k2 k3 k4=>⟨rfl,fun b o h=>?_,?_⟩⟩
  ·have b1:b≠a:=fun z=>by subst z; rw [na] at h; cases h
   exact k1 b o b1 (sm b o h)
  ·rw [Rep]; exact ⟨a,C,dx,ws,rfl,hn,k2,k3,k4⟩
 ·exact (h2 rfl).elim
noncomputable def vU (K:PySem.W.Frag) (f1 f2 f3:Str):Sp:=fun vs H Q _=>∃a C dx w o n,vs=[.ref a,w,o,n]/\H a=some (.ins C dx [])/\Cls K C/\NoAttr K C f1/\NoAttr K C f2/\NoAttr K C f3/\Q .non (upd H a (.ins C dx [(f1,w),(f2,o),(f3,n)]))
section
variable {P:Program} {w:World} {K:PySem.W.Frag} {mg:Str->Option Value} {base:Heap}
theorem upd_upd {H:Hp} {a:Addr} {o o':HO}:upd (upd H a o) a o'=upd H a o':=by
 funext b; unfold upd; split <;> rfl
theorem MN {x qual:Str} {st:Stmt} {f:Addr} {fd:FuncData} {p1 p2 p3:Str} {k:Nat} (F:Fun K x qual st f fd) (S:FnScope ["self",p1,p2,p3] ["self",p1,p2,p3] (ao st)) {f1 f2 f3:Str} (h12:f1≠f2) (h13:f1≠f3) (h23:f2≠f3)
  (hb:∀(cdv:Value) (A:Around) (outer:List Env) (s:Shared) (H:Hp) (E:XK),PSs (bN (cA P w) P w K mg base ["self",p1,p2,p3] qual (ao st) f cdv A outer s H E) (aD st) (fZ (e_ K (cG 0) (cG 1) f1) (fZ (e_ K (cG 0) (cG 2) f2) (e_ K (cG 0) (cG 3) f3)))) :
  FnOk P w K mg base (cA P w) (k + 1) f fd ["self",p1,p2,p3] (vU K f1 f2 f3):=by
 obtain ⟨oc,od,kV,doc,pm,an,cdv,ct,osl,rfl,lk,hcd⟩:=F.ex;refine pC lk hcd S (fun vs H Q E ⟨a,C,dx,w1,o,n,h,_⟩=>by rw [h]; rfl) fun A outer s H vs Q E hr ⟨a,C,dx,w1,o,n,h,hH,cl,n1,n2,n3,hQ⟩=>⟨_,hb cdv A outer s H E,?_⟩;subst h;refine ⟨w1,rfl,.ref a,rfl,a,C,dx,[],rfl,hH,cl,n1,by decide,?_⟩;refine ⟨o,rfl,.ref a,rfl,a,C,dx,_,rfl,bR,cl,n2,show 1 < 1000 by decide,?_⟩;refine ⟨n,rfl,.ref a,rfl,a,C,dx,_,rfl,bR,cl,n3,?_,?_⟩
 ·simp only [bW,if_neg h12]; exact (show 2 < 1000 by decide)
 ·simp only [upd_upd,bW,if_neg h12,if_neg h13,if_neg h23];exact hQ
end
structure BI (K:PySem.W.Frag) (B fB:Addr):Prop where
 y1:PySem.W.specialIn K (.ref B) "__getattribute__" = some (some (.builtin "type.__getattribute__"))
 y2:PySem.W.readsIn K B (.type "type")=true
 y3:PySem.W.findCls K (.ref B) (.type "type") "__init__" = some (.val (.ref fB))
 kp:PySem.W.keepIn K (.ref fB)=true
section
variable {X:Cx} {B fB:Addr} {y:Str} {np apos pos:Pos} {a:Expr} {es:List Expr} {ta:TA}
theorem MP {pl:Sem Bool} {j k:Nat} {fd:FuncData} {ps:List Str} {sp:Sp} (Z:BI X.K B fB) (Fn:FnOk X.prog X.w X.K X.mg X.base (cA X.prog X.w) j fB fd ps sp) (hr:Room k X.A) (hj:j<=k) (hb:Binds X.K fd ps []) (hg:Gl X y) (hm:X.mg y=some (.ref B)) (ha:PA X (a :: es) ta) (hdb:(y == ("__debug__" : Str))=false:=by decide)
  (hst:starEach (a :: es) X.env=(false,eval a X.env) :: starEach es X.env:=by rfl) (hpl:(backTo pos (starEach es X.env)).any (·.1)=false:=by rfl)
  (ht:eval (.Call (.Attribute (.Name y np) "__init__" apos) (a :: es) [] pos) X.env=(do
   let ov <- eval (.Name y np) X.env
   standAt apos.atName
   let (f,first) <- holding [ov] (getMethod ov "__init__" pl)
   callWith pos f first (backTo pos (starEach (a :: es) X.env)) (backToKw pos (keywordEach [] X.env))):=by rfl) :
  PE X (.Call (.Attribute (.Name y np) "__init__" apos) (a :: es) [] pos) (fun σ H Q=>ta σ H fun vs H1=>sp vs H1 Q (fun _ _ _=>False)):=by
 intro pins s σ H Q I h;refine PySem.W.methodCall_KW (pl:=pl) (j9 I hg hm ?_ hdb) ht;refine PySem.W.method_cls I.kIn Z.y1 (PySem.W.cls_value I.kIn Z.y2 Z.y3 rfl ?_);refine PySem.W.callWith_K (h₀:=X.base) I.ok.mod.kin Z.kp (cN (ha pos pins _ σ H _ (I.tok _) h) fun us s1 ⟨vs,H1,I1,r,q⟩=>⟨I1.kIn,?_⟩) hst hpl;exact Dn (dvs:=[]) (Fn.mono hj) hr hb .nil zy I1 r (by simpa using q)
end
mutual
noncomputable def rZ:D->Bool
 | .tup ds=>jB ds
 | .lst ds=>jB ds
 | .obj _ _ _=>false
 | .dic _ _=>false
 | .excf _ _ _=>false
 | _=>true
noncomputable def jB:List D->Bool
 | []=>true
 | d :: ds=>rZ d && jB ds
end
mutual
theorem Rep.oset {K:PySem.W.Frag} {H:Hp} {a C dx:Addr} {xs:List (Str×V)} {o:HO} (hH:H a=some (.ins C dx xs)):∀{d:D} {v:V},rZ d=true->Rep K H d v->Rep K (upd H a o) d v
 | .non,v,_,h=>by rw [Rep] at h ⊢; exact h
 | .bl _,v,_,h=>by rw [Rep] at h ⊢; exact h
 | .int _,v,_,h=>by rw [Rep] at h ⊢; exact h
 | .adr _,v,_,h=>by rw [Rep] at h ⊢; exact h
 | .str _,v,_,h=>by rw [Rep] at h ⊢; exact h
 | .lst ds,v,hf,h=>by
  obtain ⟨b,zs,rfl,hq,r⟩:=cP h;rw [Rep];refine ⟨b,zs,rfl,?_,Reps.oset hH (by rw [rZ] at hf; exact hf) r⟩;rcases hq with (hq | ⟨o,hq⟩) | hq
  ·exact .inl (.inl (by rw [aL (fun z=>by subst z; rw [hH] at hq; cases hq)]; exact hq))
  ·exact .inl (.inr ⟨o,by rw [aL (fun z=>by subst z; rw [hH] at hq; cases hq)]; exact hq⟩)
  ·exact .inr hq
 | .tup ds,v,hf,h=>by
  obtain ⟨b,zs,rfl,hq,r⟩:=cO h;rw [Rep];refine ⟨b,zs,rfl,?_,Reps.oset hH (by rw [rZ] at hf; exact hf) r⟩;rcases hq with (hq | ⟨o,hq⟩) | hq
  ·exact .inl (.inl (by rw [aL (fun z=>by subst z; rw [hH] at hq; cases hq)]; exact hq))
  ·exact .inl (.inr ⟨o,by rw [aL (fun z=>by subst z; rw [hH] at hq; cases hq)]; exact hq⟩)
  ·exact .inr hq
 | .exc n,v,_,h=>by
  rw [Rep] at h ⊢;obtain ⟨b,C,rfl,hC,hb⟩:=h;exact ⟨b,C,rfl,hC,by rw [aL (fun z=>by subst z; rw [hH] at hb; cases hb)]; exact hb⟩
 | .excf n f d,v,hf,h=>by rw [rZ] at hf; cases hf
 | .obj n f d,v,hf,h=>by rw [rZ] at hf; cases hf
 | .dic n d,v,hf,h=>by rw [rZ] at hf; cases hf
 | .dct,v,_,h=>by
  rw [Rep] at h ⊢;obtain ⟨b,rfl,hb⟩:=h;exact ⟨b,rfl,by rw [aL (fun z=>by subst z; rw [hH] at hb; cases hb)]; exact hb⟩
theorem Reps.oset {K:PySem.W.Frag} {H:Hp} {a C dx:Addr} {xs:List (Str×V)} {o:HO} (hH:H a=some (.ins C dx xs)):∀{ds:List D} {vs:List V},jB ds=true->Reps K H ds vs->Reps K (upd H a o) ds vs
 | [],_,_,h=>by cases h.nil_of; exact Reps.nil
 | d :: ds,_,hf,h=>by
  rw [jB,Bool.and_eq_true] at hf;obtain ⟨v,vs,rfl,r1,r2⟩:=h.cons_of;exact Reps.cons (Rep.oset hH hf.1 r1) (Reps.oset hH hf.2 r2)
end
noncomputable def zz (K:PySem.W.Frag):List (Str×Nat)->TS
 | []=>qC
 | (f,i) :: r=>fZ (e_ K (cG 0) (cG i) f) (zz K r)
theorem zA {f:Str} {v:V}:∀{fs:List (Str×V)},(fs.map (·.1)).contains f=false->bW f v fs=fs ++ [(f,v)]
 | [],_=>rfl
 | (g,x) :: r,h=>by
  rw [List.map_cons,List.contains_cons,Bool.or_eq_false_iff] at h;have ne:¬g=f:=fun z=>by subst z; simp at h
  rw [bW,if_neg ne,zA h.2]; rfl
noncomputable def pick (σ:St):List (Str×Nat)->Option (List V)
 | []=>some []
 | (_,i) :: r=>match σ[i]? with
  | some (some v)=>(pick σ r).map (v :: ·)
  | _=>none
theorem hN' {K:PySem.W.Frag} {D:Ends} {σ:St} {a C dx:Addr} (cl:Cls K C) (h0:σ[0]? = some (some (.ref a))):∀(l:List (Str×Nat)) (bs:List (Str×V)) (ws:List V) (H:Hp),H a=some (.ins C dx bs)->pick σ l=some ws->(∀p∈l,NoAttr K C p.1)->bs.length + l.length<=900->(bs.map (·.1) ++ l.map (·.1)).Nodup ->
  D.nx σ (upd H a (.ins C dx (bs ++ (l.map (·.1)).zip ws)))->zz K l D σ H
 | [],bs,ws,H,hH,hp,_,_,_,h=>by
  cases hp
  rw [List.map_nil,List.zip_nil_left,List.append_nil,Mz hH] at h;exact h
 | (f,i) :: r,bs,ws,H,hH,hp,hn,hl,nd,h=>by
  unfold pick at hp
  split at hp
  ·rename_i v hv
   cases z:pick σ r with
   | none=>rw [z] at hp; cases hp
   | some us =>
    rw [z] at hp
    cases hp
    have nf:(bs.map (·.1)).contains f=false:=by
     rw [List.map_cons,List.nodup_append] at nd
     by_cases c:f∈bs.map (·.1)
     ·exact absurd rfl (nd.2.2 f c f (by simp))
     ·simpa using c
    refine ⟨v,hv,.ref a,h0,a,C,dx,bs,rfl,hH,cl,hn (f,i) (by simp),by rw [List.length_cons] at hl; omega,?_⟩;refine hN' cl h0 r (bW f v bs) us _ bR z (fun p hp=>hn p (by simp [hp])) (by rw [zA nf,List.length_append]; rw [List.length_cons] at hl; show _ + 1 + _<=_; omega) ?_ ?_
    ·rw [zA nf,List.map_append,List.append_assoc];simpa using nd
    ·rw [upd_upd,zA nf,List.append_assoc];exact h
  ·cases hp
noncomputable def gI (n:Nat) (fa:DS->Res (List D)) (ix:List Nat):List D->Res (List D):=fun ds=>match fa (none :: ds.map fun d=>some (.arg d)) with
 | .ok as=>if ds.length=n/\as.length=3/\jB (as ++ ix.filterMap fun i=>ds[i]?)=true/\(∀i∈ix,i < ds.length) then .ok (as ++ ix.filterMap fun i=>ds[i]?) else .stuck
 | _=>.stuck
theorem Ga {K:PySem.W.Frag} {H:Hp} {ds:List D} {us:List V} {v0:V} (r:Reps K H ds us):∀(l:List (Str×Nat)),(∀p∈l,p.2 < ds.length)->∃ws,pick ((v0 :: us).map some ++ []) (l.map fun p=>(p.1,p.2 + 1))=some ws/\Reps K H (l.filterMap fun p=>ds[p.2]?) ws/\ws.length=l.length
 | [],_=>⟨[],rfl,Reps.nil,rfl⟩
 | (f,i) :: l,h=>by
  obtain ⟨ws,e,rr,hl⟩:=Ga r l fun p hp=>h p (by simp [hp]);have hi:i < ds.length:=h (f,i) (by simp);obtain ⟨v,ev,rv⟩:=r.get (List.getElem?_eq_getElem hi);refine ⟨v :: ws,?_,?_,by simp [hl]⟩
  ·have:((v0 :: us).map some ++ [])[i + 1]? = some (some v):=by simp [ev]
   show (match ((v0 :: us).map some ++ [])[i + 1]? with | some (some v)=>(pick ((v0 :: us).map some ++ []) (l.map fun p:Str×Nat=>(p.1,p.2 + 1))).map (v :: ·) | _=>none)=_
   rw [this,e]; rfl
  ·rw [List.filterMap_cons,List.getElem?_eq_getElem hi];exact Reps.cons rv rr
section
variable {P:Program} {w:World} {K:PySem.W.Frag} {mg:Str->Option Value} {base:Heap}
theorem MT {qual:Str} {st:Stmt} {f C:Addr} {fd:FuncData} {qs:List Str} {f1 f2 f3:Str} {k:Nat} {fa:DS->Res (List D)} {l:List (Str×Nat)} (F:Fun K "__init__" qual st f fd) (S:FnScope ("self" :: qs) ("self" :: qs) (ao st)) (cl:Cls K C) (n1:NoAttr K C f1) (n2:NoAttr K C f2) (n3:NoAttr K C f3) (nl:∀p∈l,NoAttr K C p.1) (nd:([f1,f2,f3] ++ l.map (·.1)).Nodup) (hl:l.length<=100)
  (hb:∀(cdv:Value) (A:Around) (outer:List Env) (s:Shared) (H:Hp) (E:XK),Room k (A.deeper (envOfC qual (ao st) s.heap.objs.size f cdv))->PSs (bN (cA P w) P w K mg base ("self" :: qs) qual (ao st) f cdv A outer s H E) (aD st)
   (fZ (lM fun σ H Q=>lN (cG 0) (fun σ H Q=>∃G δ ds,RepSt K G H σ δ/\fa δ=.ok ds/\∀vs H',Same H H'->Reps K H' ds vs->Q vs H') σ H fun vs H1=>vU K f1 f2 f3 vs H1 Q (fun _ _ _=>False)) (zz K (l.map fun p=>(p.1,p.2 + 1))))) :
  FnOk P w K mg base (cA P w) (k + 1) f fd ("self" :: qs) (F_ K C ([f1,f2,f3] ++ l.map (·.1)) (gI qs.length fa (l.map (·.2)))):=by
 have key:∀{ds es:List D},gI qs.length fa (l.map (·.2)) ds=.ok es->∃as,fa (none :: ds.map fun d=>some (.arg d))=.ok as/\ds.length=qs.length/\as.length=3/\jB es=true/\(∀p∈l,p.2 < ds.length)/\es=as ++ l.filterMap fun p=>ds[p.2]?:=fun {ds es} h=>by
  unfold gI at h
  split at h
  ·rename_i as q
   split at h
   ·rename_i c
    cases h
    refine ⟨as,q,c.1,c.2.1,c.2.2.1,fun p hp=>c.2.2.2 _ (List.mem_map.mpr ⟨p,hp,rfl⟩),by rw [List.filterMap_map]; rfl⟩
   ·cases h
  ·cases h
 obtain ⟨oc,od,kV,doc,pm,an,cdv,ct,osl,rfl,lk,hcd⟩:=F.ex;refine pC lk hcd S (fun vs H Q E ⟨a,dx,ds,us,es,e,hH,r,h,_⟩=>by
  obtain ⟨as,_,h2,_⟩:=key h;rw [e,List.length_cons,List.length_cons,r.length,h2]) fun A outer s H vs Q E hr ⟨a,dx,ds,us,es,e,hH,r,h,hQ⟩=>⟨_,hb cdv A outer s H E hr,?_⟩
 obtain ⟨as,q,h2,h3,ho,hi,rfl⟩:=key h;subst e;have σe:start ("self" :: qs) (V.ref a :: us)=(V.ref a :: us).map some ++ []:=by
  unfold L2.start;rw [List.length_cons,List.length_cons,r.length,h2,Nat.sub_self]; rfl
 rw [σe];obtain ⟨ws,pe,pr,pl⟩:=Ga (v0:=V.ref a) r l hi;refine ⟨.ref a,rfl,H,none :: ds.map fun d=>some (.arg d),as,⟨Same.refl H,by simp [r.length],fun i sv z=>?_,fun i j x y v _ z=>?_⟩,q,fun vs' H1 sm rv=>?_⟩
 ·cases i with
  | zero=>cases z
  | succ i =>
   rw [List.getElem?_cons_succ,List.getElem?_map] at z
   cases d:ds[i]? with
   | none=>rw [d] at z; cases z
   | some d' =>
    rw [d] at z; cases z;obtain ⟨v,e1,e2⟩:=r.get d;exact ⟨v,by simp [e1],e2⟩
 ·cases i with
  | zero=>cases z
  | succ i =>
   rw [List.getElem?_cons_succ,List.getElem?_map] at z
   cases d:ds[i]? with
   | none=>rw [d] at z; cases z
   | some d'=>rw [d] at z; cases z
 ·have l3:=rv.length;rw [h3] at l3
  match vs',l3 with
  | [v1,v2,v3],_ =>
   refine ⟨a,C,dx,v1,v2,v3,rfl,sm a _ hH,cl,n1,n2,n3,?_⟩;refine hN' cl rfl _ _ ws _ bR pe (fun p hp=>?_) (by simp; omega) ?_ ?_
   ·obtain ⟨p',hp',rfl⟩:=List.mem_map.mp hp;exact nl p' hp'
   ·simpa [Function.comp_def] using nd
   ·rw [upd_upd];have ez:([(f1,v1),(f2,v2),(f3,v3)] ++ ((l.map fun p=>(p.1,p.2 + 1)).map (·.1)).zip ws)=([f1,f2,f3] ++ l.map (·.1)).zip ([v1,v2,v3] ++ ws):=by
     simp [Function.comp_def]
    rw [ez];refine hQ _ ([v1,v2,v3] ++ ws) (fun b o hb hh=>by rw [aL hb]; exact sm b o hh) bR (by simp [pl]) ?_;exact Reps.oset (sm a _ hH) ho (rv.append (pr.mono sm))
end
end DL
namespace DL
open PySem PySem.Spec PyProof.Rows L2
noncomputable def ig (K:PySem.W.Frag) (f:Addr) (x qual:Str) (st:Stmt):Prop:=∃fd:FuncData,Fun K x qual st f fd
section
variable {K:PySem.W.Frag} {f:Addr} {x qual:Str} {st:Stmt}
theorem lka_mk {oc:Value} {od an:Option Addr} {osl:Array (Option Value)} {kV doc pm cdv ct:Value} (l:K.lookup f=some ⟨oc,od,.func (PySem.W.fnOf x qual (aX st) (aD st) (ao st) .none kV doc pm an cdv ct),osl⟩)
  (c:PySem.W.codeIn K cdv qual=true) (k:PySem.W.keepIn K (.ref f)=true):ig K f x qual st:=⟨_,An l c k⟩
noncomputable def cU (K:PySem.W.Frag) (aU:Str->Bool) (m qual:Str) (st:Stmt) (ps:List Str):Prop:=∃(f:Addr) (fd:FuncData),Fun K m qual st f fd/\Binds K fd ps []/\zx K aU m f
end
theorem uJ (P:Program) (w:World) {K:PySem.W.Frag} {mg:Str->Option Value} (base:Heap) {aU:Str->Bool} {m qual:Str} {st:Stmt} {N ps:List Str} (k:Nat) (body:DS->Out) (F:cU K aU m qual st ps) (S:FnScope N ps (ao st))
  (hb:∀(f:Addr) (cdv:Value) (A:Around) (outer:List Env) (s:Shared) (H:Hp) (E:XK),Room k (A.deeper (envOfC qual (ao st) s.heap.objs.size f cdv))->PSDs (bN (cA P w) P w K mg base N qual (ao st) f cdv A outer s H E) (aD st) body) :
  g8 P w K mg base (k + 1) aU m (bJ ps.length N.length body):=by
 obtain ⟨f,fd,F,B,M⟩:=F;exact ⟨f,fd,ps,Bm F S (hb f),B,M⟩
theorem sr (P:Program) (w:World) {K:PySem.W.Frag} {mg:Str->Option Value} (base:Heap) {aU:Str->Bool} {m qual:Str} {st:Stmt} {N ps:List Str} (k:Nat) (body:DS->Out) (F:cU K aU m qual st ps) (S:FnScope N ps (ao st))
  (hb:∀(f:Addr) (cdv:Value) (A:Around) (outer:List Env) (s:Shared) (H:Hp) (E:XK),Room k (A.deeper (envOfC qual (ao st) s.heap.objs.size f cdv))->BX (bN (cA P w) P w K mg base N qual (ao st) f cdv A outer s H E) (aD st) body) :
  gm P w K mg base (k + 1) aU m (bJ ps.length N.length body):=by
 obtain ⟨f,fd,F,B,M⟩:=F;exact ⟨f,fd,ps,MK F S (hb f),B,M⟩
noncomputable def qU (P:Program) (w:World) (K:PySem.W.Frag) (mg:Str->Option Value) (base:Heap) (k:Nat) (y f1 f2 f3:Str):Prop :=
 ∃(B fB:Addr) (fd:FuncData) (ps:List Str),BI K B fB/\FnOk P w K mg base (cA P w) k fB fd ps (vU K f1 f2 f3)/\Binds K fd ps []/\mg y=some (.ref B)
theorem M3 {P:Program} {w:World} {K:PySem.W.Frag} {mg:Str->Option Value} {base:Heap} {k:Nat} {B fB:Addr} {y qual:Str} {st:Stmt} {p1 p2 p3 f1 f2 f3:Str} (Z:BI K B fB) (L:ig K fB "__init__" qual st) (hm:mg y=some (.ref B)) (S:FnScope ["self",p1,p2,p3] ["self",p1,p2,p3] (ao st)) (h12:f1≠f2) (h13:f1≠f3) (h23:f2≠f3)
  (hb:∀(cdv:Value) (A:Around) (outer:List Env) (s:Shared) (H:Hp) (E:XK),PSs (bN (cA P w) P w K mg base ["self",p1,p2,p3] qual (ao st) fB cdv A outer s H E) (aD st) (fZ (e_ K (cG 0) (cG 1) f1) (fZ (e_ K (cG 0) (cG 2) f2) (e_ K (cG 0) (cG 3) f3))))
  (hbi:∀(kV doc pm:Value) (an:Option Addr) (cdv ct a b c d:Value),bindArgs (PySem.W.fnOf "__init__" qual (aX st) (aD st) (ao st) .none kV doc pm an cdv ct) ⟨[a,b,c,d],[]⟩=pure [(("self" : Str),a),(p1,b),(p2,c),(p3,d)]:=by intros; rfl):qU P w K mg base (k + 1) y f1 f2 f3:=by
 obtain ⟨fd,F⟩:=L;exact ⟨B,fB,fd,_,Z,MN F S h12 h13 h23 hb,F.binds fun _ _ _ _ _ _ us hl=>match us,hl with | [_,_,_,_],_=>hbi _ _ _ _ _ _ _ _ _ _,hm⟩
section
variable {X:Cx} {y f1 f2 f3:Str} {np apos pos:Pos} {a:Expr} {es:List Expr} {ta:TA}
theorem lg {pl:Sem Bool} {j k:Nat} (Fn:qU X.prog X.w X.K X.mg X.base j y f1 f2 f3) (hr:Room k X.A) (ha:PA X (a :: es) ta) (hj:j<=k:=by first | decide | omega) (hg:Gl X y:=by exact rfl) (hdb:(y == ("__debug__" : Str))=false:=by decide)
  (hst:starEach (a :: es) X.env=(false,eval a X.env) :: starEach es X.env:=by rfl) (hpl:(backTo pos (starEach es X.env)).any (·.1)=false:=by rfl)
  (ht:eval (.Call (.Attribute (.Name y np) "__init__" apos) (a :: es) [] pos) X.env=(do
   let ov <- eval (.Name y np) X.env
   standAt apos.atName
   let (f,first) <- holding [ov] (getMethod ov "__init__" pl)
   callWith pos f first (backTo pos (starEach (a :: es) X.env)) (backToKw pos (keywordEach [] X.env))):=by rfl) :
  PE X (.Call (.Attribute (.Name y np) "__init__" apos) (a :: es) [] pos) (fun σ H Q=>ta σ H fun vs H1=>vU X.K f1 f2 f3 vs H1 Q (fun _ _ _=>False)):=by
 obtain ⟨B,fB,fd,ps,Z,Fn,hb,hm⟩:=Fn;exact MP Z Fn hr hj hb hg hm ha hdb hst hpl ht
end
noncomputable def ik (K:PySem.W.Frag) (mg:Str->Option Value) (c qual:Str) (st:Stmt) (ps fs:List Str):Prop :=
 ∃(C f:Addr) (fd:FuncData),Mk K C f/\Fun K "__init__" qual st f fd/\Binds K fd ps []/\mg c=some (.ref C)/\PySem.W.nsIn K mainGlobals c=some (some (.ref C))/\Cls K C/\∀g∈fs,NoAttr K C g
theorem jC {K:PySem.W.Frag} {mg:Str->Option Value} {c qual:Str} {st:Stmt} {ps fs:List Str} {C f:Addr} (M:Mk K C f) (L:ig K f "__init__" qual st) (hm:mg c=some (.ref C)) (hn:PySem.W.nsIn K mainGlobals c=some (some (.ref C))) (cl:Cls K C) (na:∀g∈fs,NoAttr K C g)
  (hb:∀(kV doc pm:Value) (an:Option Addr) (cdv ct:Value) (us:List Value),us.length=ps.length->bindArgs (PySem.W.fnOf "__init__" qual (aX st) (aD st) (ao st) .none kV doc pm an cdv ct) ⟨us,[]⟩=pure (ps.zip us)):ik K mg c qual st ps fs:=by
 obtain ⟨fd,F⟩:=L;exact ⟨C,f,fd,M,F,F.binds fun kV doc pm an cdv ct us hl=>hb kV doc pm an cdv ct us hl,hm,hn,cl,na⟩
theorem uK {P:Program} {w:World} {K:PySem.W.Frag} {mg:Str->Option Value} {base:Heap} {c qual:Str} {st:Stmt} {qs:List Str} {f1 f2 f3:Str} (k:Nat) (fa:DS->Res (List D)) (l:List (Str×Nat)) (F:ik K mg c qual st ("self" :: qs) ([f1,f2,f3] ++ l.map (·.1))) (S:FnScope ("self" :: qs) ("self" :: qs) (ao st)) (nd:([f1,f2,f3] ++ l.map (·.1)).Nodup) (hl:l.length<=100)
  (hb:∀(f:Addr) (cdv:Value) (A:Around) (outer:List Env) (s:Shared) (H:Hp) (E:XK),Room k (A.deeper (envOfC qual (ao st) s.heap.objs.size f cdv))->PSs (bN (cA P w) P w K mg base ("self" :: qs) qual (ao st) f cdv A outer s H E) (aD st)
   (fZ (lM fun σ H Q=>lN (cG 0) (fun σ H Q=>∃G δ ds,RepSt K G H σ δ/\fa δ=.ok ds/\∀vs H',Same H H'->Reps K H' ds vs->Q vs H') σ H fun vs H1=>vU K f1 f2 f3 vs H1 Q (fun _ _ _=>False)) (zz K (l.map fun p=>(p.1,p.2 + 1))))) :
  jh P w K mg base (k + 1) c ([f1,f2,f3] ++ l.map (·.1)) (gI qs.length fa (l.map (·.2))):=by
 obtain ⟨C,f,fd,M,F,B,hm,hn,cl,na⟩:=F;exact ⟨C,f,fd,_,M,MT F S cl (na _ (by simp)) (na _ (by simp)) (na _ (by simp)) (fun p hp=>na _ (by simp only [List.mem_append,List.mem_map]; exact .inr ⟨p,hp,rfl⟩)) nd hl (hb f),B,hm,hn⟩
theorem Gb {X:Cx} {e:Expr} {fs:DS->Res (List D)} {p pos:Pos} (hg:Gl X "list") (hm:X.mg "list" = none) (ha:PAD X [e] fs) (he:starEach [e] X.env=(false,eval e X.env) :: starEach [] X.env:=by rfl) (hpl:(backTo pos (starEach [] X.env)).any (·.1)=false:=by rfl) :
  PDL X (.Call (.Name "list" p) [e] [] pos) (fun δ=>(fs δ).bind gM):=by
 intro pins s σ G H δ I R hs
 try dsimp only at hs ⊢
 refine wpAny_Call_Name_kw (oN I hg hm boot_list (PyProof.Rows.callWith_type1 (ha.use I R (dF hs) (fun ds us s1 vs H1 q I1 r1 e1 b1 p1=>?_) fun e s1 q=>q.same fun x z=>dU z) he hpl) (by decide) (by decide));have h2:=dX hs q;have fin:∀{b:Addr} {ys:List V} {es:List D},vs=[.ref b]->(SqL X.K H1 b ys\/SqT X.K H1 b ys)->Reps X.K H1 es ys->gM ds=.ok (.lst es)->wpAny (model X.prog X.w) X.A (call (.type "list") us) (qT X pins σ H ((fs δ).bind gM)) (XPost X pins σ H s.heap ((fs δ).bind gM)) s1:=fun {b ys es} ev sq rr hl=>by
  subst ev;refine wpAny_mono (Mw (X:=X) (fun _ _=>False) pins s1 σ H1 _ us (fun v H'=>∃l,v=.ref l/\H1 l=none/\H'=upd H1 l (.lst ys)) (I1.wish _) r1 ⟨b,ys,rfl,sq,fun l hl=>⟨l,rfl,hl,rfl⟩⟩) (fun u s2 ⟨v,H',I2,rv,l,ev,hl',eH⟩=>?_) fun _ _ z=>z.elim;subst ev eH;refine ⟨es,l,ys,_,by rw [q,Res.bind_ok,hl],I2.unwish,rv,e1.trans (gb hl' _),e1.free hl',bR,rr.mono (gb hl' _)⟩
 unfold gM at h2
 split at h2
 ·rename_i es;obtain ⟨v,vs',rfl,w1,t⟩:=p1.cons_of
  cases t.nil_of
  obtain ⟨a,ys,rfl,x1,x2⟩:=cP w1;exact fin rfl (.inl x1) x2 rfl
 ·rename_i es;obtain ⟨v,vs',rfl,w1,t⟩:=p1.cons_of
  cases t.nil_of
  obtain ⟨a,ys,rfl,x1,x2⟩:=cO w1;exact fin rfl (.inr x1) x2 rfl
 ·exact (h2 rfl).elim
section
variable {X:Cx} {body:List Stmt} {h0:ExceptHandler} {hs:List ExceptHandler} {fb:DS->Out} {pos:Pos}
end
noncomputable def qW (K:PySem.W.Frag) (x:Str) (ss:List Str):Prop:=∃a,PySem.W.nsIn K mainGlobals x=some (some (.ref a))/\∀H,Rep K H (.tup (ss.map .str)) (.ref a)
theorem Gd {K:PySem.W.Frag} {x:Str} {a:Addr} {od:Option Addr} {its:List Value} {n:Nat} {sl:Array (Option Value)} {ss:List Str} (h:PySem.W.nsIn K mainGlobals x=some (some (.ref a))) (l:K.lookup a=some ⟨.type "tuple",od,.seq its.toArray n,sl⟩) (hz:its.length<=100) (r:Vals (ss.map .str) its):qW K x ss:=by
 refine ⟨a,h,fun H=>?_⟩;rw [Rep];refine ⟨a,_,rfl,.inr ⟨_,_,n,l,rfl,rfl,?_,by simpa using r⟩,?_⟩
 ·rw [List.size_toArray]; exact Nat.le_trans hz (by decide)
 ·clear r l hz
  induction ss with
  | nil=>exact Reps.nil
  | cons s ss ih=>exact Reps.cons (by rw [Rep]) ih
theorem gtk1 {K:PySem.W.Frag} {x:Str} {a:Addr} {od:Option Addr} {n:Nat} {t:Tok} {sl:Array (Option Value)} {s:Str} (h:PySem.W.nsIn K mainGlobals x=some (some (.ref a))) (l:K.lookup a=some ⟨.type "tuple",od,.seq #[.str s t] n,sl⟩):qW K x [s]:=Gd (its:=[.str s t]) h l (by simp) (.cons ⟨t,rfl⟩ .nil)
theorem gtk2 {K:PySem.W.Frag} {x:Str} {a:Addr} {od:Option Addr} {n:Nat} {t t':Tok} {sl:Array (Option Value)} {s s':Str} (h:PySem.W.nsIn K mainGlobals x=some (some (.ref a))) (l:K.lookup a=some ⟨.type "tuple",od,.seq #[.str s t,.str s' t'] n,sl⟩):qW K x [s,s']:=Gd (its:=[.str s t,.str s' t']) h l (by simp) (.cons ⟨t,rfl⟩ (.cons ⟨t',rfl⟩ .nil))
noncomputable def GT (K:PySem.W.Frag) (mg:Str->Option Value) (x:Str) (ss:List Str):Prop:=∃a,mg x=some (.ref a)/\∀H,Rep K H (.tup (ss.map .str)) (.ref a)
theorem zB {K:PySem.W.Frag} {mg:Str->Option Value} {h:Heap} {x:Str} {ss:List Str} (X:K.In h) (G:h.Ns mainGlobals mg) (g:qW K x ss):GT K mg x ss:=by
 obtain ⟨a,n,r⟩:=g;exact ⟨a,PySem.W.mg_of X G n,r⟩
theorem oV {X:Cx} {x:Str} {pos:Pos} {ss:List Str} (hg:Gl X x) (hm:GT X.K X.mg x ss) (hdb:(x == ("__debug__" : Str))=false:=by decide):PD X (.Name x pos) (fun _=>.ok (.tup (ss.map .str))):=by
 obtain ⟨a,h,r⟩:=hm;exact Ar (v:=.ref a) hg h rfl r hdb
noncomputable def ji:D->List D->Res D
 | .str x,[.lst ds]=>(match strsOf ds with
  | some ys=>if (ys.map (·.length)).sum + ys.length * x.length<=16777216 then .ok (.str (Txt.join x ys)) else .stuck
  | none=>.stuck)
 | _,_=>.stuck
theorem kN' (d:D) (ds:List D):aJ (ji d ds):=by
 unfold ji
 split
 ·split
  ·exact as' cH bT
  ·exact bT
 ·exact bT
theorem Ge:∀{xs:List Str} {us:List Value},Vals (xs.map V.str) us->StrsAre us xs
 | [],_,h=>by cases h; exact .nil
 | x :: xs,_,h=>by
  cases h with
  | cons r q =>
   obtain ⟨t,rfl⟩:=r;exact .cons _ _ (Ge q)
theorem M4 {X:Cx}:vH X "str.join" ji:=by
 intro E pins s σ H x xs v us a ds d I r1 r2 p1 p2 e;unfold ji at e
 split at e
 ·rename_i x es
  split at e
  ·rename_i ys hy
   split at e
   ·rename_i hp
    cases e
    rw [cI p1] at r1;obtain ⟨t,rfl⟩:=r1;obtain ⟨v2,vs,rfl,p3,t3⟩:=p2.cons_of
    cases t3.nil_of
    obtain ⟨u,rfl,r3⟩:=vals1 r2;obtain ⟨l,zs,rfl,hq,rr⟩:=cP p3
    cases r3
    rw [zm hy] at rr;obtain ⟨its,rv,pl,hz⟩:=I.list hq;rw [zp rr] at rv;exact join_list pl.isList (by simpa using Ge rv) hp fun t' k=>⟨_,.str _,H,rfl,I.tok _,⟨_,rfl⟩,Same.refl H,je⟩
   ·cases e
  ·cases e
 ·cases e
noncomputable def gP:D->D->Res D
 | .str x,.tup ds=>(match strsOf ds with | some xs=>.ok (.bl (!xs.contains x)) | none=>.stuck)
 | x,y=>gG x y
theorem M5 (x y:D):aJ (gP x y):=by
 unfold gP
 split
 ·split
  ·exact cH
  ·exact bT
 ·exact Mt _ _
theorem M6 (i:Str) (ns:List Str):inV (.str i) (ns.map V.str)=ns.contains i:=by
 unfold inV
 induction ns with
 | nil=>rfl
 | cons n ns ih =>
  rw [List.map_cons,List.any_cons,ih,List.contains_cons]
  congr 1
  show (n == i)=(i == n);exact Bool.eq_iff_iff.mpr ⟨fun h=>beq_iff_eq.mpr (beq_iff_eq.mp h).symm,fun h=>beq_iff_eq.mpr (beq_iff_eq.mp h).symm⟩
theorem hQ' (ns:List Str):(ns.map V.str).all eE=true:=by
 induction ns with
 | nil=>rfl
 | cons n ns ih=>rw [List.map_cons,List.all_cons,ih]; rfl
noncomputable def lZ:D->D->Res D
 | .str x,.tup ds=>(match strsOf ds with | some xs=>.ok (.bl (!xs.contains x)) | none=>.stuck)
 | _,_=>.stuck
theorem hR' {X:Cx}:OpD X (compareOp .NotIn) lZ:=OpD.of (r:=Ak X.K true) (fun E=>DG (X:=X.wish E)) fun H x y a b d Q p1 p2 e q=>by
 unfold lZ at e
 split at e
 ·rename_i i ds
  split at e
  ·rename_i ns hn
   cases e
   rw [zm hn] at p2;obtain ⟨t,xs,rfl,hq,r⟩:=cO p2;have:=zp r;subst this;rw [cI p1];refine ⟨t,_,rfl,.inr hq,rfl,hQ' ns,?_⟩;rw [if_pos rfl,M6];exact q _ H (Same.refl H) km
  ·cases e
 ·cases e
theorem hS' {X:Cx}:OpD X (compareOp .NotIn) gP:=by
 intro E pins s σ H x y v u a b d I r1 r2 p1 p2 e;unfold gP at e
 split at e
 ·exact hR' E pins s σ H x y v u _ _ d I r1 r2 p1 p2 e
 ·exact Mu E pins s σ H x y v u _ _ d I r1 r2 p1 p2 e
section
variable {X:Cx} {tg:Expr}
end
section
variable {X:Cx} {tg:Expr} {t:cX} {body:List Stmt} {fb:DS->Out} {pos:Pos} {G H:Hp} {E:Ends}
end
noncomputable def cg:D->D->Res D
 | .obj _ _ _,.non=>.ok (.bl false)
 | a,b=>iR a b
theorem zE (x y:D):aJ (cg x y):=by
 unfold cg
 split <;> first | exact cH | exact ht' _ _
theorem M7 {K:PySem.W.Frag} {H:Hp} {a b d:D} {x y:V} (p1:Rep K H a x) (p2:Rep K H b y) (e:cg a b=.ok d):y=.non/\d=.bl (decide (x=.non)):=by
 cases a with
 | obj c fs ds =>
  cases b with
  | non=>cases e; rw [Rep] at p1; rw [Rep] at p2; subst p2; obtain ⟨_,_,_,_,rfl,_⟩:=p1; exact ⟨rfl,rfl⟩
  | _=>cases e
 | _=>exact hu' p1 p2 e
theorem zF {X:Cx}:OpD X (compareOp .Is) cg:=.of (fun _=>Ja) fun H x y a b d Q p1 p2 e q=>by
 obtain ⟨h1,rfl⟩:=M7 p1 p2 e;exact ⟨h1,q _ H (Same.refl H) rR⟩
noncomputable def hid (H:Hp) (a:Addr):Hp:=fun b=>if b=a then none else H b
theorem oW {H:Hp} {a b:Addr} (h:b≠a):hid H a b=H b:=if_neg h
section
variable {X:Cx} {pins:List (Addr×Obj)} {σ:St} {H H1:Hp} {s s1:Shared} {a:Addr} {xs:List V} {o:Obj}
end
noncomputable def scal:D->Bool
 | .non=>true
 | .bl _=>true
 | .int _=>true
 | .str _=>true
 | _=>false
noncomputable def vV:List D->Bool
 | []=>true
 | d :: _=>scal d
mutual
noncomputable def su:D->Bool
 | .tup ds=>lq ds
 | .lst ds=>vV ds && lq ds
 | .excf _ _ _=>false
 | .obj _ _ _=>false
 | .dic _ _=>false
 | _=>true
noncomputable def lq:List D->Bool
 | []=>true
 | d :: ds=>su d && lq ds
end
theorem M8 {K:PySem.W.Frag} {H:Hp} {d:D} {c:Addr} (h:scal d=true) (r:Rep K H d (.ref c)):False:=by
 cases d <;> first | (rw [Rep] at r; cases r; done) | (cases h; done)
mutual
theorem Rep.hideS {K:PySem.W.Frag} {H:Hp} {a c:Addr} {ys:List V} (hH:H a=some (.lst (.ref c :: ys))):∀{d:D} {v:V},su d=true->Rep K H d v->Rep K (hid H a) d v
 | .non,v,_,h=>by rw [Rep] at h ⊢; exact h
 | .bl _,v,_,h=>by rw [Rep] at h ⊢; exact h
 | .int _,v,_,h=>by rw [Rep] at h ⊢; exact h
 | .adr _,v,_,h=>by rw [Rep] at h ⊢; exact h
 | .str _,v,_,h=>by rw [Rep] at h ⊢; exact h
 | .lst ds,v,hf,h=>by
  obtain ⟨b,zs,rfl,hq,r⟩:=cP h;rw [su,Bool.and_eq_true] at hf;refine jT ?_ (Reps.hideS hH hf.2 r);rcases hq with (hq | ⟨o,hq⟩) | hq
  ·refine .inl (.inl ?_);rw [oW (fun z=>?_)]
   ·exact hq
   ·subst z;rw [hH] at hq
    cases hq
    cases ds with
    | nil=>cases r.nil_of
    | cons d ds =>
     obtain ⟨v,vs,e,r1,_⟩:=r.cons_of
     cases e
     exact M8 hf.1 r1
  ·exact .inl (.inr ⟨o,by rw [oW (fun z=>by subst z; rw [hH] at hq; cases hq)]; exact hq⟩)
  ·exact .inr hq
 | .tup ds,v,hf,h=>by
  obtain ⟨b,zs,rfl,hq,r⟩:=cO h;rw [su] at hf;refine iJ ?_ (Reps.hideS hH hf r);rcases hq with (hq | ⟨o,hq⟩) | hq
  ·exact .inl (.inl (by rw [oW (fun z=>by subst z; rw [hH] at hq; cases hq)]; exact hq))
  ·exact .inl (.inr ⟨o,by rw [oW (fun z=>by subst z; rw [hH] at hq; cases hq)]; exact hq⟩)
  ·exact .inr hq
 | .exc n,v,_,h=>by
  rw [Rep] at h ⊢;obtain ⟨b,C,rfl,hC,hb⟩:=h;exact ⟨b,C,rfl,hC,by rw [oW (fun z=>by subst z; rw [hH] at hb; cases hb)]; exact hb⟩
 | .excf n f d,v,hf,h=>by rw [su] at hf; cases hf
 | .obj n f d,v,hf,h=>by rw [su] at hf; cases hf
 | .dic n d,v,hf,h=>by rw [su] at hf; cases hf
 | .dct,v,_,h=>by
  rw [Rep] at h ⊢;obtain ⟨b,rfl,hb⟩:=h;exact ⟨b,rfl,by rw [oW (fun z=>by subst z; rw [hH] at hb; cases hb)]; exact hb⟩
theorem Reps.hideS {K:PySem.W.Frag} {H:Hp} {a c:Addr} {ys:List V} (hH:H a=some (.lst (.ref c :: ys))):∀{ds:List D} {vs:List V},lq ds=true->Reps K H ds vs->Reps K (hid H a) ds vs
 | [],_,_,h=>by cases h.nil_of; exact Reps.nil
 | d :: ds,_,hf,h=>by
  rw [lq,Bool.and_eq_true] at hf;obtain ⟨v,vs,rfl,r,q⟩:=h.cons_of;exact Reps.cons (Rep.hideS hH hf.1 r) (Reps.hideS hH hf.2 q)
end
mutual
theorem Rep.hideF {K:PySem.W.Frag} {H:Hp} {a:Addr} {xs:List V} (hH:H a=some (.lst xs)):∀{d:D} {v:V},aO d=true->Rep K H d v->Rep K (hid H a) d v
 | .non,v,_,h=>by rw [Rep] at h ⊢; exact h
 | .bl _,v,_,h=>by rw [Rep] at h ⊢; exact h
 | .int _,v,_,h=>by rw [Rep] at h ⊢; exact h
 | .adr _,v,_,h=>by rw [Rep] at h ⊢; exact h
 | .str _,v,_,h=>by rw [Rep] at h ⊢; exact h
 | .lst _,v,hf,_=>by rw [aO] at hf; cases hf
 | .tup ds,v,hf,h=>by
  obtain ⟨b,zs,rfl,hq,r⟩:=cO h;rw [aO] at hf;refine iJ ?_ (Reps.hideF hH hf r);rcases hq with (hq | ⟨o,hq⟩) | hq
  ·exact .inl (.inl (by rw [oW (fun z=>by subst z; rw [hH] at hq; cases hq)]; exact hq))
  ·exact .inl (.inr ⟨o,by rw [oW (fun z=>by subst z; rw [hH] at hq; cases hq)]; exact hq⟩)
  ·exact .inr hq
 | .exc n,v,_,h=>by
  rw [Rep] at h ⊢;obtain ⟨b,C,rfl,hC,hb⟩:=h;exact ⟨b,C,rfl,hC,by rw [oW (fun z=>by subst z; rw [hH] at hb; cases hb)]; exact hb⟩
 | .excf n f d,v,hf,h=>by rw [aO] at hf; cases hf
 | .obj n f d,v,hf,h=>by rw [aO] at hf; cases hf
 | .dic n d,v,hf,h=>by rw [aO] at hf; cases hf
 | .dct,v,_,h=>by
  rw [Rep] at h ⊢;obtain ⟨b,rfl,hb⟩:=h;exact ⟨b,rfl,by rw [oW (fun z=>by subst z; rw [hH] at hb; cases hb)]; exact hb⟩
theorem Reps.hideF {K:PySem.W.Frag} {H:Hp} {a:Addr} {xs:List V} (hH:H a=some (.lst xs)):∀{ds:List D} {vs:List V},bc ds=true->Reps K H ds vs->Reps K (hid H a) ds vs
 | [],_,_,h=>by cases h.nil_of; exact Reps.nil
 | d :: ds,_,hf,h=>by
  rw [bc,Bool.and_eq_true] at hf;obtain ⟨v,vs,rfl,r,q⟩:=h.cons_of;exact Reps.cons (Rep.hideF hH hf.1 r) (Reps.hideF hH hf.2 q)
end
noncomputable def vW:List D->Bool
 | []=>true
 | .lst _ :: _=>true
 | _=>false
theorem Reps.hideL {K:PySem.W.Frag} {H:Hp} {a:Addr} {xs:List V} {ds:List D} (hH:H a=some (.lst xs)) (h1:vW ds=true) (h2:lq ds=true) (r:Reps K H ds xs):Reps K (hid H a) ds xs:=by
 cases ds with
 | nil=>cases r.nil_of; exact Reps.nil
 | cons d ds =>
  cases d with
  | lst es =>
   obtain ⟨v,vs,e,r1,_⟩:=r.cons_of;obtain ⟨b,zs,e2,_,_⟩:=cP r1;subst e2;subst e;exact Reps.hideS hH h2 r
  | _=>cases h1
noncomputable def jj (i:Nat) (δ:DS):DS:=(δ.map fun o=>o.bind du).set i none
theorem RepSt.back {K:PySem.W.Frag} {G H H3:Hp} {σ:St} {δ:DS} {i:Nat} {ds es:List D} {a:Addr} {ys:List V} (R0:RepSt K G H σ δ) (R:RepSt K G H3 σ (jj i δ)) (hδ:δ[i]? = some (some (.own ds))) (hσ:σ[i]? = some (some (.ref a))) (hH:H3 a=some (.lst ys)) (r:Reps K H3 es ys) (hG:G a=none) :
  RepSt K G H3 σ ((jj i δ).set i (some (.own es))) where
 same:=R.same
 len:=by rw [List.length_set]; exact R.len
 at_:=fun j sv h=>by
  by_cases hj:i=j
  ·subst hj;have hl:i < (jj i δ).length:=by rw [<- R.len,R0.len]; exact (List.getElem?_eq_some_iff.mp hδ).1
   rw [List.getElem?_set_self hl] at h
   cases h
   exact ⟨.ref a,hσ,a,ys,rfl,hH,r,hG⟩
  ·rw [List.getElem?_set_ne hj] at h;exact R.at_ j sv h
 sep:=fun j k fs gs u hjk h1 h2 h3=>by
  have get:∀(m:Nat) (gs:List D),((jj i δ).set i (some (.own es)))[m]? = some (some (.own gs))->∃gs',δ[m]? = some (some (.own gs')):=fun m gs h=>by
   by_cases hm:i=m
   ·subst hm; exact ⟨ds,hδ⟩
   ·rw [List.getElem?_set_ne hm] at h;unfold jj at h;rw [List.getElem?_set_ne hm] at h;obtain ⟨sv0,q1,q2⟩:=BK h;obtain ⟨rfl,_⟩:=Fo q2;exact ⟨gs,q1⟩
  obtain ⟨fs',g1⟩:=get j fs h1;obtain ⟨gs',g2⟩:=get k gs h2;exact R0.sep j k fs' gs' u hjk g1 g2 h3
section
variable {X:Cx} {e:Expr} {fe:DS->Res D} {x:Str} {pos np apos cpos:Pos}
end
end DL
namespace DL
open PySem PySem.Spec PyProof.Rows L2
structure RoomM (k:Nat) (A:Around):Prop where
 dp:A.depth + 3 * k + 5 < recursionLimit
 un:A.units + 16 * k + 200 < cLine
theorem RoomM.mono {j k:Nat} {A:Around} (r:RoomM k A) (h:j<=k):RoomM j A:=⟨by have:=r.dp; omega,by have:=r.un; omega⟩
theorem RoomM.deeper {k:Nat} {A:Around} (r:RoomM (k + 1) A) (env:Env):RoomM k (A.deeper env) :=
 ⟨by have:=r.dp; show A.depth + 1 + 3 * k + 5 < _; omega,by have:=r.un; show A.units + 3 + 16 * k + 200 < _; omega⟩
theorem RoomM.units {k:Nat} {A:Around} (r:RoomM k A):A.units + 64 < cLine:=by have:=r.un; omega
theorem _root_.L2.Room.mrk {k:Nat} {A:Around} (r:Room k A) (v:Option Value):RoomM k (A.mark v):=⟨r.dp,r.un⟩
noncomputable def Cd (K:PySem.W.Frag) (F:List D->Res D):Sp:=fun vs H Q _=>∃ds d,Reps K H ds vs/\F ds=.ok d/\∀v H',Same H H'->Rep K H' d v->Q v H'
structure FnOkM (P:Program) (w:World) (K:PySem.W.Frag) (mg:Str->Option Value) (base:Heap) (CX:iV) (k:Nat) (f:Addr) (fd:FuncData) (ps:List Str) (sp:Sp):Prop where
 len:∀vs H Q E,sp vs H Q E->vs.length=ps.length
 run:∀(A:Around) (outer:List Env) (s:Shared) (H:Hp) (args:Args) (us:List Value) (vs:List V) (Q:VK) (E:XK),RoomM k A->Env0 P w K mg base A outer s H->BindsTo s fd args (ps.zip us)->Vals vs us->sp vs H Q E ->
  codeAny (model P w) A (.call (.ref f) args) (CR CX outer P w H s Q E) s
abbrev uL (CX:iV) (P:Program) (w:World) (K:PySem.W.Frag) (mg:Str->Option Value) (base:Heap) (N:List Str) (qual:Str) (scope:Scope) (f:Addr) (cd:Value) (A:Around) (outer:List Env) (s:Shared) (H:Hp) (E:XK):Cx :=
  { bN CX P w K mg base N qual scope f cd A outer s H E with calm:=false }
theorem M9 {CX:iV} {P:Program} {w:World} {K:PySem.W.Frag} {mg:Str->Option Value} {base:Heap} {N ps:List Str} {qual:Str} {scope:Scope} {f:Addr} {cd:Value} {A:Around} {outer:List Env} {s s1:Shared} {H:Hp} {E:XK} {us:List Value} {vs:List V}
  (S:FnScope N ps scope) (e0:Env0 P w K mg base A outer s H) (hl:vs.length=ps.length) (r:Vals vs us)
  (x:InCallC s s.heap.objs.size (PySem.bindL (envOfC qual scope s.heap.objs.size f cd).kindOf (ps.zip us) fun _=>none) (cellsFrom (s.heap.objs.size + 1) scope.names []) (bindC (envOfC qual scope s.heap.objs.size f cd).kindOf (ps.zip us) fun _=>none) s1) :
  Inv (uL CX P w K mg base N qual scope f cd A outer s H E) [] (start N vs) H s1:=by
 have I:=Ah (CX:=CX) (E:=E) (A:={ A with handled:=none }) (qual:=qual) (f:=f) (cd:=cd) S rfl (outer:=outer) (P:=P) (w:=w) (K:=K) (mg:=mg) (base:=base) (H:=H) ⟨e0.frames,e0.mod,e0.bs,e0.bsz,e0.funs,e0.frf,e0.hok,e0.bare⟩ hl r x
 exact ⟨⟨I.ok.mod,I.ok.kind,I.ok.glob,I.ok.blt,I.ok.above,I.ok.inj,I.ok.has,I.ok.cab,fun z=>(by cases z),I.ok.frames,I.ok.stk,I.ok.exf,I.ok.bs,I.ok.bsz,I.ok.noex,I.ok.exfs,I.ok.funs,I.ok.frf⟩,I.os,I.bare,I.base,I.loc,I.cell,I.free,I.freeC,I.pin,I.hok,I.len⟩
theorem M_ {CX:iV} {P:Program} {w:World} {K:PySem.W.Frag} {mg:Str->Option Value} {base:Heap} {k:Nat} {f:Addr} {name qual:Str} {params:Arguments} {body:List Stmt} {scope:Scope} {dV kV doc pm cdv ct oc:Value} {an od:Option Addr}
  {osl:Array (Option Value)} {N ps:List Str} {sp:Sp} (lk:K.lookup f=some ⟨oc,od,.func (PySem.W.fnOf name qual params body scope dV kV doc pm an cdv ct),osl⟩) (hcd:PySem.W.codeIn K cdv qual=true) (S:FnScope N ps scope)
  (len:∀vs H Q E,sp vs H Q E->vs.length=ps.length)
  (hbody:∀(A:Around) (outer:List Env) (s:Shared) (H:Hp) (vs:List V) (Q:VK) (E:XK),RoomM k (A.deeper (envOfC qual scope s.heap.objs.size f cdv))->sp vs H Q E ->
   ∃t,PSs (uL CX P w K mg base N qual scope f cdv A outer s H E) body t/\t { nx:=fun _ H'=>Q .non H',rt:=Q } (start N vs) H) :
  FnOkM P w K mg base CX (k + 1) f (PySem.W.fnOf name qual params body scope dV kV doc pm an cdv ct) ps sp:=by
 refine ⟨len,fun A outer s H args us vs Q E hr e0 hb r hsp=>?_⟩;have hl:=len _ _ _ _ hsp;have KX:K.In s.heap:=e0.mod.kin.keeps fun b o e=>(e0.bs b o e).1;have lim:s.heap.NoLimit:=e0.mod.nolimit.keeps fun b o e=>(e0.bs b o e).1;have hkind:∀y∈ps.zip us,scope.names.lookup y.1=some .local\/(scope.names.lookup y.1=some .cell/\((cellsFrom (s.heap.objs.size + 1) scope.names []).lookup y.1).isSome=true):=fun ⟨n,v⟩ hy=>by
  rcases S.par n (List.of_mem_zip hy).1 with q | q
  ·exact .inl q
  ·exact .inr ⟨q,PySem.W.cellsFrom_some _ _ _ (.inl q)⟩
 refine codeAny_call_function (by have:=hr.dp; omega) (KX _ _ lk) rfl S.co S.gen rfl (PySem.W.codeRec_of KX hcd) (hb _ _ _ _ ?_);refine wpAny_newFunctionEnv_cells S.kind hkind fun env he s1 x=>?_;subst he;refine ⟨lim.keeps x.toInCall.keep,codeAny_func ?_⟩;obtain ⟨t,ht,hq⟩:=hbody A outer s H vs Q E (hr.deeper _) hsp;have I:Inv (uL CX P w K mg base N qual scope f cdv A outer s H E) [] (start N vs) H s1:=M9 S e0 hl r x;refine wpAny_mono (ht [] s1 (start N vs) H _ I hq) (fun fl s' hs=>?_) fun e s' hs=>hs;have fin:∀{σ':St} {H':Hp} {v:V} {u:Value},Inv (uL CX P w K mg base N qual scope f cdv A outer s H E) [] σ' H' s'->RelV v u->Q v H'->CE outer P w H s Q u s' :=
  fun {σ' H' v u} J rv q=>⟨v,H',J.os,J.bare,J.base,J.hok,rv,q⟩
 cases fl with
 | ret u =>
  obtain ⟨v,σ',H',J,rv,q⟩:=hs;exact fin J rv q
 | next =>
  obtain ⟨σ',H',J,q⟩:=hs;exact fin (v:=V.non) (u:=Value.none) J rfl q
 | brk =>
  obtain ⟨_,_,_,q⟩:=hs;exact False.elim q
 | cont =>
  obtain ⟨_,_,_,q⟩:=hs;exact False.elim q
section
variable {P:Program} {w:World} {K:PySem.W.Frag} {mg:Str->Option Value} {base:Heap}
theorem Nb {x qual:Str} {st:Stmt} {f:Addr} {fd:FuncData} {N ps:List Str} {k:Nat} {body:DS->Out} (F:Fun K x qual st f fd) (S:FnScope N ps (ao st))
  (hb:∀(cdv:Value) (A:Around) (outer:List Env) (s:Shared) (H:Hp) (E:XK),RoomM k (A.deeper (envOfC qual (ao st) s.heap.objs.size f cdv))->PSDs (uL (cA P w) P w K mg base N qual (ao st) f cdv A outer s H E) (aD st) body) :
  FnOkM P w K mg base (cA P w) (k + 1) f fd ps (Cd K (bJ ps.length N.length body)):=by
 obtain ⟨oc,od,kV,doc,pm,an,cdv,ct,osl,rfl,lk,hcd⟩:=F.ex;refine M_ lk hcd S (fun vs H Q E ⟨ds,d,r,h,_⟩=>?_) fun A outer s H vs Q E hr hsp=>?_
 ·rw [r.length];unfold bJ at h
  by_cases c:ds.length=ps.length
  ·exact c
  ·rw [if_neg c] at h; cases h
 ·obtain ⟨ds,d,r,h,hq⟩:=hsp;have c:ds.length=ps.length:=by
   unfold bJ at h
   by_cases c:ds.length=ps.length
   ·exact c
   ·rw [if_neg c] at h; cases h
  have ev:bJ ps.length N.length body ds=outD (body (bM ds.length N.length ds)):=by unfold bJ; rw [if_pos c,c]
  rw [ev] at h;refine ⟨_,(hb cdv A outer s H E hr).tb,H,bM ds.length N.length ds,zf N r,fun z=>?_,fun pins fl s1 p=>?_,fun pins s2 e s1 I p=>?_⟩
  ·rw [z] at h; cases h
  ·cases fl with
   | next =>
    obtain ⟨δ',σ',H',q1,q2,q3,q4⟩:=p;rw [q1] at h
    cases h
    exact ⟨σ',H',q2,hq .non H' q4.same Az⟩
   | brk=>obtain ⟨δ',σ',H',q1,_⟩:=p; rw [q1] at h; cases h
   | cont=>obtain ⟨δ',σ',H',q1,_⟩:=p; rw [q1] at h; cases h
   | ret u =>
    obtain ⟨d',v,σ',H',q1,q2,q3,q4,q5,q6⟩:=p;rw [q1] at h
    cases h
    exact ⟨v,σ',H',q2,q5,hq v H' q4 q6⟩
  ·obtain ⟨x,δ',a,C,σ',H',q1,_⟩:=p;rw [q1] at h
   cases h
end
noncomputable def zG (P:Program) (w:World) (K:PySem.W.Frag) (mg:Str->Option Value) (base:Heap) (k:Nat) (x:Str) (F:List D->Res D):Prop :=
 ∃(f:Addr) (fd:FuncData) (ps:List Str),FnOkM P w K mg base (cA P w) k f fd ps (Cd K F)/\mg x=some (.ref f)/\PySem.W.keepIn K (.ref f)=true/\Binds K fd ps []
theorem Ng (P:Program) (w:World) (base:Heap) {K:PySem.W.Frag} {x:Str} {st:Stmt} {mg:Str->Option Value} {N ps:List Str} (k:Nat) (body:DS->Out) (F:Ent K mg x st ps) (S:FnScope N ps (ao st))
  (hb:∀(f:Addr) (cdv:Value) (A:Around) (outer:List Env) (s:Shared) (H:Hp) (E:XK),RoomM k (A.deeper (envOfC x (ao st) s.heap.objs.size f cdv))->PSDs (uL (cA P w) P w K mg base N x (ao st) f cdv A outer s H E) (aD st) body) :
  zG P w K mg base (k + 1) x (bJ ps.length N.length body):=by
 obtain ⟨f,fd,m,F,B⟩:=F;exact ⟨f,fd,ps,Nb F S (hb f),m,F.kp,B⟩
noncomputable def dN (F:List D->Res D):List D->Res D:=fun ds=>match F ds with
 | .ok d=>.ok d
 | _=>.stuck
theorem Nh {X:Cx} {j k:Nat} {F:List D->Res D} {x:Str} {p pos:Pos} {e:Expr} {es:List Expr} {fs:DS->Res (List D)} (Fn:zG X.prog X.w X.K X.mg X.base j x F) (hr:RoomM k X.A) (ha:PAD X (e :: es) fs)
  (hj:j<=k:=by first | decide | omega) (hg:Gl X x:=by exact rfl) (hdb:(x == ("__debug__" : Str))=false:=by decide) (he:starEach (e :: es) X.env=(false,eval e X.env) :: starEach es X.env:=by rfl) (hpl:(backTo pos (starEach es X.env)).any (·.1)=false:=by rfl) :
  PD X (.Call (.Name x p) (e :: es) [] pos) (fun δ=>(fs δ).bind (dN F)):=by
 obtain ⟨f,fd,ps,Fn,hm,hk,hb⟩:=Fn;intro pins s σ G H δ I R hs
 try dsimp only at hs ⊢
 refine wpAny_Call_Name_kw (j9 I hg hm ?_ hdb);refine PySem.W.callWith_K (h₀:=X.base) I.ok.mod.kin hk (ha.use I R (dF hs) (fun ds us s1 vs H1 q I1 r1 e1 b1 p1=>⟨I1.kIn,?_⟩) fun e s1 q=>q.same fun x z=>dU z) he hpl;have h2:=dX hs q;have ev:(fs δ).bind (dN F)=dN F ds:=by rw [q]; rfl
 cases qg:F ds with
 | stuck=>exact (h2 (by unfold dN; rw [qg])).elim
 | err z=>exact (h2 (by unfold dN; rw [qg])).elim
 | ok d =>
  have hsp:Cd X.K F vs H1 (fun v H'=>Same H1 H'/\Rep X.K H' d v) (fun _ _ _=>False):=⟨ds,d,p1,qg,fun v H' a b=>⟨a,b⟩⟩;have hl:us.length=ps.length:=by rw [<- r1.length]; exact Fn.len _ _ _ _ hsp
  refine wpAny_call (codeAny_mono (Fn.run X.A X.stack s1 H1 ⟨us,[]⟩ us vs _ _ (hr.mono hj) I1.env0 (by simpa using hb s1 us I1.kIn (by simpa using hl)) r1 hsp) fun r s' hq=>?_)
  cases r with
  | error e=>obtain ⟨_,_,_,_,_,_,_,_,_,_,z⟩:=hq; exact z.elim
  | ok fl =>
   cases fl with
   | ret u =>
    obtain ⟨v,H',I',r',e',p'⟩:=I1.after hq;exact ⟨d,v,H',ev.trans (by unfold dN; rw [qg]),I',r',e1.trans e',p'⟩
   | next=>exact False.elim hq
   | brk=>exact False.elim hq
   | cont=>exact False.elim hq
section
variable {M:Model} {A:Around} {E:Value->Shared->Prop} {s:Shared} {base h0:Heap} {H:Hp} {env:Env} {outer:List Env} {L e:Addr} {Q:Unit->Shared->Prop}
end
section
variable {P:Program} {w:World} {K:PySem.W.Frag} {mg:Str->Option Value} {base:Heap}
end
section
variable {X:Cx} {x:Str} {pos np apos cpos:Pos}
end
section
variable {X:Cx} {m:Nat} {fr:List Nat} {N':List Str} {scope:Scope} {cl:List (Str×Addr)} {tg iter elt:Expr} {pos:Pos} {t:cX} {fe:DS->Res D} {fi:DS->Res (List D)}
end
section
variable {X:Cx} {m:Nat} {fr:List Nat} {N':List Str} {scope:Scope} {cl:List (Str×Addr)} {tg iter elt:Expr} {pos:Pos} {t:cX} {fe:DS->Res D} {fi:DS->Res (List D)}
end
section
variable {M:Model} {A:Around} {E:Value->Shared->Prop} {s:Shared} {base h0:Heap} {H:Hp} {env:Env} {outer:List Env} {L e:Addr} {Q:Unit->Shared->Prop}
end
section
variable {P:Program} {w:World} {K:PySem.W.Frag} {mg:Str->Option Value} {base:Heap}
end
section
variable {X:Cx} {st:Stmt} {rest:List Stmt} {f g:DS->Out}
end
theorem FlyT.but {h0 h h':Heap} {H:Hp} {e C:Addr} {cls:Value×Option Addr} {fl:Value} {mC:Str->Option Value} (f:FlyT h0 H h e cls fl) (hC:h.Ns C mC) (hs:Heap.SameBut C h h'):FlyT h0 H h' e cls fl:=by
 obtain ⟨nr,hH,oe,vs,a0,T,oT,ts,he,hc,hd,h0',h1,nT,hT,hTe,gT,dT,h3⟩:=f;have nC:∀b o ws,h.get? b=some o->o.data=.fields ws->b≠C:=fun b o ws hb hd z=>by
  subst z;obtain ⟨o',es,ep,ho',hd',_⟩:=hC;rw [hb] at ho'
  cases ho'
  rw [hd] at hd'
  cases hd'
 exact ⟨nr,hH,oe,vs,a0,T,oT,ts,(hs.2 e (nC e oe vs he hd)).trans he,hc,hd,h0',h1,nT,hT,hTe,(hs.2 T (nC T oT ts gT dT)).trans gT,dT,h3⟩
section
variable {X:Cx} {m:Nat} {fr:List Nat} {N':List Str} {scope:Scope} {cl:List (Str×Addr)} {tg iter elt:Expr} {pos pos':Pos} {t:cX} {fe:DS->Res D} {fi:DS->Res (List D)}
end
section
variable {P:Program} {w:World} {K:PySem.W.Frag} {mg:Str->Option Value} {base:Heap}
end
section
variable {P:Program} {w:World} {K:PySem.W.Frag} {mg:Str->Option Value} {base:Heap}
end
theorem Ni {X:Cx} {m:Nat} {fr:List Nat} {N':List Str} {scope:Scope} {cl:List (Str×Addr)} {tg iter elt:Expr} {pos:Pos} {t:cX} {fe:DS->Res D} {fi:DS->Res (List D)} (W:Around' X m fr N' scope cl) (hcalm:X.calm=true) (hkt:c7 m t) (hi:PID X tg iter fi) (ht:∀C s H fp,PGD (a_ X N' scope cl C s H fp) tg t) (he:∀C s H fp,PD (a_ X N' scope cl C s H fp) elt fe)
  (hf:∀x,foldedSetIterable iter X.env x=pure x:=by intro _; rfl):PDL X (.ListComp elt [⟨tg,iter,[],0⟩] scope pos) (bA m fr t fe fi):=by
 intro pins s σ G H δ I R hs;rw [eval_ListComp];refine wpAny_comprehension_free (use:=none) rfl hf W.clos W.kind W.names (Bu W hcalm hkt hi ht he I R hs (fun _ _ q=>q) (RR:=fun acc C=>compPost _ _ _ none _ acc C) ?_);intro a C s' H' ds xs mC ev J e' ha hx hr hns hC hCa hC0 hCf hCl hCc hCp;refine ⟨mC,hns,fun h' hs'=>?_⟩;exact ⟨ds,a,xs,H',ev,J.but (t':=s'.toks) hC hC0 hCl hCc hCp hs',rfl,e',ha,hx,hr⟩
section
variable {prog:Program} {w:World} {A:Around} {E:Value->Shared->Prop} {s:Shared}
end
section
variable {X:Cx} {pos:Pos}
end
section
variable {X:Cx} {m:Nat} {fr:List Nat} {N':List Str} {scope:Scope} {cl:List (Str×Addr)} {tg iter elt:Expr} {pos:Pos} {t:cX} {fe:DS->Res D} {fi:DS->Res (List D)}
end
section
variable {X:Cx} {st:Stmt} {rest:List Stmt} {fe:DS->Res D} {f:DS->Out}
end
section
variable {X:Cx} {tg iter:Expr} {body:List Stmt} {t:cX} {fb:DS->Out} {fi:DS->Res (List D)} {pos:Pos}
end
section
variable {X:Cx} {st:List Stmt} {f:DS->Out}
end
section
variable {X:Cx} {tg iter:Expr} {body rest:List Stmt} {t:cX} {fb g:DS->Out} {fi:DS->Res (List D)} {pos:Pos}
end
section
variable {prog:Program} {w:World} {A:Around} {E:Value->Shared->Prop} {s:Shared}
theorem Ce {it t:Addr} {i:Nat} {items:Array Value} {x:Value} {Q:Value->Shared->Prop} (hi:s.heap.IsListIter it t i) (ht:s.heap.IsList t items) (hx:items[i]? = some x)
  (h:∀h':Heap,h'.IsListIter it t (i + 1)->Heap.SameBut it s.heap h'->Q x { s with heap:=h' }):wpAny (model prog w) A (Builtin.SmallTypes.nextOf (.ref it)) Q E s:=by
 unfold Builtin.SmallTypes.nextOf;refine wpAny_bind (wpAny_callSpecial?_slot hi.typeIs slot_listiter_next ?_);refine wpAny_call (codeAny_call_builtin slot_listiter_next.plain entry_listiter_next (slot_listiter_next.check _ _ _ _ _ _ _ _ hi.typeIs (args_listiter_next _) ?_));obtain ⟨o,g,hc,hd⟩:=id hi;obtain ⟨ot,gt,htc,n,htd⟩:=id ht;refine wpAny_bind (m:=slotArgs _ _ _) (wpAny_pure ?_);refine wpAny_bind (m:=field _ _) (wpAny_field g hd rfl ?_);refine wpAny_bind (m:=field _ _) (wpAny_field g hd rfl ?_);refine wpAny_bind (m:=seqItems? _) (wpAny_seqItems gt htd ?_);simp only [Int.toNat_natCast,hx];refine wpAny_bind (wpAny_setField g hd (show 1 < 2 by decide) (wpAny_pure ?_));have d2:=Obj.data_mapFields hd (fun v=>v.setIfInBounds 1 (rawInt ((i:Int) + 1)));have g2:=Heap.get?_update_self (Obj.mapFields fun v=>v.setIfInBounds 1 (rawInt ((i:Int) + 1))) g (Obj.isFreed_of_fields d2);exact wpAny_pure (h _ ⟨_,g2,(by unfold Obj.mapFields; split <;> exact hc),d2⟩ (Heap.SameBut.update _ _ _))
theorem Gf {it t:Addr} {i:Nat} {items:Array Value} {Q:Value->Shared->Prop} (hh:A.handled=none) (hi:s.heap.IsListIter it t i) (ht:s.heap.IsList t items) (hx:items[i]? = none)
  (h:∀(h':Heap) (e:Addr),Heap.ExtBut it s.heap h'->(∃o,h'.get? e=some o/\o.cls=.type "StopIteration")->E (.ref e) { s with heap:=h' }):wpAny (model prog w) A (Builtin.SmallTypes.nextOf (.ref it)) Q E s:=by
 unfold Builtin.SmallTypes.nextOf;refine wpAny_bind (wpAny_callSpecial?_slot hi.typeIs slot_listiter_next ?_);refine wpAny_call (codeAny_call_builtin slot_listiter_next.plain entry_listiter_next (slot_listiter_next.check _ _ _ _ _ _ _ _ hi.typeIs (args_listiter_next _) ?_));obtain ⟨o,g,hc,hd⟩:=id hi;obtain ⟨ot,gt,htc,n,htd⟩:=id ht;refine wpAny_bind (m:=slotArgs _ _ _) (wpAny_pure ?_);refine wpAny_bind (m:=field _ _) (wpAny_field g hd rfl ?_);refine wpAny_bind (m:=field _ _) (wpAny_field g hd rfl ?_);refine wpAny_bind (m:=seqItems? _) (wpAny_seqItems gt htd ?_);simp only [Int.toNat_natCast,hx];refine wpAny_bind (wpAny_rule (wpAny_bind (wpAny_setField g hd (show 0 < 2 by decide) ?_)));refine LK hh fun h' e kp ex=>h h' e (fun b o' hb e'=>kp b o' ?_) ex;rw [Heap.get?_update_other _ _ (Ne.symm hb)]; exact e'
structure ZipL (h:Heap) (z TI TO i1 i2 t1 t2:Addr) (f0:Value) (i:Nat):Prop where
 zip:IsZip h z TI TO f0
 ti:IsPair h TI (.ref i1) (.ref i2)
 to:∃a b,IsPair h TO a b
 j1:h.IsListIter i1 t1 i
 j2:h.IsListIter i2 t2 i
theorem hT' {z TI TO i1 i2 t1 t2:Addr} {i:Nat} {xs ys:Array Value} {x y:Value} {Q:Option Value->Shared->Prop} (ap:List.Nodup [z,TI,TO,i1,i2]) (n1:t1∉[z,TI,TO,i1,i2]) (n2:t2∉[z,TI,TO,i1,i2])
  (Z:ZipL s.heap z TI TO i1 i2 t1 t2 .none i) (h1:s.heap.IsList t1 xs) (h2:s.heap.IsList t2 ys) (hx:xs[i]? = some x) (hy:ys[i]? = some y)
  (hQ:∀h':Heap,ZipL h' z TI TO i1 i2 t1 t2 (rawInt (s.heap.objs.size:Nat)) (i + 1)->IsPair h' s.heap.objs.size x y->(∀b o,b∉[z,TI,TO,i1,i2]->s.heap.get? b=some o->h'.get? b=some o)->Q (some (.ref s.heap.objs.size)) { s with heap:=h' }) :
  wpAny (model prog w) A (pyNext (.ref z)) Q E s:=by
 obtain ⟨gz,gti,⟨a,b,gto⟩,j1,j2⟩:=Z;have tz:s.TypeIs (.ref z) "zip":=⟨_,gz,rfl⟩;unfold pyNext;refine wpAny_bind (wpAny_attempt ?_);refine wpAny_callSpecial?_slot tz F.slot_zip_next ?_;refine wpAny_call (codeAny_call_builtin F.slot_zip_next.plain F.entry_zip_next (F.slot_zip_next.check _ _ _ _ _ _ _ _ tz (F.args_zip_next_1 _) ?_));unfold Builtin.«zip.__next__»;refine wpAny_bind (m:=slotArgs _ _ _) (wpAny_pure ?_);refine wpAny_bind (m:=field _ _) (wpAny_field gz rfl rfl ?_);refine wpAny_bind (m:=field _ _) (wpAny_field gz rfl rfl ?_);refine wpAny_bind (m:=seqItems? _) (wpAny_seqItems gti rfl ?_);dsimp only;refine wpAny_bind (m:=Builtin.SmallTypes.ownedTupleIsFree _) ?_;unfold Builtin.SmallTypes.ownedTupleIsFree;refine wpAny_bind (m:=field _ _) (wpAny_field gz rfl rfl ?_);refine wpAny_pure ?_;rw [if_pos rfl];refine wpAny_bind (wpAny_rule (wpAny_bind (m:=field _ _) (wpAny_field gz rfl rfl ?_)))
 try dsimp only
 refine wpAny_bind (wpAny_setField gz rfl (show 0 < 5 by decide) ?_);have hst:(#[Value.none,Value.bool false,Value.bool false,Value.ref TI,Value.ref TO][2] == Value.bool true)=false:=rfl;have dz0:=Obj.data_mapFields (o:={ cls:=Value.type "zip",data:=Data.fields #[Value.none,Value.bool false,Value.bool false,Value.ref TI,Value.ref TO] }) rfl (fun v=>v.setIfInBounds 0 Value.ellipsis);have gz0:=Heap.get?_update_self (Obj.mapFields fun v=>v.setIfInBounds 0 Value.ellipsis) gz (Obj.isFreed_of_fields dz0);have sb0:=Heap.SameBut.update s.heap z (Obj.mapFields fun v=>v.setIfInBounds 0 Value.ellipsis);generalize s.heap.update z (Obj.mapFields fun v=>v.setIfInBounds 0 Value.ellipsis)=h0 at gz0 sb0 ⊢;simp only [List.nodup_cons,List.mem_cons,List.not_mem_nil,or_false,not_or,List.nodup_nil,and_true,not_false_eq_true] at ap n1 n2;obtain ⟨⟨az1,az2,az3,az4⟩,⟨ai1,ai2,ai3⟩,⟨ao1,ao2⟩,a12⟩:=ap;obtain ⟨m1,m2,m3,m4,m5⟩:=n1;obtain ⟨q1,q2,q3,q4,q5⟩:=n2;have k0:∀b,b≠z->h0.get? b=s.heap.get? b:=sb0.2;have mvT:∀{h h':Heap} {c t:Addr} {xs:Array Value},(∀b,b≠c->h'.get? b=h.get? b)->t≠c->h.IsList t xs->h'.IsList t xs:=fun k n ⟨o,g,r⟩=>⟨o,(k _ n).trans g,r⟩;have mvI:∀{h h':Heap} {c t j:Addr} {n:Nat},(∀b,b≠c->h'.get? b=h.get? b)->j≠c->h.IsListIter j t n->h'.IsListIter j t n:=fun k n ⟨o,g,r⟩=>⟨o,(k _ n).trans g,r⟩;simp only [show [Value.ref i1,Value.ref i2].zipIdx=[(Value.ref i1,0),(Value.ref i2,1)] from rfl,List.forIn_cons,hst]
 refine wpAny_bind (wpAny_bind ?_);refine wpAny_bind (wpAny_onRaise ?_);refine wpAny_bind (m:=Builtin.SmallTypes.nextOf (.ref i1)) (Ce (mvI k0 (Ne.symm az3) j1) (mvT k0 m1 h1) hx fun h1' ji1 sb1=>?_);have k1:∀b,b≠i1->h1'.get? b=h0.get? b:=sb1.2;refine wpAny_pure ?_;have gto1:h1'.get? TO=some { cls:=Value.type "tuple",data:=Data.seq #[a,b] }:=(k1 _ ao1).trans ((k0 _ (Ne.symm az2)).trans gto);refine wpAny_bind (wpAny_seqItems gto1 rfl ?_);refine wpAny_bind (wpAny_updateSeq gto1 rfl ?_ (show 2<=sizeLine by decide) (show 2<=sizeLine + 1 by decide));have gto2:(h1'.update TO (Obj.mapSeq fun v=>v.setIfInBounds 0 x)).get? TO=some { cls:=Value.type "tuple",data:=Data.seq #[x,b] }:=(Heap.get?_update_self _ gto1 rfl).trans rfl;have k2:∀b,b≠TO->(h1'.update TO (Obj.mapSeq fun v=>v.setIfInBounds 0 x)).get? b=h1'.get? b:=(Heap.SameBut.update _ _ _).2;have z2:(h1'.update TO (Obj.mapSeq fun v=>v.setIfInBounds 0 x)).objs.size=h1'.objs.size:=(Heap.SameBut.update _ _ _).1;dsimp only;generalize h1'.update TO (Obj.mapSeq fun v=>v.setIfInBounds 0 x)=h2' at gto2 k2 z2 ⊢;refine wpAny_bind (wpAny_letGo (wpAny_pure ?_));refine wpAny_bind (wpAny_bind (wpAny_onRaise ?_));refine wpAny_bind (m:=Builtin.SmallTypes.nextOf (.ref i2)) (Ce (mvI k2 (Ne.symm ao2) (mvI k1 (Ne.symm a12) (mvI k0 (Ne.symm az4) j2))) (mvT k2 q3 (mvT k1 q4 (mvT k0 q1 h2))) hy fun h3' ji2 sb3=>?_);have k3:∀b,b≠i2->h3'.get? b=h2'.get? b:=sb3.2;refine wpAny_pure ?_;have gto3:h3'.get? TO=some { cls:=Value.type "tuple",data:=Data.seq #[x,b] }:=(k3 _ ao2).trans gto2;refine wpAny_bind (wpAny_seqItems gto3 rfl ?_);refine wpAny_bind (wpAny_updateSeq gto3 rfl ?_ (show 2<=sizeLine by decide) (show 2<=sizeLine + 1 by decide));have gto4:(h3'.update TO (Obj.mapSeq fun v=>v.setIfInBounds 1 y)).get? TO=some { cls:=Value.type "tuple",data:=Data.seq #[x,y] }:=(Heap.get?_update_self _ gto3 rfl).trans rfl;have k4:∀b,b≠TO->(h3'.update TO (Obj.mapSeq fun v=>v.setIfInBounds 1 y)).get? b=h3'.get? b:=(Heap.SameBut.update _ _ _).2;have z4:(h3'.update TO (Obj.mapSeq fun v=>v.setIfInBounds 1 y)).objs.size=h3'.objs.size:=(Heap.SameBut.update _ _ _).1;dsimp only;generalize h3'.update TO (Obj.mapSeq fun v=>v.setIfInBounds 1 y)=h4' at gto4 k4 z4 ⊢;refine wpAny_bind (wpAny_letGo (wpAny_pure ?_));refine wpAny_pure ?_;refine wpAny_bind (wpAny_seqItems gto4 rfl ?_);have hT:h4'.objs.size=s.heap.objs.size:=by rw [z4,sb3.1,z2,sb1.1,sb0.1]
 refine wpAny_bind (wpAny_newTuple ?_ (show 2<=sizeLine by decide));dsimp only;rw [hT];have zi:z≠s.heap.objs.size:=fun e=>by have:=Heap.lt_size gz; rw [e] at this; exact Nat.lt_irrefl _ this
 have gT:(h4'.push { cls:=Value.type "tuple",data:=Data.seq #[x,y] }).get? s.heap.objs.size=some { cls:=Value.type "tuple",data:=Data.seq #[x,y] }:=by rw [<- hT]; exact Heap.get?_push_size _ rfl
 have k5:∀b o,h4'.get? b=some o->(h4'.push { cls:=Value.type "tuple",data:=Data.seq #[x,y] }).get? b=some o:=fun b o e=>Heap.get?_push_of_some _ e;show wpAny _ _ (do Builtin.SmallTypes.ownedTupleHandOut (Value.ref z) (Value.ref s.heap.objs.size); ret _) _ _ { s with heap:=h4'.push { cls:=Value.type "tuple",data:=Data.seq #[x,y] } }
 generalize h4'.push { cls:=Value.type "tuple",data:=Data.seq #[x,y] }=h5' at gT k5 ⊢;have gz4:h4'.get? z=some { cls:=Value.type "zip",data:=Data.fields #[Value.ellipsis,Value.bool false,Value.bool false,Value.ref TI,Value.ref TO] } :=
  (k4 _ az2).trans ((k3 _ az4).trans ((k2 _ az2).trans ((k1 _ az3).trans (gz0.trans rfl))))
 have gz5:=k5 _ _ gz4;have gti4:h4'.get? TI=some { cls:=Value.type "tuple",data:=Data.seq #[.ref i1,.ref i2] }:=(k4 _ ai1).trans ((k3 _ ai3).trans ((k2 _ ai1).trans ((k1 _ ai2).trans ((k0 _ (Ne.symm az1)).trans gti))));obtain ⟨oj1,gj1,rj1⟩:=ji1;obtain ⟨oj2,gj2,rj2⟩:=ji2;have gj1':h4'.get? i1=some oj1:=(k4 _ (Ne.symm ao1)).trans ((k3 _ a12).trans ((k2 _ (Ne.symm ao1)).trans gj1));have gj2':h4'.get? i2=some oj2:=(k4 _ (Ne.symm ao2)).trans gj2;refine wpAny_bind (m:=Builtin.SmallTypes.ownedTupleHandOut _ _) ?_;unfold Builtin.SmallTypes.ownedTupleHandOut;refine wpAny_bind (wpAny_setField gz5 rfl (show 0 < 5 by decide) ?_);have gz6:(h5'.update z (Obj.mapFields fun v=>v.setIfInBounds 0 (rawInt (s.heap.objs.size:Nat)))).get? z=some { cls:=Value.type "zip",data:=Data.fields #[rawInt (s.heap.objs.size:Nat),Value.bool false,Value.bool false,Value.ref TI,Value.ref TO] }:=(Heap.get?_update_self _ gz5 rfl).trans rfl;have k6:∀b,b≠z->(h5'.update z (Obj.mapFields fun v=>v.setIfInBounds 0 (rawInt (s.heap.objs.size:Nat)))).get? b=h5'.get? b:=(Heap.SameBut.update _ _ _).2;dsimp only;generalize h5'.update z (Obj.mapFields fun v=>v.setIfInBounds 0 (rawInt (s.heap.objs.size:Nat)))=h6' at gz6 k6 ⊢;refine wpAny_setField gz6 rfl (show 1 < 5 by decide) ?_;have gz7:(h6'.update z (Obj.mapFields fun v=>v.setIfInBounds 1 (Value.bool false))).get? z=some { cls:=Value.type "zip",data:=Data.fields #[rawInt (s.heap.objs.size:Nat),Value.bool false,Value.bool false,Value.ref TI,Value.ref TO] }:=(Heap.get?_update_self _ gz6 rfl).trans rfl;have k7:∀b,b≠z->(h6'.update z (Obj.mapFields fun v=>v.setIfInBounds 1 (Value.bool false))).get? b=h6'.get? b:=(Heap.SameBut.update _ _ _).2;dsimp only;generalize h6'.update z (Obj.mapFields fun v=>v.setIfInBounds 1 (Value.bool false))=h7' at gz7 k7 ⊢;refine wpAny_pure (wpAny_pure ?_);have kk:∀b o,b≠z->h4'.get? b=some o->h7'.get? b=some o:=fun b o n e=>(k7 _ n).trans ((k6 _ n).trans (k5 _ _ e));refine hQ h7' ⟨gz7,kk _ _ (Ne.symm az1) gti4,⟨_,_,kk _ _ (Ne.symm az2) gto4⟩,⟨_,kk _ _ (Ne.symm az3) gj1',rj1⟩,⟨_,kk _ _ (Ne.symm az4) gj2',rj2⟩⟩ ((k7 _ (Ne.symm zi)).trans ((k6 _ (Ne.symm zi)).trans gT)) fun b o n e=>?_;simp only [List.mem_cons,List.not_mem_nil,or_false,not_or] at n;obtain ⟨p1,p2,p3,p4,p5⟩:=n;exact kk b o p1 ((k4 _ p3).trans ((k3 _ p5).trans ((k2 _ p3).trans ((k1 _ p4).trans ((k0 _ p1).trans e)))))
end
section
variable {prog:Program} {w:World} {A:Around} {E:Value->Shared->Prop} {s:Shared}
theorem Nj {z TI TO i1 i2 t1 t2:Addr} {i:Nat} {xs ys:Array Value} {Q:Option Value->Shared->Prop} (hh:A.handled=none) (ap:List.Nodup [z,TI,TO,i1,i2]) (n1:t1∉[z,TI,TO,i1,i2]) (n2:t2∉[z,TI,TO,i1,i2])
  (Z:ZipL s.heap z TI TO i1 i2 t1 t2 .none i) (h1:s.heap.IsList t1 xs) (h2:s.heap.IsList t2 ys) (hx:xs[i]? = none\/ys[i]? = none)
  (hQ:∀h':Heap,(∀b o,b∉[z,TI,TO,i1,i2]->s.heap.get? b=some o->h'.get? b=some o)->Q none { s with heap:=h' }) :
  wpAny (model prog w) A (pyNext (.ref z)) Q E s:=by
 obtain ⟨gz,gti,⟨a,b,gto⟩,j1,j2⟩:=Z;have tz:s.TypeIs (.ref z) "zip":=⟨_,gz,rfl⟩;unfold pyNext;refine wpAny_bind (wpAny_attempt ?_);refine wpAny_callSpecial?_slot tz F.slot_zip_next ?_;refine wpAny_call (codeAny_call_builtin F.slot_zip_next.plain F.entry_zip_next (F.slot_zip_next.check _ _ _ _ _ _ _ _ tz (F.args_zip_next_1 _) ?_));unfold Builtin.«zip.__next__»;refine wpAny_bind (m:=slotArgs _ _ _) (wpAny_pure ?_);refine wpAny_bind (m:=field _ _) (wpAny_field gz rfl rfl ?_);refine wpAny_bind (m:=field _ _) (wpAny_field gz rfl rfl ?_);refine wpAny_bind (m:=seqItems? _) (wpAny_seqItems gti rfl ?_);dsimp only;refine wpAny_bind (m:=Builtin.SmallTypes.ownedTupleIsFree _) ?_;unfold Builtin.SmallTypes.ownedTupleIsFree;refine wpAny_bind (m:=field _ _) (wpAny_field gz rfl rfl ?_);refine wpAny_pure ?_;rw [if_pos rfl];refine wpAny_bind (wpAny_rule (wpAny_bind (m:=field _ _) (wpAny_field gz rfl rfl ?_)))
 try dsimp only
 refine wpAny_bind (wpAny_setField gz rfl (show 0 < 5 by decide) ?_);have hst:(#[Value.none,Value.bool false,Value.bool false,Value.ref TI,Value.ref TO][2] == Value.bool true)=false:=rfl;have dz0:=Obj.data_mapFields (o:={ cls:=Value.type "zip",data:=Data.fields #[Value.none,Value.bool false,Value.bool false,Value.ref TI,Value.ref TO] }) rfl (fun v=>v.setIfInBounds 0 Value.ellipsis);have gz0:=Heap.get?_update_self (Obj.mapFields fun v=>v.setIfInBounds 0 Value.ellipsis) gz (Obj.isFreed_of_fields dz0);have sb0:=Heap.SameBut.update s.heap z (Obj.mapFields fun v=>v.setIfInBounds 0 Value.ellipsis);generalize s.heap.update z (Obj.mapFields fun v=>v.setIfInBounds 0 Value.ellipsis)=h0 at gz0 sb0 ⊢;simp only [List.nodup_cons,List.mem_cons,List.not_mem_nil,or_false,not_or,List.nodup_nil,and_true,not_false_eq_true] at ap n1 n2;obtain ⟨⟨az1,az2,az3,az4⟩,⟨ai1,ai2,ai3⟩,⟨ao1,ao2⟩,a12⟩:=ap;obtain ⟨m1,m2,m3,m4,m5⟩:=n1;obtain ⟨q1,q2,q3,q4,q5⟩:=n2;have k0:∀b,b≠z->h0.get? b=s.heap.get? b:=sb0.2;have mvT:∀{h h':Heap} {c t:Addr} {xs:Array Value},(∀b,b≠c->h'.get? b=h.get? b)->t≠c->h.IsList t xs->h'.IsList t xs:=fun k n ⟨o,g,r⟩=>⟨o,(k _ n).trans g,r⟩;have mvI:∀{h h':Heap} {c t j:Addr} {n:Nat},(∀b,b≠c->h'.get? b=h.get? b)->j≠c->h.IsListIter j t n->h'.IsListIter j t n:=fun k n ⟨o,g,r⟩=>⟨o,(k _ n).trans g,r⟩;simp only [show [Value.ref i1,Value.ref i2].zipIdx=[(Value.ref i1,0),(Value.ref i2,1)] from rfl,List.forIn_cons,hst]
 have gz0':h0.get? z=some { cls:=Value.type "zip",data:=Data.fields #[Value.ellipsis,Value.bool false,Value.bool false,Value.ref TI,Value.ref TO] }:=gz0.trans rfl;refine wpAny_bind (wpAny_bind ?_);refine wpAny_bind (wpAny_onRaise ?_)
 cases hx1:xs[i]? with
 | none =>
  refine wpAny_bind (m:=Builtin.SmallTypes.nextOf (.ref i1)) (Gf hh (mvI k0 (Ne.symm az3) j1) (mvT k0 m1 h1) hx1 fun h1' e xb he=>?_);have gz1:h1'.get? z=_:=xb z _ az3 gz0';refine Fv gz1 (show 0 < 5 by decide) he (hQ _ fun b o n ee=>?_);simp only [List.mem_cons,List.not_mem_nil,or_false,not_or] at n;obtain ⟨p1,p2,p3,p4,p5⟩:=n;rw [Heap.get?_update_other _ _ (Ne.symm p1)];exact xb b o p4 ((k0 _ p1).trans ee)
 | some x =>
 have hy:ys[i]? = none:=by
  rcases hx with q | q
  ·rw [hx1] at q; cases q
  ·exact q
 refine wpAny_bind (m:=Builtin.SmallTypes.nextOf (.ref i1)) (Ce (mvI k0 (Ne.symm az3) j1) (mvT k0 m1 h1) hx1 fun h1' ji1 sb1=>?_);have k1:∀b,b≠i1->h1'.get? b=h0.get? b:=sb1.2;refine wpAny_pure ?_;have gto1:h1'.get? TO=some { cls:=Value.type "tuple",data:=Data.seq #[a,b] }:=(k1 _ ao1).trans ((k0 _ (Ne.symm az2)).trans gto);refine wpAny_bind (wpAny_seqItems gto1 rfl ?_);refine wpAny_bind (wpAny_updateSeq gto1 rfl ?_ (show 2<=sizeLine by decide) (show 2<=sizeLine + 1 by decide));have gto2:(h1'.update TO (Obj.mapSeq fun v=>v.setIfInBounds 0 x)).get? TO=some { cls:=Value.type "tuple",data:=Data.seq #[x,b] }:=(Heap.get?_update_self _ gto1 rfl).trans rfl;have k2:∀b,b≠TO->(h1'.update TO (Obj.mapSeq fun v=>v.setIfInBounds 0 x)).get? b=h1'.get? b:=(Heap.SameBut.update _ _ _).2;have z2:(h1'.update TO (Obj.mapSeq fun v=>v.setIfInBounds 0 x)).objs.size=h1'.objs.size:=(Heap.SameBut.update _ _ _).1;dsimp only;generalize h1'.update TO (Obj.mapSeq fun v=>v.setIfInBounds 0 x)=h2' at gto2 k2 z2 ⊢;refine wpAny_bind (wpAny_letGo (wpAny_pure ?_));refine wpAny_bind (wpAny_bind (wpAny_onRaise ?_));refine wpAny_bind (m:=Builtin.SmallTypes.nextOf (.ref i2)) (Gf hh (mvI k2 (Ne.symm ao2) (mvI k1 (Ne.symm a12) (mvI k0 (Ne.symm az4) j2))) (mvT k2 q3 (mvT k1 q4 (mvT k0 q1 h2))) hy fun h3' e xb he=>?_);have gz3:h3'.get? z=_:=xb z _ az4 ((k2 _ az2).trans ((k1 _ az3).trans gz0'));refine Fv gz3 (show 0 < 5 by decide) he (hQ _ fun b o n ee=>?_);simp only [List.mem_cons,List.not_mem_nil,or_false,not_or] at n;obtain ⟨p1,p2,p3,p4,p5⟩:=n;rw [Heap.get?_update_other _ _ (Ne.symm p1)];exact xb b o p5 ((k2 _ p3).trans ((k1 _ p4).trans ((k0 _ p1).trans ee)))
end
theorem Nk (t1 t2:Addr) (xs ys:Array Value):Meets (Builtin.«zip.__new__» ⟨[.type "zip",.ref t1,.ref t2],[]⟩) (fun _ R s=>s.heap.IsList t1 xs/\s.heap.IsList t2 ys /\
  ∀h':Heap,ZipL h' (s.heap.objs.size + 4) (s.heap.objs.size + 2) (s.heap.objs.size + 3) s.heap.objs.size (s.heap.objs.size + 1) t1 t2 .none 0->(∀b o,s.heap.get? b=some o->h'.get? b=some o)->h'.objs.size=s.heap.objs.size + 5->R (.ok (.ret (.ref (s.heap.objs.size + 4)))) { s with heap:=h' }):=by
 intro prog w A R s ⟨h1,h2,hR⟩;unfold Builtin.«zip.__new__»;refine wpAny_bind (m:=Builtin.SmallTypes.newClass _ _) ?_;unfold Builtin.SmallTypes.newClass;refine wpAny_bind (m:=isType _) (wpAny_pure ?_);show wpAny _ _ (do let b <- isSubtype (Value.type "zip") (Value.type "zip"); _) _ _ _
 rw [sub_zip];refine wpAny_pure ?_;show wpAny _ _ (do let its <- Builtin.SmallTypes.iterAll [.ref t1,.ref t2]; _) _ _ _
 refine wpAny_bind ?_;unfold Builtin.SmallTypes.iterAll;simp only [List.forIn_cons];refine wpAny_bind (wpAny_bind (wpAny_bind (wpAny_holding (wpAny_pyIter_list h1 (wpAny_pure ?_)))));have h2':(s.heap.push { cls:=Value.type "list_iterator",data:=Data.fields #[Value.ref t1,Value.int 0 0] }).IsList t2 ys:=by
  obtain ⟨o,g,r⟩:=h2;exact ⟨o,Heap.get?_push_of_some _ g,r⟩
 refine wpAny_bind (wpAny_bind (wpAny_holding (wpAny_pyIter_list h2' (wpAny_pure ?_))));refine wpAny_pure (wpAny_pure ?_);refine wpAny_bind (wpAny_newTuple ?_ (show 2<=sizeLine by decide));refine wpAny_bind (wpAny_newTuple ?_ (show 2<=sizeLine by decide));refine wpAny_bind (m:=Builtin.SmallTypes.newRecord _ _) ?_;unfold Builtin.SmallTypes.newRecord;refine wpAny_newObj_type (wpAny_pure ?_) (show 5<=sizeLine + 2 by decide);dsimp only
 let S:=s.heap.objs.size
 let A1:=s.heap.push { cls:=Value.type "list_iterator",data:=Data.fields #[Value.ref t1,Value.int 0 0] }
 let A2:=A1.push { cls:=Value.type "list_iterator",data:=Data.fields #[Value.ref t2,Value.int 0 0] }
 let A3:=A2.push { cls:=Value.type "tuple",data:=Data.seq #[Value.ref S,Value.ref A1.objs.size] }
 let A4:=A3.push { cls:=Value.type "tuple",data:=Data.seq #[Value.none,Value.none] }
 let A5:=A4.push { cls:=Value.type "zip",data:=Data.fields #[Value.none,Value.bool false,Value.bool false,Value.ref A2.objs.size,Value.ref A3.objs.size] }
 have e1:A1.objs.size=S + 1:=Heap.size_push _ _;have e2:A2.objs.size=S + 2:=(Heap.size_push _ _).trans (by rw [e1]);have e3:A3.objs.size=S + 3:=(Heap.size_push _ _).trans (by rw [e2]);have e4:A4.objs.size=S + 4:=(Heap.size_push _ _).trans (by rw [e3]);have e5:A5.objs.size=S + 5:=(Heap.size_push _ _).trans (by rw [e4]);have p1:A1.get? S=some { cls:=Value.type "list_iterator",data:=Data.fields #[Value.ref t1,Value.int 0 0] }:=Heap.get?_push_size _ rfl;have p2:A2.get? (S + 1)=some { cls:=Value.type "list_iterator",data:=Data.fields #[Value.ref t2,Value.int 0 0] }:=by rw [<- e1]; exact Heap.get?_push_size _ rfl
 have p3:A3.get? (S + 2)=some { cls:=Value.type "tuple",data:=Data.seq #[Value.ref S,Value.ref A1.objs.size] }:=by rw [<- e2]; exact Heap.get?_push_size _ rfl
 have p4:A4.get? (S + 3)=some { cls:=Value.type "tuple",data:=Data.seq #[Value.none,Value.none] }:=by rw [<- e3]; exact Heap.get?_push_size _ rfl
 have p5:A5.get? (S + 4)=some { cls:=Value.type "zip",data:=Data.fields #[Value.none,Value.bool false,Value.bool false,Value.ref A2.objs.size,Value.ref A3.objs.size] }:=by rw [<- e4]; exact Heap.get?_push_size _ rfl
 have u2:∀b o,A1.get? b=some o->A2.get? b=some o:=fun b o e=>Heap.get?_push_of_some _ e;have u3:∀b o,A2.get? b=some o->A3.get? b=some o:=fun b o e=>Heap.get?_push_of_some _ e;have u4:∀b o,A3.get? b=some o->A4.get? b=some o:=fun b o e=>Heap.get?_push_of_some _ e;have u5:∀b o,A4.get? b=some o->A5.get? b=some o:=fun b o e=>Heap.get?_push_of_some _ e;have fin:=hR A5 ⟨by rw [e2,e3] at p5; exact p5,by rw [e1] at p3; exact u5 _ _ (u4 _ _ p3),⟨_,_,u5 _ _ p4⟩,⟨_,u5 _ _ (u4 _ _ (u3 _ _ (u2 _ _ p1))),rfl,rfl⟩,⟨_,u5 _ _ (u4 _ _ (u3 _ _ p2)),rfl,rfl⟩⟩
  (fun b o e=>u5 _ _ (u4 _ _ (u3 _ _ (u2 _ _ (Heap.get?_push_of_some _ e))))) e5
 have e4':s.heap.objs.size + 4=A4.objs.size:=e4.symm;rw [e4'] at fin;exact fin
theorem hU' {prog:Program} {w:World} {A:Around} {E:Value->Shared->Prop} {s:Shared} {t1 t2:Addr} {xs ys:Array Value} {Q:Value->Shared->Prop} (h1:s.heap.IsList t1 xs) (h2:s.heap.IsList t2 ys)
  (hQ:∀h':Heap,ZipL h' (s.heap.objs.size + 4) (s.heap.objs.size + 2) (s.heap.objs.size + 3) s.heap.objs.size (s.heap.objs.size + 1) t1 t2 .none 0->(∀b o,s.heap.get? b=some o->h'.get? b=some o)->h'.objs.size=s.heap.objs.size + 5->Q (.ref (s.heap.objs.size + 4)) { s with heap:=h' }) :
  wpAny (model prog w) A (call (.type "zip") [.ref t1,.ref t2]) Q E s :=
 callType_new F.called_zip (by decide) (F.typeCall_zip_2 _ _) (F.newCall_zip_2 _ _) (fun obj=>F.args_object_init_3 _ _ _) F.entry_zip_new (Nk t1 t2 xs ys) ⟨h1,h2,fun h' Z k e=>⟨⟨_,Z.zip,rfl⟩,hQ h' Z k e⟩⟩
noncomputable def vX (K:PySem.W.Frag) (t1 t2:Addr):It :=
  ⟨fun i H=>∃xs ys v u,SqL K H t1 xs/\SqL K H t2 ys/\xs[i]? = some v/\ys[i]? = some u,
   fun i H x H'=>∃T,H T=none/\x=.ref T/\∃v u,(∀xs,SqL K H t1 xs->xs[i]? = some v)/\(∀ys,SqL K H t2 ys->ys[i]? = some u)/\H'=upd H T (.tup [v,u]),
   fun i H=>∃xs ys,SqL K H t1 xs/\SqL K H t2 ys/\(xs.length<=i\/ys.length<=i)⟩
theorem Np {P:Program} {w:World} {K:PySem.W.Frag} {elts:List Expr} {x1:Nat} {pos:Pos} {z TI TO i1 i2 t1 t2:Addr} (ap:List.Nodup [z,TI,TO,i1,i2]) (n1:t1∉[z,TI,TO,i1,i2]) (n2:t2∉[z,TI,TO,i1,i2]) :
  Turn P w K (.Tuple elts x1 pos) (vX K t1 t2) [z,TI,TO,i1,i2] z (fun i h=>ZipL h z TI TO i1 i2 t1 t2 .none i) where
 mem:=by simp
 obj:=fun i h st b hb=>by
  obtain ⟨gz,gti,⟨a,c,gto⟩,⟨o1,g1,_,d1⟩,⟨o2,g2,_,d2⟩⟩:=st;simp only [List.mem_cons,List.not_mem_nil,or_false] at hb;rcases hb with rfl | rfl | rfl | rfl | rfl
  ·exact ⟨_,gz,fun v q=>by cases q⟩
  ·exact ⟨_,gti,fun v q=>by cases q⟩
  ·exact ⟨_,gto,fun v q=>by cases q⟩
  ·exact ⟨_,g1,fun v q=>by rw [d1] at q; cases q⟩
  ·exact ⟨_,g2,fun v q=>by rw [d2] at q; cases q⟩
 keep:=fun i h h' st k=>by
  obtain ⟨gz,gti,⟨a,c,gto⟩,⟨o1,g1,r1⟩,⟨o2,g2,r2⟩⟩:=st;exact ⟨k z (by simp) _ gz,k TI (by simp) _ gti,⟨a,c,k TO (by simp) _ gto⟩,⟨o1,k i1 (by simp) _ g1,r1⟩,⟨o2,k i2 (by simp) _ g2,r2⟩⟩
 item:=by
  intro X hP hw hK hc i pins s σ H E I hf st hg;subst hP hw hK;obtain ⟨xs,ys,v,u,hq1,hq2,hx,hy⟩:=hg;obtain ⟨its1,rv1,p1,hz1⟩:=I.list hq1;obtain ⟨its2,rv2,p2,hz2⟩:=I.list hq2;obtain ⟨u1,hu1,ru1⟩:=rv1.get hx;obtain ⟨u2,hu2,ru2⟩:=rv2.get hy;refine hT' ap n1 n2 st (show s.heap.IsList t1 its1.toArray from p1.isList) (show s.heap.IsList t2 its2.toArray from p2.isList) (x:=u1) (y:=u2) (by simpa using hu1) (by simpa using hu2) fun h' Z gT kk=>?_
  refine ⟨_,rfl,wpAny_letOwnedTupleGo_zip (T:=s.heap.objs.size) Z.zip fun h'' gz'' sb=>?_⟩;have fT:fK X pins H s.heap.objs.size:=I.fpOk (Nat.le_refl _) (I.hok.fresh (Nat.le_refl _));have zs:s.heap.objs.size≠z:=fun e=>by
   have:=Heap.lt_size st.zip; rw [<- e] at this; exact Nat.lt_irrefl _ this
  have kk2:∀b o,b∉[z,TI,TO,i1,i2]->s.heap.get? b=some o->h''.get? b=some o:=fun b o n e=>(sb.2 b (fun q=>n (by rw [q]; simp))).trans (kk b o n e);have I1:Inv X pins σ H { s with heap:=h'' }:=I.butL (t':=s.toks) hf kk2
  have gT2:h''.get? s.heap.objs.size=some { cls:=Value.type "tuple",data:=Data.seq #[u1,u2] }:=(sb.2 _ zs).trans gT;obtain ⟨f0,f1,f2,f3,f4,f5⟩:=fT;have I2:Inv X pins σ (upd H s.heap.objs.size (.tup [v,u])) { s with heap:=h'' }:=I1.track f0 (fun ob e _=>absurd (Nat.lt_of_lt_of_le (Heap.lt_size e) I.sz) (Nat.lt_irrefl _)) f1 f4 f5
   ⟨show 2<=sizeLine by decide,[u1,u2],.cons ru1 (.cons ru2 .nil),⟨_,gT2,rfl,_,rfl⟩⟩
  have nz:∀b,b≠z->h''.get? b=h'.get? b:=sb.2;refine ⟨.ref s.heap.objs.size,_,I2,rfl,⟨_,f0,rfl,v,u,fun xs' h=>?_,fun ys' h=>?_,rfl⟩,?_,fun b hb=>?_⟩
  ·rw [I.list_inj h hq1]; exact hx
  ·rw [I.list_inj h hq2]; exact hy
  ·have ap':=ap;simp only [List.nodup_cons,List.mem_cons,List.not_mem_nil,or_false,not_or,List.nodup_nil,and_true,not_false_eq_true] at ap';obtain ⟨⟨az1,az2,az3,az4⟩,_⟩:=ap';obtain ⟨_,gti,⟨a,c,gto⟩,⟨o1,g1,r1⟩,⟨o2,g2,r2⟩⟩:=Z;exact ⟨gz'',(nz _ (Ne.symm az1)).trans gti,⟨a,c,(nz _ (Ne.symm az2)).trans gto⟩,⟨o1,(nz _ (Ne.symm az3)).trans g1,r1⟩,⟨o2,(nz _ (Ne.symm az4)).trans g2,r2⟩⟩
  ·have hb2:b≠s.heap.objs.size:=fun e=>by
    obtain ⟨o,g,_⟩:=(show ∃o,s.heap.get? b=some o/\True from by
     obtain ⟨gz,gti,⟨a,c,gto⟩,⟨o1,g1,_⟩,⟨o2,g2,_⟩⟩:=st;simp only [List.mem_cons,List.not_mem_nil,or_false] at hb;rcases hb with rfl | rfl | rfl | rfl | rfl
     ·exact ⟨_,gz,trivial⟩
     ·exact ⟨_,gti,trivial⟩
     ·exact ⟨_,gto,trivial⟩
     ·exact ⟨_,g1,trivial⟩
     ·exact ⟨_,g2,trivial⟩)
    have:=Heap.lt_size g;rw [e] at this; exact Nat.lt_irrefl _ this
   rw [aL hb2]; exact (hf b hb).1
 done:=by
  intro X hP hw hK hc i pins s σ H E I hf st hg;subst hP hw hK;obtain ⟨xs,ys,hq1,hq2,hx⟩:=hg;obtain ⟨its1,rv1,p1,hz1⟩:=I.list hq1;obtain ⟨its2,rv2,p2,hz2⟩:=I.list hq2;have l1:=rv1.length;have l2:=rv2.length;refine Nj (I.ok.hd hc) ap n1 n2 st (show s.heap.IsList t1 its1.toArray from p1.isList) (show s.heap.IsList t2 its2.toArray from p2.isList) ?_ fun h' kk=>⟨rfl,I.butL (t':=s.toks) hf kk⟩
  rcases hx with q | q
  ·exact .inl (by simp; omega)
  ·exact .inr (by simp; omega)
 self:=fun _ _ _ _ _ st h=>wpAny_pyIter_zip st.zip h
noncomputable def l_:List D->Res (List D)
 | [.lst xs,.lst ys]=>.ok (pQ xs ys)
 | _=>.stuck
theorem Nq {K:PySem.W.Frag} {H:Hp} {t1 t2:Addr} {xs ys:List V} {ds es:List D} (h1:SqL K H t1 xs) (h2:SqL K H t2 ys) (r1:Reps K H ds xs) (r2:Reps K H es ys):cT K (vX K t1 t2) H (pQ ds es):=by
 intro H' e;have q1:=e.seq h1;have q2:=e.seq h2;have p1:=r1.mono e;have p2:=r2.mono e;refine ⟨fun i d hd=>?_,xs,ys,q1,q2,?_⟩
 ·unfold pQ at hd;rw [List.getElem?_zipWith] at hd
  cases z1:ds[i]? with
  | none=>rw [z1] at hd; simp at hd
  | some x =>
   cases z2:es[i]? with
   | none=>rw [z1,z2] at hd; simp at hd
   | some y =>
    rw [z1,z2] at hd;simp only [Option.some.injEq] at hd;subst hd;obtain ⟨v,e1,s1⟩:=p1.get z1;obtain ⟨u,e2,s2⟩:=p2.get z2;refine ⟨⟨xs,ys,v,u,q1,q2,e1,e2⟩,fun a H'' yl=>?_⟩;obtain ⟨T,hT,rfl,v',u',k1,k2,rfl⟩:=yl;have w1:=k1 xs q1;have w2:=k2 ys q2;rw [e1] at w1; rw [e2] at w2
    cases w1; cases w2
    have sm:=gb hT (.tup [v,u]);exact ⟨sm,iJ (SqT.of bR) (.cons (s1.mono sm) (.cons (s2.mono sm) .nil))⟩
 ·unfold pQ;rw [List.length_zipWith,r1.length,r2.length];omega
theorem Nr {X:Cx} {a b:Expr} {fa:DS->Res (List D)} {p pos tp:Pos} {elts:List Expr} {x1:Nat} (hg:Gl X "zip") (hm:X.mg "zip" = none) (ha:PAD X [a,b] fa) (hs:starEach [a,b] X.env=[(false,eval a X.env),(false,eval b X.env)]:=by rfl) (hs2:starEach [b] X.env=[(false,eval b X.env)]:=by rfl) :
  PID X (.Tuple elts x1 tp) (.Call (.Name "zip" p) [a,b] [] pos) (fun δ=>(fa δ).bind l_):=by
 intro pins s σ G H δ I R hn
 try dsimp only at hn ⊢
 refine Call_ (oN I hg hm boot_zip (PyProof.Rows.callWith_type1 (ha.use I R (dF hn) (fun ds us s1 vs H1 q I1 r1 e1 b1 p1=>?_) fun e s1 q=>q.same fun x z=>dU z) (by rw [hs,hs2]) (by rw [hs2]; rfl)));have h2:=dX hn q;unfold l_ at h2
 split at h2
 ·rename_i ds1 ds2;obtain ⟨v,ws,rfl,w1,w2⟩:=p1.cons_of;obtain ⟨v',ws,rfl,w3,w4⟩:=w2.cons_of
  cases w4.nil_of
  obtain ⟨t1,xs,rfl,s1',t1'⟩:=cP w1;obtain ⟨t2,ys,rfl,s2',t2'⟩:=cP w3
  cases r1 with
  | cons ra rr =>
   cases rr with
   | cons rb rr =>
    cases rr
    cases ra
    cases rb
    obtain ⟨its1,rv1,pp1,hz1⟩:=I1.list s1';obtain ⟨its2,rv2,pp2,hz2⟩:=I1.list s2';refine hU' (show s1.heap.IsList t1 its1.toArray from pp1.isList) (show s1.heap.IsList t2 its2.toArray from pp2.isList) fun h' Z kk sz=>?_
    have I2:Inv X pins σ H1 { s1 with heap:=h' }:=I1.kept (t':=s1.toks) kk
    obtain ⟨o1,g1,_⟩:=id pp1.isList;obtain ⟨o2,g2,_⟩:=id pp2.isList;have l1:=Heap.lt_size g1;have l2:=Heap.lt_size g2;refine wpAny_pyIter_zip Z.zip ?_;refine ⟨_,s1.heap.objs.size + 4,[s1.heap.objs.size + 4,s1.heap.objs.size + 2,s1.heap.objs.size + 3,s1.heap.objs.size,s1.heap.objs.size + 1],_,_,H1,by rw [q]; rfl,rfl,I2,Np ?_ ?_ ?_,Z,fun b hb=>?_,e1,Nq s1' s2' t1' t2'⟩
    ·exact LR _
    ·exact Fw l1
    ·exact Fw l2
    ·exact I1.fpOk (Fx hb) (I1.hok.fresh (Fx hb))
 ·exact (h2 rfl).elim
noncomputable def hidL (H:Hp) (L:List Addr):Hp:=fun b=>if b∈L then none else H b
noncomputable def iT (H1 H:Hp) (L:List Addr):Hp:=fun b=>if b∈L then H b else H1 b
theorem vY {H:Hp} {L:List Addr} {b:Addr} (h:b∈L):hidL H L b=none:=if_pos h
theorem oX {H:Hp} {L:List Addr} {b:Addr} (h:b∉L):hidL H L b=H b:=if_neg h
theorem zH {H1 H:Hp} {L:List Addr} {b:Addr} (h:b∈L):iT H1 H L b=H b:=if_pos h
theorem vZ {H1 H:Hp} {L:List Addr} {b:Addr} (h:b∉L):iT H1 H L b=H1 b:=if_neg h
theorem zJ {H:Hp} {L:List Addr} {b:Addr} (h:H b=none):hidL H L b=none:=by
 by_cases z:b∈L
 ·exact vY z
 ·rw [oX z]; exact h
noncomputable def lr:HO->Prop
 | .lst _=>True
 | .ins _ _ _=>True
 | .own _=>True
 | .dK _=>True
 | _=>False
structure Own (H:Hp) (L:List Addr):Prop where
 kind:∀b∈L,∃o,H b=some o/\lr o
 cl:∀b∈L,∀y,H b=some (.own y)->y∈L/\∃C fs,H y=some (.ins C b fs)
 ins:∀a∈L,∀C dx fs,H a=some (.ins C dx fs)->dx∈L
noncomputable def jD (h:Heap) (L:List Addr):List (Addr×Obj):=L.filterMap fun b=>(h.get? b).map fun o=>(b,o)
theorem Nt {h:Heap} {L:List Addr} {b:Addr} {o:Obj} (hb:b∈L) (e:h.get? b=some o):(b,o)∈jD h L :=
 List.mem_filterMap.mpr ⟨b,hb,by rw [e]; rfl⟩
theorem Nu {h:Heap} {L:List Addr} {p:Addr×Obj} (hp:p∈jD h L):p.1∈L/\h.get? p.1=some p.2:=by
 obtain ⟨b,hb,e⟩:=List.mem_filterMap.mp hp
 cases q:h.get? b with
 | none=>rw [q] at e; cases e
 | some o=>rw [q] at e; cases e; exact ⟨hb,q⟩
theorem hW' {P:Program} {w:World} {H:Hp} {h:Heap} {a:Addr} {o:HO} (x:ObjOk P w H h a o) (k:lr o):∃ob,h.get? a=some ob:=by
 have:=x.lt
 cases o with
 | lst xs=>obtain ⟨_,_,_,_,e⟩:=x; exact ⟨_,e⟩
 | ins C dx fs=>obtain ⟨_,_,_,e,_⟩:=x; exact ⟨_,e⟩
 | own y=>obtain ⟨_,e⟩:=x; exact ⟨_,e⟩
 | dK kvs=>obtain ⟨_,_,_,_,o,_,_,e,_⟩:=x; exact ⟨_,e⟩
 | _=>exact k.elim
section
variable {X:Cx} {pins:List (Addr×Obj)} {σ:St} {H H1:Hp} {s s1:Shared} {L:List Addr}
theorem _root_.L2.Inv.tnofs {a:Addr} {o:HO} (I:Inv X pins σ H s) (h:H a=some o):a∉X.fs:=fun hb=>by
 have hx:a∉X.ex:=fun z=>I.ok.exfs a z hb;obtain ⟨_,ob,e,_⟩:=I.ok.funs.mem hb;have:=I.base.free a ob e (I.ok.frf a hb) hx;rw [h] at this; cases this
theorem Nv {P:Program} {w:World} {H:Hp} {h:Heap} (ok:HOk P w H h) {a:Addr} {o:HO} (hH:H a=some o) (k:lr o) (w':∀y,o=.own y->∃C fs,H y=some (.ins C a fs)) {ob:Obj} (e:h.get? a=some ob) (v:Option Value):ob.data≠.cell v:=by
 intro z;have x:=ok a o hH
 cases o with
 | lst xs=>obtain ⟨_,_,_,_,e'⟩:=x; rw [e] at e'; cases e'; cases z
 | ins C dx fs=>obtain ⟨_,_,_,e',_⟩:=x; rw [e] at e'; cases e'; unfold PySem.W.instObj at z; cases z
 | own y =>
  obtain ⟨C,fs,hy⟩:=w' y rfl;obtain ⟨_,_,_,_,mA,⟨od,es,ep,e2,c⟩,_⟩:=ok y _ hy;rw [e] at e2; cases e2;rw [c.1] at z; cases z
 | dK kvs =>
  obtain ⟨_,_,vs,_,o',es,ep,e',c,d,_⟩:=x;rw [e] at e'; cases e';rw [d] at z; cases z
 | _=>exact k.elim
theorem _root_.L2.Inv.hideL (I:Inv X pins σ H s) (w:Own H L):Inv X (jD s.heap L ++ pins) σ (hidL H L) s:=by
 have ne:∀{b:Addr} {o:HO},H b=some o->¬lr o->hidL H L b=some o:=fun {b o} e n=>by
  rw [oX fun z=>?_]
  ·exact e
  ·obtain ⟨o',e',k⟩:=w.kind b z;rw [e] at e'; cases e'; exact n k
 refine ⟨I.ok,I.os,I.bare,⟨I.base.keep,I.base.slot,fun b ob e n hx=>zJ (I.base.free b ob e n hx),I.base.there,fun b xs e=>ne (I.base.tups b xs e) (fun z=>z),fun b ob u e=>ne (I.base.frzs b ob u e) (fun z=>z),fun b ps e=>?_⟩,I.loc,I.cell,zJ I.free,fun x c e=>zJ (I.freeC x c e),fun p hp=>?_,fun b u q=>?_,I.len⟩
 ·obtain ⟨more,q⟩:=I.base.tbls b ps e;exact ⟨more,ne q (fun z=>z)⟩
 ·have hp':p∈jD s.heap L\/p∈X.pn ++ pins:=by
   rcases List.mem_append.mp hp with q | q
   ·exact .inr (List.mem_append.mpr (.inl q))
   ·rcases List.mem_append.mp q with q | q
    ·exact .inl q
    ·exact .inr (List.mem_append.mpr (.inr q))
  rcases hp' with hp' | hp'
  ·obtain ⟨h1,h2⟩:=Nu hp';obtain ⟨o,e,k⟩:=w.kind _ h1;exact ⟨h2,vY h1,(fun z=>by have q:=I.free; rw [<- z] at q; rw [e] at q; cases q),I.tnofs e,fun v=>Nv I.hok e k (fun y z=>(w.cl _ h1 y (by rw [e,z])).2) h2 v⟩
  ·obtain ⟨e,n,r⟩:=I.pin p hp';exact ⟨e,zJ n,r⟩
 ·by_cases z:b∈L
  ·rw [vY z] at q; cases q
  ·rw [oX z] at q;exact (I.hok b u q).stay (fun c v _ e=>e) (fun c z'=>by rw [oX fun y=>z (w.cl c y b z').1]; exact z') fun c xs z=>ne z (fun y=>y)
theorem _root_.L2.Inv.seenL {σ':St} (I0:Inv X pins σ' H s) (w:Own H L) (I:Inv X (jD s.heap L ++ pins) σ H1 s1):(∀b∈L,H1 b=none)/\Inv X pins σ (iT H1 H L) s1:=by
 have pp:∀{b:Addr},b∈L->∃ob,s.heap.get? b=some ob/\s1.heap.get? b=some ob/\H1 b=none:=fun {b} hb=>by
  obtain ⟨o,e,k⟩:=w.kind b hb;obtain ⟨ob,q⟩:=hW' (I0.hok b o e) k;obtain ⟨p1,p2,_⟩:=I.pin (b,ob) (List.mem_append.mpr (.inr (List.mem_append.mpr (.inl (Nt hb q)))));exact ⟨ob,q,p1,p2⟩
 have nn:∀b∈L,H1 b=none:=fun b hb=>(pp hb).elim fun _ z=>z.2.2;have ne:∀{b:Addr} {o:HO},H1 b=some o->iT H1 H L b=some o:=fun {b o} e=>by
  rw [vZ fun z=>?_]
  ·exact e
  ·rw [nn b z] at e; cases e
 have non:∀{b:Addr},H b=none->H1 b=none->iT H1 H L b=none:=fun {b} e0 e=>by
  by_cases z:b∈L
  ·rw [zH z]; exact e0
  ·rw [vZ z]; exact e
 refine ⟨nn,I.ok,I.os,I.bare,⟨I.base.keep,I.base.slot,fun b ob e n hx=>non (I0.base.free b ob e n hx) (I.base.free b ob e n hx),I.base.there,fun b xs e=>ne (I.base.tups b xs e),fun b ob u e=>ne (I.base.frzs b ob u e),fun b ps e=>?_⟩,I.loc,I.cell,non I0.free I.free,fun x c e=>non (I0.freeC x c e) (I.freeC x c e),fun p hp=>?_,fun b u q=>?_,I.len⟩
 ·obtain ⟨more,q⟩:=I.base.tbls b ps e;exact ⟨more,ne q⟩
 ·have hp':p∈X.pn ++ (jD s.heap L ++ pins):=by
   rcases List.mem_append.mp hp with q | q
   ·exact List.mem_append.mpr (.inl q)
   ·exact List.mem_append.mpr (.inr (List.mem_append.mpr (.inr q)))
  obtain ⟨e,n,r⟩:=I.pin p hp';exact ⟨e,non (I0.pin p hp).2.1 n,r⟩
 ·by_cases z:b∈L
  ·rw [zH z] at q;have x:=I0.hok b u q;have up:∀{c:Addr} {ob:Obj},c∈L->s.heap.get? c=some ob->s1.heap.get? c=some ob:=fun {c ob} hc e=>by
    obtain ⟨ob',q1,q2,_⟩:=pp hc;rw [q1] at e; cases e; exact q2
   obtain ⟨o',e',k⟩:=w.kind b z;rw [q] at e'; cases e'
   cases u with
   | lst xs=>obtain ⟨z1,its,n,r,e⟩:=x; exact ⟨z1,its,n,r,up z e⟩
   | dK kvs=>obtain ⟨z1,y,vs,r,ob,es,ep,e,c⟩:=x; exact ⟨z1,y,vs,r,ob,es,ep,up z e,c⟩
   | own y=>obtain ⟨ob,e⟩:=x; exact ⟨ob,up z e⟩
   | ins C dx fs =>
    obtain ⟨d,z1,ne',e,mA,⟨od,es,ep,e2,c⟩,r⟩:=x;have hd:=w.ins b z C dx fs q;exact ⟨by rw [zH hd]; exact d,z1,ne',up z e,mA,⟨od,es,ep,up hd e2,c⟩,r⟩
   | _=>exact k.elim
  ·rw [vZ z] at q;exact (I.hok b u q).stay (fun c v _ e=>e) (fun c z'=>ne z') fun c xs z'=>ne z'
end
noncomputable def gQ (sub:Str->Option Bool) (fb fsu:DS->Out):DS->Out:=fun δ=>match fb δ with
 | .err x δ'=>(match sub x.cls with
  | some true=>(match fsu δ' with
   | .nxt δ2=>.nxt δ2
   | .ret d=>.ret d
   | _=>.stuck)
  | _=>.stuck)
 | o=>o
section
variable {X:Cx} {body suite:List Stmt} {b₀:Stmt} {fb fsu:DS->Out} {sub:Str->Option Bool} {c:Str} {C':Addr} {cp hpos pos:Pos}
theorem Nx (hcalm:X.calm=true) (hst:X.stack=X.env :: X.outer/\X.env.frame=some X.env.locals) (hcn:Gl X c) (hcm:X.mg c=some (.ref C'))
  (hsub:∀x C,PySem.W.nsIn X.K mainGlobals x=some (some (.ref C))->sub x=some true->PySem.W.exmOne X.K (.ref C) (.ref C')=some true) (hb:PSDs X body fb) (hsu:∀a,PSDs (X.marked a) (b₀ :: suite) fsu)
  (hdb:(c == ("__debug__" : Str))=false:=by decide) :
  PSD X (.Try body [.ExceptHandler (some (.Name c cp)) none (b₀ :: suite) hpos] [] [] pos) (gQ sub fb fsu):=by
 intro pins s σ G H δ I R hs;have hfb:fb δ≠.stuck:=fun z=>hs (by unfold gQ; rw [z]);refine wpAny_Try_except (Be (fun pins I=>hb pins s σ G H δ I R hfb) I (fun fl s1 p b=>?_) fun e s1 p=>?_)
 ·cases fl with
  | next=>obtain ⟨δ',σ',H',q1,q2⟩:=p; exact wpAny_execs_nil ⟨δ',σ',H',by unfold gQ; rw [q1],q2⟩
  | brk=>obtain ⟨δ',σ',H',q1,q2⟩:=p; exact ⟨δ',σ',H',by unfold gQ; rw [q1],q2⟩
  | cont=>obtain ⟨δ',σ',H',q1,q2⟩:=p; exact ⟨δ',σ',H',by unfold gQ; rw [q1],q2⟩
  | ret u=>obtain ⟨d,v,σ',H',q1,q2⟩:=p; exact ⟨d,v,σ',H',by unfold gQ; rw [q1],q2⟩
 ·obtain ⟨x,δ',a,C,σ',H',q1,rfl,I1,tk1,R1,hC,dd,pay,fly⟩:=p;have hsx:sub x.cls=some true:=by
   cases z:sub x.cls with
   | none=>exact (hs (by unfold gQ; rw [q1]; simp only [z])).elim
   | some k =>
    cases k with
    | true=>rfl
    | false=>exact (hs (by unfold gQ; rw [q1]; simp only [z])).elim
  have ev:gQ sub fb fsu δ=(match fsu δ' with
   | .nxt δ2=>.nxt δ2
   | .ret d=>.ret d
   | _=>.stuck):=by unfold gQ; rw [q1]; simp only [hsx]
  have hfs:fsu δ'≠.stuck:=fun z=>hs (by rw [ev,z]);have flyE:Fly (noObjs s.heap) H' s1.heap a (.ref C,dd):=by
   obtain ⟨_,w2,oe,vs,a0,w3,w4,w5,w6,w7⟩:=fly;refine ⟨zg _ _,w2,oe,vs,a0,w3,w4,w5,w6,?_⟩;rcases w7 with w7 | ⟨T,oT,ts,z1,z2,z3⟩
   ·exact .inl w7
   ·exact .inr ⟨T,oT,ts,z1,zg _ _,z3⟩
  have own:∀b,dq s1.heap a b->(∀o,X.s₀.heap.get? b=some o->X.H₀ b=none->b∈X.ex)/\H' b=none/\(∃o vs,s1.heap.get? b=some o/\o.data=.fields vs)/\∀p∈X.pn ++ pins,p.1≠b:=fun b hx=>by
   obtain ⟨n1,n2,o1,vs1,g1,d1⟩:=fly.ex hx;refine ⟨fun o e n=>?_,n2,⟨o1,vs1,g1,d1⟩,fun p hp z=>?_⟩
   ·by_cases hxx:b∈X.ex
    ·exact hxx
    ·exfalso
     by_cases hf:b∈X.fs
     ·exact I1.fs_rec hf g1 d1
     ·have k1:=I1.base.keep b o e n hf hxx;have k0:=I.base.keep b o e n hf hxx;rw [g1] at k1; cases k1;exact n1 o1 vs1 k0 d1
   ·subst z;have k1:=(I1.pin p hp).1;have k0:=(I.pin p hp).1;rw [g1] at k1;rw [<- Option.some.inj k1] at k0;exact n1 o1 vs1 k0 d1
  have hfr:X.A.frames=some (X.env :: X.outer):=by rw [I.ok.frames,hst.1]
  have hfun:s1.heap.FunFrames X.base (X.env :: X.outer):=by have:=I1.stack; rw [hst.1] at this; exact this
  have hfs':(X.env :: X.outer).filterMap (·.frame)=frs X.stack:=by rw [hst.1]; rfl
  refine Bj (base:=X.base) hfr hfun hst.2 (Nat.zero_le _) (fun b hb=>I1.hok.fresh hb) flyE fun h2 k2 f2 new2=>?_;rw [hfs'] at k2;have J:=I1.kf (t':=s1.toks) k2 fun b hx=>by
   obtain ⟨w1,w2⟩:=own b hx;exact ⟨fun o vs e n _ hxx=>absurd (w1 o e n) hxx,w2⟩
  have own2:∀b,dq h2 a b->(∀o,X.s₀.heap.get? b=some o->X.H₀ b=none->b∈X.ex)/\H' b=none/\(∃o vs,h2.get? b=some o/\o.data=.fields vs)/\∀p∈X.pn ++ pins,p.1≠b:=fun b hx=>by
   obtain ⟨_,n2,n3⟩:=f2.ex hx;rcases new2 b hx with z | z
   ·subst z;obtain ⟨w1,_,_,w4⟩:=own b (.inl rfl);exact ⟨w1,n2,n3,w4⟩
   ·refine ⟨fun o e _=>absurd (Nat.lt_of_lt_of_le (Heap.lt_size e) (Nat.le_trans I1.sz z)) (Nat.lt_irrefl _),n2,n3,fun p hp w=>?_⟩;have:=Heap.lt_size (I1.pin p hp).1;rw [w] at this;exact absurd this (Nat.not_lt.mpr z)
  have exf2:=f2;obtain ⟨_,hHa,oe,vs,a0,T,oT,ts,ge,⟨ce,dde⟩,de,rest⟩:=exf2;have Jm:=J.marked a;refine wpAny_handleBy_cons (codeAny_handlers_test (j9 (X:=X.marked a) Jm hcn hcm ?_ hdb)) (by intro q; cases q);have LT:PySem.W.Looks (model X.prog X.w) h2 (typeOf (.ref a)) (.ref C):=by
   have ce:oe.cls=.ref C:=ce;rw [<- ce];exact (PySem.W.Looks.ld ge).andThen .now
  refine PySem.W.exm_one J.kIn LT (hsub x.cls C hC hsx) _ _ _ _ (fun _ _ e=>e) ?_;refine codeAny_handlers_suite ?_;refine Bh (s:={ s1 with heap:=h2,toks:=s1.toks }) f2 fun h3 k3 k3' f3 in3=>?_
  have J3:Inv (X.marked a) pins σ' H' { s1 with heap:=h3,toks:=s1.toks }:=by
   have q:=L2.Inv.kf (X:=X.marked a) (s:={ s1 with heap:=h2,toks:=s1.toks }) (h':=h3) (t':=s1.toks) (a:=a) Jm ⟨fun b o hb _ hx=>k3 b o hb hx,fun b o hb _ hx=>⟨o.slots,k3 b o hb hx⟩,k3'⟩ fun b hx=>by
    obtain ⟨w1,w2⟩:=own2 b hx;exact ⟨fun o vs e n _ hxx=>absurd (w1 o e n) hxx,w2⟩
   exact q
  refine wpAny_mono (hsu a pins _ σ' G H' δ' J3 R1 hfs) (fun fl s5 p=>?_) fun e s5 p=>?_
  ·cases fl with
   | next =>
    obtain ⟨δ2,σ2,H2,q2,I5,t5,R5⟩:=p;exact ⟨δ2,σ2,H2,by rw [ev,q2],I5.unmarked I.ok,tk1.trans t5,R5⟩
   | brk=>obtain ⟨δ2,σ2,H2,q2,_⟩:=p; exact (hs (by rw [ev,q2])).elim
   | cont=>obtain ⟨δ2,σ2,H2,q2,_⟩:=p; exact (hs (by rw [ev,q2])).elim
   | ret u =>
    obtain ⟨d,v,σ2,H2,q2,I5,t5,g5,r5,p5⟩:=p;exact ⟨d,v,σ2,H2,by rw [ev,q2],I5.unmarked I.ok,tk1.trans t5,g5,r5,p5⟩
  ·obtain ⟨y,δ2,_,_,_,_,q2,_⟩:=p;exact (hs (by rw [ev,q2])).elim
end
theorem Cg {X:Cx} {st:List Stmt}:PSDs X st (fun _=>.stuck):=fun pins s σ G H δ I R h=>(h rfl).elim
theorem Al.up {X:Cx} {G G':Hp} {x:Exn} (e:Same G G') (h:Al X G x):Al X G' x:=by
 intro pins σ H s2 δ' ev s1 hG I p;obtain ⟨y,δ1,a,C,σ',H',q1,q2,q3,q4,q5,q6,q7⟩:=p
 cases q1
 refine h pins σ H s2 (δ'.map fun _=>none) ev s1 (e.trans hG) I ⟨x,_,a,C,σ',H',rfl,q2,q3,q4,⟨e.trans q5.same,by rw [List.length_map]; exact q5.len,fun i sv z=>?_,fun i j ds es v _ z=>?_⟩,q6,q7⟩
 ·rw [List.getElem?_map] at z
  cases w:δ'[i]? <;> rw [w] at z <;> cases z
 ·rw [List.getElem?_map] at z
  cases w:δ'[i]? <;> rw [w] at z <;> cases z
theorem NOX.thaw {X:Cx} {G G' H:Hp} {o:Out} {E:Ends} (e:Same G G') (h:NOX X G H (fW o) E):NOX X G' H o E:=by
 cases o with
 | stuck=>exact h
 | nxt δ=>exact fun σ' H' t r=>h σ' H' t (r.thaw2 e)
 | brk δ=>exact fun σ' H' t r=>h σ' H' t (r.thaw2 e)
 | cnt δ=>exact fun σ' H' t r=>h σ' H' t (r.thaw2 e)
 | ret d=>exact fun v H' t g r=>h v H' t (e.trans g) r
 | err x δ=>exact Al.up e h
theorem PID.pix {X:Cx} {tg iter:Expr} {f:DS->Res (List D)} (h:PID X tg iter f):PI X tg iter (fun σ H R=>∃G δ ds,RepSt X.K G H σ δ/\f δ=.ok ds/\∀J H',Same H H'->cT X.K J H' ds->R J H'):=by
 intro pins s σ H R I ⟨G,δ,ds,RR,q,n⟩;refine wpAny_mono (h pins s σ G H δ I RR (by rw [q]; intro z; cases z)) (fun v s1 p=>?_) fun e s1 p=>?_
 ·refine wpAny_mono p (fun itv s2 ⟨ds',it,fp,tn,J,H',q1,q2,I2,T,t0,hf,e2,y⟩=>?_) fun e s2 p=>?_
  ·rw [q] at q1; cases q1;exact ⟨it,fp,tn,J,H',q2,I2,T,t0,hf,n J H' e2 y⟩
  ·rw [q] at p; exact p.none.elim
 ·rw [q] at p; exact p.none.elim
noncomputable def jW (t:cX) (fi:DS->Res (List D)) (b:DS->Out):DS->Out:=fun δ=>pK (fi δ) fun ds=>fW (gO t b ds (thaw δ))
section
variable {X:Cx} {tg iter:Expr} {body:List Stmt} {t:cX} {fb:DS->Out} {pos:Pos}
theorem fi' {J:It} {ds:List D} {H0 Hs:Hp} {E:Ends} (y:cT X.K J H0 ds) {δ:DS} {σ:St} (R:RepSt X.K H0 Hs σ δ) (h:NOX X H0 Hs (gO t fb ds δ) E) :
  ∃W:Nat->Nat->St->Hp->Prop,(∃m,W 0 m σ Hs)/\∀i m σ H,W i m σ H ->
   (J.stop i H/\E.nx σ H)\/(J.go i H/\∃N:St->Hp->Prop,(∀σ' H',N σ' H'->∃m',m' < m/\W (i + 1) m' σ' H')/\∀x H',J.yld i H x H'->gD X t x σ H' fun σ2 H2=>sX X fb { E with nx:=N,ct:=N,bk:=E.nx } σ2 H2):=by
 refine ⟨fun i m σ H=>i + m=ds.length/\∃δ',RepSt X.K H0 H σ δ'/\NOX X H0 H (gO t fb (ds.drop i) δ') E,⟨ds.length,by omega,δ,R,by simpa using h⟩,?_⟩
 rintro i m σ1 H1 ⟨hm,δ1,R1,h1⟩
 obtain ⟨y1,y2⟩:=y H1 R1.same
 by_cases hi:i < ds.length
 ·right
  have hd:ds[i]? = some ds[i]:=List.getElem?_eq_getElem hi;obtain ⟨go,yl⟩:=y1 i ds[i] hd;refine ⟨go,fun σ' H'=>(i + 1) + (m - 1)=ds.length/\∃δ',RepSt X.K H0 H' σ' δ'/\NOX X H0 H' (gO t fb (ds.drop (i + 1)) δ') E,fun σ' H' n=>⟨m - 1,by omega,n⟩,fun x H' yx=>?_⟩;obtain ⟨e,p⟩:=yl x H' yx;rw [List.drop_eq_getElem_cons hi] at h1;exact hM' (R1.mono e) p (h1.tk e.tk) fun δ' σ' H'' _ r z=>⟨by omega,δ',r,z⟩
 ·left
  have e:i=ds.length:=by omega
  subst e;rw [List.drop_eq_nil_of_le (Nat.le_refl _)] at h1;exact ⟨y2,h1 σ1 H1 (TK.refl H1) R1⟩
theorem Ny {fi:DS->Res (List D)} (hp:PassesOwn (model X.prog X.w) X.A X.env X.xe) (hc:X.calm=true) (hi:PID X tg iter fi) (hg:PGD X tg t) (hb:PSDs X body fb) (hf:∀x,foldedSetIterable iter X.env x=pure x:=by intro _; rfl) :
  PS X (.For tg iter body [] pos) (sX X (jW t fi fb)):=by
 intro pins s σ H E I ⟨G,δ,R,h⟩;refine Aa hp hc hi.pix hg.pgx hb.psx hf pins s σ H E I ?_;unfold jW at h
 cases q:fi δ with
 | stuck=>simp only [q] at h; exact h.elim
 | err x=>simp only [q] at h; exact h.elim
 | ok ds =>
  simp only [q] at h;refine ⟨G,δ,ds,R,q,fun J H1 e1 y=>?_⟩;have R1:=(R.mono e1);exact fi' y R1.thaw (NOX.thaw R1.same (NOX.tk h e1.tk))
end
noncomputable def ir (aU:Str->Bool) (m:Str):D->Bool
 | .obj c fs _=>aU c && !fs.contains m
 | _=>false
theorem kS' {aU:Str->Bool} {m:Str} {d:D} (h:ir aU m d=true):∃c fs ds,d=.obj c fs ds/\aU c=true/\fs.contains m=false:=by
 cases d with
 | obj c fs ds =>
  have h:(aU c && !fs.contains m)=true:=h;rw [Bool.and_eq_true,Bool.not_eq_true'] at h;exact ⟨c,fs,ds,rfl,h.1,h.2⟩
 | _=>exact absurd h (by intro z; cases z)
noncomputable def dO (aU:Str->Bool) (m:Str) (F:List D->Res D) (fo:DS->Res D) (fa:DS->Res (List D)):DS->Res D:=fun δ=>(fo δ).bind fun d=>if ir aU m d=true then (fa δ).bind fun es=>F (d :: es) else .stuck
theorem pW {X:Cx} {o e:Expr} {es:List Expr} {fo:DS->Res D} {fa:DS->Res (List D)} {m:Str} {pos apos:Pos} {aU:Str->Bool} {F:List D->Res D} {j k:Nat} {pl:Sem Bool} (Fn:g8 X.prog X.w X.K X.mg X.base j aU m F) (hr:Room k X.A) (he:PD X o fo) (ha:PAD X (e :: es) fa)
  (hj:j<=k:=by first | decide | omega)
  (hst:starEach (e :: es) X.env=(false,eval e X.env) :: starEach es X.env:=by rfl) (hpl:(backTo pos (starEach es X.env)).any (·.1)=false:=by rfl)
  (ht:eval (.Call (.Attribute o m apos) (e :: es) [] pos) X.env=(do
   let ov <- eval o X.env
   standAt apos.atName
   let (f,first) <- holding [ov] (getMethod ov m pl)
   callWith pos f first (backTo pos (starEach (e :: es) X.env)) (backToKw pos (keywordEach [] X.env))):=by rfl) :
  PD X (.Call (.Attribute o m apos) (e :: es) [] pos) (dO aU m F fo fa):=by
 obtain ⟨f,fd,ps,Fn,hb,M⟩:=Fn;intro pins s σ G H δ I R hs;unfold dO at hs ⊢;refine PySem.W.methodCall_KW (pl:=pl) (he.use I R (dF hs) (fun d u s1 v H1 q I1 r1 e1 b1 p1=>?_) fun e s1 q=>q.same fun x z=>dU z) ht;have hd:=dX hs q;have ho:ir aU m d=true:=by
  by_cases z:ir aU m d=true
  ·exact z
  ·exact absurd (if_neg z) hd
 have ev:(fo δ).bind (fun d=>if ir aU m d=true then (fa δ).bind fun es=>F (d :: es) else .stuck)=(fa δ).bind fun es=>F (d :: es):=by rw [q,Res.bind_ok,if_pos ho]
 rw [if_pos ho] at hd;obtain ⟨c,fs,ds,rfl,hc,hm⟩:=kS' ho;have p1':=p1;obtain ⟨a,C,dx,us,rfl,hC,hH,hl,rr⟩:=pR p1
 cases r1
 obtain ⟨cl,mt⟩:=M c hc C hC;refine yQ I1 hH cl mt (zu hm) ?_;refine PySem.W.callWith_K (first:=[.ref a]) (h₀:=X.base) I.ok.mod.kin mt.kp (ha.use I1 (R.mono e1) (dF hd) (fun ds2 us2 s2 vs2 H2 q2 I2 r2 e2 b2 p2=>⟨I2.kIn,?_⟩) fun e s2 z=>z.back e1 b1 fun x w=>by rw [ev]; exact dU w) hst hpl
 have hF:=dX hd q2;have ev2:(fo δ).bind (fun d=>if ir aU m d=true then (fa δ).bind fun es=>F (d :: es) else .stuck)=F (.obj c fs ds :: ds2):=by rw [ev,q2,Res.bind_ok]
 refine wpAny_mono (BZ (us:=.ref a :: us2) (vs:=.ref a :: vs2) (Fn.mono hj) hr hb I2 (Reps.cons (p1'.mono e2) p2) (.cons rfl r2) hF) (fun u s3 ⟨d,v,H',w1,w2,w3,w4,w5⟩=>⟨d,v,H',ev2.trans w1,w2,w3,e1.trans (e2.trans w4),w5⟩) fun e s3 z=>?_;exact (z.back e2 b2 (r':=F (.obj c fs ds :: ds2)) fun x w=>w).back e1 b1 fun x w=>ev2.trans w
noncomputable def LoE (M:Model) (env:Env) (e:Expr):Prop:=∀(Γ:PySem.Ctx) (p:Pos) (s:Shared) (Q:Value->Pos->Shared->Prop) (E:Value->Pos->Shared->Prop),Sem.wp M Γ (eval e env) Q E p s->Sem.wp M Γ (eval e env) (fun a p' s'=>1<=s'.toks/\Q a p' s') E p s
theorem sy {α:Type} {M:Model} {Γ:PySem.Ctx} {t:Sem α} {Q:α->Pos->Shared->Prop} {E:Value->Pos->Shared->Prop} {p:Pos} {s:Shared} (hn:1<=s.toks) (h:Sem.wp M Γ t Q E p s):Sem.wp M Γ t (fun a p' s'=>1<=s'.toks/\Q a p' s') E p s :=
 Sem.wp_mono M Γ _ (fun _ _ _ z=>z) (fun _ _ _ z=>z.2) _ _ (Sem.wp_toks M Γ 1 t Q E p s hn h)
section
variable {M:Model} {env:Env} {l r v i:Expr} {op:Operator} {pos:Pos}
theorem Nz {c:Int} {k:Nat}:LoE M env (.Constant (.int c) k pos):=fun Γ p s Q E h=>by
 have h':Q (.int c s.toks) p { s with toks:=s.toks + 1 }:=h
 exact (show 1<=s.toks + 1/\_ from ⟨Nat.succ_le_succ (Nat.zero_le _),h'⟩)
theorem NB (hr:LoE M env r):LoE M env (.BinOp l op r pos):=fun Γ p s Q E h=>by
 simp only [eval_BinOp,Sem.wp_bind',Sem.wp_holding,Sem.wp_cmd_standAt,Sem.wp_operate] at h ⊢;exact Sem.wp_mono M Γ _ (fun a p1 s1 h1=>Sem.wp_mono M Γ _ (fun b p2 s2 h2=>sy h2.1 h2.2) (fun _ _ _ z=>z) _ _ (hr Γ p1 s1 _ _ h1)) (fun _ _ _ z=>z) _ _ h
theorem NK (hl:LoE M env l):LoE M env (.BinOp l op r pos):=fun Γ p s Q E h=>by
 simp only [eval_BinOp,Sem.wp_bind',Sem.wp_holding,Sem.wp_cmd_standAt,Sem.wp_operate] at h ⊢;refine Sem.wp_mono M Γ _ (fun a p1 s1 h1=>?_) (fun _ _ _ z=>z) _ _ (hl Γ p s _ _ h);have h2:=sy h1.1 h1.2;exact Sem.wp_mono M Γ _ (fun b p2 s2 h3=>sy h3.1 h3.2) (fun _ _ _ z=>z) _ _ h2
theorem NP (hi:LoE M env i):LoE M env (.Subscript v i pos):=fun Γ p s Q E h=>by
 simp only [eval_Subscript,Sem.wp_bind',Sem.wp_holding,Sem.wp_cmd_standAt,Sem.wp_operate] at h ⊢;refine Sem.wp_mono M Γ _ (fun a p1 s1 h1=>Sem.wp_mono M Γ _ (fun b p2 s2 h2=>?_) (fun _ _ _ z=>z) _ _ (hi Γ p1 s1 _ _ h1)) (fun _ _ _ z=>z) _ _ h;refine Sem.wp_mono M Γ _ (fun c p3 s3 h3=>?_) (fun _ _ _ z=>z) _ _ (sy h2.1 h2.2);refine Sem.wp_mono M Γ _ (fun d p4 s4 h4=>?_) (fun _ _ _ z=>z) _ _ (sy h3.1 h3.2);exact Sem.wp_mono M Γ _ (fun _ p5 s5 h5=>sy h5.1 h5.2) (fun _ _ _ z=>z) _ _ (sy h4.1 h4.2)
end
theorem LoE.use {M:Model} {A:Around} {env:Env} {e:Expr} {s:Shared} {Q:Value->Shared->Prop} {E:Value->Shared->Prop} (h:LoE M env e) (w:wpAny M A (eval e env) (fun u s1=>1<=s1.toks->Q u s1) E s):wpAny M A (eval e env) Q E s :=
 fun Γ p hΓ=>Sem.wp_mono M Γ _ (fun a p' s' z=>z.2 z.1) (fun _ _ _ z=>z) _ _ (h Γ p s _ _ (w Γ p hΓ))
noncomputable def zK (P:Program) (w:World) (K:PySem.W.Frag) (mg:Str->Option Value) (base:Heap) (k:Nat) (nm:Str) (F:List D->Res D):Prop :=
 ∃(f:Addr) (fd:FuncData) (q:Str),mg nm=some (.ref f)/\PySem.W.keepIn K (.ref f)=true/\Binds K fd [q] [] /\
  ∀(A:Around) (outer:List Env) (s:Shared) (H:Hp) (args:Args) (c:Int) (t:Tok) (z:Str),Room k A->Env0 P w K mg base A outer s H->BindsTo s fd args [(q,.int c t)]->F [.int c]=.ok (.str z) ->
   codeAny (model P w) A (.call (.ref f) args) (fun r s'=>∃t',r=.ok (.ret (.str z t'))/\s.toks<=t'/\s'.os=s.os/\AllBare s'.gens/\Un (frs outer) [] H H s.heap s'.heap/\HOk P w H s'.heap) s
noncomputable def gR (y:Str) (F:List D->Res D) (fo:DS->Res D) (fa:DS->Res (List D)):DS->Res D:=fun δ=>match fo δ with
 | .ok (.str x)=>(match fa δ with
  | .ok [.int c]=>(match F [.int c] with
   | .ok (.str z)=>if (y == z)=false/\x.length + (x.length + 1) * z.length<=16777216 then .ok (.str (Txt.replace x y z)) else .stuck
   | _=>.stuck)
  | _=>.stuck)
 | _=>.stuck
theorem NQ {y:Str} {F:List D->Res D} {fo:DS->Res D} {fa:DS->Res (List D)} {δ:DS} (h:gR y F fo fa δ≠.stuck):∃x c z,fo δ=.ok (.str x)/\fa δ=.ok [.int c]/\F [.int c]=.ok (.str z)/\(y == z)=false/\x.length + (x.length + 1) * z.length<=16777216/\gR y F fo fa δ=.ok (.str (Txt.replace x y z)):=by
 unfold gR at h ⊢
 split at h
 ·rename_i x e1
  split at h
  ·rename_i c e2
   split at h
   ·rename_i z e3
    split at h
    ·rename_i hc;exact ⟨x,c,z,e1,e2,e3,hc.1,hc.2,if_pos hc⟩
    ·exact (h rfl).elim
   ·exact (h rfl).elim
  ·exact (h rfl).elim
 ·exact (h rfl).elim
theorem NT {X:Cx} {o e:Expr} {y nm:Str} {F:List D->Res D} {fo:DS->Res D} {fa:DS->Res (List D)} {apos cpos cp np npos:Pos} {ck j k:Nat} (Fn:zK X.prog X.w X.K X.mg X.base j nm F) (hr:Room k X.A) (ho:PD X o fo) (hlo:LoE (model X.prog X.w) X.env o) (ha:PAD X [e] fa)
  (hj:j<=k:=by first | decide | omega) (hg:Gl X nm:=by exact rfl) (hdb:(nm == ("__debug__" : Str))=false:=by decide)
  (hbase:attributeBase o "replace" X.env (eval o X.env)=eval o X.env:=by rfl)
  (hfew:((backTo cpos (starEach [.Constant (.str y) ck cp,.Call (.Name nm np) [e] [] npos] X.env)).all (fun x=>!x.1) && (backToKw cpos (keywordEach [] X.env)).all (fun x=>x.1.isSome)
   && decide (([.Constant (.str y) ck cp,.Call (.Name nm np) [e] [] npos]:List Expr).length + ([]:List Keyword).length + (if ([]:List Keyword).isEmpty then 0 else 1) < 30))=true:=by rfl)
  (hline:(apos.endLine == cpos.line)=true:=by rfl)
  (hse:starEach [.Constant (.str y) ck cp,.Call (.Name nm np) [e] [] npos] X.env=[(false,eval (.Constant (.str y) ck cp) X.env),(false,eval (.Call (.Name nm np) [e] [] npos) X.env)]:=by rfl)
  (he:starEach [e] X.env=(false,eval e X.env) :: starEach [] X.env:=by rfl) (hpl:(backTo npos (starEach [] X.env)).any (·.1)=false:=by rfl) :
  PD X (.Call (.Attribute o "replace" apos) [.Constant (.str y) ck cp,.Call (.Name nm np) [e] [] npos] [] cpos) (gR y F fo fa):=by
 obtain ⟨f,fd,q,hm,hk,hb,run⟩:=Fn;intro pins s σ G H δ I R hs;obtain ⟨x,c,z,q1,q2,q3,hyz,hsz,ev⟩:=NQ hs;rw [ev];refine wpAny_Call_method_late hbase hfew hline rfl (hlo.use (ho.use I R (by rw [q1]; intro z; cases z) (fun d u s1 v H1 qd I1 r1 e1 b1 p1 h1=>?_) fun e s1 w=>by rw [q1] at w; exact w.none.elim));rw [q1] at qd; cases qd;obtain ⟨w1,w4⟩:=fp' I1 r1 (Ez (X:=X) (T:="str") (d:=.str x) (show ("str" : String) = "str" from rfl) p1)
 rw [cI p1] at r1;obtain ⟨t0,rfl⟩:=r1;refine ⟨"str",_,PySem.F.plainAttrs_str,PySem.F.slot_str_replace,PySem.F.type_str_replace,w1,w4,?_⟩;rw [hse];refine Calls.callWith_builtin rfl (Calls.evalArgs_plain ?_);refine Calls.spliced_cons (Calls.Constant_str (k:=ck) (pos:=cp) (Calls.spliced_cons ?_));have I2:Inv X pins σ H1 { s1 with toks:=s1.toks + 1 }:=I1.tok _
 refine wpAny_Call_Name_kw (j9 I2 hg hm ?_ hdb);refine PySem.W.callWith_K (h₀:=X.base) I.ok.mod.kin hk (wpAny_with_toks (n:=s1.toks + 1) (Nat.le_refl _) (ha.use I2 (R.mono e1) (by rw [q2]; intro z; cases z) (fun ds us s3 vs H3 qa I3 r3 e3 b3 p3 htk=>⟨I3.kIn,?_⟩) fun e s3 w=>by rw [q2] at w; exact w.none.elim)) he hpl;rw [q2] at qa; cases qa;obtain ⟨v3,vs3,rfl,p4,p5⟩:=p3.cons_of
 cases p5.nil_of
 rw [bY p4] at r3;obtain ⟨u3,us3,rfl,r4,r5⟩:∃u us',us=u :: us'/\RelV (.int c) u/\Vals [] us':=by cases r3 with | cons a b=>exact ⟨_,_,rfl,a,b⟩
 cases r5
 obtain ⟨t3,rfl⟩:=r4;refine wpAny_call (codeAny_mono (run X.A X.stack s3 H3 ⟨[.int c t3],[]⟩ c t3 z (hr.mono hj) I3.env0 (by simpa using hb s3 [.int c t3] I3.kIn rfl) q3) fun r s' hq=>?_);obtain ⟨t4,rfl,h4,hos,hbare,hun,hok⟩:=hq;have I4:Inv X pins σ H3 s':=I3.call' (ch:=[]) hos hun hok hbare (fun b z=>absurd z (by simp));refine Calls.spliced_nil ?_;have hu:s1.toks≠0:=by omega
 have h5:s1.toks < t4:=Nat.lt_of_lt_of_le (Nat.lt_of_succ_le htk) h4;refine PySem.SC.replace hu (Nat.ne_of_gt (Nat.lt_of_le_of_lt (Nat.zero_le _) h5)) (Nat.ne_of_lt h5) hyz hsz fun t' k=>⟨_,.str _,H3,rfl,I4.tok _,⟨_,rfl⟩,e1.trans e3,rH⟩
noncomputable def mj (i:Nat) (d:D) (f:DS->Out):DS->Out:=fun δ=>f (δ.set i (some (.val d)))
theorem Ci {X:Cx} {j k:Nat} {fs:List Str} {g:List D->Res (List D)} {x:Str} {p pos:Pos} (Fn:jh X.prog X.w X.K X.mg X.base j x fs g) (hr:Room k X.A)
  (hj:j + 1<=k:=by first | decide | omega) (hg:Gl X x:=by exact rfl) (hdb:(x == ("__debug__" : Str))=false:=by decide) :
  PD X (.Call (.Name x p) [] [] pos) (fun _=>eV x fs g []):=by
 obtain ⟨C,f,fd,ps,M,Fn,hb,hm,hn⟩:=Fn;intro pins s σ G H δ I R hs
 try dsimp only at hs ⊢
 refine wpAny_Call_Name_kw (j9 I hg hm ?_ hdb);refine PySem.W.callWith_K0 I.kIn M.kp ?_;have h2:=hs;unfold eV at h2
 split at h2
 ·rename_i es' qg;have ev:eV x fs g []=.ok (.obj x fs es'):=by unfold eV; rw [qg]
  refine wpAny_mono (dv' (X:=X.wish fun _ _=>False) (E:=fun _ _ _=>False) (dvs:=[]) (us:=[]) (vs:=[]) (Q:=fun v H'=>Same H H'/\Rep X.K H' (.obj x fs es') v) M Fn (hr.mono hj) hb .nil (fun _ _ _ _ _ _ _ h=>by obtain ⟨_,_,_,_,_,_,_,_,_,_,z⟩:=h; exact z.elim) (I.wish _) .nil fun a dx na nd ne=>?_) (fun u s2 ⟨v,H',I2,rv,sm,rp⟩=>⟨_,v,H',ev,I2.unwish,rv,sm,rp⟩) fun _ _ z=>z.elim;have sm:Same H (upd (upd H dx (.own a)) a (.ins C dx [])):=fun b o h=>by
   have b1:b≠a:=fun z=>by subst z; rw [na] at h; cases h
   have b2:b≠dx:=fun z=>by subst z; rw [nd] at h; cases h
   rw [aL b1,aL b2]; exact h
  refine ⟨a,dx,[],[],es',by simp,bR,Reps.nil,qg,fun H' ws k1 k2 k3 k4=>⟨rfl,fun b o h=>?_,?_⟩⟩
  ·have b1:b≠a:=fun z=>by subst z; rw [na] at h; cases h
   exact k1 b o b1 (sm b o h)
  ·rw [Rep]; exact ⟨a,C,dx,ws,rfl,hn,k2,k3,k4⟩
 ·exact (h2 rfl).elim
theorem Gg {X:Cx} {j k:Nat} {F:List D->Res D} {x:Str} {p pos:Pos} (Fn:bx X.prog X.w X.K X.mg X.base j x F) (hr:Room k X.A)
  (hj:j<=k:=by first | decide | omega) (hg:Gl X x:=by exact rfl) (hdb:(x == ("__debug__" : Str))=false:=by decide):PD X (.Call (.Name x p) [] [] pos) (fun _=>F []):=by
 obtain ⟨f,fd,ps,Fn,hm,hk,hb⟩:=Fn;intro pins s σ G H δ I R hs
 try dsimp only at hs ⊢
 refine wpAny_Call_Name_kw (j9 I hg hm ?_ hdb);refine PySem.W.callWith_K0 (first:=[]) I.kIn hk ?_
 exact BZ (Fn.mono hj) hr hb I Reps.nil .nil hs
theorem pX {K:PySem.W.Frag} {f:Addr} {x qual:Str} {st:Stmt} {ps:List Str} {aU:Str->Bool} (L:ig K f x qual st) (M:zx K aU x f)
  (hb:∀(kV doc pm:Value) (an:Option Addr) (cdv ct:Value) (us:List Value),us.length=ps.length->bindArgs (PySem.W.fnOf x qual (aX st) (aD st) (ao st) .none kV doc pm an cdv ct) ⟨us,[]⟩=pure (ps.zip us)):cU K aU x qual st ps:=by
 obtain ⟨fd,F⟩:=L;exact ⟨f,fd,F,F.binds fun kV doc pm an cdv ct us hl=>hb kV doc pm an cdv ct us hl,M⟩
noncomputable def v5 (C:Addr) (f1 f2 f3:Str):Sp:=fun vs H Q _=>∃a dx,vs=[.ref a]/\H a=some (.ins C dx [])/\∀l t k H',H l=none->H t=none->H k=none->(∀b o,b≠a->H b=some o->H' b=some o)->H' a=some (.ins C dx [(f1,.ref l),(f2,.ref t),(f3,.ref k)])->H' l=some (.lst [])->H' t=some (.tup [])->H' k=some (.dK [])->Q .non H'
theorem NZ {P:Program} {w:World} {K:PySem.W.Frag} {mg:Str->Option Value} {base:Heap} {qual:Str} {st:Stmt} {f C:Addr} {fd:FuncData} {f1 f2 f3:Str} {k:Nat} (F:Fun K "__init__" qual st f fd) (S:FnScope ["self"] ["self"] (ao st)) (cl:Cls K C) (n1:NoAttr K C f1) (n2:NoAttr K C f2) (n3:NoAttr K C f3) (h12:f1≠f2) (h13:f1≠f3) (h23:f2≠f3)
  (hb:∀(cdv:Value) (A:Around) (outer:List Env) (s:Shared) (H:Hp) (E:XK),PSs (bN (cA P w) P w K mg base ["self"] qual (ao st) f cdv A outer s H E) (aD st) (fZ (e_ K (cG 0) (rD kh) f1) (fZ (e_ K (cG 0) (rC kh) f2) (e_ K (cG 0) jx f3)))) :
  FnOk P w K mg base (cA P w) (k + 1) f fd ["self"] (v5 C f1 f2 f3):=by
 obtain ⟨oc,od,kV,doc,pm,an,cdv,ct,osl,rfl,lk,hcd⟩:=F.ex;refine pC lk hcd S (fun vs H Q E ⟨a,dx,h,_⟩=>by rw [h]; rfl) fun A outer s H vs Q E hr ⟨a,dx,h,hH,hQ⟩=>⟨_,hb cdv A outer s H E,?_⟩;subst h;refine ⟨Nat.zero_le _,fun l hl=>⟨.ref a,rfl,a,C,dx,[],rfl,?_,cl,n1,by decide,?_⟩⟩
 ·rw [aL (jP hH hl)]; exact hH
 have al:a≠l:=jP hH hl;refine ⟨Nat.zero_le _,fun t ht=>⟨.ref a,rfl,a,C,dx,[(f1,.ref l)],rfl,?_,cl,n2,show 1 < 1000 by decide,?_⟩⟩
 ·have at':a≠t:=fun z=>by subst z; rw [bR] at ht; cases ht
  rw [aL at',bR]; rfl
 have at':a≠t:=fun z=>by subst z; rw [bR] at ht; cases ht
 have lt:l≠t:=fun z=>by subst z; rw [aL (Ne.symm al),bR] at ht; cases ht
 have hte:H t=none:=by rw [aL (Ne.symm at'),aL (Ne.symm lt)] at ht; exact ht
 have e2:bW f2 (.ref t) [(f1,V.ref l)]=[(f1,.ref l),(f2,.ref t)]:=by simp only [bW,if_neg h12]
 rw [e2];intro kd hk;have ak:a≠kd:=fun z=>by subst z; rw [bR] at hk; cases hk
 rw [aL (Ne.symm ak)] at hk;have tk:t≠kd:=fun z=>by subst z; rw [bR] at hk; cases hk
 rw [aL (Ne.symm tk),aL (Ne.symm ak)] at hk;have lk':l≠kd:=fun z=>by subst z; rw [bR] at hk; cases hk
 rw [aL (Ne.symm lk')] at hk;refine ⟨.ref a,rfl,a,C,dx,[(f1,.ref l),(f2,.ref t)],rfl,?_,cl,n3,show 2 < 1000 by decide,?_⟩
 ·rw [aL ak,bR]
 have e3:bW f3 (.ref kd) [(f1,V.ref l),(f2,.ref t)]=[(f1,.ref l),(f2,.ref t),(f3,.ref kd)]:=by simp only [bW,if_neg h13,if_neg h23]
 rw [e3];refine hQ l t kd _ hl hte hk (fun b o hb h=>?_) bR ?_ ?_ ?_
 ·have bl:b≠l:=fun z=>by subst z; rw [hl] at h; cases h
  have bt:b≠t:=fun z=>by subst z; rw [hte] at h; cases h
  have bk:b≠kd:=fun z=>by subst z; rw [hk] at h; cases h
  rw [aL hb,aL bk,aL hb,aL bt,aL hb,aL bl]; exact h
 ·rw [aL (Ne.symm al),aL lk',aL (Ne.symm al),aL lt,aL (Ne.symm al),bR]
 ·rw [aL (Ne.symm at'),aL tk,aL (Ne.symm at'),bR]
 ·rw [aL (Ne.symm ak),bR]
noncomputable def Gh:List D->Res (List D)
 | []=>.ok [.lst [],.tup [],.dic [] []]
 | _=>.stuck
noncomputable def OkDr (P:Program) (w:World) (K:PySem.W.Frag) (mg:Str->Option Value) (base:Heap) (k:Nat) (x f1 f2 f3:Str):Prop :=
 ∃(C f:Addr) (fd:FuncData),Mk K C f/\FnOk P w K mg base (cA P w) k f fd ["self"] (v5 C f1 f2 f3)/\Binds K fd ["self"] []/\mg x=some (.ref C)/\PySem.W.nsIn K mainGlobals x=some (some (.ref C))/\Cls K C/\NoAttr K C f1/\NoAttr K C f2/\NoAttr K C f3
theorem N5 {P:Program} {w:World} {K:PySem.W.Frag} {mg:Str->Option Value} {base:Heap} {c qual:Str} {st:Stmt} {f1 f2 f3:Str} (k:Nat) (F:ik K mg c qual st ["self"] [f1,f2,f3]) (S:FnScope ["self"] ["self"] (ao st)) (h12:f1≠f2) (h13:f1≠f3) (h23:f2≠f3)
  (hb:∀(f:Addr) (cdv:Value) (A:Around) (outer:List Env) (s:Shared) (H:Hp) (E:XK),PSs (bN (cA P w) P w K mg base ["self"] qual (ao st) f cdv A outer s H E) (aD st) (fZ (e_ K (cG 0) (rD kh) f1) (fZ (e_ K (cG 0) (rC kh) f2) (e_ K (cG 0) jx f3)))) :
  OkDr P w K mg base (k + 1) c f1 f2 f3:=by
 obtain ⟨C,f,fd,M,F,B,hm,hn,cl,na⟩:=F;exact ⟨C,f,fd,M,NZ F S cl (na _ (by simp)) (na _ (by simp)) (na _ (by simp)) h12 h13 h23 (hb f),B,hm,hn,cl,na _ (by simp),na _ (by simp),na _ (by simp)⟩
theorem OkDr.okn {P:Program} {w:World} {K:PySem.W.Frag} {mg:Str->Option Value} {base:Heap} {k:Nat} {x f1 f2 f3:Str} (h:OkDr P w K mg base k x f1 f2 f3):jh P w K mg base k x [f1,f2,f3] Gh:=by
 obtain ⟨C,f,fd,M,Fn,B,hm,hn,_⟩:=h;refine ⟨C,f,fd,["self"],M,Fn.imp fun vs H Q E h=>?_,B,hm,hn⟩;obtain ⟨a,dx,ds,us,es,e,hH,r,hg,hQ⟩:=h
 cases ds with
 | cons d ds=>cases hg
 | nil =>
  cases hg
  cases r.nil_of
  refine ⟨a,dx,e,hH,fun l t kd H' hl ht hk kp ha h1 h2 h3=>?_⟩;refine hQ H' [.ref l,.ref t,.ref kd] kp ha rfl (Reps.cons (jT (SqL.of h1) Reps.nil) (Reps.cons (iJ (SqT.of h2) Reps.nil) (Reps.cons ?_ Reps.nil)));rw [Rep]; exact ⟨kd,[],rfl,h3,rfl,Reps.nil⟩
end DL
set_option maxHeartbeats 4000000
namespace DL
open PySem PySem.Spec PyProof.Rows L2
theorem N6:typeLookup (.type "list") "keys" = pure none:=by rw [typeLookup_type,builtinLookup_eq_fast]; kernel_rfl
theorem N7 {prog:Program} {w:World} {A:Around} {E:Value->Shared->Prop} {s:Shared} {a:Addr} {xs:Array Value} {k:Nat} {sl:Array (Option Value)} {tk0:Tok} {Q:Value->Shared->Prop}
  (hx:s.heap.get? a=some ⟨.type "list",none,.seq xs k,sl⟩) (hA:A.handled=none)
  (h:∀h' tk e,Heap.NewExcOf s.heap h' e "AttributeError"->E (.ref e) { s with heap:=h',toks:=tk }) :
  wpAny (model prog w) A (getAttrBy (.ref a) (.str "keys" tk0) false) Q E s:=by
 obtain ⟨hp,g,d,tk,os⟩:=s;have hT:∀tk',(⟨hp,g,d,tk',os⟩:Shared).TypeIs (.ref a) "list":=fun _=>⟨_,hx,rfl⟩;have f1:=sub_AttributeError;have f3:=PySem.F.slot_list_getattribute.lookup;have f4:=PySem.F.slot_list_getattribute.bind (.ref a);have f5:=am_list_getattr_none;unfold getAttrBy
 repeat (any_goals (first | assumption | exact hT _ | ((with_reducible show wpAny _ _ (call (Value.builtin "list.__getattribute__") _ _) _ _ _); refine call_meets PySem.F.slot_list_getattribute (hT _) am_entry_list_getattribute (PySem.F.args_list_getattribute_2 _ _) (meets_getattribute_miss_list a xs k sl "keys" _ N6 (by decide +kernel)) ⟨hx,hA,fun h' tk' e hx'=>?_⟩) | wp_step))
 obtain ⟨t',u',he⟩:=hx'.there;show wpAny _ _ (getattributeRaised _ _ _ _ _ _ _) _ _ _;unfold getattributeRaised
 repeat (any_goals (first | assumption | wp_step))
 exact h _ _ _ hx'.of
theorem N8 {prog:Program} {w:World} {A:Around} {E:Value->Shared->Prop} {s:Shared} {a:Addr} {xs:Array Value} {k:Nat} {sl:Array (Option Value)} {Q:Option Value->Shared->Prop}
  (hx:s.heap.get? a=some ⟨.type "list",none,.seq xs k,sl⟩) (hA:A.handled=none) (h:∀h' tk,(∀b o,s.heap.get? b=some o->h'.get? b=some o)->Q none { s with heap:=h',toks:=tk }):wpAny (model prog w) A (getAttr? (.ref a) "keys") Q E s:=by
 unfold getAttr? getAttrBy? mkText;refine wpAny_bind (wpAny_bind (wpAny_fresh (wpAny_pure ?_)));refine wpAny_bind (wpAny_attempt (N7 (s:={ s with toks:=s.toks + 1 }) hx hA fun h' tk e ne=>?_))
 obtain ⟨o,vs,he,hc,_⟩:=ne.there;exact wpAny_bind (wpAny_isInstance (b:=true) (T:="AttributeError") ⟨o,he,hc⟩ sub_AttributeError (wpAny_pure (h _ _ ne.keeps)))
theorem hX':entryFor table "dict.update.loop" = some Builtin.«dict.update.loop»:=entryFor_of_tree (by kernel_rfl)
theorem N_ {prog:Program} {w:World} {knd:KeyKind prog w Key} {A:Around} {E:Value->Shared->Prop} {s:Shared} {l:Addr} {k:Nat} {sl:Array (Option Value)} {Q:Value->Shared->Prop}
  (hx:s.heap.get? l=some ⟨.type "list",none,.seq #[] k,sl⟩) (hA:A.handled=none)
  (h:∀h' tk,h'.DictOf knd s.heap.objs.size []->(∀b o,s.heap.get? b=some o->h'.get? b=some o)->Q (.ref s.heap.objs.size) { s with heap:=h',toks:=tk }) :
  wpAny (model prog w) A (call (.type "dict") [.ref l]) Q E s:=by
 refine callType_codes (Q₁:=fun obj s₁=>obj=.ref s.heap.objs.size/\s₁={ s with heap:=s.heap.push { cls:=.type "dict",data:=.dict #[] } }) PySem.F.kt_called_dict (PySem.F.kt_typeCall_dict_1 _) PySem.F.entry_dict_init (kt_code_dict_new _ ⟨rfl,rfl⟩) ?_
 rintro obj s₁ ⟨rfl,rfl⟩
 have hnew:(s.heap.push { cls:=.type "dict",data:=.dict #[] }).DictOf knd s.heap.objs.size []:=Heap.DictOf.new s.heap;have hx':(s.heap.push { cls:=.type "dict",data:=.dict #[] }).get? l=some ⟨.type "list",none,.seq #[] k,sl⟩:=Heap.get?_push_of_some _ hx;have hT:({ s with heap:=s.heap.push { cls:=.type "dict",data:=.dict #[] } }:Shared).TypeIs (.ref l) "list":=⟨_,hx',rfl⟩
 refine ⟨hnew.typeIs,PySem.F.args_dict_init_2 _ _,?_⟩;unfold Builtin.«dict.__init__»;refine wpAny_bind ?_;unfold Builtin.Dict.selfAndRest;refine wpAny_bind (wpAny_notOrdered_dict hnew.typeIs ?_);show wpAny _ _ (pure (s.heap.objs.size,[Value.ref l])) _ _ _;refine wpAny_pure ?_;show wpAny _ _ (Builtin.Dict.updateFrom "dict.__init__" s.heap.objs.size (.ref l) [] .none) _ _ _;unfold Builtin.Dict.updateFrom;refine wpAny_bind (wpAny_typeOf hT ?_);rw [if_pos (by decide)];refine wpAny_bind (N8 hx' hA fun h2 tk2 k2=>?_);simp only [Option.isNone_none,if_true];refine wpAny_bind (wpAny_rule ?_);refine wpAny_bind (wpAny_pyIter_list (items:=#[]) ⟨_,k2 _ _ hx',rfl,_,rfl⟩ ?_);refine wpAny_bind (wpAny_pure (wpAny_pure ⟨Code.quiet_builtin _ (by decide +kernel),codeAny_builtin hX' ?_⟩));rw [Around.under_plainId (by decide +kernel) _];show wpAny _ A.in1.in1 (pyNext (.ref h2.objs.size) >>= _) _ _ _;refine wpAny_bind (wpAny_pyNext_list_end (items:=#[]) (l:=l) (i:=0) hA ⟨_,Heap.get?_push_size _ rfl,rfl,rfl⟩ ⟨_,Heap.get?_push_of_some _ (k2 _ _ hx'),rfl,_,rfl⟩ rfl fun h3 x3=>?_);have kk:∀b o,(s.heap.push { cls:=.type "dict",data:=.dict #[] }).get? b=some o->h3.get? b=some o:=fun b o e=>x3 b o (Nat.ne_of_lt (Heap.lt_size (k2 b o e))) (Heap.get?_push_of_some _ (k2 b o e));refine wpAny_bind (wpAny_pure (wpAny_pure ⟨rfl,h h3 tk2 ?_ fun b o e=>kk b o (Heap.get?_push_of_some _ e)⟩));obtain ⟨o,es,ep,ho,r⟩:=hnew;exact ⟨o,es,ep,kk _ _ ho,r⟩
section
variable {X:Cx} {pins:List (Addr×Obj)} {σ:St} {H:Hp} {s:Shared} {a:Addr} {kvs:List (Key×V)} {ob:Obj}
theorem _root_.L2.Inv.freezeK (I:Inv X pins σ H s) (h:H a=some (.dK kvs)) (ho:s.heap.get? a=some ob):Inv X pins σ (upd H a (.frz ob (.dK kvs))) s:=by
 have hx:=I.hok a _ h;have ne:∀{b:Addr} {o:HO},H b=some o->(∀ys,o≠.dK ys)->upd H a (.frz ob (.dK kvs)) b=some o:=fun {b o} e n=>by
  rw [aL fun z=>?_]
  ·exact e
  ·subst z; rw [h] at e; cases e; exact n _ rfl
 have non:∀{b:Addr},H b=none->upd H a (.frz ob (.dK kvs)) b=none:=fun {b} e=>by
  rw [aL fun z=>?_]
  ·exact e
  ·subst z; rw [h] at e; cases e
 refine ⟨I.ok,I.os,I.bare,⟨I.base.keep,I.base.slot,fun b ob e n hx=>non (I.base.free b ob e n hx),I.base.there,fun b xs e=>ne (I.base.tups b xs e) (fun _ z=>nomatch z),fun b ob u e=>ne (I.base.frzs b ob u e) (fun _ z=>nomatch z),fun b ps e=>?_⟩,I.loc,I.cell,non I.free,fun x c e=>non (I.freeC x c e),fun p hp=>?_,fun b u q=>?_,I.len⟩
 ·obtain ⟨more,q⟩:=I.base.tbls b ps e;exact ⟨more,ne q (fun _ z=>nomatch z)⟩
 ·obtain ⟨e,n,r⟩:=I.pin p hp;exact ⟨e,non n,r⟩
 ·by_cases z:b=a
  ·subst z;rw [bR] at q
   cases q
   exact ⟨ho,hx⟩
  ·rw [aL z] at q;exact (I.hok b u q).stay (fun c v _ e=>e) (fun c z=>ne z (fun _ w=>nomatch w)) fun c xs z=>ne z (fun _ w=>nomatch w)
theorem _root_.L2.Inv.thawK {σ':St} {H1:Hp} {s1:Shared} (I0:Inv X pins σ' H s) (h0:H a=some (.dK kvs)) (I:Inv X pins σ H1 s1) (h:H1 a=some (.frz ob (.dK kvs))):Inv X pins σ (upd H1 a (.dK kvs)) s1:=by
 have ne:∀{b:Addr} {o:HO},H1 b=some o->(∀ob ys,o≠.frz ob (.dK ys))->upd H1 a (.dK kvs) b=some o:=fun {b o} e n=>by
  rw [aL fun z=>?_]
  ·exact e
  ·subst z; rw [h] at e; cases e; exact n _ _ rfl
 have non:∀{b:Addr},H1 b=none->upd H1 a (.dK kvs) b=none:=fun {b} e=>by
  rw [aL fun z=>?_]
  ·exact e
  ·subst z; rw [h] at e; cases e
 refine ⟨I.ok,I.os,I.bare,⟨I.base.keep,I.base.slot,fun b ob e n hx=>non (I.base.free b ob e n hx),I.base.there,fun b xs e=>ne (I.base.tups b xs e) (fun _ _ z=>nomatch z),fun b ob' u e=>?_,fun b ps e=>?_⟩,I.loc,I.cell,non I.free,fun x c e=>non (I.freeC x c e),fun p hp=>?_,fun b u q=>?_,I.len⟩
 ·rw [aL fun z=>?_]
  ·exact I.base.frzs b ob' u e
  ·subst z;have:=I0.base.frzs b ob' u e;rw [h0] at this; cases this
 ·obtain ⟨more,q⟩:=I.base.tbls b ps e;exact ⟨more,ne q (fun _ _ z=>nomatch z)⟩
 ·obtain ⟨e,n,r⟩:=I.pin p hp;exact ⟨e,non n,r⟩
 ·by_cases z:b=a
  ·subst z;rw [bR] at q
   cases q
   obtain ⟨_,hx⟩:=I.hok b _ h;exact hx
  ·rw [aL z] at q;exact (I.hok b u q).stay (fun c v _ e=>e) (fun c z=>ne z (fun _ _ w=>nomatch w)) fun c xs z=>ne z (fun _ _ w=>nomatch w)
end
noncomputable def v7 (a:Addr) (ob:Obj):It:=⟨fun _ _=>False,fun _ _ _ _=>False,fun i H=>i=0/\H a=some (.frz ob (.dK []))⟩
theorem Oa {P:Program} {w:World} {K:PySem.W.Frag} {tg:Expr} {a it:Addr} {ob:Obj} {ep:Nat} (hd:∀h:Heap,h.get? a=some ob->h.DictAt (aP P w) a [] ep) :
  Turn P w K tg (v7 a ob) [it] it (fun i h=>i=0/\IsItemIter h it a 0 0 ep .none .none) where
 mem:=by simp
 obj:=fun i h st b hb=>by
  have e:b=it:=by simpa using hb
  subst e;exact ⟨_,st.2,fun v q=>by cases q⟩
 keep:=fun i h h' st k=>⟨st.1,k it (by simp) _ st.2⟩
 item:=fun _ _ _ _ _ _ _ _ _ _ _ _ _ _ z=>z.elim
 done:=by
  intro X hP hw hK hc i pins s σ H E I hf st hg;subst hP hw hK;obtain ⟨rfl,hz⟩:=hg;obtain ⟨f0,f1,f2,f3,f4,f5⟩:=hf it (by simp);obtain ⟨ho,_⟩:=I.hok a _ hz;exact wpAny_pyNext_items_end (knd:=aP X.prog X.w) (kvs:=[]) (I.ok.hd hc) st.2 (hd _ ho) rfl fun h' eb=>⟨rfl,I.turned (t':=s.toks) (fun b o hb e=>eb b o hb e) f0 f1 f3 f4 f5⟩
 self:=fun _ _ _ _ _ st h=>PySem.W.kcp_self st.2 h
theorem Oc {X:Cx} {e:Expr}:PD X e (fun _=>.stuck):=fun _ _ _ _ _ _ _ _ h=>(h rfl).elim
theorem Od {K:PySem.W.Frag} {H:Hp} {σ:St}:RepSt K H H σ (List.replicate σ.length none) where
 same:=Same.refl H
 len:=by simp
 at_:=fun i sv h=>by
  rw [List.getElem?_replicate] at h
  split at h <;> cases h
 sep:=fun i j ds es v _ h=>by
  rw [List.getElem?_replicate] at h
  split at h <;> cases h
section
variable {X:Cx} {m:Nat} {fr:List Nat} {N':List Str} {scope:Scope} {cl:List (Str×Addr)} {tg elt:Expr} {pos:Pos}
noncomputable def pY (K:PySem.W.Frag) (i:Nat) (f:Str):TS:=fun D σ H=>∃b C dx fs a,σ[0]? = some (some (.ref b))/\H b=some (.ins C dx fs)/\Cls K C/\NoAttr K C f/\fs.lookup f=some (.ref a)/\H a=some (.dK [])/\∀p Hn,H p=none->Same H Hn->Hn p=some (.lst [])->D.nx (σ.set i (some (.ref p))) Hn
theorem hY' (i:Nat) {y x0 f:Str} {py spos np ep ap cp:Pos} (W:Around' X m fr N' scope cl) (hcalm:X.calm=true) (hN:X.N.Nodup) (h0:X.N[0]? = some x0:=by rfl) (hv:qz X.env.scope x0:=by first | exact Or.inl rfl | exact Or.inr (Or.inl rfl)) (hd0:(x0 == ("__debug__" : Str))=false:=by decide) (hc0:(x0 == ("__classdict__" : Str))=false:=by decide)
  (hb:attributeBase (.Name x0 np) f X.env (eval (.Name x0 np) X.env)=eval (.Name x0 np) X.env:=by rfl) (hb2:attributeBase (.Attribute (.Name x0 np) f ep) "items" X.env (eval (.Attribute (.Name x0 np) f ep) X.env)=eval (.Attribute (.Name x0 np) f ep) X.env:=by rfl) (hline:(ap.endLine == cp.line)=true:=by rfl)
  (hsw:swapsWith (.ListComp elt [⟨tg,.Call (.Attribute (.Attribute (.Name x0 np) f ep) "items" ap) [] [] cp,[],0⟩] scope pos) (some (.Name y py)) spos.line X.env=pure true:=by rfl) (hy:X.N[i]? = some y:=by rfl) (hx:Loc X.env.scope y:=by first | exact Or.inl rfl | exact Or.inr rfl)
  (hfn:X.fn y=true\/X.env.scope.names.lookup y=some .local:=by first | exact .inl rfl | exact .inr rfl | assumption) (hf:∀x,foldedSetIterable (.Call (.Attribute (.Attribute (.Name x0 np) f ep) "items" ap) [] [] cp) X.env x=pure x:=by intro _; rfl) :
  PS X (.Assign [.Name y py] (.ListComp elt [⟨tg,.Call (.Attribute (.Attribute (.Name x0 np) f ep) "items" ap) [] [] cp,[],0⟩] scope pos) spos) (pY X.K i f):=by
 intro pins s σ H E I ⟨b,C,dx,fs,a,hσ,hb',hcl,hna,hlk,ha,hq⟩;obtain ⟨z0,hsys,vs,rel,dd⟩:=Aq I.hok ha;have hvs:vs=[]:=by cases rel; rfl
 subst hvs;obtain ⟨ep0,hat⟩:=dd.dictAt;obtain ⟨ob,es,hob,rest⟩:=id hat;have hdA:∀h:Heap,h.get? a=some ob->h.DictAt (aP X.prog X.w) a [] ep0:=fun h e=>⟨ob,es,e,rest⟩;have If:=I.freezeK ha hob;have hba:b≠a:=fun z=>by subst z; rw [hb'] at ha; cases ha
 have Rn:RepSt X.K (upd H a (.frz ob (.dK []))) (upd H a (.frz ob (.dK []))) σ (List.replicate σ.length none):=Od;have hcD:cD m fr (fun _ _=>none) (fun _=>.ok true) (fun _=>.stuck) (fun _=>.ok []) (List.replicate σ.length none)=.ok (.lst []):=rfl;rw [exec_Assign_Name_used _ _ _ _ hsw];refine wpAny_bind (wpAny_standAt (wpAny_bind ?_));show wpAny _ X.A (do let _ <- comprehension (.ListComp elt [⟨tg,.Call (.Attribute (.Attribute (.Name x0 np) f ep) "items" ap) [] [] cp,[],0⟩] scope pos) scope X.env _ (newList []) false (eval (.Call (.Attribute (.Attribute (.Name x0 np) f ep) "items" ap) [] [] cp) X.env) (some (assign (.Name y py) X.env))) _ _ s
 refine wpAny_bind (wpAny_mono (wpAny_comprehension_free (use:=some (assign (.Name y py) X.env)) (Q:=fun _ s'=>SP X pins E .next s') rfl hf W.clos W.kind W.names
  (Et (fi:=fun _=>.ok []) (cs:=[]) (fc:=fun _=>.ok true) (fe:=fun _=>.stuck) (t:=fun _ _=>none) (δ:=List.replicate σ.length none) W hcalm (fun d δ δ1 e=>by cases e) (fun C s H fp E pins s' σ G H' δ δ' d v u _ _ _ _ e=>by cases e) (Nat.zero_le 1) (fun C s H fp pins s' σ G H' δ I R _=>wpAny_pure ⟨H',rfl,I,Same.refl _⟩) (fun C s H fp=>Oc) If Rn (by rw [hcD]; intro z; cases z) (E:=X.xe) (fun e s1 q=>by rw [hcD] at q; exact q.none.elim) ?_ (RR:=fun acc C=>compPost _ _ _ (some (assign (.Name y py) X.env)) _ acc C) ?_)) (fun _ s' hq=>wpAny_pure (wpAny_pure hq)) fun _ _ e=>e)
 ·
  refine wpAny_Call_method0_late hb2 hline ?_;refine wpAny_mono (Af (X:=X.wish fun _ _=>False) (yN (X:=X.wish fun _ _=>False) (i:=0) h0 hv hd0 hc0) hb pins s σ _ (fun v H'=>v=.ref a/\H'=upd H a (.frz ob (.dK []))) (If.wish _) ⟨.ref b,hσ,b,C,dx,fs,.ref a,rfl,by rw [aL hba]; exact hb',hcl,hna,hlk,rfl,rfl⟩) (fun v s1 ⟨x,H1,I1,r1,e1,e2⟩=>?_) fun _ _ z=>z.elim;subst e1 e2
  cases r1
  have I1:=I1.unwish;obtain ⟨ho1,_⟩:=I1.hok a _ bR;have hD1:=hdA _ ho1;obtain ⟨ob2,hg2,hc2,hdd2⟩:∃o,s1.heap.get? a=some o/\o.cls=.type "dict"/\o.dict=none:=by
   obtain ⟨o,es,h1,h2,_⟩:=id hD1;exact ⟨o,h1,h2.1,h2.2.1⟩
  refine ⟨"dict", "dict.items",PySem.F.plainAttrs_dict,PySem.F.slot_dict_items,PySem.F.type_dict_items,⟨ob2,hg2,hc2⟩,fun c q=>by cases q; exact ⟨ob2,hg2,hdd2⟩,Calls.callWith_builtin rfl (PySem.evalArgs_none ?_)⟩;refine call_meetsIn PySem.F.slot_dict_items ⟨ob2,hg2,hc2⟩ PySem.F.entry_dict_items (PySem.F.args_dict_items_1 _) (meets_dict_items (aP X.prog X.w) a hsys) ⟨⟨[],hD1.dictOf⟩,?_⟩;refine wpAny_pyIter_items (knd:=aP X.prog X.w) (kvs:=[]) (ep:=ep0) ⟨_,Heap.get?_push_size _ rfl,rfl,rfl⟩ (hD1.push _) ?_;have I2:=I1.kept (t':=s1.toks) (h':=s1.heap.push { cls:=.type "dict_items",data:=.fields #[.ref a] }) fun b o e=>Heap.get?_push_of_some _ e;refine ⟨[],(s1.heap.push { cls:=.type "dict_items",data:=.fields #[.ref a] }).objs.size,[(s1.heap.push { cls:=.type "dict_items",data:=.fields #[.ref a] }).objs.size],_,v7 a ob,_,rfl,rfl,I2.kept (t':=s1.toks) fun b o e=>Heap.get?_push_of_some _ e,Oa hdA,⟨rfl,Heap.get?_push_size _ rfl⟩,fun c hc=>?_,Same.refl _,fun H' e=>⟨fun j d hj=>(by cases hj),rfl,e _ _ bR⟩⟩;have e:c=(s1.heap.push { cls:=.type "dict_items",data:=.fields #[.ref a] }).objs.size:=by simpa using hc
  subst e;exact I2.fpOk (Nat.le_refl _) (I2.hok.fresh (Nat.le_refl _))
 ·intro p C' s' H' ds xs mC ev J e' hp hx' hr hns hC hCa hC0 hCf hCl hCc hCp;rw [hcD] at ev
  cases ev
  cases hr.nil_of
  have hpa:p≠a:=fun z=>by subst z; rw [bR] at hp; cases hp
  have hfz:H' a=some (.frz ob (.dK [])):=e' _ _ bR;show wpAny _ X.A (assign (.Name y py) X.env (.ref p)) _ _ _;refine wpAny_assign_Name (yM J hN hy hx (v:=.ref p) (u:=.ref p) rfl (fun s2 I2 ⟨c,sb,hc⟩=>?_) hfn);have hbC:C'≠c:=by
   rcases hc with z | z
   ·rw [z]; exact hCl
   ·exact fun w=>hCc _ _ z w.symm
  refine ⟨mC,hns.sameBut sb hbC,fun h' hs'=>?_⟩;have I3:=I2.but (t':=s2.toks) hC hC0 hCl hCc hCp hs';refine ⟨_,upd H' a (.dK []),I.thawK ha I3 hfz,hq p _ (by rw [aL hpa] at hp; exact hp) (fun c o h=>?_) (by rw [aL hpa]; exact hx')⟩
  by_cases z:c=a
  ·subst z; rw [bR]; rw [ha] at h; exact h
  ·rw [aL z]; exact e' c o (by rw [aL z]; exact h)
end
noncomputable def sE (te:TE):TE:=fun σ H Q=>te σ H fun x H1=>∃l,x=.ref l/\H1 l=some (.lst [])/\∀p,H1 p=none->Q (.ref p) (upd H1 p (.dK []))
theorem Oe {X:Cx} {e:Expr} {te:TE} {p pos:Pos} (hc:X.calm=true) (hg:Gl X "dict") (hm:X.mg "dict" = none) (he:PE X e te) (hs:starEach [e] X.env=(false,eval e X.env) :: starEach [] X.env:=by rfl) (hpl:(backTo pos (starEach [] X.env)).any (·.1)=false:=by rfl):PE X (.Call (.Name "dict" p) [e] [] pos) (sE te):=by
 intro pins s σ H Q I h;refine wpAny_Call_Name_kw (oN I hg hm (u:=.type "dict") (by decide +kernel) (PyProof.Rows.callWith_type1 ?_ hs hpl) (by decide) (by decide));rw [hs];refine Calls.spliced_cons (cN (he pins s σ H _ I h) fun v s1 ⟨x,H1,I1,r1,l,e1,hl,q⟩=>?_);subst e1
 cases r1
 refine Calls.spliced_nil ?_;obtain ⟨hz,its,n,r,ho⟩:=I1.hok l _ hl;have hi:its=[]:=by cases r; rfl
 subst hi;refine N_ (knd:=aP X.prog X.w) ho (I.ok.hd hc) fun h' tk hd kk=>?_;have hf:H1 s1.heap.objs.size=none:=I1.hok.fresh (Nat.le_refl _);exact ⟨.ref s1.heap.objs.size,_,I1.laid (a:=s1.heap.objs.size) (o:=.dK []) (t':=tk) (fun b o e=>kk b o e) (Nat.le_refl _) (D_ (Nat.zero_le _) (beq_eq_false_iff_ne.mpr (Ne.symm (Nat.ne_of_lt I1.big))) .nil hd),rfl,q _ hf⟩
mutual
theorem Rep.hidL {K:PySem.W.Frag} {H:Hp} {L:List Addr} (w:Own H L):∀{d:D} {v:V},aO d=true->Rep K H d v->Rep K (hidL H L) d v
 | .non,v,_,h=>by rw [Rep] at h ⊢; exact h
 | .bl _,v,_,h=>by rw [Rep] at h ⊢; exact h
 | .int _,v,_,h=>by rw [Rep] at h ⊢; exact h
 | .adr _,v,_,h=>by rw [Rep] at h ⊢; exact h
 | .str _,v,_,h=>by rw [Rep] at h ⊢; exact h
 | .lst _,v,hf,_=>by rw [aO] at hf; cases hf
 | .tup ds,v,hf,h=>by
  obtain ⟨b,zs,rfl,hq,r⟩:=cO h;rw [aO] at hf;refine iJ ?_ (Reps.hidL w hf r);have out:∀{o:HO},H b=some o->¬lr o->hidL H L b=some o:=fun {o} e n=>by
   rw [oX fun z=>?_]
   ·exact e
   ·obtain ⟨o',e',k⟩:=w.kind b z;rw [e] at e'; cases e'; exact n k
  rcases hq with (hq | ⟨o,hq⟩) | hq
  ·exact .inl (.inl (out hq fun z=>z))
  ·exact .inl (.inr ⟨o,out hq fun z=>z⟩)
  ·exact .inr hq
 | .exc n,v,_,h=>by
  rw [Rep] at h ⊢;obtain ⟨b,C,rfl,hC,hb⟩:=h;refine ⟨b,C,rfl,hC,?_⟩;rw [oX fun z=>?_]
  ·exact hb
  ·obtain ⟨o',e',k⟩:=w.kind b z;rw [hb] at e'; cases e'; exact k
 | .excf n f d,v,hf,h=>by rw [aO] at hf; cases hf
 | .obj n f d,v,hf,h=>by rw [aO] at hf; cases hf
 | .dic n d,v,hf,h=>by rw [aO] at hf; cases hf
 | .dct,v,_,h=>by
  rw [Rep] at h ⊢;obtain ⟨b,rfl,hb⟩:=h;refine ⟨b,rfl,?_⟩;rw [oX fun z=>?_]
  ·exact hb
  ·obtain ⟨o',e',k⟩:=w.kind b z;rw [hb] at e'; cases e'; exact k
theorem Reps.hidL {K:PySem.W.Frag} {H:Hp} {L:List Addr} (w:Own H L):∀{ds:List D} {vs:List V},bc ds=true->Reps K H ds vs->Reps K (hidL H L) ds vs
 | [],_,_,h=>by cases h.nil_of; exact Reps.nil
 | d :: ds,_,hf,h=>by
  rw [bc,Bool.and_eq_true] at hf;obtain ⟨v,vs,rfl,r,q⟩:=h.cons_of;exact Reps.cons (Rep.hidL w hf.1 r) (Reps.hidL w hf.2 q)
end
section
variable {X:Cx} {st:Stmt} {f:DS->Out}
noncomputable def tH (X:Cx) (fe:DS->Res D):TE:=fun σ H Q=>∃L δ d,Own H L/\RepSt X.K (hidL H L) (hidL H L) σ δ/\fe δ=.ok d/\∀v H1,Same (hidL H L) H1->(∀b∈L,H1 b=none)->Rep X.K H1 d v->Q v (iT H1 H L)
theorem PD.hid {e:Expr} {fe:DS->Res D} (h:PD X e fe):PE X e (tH X fe):=by
 intro pins s σ H Q I ⟨L,δ,d,w,R,q,n⟩;refine wpAny_mono (h (jD s.heap L ++ pins) s σ _ _ δ (I.hideL w) R (by rw [q]; intro z; cases z)) (fun b s1 ⟨d',v,H1,q1,I1,r1,e1,p1⟩=>?_) fun e s1 p=>?_
 ·rw [q] at q1; cases q1;obtain ⟨nn,I2⟩:=I.seenL w I1;exact ⟨v,_,I2,r1,n v H1 e1 nn p1⟩
 ·rw [q] at p; exact p.none.elim
theorem PTD.ptx {c:Expr} {tc:DS->Res Bool} (h:PTD X c tc):PT X c (fun σ H Q=>∃G δ d,RepSt X.K G H σ δ/\tc δ=.ok d/\∀H',Same H H'->Q d H'):=by
 intro pins s σ H Q I ⟨G,δ,d,R,q,n⟩;refine wpAny_mono (h pins s σ G H δ I R (by rw [q]; intro z; cases z)) (fun b s1 ⟨H1,q1,I1,e1⟩=>?_) fun e s1 p=>?_
 ·rw [q] at q1; cases q1;exact ⟨H1,I1,n H1 e1⟩
 ·rw [q] at p; exact p.none.elim
theorem Cj {body:List Stmt}:PSs X body (fun _ _ _=>False):=fun _ _ _ _ _ _ z=>z.elim
theorem PD.pex {e:Expr} {fe:DS->Res D} (h:PD X e fe):PE X e (fun σ H Q=>∃G δ d,RepSt X.K G H σ δ/\fe δ=.ok d/\∀v H',Same H H'->Rep X.K H' d v->Q v H'):=by
 intro pins s σ H Q I ⟨G,δ,d,R,q,n⟩;refine wpAny_mono (h pins s σ G H δ I R (by rw [q]; intro z; cases z)) (fun b s1 ⟨d',v,H1,q1,I1,r1,e1,p1⟩=>?_) fun e s1 p=>?_
 ·rw [q] at q1; cases q1;exact ⟨v,H1,I1,r1,n v H1 e1 p1⟩
 ·rw [q] at p; exact p.none.elim
end
noncomputable def v9:D->D->Res D
 | .str k,.dic ks _=>.ok (.bl (ks.contains k))
 | _,_=>.stuck
theorem Og (x y:D):aJ (v9 x y):=by cases x <;> cases y <;> first | exact bT | exact cH
theorem Gi (k:Str):∀(ks:List Str) (us:List V),ks.length=us.length->(fL ((ks.map (Sum.inr:Str->Key)).zip us) (Sum.inr k)).isSome=ks.contains k
 | [],us,_=>rfl
 | k' :: ks,[],h=>by cases h
 | k' :: ks,u :: us,h=>by
  rw [List.map_cons,List.zip_cons_cons]
  by_cases e:k'=k
  ·subst e;rw [cs' rfl];simp
  ·rw [ct' (fun z=>e (Sum.inr.inj z)),Gi k ks us (by simpa using h),List.contains_cons];have:(k == k')=false:=beq_eq_false_iff_ne.mpr fun z=>e z.symm;rw [this,Bool.false_or]
theorem Oh {X:Cx}:OpD X (compareOp .In) v9:=by
 intro E pins s σ H x y v u a b d I r1 r2 p1 p2 e
 cases a <;> cases b <;> first | (simp [v9] at e; done) | skip
 rename_i k ks ds;simp only [v9,Res.ok.injEq] at e;subst e;rw [cI p1] at r1;obtain ⟨t,rfl⟩:=r1;rw [Rep] at p2;obtain ⟨c,us,rfl,hH,hl,_⟩:=p2
 cases r2
 obtain ⟨z,hd,vs,rel,dd⟩:=Aq I.hok hH;refine wpAny_in_of (knd:=aP X.prog X.w) (Ao (k:=Sum.inr k) (show RelV (kV (Sum.inr k)) (Value.str k t) from ⟨t,rfl⟩)) hd dd.mapOf ?_
 rw [<- (rel.val (Sum.inr k)).isSome_eq,Gi k ks us hl];exact ⟨_,.bl _,H,rfl,I.tok _,rfl,Same.refl H,km⟩
end DL
namespace DL
open PySem PySem.Spec PyProof.Rows L2
mutual
theorem Rep.thawK {K:PySem.W.Frag} {H:Hp} {a:Addr} {ob:Obj} {kvs kvs':List (Key×V)} (ha:H a=some (.frz ob (.dK kvs))):∀{d:D} {v:V},aO d=true->Rep K H d v->Rep K (upd H a (.dK kvs')) d v
 | .non,v,_,h=>by rw [Rep] at h ⊢; exact h
 | .bl _,v,_,h=>by rw [Rep] at h ⊢; exact h
 | .int _,v,_,h=>by rw [Rep] at h ⊢; exact h
 | .adr _,v,_,h=>by rw [Rep] at h ⊢; exact h
 | .str _,v,_,h=>by rw [Rep] at h ⊢; exact h
 | .lst _,v,hf,_=>by rw [aO] at hf; cases hf
 | .tup ds,v,hf,h=>by
  obtain ⟨b,zs,rfl,hq,r⟩:=cO h;rw [aO] at hf;refine iJ ?_ (Reps.thawK ha hf r);have out:∀{o:HO},H b=some o->(∀ob ys,o≠.frz ob (.dK ys))->upd H a (.dK kvs') b=some o:=fun {o} e n=>by
   rw [aL fun z=>?_]
   ·exact e
   ·subst z; rw [ha] at e; cases e; exact n _ _ rfl
  rcases hq with (hq | ⟨o,hq⟩) | hq
  ·exact .inl (.inl (out hq fun _ _ z=>nomatch z))
  ·exact .inl (.inr ⟨o,out hq fun _ _ z=>nomatch z⟩)
  ·exact .inr hq
 | .exc n,v,_,h=>by
  rw [Rep] at h ⊢;obtain ⟨b,C,rfl,hC,hb⟩:=h;refine ⟨b,C,rfl,hC,?_⟩;rw [aL fun z=>?_]
  ·exact hb
  ·subst z; rw [ha] at hb; cases hb
 | .excf n f d,v,hf,h=>by rw [aO] at hf; cases hf
 | .obj n f d,v,hf,h=>by rw [aO] at hf; cases hf
 | .dic n d,v,hf,h=>by rw [aO] at hf; cases hf
 | .dct,v,_,h=>by
  rw [Rep] at h ⊢;obtain ⟨b,rfl,hb⟩:=h;refine ⟨b,rfl,?_⟩;rw [aL fun z=>?_]
  ·exact hb
  ·subst z; rw [ha] at hb; cases hb
theorem Reps.thawK {K:PySem.W.Frag} {H:Hp} {a:Addr} {ob:Obj} {kvs kvs':List (Key×V)} (ha:H a=some (.frz ob (.dK kvs))):∀{ds:List D} {vs:List V},bc ds=true->Reps K H ds vs->Reps K (upd H a (.dK kvs')) ds vs
 | [],_,_,h=>by cases h.nil_of; exact Reps.nil
 | d :: ds,_,hf,h=>by
  rw [bc,Bool.and_eq_true] at hf;obtain ⟨v,vs,rfl,r,q⟩:=h.cons_of;exact Reps.cons (Rep.thawK ha hf.1 r) (Reps.thawK ha hf.2 q)
end
section
variable {X:Cx} {m:Nat} {fr:List Nat} {N':List Str} {scope:Scope} {cl:List (Str×Addr)} {elts:List Expr} {x1:Nat} {tp:Pos} {elt:Expr} {pos:Pos} {t:cX} {fe:DS->Res D}
end
end DL
namespace DL
open PySem PySem.Spec PyProof.Rows L2
section
variable {X:Cx} {pins:List (Addr×Obj)} {σ:St} {H:Hp} {s:Shared}
end
noncomputable def Stays (H H':Hp):Prop:=∀b o,H b=some o->¬lr o->H' b=some o
mutual
theorem Rep.flatS {K:PySem.W.Frag} {H H':Hp} (w:Stays H H'):∀{d:D} {v:V},aO d=true->Rep K H d v->Rep K H' d v
 | .non,v,_,h=>by rw [Rep] at h ⊢; exact h
 | .bl _,v,_,h=>by rw [Rep] at h ⊢; exact h
 | .int _,v,_,h=>by rw [Rep] at h ⊢; exact h
 | .adr _,v,_,h=>by rw [Rep] at h ⊢; exact h
 | .str _,v,_,h=>by rw [Rep] at h ⊢; exact h
 | .lst _,v,hf,_=>by rw [aO] at hf; cases hf
 | .tup ds,v,hf,h=>by
  obtain ⟨b,zs,rfl,hq,r⟩:=cO h;rw [aO] at hf;refine iJ ?_ (Reps.flatS w hf r);rcases hq with (hq | ⟨o,hq⟩) | hq
  ·exact .inl (.inl (w _ _ hq fun z=>z))
  ·exact .inl (.inr ⟨o,w _ _ hq fun z=>z⟩)
  ·exact .inr hq
 | .exc n,v,_,h=>by
  rw [Rep] at h ⊢;obtain ⟨b,C,rfl,hC,hb⟩:=h;exact ⟨b,C,rfl,hC,w _ _ hb fun z=>z⟩
 | .excf n f d,v,hf,h=>by rw [aO] at hf; cases hf
 | .obj n f d,v,hf,h=>by rw [aO] at hf; cases hf
 | .dic n d,v,hf,h=>by rw [aO] at hf; cases hf
 | .dct,v,_,h=>by
  rw [Rep] at h ⊢;obtain ⟨b,rfl,hb⟩:=h;exact ⟨b,rfl,w _ _ hb fun z=>z⟩
theorem Reps.flatS {K:PySem.W.Frag} {H H':Hp} (w:Stays H H'):∀{ds:List D} {vs:List V},bc ds=true->Reps K H ds vs->Reps K H' ds vs
 | [],_,_,h=>by cases h.nil_of; exact Reps.nil
 | d :: ds,_,hf,h=>by
  rw [bc,Bool.and_eq_true] at hf;obtain ⟨v,vs,rfl,r,q⟩:=h.cons_of;exact Reps.cons (Rep.flatS w hf.1 r) (Reps.flatS w hf.2 q)
end
theorem Stays.trans {H H1 H2:Hp} (a:Stays H H1) (b:Stays H1 H2):Stays H H2:=fun c o h n=>b c o (a c o h n) n
end DL
namespace DL
open PySem PySem.Spec PyProof.Rows L2
abbrev Oi:V->Prop:=fun v=>∃x:Str,v=.str x/\x.length<=1000
abbrev Gj (v:List (Str×Int)):List (Str×V):=v.map fun p=>(p.1,V.int p.2)
section
variable {X:Cx} {e:Expr} {fe:DS->Res D} {x:Str} {v:List (Str×Int)} {p pos:Pos}
end
section
variable {X:Cx} {tg iter:Expr} {body:List Stmt} {t:cX} {fb:DS->Out} {pos:Pos}
variable {x y:Str} {np nq p cp tp:Pos} {elts:List Expr} {x1:Nat}
end
end DL
namespace Mine
end Mine
namespace DL
open PySem PySem.Spec PyProof.Rows L2
theorem ap_seq (a b:DS->Out) (δ:DS):aA a b δ=(a δ).seq b:=Eq.trans rfl rfl
theorem bnd_ok {α β:Type} (a:α) (f:α->Res β):(Res.ok a).bind f=f a:=Eq.trans rfl rfl
theorem sq_nxt (δ:DS) (g:DS->Out):(Out.nxt δ).seq g=g δ:=Eq.trans rfl rfl
theorem sq_ret (d:D) (g:DS->Out):(Out.ret d).seq g=.ret d:=Eq.trans rfl rfl
theorem sq_err (x:Exn) (δ:DS) (g:DS->Out):(Out.err x δ).seq g=.err x δ:=Eq.trans rfl rfl
theorem ap_set (i:Nat) (f:DS->Res D) (δ:DS):aC i f δ=kE (f δ) δ fun d=>.nxt (δ.set i (some (.val d))):=Eq.trans rfl rfl
theorem on_ok (d:D) (δ:DS) (k:D->Out):kE (.ok d) δ k=k d:=Eq.trans rfl rfl
theorem on_err (x:Exn) (δ:DS) (k:D->Out):kE (.err x) δ k=.err x δ:=Eq.trans rfl rfl
theorem ont_ok (c:Bool) (δ:DS) (k:Bool->Out):rK (.ok c) δ k=k c:=Eq.trans rfl rfl
theorem onl_ok (ds:List D) (k:List D->Out):pK (.ok ds) k=k ds:=Eq.trans rfl rfl
theorem ap_if (t:DS->Res Bool) (a b:DS->Out) (δ:DS):cV t a b δ=rK (t δ) δ fun k=>if k=true then a δ else b δ:=Eq.trans rfl rfl
theorem ap_two (fa fb:DS->Res D) (g:D->D->Res D) (δ:DS):two fa fb g δ=(fa δ).bind fun x=>(fb δ).bind fun y=>g x y:=Eq.trans rfl rfl
theorem ap_bF {α:Type} (f:DS->Res α) (g:α->Res D) (δ:DS):aq f g δ=(f δ).bind g:=Eq.trans rfl rfl
theorem ap_bT (f:DS->Res D) (g:D->Res Bool) (δ:DS):aB f g δ=(f δ).bind g:=Eq.trans rfl rfl
theorem ap_bL (f:DS->Res D) (g:D->Res (List D)) (δ:DS):bindL f g δ=(f δ).bind g:=Eq.trans rfl rfl
theorem ap_cons (f:DS->Res D) (fs:DS->Res (List D)) (δ:DS):aa f fs δ=(f δ).bind fun d=>(fs δ).bind fun ds=>.ok (d :: ds):=Eq.trans rfl rfl
theorem ap_lst (f:DS->Res (List D)) (δ:DS):aQ f δ=gf (f δ):=Eq.trans rfl rfl
theorem ap_ret (f:DS->Res D) (δ:DS):aH f δ=kE (f δ) δ Out.ret:=Eq.trans rfl rfl
theorem ap_expr (f:DS->Res D) (δ:DS):dj f δ=kE (f δ) δ fun _=>.nxt δ:=Eq.trans rfl rfl
theorem ap_notT (f:DS->Res Bool) (δ:DS):fP f δ=(f δ).bind fun c=>.ok (!c):=Eq.trans rfl rfl
theorem ap_orT (f g:DS->Res Bool) (δ:DS):jR f g δ=(f δ).bind fun c=>if c=true then .ok true else g δ:=Eq.trans rfl rfl
theorem ap_for (t:cX) (fi:DS->Res (List D)) (b:DS->Out) (δ:DS):jz t fi b δ=pK (fi δ) fun ds=>fW (bj t b ds (thaw δ)):=Eq.trans rfl rfl
theorem ap_forR (r:List D->Res (List D)) (t:cX) (a:DS->Res (List D)) (b:DS->Out) (δ:DS):forR r t a b δ=pK ((a δ).bind r) fun ds=>bj t b ds δ:=Eq.trans rfl rfl
theorem ap_slice (fe:DS->Res D) (fl fu:DS->Res (Option Int)) (δ:DS):b_ fe fl fu δ=(fe δ).bind fun d=>(fl δ).bind fun l=>(fu δ).bind fun u=>cutD d l u:=Eq.trans rfl rfl
theorem ap_part (f:DS->Res D) (δ:DS):cz f δ=(f δ).bind lX:=Eq.trans rfl rfl
theorem part_int (i:Int):lX (.int i)=.ok (some i):=Eq.trans rfl rfl
theorem out_ret (d:D):outD (.ret d)=.ok d:=Eq.trans rfl rfl
theorem out_err (x:Exn) (δ:DS):outD (.err x δ)=.err x:=Eq.trans rfl rfl
theorem cmp_ok (p:Int->Int->Bool) (i j:Int):dY p (.int i) (.int j)=.ok (.bl (p i j)):=Eq.trans rfl rfl
theorem add_ok (i j:Int):aW (.int i) (.int j)=.ok (.int (i + j)):=Eq.trans rfl rfl
theorem bool_ok (b:Bool):aF (.bl b)=.ok b:=Eq.trans rfl rfl
theorem truth_bl (b:Bool):aR (.bl b)=.ok b:=Eq.trans rfl rfl
theorem len_lst (ds:List D):bO [.lst ds]=.ok (.int ds.length):=Eq.trans rfl rfl
theorem seq_lst (ds:List D):aK (.lst ds)=.ok ds:=Eq.trans rfl rfl
theorem vw_val (d:D):SV.view (.val d)=d:=Eq.trans rfl rfl
theorem vw_arg (d:D):SV.view (.arg d)=d:=Eq.trans rfl rfl
theorem eqI (a b:Int):dH (.int a) (.int b)=.ok (.bl (decide (a=b))):=Eq.trans rfl rfl
theorem dR {a b:Int} (h:b≠0):bK (.int a) (.int b)=.ok (.int (Int.fmod a b)):=by unfold bK; exact if_pos h
theorem sG {a b:Int} (h:a.natAbs < 2 ^ 1000) (h2:b.natAbs < 2 ^ 1000):fj (.int a) (.int b)=.ok (.int (a * b)):=by
 unfold fj;have e:1000<=2 ^ 20:=by decide
 exact if_pos (.inl ⟨Nat.le_trans (intBits_le h) e,Nat.le_trans (intBits_le h2) e⟩)
theorem v_ {a b:Int} (h:b.natAbs < 2 ^ 64):fj (.int a) (.int b)=.ok (.int (a * b)):=by
 unfold fj;exact if_pos (.inr (.inr (intBits_le h)))
theorem mulE_i (a b:Int):gj (.int a) (.int b)=fj (.int a) (.int b):=Eq.trans rfl rfl
theorem Oj {y:Int} (h:y.natAbs < 2 ^ 8000):y.natAbs.log2 < 9000:=by
 by_cases c:y.natAbs=0
 ·rw [c]; decide
 ·have:=(Nat.log2_lt c).mpr h; omega
theorem ev' {a b:Int} (h:b≠0) (h2:b.natAbs < 2 ^ 8000):bH (.int a) (.int b)=.ok (.int (Int.fdiv a b)):=by
 unfold bH; exact if_pos ⟨h,PyProof.noPylong_of_log2 (Oj h2)⟩
theorem sl0 (sv:SV) (r:DS):aj 0 (some sv :: r)=.ok sv.view:=Eq.trans rfl rfl
theorem st0 (y x:Option SV) (r:DS):List.set (y :: r) 0 x=x :: r:=Eq.trans rfl rfl
theorem sl1 (a0:Option SV) (sv:SV) (r:DS):aj 1 (a0 :: some sv :: r)=.ok sv.view:=Eq.trans rfl rfl
theorem st1 (a0:Option SV) (y x:Option SV) (r:DS):List.set (a0 :: y :: r) 1 x=a0 :: x :: r:=Eq.trans rfl rfl
theorem sl2 (a0 a1:Option SV) (sv:SV) (r:DS):aj 2 (a0 :: a1 :: some sv :: r)=.ok sv.view:=Eq.trans rfl rfl
theorem st2 (a0 a1:Option SV) (y x:Option SV) (r:DS):List.set (a0 :: a1 :: y :: r) 2 x=a0 :: a1 :: x :: r:=Eq.trans rfl rfl
theorem sl3 (a0 a1 a2:Option SV) (sv:SV) (r:DS):aj 3 (a0 :: a1 :: a2 :: some sv :: r)=.ok sv.view:=Eq.trans rfl rfl
theorem st3 (a0 a1 a2:Option SV) (y x:Option SV) (r:DS):List.set (a0 :: a1 :: a2 :: y :: r) 3 x=a0 :: a1 :: a2 :: x :: r:=Eq.trans rfl rfl
theorem sl4 (a0 a1 a2 a3:Option SV) (sv:SV) (r:DS):aj 4 (a0 :: a1 :: a2 :: a3 :: some sv :: r)=.ok sv.view:=Eq.trans rfl rfl
theorem st4 (a0 a1 a2 a3:Option SV) (y x:Option SV) (r:DS):List.set (a0 :: a1 :: a2 :: a3 :: y :: r) 4 x=a0 :: a1 :: a2 :: a3 :: x :: r:=Eq.trans rfl rfl
theorem Ck (a0 a1 a2 a3 a4 a5 a6 a7 a8:Option SV) (y x:Option SV) (r:DS):List.set (a0 :: a1 :: a2 :: a3 :: a4 :: a5 :: a6 :: a7 :: a8 :: y :: r) 9 x=a0 :: a1 :: a2 :: a3 :: a4 :: a5 :: a6 :: a7 :: a8 :: x :: r:=Eq.trans rfl rfl
theorem wg (a0 a1 a2 a3 a4 a5 a6 a7 a8 a9 a10:Option SV) (y x:Option SV) (r:DS):List.set (a0 :: a1 :: a2 :: a3 :: a4 :: a5 :: a6 :: a7 :: a8 :: a9 :: a10 :: y :: r) 11 x=a0 :: a1 :: a2 :: a3 :: a4 :: a5 :: a6 :: a7 :: a8 :: a9 :: a10 :: x :: r:=Eq.trans rfl rfl
theorem lst1 (x0:D):gf (.ok [x0])=.ok (.lst [x0]):=Eq.trans rfl rfl
theorem lst7 (x0 x1 x2 x3 x4 x5 x6:D):gf (.ok [x0,x1,x2,x3,x4,x5,x6])=.ok (.lst [x0,x1,x2,x3,x4,x5,x6]):=Eq.trans rfl rfl
theorem ix_tup (ds:List D) (k:Nat) (d:D) (h:ds[k]? = some d):bh (.tup ds) (.int (k:Int))=.ok d:=by
 have hk:k < ds.length:=by
  rcases Nat.lt_or_ge k ds.length with z | z
  ·exact z
  ·rw [List.getElem?_eq_none z] at h; cases h
 have e:i_ ds (k:Int)=some d:=by
  unfold i_ rE;rw [if_pos (Int.natCast_nonneg k),if_pos (by omega)];simpa using h
 show (match i_ ds (k:Int) with | some d=>Res.ok d | none=>.stuck)=_
 rw [e]
theorem zL (ds:List D) (k:Nat) (d:D) (h:ds[k]? = some d):bh (.lst ds) (.int (k:Int))=.ok d:=by
 have hk:k < ds.length:=by
  rcases Nat.lt_or_ge k ds.length with z | z
  ·exact z
  ·rw [List.getElem?_eq_none z] at h; cases h
 have e:i_ ds (k:Int)=some d:=by
  unfold i_ rE;rw [if_pos (Int.natCast_nonneg k),if_pos (by omega)];simpa using h
 show (match i_ ds (k:Int) with | some d=>Res.ok d | none=>.stuck)=_
 rw [e]
theorem ix_lst0 (x0:D) (r:List D):bh (.lst (x0 :: r)) (.int 0)=.ok x0:=zL _ 0 _ rfl
theorem ix_lst1 (x0 x1:D) (r:List D):bh (.lst (x0 :: x1 :: r)) (.int 1)=.ok x1:=zL _ 1 _ rfl
end DL
namespace Mine
open PySem DL
noncomputable def gN (n:Nat) (ts:List Int):Nat:=ts.foldl (fun s t=>Nat.gcd s t.natAbs) n
structure Nf (ts:List Int) (b:Int):Prop where
 pos:0 < b
 one:gN b.natAbs ts=1
abbrev num (ts:List Int) (b:Int):D:=.tup [.tup (ts.map .int),.int b]
end Mine
namespace Mine
open PySem DL L2
abbrev TI (l:List Int):D:=.tup (l.map .int)
abbrev RT (rs:List (List Int)):D:=.tup (rs.reverse.map TI)
noncomputable def jk (a b:List Int):List Int:=List.zipWith (fun x y=>x + y) a b
noncomputable def oY (x:List Int):List Int:=x.take (x.length / 2)
noncomputable def pZ (x:List Int):List Int:=x.drop (x.length / 2)
noncomputable def pt:List (List Int)->List Int->List Int->List Int
 | [],x,y=>[x.headD 0 * y.headD 0]
 | r :: rs,x,y=>jk (pt rs (oY x) (oY y)) (pt rs (pt rs (pZ x) (pZ y)) r) ++ jk (pt rs (oY x) (pZ y)) (pt rs (pZ x) (oY y))
noncomputable def lt:List (List Int)->List Int->List Int->List Int
 | [],x,y=>[x.headD 0 * y.headD 0]
 | r :: rs,x,y=>jk (lt rs (oY x) (oY y)) (lt rs r (lt rs (pZ x) (pZ y))) ++ jk (lt rs (oY x) (pZ y)) (lt rs (pZ x) (oY y))
noncomputable def Bd (n:Nat) (l:List Int):Prop:=∀t∈l,t.natAbs < 2 ^ n
theorem Bd.mono {n m:Nat} {l:List Int} (h:Bd n l) (e:n<=m):Bd m l:=fun t ht=>Nat.lt_of_lt_of_le (h t ht) (Nat.pow_le_pow_right (by decide) e)
theorem Bd.fr {n:Nat} {l:List Int} (h:Bd n l):Bd n (oY l):=fun t ht=>h t (List.mem_of_mem_take ht)
theorem Bd.add {n:Nat}:∀{a b:List Int},Bd n a->Bd n b->Bd (n + 1) (jk a b)
 | [],_,_,_=>fun t ht=>by simp [jk] at ht
 | _ :: _,[],_,_=>fun t ht=>by simp [jk] at ht
 | x :: a,y :: b,h1,h2=>fun t ht=>by
  unfold jk at ht;rw [List.zipWith_cons_cons] at ht;rcases List.mem_cons.mp ht with z | z
  ·have e1:=h1 x (by simp);have e2:=h2 y (by simp);rw [z,Nat.pow_succ]; omega
  ·exact Bd.add (fun t ht=>h1 t (List.mem_cons_of_mem _ ht)) (fun t ht=>h2 t (List.mem_cons_of_mem _ ht)) t z
theorem Gk:∀(bs:List Bool),bools (bs.map .bl)=some bs
 | []=>rfl
 | b :: bs=>by rw [List.map_cons,bools,Gk bs]; rfl
theorem mu' (bs:List Bool):jd [.lst (bs.map .bl)]=.ok (.bl (bs.all id)):=by
 show (match bools (bs.map .bl) with | some bs=>Res.ok (D.bl (bs.all id)) | none=>.stuck)=_
 rw [Gk]
abbrev sT (l:List Nat):Str:=⟨l.toArray⟩
theorem oZ (l:List Nat):(sT l).cps.toList=l:=by simp
theorem uM {x:Str} {l:List Nat} (h:x.cps.toList=l):x=sT l:=by
 obtain ⟨a⟩:=x;show Str.mk a=Str.mk l.toArray;rw [<- h]
theorem join_list (c:Nat) (x:Str) (rest:List Str):((sT [c]).join (x :: rest)).cps.toList=x.cps.toList ++ rest.flatMap (fun p=>c :: p.cps.toList):=by
 rw [<- StrLaws.glued_cons];have:∀(rest:List Str) (acc:Array Nat),(List.foldl (fun acc p=>acc ++ (sT [c]).cps ++ p.cps) acc rest).toList=acc.toList ++ rest.flatMap (fun p=>c :: p.cps.toList):=by
  intro rest
  induction rest with
  | nil=>intro acc; simp
  | cons p rest ih=>intro acc; rw [List.foldl_cons,ih,List.flatMap_cons]; simp
 exact this rest x.cps
theorem sH {c:Nat}:∀{x a r b:List Nat},c∉x->c∉a->x ++ c :: r=a ++ c :: b->x=a/\r=b
 | [],[],r,b,_,_,e=>⟨rfl,by simpa using e⟩
 | [],y :: a,r,b,_,h,e=>by
  have:c=y:=by simpa using (List.cons.inj e).1
  exact (h (by rw [this]; simp)).elim
 | y :: x,[],r,b,h,_,e=>by
  have:y=c:=by simpa using (List.cons.inj e).1
  exact (h (by rw [this]; simp)).elim
 | y :: x,z :: a,r,b,h1,h2,e=>by
  have e':=List.cons.inj e;obtain ⟨q1,q2⟩:=sH (x:=x) (a:=a) (fun m=>h1 (List.mem_cons_of_mem _ m)) (fun m=>h2 (List.mem_cons_of_mem _ m)) e'.2;exact ⟨by rw [e'.1,q1],q2⟩
theorem Ol {c:Nat} {l:List Nat} (hl:l≠[]) (h:c∉l):Txt.split (sT l) (sT [c])=[sT l]:=by
 have j:=StrLaws.join_split (sT l) (sT [c]);have f:=StrLaws.split_free (sT l) c
 cases q:Txt.split (sT l) (sT [c]) with
 | nil =>
  rw [q] at j;exfalso;have:(sT l).cps.toList=[]:=by rw [<- j]; rfl
  exact hl (by simpa using this)
 | cons x rest =>
  rw [q] at j;have e:=congrArg (fun z:Str=>z.cps.toList) j;dsimp only at e;rw [join_list,oZ] at e
  cases rest with
  | nil =>
   rw [List.flatMap_nil,List.append_nil] at e;rw [uM e]
  | cons p rest =>
   exfalso;rw [List.flatMap_cons] at e;exact h (by rw [<- e]; simp)
theorem Om {c:Nat} {a b:List Nat} (ha:c∉a) (hb:c∉b):Txt.split (sT (a ++ c :: b)) (sT [c])=[sT a,sT b]:=by
 have j:=StrLaws.join_split (sT (a ++ c :: b)) (sT [c]);have f:=StrLaws.split_free (sT (a ++ c :: b)) c
 cases q:Txt.split (sT (a ++ c :: b)) (sT [c]) with
 | nil =>
  rw [q] at j;exfalso;have:(sT (a ++ c :: b)).cps.toList=[]:=by rw [<- j]; rfl
  rw [oZ] at this;simp at this
 | cons x rest =>
  have fx:c∉x.cps.toList:=f x (by show x∈Txt.split (sT (a ++ c :: b)) (sT [c]); rw [q]; simp);have fr:∀p∈rest,c∉p.cps.toList:=fun p hp=>f p (by show p∈Txt.split (sT (a ++ c :: b)) (sT [c]); rw [q]; exact List.mem_cons_of_mem _ hp);rw [q] at j;have e:=congrArg (fun z:Str=>z.cps.toList) j;dsimp only at e;rw [join_list,oZ] at e
  cases rest with
  | nil =>
   exfalso;rw [List.flatMap_nil,List.append_nil] at e;exact fx (by rw [e]; simp)
  | cons p rest =>
   rw [List.flatMap_cons,List.cons_append] at e;obtain ⟨e1,e2⟩:=sH fx ha e
   cases rest with
   | nil =>
    rw [List.flatMap_nil,List.append_nil] at e2;rw [uM e1,uM e2]
   | cons p2 rest =>
    exfalso;rw [List.flatMap_cons] at e2;exact hb (by rw [<- e2]; simp)
theorem Cm (a b:List Nat):sT a ++ sT b=sT (a ++ b):=by
 refine uM ?_;show ((sT a).cps ++ (sT b).cps).toList=_;simp
end Mine
namespace Mine
open Lean.Grind
structure OF where
 C:Type
 fld:Field C
 le:LE C
 lt:LT C
 llt:Std.LawfulOrderLT C
 lin:Std.IsLinearOrder C
 ord:OrderedRing C
instance ofF (F:OF):Field F.C:=F.fld
instance ofLE (F:OF):LE F.C:=F.le
instance ofLT (F:OF):LT F.C:=F.lt
instance ofLLT (F:OF):Std.LawfulOrderLT F.C:=F.llt
instance ofLin (F:OF):Std.IsLinearOrder F.C:=F.lin
instance ofOrd (F:OF):OrderedRing F.C:=F.ord
instance ofNC (F:OF):NatCast F.C:=F.fld.toCommRing.toRing.toSemiring.natCast
instance ofIC (F:OF):IntCast F.C:=F.fld.toCommRing.toRing.intCast
section
variable {F:OF}
theorem dw {a b:F.C} (h1:0 < a) (h2:0 < b):0 < a * b:=by
 have:=OrderedRing.mul_lt_mul_of_pos_left h1 h2
 grind
theorem lu {a b:F.C} (h1:0<=a) (h2:0<=b):0<=a * b:=by
 by_cases h:a=0
 ·rw [h,Semiring.zero_mul]; exact Std.le_refl _
 ·by_cases h':b=0
  ·rw [h',Semiring.mul_zero]; exact Std.le_refl _
  ·have:=dw (a:=a) (b:=b) (by grind) (by grind)
   grind
theorem dZ (a:F.C):0<=a * a:=by
 by_cases h:0<=a
 ·exact lu h h
 ·have:=lu (a:=-a) (b:=-a) (by grind) (by grind)
  grind
theorem ey' {a b c d:F.C} (a0:0<=a) (h1:a < b) (c0:0<=c) (h2:c < d):a * c < b * d:=by
 have q1:=lu (a:=b - a) (b:=c) (by grind) c0;have q2:=dw (a:=b) (b:=d - c) (by grind) (by grind)
 grind
theorem qX {p q:F.C} (h:0 < p) (e:q * q < p * p):0 < p + q:=by
 by_cases c:0 < p + q
 ·exact c
 ·exfalso;have q1:=lu (a:=-q - p) (b:=-q + p) (by grind) (by grind)
  grind
theorem Cp {a b:F.C} (h:a * b=0):a=0\/b=0:=by
 by_cases c:a=0
 ·exact .inl c
 ·right; grind
end
open Classical in
noncomputable def sgn {F:OF} (x:F.C):Int:=if x=0 then 0 else if 0 < x then 1 else -1
section
variable {F:OF}
end
structure Ext {R:Type} (r:R) where
 a:R
 b:R
namespace Ext
section
variable {F:OF} {r:F.C}
theorem eqs {x y:Ext r} (h1:x.a=y.a) (h2:x.b=y.b):x=y:=by
 cases x; cases y; cases h1; cases h2; rfl
instance:Add (Ext r):=⟨fun x y=>⟨x.a + y.a,x.b + y.b⟩⟩
instance:Mul (Ext r):=⟨fun x y=>⟨x.a * y.a + x.b * y.b * r,x.a * y.b + x.b * y.a⟩⟩
instance:Neg (Ext r):=⟨fun x=>⟨-x.a,-x.b⟩⟩
instance:Sub (Ext r):=⟨fun x y=>⟨x.a - y.a,x.b - y.b⟩⟩
instance:NatCast (Ext r):=⟨fun n=>⟨(n:F.C),0⟩⟩
instance:IntCast (Ext r):=⟨fun n=>⟨(n:F.C),0⟩⟩
instance (n:Nat):OfNat (Ext r) n:=⟨⟨OfNat.ofNat n,0⟩⟩
instance:SMul Nat (Ext r):=⟨fun n x=>(n:Ext r) * x⟩
instance:SMul Int (Ext r):=⟨fun n x=>(n:Ext r) * x⟩
noncomputable def pw (x:Ext r):Nat->Ext r
 | 0=>1
 | n + 1=>pw x n * x
instance:HPow (Ext r) Nat (Ext r):=⟨pw⟩
theorem iW (x y:Ext r):(x + y).a=x.a + y.a:=rfl
theorem iY (x y:Ext r):(x + y).b=x.b + y.b:=rfl
theorem jE (x y:Ext r):(x * y).a=x.a * y.a + x.b * y.b * r:=rfl
theorem jF (x y:Ext r):(x * y).b=x.a * y.b + x.b * y.a:=rfl
theorem sI (x:Ext r):(-x).a=-x.a:=rfl
theorem sJ (x:Ext r):(-x).b=-x.b:=rfl
theorem Cq (x y:Ext r):(x - y).a=x.a - y.a:=rfl
theorem Gm (x y:Ext r):(x - y).b=x.b - y.b:=rfl
theorem Gn (n:Nat):((n:Ext r)).a=(n:F.C):=rfl
theorem qY (n:Int):((n:Ext r)).a=(n:F.C):=rfl
theorem uN (n:Int):((n:Ext r)).b=0:=rfl
theorem p6 (n:Nat):(OfNat.ofNat n:Ext r).a=(OfNat.ofNat n:F.C):=rfl
theorem wj (n:Nat):(OfNat.ofNat n:Ext r).b=0:=rfl
theorem lz:(1:Ext r).a=1:=rfl
theorem o5:(1:Ext r).b=0:=rfl
theorem lA:(0:Ext r).a=0:=rfl
theorem o7:(0:Ext r).b=0:=rfl
instance:Semiring (Ext r) where
 add_zero x:=eqs (by rw [iW,lA] <;> grind) (by rw [iY,o7] <;> grind)
 add_comm x y:=eqs (by rw [iW,iW] <;> grind) (by rw [iY,iY] <;> grind)
 add_assoc x y z:=eqs (by simp only [iW] <;> grind) (by simp only [iY] <;> grind)
 mul_assoc x y z:=eqs (by simp only [jE,jF] <;> grind) (by simp only [jE,jF] <;> grind)
 mul_one x:=eqs (by simp only [jE,lz,o5] <;> grind) (by simp only [jF,lz,o5] <;> grind)
 one_mul x:=eqs (by simp only [jE,lz,o5] <;> grind) (by simp only [jF,lz,o5] <;> grind)
 left_distrib x y z:=eqs (by simp only [jE,iW,iY] <;> grind) (by simp only [jF,iW,iY] <;> grind)
 right_distrib x y z:=eqs (by simp only [jE,iW,iY] <;> grind) (by simp only [jF,iW,iY] <;> grind)
 zero_mul x:=eqs (by simp only [jE,lA,o7] <;> grind) (by simp only [jF,lA,o7] <;> grind)
 mul_zero x:=eqs (by simp only [jE,lA,o7] <;> grind) (by simp only [jF,lA,o7] <;> grind)
 pow_zero x:=rfl
 pow_succ x n:=rfl
 ofNat_succ n:=eqs (by rw [iW,p6,p6,lz]; exact Semiring.ofNat_succ (α:=F.C) n) (by rw [iY,wj,wj,o5] <;> grind)
 ofNat_eq_natCast n:=eqs (by rw [p6,Gn]; exact Semiring.ofNat_eq_natCast (α:=F.C) n) rfl
 nsmul_eq_natCast_mul n x:=rfl
instance:Ring (Ext r) where
 neg_add_cancel x:=eqs (by rw [iW,sI,lA] <;> grind) (by rw [iY,sJ,o7] <;> grind)
 sub_eq_add_neg x y:=eqs (by rw [iW,sI,Cq] <;> grind) (by rw [iY,sJ,Gm] <;> grind)
 neg_zsmul i x:=by
  show ((-i:Int):Ext r) * x=-((i:Ext r) * x);refine eqs ?_ ?_
  ·rw [sI,jE,jE,qY,qY,uN,uN,Ring.intCast_neg (α:=F.C)] <;> grind
  ·rw [sJ,jF,jF,qY,qY,uN,uN,Ring.intCast_neg (α:=F.C)] <;> grind
 zsmul_natCast_eq_nsmul n x:=by
  show (((n:Int)):Ext r) * x=(n:Ext r) * x;have e:(((n:Int)):Ext r)=(n:Ext r):=eqs (by rw [qY,Gn]; exact Ring.intCast_natCast (α:=F.C) n) rfl;rw [e]
 intCast_ofNat n:=eqs (by rw [qY,p6]; exact Ring.intCast_ofNat (α:=F.C) n) rfl
 intCast_neg i:=eqs (by rw [qY,sI,qY]; exact Ring.intCast_neg (α:=F.C) i) (by rw [uN,sJ,uN] <;> grind)
instance:CommRing (Ext r) where
 mul_comm x y:=eqs (by rw [jE,jE] <;> grind) (by rw [jF,jF] <;> grind)
noncomputable def cB (x:Ext r):F.C:=x.a * x.a - x.b * x.b * r
theorem Oo (x y:Ext r):cB (x * y)=cB x * cB y:=by unfold cB; rw [jE,jF]; grind
theorem lb' (hn:∀z:F.C,z * z≠r) {x:Ext r} (h:cB x=0):x=0:=by
 unfold cB at h
 by_cases hb:x.b=0
 ·have:x.a=0:=by rcases Cp (a:=x.a) (b:=x.a) (by grind) with z | z <;> exact z
  exact eqs this hb
 ·exfalso;exact hn (x.a / x.b) (by grind)
instance:Inv (Ext r):=⟨fun x=>⟨x.a / cB x,-x.b / cB x⟩⟩
instance:Div (Ext r):=⟨fun x y=>x * y⁻¹⟩
theorem zM (x:Ext r):(x⁻¹).a=x.a / cB x:=rfl
theorem zN (x:Ext r):(x⁻¹).b=-x.b / cB x:=rfl
noncomputable def Cr (x:Ext r):Int->Ext r
 | .ofNat n=>pw x n
 | .negSucc n=>(pw x (n + 1))⁻¹
instance:HPow (Ext r) Int (Ext r):=⟨Cr⟩
theorem Cu:((0:Ext r))⁻¹=0:=eqs (by rw [zM,lA]; grind) (by rw [zN,o7]; grind)
theorem Cw (hn:∀z:F.C,z * z≠r) {x:Ext r} (h:x≠0):x * x⁻¹=1:=by
 have n0:cB x≠0:=fun z=>h (lb' hn z);refine eqs ?_ ?_
 ·rw [jE,zM,zN,lz]; unfold cB at *; grind
 ·rw [jF,zM,zN,o5]; unfold cB at *; grind
theorem Oq (hn:∀z:F.C,z * z≠r) (x:Ext r):(x⁻¹)⁻¹=x:=by
 by_cases h:x=0
 ·rw [h,Cu,Cu]
 ·have e1:=Cw hn h;have h2:x⁻¹≠0:=fun z=>by
   rw [z] at e1;have:(0:Ext r)=1:=by rw [<- e1,Semiring.mul_zero]
   have:=congrArg Ext.a this;rw [lA,lz] at this;exact Field.zero_ne_one this
  have e2:=Cw hn h2
  calc (x⁻¹)⁻¹=(x * x⁻¹) * (x⁻¹)⁻¹:=by rw [e1,Semiring.one_mul]
   _=x * (x⁻¹ * (x⁻¹)⁻¹):=Semiring.mul_assoc ..
   _=x:=by rw [e2,Semiring.mul_one]
theorem inv_1:((1:Ext r))⁻¹=1:=by
 refine eqs ?_ ?_
 ·rw [zM,lz]; unfold cB; rw [lz,o5]; grind
 ·rw [zN,o5]; unfold cB; rw [lz,o5]; grind
@[reducible] def fieldE (hn:∀z:F.C,z * z≠r):Field (Ext r) where
 div_eq_mul_inv _ _:=rfl
 zero_ne_one h:=by
  have:=congrArg Ext.a h;rw [lA,lz] at this;exact Field.zero_ne_one this
 inv_zero:=Cu
 mul_inv_cancel:=Cw hn
 zpow_zero _:=rfl
 zpow_succ _ _:=rfl
 zpow_neg x n:=by
  show Cr x (-n)=(Cr x n)⁻¹
  match n with
  | .ofNat 0=>exact inv_1.symm
  | .ofNat (n + 1)=>rfl
  | .negSucc n=>exact (Oq hn _).symm
noncomputable def Pos (x:Ext r):Prop:=(0 < cB x/\0 < x.a)\/(cB x < 0/\0 < x.b)
instance:LT (Ext r):=⟨fun x y=>Pos (y - x)⟩
instance:LE (Ext r):=⟨fun x y=>x=y\/Pos (y - x)⟩
theorem Gp (x:Ext r):cB (-x)=cB x:=by unfold cB; rw [sI,sJ]; grind
theorem Ot:cB (0:Ext r)=0:=by unfold cB; rw [lA,o7]; grind
theorem Ou:¬Pos (0:Ext r):=fun h=>by unfold Pos at h; rw [Ot] at h; grind
theorem ic' {x:Ext r} (h:Pos x):¬Pos (-x):=fun z=>by
 unfold Pos at h z; rw [Gp,sI,sJ] at z;rcases h with h | h <;> rcases z with z | z <;> grind
theorem tri (hn:∀z:F.C,z * z≠r) (hr:0 < r) (x:Ext r):x=0\/Pos x\/Pos (-x):=by
 by_cases h:x=0
 ·exact .inl h
 ·right
  have n0:cB x≠0:=fun z=>h (lb' hn z);unfold Pos;rw [Gp,sI,sJ]
  by_cases c:0 < cB x
  ·have:x.a≠0:=fun z=>by
    have:=lu (dZ x.b) (Std.le_of_lt hr);unfold cB at c; rw [z] at c; grind
   by_cases d:0 < x.a
   ·exact .inl (.inl ⟨c,d⟩)
   ·exact .inr (.inl ⟨c,by grind⟩)
  ·have:x.b≠0:=fun z=>by
    have:=dZ x.a;unfold cB at c n0; rw [z] at c n0; grind
   by_cases d:0 < x.b
   ·exact .inl (.inr ⟨by grind,d⟩)
   ·exact .inr (.inr ⟨by grind,by grind⟩)
theorem id' (hr:0 < r) {x y:Ext r} (h1:Pos x) (h2:Pos y):Pos (x * y):=by
 unfold Pos at *;rw [Oo,jE,jF];have rr:=dw hr hr;have nbb:=lu (dZ x.b) (Std.le_of_lt hr);have ndd:=lu (dZ y.b) (Std.le_of_lt hr);rcases h1 with ⟨n1,p1⟩ | ⟨n1,p1⟩ <;> rcases h2 with ⟨n2,p2⟩ | ⟨n2,p2⟩
 ·refine .inl ⟨dw n1 n2,?_⟩;have q:=ey' nbb (show x.b * x.b * r < x.a * x.a by unfold cB at n1; grind) ndd (show y.b * y.b * r < y.a * y.a by unfold cB at n2; grind);exact qX (dw p1 p2) (by grind)
 ·refine .inr ⟨?_,?_⟩
  ·have:=dw (a:=cB x) (b:=-cB y) n1 (by grind); grind
  ·have q:=ey' nbb (show x.b * x.b * r < x.a * x.a by unfold cB at n1; grind) (dZ y.a) (show y.a * y.a < y.b * y.b * r by unfold cB at n2; grind);refine qX (dw p1 p2) ?_
   by_cases c:x.b * y.a * (x.b * y.a) < x.a * y.b * (x.a * y.b)
   ·exact c
   ·have:=lu (a:=x.b * y.a * (x.b * y.a) - x.a * y.b * (x.a * y.b)) (b:=r) (by grind) (Std.le_of_lt hr)
    grind
 ·refine .inr ⟨?_,?_⟩
  ·have:=dw (a:=-cB x) (b:=cB y) (by grind) n2; grind
  ·have q:=ey' (dZ x.a) (show x.a * x.a < x.b * x.b * r by unfold cB at n1; grind) ndd (show y.b * y.b * r < y.a * y.a by unfold cB at n2; grind);have:0 < x.b * y.a + x.a * y.b:=by
    refine qX (dw p1 p2) ?_
    by_cases c:x.a * y.b * (x.a * y.b) < x.b * y.a * (x.b * y.a)
    ·exact c
    ·have:=lu (a:=x.a * y.b * (x.a * y.b) - x.b * y.a * (x.b * y.a)) (b:=r) (by grind) (Std.le_of_lt hr)
     grind
   grind
 ·refine .inl ⟨?_,?_⟩
  ·have:=dw (a:=-cB x) (b:=-cB y) (by grind) (by grind); grind
  ·have q:=ey' (dZ x.a) (show x.a * x.a < x.b * x.b * r by unfold cB at n1; grind) (dZ y.a) (show y.a * y.a < y.b * y.b * r by unfold cB at n2; grind);have:0 < x.b * y.b * r + x.a * y.a:=qX (dw (dw p1 p2) hr) (by grind)
   grind
theorem Ov (hn:∀z:F.C,z * z≠r) (hr:0 < r) {x y:Ext r} (h1:Pos x) (h2:Pos y):Pos (x + y):=by
 have rr:=dw hr hr;have nbb:=lu (dZ x.b) (Std.le_of_lt hr);have ndd:=lu (dZ y.b) (Std.le_of_lt hr);have mixed:∀x y:Ext r,(0 < cB x/\0 < x.a)->(cB y < 0/\0 < y.b)->Pos (x + y):=by
  intro x y ⟨n1,p1⟩ ⟨n2,p2⟩;have nbb:=lu (dZ x.b) (Std.le_of_lt hr);have h0:x + y≠0:=fun z=>by
   have za:=congrArg Ext.a z;have zb:=congrArg Ext.b z;rw [iW,lA] at za;rw [iY,o7] at zb;have ea:y.a=-x.a:=by grind
   have eb:y.b=-x.b:=by grind
   unfold cB at n1 n2;rw [ea,eb] at n2
   grind
  have n0:cB (x + y)≠0:=fun z=>h0 (lb' hn z);unfold Pos
  by_cases c:0 < cB (x + y)
  ·refine .inl ⟨c,?_⟩;rw [iW]
   by_cases d:0 < x.a + y.a
   ·exact d
   ·exfalso;unfold cB at n1 n2 c;rw [iW,iY] at c;have nvv:=lu (dZ (x.b + y.b)) (Std.le_of_lt hr);have u0:-(x.a + y.a)≠0:=fun z=>by
     have:x.a + y.a=0:=by grind
     rw [this] at c; grind
    have up:0 < -(x.a + y.a):=by grind
    have q:=ey' nbb (show x.b * x.b * r < x.a * x.a by grind) nvv (show (x.b + y.b) * (x.b + y.b) * r < -(x.a + y.a) * -(x.a + y.a) by grind);have q2:=qX (p:=x.a * -(x.a + y.a)) (q:=x.b * (x.b + y.b) * r) (dw p1 up) (by grind)
    grind
  ·refine .inr ⟨by grind,?_⟩;rw [iY]
   by_cases d:0 < x.b + y.b
   ·exact d
   ·exfalso;have c':cB (x + y) < 0:=by grind
    unfold cB at n1 n2 c';rw [iW,iY] at c';have naa:=dZ (x.a + y.a);have v0:-(x.b + y.b)≠0:=fun z=>by
     have:x.b + y.b=0:=by grind
     rw [this] at c'; grind
    have vp:0 < -(x.b + y.b):=by grind
    have q:=ey' (dZ y.a) (show y.a * y.a < y.b * y.b * r by grind) naa (show (x.a + y.a) * (x.a + y.a) < (x.b + y.b) * (x.b + y.b) * r by grind);have q2:=qX (p:=y.b * -(x.b + y.b) * r) (q:=y.a * (x.a + y.a)) (dw (dw p2 vp) hr) (by grind)
    grind
 rcases h1 with h1 | h1 <;> rcases h2 with h2 | h2
 ·obtain ⟨n1,p1⟩:=h1;obtain ⟨n2,p2⟩:=h2;refine .inl ⟨?_,by rw [iW]; grind⟩;unfold cB at *;rw [iW,iY];have q:=ey' nbb (show x.b * x.b * r < x.a * x.a by grind) ndd (show y.b * y.b * r < y.a * y.a by grind);have q2:=qX (p:=x.a * y.a) (q:=-(x.b * y.b * r)) (dw p1 p2) (by grind)
  grind
 ·exact mixed x y h1 h2
 ·have:=mixed y x h2 h1
  rwa [Semiring.add_comm] at this
 ·obtain ⟨n1,p1⟩:=h1;obtain ⟨n2,p2⟩:=h2;refine .inr ⟨?_,by rw [iY]; grind⟩;unfold cB at *;rw [iW,iY];have q:=ey' (dZ x.a) (show x.a * x.a < x.b * x.b * r by grind) (dZ y.a) (show y.a * y.a < y.b * y.b * r by grind);have q2:=qX (p:=x.b * y.b * r) (q:=-(x.a * y.a)) (dw (dw p1 p2) hr) (by grind)
  grind
theorem zO {x y:Ext r}:x < y↔Pos (y - x):=Iff.rfl
theorem Gq {x y:Ext r}:x<=y↔x=y\/Pos (y - x):=Iff.rfl
theorem Ow (x y z:Ext r):(y - x) + (z - y)=z - x:=by grind
theorem linE (hn:∀z:F.C,z * z≠r) (hr:0 < r):Std.IsLinearOrder (Ext r) where
 le_refl x:=.inl rfl
 le_trans x y z h1 h2:=by
  rcases h1 with rfl | h1
  ·exact h2
  ·rcases h2 with rfl | h2
   ·exact .inr h1
   ·exact .inr (by have:=Ov hn hr h1 h2; rwa [Ow] at this)
 le_antisymm x y h1 h2:=by
  rcases h1 with rfl | h1
  ·rfl
  ·rcases h2 with rfl | h2
   ·rfl
   ·exact (ic' h1 (by rwa [show -(y - x)=x - y by grind])).elim
 le_total x y:=by
  rcases tri hn hr (y - x) with z | z | z
  ·exact .inl (.inl (by grind))
  ·exact .inl (.inr z)
  ·exact .inr (.inr (by rwa [show -(y - x)=x - y by grind] at z))
theorem lltE:Std.LawfulOrderLT (Ext r) where
 lt_iff x y:=by
  constructor
  ·intro h;refine ⟨.inr h,fun z=>?_⟩;rcases z with rfl | z
   ·rw [zO,show y - y=0 by grind] at h; exact Ou h
   ·exact ic' h (by rwa [show -(y - x)=x - y by grind])
  ·intro ⟨h1,h2⟩;rcases h1 with rfl | h1
   ·exact (h2 (.inl rfl)).elim
   ·exact h1
theorem ordE (hn:∀z:F.C,z * z≠r) (hr:0 < r):@OrderedRing (Ext r) _ _ _ ((linE hn hr).toIsPartialOrder.toIsPreorder) :=
  letI:=(linE hn hr)
  { add_le_left_iff:=fun {a b} c=>by
      rw [Gq,Gq,show b + c - (a + c)=b - a by grind]
      constructor
      · rintro (rfl | h)
        · exact .inl rfl
        · exact .inr h
      · rintro (h | h)
        · exact .inl (by grind)
        · exact .inr h
    zero_lt_one:=by
      rw [zO];refine .inl ⟨?_,?_⟩
      · unfold cB; rw [Cq,Gm,lz,o5,lA,o7];have:=OrderedRing.zero_lt_one (R:=F.C)
        grind
      · rw [Cq,lz,lA]; have:=OrderedRing.zero_lt_one (R:=F.C); grind
    mul_lt_mul_of_pos_left:=fun {a b c} h1 h2=>by
      rw [zO] at *;have:=id' hr h2 h1
      rwa [show (c - 0) * (b - a)=c * b - c * a by grind] at this
    mul_lt_mul_of_pos_right:=fun {a b c} h1 h2=>by
      rw [zO] at *;have:=id' hr h2 h1
      rwa [show (c - 0) * (b - a)=b * c - a * c by grind] at this }
end
end Ext
noncomputable def qZ (F:OF) (r:F.C) (hr:0 < r) (hn:∀z:F.C,z * z≠r):OF where
 C:=Ext r
 fld:=Ext.fieldE hn
 le:=inferInstance
 lt:=inferInstance
 llt:=Ext.lltE
 lin:=Ext.linE hn hr
 ord:=Ext.ordE hn hr
noncomputable def ratOF:OF where
 C:=Rat
 fld:=inferInstance
 le:=inferInstance
 lt:=inferInstance
 llt:=inferInstance
 lin:=inferInstance
 ord:=inferInstance
end Mine
namespace Mine
open PySem DL L2
open Lean.Grind
noncomputable def Cy {F:OF} (of:List Int->F.C) (r:List Int) (hr:0 < of r) (hn:∀z:F.C,z * z≠of r):List Int->(qZ F (of r) hr hn).C:=fun x=>(⟨of (oY x),of (pZ x)⟩:Ext (of r))
inductive Tow:(rs:List (List Int))->(F:OF)->(List Int->F.C)->Prop
 | nil:Tow [] ratOF (fun x=>(((x.headD 0:Int):Rat)))
 | cons {rs:List (List Int)} {F:OF} {of:List Int->F.C} (T:Tow rs F of) (r:List Int) (hl:r.length=2 ^ rs.length) (hr:0 < of r) (hn:∀z:F.C,z * z≠of r) :
   Tow (r :: rs) (qZ F (of r) hr hn) (Cy of r hr hn)
section
variable {rs:List (List Int)} {F:OF} {of:List Int->F.C}
end
noncomputable def Nm {F:OF} (of:List Int->F.C) (k n:Nat) (d:D) (v:F.C):Prop :=
 ∃x b,d=num x b/\Nf x b/\x.length=2 ^ k/\Bd n x/\b.natAbs < 2 ^ n/\v=of x / (b:F.C)
section
variable {rs:List (List Int)} {F:OF} {of:List Int->F.C}
theorem Nm.mono {k n m:Nat} {d:D} {v:F.C} (h:Nm of k n d v) (e:n<=m):Nm of k m d v:=by
 obtain ⟨x,b,h1,h2,h3,h4,h5,h6⟩:=h;exact ⟨x,b,h1,h2,h3,h4.mono e,Nat.lt_of_lt_of_le h5 (Nat.pow_le_pow_right (by decide) e),h6⟩
end
abbrev hd0:List Int->ratOF.C:=fun x=>(((x.headD 0:Int):Rat))
section
variable {F:OF} {r:F.C} {hr:0 < r} {hn:∀z:F.C,z * z≠r}
end
end Mine
namespace DL
open PySem PySem.Spec PyProof.Rows L2
end DL
local macro_rules
 | `(tactic| push_cast [$xs,*]) => `(tactic| simp only [DL.ap_seq, DL.sq_nxt, DL.sq_ret, DL.sq_err, DL.ap_set, DL.on_ok, DL.on_err, DL.ont_ok, DL.onl_ok, DL.ap_if, DL.ap_two, DL.ap_bF, DL.ap_bT, DL.ap_bL, DL.ap_cons, DL.ap_lst, DL.ap_ret, DL.ap_expr, DL.ap_notT, DL.ap_orT, DL.ap_for, DL.ap_forR, DL.ap_slice, DL.ap_part, DL.part_int, DL.out_ret, DL.out_err, DL.cmp_ok, DL.add_ok, DL.bool_ok, DL.truth_bl, DL.len_lst, DL.seq_lst, DL.vw_val, DL.vw_arg, DL.eqI, DL.bnd_ok, DL.mulE_i, DL.sl0, DL.st0, DL.sl1, DL.st1, DL.sl2, DL.st2, DL.sl3, DL.st3, DL.sl4, DL.st4, DL.lst1, DL.lst7, DL.ix_lst0, DL.ix_lst1, ↓reduceIte, decide_true, decide_false, Bool.not_true, Bool.not_false, Bool.false_eq_true, Int.reduceEq, Int.reduceNe, Int.reduceLT, Int.reduceLE, Nat.reduceAdd, List.length_cons, List.length_nil, $xs,*])
namespace Mine
open PySem DL L2
open Lean.Grind
section
variable {F:OF} {r:F.C} {hr:0 < r} {hn:∀z:F.C,z * z≠r}
end
section
variable {rs:List (List Int)} {F:OF} {of:List Int->F.C}
end
end Mine
namespace Bk
open PySem PySem.Spec PyProof.Rows L2 DL
noncomputable def is_str:D->Option Bool
 | .non=>some false
 | .bl _=>some false
 | .int _=>some false
 | .str _=>some true
 | .tup _=>some false
 | .lst _=>some false
 | .dct=>some false
 | _=>none
noncomputable def q_ (i:Nat) (δ:DS):Nat:=match δ[i]? with
 | some (some sv)=>(match sv.view with | .int i=>i.natAbs + 1 | _=>0)
 | _=>0
noncomputable def iB:DS->Nat:=q_ 3
noncomputable def sO:DS->Out :=
 (aA (aC 2 (aq (aa (aj 0) (fun _=>.ok [])) jc)) (aA (aC 3 (aq (aa (aj 1) (fun _=>.ok [])) jc)) (aA (lW iB (aB (two (aj 3) (fun _=>.ok (.int 0)) jV) aF) (aA (aC 4 (two (aj 2) (aj 3) bK)) (aA (aC 2 (aj 3)) (aC 3 (aj 4))))) (aH (aj 2)))))
noncomputable def sS:List D->Res D:=bJ 2 5 sO
noncomputable def sU:DS->Out :=
 (aH (ie (aa (two (two (aj 0) (fun _=>.ok (.int 0)) bh) (two (ie (aa (fun _=>.ok (.int 0)) (fun _=>.ok []))) (two (two (fun _=>.ok (.int 1)) (aj 1) lR) (aq (aa (two (aj 0) (fun _=>.ok (.int 0)) bh) (fun _=>.ok [])) bO) lO) gj) aW) (aa (two (aj 0) (fun _=>.ok (.int 1)) bh) (fun _=>.ok [])))))
noncomputable def p7:List D->Res D:=bJ 2 2 sU
noncomputable def sV:DS->Out :=
 (aA (aC 1 (fun _=>.ok (.int 1))) (aA (forR (gw) (aY 2) (aa (aj 0) (fun _=>.ok [])) (aC 1 (two (aj 1) (fun _=>.ok (.int 10)) fj))) (aH (aj 1))))
noncomputable def sW:List D->Res D:=bJ 1 3 sV
end Bk
set_option exponentiation.threshold 300000
namespace Bk
open PySem PySem.Spec PyProof.Rows L2 DL Mine
noncomputable def cell (ns:List Int) (k:Nat):Int:=ns.getD k 0
abbrev Qj:DS->Res Bool:=aB (two (aj 1) (fun _=>.ok (.int 0)) jV) aF
abbrev Qk:DS->Out:=aA (aC 2 (two (aj 0) (aj 1) bK)) (aA (aC 0 (aj 1)) (aC 1 (aj 2)))
abbrev cc:DS->Res Bool:=aB (two (aj 3) (fun _=>.ok (.int 0)) jV) aF
abbrev cb:DS->Out:=(aA (aC 4 (two (aj 2) (aj 3) bK)) (aA (aC 2 (aj 3)) (aC 3 (aj 4))))
theorem Ox {n m:Nat} (e:n<=m):2 ^ n<=2 ^ m:=Nat.pow_le_pow_right (by decide) e
noncomputable def eT (ρ:Nat):Nat->Nat
 | 0=>0
 | k + 1=>2 * eT ρ k + ρ + 1
section
variable {rs:List (List Int)} {F:OF} {of:List Int->F.C} {ρ:Nat}
end
section
variable {F:OF}
end
section
variable {rs:List (List Int)} {F:OF} {of:List Int->F.C} {ρ:Nat}
section
variable {r:F.C} {hr:0 < r} {hn:∀z:F.C,z * z≠r}
end
noncomputable def SOk (ρ:Nat):Nat->Nat->Prop
 | 0,p=>p<=200000
 | k + 1,p=>2 * p + eT ρ (k + 1)<=200000/\SOk ρ k (2 * p + eT ρ (k + 1))
theorem SOk.mono {ρ:Nat}:∀{k p q:Nat},SOk ρ k q->p<=q->SOk ρ k p
 | 0,_,_,h,e=>Nat.le_trans e h
 | k + 1,p,q,⟨h1,h2⟩,e=>⟨by omega,SOk.mono (k:=k) h2 (by omega)⟩
open Classical in
noncomputable def fabs {F:OF} (u:F.C):F.C:=if u < 0 then -u else u
end
noncomputable def Rw {F:OF} (of:List Int->F.C) (k n:Nat) (d:D) (v:F.C):Prop :=
 ∃x b,d=num x b/\0 < b/\x.length=2 ^ k/\Bd n x/\b.natAbs < 2 ^ n/\v=of x / (b:F.C)
section
variable {rs:List (List Int)} {F:OF} {of:List Int->F.C} {ρ:Nat}
theorem _root_.Mine.Nm.rw {k n:Nat} {d:D} {v:F.C} (h:Nm of k n d v):Rw of k n d v:=by
 obtain ⟨x,b,h1,h2,h3,h4,h5,h6⟩:=h;exact ⟨x,b,h1,h2.pos,h3,h4,h5,h6⟩
theorem Rw.mono {k n m:Nat} {d:D} {v:F.C} (h:Rw of k n d v) (e:n<=m):Rw of k m d v:=by
 obtain ⟨x,b,h1,h2,h3,h4,h5,h6⟩:=h;exact ⟨x,b,h1,h2,h3,h4.mono e,Nat.lt_of_lt_of_le h5 (Ox e),h6⟩
end
section
variable {rs:List (List Int)} {F:OF} {of:List Int->F.C} {ρ:Nat}
end
end Bk
namespace Bk
open PySem PySem.Spec PyProof.Rows L2 DL
end Bk
namespace Bk
open PySem PySem.Spec PyProof.Rows L2 DL Mine
theorem Gr {fe:DS->Res D} {rest:DS} {g:Int->Int->Int} {n:Nat}:∀(ts:List Int) (k:Nat),k + ts.length<=n->(∀(i:Nat),i < n->∀t∈ts,fe (some (.val (.int (i:Int))) :: some (.val (.int t)) :: rest)=.ok (.int (g (i:Int) t))) ->
  mapR (eO (bZ [0,1]) fe (none :: none :: rest)) (((ts.map D.int).zipIdx k).map fun p=>D.tup [.int ((p.2:Nat):Int),p.1])=.ok (((ts.zipIdx k).map fun p=>g ((p.2:Nat):Int) p.1).map .int)
 | [],_,_,_=>rfl
 | t :: ts,k,hk,h=>by
  have hk':k + (ts.length + 1)<=n:=hk;have e:eO (bZ [0,1]) fe (none :: none :: rest) (.tup [.int (k:Int),.int t])=.ok (.int (g (k:Int) t)):=by
   show (match fe (some (.val (.int (k:Int))) :: some (.val (.int t)) :: rest) with | .ok z=>Res.ok z | _=>.stuck)=_
   rw [h k (by omega) t (by simp)]
  have ih:=Gr (n:=n) (g:=g) ts (k + 1) (by omega) fun i hi u hu=>h i hi u (List.mem_cons_of_mem _ hu);rw [List.map_cons,List.zipIdx_cons,List.map_cons,List.zipIdx_cons,List.map_cons,List.map_cons];show mapR _ (D.tup [.int (k:Int),.int t] :: _)=_;rw [mapR,e,Res.bind_ok,ih,Res.bind_ok]
theorem Oz {fe:DS->Res D} {fi:DS->Res (List D)} {fr:List Nat} {δ rest:DS} {ts:List Int} {g:Int->Int->Int} (hi:fi δ=.ok (fX (ts.map .int))) (hr:bV 2 fr δ=none :: none :: rest) (hl:ts.length<=sizeLine)
  (h:∀(i:Nat),i < ts.length->∀t∈ts,fe (some (.val (.int (i:Int))) :: some (.val (.int t)) :: rest)=.ok (.int (g (i:Int) t))):bA 2 fr (bZ [0,1]) fe fi δ=.ok (.lst ((ts.zipIdx.map fun p=>g ((p.2:Nat):Int) p.1).map .int)):=by
 unfold bA;rw [hi,Res.bind_ok,hr];have:=Gr (fe:=fe) (rest:=rest) (g:=g) (n:=ts.length) ts 0 (by omega) h;unfold fX;rw [this];unfold gf;rw [Res.bind_ok,if_pos (by rw [List.length_map,List.length_map,List.length_zipIdx]; exact hl)]
section
variable {rs:List (List Int)} {F:OF} {of:List Int->F.C} {ρ:Nat}
end
end Bk
namespace Bk
open PySem PySem.Spec PyProof.Rows L2 DL Mine Lean.Grind
section
variable {F:OF} {r:F.C} {hr:0 < r} {hn:∀z:F.C,z * z≠r}
end
section
variable {rs:List (List Int)} {F:OF} {of:List Int->F.C} {ρ:Nat}
end
section
variable {rs:List (List Int)} {F:OF} {of:List Int->F.C} {ρ:Nat}
end
section
variable {rs:List (List Int)} {F:OF} {of:List Int->F.C} {ρ:Nat}
end
end Bk
namespace K29
open PySem PySem.Spec PyProof.Rows L2 DL Bk Mine Lean.Grind
set_option exponentiation.threshold 300000
noncomputable def g_ (a:Bool):D->Option Bool
 | .exc c=>if c = "NoRow" then some a else none
 | _=>none
theorem iC {K:PySem.W.Frag} {V:Value} {a:Bool} (hX:b7 K V a (.exc "NoRow")):∀d c,g_ a d=some c->b7 K V c d:=by
 intro d c h
 cases d <;> simp only [g_] at h <;> try cases h
 split at h
 ·rename_i e; subst e; cases h; exact hX
 ·cases h
abbrev Gs:D->Option Bool:=g_ false
abbrev Gu:D->Option Bool:=g_ false
abbrev Gv:D->Option Bool:=g_ false
abbrev Gw:D->Option Bool:=g_ false
abbrev Gx:D->Option Bool:=g_ false
abbrev Gy:D->Option Bool:=g_ false
abbrev Gz:D->Option Bool:=g_ true
abbrev GC:D->Option Bool:=g_ false
abbrev GD:D->Option Bool:=g_ false
abbrev GF:D->Option Bool:=g_ false
abbrev GJ:D->Option Bool:=g_ false
abbrev GK:D->Option Bool:=g_ false
abbrev GP:D->Option Bool:=g_ false
abbrev GQ:D->Option Bool:=g_ false
abbrev GR:D->Option Bool:=g_ false
abbrev GX:D->Option Bool:=g_ false
abbrev GZ:D->Option Bool:=g_ false
abbrev G3:D->Option Bool:=g_ false
abbrev G4:D->Option Bool:=g_ true
abbrev G5:D->Option Bool:=g_ true
noncomputable def cj (c:Str):Option Bool:=if c = "NoRow" then some true else none
noncomputable def eX (c:Str):Option Bool:=if c = "NoText" then some true else none
noncomputable def cu:D->Option Bool
 | .obj c _ _=>if c = "FirstPoint" then some true else if (["LineThrough", "RingThrough", "RingBy", "MeetOfLines", "MeetWithRing"]:List Str).contains c then some false else none
 | _=>none
abbrev ca':List D->Res (List D):=Gh
noncomputable def jl (i:Int):D:=.tup [.tup [.int i],.int 1]
noncomputable def dz:D:=.obj "Drawing" ["steps", "scaffold", "kept"] [.lst [.obj "FirstPoint" ["words", "others", "wanted", "x", "y"] [.lst [.str "point",.str "a",.str "1",.str "2"],.lst [],.lst [],jl 1,jl 2]],.tup [],.dic ["a"] [.tup [.str "point",jl 1,jl 2]]]
noncomputable def top (i:Nat):Stmt:=PySem.Challenge.pw_compasshall_k29_no_rows.main.body.getD i (.Pass ⟨0,0,0,0⟩)
abbrev mq:Stmt:=top 21
abbrev my:Stmt:=top 23
abbrev mz:Stmt:=top 31
abbrev mD:Stmt:=top 86
abbrev mF:Stmt:=top 88
abbrev mG:Stmt:=top 89
abbrev mH:Stmt:=top 117
abbrev mJ:Stmt:=top 122
abbrev eN:Stmt:=top 124
abbrev mK:Stmt:=top 125
abbrev jX:Stmt:=top 126
abbrev mL:Stmt:=top 127
abbrev mO:Stmt:=top 128
abbrev jY:Stmt:=bF (top 95) 1
abbrev jZ:Stmt:=bF (top 95) 2
abbrev j0:Stmt:=bF (top 95) 3
abbrev j4:Stmt:=bF (top 95) 4
abbrev jm:Stmt:=bF (top 115) 2
abbrev gU:Stmt:=bF (top 115) 3
abbrev mQ:Stmt:=top 22
abbrev mR:Stmt:=top 85
abbrev mU:Stmt:=top 87
abbrev mV:Stmt:=top 109
abbrev mW:Stmt:=top 123
abbrev mX:Stmt:=top 129
abbrev j5:Stmt:=bF (top 115) 4
abbrev j6:Stmt:=bF (top 96) 1
abbrev mY:Stmt:=top 84
abbrev mZ:Stmt:=top 120
abbrev m8:Stmt:=bF (top 97) 0
abbrev m9:Stmt:=bF (top 98) 0
abbrev m_:Stmt:=bF (top 100) 0
abbrev ni:Stmt:=bF (top 101) 0
abbrev nj:Stmt:=bF (top 115) 0
abbrev nu:Stmt:=top 106
abbrev nA:Stmt:=top 108
abbrev nD:Stmt:=top 110
abbrev nF:Stmt:=top 119
abbrev nG:Stmt:=bF (top 96) 0
abbrev nH:Stmt:=bF (top 99) 0
abbrev nJ:Stmt:=top 105
abbrev nM:Stmt:=top 107
abbrev nO:Stmt:=top 104
abbrev nP:Stmt:=top 103
abbrev iD:Stmt:=bF (top 115) 1
abbrev nQ:Stmt:=top 116
abbrev nR:Stmt:=top 130
abbrev j7:Stmt:=top 131
abbrev if':Stmt:=bF (top 95) 0
theorem OD:FnScope ["self", "words", "others", "wanted"] ["self", "words", "others", "wanted"] (ao if'):=⟨rfl,rfl,rfl,by decide +kernel,rfl,by decide +kernel,by decide +kernel⟩
noncomputable def aU (c:Str):Bool:=(["FirstPoint", "LineThrough", "RingThrough", "RingBy", "MeetOfLines", "MeetWithRing"]:List Str).contains c
noncomputable def isD (c:Str):Bool:=(["Drawing"]:List Str).contains c
noncomputable def aM (c:Str):Bool:=(["FirstPoint"]:List Str).contains c
theorem sc_qa:FnScope ["many", "product", "time"] ["many"] (ao mq):=⟨rfl,rfl,rfl,by decide +kernel,rfl,by decide +kernel,by decide +kernel⟩
theorem sc_qR:FnScope ["a", "b", "one", "other", "rest"] ["a", "b"] (ao my):=⟨rfl,rfl,rfl,by decide +kernel,rfl,by decide +kernel,by decide +kernel⟩
theorem wk:FnScope ["x", "many"] ["x", "many"] (ao mz):=⟨rfl,rfl,rfl,by decide +kernel,rfl,by decide +kernel,by decide +kernel⟩
theorem wu:FnScope ["part"] ["part"] (ao mD):=⟨rfl,rfl,rfl,by decide +kernel,rfl,by decide +kernel,by decide +kernel⟩
theorem sc_qv:FnScope ["n", "piece", "pieces", "rest"] ["n"] (ao mF):=⟨rfl,rfl,rfl,by decide +kernel,rfl,by decide +kernel,by decide +kernel⟩
theorem wy:FnScope ["word"] ["word"] (ao mG):=⟨rfl,rfl,rfl,by decide +kernel,rfl,by decide +kernel,by decide +kernel⟩
theorem sc_qT:FnScope ["drawing", "names", "wanted", "places", "name", "kinds", "place"] ["drawing", "names", "wanted"] (ao mH):=⟨rfl,rfl,rfl,by decide +kernel,rfl,by decide +kernel,by decide +kernel⟩
theorem sc_qN:FnScope ["_law_cell_here", "_law_k", "_law_big", "_law_by", "_law_left"] ["_law_cell_here", "_law_k"] (ao mJ):=⟨rfl,rfl,rfl,by decide +kernel,rfl,by decide +kernel,by decide +kernel⟩
theorem wz:FnScope ["_law_cell_here", "_law_letters", "_law_left", "_law_word", "_law_k"] ["_law_cell_here"] (ao eN):=⟨rfl,rfl,rfl,by decide +kernel,rfl,by decide +kernel,by decide +kernel⟩
theorem sc_qD:FnScope ["_law_e", "_law_some"] ["_law_e"] (ao mK):=⟨rfl,rfl,rfl,by decide +kernel,rfl,by decide +kernel,by decide +kernel⟩
theorem sc_qE:FnScope ["_law_word", "_law_some"] ["_law_word"] (ao jX):=⟨rfl,rfl,rfl,by decide +kernel,rfl,by decide +kernel,by decide +kernel⟩
theorem sc_qw:FnScope ["_law_some"] [] (ao mL):=⟨rfl,rfl,rfl,by decide +kernel,rfl,by decide +kernel,by decide +kernel⟩
theorem sc_qx:FnScope ["_law_some"] [] (ao mO):=⟨rfl,rfl,rfl,by decide +kernel,rfl,by decide +kernel,by decide +kernel⟩
theorem wA:FnScope ["self"] ["self"] (ao jY):=⟨rfl,rfl,rfl,by decide +kernel,rfl,by decide +kernel,by decide +kernel⟩
theorem wB:FnScope ["self"] ["self"] (ao jZ):=⟨rfl,rfl,rfl,by decide +kernel,rfl,by decide +kernel,by decide +kernel⟩
theorem wC:FnScope ["self"] ["self"] (ao j0):=⟨rfl,rfl,rfl,by decide +kernel,rfl,by decide +kernel,by decide +kernel⟩
theorem wD:FnScope ["self"] ["self"] (ao j4):=⟨rfl,rfl,rfl,by decide +kernel,rfl,by decide +kernel,by decide +kernel⟩
theorem sc_qe:FnScope ["self", "first", "alike"] ["self", "first"] (ao jm):=⟨rfl,rfl,rfl,by decide +kernel,rfl,by decide +kernel,by decide +kernel⟩
theorem sc_qo:FnScope ["self", "roots", "places"] ["self", "roots"] (ao gU):=⟨rfl,rfl,rfl,by decide +kernel,rfl,by decide +kernel,by decide +kernel⟩
theorem wF:FnScope ["n", "many"] ["n", "many"] (ao mQ):=⟨rfl,rfl,rfl,by decide +kernel,rfl,by decide +kernel,by decide +kernel⟩
theorem wG:FnScope ["parts"] ["parts"] (ao mR):=⟨rfl,rfl,rfl,by decide +kernel,rfl,by decide +kernel,by decide +kernel⟩
theorem sc_qk:FnScope ["x", "top", "bottom", "ahead", "behind"] ["x"] (ao mU):=⟨rfl,rfl,rfl,by decide +kernel,rfl,by decide +kernel,by decide +kernel⟩
theorem wH:FnScope ["words"] ["words"] (ao mV):=⟨rfl,rfl,rfl,by decide +kernel,rfl,by decide +kernel,by decide +kernel⟩
theorem wI:FnScope ["_law_script", "_law_k"] ["_law_script", "_law_k"] (ao mW):=⟨rfl,rfl,rfl,by decide +kernel,rfl,by decide +kernel,by decide +kernel⟩
theorem sc_qI:FnScope ["_law_cell_here", "_law_odd", "_law_some"] ["_law_cell_here"] (ao mX):=⟨rfl,rfl,rfl,by decide +kernel,rfl,by decide +kernel,by decide +kernel⟩
theorem wJ:FnScope ["self"] ["self"] (ao j5):=⟨rfl,rfl,rfl,by decide +kernel,rfl,by decide +kernel,by decide +kernel⟩
theorem wK:FnScope ["self", "roots", "given"] ["self", "roots", "given"] (ao j6):=⟨rfl,rfl,rfl,by decide +kernel,rfl,by decide +kernel,by decide +kernel⟩
theorem sc_ql:FnScope ["text", "below", "unsigned", "parts", "top", "bottom", "shared"] ["text"] (ao mY):=⟨rfl,rfl,rfl,by decide +kernel,rfl,by decide +kernel,by decide +kernel⟩
theorem wL:FnScope ["wholes"] ["wholes"] (ao mZ):=⟨rfl,rfl,rfl,by decide +kernel,rfl,by decide +kernel,by decide +kernel⟩
theorem wM:FnScope ["self", "name", "one", "other"] ["self", "name", "one", "other"] (ao m8):=⟨rfl,rfl,rfl,by decide +kernel,rfl,by decide +kernel,by decide +kernel⟩
theorem wN:FnScope ["self", "name", "one", "other"] ["self", "name", "one", "other"] (ao m9):=⟨rfl,rfl,rfl,by decide +kernel,rfl,by decide +kernel,by decide +kernel⟩
theorem wO:FnScope ["self", "name", "one", "other"] ["self", "name", "one", "other"] (ao m_):=⟨rfl,rfl,rfl,by decide +kernel,rfl,by decide +kernel,by decide +kernel⟩
theorem wQ:FnScope ["self", "name", "one", "other", "word"] ["self", "name", "one", "other", "word"] (ao ni):=⟨rfl,rfl,rfl,by decide +kernel,rfl,by decide +kernel,by decide +kernel⟩
theorem wR:FnScope ["self"] ["self"] (ao nj):=⟨rfl,rfl,rfl,by decide +kernel,rfl,by decide +kernel,by decide +kernel⟩
theorem wU:FnScope ["words"] ["words"] (ao nu):=⟨rfl,rfl,rfl,by decide +kernel,rfl,by decide +kernel,by decide +kernel⟩
theorem wV:FnScope ["words"] ["words"] (ao nA):=⟨rfl,rfl,rfl,by decide +kernel,rfl,by decide +kernel,by decide +kernel⟩
theorem wW:FnScope ["word"] ["word"] (ao nD):=⟨rfl,rfl,rfl,by decide +kernel,rfl,by decide +kernel,by decide +kernel⟩
theorem sc_qK:FnScope ["new_roots", "place", "under"] ["new_roots", "place"] (ao nF):=⟨rfl,rfl,rfl,by decide +kernel,rfl,by decide +kernel,by decide +kernel⟩
theorem wX:FnScope ["self", "name", "x", "y"] ["self", "name", "x", "y"] (ao nG):=⟨rfl,rfl,rfl,by decide +kernel,rfl,by decide +kernel,by decide +kernel⟩
theorem wY:FnScope ["self", "name", "one", "square"] ["self", "name", "one", "square"] (ao nH):=⟨rfl,rfl,rfl,by decide +kernel,rfl,by decide +kernel,by decide +kernel⟩
theorem sc_qm:FnScope ["words", "x", "y"] ["words"] (ao nJ):=⟨rfl,rfl,rfl,by decide +kernel,rfl,by decide +kernel,by decide +kernel⟩
theorem sc_qs:FnScope ["words", "square"] ["words"] (ao nM):=⟨rfl,rfl,rfl,by decide +kernel,rfl,by decide +kernel,by decide +kernel⟩
theorem wZ:FnScope ["words"] ["words"] (ao nO):=⟨rfl,rfl,rfl,by decide +kernel,rfl,by decide +kernel,by decide +kernel⟩
theorem sc_qQ:FnScope ["thing", "step"] ["thing"] (ao nP):=⟨rfl,rfl,rfl,by decide +kernel,rfl,by decide +kernel,by decide +kernel⟩
theorem sc_qu:FnScope ["self", "thing", "step", "told"] ["self", "thing"] (ao iD):=⟨rfl,rfl,rfl,by decide +kernel,rfl,by decide +kernel,by decide +kernel⟩
theorem sc_qU:FnScope ["rows", "drawing", "row"] ["rows"] (ao nQ):=⟨rfl,rfl,rfl,by decide +kernel,rfl,by decide +kernel,by decide +kernel⟩
theorem sc_qL:FnScope ["_law_way", "_law_thing_here", "_law_drawing", "_law_flags", "_law_e"] ["_law_way", "_law_thing_here", "_law_drawing"] (ao nR):=⟨rfl,rfl,rfl,by decide +kernel,rfl,by decide +kernel,by decide +kernel⟩
theorem sc_law:FnScope ["_law_script", "_law_drawing", "_law_cell_here", "_law_thing_here", "_law_way"] ["_law_script"] (ao j7):=⟨rfl,rfl,rfl,by decide +kernel,rfl,by decide +kernel,by decide +kernel⟩
noncomputable def sY:DS->Out :=
 (aA (cV (jR (aB (two (aj 0) (fun _=>.ok (.str "")) dH) aF) (jR (aB (two (aq (aa (aj 0) (fun _=>.ok [])) bO) (fun _=>.ok (.int 60)) (dY fun i j=>decide (j < i))) aF) (aB (eF "str" dW (aj 0) (aa (fun _=>.ok (.str "0")) (fun _=>.ok []))) aR))) (aH (fun _=>.ok (.bl false))) Out.nxt) (aH (aq (aa (bA 1 [] (aY 0) (two (aj 0) (fun _=>.ok (.str "0123456789")) oU) (bindL (aj 0) aK)) (fun _=>.ok [])) jd)))
noncomputable def p_:List D->Res D:=bJ 1 1 sY
noncomputable def iG:DS->Nat:=q_ 3
noncomputable def sZ:DS->Out :=
 (aA (aC 1 (two (fun _=>.ok (.int 10)) (fun _=>.ok (.int 60)) lQ)) (aA (jA 2 (fun _=>.ok [])) (aA (aC 3 (aj 0)) (aA (lW iG (aB (two (aj 3) (aj 1) (dY fun i j=>decide (j<=i))) aF) (aA (pP 2 (eF "str" gC (aq (aa (two (aj 3) (aj 1) bK) (fun _=>.ok [])) kJ) (aa (fun _=>.ok (.int 60)) (fun _=>.ok [])))) (aC 3 (two (aj 3) (aj 1) bH)))) (aA (pP 2 (aq (aa (aj 3) (fun _=>.ok [])) kJ)) (aH (aq (aj 2) (fD ""))))))))
noncomputable def qi:List D->Res D:=bJ 1 4 sZ
noncomputable def nU:DS->Out :=
 (aA (cV (jR (aB (two (aj 0) (fun _=>.ok (.str "")) dH) aF) (aB (two (aq (aa (aj 0) (fun _=>.ok [])) bO) (fun _=>.ok (.int 6)) (dY fun i j=>decide (j < i))) aF)) (aH (fun _=>.ok (.bl false))) Out.nxt) (aH (aq (aa (bA 1 [] (aY 0) (two (aj 0) (fun _=>.ok (.str "abcdefghijklmnopqrstuvwxyz")) oU) (bindL (aj 0) aK)) (fun _=>.ok [])) jd)))
noncomputable def jn:List D->Res D:=bJ 1 1 nU
noncomputable def tu:DS->Out :=
 (aA (jA 3 (fun _=>.ok [])) (aA (jz (bZ [4,5]) (gF (aa (aj 1) (aa (aj 2) (fun _=>.ok []))) l_) (fun _=>.stuck)) (aH (aj 3))))
noncomputable def nW:List D->Res D:=bJ 3 7 tu
noncomputable def nY:DS->Out :=
 (aA (aC 2 (fun _=>.ok (.int 170141183460469231731687303715884105727))) (aA (aC 3 (two (fun _=>.ok (.int 123457890123456789012345678901234567891)) (two (aj 1) (fun _=>.ok (.int 31415926535897932384626433832795028841)) gj) aW)) (aA (aC 4 (two (two (two (aj 0) (aj 2) bK) (fun _=>.ok (.int 1)) aW) (aj 3) gj)) (aH (two (two (two (aj 4) (aj 2) bK) (fun _=>.ok (.int 98767890123456789012345678901234567)) gj) (aj 2) bK)))))
noncomputable def gW:List D->Res D:=bJ 2 5 nY
noncomputable def nZ:DS->Out :=
 (aA (aC 1 (fun _=>.ok (.str "abcdefghijklmnopqrstuvwxyz"))) (aA (cV (aB (two (two (aj 0) (fun _=>.ok (.int 7)) bK) (fun _=>.ok (.int 3)) dH) aF) (aH (two (aQ (aa (fun _=>.ok (.str "by")) (aa (fun _=>.ok (.str "first")) (aa (fun _=>.ok (.str "second")) (aa (fun _=>.ok (.str "point")) (aa (fun _=>.ok (.str "ring")) (aa (fun _=>.ok (.str "line")) (aa (fun _=>.ok (.str "meet")) (fun _=>.ok []))))))))) (two (two (aj 0) (fun _=>.ok (.int 7)) bH) (fun _=>.ok (.int 7)) bK) bh)) Out.nxt) (aA (aC 2 (two (two (aj 0) (fun _=>.ok (.int 7)) bH) (fun _=>.ok (.int 2147483629)) bK)) (aA (aC 3 (two (aj 1) (two (aj 2) (fun _=>.ok (.int 26)) bK) bh)) (aA (forR (gw) (aY 4) (aa (two (two (aj 2) (fun _=>.ok (.int 26)) bH) (fun _=>.ok (.int 6)) bK) (fun _=>.ok [])) (aA (aC 2 (two (two (two (aj 2) (fun _=>.ok (.int 3)) aW) (fun _=>.ok (.int 48271)) gj) (fun _=>.ok (.int 2147483647)) bK)) (aC 3 (two (aj 3) (two (aj 1) (two (two (aj 2) (fun _=>.ok (.int 8)) bH) (fun _=>.ok (.int 26)) bK) bh) aW)))) (aH (aj 3)))))))
noncomputable def iU:List D->Res D:=bJ 1 5 nZ
noncomputable def tD:DS->Out :=
 (aA (aC 1 (aQ (aa (aq (aj 0) (fO Gs)) (aa (aq (aj 0) (fO Gu)) (aa (aq (aj 0) (fO Gv)) (aa (aq (aj 0) (fO Gw)) (fun _=>.ok []))))))) (aA (aC 1 (two (aj 1) (aQ (aa (aq (aj 0) (fO Gx)) (aa (aq (aj 0) (fO Gy)) (aa (aq (aj 0) (fO Gz)) (aa (aq (aj 0) (fO GC)) (fun _=>.ok [])))))) aW)) (aA (aC 1 (two (aj 1) (aQ (aa (aq (aj 0) (fO GD)) (aa (aq (aj 0) (fO GF)) (aa (aq (aj 0) (fO GJ)) (aa (aq (aj 0) (fO G3)) (fun _=>.ok [])))))) aW)) (aA (aC 1 (two (aj 1) (aQ (aa (aq (aj 0) (fO GK)) (aa (aq (aj 0) (fO GP)) (aa (aq (aj 0) (fO GQ)) (aa (aq (aj 0) (fO GR)) (fun _=>.ok [])))))) aW)) (aH (two (aj 1) (aQ (aa (aq (aj 0) (fO GX)) (aa (aq (aj 0) (fO GZ)) (aa (aq (aj 0) (fO G4)) (aa (aq (aj 0) (fO G5)) (fun _=>.ok [])))))) aW))))))
noncomputable def qj:List D->Res D:=bJ 1 2 tD
noncomputable def tE:DS->Out :=
 (aA (aC 1 (aQ (aa (fun _=>.ok (.str "Below")) (aa (fun _=>.ok (.str "NoText")) (aa (fun _=>.ok (.str "NoOver")) (aa (fun _=>.ok (.str "NoRoom")) (aa (fun _=>.ok (.str "NoLine")) (aa (fun _=>.ok (.str "NoRing")) (aa (fun _=>.ok (.str "NoRow")) (aa (fun _=>.ok (.str "TooMany")) (aa (fun _=>.ok (.str "TooGreat")) (aa (fun _=>.ok (.str "NoClaim")) (fun _=>.ok []))))))))))))) (aA (aC 1 (two (aj 1) (aQ (aa (fun _=>.ok (.str "NoMove")) (aa (fun _=>.ok (.str "NoChange")) (aa (fun _=>.ok (.str "NoAsk")) (aa (fun _=>.ok (.str "NoMeet")) (aa (fun _=>.ok (.str "Twice")) (aa (fun _=>.ok (.str "NoName")) (aa (fun _=>.ok (.str "NoKind")) (aa (fun _=>.ok (.str "NoCarry")) (fun _=>.ok [])))))))))) aW)) (aH (two (bA 1 [0] (aY 0) (two (aj 1) (aj 0) dH) (bindL (aj 1) aK)) (aQ (aa (fun _=>.ok (.bl true)) (aa (fun _=>.ok (.bl true)) (fun _=>.ok [])))) aW))))
noncomputable def ql:List D->Res D:=bJ 1 2 tE
noncomputable def tG:DS->Out :=
 (aA (aC 0 (aQ (aa (fun _=>.ok (.str "")) (aa (fun _=>.ok (.str " ")) (aa (fun _=>.ok (.str "point")) (aa (fun _=>.ok (.str "point N")) (aa (fun _=>.ok (.str "point N 1")) (aa (fun _=>.ok (.str "point N 1 2 3")) (aa (fun _=>.ok (.str "point N 1  2")) (aa (fun _=>.ok (.str "point N 1 2 ")) (aa (fun _=>.ok (.str " point N 1 2")) (fun _=>.ok [])))))))))))) (aA (aC 0 (two (aj 0) (aQ (aa (fun _=>.ok (.str "Point N 1 2")) (aa (fun _=>.ok (.str "point N x 2")) (aa (fun _=>.ok (.str "point N 1 y")) (aa (fun _=>.ok (.str "point N 1/0 2")) (aa (fun _=>.ok (.str "point N 01 2")) (aa (fun _=>.ok (.str "point N 1 +2")) (fun _=>.ok [])))))))) aW)) (aA (aC 0 (two (aj 0) (aQ (aa (fun _=>.ok (.str "point N 1 2/01")) (aa (fun _=>.ok (.str "point N 1 --2")) (aa (fun _=>.ok (.str "point N 1 2/-3")) (aa (fun _=>.ok (.str "point N 1 2/")) (aa (fun _=>.ok (.str "point N 1 /2")) (aa (fun _=>.ok (.str "point N 1.5 2")) (fun _=>.ok [])))))))) aW)) (aH (two (aj 0) (aQ (aa (fun _=>.ok (.str "point N 1 -")) (aa (fun _=>.ok (.str "point N 1/2/3 4")) (aa (fun _=>.ok (.str "point n1 1 2")) (aa (two (fun _=>.ok (.str "point N 1 ")) (two (fun _=>.ok (.str "7")) (fun _=>.ok (.int 61)) kZ) aW) (aa (fun _=>.ok (.str "1 2")) (aa (fun _=>.ok (.str "points N 1 2")) (fun _=>.ok [])))))))) aW)))))
noncomputable def qm:List D->Res D:=bJ 0 1 tG
noncomputable def tK:DS->Out :=
 (aA (aC 0 (aQ (aa (fun _=>.ok (.str "line N a")) (aa (fun _=>.ok (.str "line N a b c")) (aa (fun _=>.ok (.str "line N a 1")) (aa (fun _=>.ok (.str "line N a b first")) (aa (fun _=>.ok (.str "line N A b")) (aa (fun _=>.ok (.str "line N a bcdefgh")) (fun _=>.ok []))))))))) (aA (aC 0 (two (aj 0) (aQ (aa (fun _=>.ok (.str "line n1 a b")) (aa (fun _=>.ok (.str "ring N a")) (aa (fun _=>.ok (.str "ring N a b c")) (aa (fun _=>.ok (.str "ring N a by x")) (aa (fun _=>.ok (.str "ring N a By 3")) (aa (fun _=>.ok (.str "ring N a by 3 4")) (fun _=>.ok [])))))))) aW)) (aA (aC 0 (two (aj 0) (aQ (aa (fun _=>.ok (.str "ring N a b by 3")) (aa (fun _=>.ok (.str "ring N 2 by 3")) (aa (fun _=>.ok (.str "ring N a by 1/0")) (aa (fun _=>.ok (.str "meet N a")) (aa (fun _=>.ok (.str "meet N a b third")) (fun _=>.ok []))))))) aW)) (aA (aC 0 (two (aj 0) (aQ (aa (fun _=>.ok (.str "meet N a b First")) (aa (fun _=>.ok (.str "meet N a b c")) (aa (fun _=>.ok (.str "meet N a b first second")) (aa (fun _=>.ok (.str "meet N a first b")) (aa (fun _=>.ok (.str "mett N a b")) (fun _=>.ok []))))))) aW)) (aA (aC 0 (two (aj 0) (aQ (aa (fun _=>.ok (.str "line  a b")) (aa (fun _=>.ok (.str "N a b")) (aa (fun _=>.ok (.str "ring N a by 3/00")) (aa (two (fun _=>.ok (.str "ring N a by 1/")) (two (fun _=>.ok (.str "3")) (fun _=>.ok (.int 61)) kZ) aW) (aa (fun _=>.ok (.str "line_N a b")) (aa (fun _=>.ok (.str "line N a,b c")) (fun _=>.ok [])))))))) aW)) (aH (aj 0)))))))
noncomputable def qp:List D->Res D:=bJ 0 1 tK
noncomputable def tL:DS->Out :=
 (aH (eF "str" ji (fun _=>.ok (.str " ")) (aa (aq (aj 0) (gk aU "words")) (fun _=>.ok []))))
noncomputable def tM:List D->Res D:=bJ 1 1 tL
noncomputable def tO:DS->Out :=
 (aH (two (aq (aj 0) (gk aU "words")) (fun _=>.ok (.int 1)) bh))
noncomputable def jG:List D->Res D:=bJ 1 1 tO
noncomputable def tQ:DS->Out :=
 (aH (aq (aa (aq (aj 0) (gk aU "others")) (fun _=>.ok [])) gM))
noncomputable def lB:List D->Res D:=bJ 1 1 tQ
noncomputable def tR:DS->Out :=
 (aH (aq (aa (aq (aj 0) (gk aU "wanted")) (fun _=>.ok [])) gM))
noncomputable def n6:List D->Res D:=bJ 1 1 tR
noncomputable def tU:DS->Out :=
 (aA (aC 2 (cD 1 [1] (aY 0) (aB (two (aq (aj 0) (fO cu)) (aj 1) dH) aF) (aj 0) (bindL (aq (aj 0) (gk isD "steps")) aK))) (aH (two (aq (aa (aj 2) (fun _=>.ok [])) bO) (qK (aB (aj 1) aR) (fun _=>.ok (.int 6)) (fun _=>.ok (.int 20))) dH)))
noncomputable def n8:List D->Res D:=bJ 2 3 tU
noncomputable def tV:DS->Out :=
 (fun _=>.stuck)
noncomputable def xf:List D->Res D:=bJ 2 3 tV
noncomputable def tW:DS->Out :=
 (aH (two (aq (aa (aj 0) (fun _=>.ok [])) jc) (aq (aa (aj 1) (fun _=>.ok [])) sW) (dY fun i j=>decide (j<=i))))
noncomputable def tX:List D->Res D:=bJ 2 2 tW
noncomputable def tY:DS->Out :=
 (aA (cV (aB (two (aq (aa (aj 0) (fun _=>.ok [])) bO) (fun _=>.ok (.int 2)) (dY fun i j=>decide (j < i))) aF) (aH (fun _=>.ok (.bl false))) Out.nxt) (aA (cV (kj (aB (two (aq (aa (aj 0) (fun _=>.ok [])) bO) (fun _=>.ok (.int 2)) dH) aF) (fP (aB (aq (aa (two (aj 0) (fun _=>.ok (.int 1)) bh) (fun _=>.ok [])) p_) aR))) (aH (fun _=>.ok (.bl false))) Out.nxt) (aH (yR (two (two (aj 0) (fun _=>.ok (.int 0)) bh) (fun _=>.ok (.str "0")) dH) (aq (aa (two (aj 0) (fun _=>.ok (.int 0)) bh) (fun _=>.ok [])) p_)))))
noncomputable def tZ:List D->Res D:=bJ 1 1 tY
noncomputable def t6:DS->Out :=
 (aA (aC 1 (two (two (aj 0) (fun _=>.ok (.int 0)) bh) (fun _=>.ok (.int 0)) bh)) (aA (aC 2 (two (aj 0) (fun _=>.ok (.int 1)) bh)) (aA (aC 3 (qK (aB (two (aj 1) (fun _=>.ok (.int 0)) (dY fun i j=>decide (i < j))) aF) (fun _=>.ok (.str "-")) (fun _=>.ok (.str "")))) (aA (aC 4 (qK (aB (two (aj 2) (fun _=>.ok (.int 1)) dH) aF) (fun _=>.ok (.str "")) (two (fun _=>.ok (.str "/")) (aq (aa (aj 2) (fun _=>.ok [])) qi) aW))) (aH (two (two (aj 3) (aq (aa (aq (aa (aj 1) (fun _=>.ok [])) jc) (fun _=>.ok [])) qi) aW) (aj 4) aW))))))
noncomputable def lC:List D->Res D:=bJ 1 5 t6
noncomputable def t8:DS->Out :=
 (aH (aq (aa (bA 1 [] (aY 0) (aq (aa (aj 0) (fun _=>.ok [])) jn) (bindL (aj 0) aK)) (fun _=>.ok [])) jd))
noncomputable def jo:List D->Res D:=bJ 1 1 t8
noncomputable def jH:DS->Out :=
 (aA (cV (aB (two (aj 1) (aq (aa (aj 0) (fun _=>.ok [])) bO) (dY fun i j=>decide (i < j))) aF) (aH (two (aj 0) (aj 1) bh)) Out.nxt) (aH (aq (aa (fun _=>.ok (.int 0)) (aa (aj 1) (fun _=>.ok []))) gW)))
noncomputable def jJ:List D->Res D:=bJ 2 2 jH
noncomputable def n_:DS->Out :=
 (aA (aC 1 (aQ (aa (fun _=>.ok .non) (aa (fun _=>.ok (.bl true)) (aa (fun _=>.ok (.bl false)) (aa (fun _=>.ok (.int 7)) (aa (pN (fun _=>.ok (.int 1))) (aa (aQ (fun _=>.ok [])) (aa (aQ (aa (fun _=>.ok (.str "line")) (aa (fun _=>.ok (.str "n")) (aa (fun _=>.ok (.str "a")) (aa (fun _=>.ok (.str "b")) (fun _=>.ok [])))))) (aa (ie (aa (fun _=>.ok (.str "point")) (aa (fun _=>.ok (.str "n")) (aa (fun _=>.ok (.str "1")) (aa (fun _=>.ok (.str "2")) (fun _=>.ok [])))))) (aa (fun _=>.ok .dct) (aa (aQ (aa (fun _=>.ok (.str "point n 1 2")) (fun _=>.ok []))) (fun _=>.ok []))))))))))))) (aA (aC 2 (two (fun _=>qm []) (fun _=>qp []) aW)) (aA (cV (aB (two (two (aj 0) (fun _=>.ok (.int 6)) bK) (fun _=>.ok (.int 5)) dH) aF) (aH (two (aj 1) (two (two (aj 0) (fun _=>.ok (.int 6)) bH) (fun _=>.ok (.int 10)) bK) bh)) Out.nxt) (aH (gR "N" iU (two (aj 2) (two (two (aj 0) (fun _=>.ok (.int 6)) bH) (aq (aa (aj 2) (fun _=>.ok [])) bO) bK) bh) (aa (two (aj 0) (fun _=>.ok (.int 400)) bH) (fun _=>.ok [])))))))
noncomputable def jK:List D->Res D:=bJ 1 3 n_
noncomputable def t_:DS->Out :=
 (aH (bA 1 [] (aY 0) (aq (aj 0) (cF aU "text" tM)) (bindL (aq (aj 0) (gk isD "steps")) aK)))
noncomputable def oh:List D->Res D:=bJ 1 1 t_
noncomputable def uc:DS->Out :=
 (aH (ie (aa (aj 1) (aa (two (fun _=>.ok (.tup ((["point"]:List Str).map .str))) (ie (aa (aq (aa (aq (aj 0) (gk aU "x")) (aa (aq (aa (aj 1) (fun _=>.ok [])) bO) (fun _=>.ok []))) p7) (aa (aq (aa (aq (aj 0) (gk aU "y")) (aa (aq (aa (aj 1) (fun _=>.ok [])) bO) (fun _=>.ok []))) p7) (fun _=>.ok [])))) aW) (fun _=>.ok [])))))
noncomputable def ou:List D->Res D:=bJ 3 3 uc
noncomputable def ud:DS->Out :=
 (aA (aC 1 (eF "str" dW (aj 0) (aa (fun _=>.ok (.str "-")) (fun _=>.ok [])))) (aA (aC 2 (qK (aB (aj 1) aR) (b_ (aj 0) (cz (fun _=>.ok (.int 1))) eU) (aj 0))) (aA (aC 3 (eF "str" dg (aj 2) (aa (fun _=>.ok (.str "/")) (fun _=>.ok [])))) (aA (cV (fP (aB (aq (aa (aj 3) (fun _=>.ok [])) tZ) aR)) (cR "NoText" (aa (gH "this is no fraction: " (aj 0)) (fun _=>.ok []))) Out.nxt) (aA (aC 4 (aq (aa (two (aj 3) (fun _=>.ok (.int 0)) bh) (fun _=>.ok [])) kO)) (aA (aC 5 (qK (aB (two (aq (aa (aj 3) (fun _=>.ok [])) bO) (fun _=>.ok (.int 2)) dH) aF) (aq (aa (two (aj 3) (fun _=>.ok (.int 1)) bh) (fun _=>.ok [])) kO) (fun _=>.ok (.int 1)))) (aA (aC 6 (aq (aa (aj 4) (aa (aj 5) (fun _=>.ok []))) sS)) (aA (cV (aB (aj 1) aR) (aC 4 (pN (aj 4))) Out.nxt) (aH (ie (aa (ie (aa (two (aj 4) (aj 6) bH) (fun _=>.ok []))) (aa (two (aj 5) (aj 6) bH) (fun _=>.ok [])))))))))))))
noncomputable def ue:List D->Res D:=bJ 1 7 ud
noncomputable def uf:DS->Out :=
 (aH (aq (aa (bA 1 [] (aY 0) (aq (aa (aj 0) (aa (fun _=>.ok (.int 300)) (fun _=>.ok []))) tX) (bindL (aj 0) aK)) (fun _=>.ok [])) kY))
noncomputable def qt:List D->Res D:=bJ 1 1 uf
noncomputable def bB:DS->Res (List D) :=
 (aa (aQ (aa (fun _=>.ok (.str "line")) (aa (aj 1) (aa (aj 2) (aa (aj 3) (fun _=>.ok [])))))) (aa (aQ (aa (aj 2) (aa (aj 3) (fun _=>.ok [])))) (aa (aQ (aa (fun _=>.ok (.tup ((["point"]:List Str).map .str))) (aa (fun _=>.ok (.tup ((["point"]:List Str).map .str))) (fun _=>.ok [])))) (fun _=>.ok []))))
noncomputable def Cz:List D->Res D:=eV "LineThrough" ((["words", "others", "wanted"]:List Str) ++ ([]:List (Str×Nat)).map (·.1)) (gI 3 bB (([]:List (Str×Nat)).map (·.2)))
noncomputable def bC:DS->Res (List D) :=
 (aa (aQ (aa (fun _=>.ok (.str "ring")) (aa (aj 1) (aa (aj 2) (aa (aj 3) (fun _=>.ok [])))))) (aa (aQ (aa (aj 2) (aa (aj 3) (fun _=>.ok [])))) (aa (aQ (aa (fun _=>.ok (.tup ((["point"]:List Str).map .str))) (aa (fun _=>.ok (.tup ((["point"]:List Str).map .str))) (fun _=>.ok [])))) (fun _=>.ok []))))
noncomputable def CG:List D->Res D:=eV "RingThrough" ((["words", "others", "wanted"]:List Str) ++ ([]:List (Str×Nat)).map (·.1)) (gI 3 bC (([]:List (Str×Nat)).map (·.2)))
noncomputable def bD:DS->Res (List D) :=
 (aa (aQ (aa (fun _=>.ok (.str "meet")) (aa (aj 1) (aa (aj 2) (aa (aj 3) (fun _=>.ok [])))))) (aa (aQ (aa (aj 2) (aa (aj 3) (fun _=>.ok [])))) (aa (aQ (aa (fun _=>.ok (.tup ((["line"]:List Str).map .str))) (aa (fun _=>.ok (.tup ((["line"]:List Str).map .str))) (fun _=>.ok [])))) (fun _=>.ok []))))
noncomputable def CJ:List D->Res D:=eV "MeetOfLines" ((["words", "others", "wanted"]:List Str) ++ ([]:List (Str×Nat)).map (·.1)) (gI 3 bD (([]:List (Str×Nat)).map (·.2)))
noncomputable def bu:DS->Res (List D) :=
 (aa (aQ (aa (fun _=>.ok (.str "meet")) (aa (aj 1) (aa (aj 2) (aa (aj 3) (aa (aj 4) (fun _=>.ok []))))))) (aa (aQ (aa (aj 2) (aa (aj 3) (fun _=>.ok [])))) (aa (aQ (aa (fun _=>.ok (.tup ((["line", "ring"]:List Str).map .str))) (aa (fun _=>.ok (.tup ((["ring"]:List Str).map .str))) (fun _=>.ok [])))) (fun _=>.ok []))))
noncomputable def CK:List D->Res D:=eV "MeetWithRing" ((["words", "others", "wanted"]:List Str) ++ ([("word",3)]:List (Str×Nat)).map (·.1)) (gI 4 bu (([("word",3)]:List (Str×Nat)).map (·.2)))
noncomputable def xg:List D->Res D:=eV "Drawing" ["steps", "scaffold", "kept"] ca'
noncomputable def ug:DS->Out :=
 (aA (cV (jR (aB (two (aq (aa (aj 0) (fun _=>.ok [])) bO) (fun _=>.ok (.int 4)) jV) aF) (fP (aB (aq (aa (b_ (aj 0) (cz (fun _=>.ok (.int 2))) eU) (fun _=>.ok [])) jo) aR))) (aH (fun _=>.ok .non)) Out.nxt) (aH (aq (aa (two (aj 0) (fun _=>.ok (.int 1)) bh) (aa (two (aj 0) (fun _=>.ok (.int 2)) bh) (aa (two (aj 0) (fun _=>.ok (.int 3)) bh) (fun _=>.ok [])))) Cz)))
noncomputable def qu:List D->Res D:=bJ 1 1 ug
noncomputable def uh:DS->Out :=
 (aA (cV (kj (aB (two (aq (aa (aj 0) (fun _=>.ok [])) bO) (fun _=>.ok (.int 4)) dH) aF) (aB (aq (aa (b_ (aj 0) (cz (fun _=>.ok (.int 2))) eU) (fun _=>.ok [])) jo) aR)) (aH (aq (aa (two (aj 0) (fun _=>.ok (.int 1)) bh) (aa (two (aj 0) (fun _=>.ok (.int 2)) bh) (aa (two (aj 0) (fun _=>.ok (.int 3)) bh) (fun _=>.ok [])))) CJ)) Out.nxt) (aA (cV (jR (aB (two (aq (aa (aj 0) (fun _=>.ok [])) bO) (fun _=>.ok (.int 5)) jV) aF) (jR (fP (aB (aq (aa (b_ (aj 0) (cz (fun _=>.ok (.int 2))) (cz (fun _=>.ok (.int 4)))) (fun _=>.ok [])) jo) aR)) (aB (two (two (aj 0) (fun _=>.ok (.int 4)) bh) (ie (aa (fun _=>.ok (.str "first")) (aa (fun _=>.ok (.str "second")) (fun _=>.ok [])))) gP) aF))) (aH (fun _=>.ok .non)) Out.nxt) (aH (aq (aa (two (aj 0) (fun _=>.ok (.int 1)) bh) (aa (two (aj 0) (fun _=>.ok (.int 2)) bh) (aa (two (aj 0) (fun _=>.ok (.int 3)) bh) (aa (two (aj 0) (fun _=>.ok (.int 4)) bh) (fun _=>.ok []))))) CK))))
noncomputable def qw:List D->Res D:=bJ 1 1 uh
noncomputable def um:DS->Out :=
 (gQ eX (aH (aq (aa (aj 0) (fun _=>.ok [])) ue)) (aH (fun _=>.ok .non)))
noncomputable def lD:List D->Res D:=bJ 1 1 um
noncomputable def uo:DS->Out :=
 (aA (jz (aY 2) (bindL (aj 0) aK) (cV (aB (aq (aa (aj 2) (fun _=>.ok [])) qt) aR) (aH (fun _=>.ok (.bl true))) Out.nxt)) (aH (aq (aa (bA 1 [] (aY 0) (aq (aa (two (two (aj 0) (fun _=>.ok (.int 0)) bh) (ie (aa (two (aj 0) (fun _=>.ok (.int 1)) bh) (fun _=>.ok []))) aW) (fun _=>.ok [])) qt) (bindL (b_ (aj 1) (cz (fun _=>.ok (.int 1))) eU) aK)) (fun _=>.ok [])) kY)))
noncomputable def oA:List D->Res D:=bJ 2 3 uo
noncomputable def bG:DS->Res (List D) :=
 (aa (aQ (aa (fun _=>.ok (.str "point")) (aa (aj 1) (aa (aq (aa (aj 2) (fun _=>.ok [])) lC) (aa (aq (aa (aj 3) (fun _=>.ok [])) lC) (fun _=>.ok [])))))) (aa (aQ (fun _=>.ok [])) (aa (aQ (fun _=>.ok [])) (fun _=>.ok []))))
noncomputable def CN:List D->Res D:=eV "FirstPoint" ((["words", "others", "wanted"]:List Str) ++ ([("x",1),("y",2)]:List (Str×Nat)).map (·.1)) (gI 3 bG (([("x",1),("y",2)]:List (Str×Nat)).map (·.2)))
noncomputable def cJ:DS->Res (List D) :=
 (aa (aQ (aa (fun _=>.ok (.str "ring")) (aa (aj 1) (aa (aj 2) (aa (fun _=>.ok (.str "by")) (aa (aq (aa (aj 3) (fun _=>.ok [])) lC) (fun _=>.ok []))))))) (aa (aQ (aa (aj 2) (fun _=>.ok []))) (aa (aQ (aa (fun _=>.ok (.tup ((["point"]:List Str).map .str))) (fun _=>.ok []))) (fun _=>.ok []))))
noncomputable def CP:List D->Res D:=eV "RingBy" ((["words", "others", "wanted"]:List Str) ++ ([("square",2)]:List (Str×Nat)).map (·.1)) (gI 3 cJ (([("square",2)]:List (Str×Nat)).map (·.2)))
noncomputable def uq:DS->Out :=
 (aA (cV (aB (two (aq (aa (aj 0) (fun _=>.ok [])) bO) (fun _=>.ok (.int 4)) jV) aF) (aH (fun _=>.ok .non)) Out.nxt) (aA (aC 1 (aq (aa (two (aj 0) (fun _=>.ok (.int 2)) bh) (fun _=>.ok [])) lD)) (aA (aC 2 (aq (aa (two (aj 0) (fun _=>.ok (.int 3)) bh) (fun _=>.ok [])) lD)) (aA (cV (jR (aB (two (aj 1) (fun _=>.ok .non) cg) aF) (aB (two (aj 2) (fun _=>.ok .non) cg) aF)) (aH (fun _=>.ok .non)) Out.nxt) (aH (aq (aa (two (aj 0) (fun _=>.ok (.int 1)) bh) (aa (aj 1) (aa (aj 2) (fun _=>.ok [])))) CN))))))
noncomputable def qx:List D->Res D:=bJ 1 3 uq
noncomputable def ur:DS->Out :=
 (aA (cV (kj (aB (two (aq (aa (aj 0) (fun _=>.ok [])) bO) (fun _=>.ok (.int 4)) dH) aF) (aB (aq (aa (b_ (aj 0) (cz (fun _=>.ok (.int 2))) eU) (fun _=>.ok [])) jo) aR)) (aH (aq (aa (two (aj 0) (fun _=>.ok (.int 1)) bh) (aa (two (aj 0) (fun _=>.ok (.int 2)) bh) (aa (two (aj 0) (fun _=>.ok (.int 3)) bh) (fun _=>.ok [])))) CG)) Out.nxt) (aA (cV (jR (aB (two (aq (aa (aj 0) (fun _=>.ok [])) bO) (fun _=>.ok (.int 5)) jV) aF) (jR (fP (aB (aq (aa (two (aj 0) (fun _=>.ok (.int 2)) bh) (fun _=>.ok [])) jn) aR)) (aB (two (two (aj 0) (fun _=>.ok (.int 3)) bh) (fun _=>.ok (.str "by")) jV) aF))) (aH (fun _=>.ok .non)) Out.nxt) (aA (aC 1 (aq (aa (two (aj 0) (fun _=>.ok (.int 4)) bh) (fun _=>.ok [])) lD)) (aA (cV (aB (two (aj 1) (fun _=>.ok .non) cg) aF) (aH (fun _=>.ok .non)) Out.nxt) (aH (aq (aa (two (aj 0) (fun _=>.ok (.int 1)) bh) (aa (two (aj 0) (fun _=>.ok (.int 2)) bh) (aa (aj 1) (fun _=>.ok [])))) CP))))))
noncomputable def qy:List D->Res D:=bJ 1 2 ur
noncomputable def oE:DS->Out :=
 (aA (cV (jR (aB (two (aq (aa (aj 0) (fun _=>.ok [])) bO) (fun _=>.ok (.int 4)) (dY fun i j=>decide (i < j))) aF) (fP (aB (aq (aa (two (aj 0) (fun _=>.ok (.int 1)) bh) (fun _=>.ok [])) jn) aR))) (aH (fun _=>.ok .non)) Out.nxt) (aA (cV (aB (two (two (aj 0) (fun _=>.ok (.int 0)) bh) (fun _=>.ok (.str "point")) dH) aF) (aH (aq (aa (aj 0) (fun _=>.ok [])) qx)) Out.nxt) (aA (cV (aB (two (two (aj 0) (fun _=>.ok (.int 0)) bh) (fun _=>.ok (.str "line")) dH) aF) (aH (aq (aa (aj 0) (fun _=>.ok [])) qu)) Out.nxt) (aA (cV (aB (two (two (aj 0) (fun _=>.ok (.int 0)) bh) (fun _=>.ok (.str "ring")) dH) aF) (aH (aq (aa (aj 0) (fun _=>.ok [])) qy)) Out.nxt) (aA (cV (aB (two (two (aj 0) (fun _=>.ok (.int 0)) bh) (fun _=>.ok (.str "meet")) dH) aF) (aH (aq (aa (aj 0) (fun _=>.ok [])) qw)) Out.nxt) (aH (fun _=>.ok .non)))))))
noncomputable def jq:List D->Res D:=bJ 1 1 oE
noncomputable def oF:DS->Out :=
 (aA (cV (fP (aB (aq (aj 0) (fO Bk.is_str)) aR)) (cR "NoRow" (aa (fun _=>.ok (.str "a row is a text")) (fun _=>.ok []))) Out.nxt) (aA (aC 1 (aq (aa (eF "str" dg (aj 0) (aa (fun _=>.ok (.str " ")) (fun _=>.ok []))) (fun _=>.ok [])) jq)) (aA (cV (aB (two (aj 1) (fun _=>.ok .non) cg) aF) (cR "NoRow" (aa (gH "this is no row: " (aj 0)) (fun _=>.ok []))) Out.nxt) (aH (aj 1)))))
noncomputable def d9:List D->Res D:=bJ 1 2 oF
noncomputable def oG:DS->Out :=
 (aA (aC 2 (aq (aa (aj 1) (fun _=>.ok [])) d9)) (fun _=>.stuck))
noncomputable def d_:List D->Res D:=bJ 2 4 oG
noncomputable def oH:DS->Out :=
 (aA (aC 1 (fun _=>xg [])) (aA (jW (aY 2) (bindL (aj 0) aK) (dj (dO isD "add" d_ (aj 1) (aa (aj 2) (fun _=>.ok []))))) (aH (aj 1))))
noncomputable def lE:List D->Res D:=bJ 1 3 oH
noncomputable def oJ:DS->Out :=
 (aA (aC 3 (fun _=>.ok .non)) (aA (fM 4 cj (cV (aB (two (aj 0) (fun _=>.ok (.int 0)) dH) aF) (dj (aq (aa (aj 1) (fun _=>.ok [])) d9)) (cV (aB (two (aj 0) (fun _=>.ok (.int 1)) dH) aF) (dj (dO isD "add" d_ (aj 2) (aa (aj 1) (fun _=>.ok [])))) (dj (aq (aa (aQ (aa (aj 1) (fun _=>.ok []))) (fun _=>.ok [])) lE)))) (aC 3 (aq (aa (aj 4) (fun _=>.ok [])) (dN qj)))) (aH (two (aj 3) (aq (aa (fun _=>.ok (.str "NoRow")) (fun _=>.ok [])) ql) dH))))
noncomputable def jL:List D->Res D:=bJ 3 5 oJ
noncomputable def jr:DS->Out :=
 (aA (aC 0 (bA 2 [] (bZ [0,1]) (aq (aa (aj 1) (aa (aj 0) (fun _=>.ok []))) gW) (gF (aa (aj 0) (fun _=>.ok [])) iz))) (mj 1 dz (aA (jz (aY 2) (bindL (two (aQ (aa (aq (aa (aj 0) (aa (fun _=>.ok (.int 0)) (fun _=>.ok []))) jJ) (fun _=>.ok []))) (b_ (aj 0) (cz (fun _=>.ok (.int 1))) (cz (fun _=>.ok (.int 63)))) aW) aK) (aA (aC 3 (aq (aa (aj 2) (fun _=>.ok [])) jK)) (aA (forR (gw) (aY 4) (aa (fun _=>.ok (.int 3)) (fun _=>.ok [])) (cV (fP (aB (aq (aa (two (two (aj 4) (aj 2) aW) (fun _=>.ok (.int 3)) bK) (aa (aj 3) (aa (aj 1) (fun _=>.ok [])))) jL) aR)) (aH (fun _=>.ok (.bl false))) Out.nxt)) (cV (aB (two (aq (aj 1) (cF isD "rows" (eG oh))) (aQ (aa (fun _=>.ok (.str "point a 1 2")) (fun _=>.ok []))) jV) aF) (aH (fun _=>.ok (.bl false))) Out.nxt)))) (aH (fun _=>.ok (.bl true))))))
noncomputable def gY:List D->Res D:=bJ 1 5 jr
noncomputable def oK (P:Program) (w:World) (K:PySem.W.Frag) (mg:Str->Option Value) (base:Heap):Prop:=∀(f:Addr) (cdv:Value) (A:Around) (outer:List Env) (s:Shared) (H:Hp) (E:XK),Room 10 (A.deeper (envOfC "law" (ao j7) s.heap.objs.size f cdv))->∀{rest:List Stmt} {fr:DS->Out},PSDs (bN (cA P w) P w K mg base ["_law_script", "_law_drawing", "_law_cell_here", "_law_thing_here", "_law_way"] "law" (ao j7) f cdv A outer s H E) rest fr->PSDs (bN (cA P w) P w K mg base ["_law_script", "_law_drawing", "_law_cell_here", "_law_thing_here", "_law_way"] "law" (ao j7) f cdv A outer s H E) ((aD j7).getD 1 (.Pass ⟨0,0,0,0⟩) :: (aD j7).getD 2 (.Pass ⟨0,0,0,0⟩) :: rest) (mj 1 dz fr)
structure Adr where
 c_a:Addr
 c_b:Addr
 c_c:Addr
 c_d:Addr
 c_e:Addr
 c_f:Addr
 c_g:Addr
 c_h:Addr
 c_i:Addr
 c_j:Addr
 c_k:Addr
 c_l:Addr
 c_m:Addr
 c_n:Addr
 c_o:Addr
 c_p:Addr
 c_q:Addr
 c_r:Addr
 c_s:Addr
 c_t:Addr
 c_u:Addr
 c_v:Addr
 c_w:Addr
 c_x:Addr
 c_y:Addr
 c_z:Addr
 c_Drawing:Addr
structure Txt (K:PySem.W.Frag) (mg:Str->Option Value) (a:Adr):Prop where
 m_a:mg "HallError" = some (.ref a.c_a)
 m_b:mg "Below" = some (.ref a.c_b)
 m_c:mg "NoText" = some (.ref a.c_c)
 n_c:PySem.W.nsIn K mainGlobals "NoText" = some (some (.ref a.c_c))
 x_c:PySem.W.excIn K a.c_c [.type "ValueError",.type "Exception",.type "BaseException",.type "object"] "ValueError.__new__" = true
 m_d:mg "NoOver" = some (.ref a.c_d)
 m_e:mg "NoRoom" = some (.ref a.c_e)
 m_f:mg "NoLine" = some (.ref a.c_f)
 m_g:mg "NoRing" = some (.ref a.c_g)
 m_h:mg "NoRow" = some (.ref a.c_h)
 n_h:PySem.W.nsIn K mainGlobals "NoRow" = some (some (.ref a.c_h))
 x_h:PySem.W.excIn K a.c_h [.type "ValueError",.type "Exception",.type "BaseException",.type "object"] "ValueError.__new__" = true
 m_i:mg "TooMany" = some (.ref a.c_i)
 m_j:mg "TooGreat" = some (.ref a.c_j)
 m_k:mg "NoClaim" = some (.ref a.c_k)
 m_l:mg "NoMove" = some (.ref a.c_l)
 m_m:mg "NoChange" = some (.ref a.c_m)
 m_n:mg "NoAsk" = some (.ref a.c_n)
 m_o:mg "NoMeet" = some (.ref a.c_o)
 m_p:mg "Twice" = some (.ref a.c_p)
 m_q:mg "NoName" = some (.ref a.c_q)
 m_r:mg "NoKind" = some (.ref a.c_r)
 m_s:mg "NoCarry" = some (.ref a.c_s)
 m_t:mg "Step" = some (.ref a.c_t)
 m_u:mg "FirstPoint" = some (.ref a.c_u)
 m_v:mg "LineThrough" = some (.ref a.c_v)
 m_w:mg "RingThrough" = some (.ref a.c_w)
 m_x:mg "RingBy" = some (.ref a.c_x)
 m_y:mg "MeetOfLines" = some (.ref a.c_y)
 m_z:mg "MeetWithRing" = some (.ref a.c_z)
 m_Drawing:mg "Drawing" = some (.ref a.c_Drawing)
 m_FIGURES:∃t:Tok,mg "FIGURES" = some (.str "0123456789" t)
 m_MOST_FIGURES:∃t:Tok,mg "MOST_FIGURES" = some (.int 60 t)
 m_LETTERS:∃t:Tok,mg "LETTERS" = some (.str "abcdefghijklmnopqrstuvwxyz" t)
 m_MOST_LETTERS:∃t:Tok,mg "MOST_LETTERS" = some (.int 6 t)
 m_POINT:GT K mg "POINT" ["point"]
 m_LINE:GT K mg "LINE" ["line"]
 m_RING:GT K mg "RING" ["ring"]
 m_LINE_OR_RING:GT K mg "LINE_OR_RING" ["line", "ring"]
 m_MOST_POINTS:∃t:Tok,mg "MOST_POINTS" = some (.int 6 t)
 m_MOST_OTHERS:∃t:Tok,mg "MOST_OTHERS" = some (.int 20 t)
 m_MOST_FIGURES_TOLD:∃t:Tok,mg "MOST_FIGURES_TOLD" = some (.int 300 t)
 s_c:∀x C,PySem.W.nsIn K mainGlobals x=some (some (.ref C))->eX x=some true->PySem.W.exmOne K (.ref C) (.ref a.c_c)=some true
 s_a:∀x C,PySem.W.nsIn K mainGlobals x=some (some (.ref C))->cj x=some true->PySem.W.exmOne K (.ref C) (.ref a.c_a)=some true
 i_ValueError:∀d b,G5 d=some b->b7 K (.type "ValueError") b d
 i_a:∀d b,G4 d=some b->b7 K (.ref a.c_a) b d
 i_s:∀d b,GZ d=some b->b7 K (.ref a.c_s) b d
 i_r:∀d b,GX d=some b->b7 K (.ref a.c_r) b d
 i_q:∀d b,GR d=some b->b7 K (.ref a.c_q) b d
 i_p:∀d b,GQ d=some b->b7 K (.ref a.c_p) b d
 i_o:∀d b,GP d=some b->b7 K (.ref a.c_o) b d
 i_n:∀d b,GK d=some b->b7 K (.ref a.c_n) b d
 i_m:∀d b,G3 d=some b->b7 K (.ref a.c_m) b d
 i_l:∀d b,GJ d=some b->b7 K (.ref a.c_l) b d
 i_k:∀d b,GF d=some b->b7 K (.ref a.c_k) b d
 i_j:∀d b,GD d=some b->b7 K (.ref a.c_j) b d
 i_i:∀d b,GC d=some b->b7 K (.ref a.c_i) b d
 i_h:∀d b,Gz d=some b->b7 K (.ref a.c_h) b d
 i_g:∀d b,Gy d=some b->b7 K (.ref a.c_g) b d
 i_f:∀d b,Gx d=some b->b7 K (.ref a.c_f) b d
 i_e:∀d b,Gw d=some b->b7 K (.ref a.c_e) b d
 i_d:∀d b,Gv d=some b->b7 K (.ref a.c_d) b d
 i_c:∀d b,Gu d=some b->b7 K (.ref a.c_c) b d
 i_b:∀d b,Gs d=some b->b7 K (.ref a.c_b) b d
 i_u:∀d b,cu d=some b->b7 K (.ref a.c_u) b d
 i_str:∀d b,Bk.is_str d=some b->b7 K (.type "str") b d
 z_ValueError:mg "ValueError" = none
 z_abs:mg "abs" = none
 z_all:mg "all" = none
 z_any:mg "any" = none
 z_dict:mg "dict" = none
 z_enumerate:mg "enumerate" = none
 z_int:mg "int" = none
 z_isinstance:mg "isinstance" = none
 z_len:mg "len" = none
 z_list:mg "list" = none
 z_range:mg "range" = none
 z_reversed:mg "reversed" = none
 z_str:mg "str" = none
 z_zip:mg "zip" = none
 o_words:pU K aU "words"
 o_others:pU K aU "others"
 o_wanted:pU K aU "wanted"
 o_steps:pU K isD "steps"
 o_y:pU K aU "y"
 o_x:pU K aU "x"
 o_kept:pU K isD "kept"
 o_scaffold:pU K isD "scaffold"
theorem G6 {a b:List Nat} (h:a.length + b.length<=1000):aW (.str (sT a)) (.str (sT b))=.ok (.str (sT (a ++ b))):=by
 have e:∀l:List Nat,(sT l).length=l.length:=fun l=>by show l.toArray.size=_; simp
 show (if (sT a).length + (sT b).length<=sizeLine then Res.ok (D.str (sT a ++ sT b)) else .stuck)=_
 rw [e,e,if_pos (Nat.le_trans h (by decide)),Cm]
theorem lit_none:("" : Str)=sT []:=rfl
theorem G7 {l:List Nat} (h:∀c∈l,c < 128):PyData.strOk (sT l)=true:=by
 unfold PyData.strOk;rw [Array.all_eq_true'];intro c hc;have:=h c (by simpa using hc);exact decide_eq_true (by omega)
theorem G8 {a b:List Nat} (h:sT a=sT b):a=b:=by
 have:=congrArg (fun z:Str=>z.cps.toList) h;simpa using this
theorem OJ {a b:List Nat} (ha:∀c∈a,c < 128) (hb:∀c∈b,c < 128):dH (.str (sT a)) (.str (sT b))=.ok (.bl (decide (a=b))):=by
 unfold dH;rw [if_pos ⟨G7 ha,G7 hb⟩]
 congr 2
 show decide (sT a=sT b)=decide (a=b)
 by_cases h:a=b
 ·rw [h]; simp
 ·have h':¬(sT a=sT b):=fun z=>h (G8 z);rw [decide_eq_false h,decide_eq_false h']
theorem O1 {l:List Nat} (h:l.length<=1000):bO [.str (sT l)]=.ok (.int (l.length:Nat)):=by
 have e:(sT l).length=l.length:=by show l.toArray.size=_; simp
 show (if (sT l).length<=sizeLine then Res.ok (D.int ((sT l).length:Nat)) else .stuck)=_
 rw [e,if_pos (Nat.le_trans h (by decide))]
theorem G9 {fe:DS->Res D} {rest:DS} {g:Nat->D}:∀(l:List Nat),(∀c∈l,fe (some (.val (.str (sT [c]))) :: rest)=.ok (g c))->mapR (eO (aY 0) fe (none :: rest)) (l.map fun c=>.str (sT [c]))=.ok (l.map g)
 | [],_=>rfl
 | t :: ts,h=>by
  have e:eO (aY 0) fe (none :: rest) (.str (sT [t]))=.ok (g t):=by
   show (match fe (some (.val (.str (sT [t]))) :: rest) with | .ok x=>Res.ok x | _=>.stuck)=_
   rw [h t (by simp)]
  rw [List.map_cons,mapR,e,Res.bind_ok,G9 ts (fun u hu=>h u (List.mem_cons_of_mem _ hu)),Res.bind_ok]; rfl
theorem O2 {l:List Nat} (h:∀c∈l,c < 128):aK (.str (sT l))=.ok (l.map fun c=>.str (sT [c])):=by
 have e:((sT l).cps.all fun c=>decide (c < 128))=true:=by
  rw [Array.all_eq_true'];intro c hc;exact decide_eq_true (h c (by simpa using hc))
 show (if ((sT l).cps.all fun c=>decide (c < 128))=true then Res.ok (dM (sT l)) else .stuck)=_
 rw [if_pos e];unfold dM;rw [oZ]
theorem G_:(" " : Str)=sT [32]:=rfl
theorem CQ {c:Nat}:∀{rest ws:List (List Nat)} {x w:List Nat},c∉x->c∉w->(∀p∈rest,c∉p)->(∀p∈ws,c∉p)->x ++ rest.flatMap (fun p=>c :: p)=w ++ ws.flatMap (fun p=>c :: p)->x=w/\rest=ws
 | [],[],x,w,_,_,_,_,e=>⟨by simpa using e,rfl⟩
 | [],q :: ws,x,w,hx,_,_,_,e=>by
  exfalso;rw [List.flatMap_nil,List.append_nil,List.flatMap_cons,List.cons_append] at e;exact hx (by rw [e]; simp)
 | p :: rest,[],x,w,_,hw,_,_,e=>by
  exfalso;rw [List.flatMap_nil,List.append_nil,List.flatMap_cons,List.cons_append] at e;exact hw (by rw [<- e]; simp)
 | p :: rest,q :: ws,x,w,hx,hw,hr,hs,e=>by
  rw [List.flatMap_cons,List.flatMap_cons,List.cons_append,List.cons_append] at e;obtain ⟨e1,e2⟩:=sH hx hw e;obtain ⟨e3,e4⟩:=CQ (hr p (by simp)) (hs q (by simp)) (fun r h=>hr r (by simp [h])) (fun r h=>hs r (by simp [h])) e2;exact ⟨e1,by rw [e3,e4]⟩
noncomputable def J:List (List Nat)->List Nat
 | []=>[]
 | w :: r=>w ++ r.flatMap fun p=>32 :: p
abbrev tx (w:List Nat):D:=.str (sT w)
abbrev cY (ws:List (List Nat)):List D:=ws.map tx
theorem O3 {w:List Nat} {r:List (List Nat)} (h:∀p∈w :: r,32∉p) (hne:w≠[]):Txt.split (sT (J (w :: r))) (sT [32])=(w :: r).map sT:=by
 have j:=StrLaws.join_split (sT (J (w :: r))) (sT [32]);have f:=StrLaws.split_free (sT (J (w :: r))) 32
 cases q:Txt.split (sT (J (w :: r))) (sT [32]) with
 | nil =>
  rw [q] at j;exfalso;have:(sT (J (w :: r))).cps.toList=[]:=by rw [<- j]; rfl
  rw [oZ] at this;exact hne (List.append_eq_nil_iff.mp this).1
 | cons x rest =>
  have fx:(32:Nat)∉x.cps.toList:=f x (by show x∈Txt.split (sT (J (w :: r))) (sT [32]); rw [q]; simp);have fr:∀p∈rest.map (fun p:Str=>p.cps.toList),(32:Nat)∉p:=fun p hp=>by
   obtain ⟨p',hp',rfl⟩:=List.mem_map.mp hp;exact f p' (by show p'∈Txt.split (sT (J (w :: r))) (sT [32]); rw [q]; exact List.mem_cons_of_mem _ hp')
  rw [q] at j;have e:=congrArg (fun z:Str=>z.cps.toList) j;dsimp only at e;rw [Mine.join_list,oZ] at e;have e':x.cps.toList ++ (rest.map (fun p:Str=>p.cps.toList)).flatMap (fun p=>32 :: p)=w ++ r.flatMap fun p=>32 :: p:=by
   rw [List.flatMap_map]; exact e
  obtain ⟨e1,e2⟩:=CQ fx (h w (by simp)) fr (fun p hp=>h p (by simp [hp])) e';rw [List.map_cons,uM e1,<- e2,List.map_map]
  congr 1
  clear e e' e2 fr j q
  induction rest with
  | nil=>rfl
  | cons p rest ih=>rw [List.map_cons,<- ih]; congr 1
noncomputable def fY (ws:List (List Nat)):Nat:=(ws.map List.length).sum
theorem xj (l:List Nat):(sT l).length=l.length:=by show l.toArray.size=_; simp
theorem Hc:∀ws:List (List Nat),(J ws).length<=fY ws + ws.length
 | []=>Nat.zero_le _
 | w :: r=>by
  have:∀r:List (List Nat),(r.flatMap fun p=>32 :: p).length=fY r + r.length:=by
   intro r
   induction r with
   | nil=>rfl
   | cons p r ih=>rw [List.flatMap_cons,List.length_append,ih]; simp [fY]; omega
  rw [J,List.length_append,this];simp [fY]; omega
theorem O4 {ws:List (List Nat)} (h:∀p∈ws,32∉p) (hne:∃w r,ws=w :: r/\w≠[]) (hl:fY ws + ws.length<=1000):dg (tx (J ws)) [.str " "]=.ok (.lst (cY ws)):=by
 obtain ⟨w,r,rfl,hw⟩:=hne;have l:=Hc (w :: r);rw [G_];show (if ((sT [32]).length == 0)=false/\(sT (J (w :: r))).length + 2<=sizeLine then Res.ok (D.lst ((Txt.split (sT (J (w :: r))) (sT [32])).map .str)) else .stuck)=_
 rw [if_pos ⟨rfl,Nat.le_trans (show _<=1002 by rw [xj]; omega) (by decide)⟩,O3 h hw,List.map_map]; rfl
noncomputable def Nw (w:List Nat):Prop:=w≠[]/\w.length<=6/\∀c∈w,97<=c/\c<=122
theorem O5:("abcdefghijklmnopqrstuvwxyz" : Str)=sT [97,98,99,100,101,102,103,104,105,106,107,108,109,110,111,112,113,114,115,116,117,118,119,120,121,122]:=rfl
theorem O6 (c:Nat):oU (.str (sT [c])) (.str "abcdefghijklmnopqrstuvwxyz")=.ok (.bl (decide (97<=c/\c<=122))):=by
 rw [O5];show Res.ok (D.bl (!(Builtin.Str.occurrences (sT [97,98,99,100,101,102,103,104,105,106,107,108,109,110,111,112,113,114,115,116,117,118,119,120,121,122]) (sT [c]) 0 (sT [97,98,99,100,101,102,103,104,105,106,107,108,109,110,111,112,113,114,115,116,117,118,119,120,121,122]).length 1).isEmpty))=_;rw [show (!(Builtin.Str.occurrences (sT [97,98,99,100,101,102,103,104,105,106,107,108,109,110,111,112,113,114,115,116,117,118,119,120,121,122]) (sT [c]) 0 (sT [97,98,99,100,101,102,103,104,105,106,107,108,109,110,111,112,113,114,115,116,117,118,119,120,121,122]).length 1).isEmpty)=_ from StrLaws.found_one (sT [97,98,99,100,101,102,103,104,105,106,107,108,109,110,111,112,113,114,115,116,117,118,119,120,121,122]) c]
 congr 2
 rw [oZ];have:(c∈List.range' 97 26)↔(97<=c/\c<=122):=by
  rw [List.mem_range'_1]; omega
 have e:[97,98,99,100,101,102,103,104,105,106,107,108,109,110,111,112,113,114,115,116,117,118,119,120,121,122]=List.range' 97 26:=rfl;rw [e];simp only [this]
theorem Nw.small {w:List Nat} (h:Nw w):∀c∈w,c < 128:=fun c hc=>by have:=h.2.2 c hc; omega
theorem Nw.sp {w:List Nat} (h:Nw w):(32:Nat)∉w:=fun hc=>by have:=h.2.2 32 hc; omega
theorem O7 {w:List Nat} (h:Nw w):jn [tx w]=.ok (.bl true):=by
 show outD (nU [some (.arg (tx w))])=_;unfold nU;have e1:dH (tx w) (.str "")=.ok (.bl false):=by
  rw [lit_none,OJ h.small (fun c hc=>by cases hc),decide_eq_false h.1]
 have e2:¬((6:Int) < ((w.length:Nat):Int)):=by have:=h.2.1; omega
 have cp:bA 1 [] (aY 0) (two (aj 0) (fun _=>.ok (.str "abcdefghijklmnopqrstuvwxyz")) oU) (bindL (aj 0) aK) [some (.arg (tx w))]=.ok (.lst ((w.map fun _=>true).map .bl)):=by
  unfold bA;have hi:bindL (aj 0) aK [some (.arg (tx w))]=.ok (w.map fun c=>.str (sT [c])):=O2 h.small;have hm:=G9 (fe:=two (aj 0) (fun _=>.ok (.str "abcdefghijklmnopqrstuvwxyz")) oU) (rest:=[]) (g:=fun _=>.bl true) w (fun c hc=>by
   push_cast [O6,h.2.2 c hc,and_self])
  rw [hi,bnd_ok];show gf (mapR (eO (aY 0) (two (aj 0) (fun _=>.ok (.str "abcdefghijklmnopqrstuvwxyz")) oU) [none]) (w.map fun c=>.str (sT [c])))=_;rw [hm];unfold gf;rw [bnd_ok,if_pos (by rw [List.length_map]; exact Nat.le_trans h.2.1 (by decide)),List.map_map]; rfl
 have al:((w.map fun _=>true).all id)=true:=by simp
 push_cast [e1,O1 (Nat.le_trans h.2.1 (by decide)),e2,cp,mu',al]
abbrev Hd:List Nat:=[112,111,105,110,116]
abbrev O8:List Nat:=[108,105,110,101]
abbrev nm':List Nat:=[114,105,110,103]
abbrev nn':List Nat:=[109,101,101,116]
abbrev O9:List Nat:=[98,121]
abbrev mA':List Nat:=[102,105,114,115,116]
abbrev O_:List Nat:=[115,101,99,111,110,100]
structure Ob (o:D) (ws os:List (List Nat)):Prop where
 nm:cF aU "named" jG o=.ok (tx (ws.getD 1 []))
 nd:cF aU "needs" (eG lB) o=.ok (.lst (cY os))
 nn:cg o .non=.ok (.bl false)
theorem lF {n:Nat} (h:n < 10 ^ 60):n < 2 ^ 1000:=Nat.lt_trans h (Nat.lt_of_lt_of_le (show (10:Nat) ^ 60 < 2 ^ 200 by decide) (Nat.pow_le_pow_right (by decide) (by decide)))
theorem Hf (c:Int) {k:Nat} (hk:k<=1000):∃z,gW [.int c,.int k]=.ok (.int z):=by
 have m:=fun x=>dR (a:=x) (show (170141183460469231731687303715884105727:Int)≠0 by decide);have a1:=sG (a:=(k:Int)) (b:=31415926535897932384626433832795028841) (lF (by omega)) (lF (by decide));have r0:=Int.fmod_nonneg_of_pos c (b:=170141183460469231731687303715884105727) (by decide);have r1:=Int.fmod_lt_of_pos c (b:=170141183460469231731687303715884105727) (by decide);generalize hC:Int.fmod c 170141183460469231731687303715884105727=C at r0 r1;have a2:=sG (a:=C + 1) (b:=123457890123456789012345678901234567891 + (k:Int) * 31415926535897932384626433832795028841) (lF (by omega)) (lF (by omega));generalize hL:(C + 1) * (123457890123456789012345678901234567891 + (k:Int) * 31415926535897932384626433832795028841)=L at a2;have q0:=Int.fmod_nonneg_of_pos L (b:=170141183460469231731687303715884105727) (by decide);have q1:=Int.fmod_lt_of_pos L (b:=170141183460469231731687303715884105727) (by decide);generalize hM:Int.fmod L 170141183460469231731687303715884105727=M at q0 q1;have a3:=sG (a:=M) (b:=98767890123456789012345678901234567) (lF (by omega)) (lF (by decide));refine ⟨Int.fmod (M * 98767890123456789012345678901234567) 170141183460469231731687303715884105727,?_⟩;show outD (nY [some (.arg (.int c)),some (.arg (.int k)),none,none,none])=_;unfold nY;push_cast [m,a1,hC,a2,hM,a3]
theorem Pa (ns:List Int) {k:Nat} (hk:k<=1000):∃z,jJ [.lst (ns.map .int),.int k]=.ok (.int z):=by
 by_cases h:k < ns.length
 ·refine ⟨ns[k],?_⟩;show outD (jH [some (.arg (.lst (ns.map .int))),some (.arg (.int k))])=_;unfold jH;have h':((k:Int) < (ns.length:Int)):=by omega
  have hz:(ns.map D.int)[k]? = some (.int ns[k]):=by simp [h]
  push_cast [List.length_map,h',zL _ k _ hz]
 ·obtain ⟨z,e⟩:=Hf 0 hk;refine ⟨z,?_⟩;show outD (jH [some (.arg (.lst (ns.map .int))),some (.arg (.int k))])=_;unfold jH;have h':¬((k:Int) < (ns.length:Int)):=by omega
  push_cast [List.length_map,h',e]
theorem Hg:∀n:Nat,n < 26->bh (.str "abcdefghijklmnopqrstuvwxyz") (.int (n:Int))=.ok (tx [97 + n])
 | 0,_=>rfl
 | 1,_=>rfl
 | 2,_=>rfl
 | 3,_=>rfl
 | 4,_=>rfl
 | 5,_=>rfl
 | 6,_=>rfl
 | 7,_=>rfl
 | 8,_=>rfl
 | 9,_=>rfl
 | 10,_=>rfl
 | 11,_=>rfl
 | 12,_=>rfl
 | 13,_=>rfl
 | 14,_=>rfl
 | 15,_=>rfl
 | 16,_=>rfl
 | 17,_=>rfl
 | 18,_=>rfl
 | 19,_=>rfl
 | 20,_=>rfl
 | 21,_=>rfl
 | 22,_=>rfl
 | 23,_=>rfl
 | 24,_=>rfl
 | 25,_=>rfl
 | n + 26,h=>absurd h (by omega)
theorem letter {i:Int} (h0:0<=i) (h1:i < 26):∃c,(97<=c/\c<=122)/\bh (.str "abcdefghijklmnopqrstuvwxyz") (.int i)=.ok (tx [c]):=by
 obtain ⟨n,rfl⟩:=Int.eq_ofNat_of_zero_le h0;exact ⟨97 + n,by omega,Hg n (by omega)⟩
abbrev jw:DS->Out:=(aA (aC 2 (two (two (two (aj 2) (fun _=>.ok (.int 3)) aW) (fun _=>.ok (.int 48271)) gj) (fun _=>.ok (.int 2147483647)) bK)) (aC 3 (two (aj 3) (two (aj 1) (two (two (aj 2) (fun _=>.ok (.int 8)) bH) (fun _=>.ok (.int 26)) bK) bh) aW)))
theorem Hh {s0 s1:SV} (h1:s1.view=.str "abcdefghijklmnopqrstuvwxyz"):∀(ds:List D) (l:Int) (w:List Nat) (z:Option SV),w≠[]->w.length + ds.length<=6->(∀c∈w,97<=c/\c<=122) ->
  ∃l' w' z',bj (aY 4) jw ds [some s0,some s1,some (.val (.int l)),some (.val (tx w)),z]=.nxt [some s0,some s1,some (.val (.int l')),some (.val (tx w')),z']/\Nw w'
 | [],l,w,z,hw,hl,ha=>⟨l,w,z,rfl,hw,by simpa using hl,ha⟩
 | d :: ds,l,w,z,hw,hl,ha=>by
  rw [List.length_cons] at hl;have m1:=fun x=>dR (a:=x) (show (2147483647:Int)≠0 by decide);have m2:=fun x=>dR (a:=x) (show (26:Int)≠0 by decide);have d8:=fun x=>ev' (a:=x) (show (8:Int)≠0 by decide) (show (8:Int).natAbs < 2 ^ 8000 from Nat.lt_of_lt_of_le (show 8 < 2 ^ 4 by decide) (Nat.pow_le_pow_right (by decide) (by decide)))
  have ml:=v_ (a:=l + 3) (b:=48271) (by decide);generalize hL:Int.fmod ((l + 3) * 48271) 2147483647=L;have r0:=Int.fmod_nonneg_of_pos (Int.fdiv L 8) (b:=26) (by decide);have r1:=Int.fmod_lt_of_pos (Int.fdiv L 8) (b:=26) (by decide);obtain ⟨c,hc,e⟩:=letter r0 r1;have a1:=G6 (a:=w) (b:=[c]) (by simp; omega);obtain ⟨l',w',z',h,hN⟩:=Hh (s0:=s0) h1 ds L (w ++ [c]) (some (.val d)) (by simp) (by rw [List.length_append]; simp; omega) (fun x hx=>by
   rcases List.mem_append.mp hx with q | q
   ·exact ha x q
   ·rw [List.mem_singleton.mp q]; exact hc)
  refine ⟨l',w',z',?_,hN⟩;have b:jw [some s0,some s1,some (.val (.int l)),some (.val (tx w)),some (.val d)]=.nxt [some s0,some s1,some (.val (.int L)),some (.val (tx (w ++ [c]))),some (.val d)]:=by
   unfold jw;push_cast [ml,m1,hL,m2,d8,h1,e,a1]
  rw [bj];show (match jw [some s0,some s1,some (.val (.int l)),some (.val (tx w)),some (.val d)] with | .nxt δ'=>bj (aY 4) jw ds δ' | .cnt δ'=>bj (aY 4) jw ds δ' | .brk δ'=>.nxt δ' | .ret d=>.ret d | _=>.stuck)=_
  rw [b];exact h
theorem Pb (c:Int):∃w,Nw w/\iU [.int c]=.ok (tx w):=by
 have m7:=fun x=>dR (a:=x) (show (7:Int)≠0 by decide);have m26:=fun x=>dR (a:=x) (show (26:Int)≠0 by decide);have m6:=fun x=>dR (a:=x) (show (6:Int)≠0 by decide);have m2:=fun x=>dR (a:=x) (show (2147483629:Int)≠0 by decide);have big:∀n,n < 2 ^ 8->n < 2 ^ 8000:=fun n h=>Nat.lt_of_lt_of_le h (Nat.pow_le_pow_right (by decide) (by decide));have d7:=fun x=>ev' (a:=x) (show (7:Int)≠0 by decide) (big _ (by decide));have d26:=fun x=>ev' (a:=x) (show (26:Int)≠0 by decide) (big _ (by decide));have sh:iU [.int c]=outD (nZ [some (.arg (.int c)),none,none,none,none]):=rfl;rw [sh];unfold nZ
 by_cases h:Int.fmod c 7=3
 ·have r0:=Int.fmod_nonneg_of_pos (Int.fdiv c 7) (b:=7) (by decide);have r1:=Int.fmod_lt_of_pos (Int.fdiv c 7) (b:=7) (by decide);generalize hi:Int.fmod (Int.fdiv c 7) 7=i at r0 r1;have w7:∃w,Nw w/\bh (.lst [.str "by",.str "first",.str "second",.str "point",.str "ring",.str "line",.str "meet"]) (.int i)=.ok (tx w):=by
   have:i=0\/i=1\/i=2\/i=3\/i=4\/i=5\/i=6:=by omega
   rcases this with rfl | rfl | rfl | rfl | rfl | rfl | rfl
   ·exact ⟨O9,⟨by decide,by decide,by decide⟩,rfl⟩
   ·exact ⟨mA',⟨by decide,by decide,by decide⟩,rfl⟩
   ·exact ⟨O_,⟨by decide,by decide,by decide⟩,rfl⟩
   ·exact ⟨Hd,⟨by decide,by decide,by decide⟩,rfl⟩
   ·exact ⟨nm',⟨by decide,by decide,by decide⟩,rfl⟩
   ·exact ⟨O8,⟨by decide,by decide,by decide⟩,rfl⟩
   ·exact ⟨nn',⟨by decide,by decide,by decide⟩,rfl⟩
  obtain ⟨w,hw,e⟩:=w7;refine ⟨w,hw,?_⟩;push_cast [m7,h,d7,hi,e]
 ·generalize hL:Int.fmod (Int.fdiv c 7) 2147483629=L;have r0:=Int.fmod_nonneg_of_pos L (b:=26) (by decide);have r1:=Int.fmod_lt_of_pos L (b:=26) (by decide);obtain ⟨k,hk,e⟩:=letter r0 r1;have q0:=Int.fmod_nonneg_of_pos (Int.fdiv L 26) (b:=6) (by decide);have q1:=Int.fmod_lt_of_pos (Int.fdiv L 26) (b:=6) (by decide);generalize hm:Int.fmod (Int.fdiv L 26) 6=m at q0 q1;have rg:gw [.int m]=.ok (bQ 0 m.toNat):=if_pos ⟨by omega,by omega⟩;obtain ⟨l',w',z',lp,hN⟩:=Hh (s0:=.arg (.int c)) (s1:=.val (.str "abcdefghijklmnopqrstuvwxyz")) rfl (bQ 0 m.toNat) L [k] none (by simp) (by rw [zc]; simp; omega) (fun x hx=>by rw [List.mem_singleton.mp hx]; exact hk);refine ⟨w',hN,?_⟩;unfold jw at lp;push_cast [m7,h,d7,m2,hL,m26,e,d26,m6,hm,rg,lp]
structure Rw (s1:Shared) (L:Addr) (T:Nat) (s:Shared) (m:Str->Option Value):Prop where
 ns:s.heap.Ns L m
 kp:∀b o,b≠L->s1.heap.get? b=some o->s.heap.get? b=some o
 os:s.os=s1.os
 gens:s.gens=s1.gens
 tk:T<=s.toks
theorem Rw.tok {s1 s:Shared} {L:Addr} {T tk:Nat} {m:Str->Option Value} (R:Rw s1 L T s m) (h:s.toks<=tk):Rw s1 L T { s with toks:=tk } m:=⟨R.ns,R.kp,R.os,R.gens,Nat.le_trans R.tk h⟩
theorem Rw.push {s1 s:Shared} {L:Addr} {T:Nat} {m:Str->Option Value} (R:Rw s1 L T s m) (o:Obj):Rw s1 L T { s with heap:=s.heap.push o } m:=⟨R.ns.keeps fun b o e=>Heap.get?_push_of_some _ e,fun b o hb e=>Heap.get?_push_of_some _ (R.kp b o hb e),R.os,R.gens,R.tk⟩
section
variable {prog:Program} {w:World} {A:Around} {env:Env} {a b:Expr} {m:Str->Option Value} {i j k:Int} {pos:Pos}
noncomputable def IE (prog:Program) (w:World) (A:Around) (env:Env) (e:Expr) (m:Str->Option Value) (k:Int):Prop:=∀(s:Shared) (Q:Value->Shared->Prop) (E:Value->Shared->Prop),s.heap.Ns env.locals m->(∀t tk,s.toks<=tk->Q (.int k t) { s with toks:=tk })->wpAny (model prog w) A (eval e env) Q E s
theorem uv {x:Str} {t:Tok} (hf:env.scope.kind=.function) (hk:env.kindOf x=some .local) (hm:m x=some (.int k t)) (hd:(x == ("__debug__" : Str))=false:=by decide):IE prog w A env (.Name x pos) m k:=fun s Q E hn h=>wpAny_Name (wpAny_loadName_local hf hk hn hm (h t s.toks (Nat.le_refl _))) hd
theorem lG {n:Nat}:IE prog w A env (.Constant (.int k) n pos) m k:=fun s Q E hn h=>wpAny_Constant_int (h s.toks (s.toks + 1) (Nat.le_succ _))
theorem Pg (ha:IE prog w A env a m i) (hb:IE prog w A env b m j):IE prog w A env (.BinOp a .Add b pos) m (i + j):=fun s Q E hn h =>
 wpAny_BinOp (ha s _ E hn fun t tk h1=>hb { s with toks:=tk } _ E hn fun t' tk' h2=>add_int (h _ _ (Nat.le_succ_of_le (Nat.le_trans h1 h2))))
theorem Ph (ha:IE prog w A env a m i) (hb:IE prog w A env b m j) (hm:IntMulOk i j):IE prog w A env (.BinOp a .Mult b pos) m (i * j):=fun s Q E hn h =>
 wpAny_BinOp (ha s _ E hn fun t tk h1=>hb { s with toks:=tk } _ E hn fun t' tk' h2=>mul_int (h _ _ (Nat.le_succ_of_le (Nat.le_trans h1 h2))) hm)
theorem uw (ha:IE prog w A env a m i) (hb:IE prog w A env b m j) (hj:j≠0):IE prog w A env (.BinOp a .Mod b pos) m (i.fmod j):=fun s Q E hn h =>
 wpAny_BinOp (ha s _ E hn fun t tk h1=>hb { s with toks:=tk } _ E hn fun t' tk' h2=>mod_int' hj (h _ _ (Nat.le_succ_of_le (Nat.le_trans h1 h2))))
theorem zP (ha:IE prog w A env a m i) (hb:IE prog w A env b m j) (hj:j≠0) (hp:Builtin.divisionGoesByPylong i j=false):IE prog w A env (.BinOp a .FloorDiv b pos) m (i.fdiv j):=fun s Q E hn h =>
 wpAny_BinOp (ha s _ E hn fun t tk h1=>hb { s with toks:=tk } _ E hn fun t' tk' h2=>floordiv_int hj (h _ _ (Nat.le_succ_of_le (Nat.le_trans h1 h2))) (.inl hp))
theorem uO {s1 s:Shared} {T:Nat} {x:Str} {u:Value} {Q:Unit->Shared->Prop} {E:Value->Shared->Prop} (hf:env.scope.kind=.function) (hk:env.kindOf x=some .local) (R:Rw s1 env.locals T s m) (h:∀s' m',Rw s1 env.locals T s' m'->m' x=some u->(∀y,¬y=x->m' y=m y)->(∀b,b≠env.locals->s'.heap.get? b=s.heap.get? b)->Q () s'):wpAny (model prog w) A (storeName env x u) Q E s :=
 wpAny_storeName_local hk R.ns (fun h' hn hs=>h _ _ ⟨hn,fun b o hb e=>(hs.2 b hb).trans (R.kp b o hb e),R.os,R.gens,Nat.le_succ_of_le R.tk⟩ (if_pos rfl) (fun y hy=>if_neg hy) hs.2) (by rw [hf]; rfl)
theorem Hi {s1 s:Shared} {T:Nat} {x:Str} {z:Str} {tz:Tok} {c:Nat} {np:Pos} {Q:Value->Shared->Prop} {E:Value->Shared->Prop} (hf:env.scope.kind=.function) (hk:env.kindOf x=some .local) (hm:m x=some (.str z tz)) (hi:IE prog w A env b m i) (h0:0<=i) (h9:i < 1000) (hc:(seqIndex? i z.length).bind (z.cps[·]?)=some c) (R:Rw s1 env.locals T s m)
  (h:∀t s',Rw s1 env.locals T s' m->T<=t->s'.heap=s.heap->Q (.str ⟨#[c]⟩ t) s') (hd:(x == ("__debug__" : Str))=false:=by decide) (hs:∀o i,subscripted b false o i=operate [o,i] (getItem o i):=by intros; rfl):wpAny (model prog w) A (eval (.Subscript (.Name x np) b pos) env) Q E s:=by
 refine Subscript_ (wpAny_Name (wpAny_loadName_local hf hk R.ns hm ?_) hd);refine hi s _ E R.ns fun t tk h1=>?_;have R1:=R.tok h1;refine tail_any (typeIs_str _ z tz) slot_str_getitem.lookup (getItem_str (c:=c) (by
  have e1:decide (i < -(2 ^ 63:Int))=false:=decide_eq_false (by omega);have e2:decide (i>=2 ^ 63)=false:=decide_eq_false (by omega);rw [e1,e2,Bool.or_false]) hc ?_) (hs _ _)
 exact h _ _ (R1.tok (Nat.le_succ _)) R1.tk rfl
theorem Pj {s1 s:Shared} {T:Nat} {x y:Str} {t u:Tok} {Q:Value->Shared->Prop} {E:Value->Shared->Prop} (R:Rw s1 env.locals T s m) (ht:T<=t) (hu:T<=u) (hz:x.length + y.length<=sizeLine) (h:∀t s',Rw s1 env.locals T s' m->T<=t->s'.heap=s.heap->Q (.str (x ++ y) t) s'):wpAny (model prog w) A (binaryOp .Add (.str x t) (.str y u)) Q E s:=by
 refine PySem.P.add_str ?_
 by_cases h1:(x.length == 0)=true
 ·rw [if_pos h1];have e:x ++ y=y:=by
   have:x.cps.size=0:=eq_of_beq h1;have e2:x.cps = #[]:=Array.eq_empty_of_size_eq_zero this;obtain ⟨cx⟩:=x
   cases e2
   show (⟨#[] ++ y.cps⟩:Str)=y;rw [Array.empty_append]
  have:=h u s R hu rfl;rw [e] at this;exact this
 ·rw [if_neg h1]
  by_cases h2:(y.length == 0)=true
  ·rw [if_pos h2];have e:x ++ y=x:=by
    have:y.cps.size=0:=eq_of_beq h2;have e2:y.cps = #[]:=Array.eq_empty_of_size_eq_zero this;obtain ⟨cy⟩:=y
    cases e2
    show (⟨x.cps ++ #[]⟩:Str)=x;rw [Array.append_empty]
   have:=h t s R ht rfl;rw [e] at this;exact this
  ·rw [if_neg h2];exact ⟨by rw [Str.length_append]; exact hz,h _ _ (R.tok (Nat.le_succ _)) R.tk rfl⟩
end
abbrev ABC:Str:="abcdefghijklmnopqrstuvwxyz"
theorem Hj {i:Int} (h0:0<=i) (h1:i < 26):(seqIndex? i ABC.length).bind (ABC.cps[·]?)=some (97 + i.toNat):=by
 obtain ⟨n,rfl⟩:=Int.eq_ofNat_of_zero_le h0;have hn:n < 26:=by omega
 have all:∀k:Fin 26,(seqIndex? ((k.val:Nat):Int) ABC.length).bind (ABC.cps[·]?)=some (97 + k.val):=by decide +kernel
 simpa using all ⟨n,hn⟩
theorem Hl {i:Int} (h0:0<=i) (h1:i < 26):bh (.str "abcdefghijklmnopqrstuvwxyz") (.int i)=.ok (tx [97 + i.toNat]):=by
 obtain ⟨n,rfl⟩:=Int.eq_ofNat_of_zero_le h0;rw [Hg n (by omega)]; simp
noncomputable def lH (l:Int):Int:=((l + 3) * 48271).fmod 2147483647
noncomputable def ux (l:Int):Nat:=97 + (((lH l).fdiv 8).fmod 26).toNat
theorem ln' {s0 s1:SV} (h1:s1.view=.str "abcdefghijklmnopqrstuvwxyz") {l:Int} {w:List Nat} {d:D} (hl:w.length<=500):jw [some s0,some s1,some (.val (.int l)),some (.val (tx w)),some (.val d)]=.nxt [some s0,some s1,some (.val (.int (lH l))),some (.val (tx (w ++ [ux l]))),some (.val d)]:=by
 have m1:=fun x=>dR (a:=x) (show (2147483647:Int)≠0 by decide);have m2:=fun x=>dR (a:=x) (show (26:Int)≠0 by decide);have d8:=fun x=>ev' (a:=x) (show (8:Int)≠0 by decide) (show (8:Int).natAbs < 2 ^ 8000 from Nat.lt_of_lt_of_le (show 8 < 2 ^ 4 by decide) (Nat.pow_le_pow_right (by decide) (by decide)))
 have ml:=v_ (a:=l + 3) (b:=48271) (by decide);have hL:((l + 3) * 48271).fmod 2147483647=lH l:=rfl;have r0:=Int.fmod_nonneg_of_pos ((lH l).fdiv 8) (b:=26) (by decide);have r1:=Int.fmod_lt_of_pos ((lH l).fdiv 8) (b:=26) (by decide);have e:=Hl r0 r1;have a1:=G6 (a:=w) (b:=[ux l]) (by simp; omega);unfold ux at a1 ⊢;unfold jw;push_cast [ml,m1,hL,m2,d8,h1,e,a1]
theorem lo' {s0 s1:SV} (h1:s1.view=.str "abcdefghijklmnopqrstuvwxyz") {l:Int} {w:List Nat} {d:D} {ds:List D} {z:Option SV} (hl:w.length<=500):bj (aY 4) jw (d :: ds) [some s0,some s1,some (.val (.int l)),some (.val (tx w)),z]=bj (aY 4) jw ds [some s0,some s1,some (.val (.int (lH l))),some (.val (tx (w ++ [ux l]))),some (.val d)]:=by
 rw [bj];show (match jw [some s0,some s1,some (.val (.int l)),some (.val (tx w)),some (.val d)] with | .nxt δ'=>bj (aY 4) jw ds δ' | .cnt δ'=>bj (aY 4) jw ds δ' | .brk δ'=>.nxt δ' | .ret d=>.ret d | _=>.stuck)=_
 rw [ln' h1 hl]
theorem Pk (w:List Nat) (c:Nat):sT w ++ (⟨#[c]⟩:Str)=sT (w ++ [c]):=by
 show (⟨w.toArray ++ #[c]⟩:Str)=⟨(w ++ [c]).toArray⟩;simp
theorem zQ (x:Int) {y:Int} (h:y.natAbs.log2 < 9000):Builtin.divisionGoesByPylong x y=false:=PyProof.noPylong_of_log2 h
noncomputable def uy:Nat->Int->List Nat->List Nat
 | 0,_,w=>w
 | n + 1,l,w=>uy n (lH l) (w ++ [ux l])
theorem Hm {s0 s1:SV} (h1:s1.view=.str "abcdefghijklmnopqrstuvwxyz"):∀(ds:List D) (l:Int) (w:List Nat) (z:Option SV),w.length + ds.length<=400->∃l' z',bj (aY 4) jw ds [some s0,some s1,some (.val (.int l)),some (.val (tx w)),z]=.nxt [some s0,some s1,some (.val (.int l')),some (.val (tx (uy ds.length l w))),z']
 | [],l,w,z,_=>⟨l,z,rfl⟩
 | d :: ds,l,w,z,h=>by
  rw [List.length_cons] at h;obtain ⟨l',z',e⟩:=Hm (s0:=s0) h1 ds (lH l) (w ++ [ux l]) (some (.val d)) (by rw [List.length_append]; simp; omega);refine ⟨l',z',?_⟩;rw [lo' h1 (by omega),e]; rfl
noncomputable def seven:List Str:=["by", "first", "second", "point", "ring", "line", "meet"]
noncomputable def gZ (c:Int):Int:=(c.fdiv 7).fmod 2147483629
noncomputable def jt (c:Int):Str:=if c.fmod 7=3 then seven.getD ((c.fdiv 7).fmod 7).toNat "" else sT (uy (((gZ c).fdiv 26).fmod 6).toNat (gZ c) [97 + ((gZ c).fmod 26).toNat])
theorem Pn (c:Int):iU [.int c]=.ok (.str (jt c)):=by
 have m7:=fun x=>dR (a:=x) (show (7:Int)≠0 by decide);have m26:=fun x=>dR (a:=x) (show (26:Int)≠0 by decide);have m6:=fun x=>dR (a:=x) (show (6:Int)≠0 by decide);have m2:=fun x=>dR (a:=x) (show (2147483629:Int)≠0 by decide);have big:∀n,n < 2 ^ 8->n < 2 ^ 8000:=fun n h=>Nat.lt_of_lt_of_le h (Nat.pow_le_pow_right (by decide) (by decide));have d7:=fun x=>ev' (a:=x) (show (7:Int)≠0 by decide) (big _ (by decide));have d26:=fun x=>ev' (a:=x) (show (26:Int)≠0 by decide) (big _ (by decide));have sh:iU [.int c]=outD (nZ [some (.arg (.int c)),none,none,none,none]):=rfl;rw [sh];unfold nZ jt
 by_cases h:Int.fmod c 7=3
 ·rw [if_pos h];have r0:=Int.fmod_nonneg_of_pos (Int.fdiv c 7) (b:=7) (by decide);have r1:=Int.fmod_lt_of_pos (Int.fdiv c 7) (b:=7) (by decide);generalize hi:Int.fmod (Int.fdiv c 7) 7=i at r0 r1;have w7:bh (.lst [.str "by",.str "first",.str "second",.str "point",.str "ring",.str "line",.str "meet"]) (.int i)=.ok (.str (seven.getD i.toNat "")):=by
   have:i=0\/i=1\/i=2\/i=3\/i=4\/i=5\/i=6:=by omega
   rcases this with rfl | rfl | rfl | rfl | rfl | rfl | rfl <;> rfl
  push_cast [m7,h,d7,hi,w7]
 ·rw [if_neg h];have hL:Int.fmod (Int.fdiv c 7) 2147483629=gZ c:=rfl;generalize gZ c=L at hL ⊢;have r0:=Int.fmod_nonneg_of_pos L (b:=26) (by decide);have r1:=Int.fmod_lt_of_pos L (b:=26) (by decide);have e:=Hl r0 r1;have q0:=Int.fmod_nonneg_of_pos (Int.fdiv L 26) (b:=6) (by decide);have q1:=Int.fmod_lt_of_pos (Int.fdiv L 26) (b:=6) (by decide);generalize hm:Int.fmod (Int.fdiv L 26) 6=m at q0 q1 ⊢;have rg:gw [.int m]=.ok (bQ 0 m.toNat):=if_pos ⟨by omega,by omega⟩;obtain ⟨l',z',lp⟩:=Hm (s0:=.arg (.int c)) (s1:=.val (.str "abcdefghijklmnopqrstuvwxyz")) rfl (bQ 0 m.toNat) L [97 + (L.fmod 26).toNat] none (by rw [zc]; simp; omega);rw [zc] at lp;unfold jw at lp;push_cast [m7,h,d7,m2,hL,m26,e,d26,m6,hm,rg,lp]
abbrev gn (L f:Addr) (cdv:Value):Env:=envOfC "_law_name" (ao eN) L f cdv
theorem uz {M:Model} {A:Around} {env:Env} {x:Str} {k:Nat} {cp pos:Pos} {es:List Expr} {s:Shared} {Q:List Value->Shared->Prop} {E:Value->Shared->Prop} (h:wpAny M A (spliced (backTo pos (starEach es env))) (fun vs s₂=>Q (.str x s.toks :: vs) s₂) E { s with toks:=s.toks + 1 })
  (hs:starEach (.Constant (.str x) k cp :: es) env=(false,eval (.Constant (.str x) k cp) env) :: starEach es env:=by rfl):wpAny M A (spliced (backTo pos (starEach (.Constant (.str x) k cp :: es) env))) Q E s:=by
 rw [hs]; exact Calls.spliced_cons (Calls.Constant_str (k:=k) (pos:=cp) h)
theorem ih' {T a b c d e f g:Nat} (ha:T<=a) (hb:T<=b) (hc:T<=c) (hd:T<=d) (he:T<=e) (hf:T<=f) (hg:T<=g) {i:Int} (h0:0<=i) (h1:i < 7):∃t,#[Value.str "by" a,Value.str "first" b,Value.str "second" c,Value.str "point" d,Value.str "ring" e,Value.str "line" f,Value.str "meet" g][i.toNat]? = some (.str (seven.getD i.toNat "") t)/\T<=t:=by
 have:i=0\/i=1\/i=2\/i=3\/i=4\/i=5\/i=6:=by omega
 rcases this with rfl | rfl | rfl | rfl | rfl | rfl | rfl
 ·exact ⟨a,rfl,ha⟩
 ·exact ⟨b,rfl,hb⟩
 ·exact ⟨c,rfl,hc⟩
 ·exact ⟨d,rfl,hd⟩
 ·exact ⟨e,rfl,he⟩
 ·exact ⟨f,rfl,hf⟩
 ·exact ⟨g,rfl,hg⟩
theorem Rw.but {s1 s:Shared} {L it:Addr} {T tk:Nat} {m:Str->Option Value} {h':Heap} (R:Rw s1 L T s m) (hL:L≠it) (hne:∀b o,b≠L->s1.heap.get? b=some o->b≠it) (kk:∀b o,b≠it->s.heap.get? b=some o->h'.get? b=some o) (htk:T<=tk):Rw s1 L T { s with heap:=h',toks:=tk } m:=by
 obtain ⟨o,es,ep,e,r⟩:=R.ns;exact ⟨⟨o,es,ep,kk L o hL e,r⟩,fun b o hb e=>kk b o (hne b o hb e) (R.kp b o hb e),R.os,R.gens,htk⟩
theorem Pq {prog:Program} {w:World} {A:Around} {L f:Addr} {cdv:Value} {s1:Shared} {m:Str->Option Value} {c:Int} {t0:Tok} {T:Nat} (hh:A.handled=none) (hL:L < s1.heap.objs.size) (R0:Rw s1 L T s1 m) (hm:m "_law_cell_here" = some (.int c t0))
  (hR:∀(s:Shared) (p:Pos) (Q:Value->Shared->Prop) (E:Value->Shared->Prop),(∀b o,b≠L->s1.heap.get? b=some o->s.heap.get? b=some o)->Q (.type "range") s->wpAny (model prog w) A (eval (.Name "range" p) (gn L f cdv)) Q E s) :
  wpAny (model prog w) A (execs (aD eN) (gn L f cdv)) (fun fl s'=>∃t,fl=.ret (.str (jt c) t)/\T<=t/\(∀b o,b≠L->s1.heap.get? b=some o->s'.heap.get? b=some o)/\s'.os=s1.os/\s'.gens=s1.gens) (fun _ _=>False) s1:=by
 have hf:(gn L f cdv).scope.kind=.function:=rfl;refine wpAny_execs_cons (wpAny_Assign_Name (Calls.Constant_str ?_) rfl);refine uO (env:=gn L f cdv) hf rfl (R0.tok (Nat.le_succ _)) fun s2 mm R2 m2L o2 _=>?_;show wpAny _ _ (execs _ _) _ _ _;have m2:=(o2 "_law_cell_here" (by decide +kernel)).trans hm;refine wpAny_execs_cons (wpAny_If (wpAny_isTrue_Compare1 ?_ rfl));refine uw (prog:=prog) (w:=w) (uv (k:=c) (t:=t0) hf rfl m2) lG (by decide) s2 _ _ R2.ns fun t tk h1=>?_;refine wpAny_Constant_int (eq_int (wpAny_truthy_bool ?_));have R3:=(R2.tok h1).tok (tk:=tk + 1) (Nat.le_succ _);unfold jt
 by_cases h:c.fmod 7=3
 ·have hb:(c.fmod 7 == 3)=true:=by rw [h]; rfl
  rw [hb,if_pos rfl,if_pos h];refine wpAny_execs_cons (wpAny_Return_some (Subscript_ (wpAny_List_spliced ?_)));refine uz (uz (uz (uz (uz (uz (uz (Calls.spliced_nil ⟨by show 7<=sizeLine; decide,?_⟩)))))));have r0:=Int.fmod_nonneg_of_pos (Int.fdiv c 7) (b:=7) (by decide);have r1:=Int.fmod_lt_of_pos (Int.fdiv c 7) (b:=7) (by decide);have tk3:T<=tk + 1:=R3.tk;refine uw (prog:=prog) (w:=w) (zP (uv (k:=c) (t:=t0) hf rfl m2) lG (by decide) (zQ c (by decide +kernel))) lG (by decide) _ _ _ (((R3.tok (tk:=tk + 8) (by show tk + 1<=tk + 8; omega)).push _).ns) fun t4 tk4 h4=>?_;obtain ⟨t5,hx,h5⟩:=ih' (T:=T) (a:=tk + 1) (b:=tk + 1 + 1) (c:=tk + 1 + 1 + 1) (d:=tk + 1 + 1 + 1 + 1) (e:=tk + 1 + 1 + 1 + 1 + 1) (f:=tk + 1 + 1 + 1 + 1 + 1 + 1) (g:=tk + 1 + 1 + 1 + 1 + 1 + 1 + 1) (by omega) (by omega) (by omega) (by omega) (by omega) (by omega) (by omega) r0 r1;have R5:=(R3.tok (tk:=tk + 8) (by show tk + 1<=tk + 8; omega)).push { cls:=.type "list",data:=.seq #[Value.str "by" (tk + 1),Value.str "first" (tk + 1 + 1),Value.str "second" (tk + 1 + 1 + 1),Value.str "point" (tk + 1 + 1 + 1 + 1),Value.str "ring" (tk + 1 + 1 + 1 + 1 + 1),Value.str "line" (tk + 1 + 1 + 1 + 1 + 1 + 1),Value.str "meet" (tk + 1 + 1 + 1 + 1 + 1 + 1 + 1)] };exact item_listR ⟨_,Heap.get?_push_size _ rfl,rfl,_,rfl⟩ r0 (by omega) hx ⟨t5,rfl,h5,R5.kp,R5.os,R5.gens⟩
 ·have hb:(c.fmod 7 == 3)=false:=beq_eq_false_iff_ne.mpr h;rw [hb,if_neg Bool.false_ne_true,if_neg h];refine wpAny_execs_nil ?_;refine wpAny_execs_cons (wpAny_Assign_Name ?_ rfl);refine uw (prog:=prog) (w:=w) (zP (uv (k:=c) (t:=t0) hf rfl m2) lG (by decide) (zQ c (by decide +kernel))) lG (by decide) _ _ _ R3.ns fun t4 tk4 h4=>?_;show wpAny _ _ (storeName _ _ (.int (gZ c) t4)) _ _ _;generalize gZ c=L0;refine uO (env:=gn L f cdv) hf rfl (R3.tok h4) fun s4 m4' R4 m4 o4 _=>?_;show wpAny _ _ (execs _ _) _ _ _;have m4L:=(o4 "_law_letters" (by decide +kernel)).trans m2L;have r0:=Int.fmod_nonneg_of_pos L0 (b:=26) (by decide);have r1:=Int.fmod_lt_of_pos L0 (b:=26) (by decide);refine wpAny_execs_cons (wpAny_Assign_Name ?_ rfl);refine Hi (env:=gn L f cdv) hf rfl m4L (uw (uv (k:=L0) (t:=t4) hf rfl m4) lG (by decide)) r0 (by omega) (Hj r0 r1) R4 fun t5 s5 R5 h5 _=>?_;refine uO (env:=gn L f cdv) hf rfl R5 fun s6 m6' R6 m6 o6 _=>?_;show wpAny _ _ (execs _ _) _ _ _;have m6L:=(o6 "_law_letters" (by decide +kernel)).trans m4L;have m6l:=(o6 "_law_left" (by decide +kernel)).trans m4;have R6:Rw s1 L T s6 m6':=R6;have m6:m6' "_law_word" = some (.str (sT [97 + (L0.fmod 26).toNat]) t5):=m6;have q0:=Int.fmod_nonneg_of_pos (L0.fdiv 26) (b:=6) (by decide);have q1:=Int.fmod_lt_of_pos (L0.fdiv 26) (b:=6) (by decide);generalize hn:(L0.fdiv 26).fmod 6=n at q0 q1 ⊢;refine wpAny_execs_cons (wpAny_For (Call_ (hR s6 _ _ _ R6.kp (PyProof.Rows.callWith_type1 (Calls.spliced_cons ?_) rfl rfl)) rfl) (by intro _; rfl));refine uw (prog:=prog) (w:=w) (zP (uv (k:=L0) (t:=t4) hf rfl m6l) lG (by decide) (zQ L0 (by decide +kernel))) lG (by decide) s6 _ _ R6.ns fun t7 tk7 h7=>?_;rw [hn];refine Calls.spliced_nil (call_range_1 ?_);have R7:=R6.tok h7;refine wpAny_pyIter_range (IsRange.new ..) (small_one (by omega) (by omega) (by omega) (by omega)) ?_;have R8:=((R7.tok (tk:=tk7 + 1 + 1) (by show tk7<=tk7 + 1 + 1; omega)).push { cls:=.type "range",data:=.fields #[.int 0 tk7,.int n t7,.int 1 (tk7 + 1)] }).push { cls:=.type "range_iterator",data:=.fields #[rawInt 0,rawInt (Builtin.Range.rangeSize 0 n 1),rawInt 1] };have lL:L < s6.heap.objs.size:=R6.ns.lt;generalize hit:(s6.heap.push { cls:=.type "range",data:=.fields #[.int 0 tk7,.int n t7,.int 1 (tk7 + 1)] }).objs.size=it;have hLi:L≠it:=by rw [<- hit,Heap.size_push]; exact Nat.ne_of_lt (Nat.lt_succ_of_lt lL)
  have hne:∀b o,b≠L->s1.heap.get? b=some o->b≠it:=fun b o hb e=>by
   have:=Heap.lt_size (R6.kp b o hb e);rw [<- hit,Heap.size_push]; exact Nat.ne_of_lt (Nat.lt_succ_of_lt this)
  have st0:IsRangeIter ((s6.heap.push { cls:=.type "range",data:=.fields #[.int 0 tk7,.int n t7,.int 1 (tk7 + 1)] }).push { cls:=.type "range_iterator",data:=.fields #[rawInt 0,rawInt (Builtin.Range.rangeSize 0 n 1),rawInt 1] }) it (0 + ((0:Nat):Int) * 1) (((n.toNat:Nat):Int) - ((0:Nat):Int)) 1:=by
   have e1:(0:Int) + ((0:Nat):Int) * 1=0:=by simp
   have e2:((n.toNat:Nat):Int) - ((0:Nat):Int)=Builtin.Range.rangeSize 0 n 1:=by rw [rangeSize_one]; split <;> omega
   rw [e1,e2,<- hit];exact Heap.get?_push_size _ rfl
  refine codeAny_forLoop_any (fun k s=>∃(i:Nat) (l:Int) (wd:List Nat) (mm':Str->Option Value) (tl tw:Tok),k=n.toNat - i/\i<=n.toNat/\Rw s1 L T s mm'/\IsRangeIter s.heap it (0 + ((i:Nat):Int) * 1) (((n.toNat:Nat):Int) - ((i:Nat):Int)) 1/\mm' "_law_letters" = some (.str ABC s1.toks)/\mm' "_law_left" = some (.int l tl)/\mm' "_law_word" = some (.str (sT wd) tw)/\T<=tw/\wd.length<=i + 1/\uy (n.toNat - i) l wd=uy n.toNat L0 [97 + (L0.fmod 26).toNat]) ?_ n.toNat ⟨0,L0,[97 + (L0.fmod 26).toNat],m6',t4,t5,by simp,Nat.zero_le _,R8,st0,m6L,m6l,m6,h5,by simp,by simp⟩
  rintro k s9 ⟨i,l,wd,mm',tl,tw,rfl,hin,R9,Ck,a1,a2,a3,a4,a5,a6⟩
  by_cases hlt:i < n.toNat
  ·refine wpAny_with_toks (n:=T) R9.tk ((Walks.range (prog:=prog) (w:=w) hh it 0 1 n.toNat).item i s9 _ _ hlt Ck fun v h' tk hv st' kk htk=>?_);obtain ⟨tv,rfl⟩:=hv;have R10:Rw s1 L T { s9 with heap:=h',toks:=tk } mm':=R9.but hLi hne (fun b o hb e=>kk b o (by simpa using hb) e) htk
   refine uU (s:={ s9 with heap:=h',toks:=tk }) (n:="range_iterator") st' rfl rfl (by decide) ?_
   refine wpAny_assign_Name (uO (env:=gn L f cdv) hf rfl R10 fun s11 m11 R11 _ o11 u11=>?_);have wg:IsRangeIter s11.heap it (0 + ((i + 1:Nat):Int) * 1) (((n.toNat:Nat):Int) - ((i + 1:Nat):Int)) 1:=(u11 it (Ne.symm hLi)).trans st';have b1:=(o11 "_law_letters" (by decide +kernel)).trans a1;have b2:=(o11 "_law_left" (by decide +kernel)).trans a2;have b3:=(o11 "_law_word" (by decide +kernel)).trans a3;refine wpAny_execs_cons (wpAny_Assign_Name ?_ rfl);refine uw (prog:=prog) (w:=w) (Ph (Pg (uv (k:=l) (t:=tl) hf rfl b2) lG) lG (PySem.IntMulOk.of_right (by decide))) lG (by decide) s11 _ _ R11.ns fun t12 tk12 h12=>?_;show wpAny _ _ (storeName _ _ (.int (lH l) t12)) _ _ _;refine uO (env:=gn L f cdv) hf rfl (R11.tok h12) fun s13 m13 R13 e13 o13 u13=>?_;show wpAny _ _ (execs _ _) _ _ _;have d1:=(o13 "_law_letters" (by decide +kernel)).trans b1;have d3:=(o13 "_law_word" (by decide +kernel)).trans b3;refine wpAny_execs_cons (wpAny_Assign_Name (wpAny_BinOp (wpAny_Name (wpAny_loadName_local hf rfl R13.ns d3 ?_) (by decide))) rfl);have z0:=Int.fmod_nonneg_of_pos ((lH l).fdiv 8) (b:=26) (by decide);have z1:=Int.fmod_lt_of_pos ((lH l).fdiv 8) (b:=26) (by decide);refine Hi (env:=gn L f cdv) hf rfl d1 (uw (zP (uv (k:=lH l) (t:=t12) hf rfl e13) lG (by decide) (zQ _ (by decide +kernel))) lG (by decide)) z0 (by omega) (Hj z0 z1) R13 fun t14 s14 R14 h14 u14=>?_;refine Pj (env:=gn L f cdv) R14 a4 h14 ?_ fun t15 s15 R15 h15 u15=>?_
   ·rw [xj]; exact Nat.le_trans (show wd.length + 1<=1000 by omega) (by decide)
   rw [Pk];refine uO (env:=gn L f cdv) hf rfl R15 fun s16 m16 R16 e16 o16 u16=>?_;refine wpAny_execs_nil ⟨n.toNat - (i + 1),by omega,i + 1,lH l,wd ++ [ux l],_,t12,t15,rfl,hlt,R16,?_,(o16 "_law_letters" (by decide +kernel)).trans d1,(o16 "_law_left" (by decide +kernel)).trans e13,e16,h15,by rw [List.length_append]; simp; omega,?_⟩
   ·refine (u16 it (Ne.symm hLi)).trans ?_;rw [u15,u14];exact (u13 it (Ne.symm hLi)).trans wg
   ·have:n.toNat - i=(n.toNat - (i + 1)) + 1:=by omega
    rw [this,uy] at a6;exact a6
  ·have ei:i=n.toNat:=by omega
   refine wpAny_pyNext_range_end hh Ck (by omega) fun h' eb=>?_;have R10:Rw s1 L T { s9 with heap:=h' } mm':=R9.but hLi hne (fun b o hb e=>eb b o hb e) R9.tk
   refine wpAny_execs_nil ?_;show wpAny _ _ (execs _ _) _ _ _;refine wpAny_execs_cons (wpAny_Return_some (wpAny_Name (wpAny_loadName_local hf rfl R10.ns a3 ?_) (by decide)));refine ⟨tw,?_,a4,R10.kp,R10.os,R10.gens⟩;rw [ei,Nat.sub_self,uy] at a6;rw [a6]
theorem Pr {P:Program} {w:World} {K:PySem.W.Frag} {mg:Str->Option Value} {base:Heap} (hz:mg "range" = none) (F:Ent K mg "_law_name" eN ["_law_cell_here"]):zK P w K mg base 1 "_law_name" iU:=by
 obtain ⟨f,fd,hm,F,hb⟩:=F;have kp:=F.kp;obtain ⟨oc,od,kV,doc,pm,an,cdv,ct,osl,rfl,lk,hcd⟩:=F.ex;refine ⟨f,_, "_law_cell_here",hm,kp,hb,fun A outer s H args c t z hr e0 hbt hF=>?_⟩;have hzc:z=jt c:=by rw [Pn] at hF; cases hF; rfl
 subst hzc;have S:=wz;have KX:K.In s.heap:=e0.mod.kin.keeps fun b o e=>(e0.bs b o e).1;have lim:s.heap.NoLimit:=e0.mod.nolimit.keeps fun b o e=>(e0.bs b o e).1;have hkind:∀y∈[(("_law_cell_here" : Str),Value.int c t)],(ao eN).names.lookup y.1=some .local\/((ao eN).names.lookup y.1=some .cell/\((cellsFrom (s.heap.objs.size + 1) (ao eN).names []).lookup y.1).isSome=true):=fun y hy=>by
  have:y=(("_law_cell_here" : Str),Value.int c t):=by simpa using hy
  subst this;exact .inl rfl
 refine codeAny_call_function hr.depth (KX _ _ lk) rfl S.co S.gen rfl (PySem.W.codeRec_of KX hcd) (hbt _ _ _ _ ?_);refine wpAny_with_toks (n:=s.toks) (Nat.le_refl _) (wpAny_newFunctionEnv_cells S.kind hkind fun env he s1 x hs=>?_);subst he;refine ⟨lim.keeps x.toInCall.keep,codeAny_func ?_⟩;have I:Inv (bN (cA P w) P w K mg base ["_law_cell_here", "_law_letters", "_law_left", "_law_word", "_law_k"] "_law_name" (ao eN) f cdv A outer s H (fun _ _ _=>False)) [] (start ["_law_cell_here", "_law_letters", "_law_left", "_law_word", "_law_k"] [.int c]) H s1:=Ah (us:=[.int c t]) S hr.hd e0 rfl (.cons ⟨t,rfl⟩ .nil) x;obtain ⟨m,hn,hl⟩:=I.loc;obtain ⟨u,⟨t1,rfl⟩,lo⟩:=hl 0 "_law_cell_here" (.int c) rfl rfl (.inl rfl);have hm0:m "_law_cell_here" = some (.int c t1):=by
  rcases lo with ⟨_,q⟩ | ⟨q,_⟩
  ·exact q
  ·rcases q with q | q <;> cases q
 have R0:Rw s1 s.heap.objs.size s.toks s1 m:=⟨hn,fun b o _ e=>e,rfl,rfl,hs⟩;have kpb:∀b o,base.get? b=some o->b≠s.heap.objs.size/\s1.heap.get? b=some o:=fun b o e=>⟨Nat.ne_of_lt (Heap.lt_size (e0.bs b o e).1),I.bk b o e⟩;refine wpAny_mono (Pq (cdv:=cdv) (f:=f) (c:=c) (T:=s.toks) hr.hd hn.lt R0 hm0 fun s2 p Q E kk hq=>?_) (fun fl s' hq=>?_) fun _ _ z=>z.elim
 ·obtain ⟨mb,h1,h2⟩:=e0.mod.blt;have bk:∀b o,base.get? b=some o->s2.heap.get? b=some o:=fun b o e=>kk b o (kpb b o e).1 (kpb b o e).2;exact Calls.Name_function_global rfl rfl (Calls.loadGlobal_builtin (e0.mod.glob.keeps bk) hz (h1.keeps bk) ((h2 "range" (by decide)).trans boot_range) hq) (by decide)
 ·obtain ⟨t',rfl,ht,kk,ho,hg⟩:=hq;have kS:∀b u,s.heap.get? b=some u->s'.heap.get? b=some u:=fun b u e=>kk b u (Nat.ne_of_lt (Heap.lt_size e)) (x.toInCall.keep b u e);exact ⟨t',rfl,ht,ho.trans I.os,by rw [hg]; exact I.bare,Un.kept kS,e0.hok.kept kS⟩
end K29
namespace K29
open PySem PySem.Spec PyProof.Rows L2 DL Bk Mine
section
variable {P:Program} {w:World} {K:PySem.W.Frag} {mg:Str->Option Value} {base:Heap} {a:Adr}
noncomputable def jM (l:Addr) (v:V) (k:Addr):List (Str×V):=[("steps",.ref l),("scaffold",v),("kept",.ref k)]
noncomputable def oM (C:Addr):Sp:=fun vs H Q _=>∃b dx l kd v0 vr,vs=[.ref b,vr]/\H b=some (.ins C dx (jM l v0 kd))/\H kd=some (.dK []) /\
 ∀H' k',(∀c o,c≠b->H c=some o->H' c=some o)->H k'=none->H' b=some (.ins C dx (jM l vr k'))->H' k'=some (.dK [])->Q .non H'
theorem Pu (T:Txt K mg a) {C f:Addr} {fd:FuncData} (F:Fun K "lift" "Drawing.lift" gU f fd) (hcl:Cls K C) (n2:NoAttr K C "scaffold") (n3:NoAttr K C "kept"):FnOk P w K mg base (cA P w) 1 f fd ["self", "roots"] (oM C):=by
 obtain ⟨oc,od,kV,doc,pm,an,cdv,ct,osl,rfl,lk,hcd⟩:=F.ex;refine pC (k:=0) lk hcd sc_qo (fun vs H Q E ⟨b,dx,l,kd,v0,vr,h,_⟩=>by rw [h]; rfl) fun A outer s H vs Q E hr ⟨b,dx,l,kd,v0,vr,h,hb,hkd,hQ⟩=>?_;subst h;refine ⟨_,gq (hY' 2 (N':=["name", "place", "roots"]) (m:=2) (fr:=[1]) (BP (ao gU) ["self", "roots", "places"] rfl rfl rfl rfl rfl (by decide +kernel)) rfl sc_qo.nd) (gq (lJ (pv 0) (Oe rfl rfl T.z_dict (pv 2)) rfl) (uR (lJ (pv 0) (pv 1) rfl))),?_⟩;have hne:∀{c:Addr},H c=none->b≠c:=fun {c} hc=>jP hb hc;refine ⟨b,C,dx,_,kd,rfl,hb,hcl,n3,by kernel_rfl,hkd,fun p Hn hp sm hl=>?_⟩;refine ⟨.ref p,rfl,p,rfl,hl,fun k' hk'=>⟨.ref b,rfl,b,C,dx,jM l v0 kd,rfl,?_,hcl,n3,show 3 < 1000 by decide,?_⟩⟩
 ·rw [aL (fun z=>by subst z; rw [sm b _ hb] at hk'; cases hk')]; exact sm b _ hb
 have hbk:b≠k':=fun z=>by subst z; rw [sm b _ hb] at hk'; cases hk'
 have e1:bW "kept" (.ref k') (jM l v0 kd)=jM l v0 k':=by kernel_rfl
 rw [e1];refine ⟨vr,rfl,.ref b,rfl,b,C,dx,jM l v0 k',rfl,bR,hcl,n2,show 3 < 1000 by decide,?_⟩;have e2:bW "scaffold" vr (jM l v0 k')=jM l vr k':=by kernel_rfl
 rw [e2,L2.upd_upd];refine hQ _ k' (fun c o hc h=>?_) (sm.free hk') bR ?_
 ·have hck:c≠k':=fun z=>by subst z; rw [sm c o h] at hk'; cases hk'
  rw [aL hc,aL hck]; exact sm c o h
 ·rw [aL (Ne.symm hbk),bR]
theorem uA {p q:Prop} (h:q):if false=true then p else q:=by rw [if_neg Bool.false_ne_true]; exact h
noncomputable def zR:D:=.obj "Drawing" ["steps", "scaffold", "kept"] [.lst [],.tup [],.dic [] []]
noncomputable def ROW:Str:="point a 1 2"
noncomputable def stepD:D:=.obj "FirstPoint" ["words", "others", "wanted", "x", "y"] [.lst [.str "point",.str "a",.str "1",.str "2"],.lst [],.lst [],jl 1,jl 2]
noncomputable def jN:D:=.tup [.str "point",jl 1,jl 2]
noncomputable def j8:D:=.tup [.tup [],jN]
noncomputable def f0:DS->Res D:=(aq (aa (aj 1) (fun _=>.ok [])) d9)
noncomputable def f1:DS->Res Bool:=(aB (dO isD "is_full" n8 (aj 0) (aa (aq (aj 2) (fO cu)) (fun _=>.ok []))) aR)
noncomputable def f2:DS->Res Bool:=(aB (two (aq (aj 2) (cF aU "named" jG)) (aq (aj 0) (gk isD "kept")) v9) aF)
noncomputable def f3:DS->Res D:=(dO aM "done" ou (aj 2) (aa (aq (aj 0) (gk isD "scaffold")) (aa (aq (aa (aj 0) (aa (aq (aj 2) (cF aU "needs" (eG lB))) (aa (aq (aj 2) (cF aU "wants" (eG n6))) (fun _=>.ok [])))) nW) (fun _=>.ok []))))
noncomputable def f4:DS->Res Bool:=(aB (aq (aa (b_ (two (aj 3) (fun _=>.ok (.int 0)) bh) (cz (aq (aa (aq (aj 0) (gk isD "scaffold")) (fun _=>.ok [])) bO)) eU) (aa (two (aj 3) (fun _=>.ok (.int 1)) bh) (fun _=>.ok []))) oA) aR)
noncomputable def dA:DS:=[some (.val zR),some (.val (.str ROW)),some (.val stepD),none]
noncomputable def dB:DS:=[some (.val zR),some (.val (.str ROW)),some (.val stepD),some (.val j8)]
theorem v0 (b:Addr):f0 [some (.arg (.adr b)),some (.arg (.str ROW)),none,none]=.ok stepD:=by kernel_rfl
theorem v1:f1 dA=.ok false:=by kernel_rfl
theorem v2:f2 dA=.ok false:=by kernel_rfl
theorem v3:f3 dA=.ok j8:=by kernel_rfl
theorem v4:f4 dB=.ok false:=by kernel_rfl
theorem rep3 {K:PySem.W.Frag} {H:Hp} {a0 a1 a2:V} {x:Option V} {d0 d1 d2:D} (r0:Rep K H d0 a0) (r1:Rep K H d1 a1) (r2:Rep K H d2 a2):RepSt K H H [some a0,some a1,some a2,x] [some (.val d0),some (.val d1),some (.val d2),none] where
 same:=Same.refl H
 len:=rfl
 at_:=fun i sv h=>by
  match i with
  | 0=>cases h; exact ⟨a0,rfl,r0⟩
  | 1=>cases h; exact ⟨a1,rfl,r1⟩
  | 2=>cases h; exact ⟨a2,rfl,r2⟩
  | 3=>cases h
  | n + 4=>cases h
 sep:=fun i j ds es v _ h=>by
  match i with
  | 0=>cases h
  | 1=>cases h
  | 2=>cases h
  | 3=>cases h
  | n + 4=>cases h
theorem CT {K:PySem.W.Frag} {H:Hp} {a0 a1 a2 a3:V} {d0 d1 d2 d3:D} (r0:Rep K H d0 a0) (r1:Rep K H d1 a1) (r2:Rep K H d2 a2) (r3:Rep K H d3 a3):RepSt K H H [some a0,some a1,some a2,some a3] [some (.val d0),some (.val d1),some (.val d2),some (.val d3)] where
 same:=Same.refl H
 len:=rfl
 at_:=fun i sv h=>by
  match i with
  | 0=>cases h; exact ⟨a0,rfl,r0⟩
  | 1=>cases h; exact ⟨a1,rfl,r1⟩
  | 2=>cases h; exact ⟨a2,rfl,r2⟩
  | 3=>cases h; exact ⟨a3,rfl,r3⟩
  | n + 4=>cases h
 sep:=fun i j ds es v _ h=>by
  match i with
  | 0=>cases h
  | 1=>cases h
  | 2=>cases h
  | 3=>cases h
  | n + 4=>cases h
theorem xm {H:Hp} {C b dx l kd:Addr} {fs:List (Str×V)} {xs:List V} {kvs:List (Key×V)} (h1:H b=some (.ins C dx fs)) (h2:H dx=some (.own b)) (h3:H l=some (.lst xs)) (h4:H kd=some (.dK kvs)):Own H [b,dx,l,kd] where
 kind:=fun c hc=>by
  simp only [List.mem_cons,List.not_mem_nil,or_false] at hc;rcases hc with rfl | rfl | rfl | rfl
  ·exact ⟨_,h1,trivial⟩
  ·exact ⟨_,h2,trivial⟩
  ·exact ⟨_,h3,trivial⟩
  ·exact ⟨_,h4,trivial⟩
 cl:=fun c hc y hy=>by
  simp only [List.mem_cons,List.not_mem_nil,or_false] at hc;rcases hc with rfl | rfl | rfl | rfl
  ·rw [h1] at hy; cases hy
  ·rw [h2] at hy; cases hy; exact ⟨by simp,C,fs,h1⟩
  ·rw [h3] at hy; cases hy
  ·rw [h4] at hy; cases hy
 ins:=fun c hc C' dx' fs' hy=>by
  simp only [List.mem_cons,List.not_mem_nil,or_false] at hc;rcases hc with rfl | rfl | rfl | rfl
  ·rw [h1] at hy; cases hy; simp
  ·rw [h2] at hy; cases hy
  ·rw [h3] at hy; cases hy
  ·rw [h4] at hy; cases hy
theorem own1 {H:Hp} {k:Addr} {kvs:List (Key×V)} (h:H k=some (.dK kvs)):Own H [k] where
 kind:=fun c hc=>by cases List.mem_singleton.mp hc; exact ⟨_,h,trivial⟩
 cl:=fun c hc y hy=>by cases List.mem_singleton.mp hc; rw [h] at hy; cases hy
 ins:=fun c hc C' dx' fs' hy=>by cases List.mem_singleton.mp hc; rw [h] at hy; cases hy
theorem Ho {H:Hp} {C b dx l t kd:Addr} (hC:PySem.W.nsIn K mainGlobals "Drawing" = some (some (.ref C))) (h1:H b=some (.ins C dx (jM l (.ref t) kd))) (h3:H l=some (.lst [])) (h5:H t=some (.tup [])) (h4:H kd=some (.dK [])):Rep K H zR (.ref b):=by
 unfold zR;rw [Rep];refine ⟨b,C,dx,[.ref l,.ref t,.ref kd],rfl,hC,h1,rfl,Reps.cons (jT (SqL.of h3) Reps.nil) (Reps.cons (iJ (SqT.of h5) Reps.nil) (Reps.cons ?_ Reps.nil))⟩;rw [Rep]; exact ⟨kd,[],rfl,h4,rfl,Reps.nil⟩
noncomputable def xq (K:PySem.W.Frag) (C:Addr):Sp:=fun vs H Q _=>∃b dx l t kd,vs=[.ref b,.str ROW]/\H b=some (.ins C dx (jM l (.ref t) kd))/\H dx=some (.own b)/\H l=some (.lst [])/\H t=some (.tup [])/\H kd=some (.dK []) /\
 ∀H',(∀c o,c≠b->c≠l->H c=some o->H' c=some o)->Rep K H' dz (.ref b)->Q .non H'
noncomputable def dC:DS:=[none,none,some (.val stepD),some (.val j8)]
theorem no' {K:PySem.W.Frag} {H:Hp} {b:Addr} {t:Str}:RepSt K H H [some (.ref b),some (.str t),none,none] [some (.arg (.adr b)),some (.arg (.str t)),none,none] where
 same:=Same.refl H
 len:=rfl
 at_:=fun i sv h=>by
  match i with
  | 0=>cases h; refine ⟨_,rfl,?_⟩; show Rep K H (.adr b) (.ref b); rw [Rep]
  | 1=>cases h; refine ⟨_,rfl,?_⟩; show Rep K H (.str t) (.str t); exact rH
  | 2=>cases h
  | 3=>cases h
  | n + 4=>cases h
 sep:=fun i j ds es v _ h=>by
  match i with
  | 0=>cases h
  | 1=>cases h
  | 2=>cases h
  | 3=>cases h
  | n + 4=>cases h
theorem CV {K:PySem.W.Frag} {H:Hp} {a2 a3:V} {x y:Option V} {d2 d3:D} (r2:Rep K H d2 a2) (r3:Rep K H d3 a3):RepSt K H H [x,y,some a2,some a3] [none,none,some (.val d2),some (.val d3)] where
 same:=Same.refl H
 len:=rfl
 at_:=fun i sv h=>by
  match i with
  | 0=>cases h
  | 1=>cases h
  | 2=>cases h; exact ⟨a2,rfl,r2⟩
  | 3=>cases h; exact ⟨a3,rfl,r3⟩
  | n + 4=>cases h
 sep:=fun i j ds es v _ h=>by
  match i with
  | 0=>cases h
  | 1=>cases h
  | 2=>cases h
  | 3=>cases h
  | n + 4=>cases h
theorem CW:two (aj 3) (fun _=>.ok (.int 0)) bh dB=.ok (.tup []):=by kernel_rfl
theorem CZ:two (aj 3) (fun _=>.ok (.int 1)) bh dC=.ok jN:=by kernel_rfl
theorem Px:aq (aj 2) (cF aU "named" jG) dC=.ok (.str "a"):=by kernel_rfl
theorem Py (T:Txt K mg a) {C f fl:Addr} {fd fdl:FuncData} (F:Fun K "add" "Drawing.add" iD f fd) (hC:PySem.W.nsIn K mainGlobals "Drawing" = some (some (.ref C))) (hcl:Cls K C) (n1:NoAttr K C "steps") (n2:NoAttr K C "scaffold") (n3:NoAttr K C "kept")
  (L:FnOk P w K mg base (cA P w) 1 fl fdl ["self", "roots"] (oM C)) (Lb:Binds K fdl ["self", "roots"] []) (Lm:Meth K C "lift" fl) (G_qQ:bx P w K mg base 7 "step_of" d9) (G_qe:g8 P w K mg base 1 isD "is_full" n8) (G_qy:g8 P w K mg base 1 aU "named" jG) (G_qf:g8 P w K mg base 2 aM "done" ou) (G_qT:bx P w K mg base 1 "found" nW) (G_qz:gm P w K mg base 1 aU "needs" lB) (G_qA:gm P w K mg base 1 aU "wants" n6) (G_qK:bx P w K mg base 4 "are_great" oA):FnOk P w K mg base (cA P w) 8 f fd ["self", "thing"] (xq K C):=by
 obtain ⟨oc,od,kV,doc,pm,an,cdv,ct,osl,rfl,lk,hcd⟩:=F.ex;refine pC (k:=7) lk hcd sc_qu (fun vs H Q E ⟨b,dx,l,t,kd,h,_⟩=>by rw [h]; rfl) fun A outer s H vs Q E hr ⟨b,dx,l,t,kd,h,hb,hdx,hl,ht,hkd,hQ⟩=>?_;subst h;refine ⟨_,gq (z9 (i:=2) sc_qu.nd rfl (Or.inl rfl) (PD.hid (cl G_qQ hr (az (au 1) aG)))) (gq (zX (PTD.ptx (jb (pW G_qe hr (au 0) (az (gB T.i_u (au 2) (h_ rfl T.m_u) rfl T.z_isinstance) aG)))) Cj o_) (gq (zX (PTD.ptx (dJ Oh Og (B_ G_qy hr (au 2)) (lY T.o_kept (au 0)) (by with_unfolding_all rfl))) Cj o_) (gq (z9 (i:=3) sc_qu.nd rfl (Or.inl rfl) (PD.pex (pW G_qf hr (au 2) (az (lY T.o_scaffold (au 0)) (az (cl G_qT hr (az (au 0) (az (PDL.pd (rY G_qz hr (au 2))) (az (PDL.pd (rY G_qA hr (au 2))) aG)))) aG))))) (gq (zX (PTD.ptx (jb (cl G_qK hr (az (qQ (cL (au 3) aV) (oR (fG iM iK rfl T.z_len (by decide +kernel) (az (lY T.o_scaffold (au 0)) aG))) uH) (az (cL (au 3) aV) aG))))) Cj o_) (gq (ph (Dp (pv 0) hcl Lm L (hr.mono (by decide)) Lb .nil zy (pB (PD.pex (cL (au 3) aV)) u9))) (gq (ph (JK PySem.F.plainAttrs_list PySem.F.slot_list_append PySem.F.type_list_append DK (Af (pv 0) rfl) (pB (pv 2) u9))) (uR (JW (JQ hr) (Af (pv 0) rfl) (PD.pex (B_ G_qy hr (au 2))) (PD.pex (cL (au 3) aV)) rfl)))))))),?_⟩;have W0:=xm (H:=H) hb hdx hl hkd;have htL:∀{H':Hp},H' t=some (.tup [])->Own H' [b,dx,l,kd]->t∉[b,dx,l,kd]:=fun {H'} h w z=>by
  obtain ⟨o,e,k⟩:=w.kind t z;rw [h] at e; cases e; exact k
 refine ⟨[b,dx,l,kd],[some (.arg (.adr b)),some (.arg (.str ROW)),none,none],stepD,W0,no',v0 b,fun x2 H1 sm nn r2=>?_⟩;have bL:b∈[b,dx,l,kd]:=by simp
 have dL:dx∈[b,dx,l,kd]:=by simp
 have lL:l∈[b,dx,l,kd]:=by simp
 have kL:kd∈[b,dx,l,kd]:=by simp
 have s12:Same H1 (iT H1 H [b,dx,l,kd]):=fun c o h=>by
  rw [vZ fun z=>?_]
  ·exact h
  ·rw [nn c z] at h; cases h
 have s02:Same H (iT H1 H [b,dx,l,kd]):=fun c o h=>by
  by_cases z:c∈[b,dx,l,kd]
  ·rw [zH z]; exact h
  ·rw [vZ z]; exact sm c o (by rw [oX z]; exact h)
 generalize hH2:iT H1 H [b,dx,l,kd]=H2 at s12 s02;have RA:∀{H':Hp},Same H2 H'->RepSt K H' H' [some (.ref b),some (.str ROW),some x2,none] dA:=fun {H'} e =>
  rep3 (Ho hC (e _ _ (s02 _ _ hb)) (e _ _ (s02 _ _ hl)) (e _ _ (s02 _ _ ht)) (e _ _ (s02 _ _ hkd))) rH ((r2.mono s12).mono e)
 refine ⟨H2,dA,false,RA (Same.refl _),v1,fun H3 s3=>?_⟩;refine uA ?_;refine ⟨H3,dA,false,RA s3,v2,fun H4 s4=>?_⟩;refine uA ?_;refine ⟨H4,dA,j8,RA (s3.trans s4),v3,fun x3 H5 s5 r3=>?_⟩;have s25:=(s3.trans s4).trans s5;have RB:∀{H':Hp},Same H5 H'->RepSt K H' H' [some (.ref b),some (.str ROW),some x2,some x3] dB:=fun {H'} e =>
  CT (Ho hC (e _ _ (s25 _ _ (s02 _ _ hb))) (e _ _ (s25 _ _ (s02 _ _ hl))) (e _ _ (s25 _ _ (s02 _ _ ht))) (e _ _ (s25 _ _ (s02 _ _ hkd)))) rH ((r2.mono s12).mono (s25.trans e)) (r3.mono e)
 refine ⟨H5,dB,false,RB (Same.refl _),v4,fun H6 s6=>?_⟩;refine uA ?_;refine ⟨.ref b,rfl,b,dx,jM l (.ref t) kd,rfl,s6 _ _ (s25 _ _ (s02 _ _ hb)),rfl,H6,dB,.tup [],RB s6,CW,fun xr H7 s7 rr=>?_⟩;have s27:=(s25.trans s6).trans s7;have s07:=s02.trans s27;have r27:=(r2.mono s12).mono s27;have r37:=r3.mono (s6.trans s7);have W7:Own H7 [b,dx,l,kd]:=xm (s07 _ _ hb) (s07 _ _ hdx) (s07 _ _ hl) (s07 _ _ hkd);refine ⟨b,dx,l,kd,.ref t,xr,rfl,s07 _ _ hb,s07 _ _ hkd,fun H8 k' kp hk' hb8 hk8=>?_⟩;have hbl:l≠b:=fun z=>by subst z; rw [hb] at hl; cases hl
 have hl8:H8 l=some (.lst []):=kp l _ hbl (s07 _ _ hl);have hkl:k'≠l:=fun z=>by subst z; rw [s07 _ _ hl] at hk'; cases hk'
 have hkb:k'≠b:=fun z=>by subst z; rw [s07 _ _ hb] at hk'; cases hk'
 refine ⟨.ref b,rfl,b,C,dx,jM l xr k',.ref l,rfl,hb8,hcl,n1,rfl,.inl ⟨rfl,_,SqL.of hl8⟩,x2,rfl,l,[],x2,rfl,rfl,hl8,by decide,?_⟩;have k9:∀c o,c≠b->c≠l->H7 c=some o->upd H8 l (.lst ([] ++ [x2])) c=some o:=fun c o h1 h2 h=>by rw [aL h2]; exact kp c o h1 h
 generalize hH9:upd H8 l (.lst ([] ++ [x2]))=H9 at k9;have hb9:H9 b=some (.ins C dx (jM l xr k')):=by rw [<- hH9,aL (Ne.symm hbl)]; exact hb8
 have hl9:H9 l=some (.lst [x2]):=by rw [<- hH9,bR]; rfl
 have hk9:H9 k'=some (.dK []):=by rw [<- hH9,aL hkl]; exact hk8
 have s19:Same H1 H9:=fun c o h=>k9 c o (fun z=>by subst z; rw [nn _ bL] at h; cases h) (fun z=>by subst z; rw [nn _ lL] at h; cases h) (s27 _ _ (s12 _ _ h));have s79:Same (hidL H7 [b,dx,l,kd]) H9:=fun c o h=>by
  have z:c∉[b,dx,l,kd]:=fun z=>by rw [vY z] at h; cases h
  rw [oX z] at h;exact k9 c o (fun y=>z (by rw [y]; exact bL)) (fun y=>z (by rw [y]; exact lL)) h
 have RC:∀{H':Hp},Same H9 H'->RepSt K H' H' [some (.ref b),some (.str ROW),some x2,some x3] dC:=fun {H'} e=>CV ((r2.mono s19).mono e) (((Rep.hidL W7 rfl r37).mono s79).mono e);refine ⟨H9,dC,jN,RC (Same.refl _),CZ,fun xp Ha sa rp=>?_⟩;refine ⟨.ref b,rfl,b,C,dx,jM l xr k',.ref k',rfl,sa _ _ hb9,hcl,n3,rfl,Ha,dC,.str "a",RC sa,Px,fun xn Hb sb rn=>?_⟩;rw [cI rn];have s9b:=sa.trans sb;refine ⟨k',upd Hb k' (.dK [(Sum.inr "a",xp)]),rfl,DPut.k (k:=Sum.inr "a") (s9b _ _ hk9) (by decide),hQ _ (fun c o h1 h2 h=>?_) ?_⟩
 ·have hc:c≠k':=fun z=>by subst z; rw [s07 _ _ h] at hk'; cases hk'
  rw [aL hc]; exact s9b _ _ (k9 c o h1 h2 (s07 _ _ h))
 have Wk:Own Hb [k']:=own1 (s9b _ _ hk9);have sbe:Same (hidL Hb [k']) (upd Hb k' (.dK [(Sum.inr "a",xp)])):=fun c o h=>by
  have z:c∉[k']:=fun z=>by rw [vY z] at h; cases h
  rw [oX z] at h;rw [aL fun y=>z (by rw [y]; exact List.mem_singleton.mpr rfl)]; exact h
 have s1e:Same H1 (upd Hb k' (.dK [(Sum.inr "a",xp)])):=fun c o h=>by
  have hc:c≠k':=fun z=>by subst z; rw [s27 _ _ (s12 _ _ h)] at hk'; cases hk'
  rw [aL hc]; exact s9b _ _ (s19 _ _ h)
 have rre:=(((Rep.hidL W7 rfl rr).mono s79).mono s9b);unfold dz;rw [Rep];refine ⟨b,C,dx,[.ref l,xr,.ref k'],rfl,hC,?_,rfl,Reps.cons (jT (SqL.of ?_) (Reps.cons (r2.mono s1e) Reps.nil)) (Reps.cons ((Rep.hidL Wk rfl rre).mono sbe) (Reps.cons ?_ Reps.nil))⟩
 ·rw [aL (Ne.symm hkb)]; exact s9b _ _ hb9
 ·rw [aL (Ne.symm hkl)]; exact s9b _ _ hl9
 ·rw [Rep]; exact ⟨k',[xp],rfl,bR,rfl,Reps.cons ((Rep.hidL Wk rfl (rp.mono sb)).mono sbe) Reps.nil⟩
theorem Pz {X:Cx} {st1 st2:Stmt} {rest:List Stmt} {t1 t2:TS} {fr:DS->Out} {i:Nat} {d:D} (h1:PS X.nox st1 t1) (h2:PS X.nox st2 t2)
  (hx:∀(σ:L2.St) (H:Hp) (E:Ends),i < σ.length->(∀v H',Same H H'->Rep X.K H' d v->E.nx (σ.set i (some v)) H')->t1 { E with nx:=t2 E } σ H)
  (hi:i < X.N.length) (hr:PSDs X rest fr):PSDs X (st1 :: st2 :: rest) (mj i d fr):=by
 intro pins s σ G H δ I R hs
 let E:Ends:={ nx:=fun σ' H'=>∃v,σ'=σ.set i (some v)/\Same H H'/\Rep X.K H' d v,rt:=fun _ _=>False }
 refine wpAny_execs_cons (wpAny_mono (h1 (pins ++ f9 X H s.heap) s σ H { E with nx:=t2 E } (I.all.wish _) (hx σ H E (by rw [I.len]; exact hi) fun v H' sm r=>⟨v,rfl,sm,r⟩)) (fun fl s1 p=>?_) fun _ _ z=>z.elim)
 cases fl with
 | brk=>obtain ⟨_,_,_,z⟩:=p; exact z.elim
 | cont=>obtain ⟨_,_,_,z⟩:=p; exact z.elim
 | ret u=>obtain ⟨_,_,_,_,_,z⟩:=p; exact z.elim
 | next =>
  obtain ⟨σ1,H1,I1,q1⟩:=p;refine wpAny_execs_cons (wpAny_mono (h2 _ s1 σ1 H1 E I1 q1) (fun fl s2 p=>?_) fun _ _ z=>z.elim)
  cases fl with
  | brk=>obtain ⟨_,_,_,z⟩:=p; exact z.elim
  | cont=>obtain ⟨_,_,_,z⟩:=p; exact z.elim
  | ret u=>obtain ⟨_,_,_,_,_,z⟩:=p; exact z.elim
  | next =>
   obtain ⟨σ2,H2,I2,v,e,sm,r⟩:=p;subst e;have I3:=I2.unwish;exact wpAny_mono (hr pins s2 _ G H2 _ I3.unpinned ((R.mono sm).set i r) hs) (fun fl s3 p2=>p2.from sm.tk rfl) fun e s3 p2=>p2.from sm.tk (I.backTo I3) rfl
theorem PB (T:Txt K mg a) (N:OkDr P w K mg base 2 "Drawing" "steps" "scaffold" "kept") (FA:cU K isD "add" "Drawing.add" iD ["self", "thing"]) (FL:cU K isD "lift" "Drawing.lift" gU ["self", "roots"])
  (G_qQ:bx P w K mg base 7 "step_of" d9) (G_qe:g8 P w K mg base 1 isD "is_full" n8) (G_qy:g8 P w K mg base 1 aU "named" jG) (G_qf:g8 P w K mg base 2 aM "done" ou) (G_qT:bx P w K mg base 1 "found" nW) (G_qz:gm P w K mg base 1 aU "needs" lB) (G_qA:gm P w K mg base 1 aU "wants" n6) (G_qK:bx P w K mg base 4 "are_great" oA):oK P w K mg base:=by
 obtain ⟨C,fi,fdi,M,Fi,Bi,hm,hC,hcl,n1,n2,n3⟩:=N;obtain ⟨fa,fda,Fa,Ba,OA⟩:=FA;obtain ⟨fl,fdl,Fl,Bl,OL⟩:=FL;have A1:=Py (P:=P) (w:=w) (base:=base) T Fa hC hcl n1 n2 n3 (Pu T Fl hcl n2 n3) Bl (OL "Drawing" rfl C hC).2 G_qQ G_qe G_qy G_qf G_qT G_qz G_qA G_qK;intro f cdv A outer s H E hr rest fr hrest;refine Pz (z9 (i:=1) sc_law.nd rfl (Or.inl rfl) (Jr M Fi (hr.mono (by decide)) rfl hm Bi .nil zy)) (ph (Dp (pv 1) hcl (OA "Drawing" rfl C hC).2 A1 (hr.mono (by decide)) Ba .nil zy (pB Dc u9))) (fun σ H E hi hE=>?_) (by show 1 < 5; decide) hrest;intro x dx hx hdx hne;have hxd:x≠dx:=Ne.symm hne;have u1:upd (upd H dx (.own x)) x (.ins C dx []) dx=some (.own x):=by rw [aL hne,bR]
 have sm0:∀c o,H c=some o->upd (upd H dx (.own x)) x (.ins C dx []) c=some o:=fun c o h=>by
  rw [aL (fun z=>by subst z; rw [hx] at h; cases h),aL (fun z=>by subst z; rw [hdx] at h; cases h)]; exact h
 refine ⟨x,dx,rfl,bR,fun l t k H' hl ht hk kp ha h1 h2 h3=>⟨rfl,?_⟩⟩;have hlx:l≠x:=fun z=>by subst z; rw [bR] at hl; cases hl
 have hl0:H l=none:=by
  rw [aL hlx] at hl
  by_cases z:l=dx
  ·subst z; rw [bR] at hl; cases hl
  ·rw [aL z] at hl; exact hl
 refine ⟨.ref x,(by rw [List.getElem?_set_self hi]),x,dx,jM l (.ref t) k,rfl,ha,rfl,x,dx,l,t,k,rfl,ha,kp dx _ hne u1,h1,h2,h3,fun H2 k2 rp=>?_⟩;exact hE (.ref x) H2 (fun c o h=>k2 c o (fun z=>by subst z; rw [hx] at h; cases h) (fun z=>by subst z; rw [hl0] at h; cases h) (kp c o (fun z=>by subst z; rw [hx] at h; cases h) (sm0 c o h))) rp
theorem xu {K:PySem.W.Frag} {h:Heap} {mg:Str->Option Value} {x:Str} {st:Stmt} (X:K.In h) (G:h.Ns mainGlobals mg) (L:Lk K x st) (hb:∀(kV doc pm:Value) (an:Option Addr) (cdv ct:Value),bindArgs (PySem.W.fnOf x x (aX st) (aD st) (ao st) .none kV doc pm an cdv ct) ⟨[],[]⟩=pure []:=by intros; rfl):Ent K mg x st []:=by
 obtain ⟨f,fd,n,F⟩:=L;exact ⟨f,fd,PySem.W.mg_of X G n,F,F.binds fun _ _ _ _ _ _ us hl=>match us,hl with | [],_=>hb _ _ _ _ _ _⟩
@[irreducible] def zaa:=@DL.PSDs
theorem zab:@DL.PSDs=@zaa:=by with_unfolding_all rfl
@[irreducible] def zac:=@DL.PSD
theorem zad:@DL.PSD=@zac:=by with_unfolding_all rfl
@[irreducible] def zae:=@DL.PD
theorem zaf:@DL.PD=@zae:=by with_unfolding_all rfl
@[irreducible] def zag:=@DL.PAD
theorem zah:@DL.PAD=@zag:=by with_unfolding_all rfl
@[irreducible] def zai:=@DL.PTD
theorem zaj:@DL.PTD=@zai:=by with_unfolding_all rfl
theorem zak {X:Cx} {a:List Stmt} {f:DS->Out} (h:zaa X a f):DL.PSDs X a f:=by rw [zab]; exact h
theorem zal {X:Cx} {a:List Stmt} {f:DS->Out} (h:DL.PSDs X a f):zaa X a f:=by rw [←zab]; exact h
def Ax:=zaj▸@DL.Ax
def B_:=zaf▸@DL.B_
def Bm:=zab▸@DL.Bm
def Bo:=zad▸zah▸@DL.Bo
def Cg:=zab▸@DL.Cg
def Ci:=zaf▸@DL.Ci
def Ep:=zab▸zad▸zah▸@DL.Ep
def Fp:=zad▸zaf▸@DL.Fp
def Gb:=zah▸@DL.Gb
def Gg:=zaf▸@DL.Gg
def J9:=zaf▸@DL.J9
def J_:=zaf▸@DL.J_
def K4:=zad▸zaf▸@DL.K4
def Lz:=zaf▸@DL.Lz
def Mf:=zad▸zaf▸@DL.Mf
def Ms:=zah▸@DL.Ms
def Mv:=zaf▸@DL.Mv
def Mx:=zad▸zaf▸zaj▸@DL.Mx
def NT:=zaf▸zah▸@DL.NT
def Ng:=zab▸@DL.Ng
def Nh:=zaf▸zah▸@DL.Nh
def Ni:=zaf▸@DL.Ni
def Nr:=zah▸@DL.Nr
def Nx:=zab▸zad▸@DL.Nx
def Ny:=zab▸@DL.Ny
def PAD.pax:=zah▸@DL.PAD.pax
def PDL.pd:=zaf▸@DL.PDL.pd
def PSD.psx:=zad▸@DL.PSD.psx
def PWD.pt:=zaj▸@DL.PWD.pt
def aG:=zah▸@DL.aG
def aV:=zaf▸@DL.aV
def aZ:=zah▸@DL.aZ
def au:=zaf▸@DL.au
def az:=zaf▸zah▸@DL.az
def bU:=zad▸zaf▸@DL.bU
def bf:=zab▸zad▸@DL.bf
def bs':=zaj▸@DL.bs'
def bz:=zab▸zad▸@DL.bz
def cC:=zaf▸@DL.cC
def cL:=zaf▸@DL.cL
def cM:=zad▸zaf▸@DL.cM
def cl:=zaf▸zah▸@DL.cl
def dJ:=zaf▸zaj▸@DL.dJ
def di:=zaf▸zah▸@DL.di
def eS':=zaj▸@DL.eS'
def eY:=zaf▸@DL.eY
def ed':=zab▸zad▸zaj▸@DL.ed'
def fG:=zaf▸zah▸@DL.fG
def fH:=zab▸zad▸zaj▸@DL.fH
def fJ:=zab▸@DL.fJ
def fV:=zab▸@DL.fV
def fd':=zab▸zad▸@DL.fd'
def gB:=zaf▸@DL.gB
def hE':=zaf▸@DL.hE'
def hH':=zaf▸@DL.hH'
def hj':=zaf▸@DL.hj'
def hy':=zad▸zah▸@DL.hy'
def jb:=zaf▸zaj▸@DL.jb
def jy:=zaf▸@DL.jy
def kz':=zab▸zad▸@DL.kz'
def lK:=zaf▸@DL.lK
def lU:=zaf▸@DL.lU
def lY:=zaf▸@DL.lY
def oO:=zaj▸@DL.oO
def oR:=zaf▸@DL.oR
def oV:=zaf▸@DL.oV
def pJ:=zaf▸zah▸@DL.pJ
def pW:=zaf▸zah▸@DL.pW
def qQ:=zaf▸@DL.qQ
def rF:=zaf▸@DL.rF
def rG:=zaj▸@DL.rG
def rY:=zaf▸@DL.rY
def uF:=zaf▸@DL.uF
def uG:=zaf▸zah▸@DL.uG
def uI:=zaf▸zah▸@DL.uI
def uJ:=zab▸@DL.uJ
def vC:=zaf▸zaj▸@DL.vC
def vP:=zaf▸@DL.vP
def yU:=zaf▸zah▸@DL.yU
def yX:=zad▸zaf▸@DL.yX
theorem xx (T:Txt K mg a) (F:Ent K mg "ten_times_itself" mq ["many"]) :
  bx P w K mg base 1 "ten_times_itself" sW:=by
 have q:=fJ P w base 0 sV F sc_qa fun _ _ _ _ _ _ _ hr=>by
  unfold sV;exact (bf (cM 1 aV sc_qa.nd) (bf (Ep rfl rfl T.z_range (az (au 0) aG) (kI 2 sc_qa.nd) (bz (Mf 1 Ma Ec aV sc_qa.nd))) (bz (bU (au 1)))))
 exact q
theorem xF (T:Txt K mg a) (F:Ent K mg "common" my ["a", "b"]) :
  bx P w K mg base 1 "common" sS:=by
 have q:=fJ P w base 0 sO F sc_qR fun _ _ _ _ _ _ _ hr=>by
  unfold sO;exact (bf (cM 2 (fG yV yW rfl T.z_abs (by decide +kernel) (az (au 0) aG)) sc_qR.nd) (bf (cM 3 (fG yV yW rfl T.z_abs (by decide +kernel) (az (au 1) aG)) sc_qR.nd) (bf (ed' iB (dJ (rO hr.units) cN' (au 3) aV (dD _)) (bf (cM 4 (cC pI pH (au 2) (au 3)) sc_qR.nd) (bf (cM 2 (au 3) sc_qR.nd) (bz (cM 3 (au 4) sc_qR.nd))))) (bz (bU (au 2))))))
 exact q
theorem xG (T:Txt K mg a) (F:Ent K mg "lifted" mz ["x", "many"]) :
  bx P w K mg base 1 "lifted" p7:=by
 have q:=fJ P w base 0 sU F wk fun _ _ _ _ _ _ _ hr=>by
  unfold sU;exact (bz (bU (pJ (az (cC fU fQ (cL (au 0) aV) (cC vO vN (pJ (az aV aG)) (cC Kf Kc (cC Km Ke aV (au 1)) (fG iM iK rfl T.z_len (by decide +kernel) (az (cL (au 0) aV) aG))))) (az (cL (au 0) aV) aG)))))
 exact q
theorem xH (T:Txt K mg a) (F:Ent K mg "is_plain" mD ["part"]) :
  bx P w K mg base 1 "is_plain" p_:=by
 have q:=fJ P w base 0 sY F wu fun _ _ _ _ _ _ _ hr=>by
  unfold sY;exact (bf (fH (PWD.pt (oO (dJ (bm' hr.units) iQ (au 0) eY (dD _)) (oO (dJ Bc (cn' _) (fG iM iK rfl T.z_len (by decide +kernel) (az (au 0) aG)) (vP rfl T.m_MOST_FIGURES) (dD _)) (rG (jb (uG PySem.F.plainAttrs_str PySem.F.slot_str_startswith PySem.F.type_str_startswith Fb EY (au 0) (az eY aG))))))) (bz (bU lK)) fV) (bz (bU (fG (hi' rfl) Bx rfl T.z_all (by decide +kernel) (az (uF (N':=["letter"]) (m:=1) (fr:=[]) rQ rfl (qP (by decide)) (lU (au 0)) (fun _ _ _ _=>kI 0 (show List.Nodup (["letter"]:List Str) by decide +kernel)) (fun _ _ _ _=>(rF (FN hr.units) FJ (au 0) (hE' rfl T.m_FIGURES) (by with_unfolding_all rfl)))) aG)))))
 exact q
theorem xJ (T:Txt K mg a) (F:Ent K mg "figures_of" mF ["n"]) :
  bx P w K mg base 1 "figures_of" qi:=by
 have q:=fJ P w base 0 sZ F sc_qv fun _ _ _ _ _ _ _ hr=>by
  unfold sZ;exact (bf (cM 1 (cC Kl Kd aV aV) sc_qv.nd) (bf (hy' 2 aG sc_qv.nd) (bf (cM 3 (au 0) sc_qv.nd) (bf (ed' iG (dJ Ef (cn' _) (au 3) (au 1) (dD _)) (bf (Fp 2 (uG PySem.F.plainAttrs_str PySem.F.slot_str_zfill PySem.F.type_str_zfill Le Ld (yU Fg ne_str rfl T.z_str (by decide +kernel) (az (cC pI pH (au 3) (au 1)) aG)) (az aV aG))) (bz (cM 3 (cC uE uD (au 3) (au 1)) sc_qv.nd)))) (bf (Fp 2 (yU Fg ne_str rfl T.z_str (by decide +kernel) (az (au 3) aG))) (bz (bU (Lz rfl rfl T.z_reversed (au 2)))))))))
 exact q
theorem xK (T:Txt K mg a) (F:Ent K mg "is_name" mG ["word"]) :
  bx P w K mg base 1 "is_name" jn:=by
 have q:=fJ P w base 0 nU F wy fun _ _ _ _ _ _ _ hr=>by
  unfold nU;exact (bf (fH (PWD.pt (oO (dJ (bm' hr.units) iQ (au 0) eY (dD _)) (rG (dJ Bc (cn' _) (fG iM iK rfl T.z_len (by decide +kernel) (az (au 0) aG)) (vP rfl T.m_MOST_LETTERS) (dD _))))) (bz (bU lK)) fV) (bz (bU (fG (hi' rfl) Bx rfl T.z_all (by decide +kernel) (az (uF (N':=["letter"]) (m:=1) (fr:=[]) rQ rfl (qP (by decide)) (lU (au 0)) (fun _ _ _ _=>kI 0 (show List.Nodup (["letter"]:List Str) by decide +kernel)) (fun _ _ _ _=>(rF (FN hr.units) FJ (au 0) (hE' rfl T.m_LETTERS) (by with_unfolding_all rfl)))) aG)))))
 exact q
theorem xM (T:Txt K mg a) (F:Ent K mg "found" mH ["drawing", "names", "wanted"]) :
  bx P w K mg base 1 "found" nW:=by
 have q:=fJ P w base 0 tu F sc_qT fun _ _ _ _ _ _ _ hr=>by
  unfold tu;exact (bf (hy' 3 aG sc_qT.nd) (bf (fd' rfl (Nr rfl T.z_zip (az (au 1) (az (au 2) aG))) (El rfl (fun _=>(y_ 4 sc_qT.nd (y_ 5 sc_qT.nd Ek)))) Cg) (bz (bU (au 3)))))
 exact q
theorem xN (T:Txt K mg a) (F:Ent K mg "_law_stir" mJ ["_law_cell_here", "_law_k"]) :
  bx P w K mg base 1 "_law_stir" gW:=by
 have q:=fJ P w base 0 nY F sc_qN fun _ _ _ _ _ _ _ hr=>by
  unfold nY;exact (bf (cM 2 aV sc_qN.nd) (bf (cM 3 (cC fU fQ aV (cC vO vN (au 1) aV)) sc_qN.nd) (bf (cM 4 (cC vO vN (cC fU fQ (cC pI pH (au 0) (au 2)) aV) (au 3)) sc_qN.nd) (bz (bU (cC pI pH (cC vO vN (cC pI pH (au 4) (au 2)) aV) (au 2)))))))
 exact q
theorem xO (T:Txt K mg a) (F:Ent K mg "_law_name" eN ["_law_cell_here"]):zK P w K mg base 1 "_law_name" iU:=Pr T.z_range F
theorem xP (T:Txt K mg a) (F:Ent K mg "_law_which" mK ["_law_e"]) :
  zG P w K mg base 1 "_law_which" qj:=by
 have q:=Ng P w base 0 tD F sc_qD fun _ _ _ _ _ _ _ hr=>by
  unfold tD;exact (bf (cM 1 (di (az (gB T.i_b (au 0) (h_ rfl T.m_b) rfl T.z_isinstance) (az (gB T.i_c (au 0) (h_ rfl T.m_c) rfl T.z_isinstance) (az (gB T.i_d (au 0) (h_ rfl T.m_d) rfl T.z_isinstance) (az (gB T.i_e (au 0) (h_ rfl T.m_e) rfl T.z_isinstance) aG))))) sc_qD.nd) (bf (cM 1 (cC fU fQ (au 1) (di (az (gB T.i_f (au 0) (h_ rfl T.m_f) rfl T.z_isinstance) (az (gB T.i_g (au 0) (h_ rfl T.m_g) rfl T.z_isinstance) (az (gB T.i_h (au 0) (h_ rfl T.m_h) rfl T.z_isinstance) (az (gB T.i_i (au 0) (h_ rfl T.m_i) rfl T.z_isinstance) aG)))))) sc_qD.nd) (bf (cM 1 (cC fU fQ (au 1) (di (az (gB T.i_j (au 0) (h_ rfl T.m_j) rfl T.z_isinstance) (az (gB T.i_k (au 0) (h_ rfl T.m_k) rfl T.z_isinstance) (az (gB T.i_l (au 0) (h_ rfl T.m_l) rfl T.z_isinstance) (az (gB T.i_m (au 0) (h_ rfl T.m_m) rfl T.z_isinstance) aG)))))) sc_qD.nd) (bf (cM 1 (cC fU fQ (au 1) (di (az (gB T.i_n (au 0) (h_ rfl T.m_n) rfl T.z_isinstance) (az (gB T.i_o (au 0) (h_ rfl T.m_o) rfl T.z_isinstance) (az (gB T.i_p (au 0) (h_ rfl T.m_p) rfl T.z_isinstance) (az (gB T.i_q (au 0) (h_ rfl T.m_q) rfl T.z_isinstance) aG)))))) sc_qD.nd) (bz (bU (cC fU fQ (au 1) (di (az (gB T.i_r (au 0) (h_ rfl T.m_r) rfl T.z_isinstance) (az (gB T.i_s (au 0) (h_ rfl T.m_s) rfl T.z_isinstance) (az (gB T.i_a (au 0) (h_ rfl T.m_a) rfl T.z_isinstance) (az (gB T.i_ValueError (au 0) (hh' rfl T.z_ValueError (by decide +kernel)) rfl T.z_isinstance) aG))))))))))))
 exact q
theorem xQ (T:Txt K mg a) (F:Ent K mg "_law_class" jX ["_law_word"]) :
  bx P w K mg base 1 "_law_class" ql:=by
 have q:=fJ P w base 0 tE F sc_qE fun _ _ _ _ _ _ _ hr=>by
  unfold tE;exact (bf (cM 1 (di (aZ (aZ (aZ (aZ (aZ (aZ (aZ (aZ (aZ (aZ aG))))))))))) sc_qE.nd) (bf (cM 1 (cC fU fQ (au 1) (di (aZ (aZ (aZ (aZ (aZ (aZ (aZ (aZ aG)))))))))) sc_qE.nd) (bz (bU (cC fU fQ (uF (N':=["_law_one", "_law_word"]) (m:=1) (fr:=[0]) (BP (ao jX) ["_law_word", "_law_some"] rfl rfl rfl rfl rfl (by decide +kernel)) rfl (qP (by decide)) (lU (au 1)) (fun _ _ _ _=>kI 0 (show List.Nodup (["_law_one", "_law_word"]:List Str) by decide +kernel)) (fun _ _ _ _=>(rF (bm' hr.units) iQ (au 1) (au 0) (dD _)))) (di (az lK (az lK aG))))))))
 exact q
theorem xR (T:Txt K mg a) (F:Ent K mg "_law_points" mL []) :
  bx P w K mg base 1 "_law_points" qm:=by
 have q:=fJ P w base 0 tG F sc_qw fun _ _ _ _ _ _ _ hr=>by
  unfold tG;exact (bf (cM 0 (di (aZ (aZ (aZ (aZ (aZ (aZ (aZ (aZ (aZ aG)))))))))) sc_qw.nd) (bf (cM 0 (cC fU fQ (au 0) (di (aZ (aZ (aZ (aZ (aZ (aZ aG)))))))) sc_qw.nd) (bf (cM 0 (cC fU fQ (au 0) (di (aZ (aZ (aZ (aZ (aZ (aZ aG)))))))) sc_qw.nd) (bz (bU (cC fU fQ (au 0) (di (aZ (aZ (aZ (az (cC fU fQ eY (cC hK' hI' eY aV)) (aZ (aZ aG)))))))))))))
 exact q
theorem xT (T:Txt K mg a) (F:Ent K mg "_law_others" mO []) :
  bx P w K mg base 1 "_law_others" qp:=by
 have q:=fJ P w base 0 tK F sc_qx fun _ _ _ _ _ _ _ hr=>by
  unfold tK;exact (bf (cM 0 (di (aZ (aZ (aZ (aZ (aZ (aZ aG))))))) sc_qx.nd) (bf (cM 0 (cC fU fQ (au 0) (di (aZ (aZ (aZ (aZ (aZ (aZ aG)))))))) sc_qx.nd) (bf (cM 0 (cC fU fQ (au 0) (di (aZ (aZ (aZ (aZ (aZ aG))))))) sc_qx.nd) (bf (cM 0 (cC fU fQ (au 0) (di (aZ (aZ (aZ (aZ (aZ aG))))))) sc_qx.nd) (bf (cM 0 (cC fU fQ (au 0) (di (aZ (aZ (aZ (az (cC fU fQ eY (cC hK' hI' eY aV)) (aZ (aZ aG)))))))) sc_qx.nd) (bz (bU (au 0))))))))
 exact q
theorem xU (T:Txt K mg a) (F:cU K aU "text" "Step.text" jY ["self"]) :
  g8 P w K mg base 1 aU "text" tM:=by
 have q:=uJ P w (mg:=mg) base 0 tL F wA fun _ _ _ _ _ _ _ hr=>by
  unfold tL;exact (bz (bU (uG PySem.F.plainAttrs_str PySem.F.slot_str_join PySem.F.type_str_join M4 kN' eY (az (lY T.o_words (au 0)) aG))))
 exact q
theorem xV (T:Txt K mg a) (F:cU K aU "named" "Step.named" jZ ["self"]) :
  g8 P w K mg base 1 aU "named" jG:=by
 have q:=uJ P w (mg:=mg) base 0 tO F wB fun _ _ _ _ _ _ _ hr=>by
  unfold tO;exact (bz (bU (cL (lY T.o_words (au 0)) aV)))
 exact q
theorem xW (T:Txt K mg a) (F:cU K aU "needs" "Step.needs" j0 ["self"]) :
  gm P w K mg base 1 aU "needs" lB:=by
 have q:=sr P w (mg:=mg) base 0 tQ F wC fun _ _ _ _ _ _ _ hr=>by
  unfold tQ;exact (Ca (Gb rfl T.z_list (az (lY T.o_others (au 0)) aG)))
 exact q
theorem xX (T:Txt K mg a) (F:cU K aU "wants" "Step.wants" j4 ["self"]) :
  gm P w K mg base 1 aU "wants" n6:=by
 have q:=sr P w (mg:=mg) base 0 tR F wD fun _ _ _ _ _ _ _ hr=>by
  unfold tR;exact (Ca (Gb rfl T.z_list (az (lY T.o_wanted (au 0)) aG)))
 exact q
theorem xY (T:Txt K mg a) (F:cU K isD "is_full" "Drawing.is_full" jm ["self", "first"]) :
  g8 P w K mg base 1 isD "is_full" n8:=by
 have q:=uJ P w (mg:=mg) base 0 tU F sc_qe fun _ _ _ _ _ _ _ hr=>by
  unfold tU;exact (bf (Mx 2 (N':=["step", "first"]) (m:=1) (fr:=[1]) (BP (ao jm) ["self", "first", "alike"] rfl rfl rfl rfl rfl (by decide +kernel)) rfl (qP (by decide)) (lU (lY T.o_steps (au 0))) (fun _ _ _ _=>kI 0 (show List.Nodup (["step", "first"]:List Str) by decide +kernel)) (fun _ _ _ _=>(dJ (bm' hr.units) iQ (gB T.i_u (au 0) (h_ rfl T.m_u) rfl T.z_isinstance) (au 1) (dD _))) (fun _ _ _ _=>(au 0)) sc_qe.nd) (bz (bU (rF (bm' hr.units) iQ (fG iM iK rfl T.z_len (by decide +kernel) (az (au 2) aG)) (vC (jb (au 1)) (vP rfl T.m_MOST_POINTS) (vP rfl T.m_MOST_OTHERS)) (dD _)))))
 exact q
theorem xZ (T:Txt K mg a) (F:cU K isD "lift" "Drawing.lift" gU ["self", "roots"]) :
  g8 P w K mg base 1 isD "lift" xf:=by
 have q:=uJ P w (mg:=mg) base 0 tV F sc_qo fun _ _ _ _ _ _ _ hr=>by
  unfold tV;exact Cg
 exact q
theorem x_ (T:Txt K mg a) (F:Ent K mg "has_more_figures" mQ ["n", "many"]) (G_qa:bx P w K mg base 1 "ten_times_itself" sW) :
  bx P w K mg base 2 "has_more_figures" tX:=by
 have q:=fJ P w base 1 tW F wF fun _ _ _ _ _ _ _ hr=>by
  unfold tW;exact (bz (bU (rF Ef (cn' _) (fG yV yW rfl T.z_abs (by decide +kernel) (az (au 0) aG)) (cl G_qa hr (az (au 1) aG)) (dD _))))
 exact q
theorem yc (T:Txt K mg a) (F:Ent K mg "are_parts" mR ["parts"]) (G_qM:bx P w K mg base 1 "is_plain" p_) :
  bx P w K mg base 2 "are_parts" tZ:=by
 have q:=fJ P w base 1 tY F wG fun _ _ _ _ _ _ _ hr=>by
  unfold tY;exact (bf (fH (dJ Bc (cn' _) (fG iM iK rfl T.z_len (by decide +kernel) (az (au 0) aG)) aV (dD _)) (bz (bU lK)) fV) (bf (fH (PWD.pt (eS' (dJ (bm' hr.units) iQ (fG iM iK rfl T.z_len (by decide +kernel) (az (au 0) aG)) aV (dD _)) (Ax (bs' (jb (cl G_qM hr (az (cL (au 0) aV) aG))))))) (bz (bU lK)) fV) (bz (bU (J_ (rF (bm' hr.units) iQ (cL (au 0) aV) eY (dD _)) (J9 (cl G_qM hr (az (cL (au 0) aV) aG))))))))
 exact q
theorem yd (T:Txt K mg a) (F:Ent K mg "fraction_text" mU ["x"]) (G_qv:bx P w K mg base 1 "figures_of" qi) :
  bx P w K mg base 2 "fraction_text" lC:=by
 have q:=fJ P w base 1 t6 F sc_qk fun _ _ _ _ _ _ _ hr=>by
  unfold t6;exact (bf (cM 1 (cL (cL (au 0) aV) aV) sc_qk.nd) (bf (cM 2 (cL (au 0) aV) sc_qk.nd) (bf (cM 3 (vC (dJ Bb (cn' _) (au 1) aV (dD _)) eY eY) sc_qk.nd) (bf (cM 4 (vC (dJ (bm' hr.units) iQ (au 2) aV (dD _)) eY (cC fU fQ eY (cl G_qv hr (az (au 2) aG)))) sc_qk.nd) (bz (bU (cC fU fQ (cC fU fQ (au 3) (cl G_qv hr (az (fG yV yW rfl T.z_abs (by decide +kernel) (az (au 1) aG)) aG))) (au 4))))))))
 exact q
theorem ye (T:Txt K mg a) (F:Ent K mg "are_names" mV ["words"]) (G_qP:bx P w K mg base 1 "is_name" jn) :
  bx P w K mg base 2 "are_names" jo:=by
 have q:=fJ P w base 1 t8 F wH fun _ _ _ _ _ _ _ hr=>by
  unfold t8;exact (bz (bU (fG (hi' rfl) Bx rfl T.z_all (by decide +kernel) (az (uF (N':=["word"]) (m:=1) (fr:=[]) rQ rfl (qP (by decide)) (lU (au 0)) (fun _ _ _ _=>kI 0 (show List.Nodup (["word"]:List Str) by decide +kernel)) (fun _ _ _ _=>(cl G_qP hr (az (au 0) aG)))) aG))))
 exact q
theorem yf (T:Txt K mg a) (F:Ent K mg "_law_cell" mW ["_law_script", "_law_k"]) (G_qN:bx P w K mg base 1 "_law_stir" gW) :
  bx P w K mg base 2 "_law_cell" jJ:=by
 have q:=fJ P w base 1 jH F wI fun _ _ _ _ _ _ _ hr=>by
  unfold jH;exact (bf (fH (dJ Bb (cn' _) (au 1) (fG iM iK rfl T.z_len (by decide +kernel) (az (au 0) aG)) (dD _)) (bz (bU (cL (au 0) (au 1)))) fV) (bz (bU (cl G_qN hr (az aV (az (au 1) aG))))))
 exact q
theorem yg (T:Txt K mg a) (F:Ent K mg "_law_thing" mX ["_law_cell_here"]) (G_qw:bx P w K mg base 1 "_law_points" qm) (G_qx:bx P w K mg base 1 "_law_others" qp) (G_qO:zK P w K mg base 1 "_law_name" iU) :
  bx P w K mg base 2 "_law_thing" jK:=by
 have q:=fJ P w base 1 n_ F sc_qI fun _ _ _ _ _ _ _ hr=>by
  unfold n_;exact (bf (cM 1 (di (az jy (az lK (az lK (az aV (az (hj' aV) (az (di aG) (az (di (aZ (aZ (aZ (aZ aG))))) (az (pJ (aZ (aZ (aZ (aZ aG))))) (az Mv (az (di (az eY aG)) aG))))))))))) sc_qI.nd) (bf (cM 2 (cC fU fQ (Gg G_qw hr) (Gg G_qx hr)) sc_qI.nd) (bf (fH (dJ (bm' hr.units) iQ (cC pI pH (au 0) aV) aV (dD _)) (bz (bU (cL (au 1) (cC pI pH (cC uE uD (au 0) aV) aV)))) fV) (bz (bU (NT G_qO hr (cL (au 2) (cC pI pH (cC uE uD (au 0) aV) (fG iM iK rfl T.z_len (by decide +kernel) (az (au 2) aG)))) (NP (NK (NB Nz))) (az (cC uE uD (au 0) aV) aG)))))))
 exact q
theorem yh (T:Txt K mg a) (F:cU K isD "rows" "Drawing.rows" j5 ["self"]) (G_qF:g8 P w K mg base 1 aU "text" tM) :
  gm P w K mg base 2 isD "rows" oh:=by
 have q:=sr P w (mg:=mg) base 1 t_ F wJ fun _ _ _ _ _ _ _ hr=>by
  unfold t_;exact (Ca (Ni (N':=["step"]) (m:=1) (fr:=[]) rQ rfl (qP (by decide)) (lU (lY T.o_steps (au 0))) (fun _ _ _ _=>kI 0 (show List.Nodup (["step"]:List Str) by decide +kernel)) (fun _ _ _ _=>(B_ G_qF hr (au 0)))))
 exact q
theorem yj (T:Txt K mg a) (F:cU K aM "done" "FirstPoint.done" j6 ["self", "roots", "given"]) (G_qS:bx P w K mg base 1 "lifted" p7) :
  g8 P w K mg base 2 aM "done" ou:=by
 have q:=uJ P w (mg:=mg) base 1 uc F wK fun _ _ _ _ _ _ _ hr=>by
  unfold uc;exact (bz (bU (pJ (az (au 1) (az (cC fU fQ (oV rfl T.m_POINT) (pJ (az (cl G_qS hr (az (lY T.o_x (au 0)) (az (fG iM iK rfl T.z_len (by decide +kernel) (az (au 1) aG)) aG))) (az (cl G_qS hr (az (lY T.o_y (au 0)) (az (fG iM iK rfl T.z_len (by decide +kernel) (az (au 1) aG)) aG))) aG)))) aG)))))
 exact q
theorem ym (T:Txt K mg a) (F:Ent K mg "fraction_read" mY ["text"]) (G_qG:bx P w K mg base 2 "are_parts" tZ) (G_qR:bx P w K mg base 1 "common" sS) :
  bx P w K mg base 3 "fraction_read" ue:=by
 have q:=fJ P w base 2 ud F sc_ql fun _ _ _ _ _ _ _ hr=>by
  unfold ud;exact (bf (cM 1 (uG PySem.F.plainAttrs_str PySem.F.slot_str_startswith PySem.F.type_str_startswith Fb EY (au 0) (az eY aG)) sc_ql.nd) (bf (cM 2 (vC (jb (au 1)) (qQ (au 0) (oR aV) uH) (au 0)) sc_ql.nd) (bf (cM 3 (uG PySem.F.plainAttrs_str PySem.F.slot_str_split PySem.F.type_str_split Ff E_ (au 2) (az eY aG)) sc_ql.nd) (bf (fH (bs' (jb (cl G_qG hr (az (au 3) aG)))) (bz (Bo rfl PySem.F.excBase_ValueError T.n_c T.x_c rfl T.m_c (az (hH' (au 0)) aG) (by decide) (hlen:=fun δ ds h=>BJ h))) fV) (bf (cM 4 (yU Fj ne_int rfl T.z_int (by decide +kernel) (az (cL (au 3) aV) aG)) sc_ql.nd) (bf (cM 5 (vC (dJ (bm' hr.units) iQ (fG iM iK rfl T.z_len (by decide +kernel) (az (au 3) aG)) aV (dD _)) (yU Fj ne_int rfl T.z_int (by decide +kernel) (az (cL (au 3) aV) aG)) aV) sc_ql.nd) (bf (cM 6 (cl G_qR hr (az (au 4) (az (au 5) aG))) sc_ql.nd) (bf (fH (jb (au 1)) (bz (cM 4 (hj' (au 4)) sc_ql.nd)) fV) (bz (bU (pJ (az (pJ (az (cC uE uD (au 4) (au 6)) aG)) (az (cC uE uD (au 5) (au 6)) aG)))))))))))))
 exact q
theorem yo (T:Txt K mg a) (F:Ent K mg "has_great" mZ ["wholes"]) (G_qb:bx P w K mg base 2 "has_more_figures" tX) :
  bx P w K mg base 3 "has_great" qt:=by
 have q:=fJ P w base 2 uf F wL fun _ _ _ _ _ _ _ hr=>by
  unfold uf;exact (bz (bU (fG (hD' rfl) hC' rfl T.z_any (by decide +kernel) (az (uF (N':=["n"]) (m:=1) (fr:=[]) rQ rfl (qP (by decide)) (lU (au 0)) (fun _ _ _ _=>kI 0 (show List.Nodup (["n"]:List Str) by decide +kernel)) (fun _ _ _ _=>(cl G_qb hr (az (au 0) (az (vP rfl T.m_MOST_FIGURES_TOLD) aG))))) aG))))
 exact q
theorem yp (T:Txt K mg a) (F:ik K mg "LineThrough" "LineThrough.__init__" m8 ["self", "name", "one", "other"] ((["words", "others", "wanted"]:List Str) ++ ([]:List (Str×Nat)).map (·.1))) (GB:qU P w K mg base 1 "Step" "words" "others" "wanted") :
  jh P w K mg base 2 "LineThrough" ((["words", "others", "wanted"]:List Str) ++ ([]:List (Str×Nat)).map (·.1)) (gI 3 bB (([]:List (Str×Nat)).map (·.2))) :=
 uK 1 bB ([]:List (Str×Nat)) F wM (by decide +kernel) (by decide) fun f cdv A outer s H E hr=>gq (ph (lg GB hr (pB (pv 0) (PAD.pax (az (di (aZ (az (au 1) (az (au 2) (az (au 3) aG))))) (az (di (az (au 2) (az (au 3) aG))) (az (di (az (oV rfl T.m_POINT) (az (oV rfl T.m_POINT) aG))) aG))))))) o_
theorem yq (T:Txt K mg a) (F:ik K mg "RingThrough" "RingThrough.__init__" m9 ["self", "name", "one", "other"] ((["words", "others", "wanted"]:List Str) ++ ([]:List (Str×Nat)).map (·.1))) (GB:qU P w K mg base 1 "Step" "words" "others" "wanted") :
  jh P w K mg base 2 "RingThrough" ((["words", "others", "wanted"]:List Str) ++ ([]:List (Str×Nat)).map (·.1)) (gI 3 bC (([]:List (Str×Nat)).map (·.2))) :=
 uK 1 bC ([]:List (Str×Nat)) F wN (by decide +kernel) (by decide) fun f cdv A outer s H E hr=>gq (ph (lg GB hr (pB (pv 0) (PAD.pax (az (di (aZ (az (au 1) (az (au 2) (az (au 3) aG))))) (az (di (az (au 2) (az (au 3) aG))) (az (di (az (oV rfl T.m_POINT) (az (oV rfl T.m_POINT) aG))) aG))))))) o_
theorem yr (T:Txt K mg a) (F:ik K mg "MeetOfLines" "MeetOfLines.__init__" m_ ["self", "name", "one", "other"] ((["words", "others", "wanted"]:List Str) ++ ([]:List (Str×Nat)).map (·.1))) (GB:qU P w K mg base 1 "Step" "words" "others" "wanted") :
  jh P w K mg base 2 "MeetOfLines" ((["words", "others", "wanted"]:List Str) ++ ([]:List (Str×Nat)).map (·.1)) (gI 3 bD (([]:List (Str×Nat)).map (·.2))) :=
 uK 1 bD ([]:List (Str×Nat)) F wO (by decide +kernel) (by decide) fun f cdv A outer s H E hr=>gq (ph (lg GB hr (pB (pv 0) (PAD.pax (az (di (aZ (az (au 1) (az (au 2) (az (au 3) aG))))) (az (di (az (au 2) (az (au 3) aG))) (az (di (az (oV rfl T.m_LINE) (az (oV rfl T.m_LINE) aG))) aG))))))) o_
theorem yt (T:Txt K mg a) (F:ik K mg "MeetWithRing" "MeetWithRing.__init__" ni ["self", "name", "one", "other", "word"] ((["words", "others", "wanted"]:List Str) ++ ([("word",3)]:List (Str×Nat)).map (·.1))) (GB:qU P w K mg base 1 "Step" "words" "others" "wanted") :
  jh P w K mg base 2 "MeetWithRing" ((["words", "others", "wanted"]:List Str) ++ ([("word",3)]:List (Str×Nat)).map (·.1)) (gI 4 bu (([("word",3)]:List (Str×Nat)).map (·.2))) :=
 uK 1 bu ([("word",3)]:List (Str×Nat)) F wQ (by decide +kernel) (by decide) fun f cdv A outer s H E hr=>gq (ph (lg GB hr (pB (pv 0) (PAD.pax (az (di (aZ (az (au 1) (az (au 2) (az (au 3) (az (au 4) aG)))))) (az (di (az (au 2) (az (au 3) aG))) (az (di (az (oV rfl T.m_LINE_OR_RING) (az (oV rfl T.m_RING) aG))) aG))))))) (gq (lJ (pv 0) (pv 4) rfl) o_)
theorem PJ (F:ik K mg "Drawing" "Drawing.__init__" nj ["self"] ["steps", "scaffold", "kept"]):OkDr P w K mg base 2 "Drawing" "steps" "scaffold" "kept" :=
 N5 1 F wR (by decide) (by decide) (by decide) fun f cdv A outer s H E=>gq (lJ (pv 0) (lN' u9) rfl) (gq (lJ (pv 0) (Jq u9) rfl) (uR (lJ (pv 0) JZ rfl)))
theorem yu (T:Txt K mg a) (F:Ent K mg "step_of_line" nu ["words"]) (G_qH:bx P w K mg base 2 "are_names" jo) (G_qg:jh P w K mg base 2 "LineThrough" ((["words", "others", "wanted"]:List Str) ++ ([]:List (Str×Nat)).map (·.1)) (gI 3 bB (([]:List (Str×Nat)).map (·.2)))) :
  bx P w K mg base 4 "step_of_line" qu:=by
 have q:=fJ P w base 3 ug F wU fun _ _ _ _ _ _ _ hr=>by
  unfold ug;exact (bf (fH (PWD.pt (oO (dJ (rO hr.units) cN' (fG iM iK rfl T.z_len (by decide +kernel) (az (au 0) aG)) aV (dD _)) (rG (bs' (jb (cl G_qH hr (az (qQ (au 0) (oR aV) uH) aG))))))) (bz (bU jy)) fV) (bz (bU (uI G_qg hr (az (cL (au 0) aV) (az (cL (au 0) aV) (az (cL (au 0) aV) aG)))))))
 exact q
theorem yw (T:Txt K mg a) (F:Ent K mg "step_of_meet" nA ["words"]) (G_qH:bx P w K mg base 2 "are_names" jo) (G_qi:jh P w K mg base 2 "MeetOfLines" ((["words", "others", "wanted"]:List Str) ++ ([]:List (Str×Nat)).map (·.1)) (gI 3 bD (([]:List (Str×Nat)).map (·.2)))) (G_qc:jh P w K mg base 2 "MeetWithRing" ((["words", "others", "wanted"]:List Str) ++ ([("word",3)]:List (Str×Nat)).map (·.1)) (gI 4 bu (([("word",3)]:List (Str×Nat)).map (·.2)))) :
  bx P w K mg base 4 "step_of_meet" qw:=by
 have q:=fJ P w base 3 uh F wV fun _ _ _ _ _ _ _ hr=>by
  unfold uh;exact (bf (fH (PWD.pt (eS' (dJ (bm' hr.units) iQ (fG iM iK rfl T.z_len (by decide +kernel) (az (au 0) aG)) aV (dD _)) (Ax (jb (cl G_qH hr (az (qQ (au 0) (oR aV) uH) aG)))))) (bz (bU (uI G_qi hr (az (cL (au 0) aV) (az (cL (au 0) aV) (az (cL (au 0) aV) aG)))))) fV) (bf (fH (PWD.pt (oO (dJ (rO hr.units) cN' (fG iM iK rfl T.z_len (by decide +kernel) (az (au 0) aG)) aV (dD _)) (oO (bs' (jb (cl G_qH hr (az (qQ (au 0) (oR aV) (oR aV)) aG)))) (rG (dJ hS' M5 (cL (au 0) aV) (pJ (az eY (az eY aG))) (by with_unfolding_all rfl)))))) (bz (bU jy)) fV) (bz (bU (uI G_qc hr (az (cL (au 0) aV) (az (cL (au 0) aV) (az (cL (au 0) aV) (az (cL (au 0) aV) aG)))))))))
 exact q
theorem yz (T:Txt K mg a) (F:Ent K mg "fraction_or_none" nD ["word"]) (G_ql:bx P w K mg base 3 "fraction_read" ue) :
  bx P w K mg base 4 "fraction_or_none" lD:=by
 have q:=fJ P w base 3 um F wW fun _ _ _ _ _ _ _ hr=>by
  unfold um;exact (bz (Nx rfl ⟨rfl,rfl⟩ rfl T.m_c T.s_c (bz (bU (cl G_ql hr (az (au 0) aG)))) (fun _=>(bz (bU jy)))))
 exact q
theorem yC (T:Txt K mg a) (F:Ent K mg "are_great" nF ["new_roots", "place"]) (G_qJ:bx P w K mg base 3 "has_great" qt) :
  bx P w K mg base 4 "are_great" oA:=by
 have q:=fJ P w base 3 uo F sc_qK fun _ _ _ _ _ _ _ hr=>by
  unfold uo;exact (bf (fd' rfl (lU (au 0)) (kI 2 sc_qK.nd) (bz (fH (jb (cl G_qJ hr (az (au 2) aG))) (bz (bU lK)) fV))) (bz (bU (fG (hD' rfl) hC' rfl T.z_any (by decide +kernel) (az (uF (N':=["number"]) (m:=1) (fr:=[]) rQ rfl (qP (by decide)) (lU (qQ (au 1) (oR aV) uH)) (fun _ _ _ _=>kI 0 (show List.Nodup (["number"]:List Str) by decide +kernel)) (fun _ _ _ _=>(cl G_qJ hr (az (cC fU fQ (cL (au 0) aV) (pJ (az (cL (au 0) aV) aG))) aG)))) aG)))))
 exact q
theorem yD (T:Txt K mg a) (F:ik K mg "FirstPoint" "FirstPoint.__init__" nG ["self", "name", "x", "y"] ((["words", "others", "wanted"]:List Str) ++ ([("x",1),("y",2)]:List (Str×Nat)).map (·.1))) (G_qk:bx P w K mg base 2 "fraction_text" lC) (GB:qU P w K mg base 1 "Step" "words" "others" "wanted") :
  jh P w K mg base 3 "FirstPoint" ((["words", "others", "wanted"]:List Str) ++ ([("x",1),("y",2)]:List (Str×Nat)).map (·.1)) (gI 3 bG (([("x",1),("y",2)]:List (Str×Nat)).map (·.2))) :=
 uK 2 bG ([("x",1),("y",2)]:List (Str×Nat)) F wX (by decide +kernel) (by decide) fun f cdv A outer s H E hr=>gq (ph (lg GB hr (pB (pv 0) (PAD.pax (az (di (aZ (az (au 1) (az (cl G_qk hr (az (au 2) aG)) (az (cl G_qk hr (az (au 3) aG)) aG))))) (az (di aG) (az (di aG) aG))))))) (gq (lJ (pv 0) (pv 2) rfl) (gq (lJ (pv 0) (pv 3) rfl) o_))
theorem yE (T:Txt K mg a) (F:ik K mg "RingBy" "RingBy.__init__" nH ["self", "name", "one", "square"] ((["words", "others", "wanted"]:List Str) ++ ([("square",2)]:List (Str×Nat)).map (·.1))) (G_qk:bx P w K mg base 2 "fraction_text" lC) (GB:qU P w K mg base 1 "Step" "words" "others" "wanted") :
  jh P w K mg base 3 "RingBy" ((["words", "others", "wanted"]:List Str) ++ ([("square",2)]:List (Str×Nat)).map (·.1)) (gI 3 cJ (([("square",2)]:List (Str×Nat)).map (·.2))) :=
 uK 2 cJ ([("square",2)]:List (Str×Nat)) F wY (by decide +kernel) (by decide) fun f cdv A outer s H E hr=>gq (ph (lg GB hr (pB (pv 0) (PAD.pax (az (di (aZ (az (au 1) (az (au 2) (aZ (az (cl G_qk hr (az (au 3) aG)) aG)))))) (az (di (az (au 2) aG)) (az (di (az (oV rfl T.m_POINT) aG)) aG))))))) (gq (lJ (pv 0) (pv 3) rfl) o_)
theorem yF (T:Txt K mg a) (F:Ent K mg "step_of_point" nJ ["words"]) (G_qd:bx P w K mg base 4 "fraction_or_none" lD) (G_qj:jh P w K mg base 3 "FirstPoint" ((["words", "others", "wanted"]:List Str) ++ ([("x",1),("y",2)]:List (Str×Nat)).map (·.1)) (gI 3 bG (([("x",1),("y",2)]:List (Str×Nat)).map (·.2)))) :
  bx P w K mg base 5 "step_of_point" qx:=by
 have q:=fJ P w base 4 uq F sc_qm fun _ _ _ _ _ _ _ hr=>by
  unfold uq;exact (bf (fH (dJ (rO hr.units) cN' (fG iM iK rfl T.z_len (by decide +kernel) (az (au 0) aG)) aV (dD _)) (bz (bU jy)) fV) (bf (cM 1 (cl G_qd hr (az (cL (au 0) aV) aG)) sc_qm.nd) (bf (cM 2 (cl G_qd hr (az (cL (au 0) aV) aG)) sc_qm.nd) (bf (fH (PWD.pt (oO (dJ zF zE (au 1) jy (dD _)) (rG (dJ zF zE (au 2) jy (dD _))))) (bz (bU jy)) fV) (bz (bU (uI G_qj hr (az (cL (au 0) aV) (az (au 1) (az (au 2) aG))))))))))
 exact q
theorem yG (T:Txt K mg a) (F:Ent K mg "step_of_ring" nM ["words"]) (G_qH:bx P w K mg base 2 "are_names" jo) (G_qh:jh P w K mg base 2 "RingThrough" ((["words", "others", "wanted"]:List Str) ++ ([]:List (Str×Nat)).map (·.1)) (gI 3 bC (([]:List (Str×Nat)).map (·.2)))) (G_qP:bx P w K mg base 1 "is_name" jn) (G_qd:bx P w K mg base 4 "fraction_or_none" lD) (G_qC:jh P w K mg base 3 "RingBy" ((["words", "others", "wanted"]:List Str) ++ ([("square",2)]:List (Str×Nat)).map (·.1)) (gI 3 cJ (([("square",2)]:List (Str×Nat)).map (·.2)))) :
  bx P w K mg base 5 "step_of_ring" qy:=by
 have q:=fJ P w base 4 ur F sc_qs fun _ _ _ _ _ _ _ hr=>by
  unfold ur;exact (bf (fH (PWD.pt (eS' (dJ (bm' hr.units) iQ (fG iM iK rfl T.z_len (by decide +kernel) (az (au 0) aG)) aV (dD _)) (Ax (jb (cl G_qH hr (az (qQ (au 0) (oR aV) uH) aG)))))) (bz (bU (uI G_qh hr (az (cL (au 0) aV) (az (cL (au 0) aV) (az (cL (au 0) aV) aG)))))) fV) (bf (fH (PWD.pt (oO (dJ (rO hr.units) cN' (fG iM iK rfl T.z_len (by decide +kernel) (az (au 0) aG)) aV (dD _)) (oO (bs' (jb (cl G_qP hr (az (cL (au 0) aV) aG)))) (rG (dJ (rO hr.units) cN' (cL (au 0) aV) eY (dD _)))))) (bz (bU jy)) fV) (bf (cM 1 (cl G_qd hr (az (cL (au 0) aV) aG)) sc_qs.nd) (bf (fH (dJ zF zE (au 1) jy (dD _)) (bz (bU jy)) fV) (bz (bU (uI G_qC hr (az (cL (au 0) aV) (az (cL (au 0) aV) (az (au 1) aG))))))))))
 exact q
theorem yH (T:Txt K mg a) (F:Ent K mg "step_of_words" nO ["words"]) (G_qP:bx P w K mg base 1 "is_name" jn) (G_qm:bx P w K mg base 5 "step_of_point" qx) (G_qq:bx P w K mg base 4 "step_of_line" qu) (G_qs:bx P w K mg base 5 "step_of_ring" qy) (G_qr:bx P w K mg base 4 "step_of_meet" qw) :
  bx P w K mg base 6 "step_of_words" jq:=by
 have q:=fJ P w base 5 oE F wZ fun _ _ _ _ _ _ _ hr=>by
  unfold oE;exact (bf (fH (PWD.pt (oO (dJ Bb (cn' _) (fG iM iK rfl T.z_len (by decide +kernel) (az (au 0) aG)) aV (dD _)) (rG (bs' (jb (cl G_qP hr (az (cL (au 0) aV) aG))))))) (bz (bU jy)) fV) (bf (fH (dJ (bm' hr.units) iQ (cL (au 0) aV) eY (dD _)) (bz (bU (cl G_qm hr (az (au 0) aG)))) fV) (bf (fH (dJ (bm' hr.units) iQ (cL (au 0) aV) eY (dD _)) (bz (bU (cl G_qq hr (az (au 0) aG)))) fV) (bf (fH (dJ (bm' hr.units) iQ (cL (au 0) aV) eY (dD _)) (bz (bU (cl G_qs hr (az (au 0) aG)))) fV) (bf (fH (dJ (bm' hr.units) iQ (cL (au 0) aV) eY (dD _)) (bz (bU (cl G_qr hr (az (au 0) aG)))) fV) (bz (bU jy)))))))
 exact q
theorem yI (T:Txt K mg a) (F:Ent K mg "step_of" nP ["thing"]) (G_qn:bx P w K mg base 6 "step_of_words" jq) :
  bx P w K mg base 7 "step_of" d9:=by
 have q:=fJ P w base 6 oF F sc_qQ fun _ _ _ _ _ _ _ hr=>by
  unfold oF;exact (bf (fH (bs' (jb (gB T.i_str (au 0) (hh' rfl T.z_str (by decide +kernel)) rfl T.z_isinstance))) (bz (Bo rfl PySem.F.excBase_ValueError T.n_h T.x_h rfl T.m_h (az eY aG) (by decide) (hlen:=fun δ ds h=>BJ h))) fV) (bf (cM 1 (cl G_qn hr (az (uG PySem.F.plainAttrs_str PySem.F.slot_str_split PySem.F.type_str_split Ff E_ (au 0) (az eY aG)) aG)) sc_qQ.nd) (bf (fH (dJ zF zE (au 1) jy (dD _)) (bz (Bo rfl PySem.F.excBase_ValueError T.n_h T.x_h rfl T.m_h (az (hH' (au 0)) aG) (by decide) (hlen:=fun δ ds h=>BJ h))) fV) (bz (bU (au 1))))))
 exact q
theorem yJ (T:Txt K mg a) (F:cU K isD "add" "Drawing.add" iD ["self", "thing"]) (G_qQ:bx P w K mg base 7 "step_of" d9) :
  g8 P w K mg base 8 isD "add" d_:=by
 have q:=uJ P w (mg:=mg) base 7 oG F sc_qu fun _ _ _ _ _ _ _ hr=>by
  unfold oG;exact (bf (cM 2 (cl G_qQ hr (az (au 1) aG)) sc_qu.nd) Cg)
 exact q
theorem yK (T:Txt K mg a) (F:Ent K mg "drawn" nQ ["rows"]) (G_qt:jh P w K mg base 2 "Drawing" ["steps", "scaffold", "kept"] ca') (G_qu:g8 P w K mg base 8 isD "add" d_) :
  bx P w K mg base 9 "drawn" lE:=by
 have q:=fnX P w base 8 oH F sc_qU fun _ _ _ _ _ _ _ hr=>by
  unfold oH;exact (hL' (PSD.psx (cM 1 (Ci G_qt hr) sc_qU.nd)) (hL' (Ny PassesOwn.leaving rfl (lU (au 0)) (kI 2 sc_qU.nd) (bz (yX (pW G_qu hr (au 1) (az (au 2) aG))))) (mk' (PSD.psx (bU (au 1))))))
 exact q
theorem yL (T:Txt K mg a) (F:Ent K mg "_law_asked" nR ["_law_way", "_law_thing_here", "_law_drawing"]) (G_qQ:bx P w K mg base 7 "step_of" d9) (G_qD:zG P w K mg base 1 "_law_which" qj) (G_qu:g8 P w K mg base 8 isD "add" d_) (G_qU:bx P w K mg base 9 "drawn" lE) (G_qE:bx P w K mg base 1 "_law_class" ql) :
  bx P w K mg base 10 "_law_asked" jL:=by
 have q:=fJ P w base 9 oJ F sc_qL fun _ _ _ _ _ _ _ hr=>by
  unfold oJ;exact (bf (cM 3 jy sc_qL.nd) (bf (kz' 4 rfl ⟨rfl,rfl⟩ sc_qL.nd rfl T.m_a T.s_a (bz (fH (dJ (bm' hr.units) iQ (au 0) aV (dD _)) (bz (yX (cl G_qQ hr (az (au 1) aG)))) (bz (fH (dJ (bm' hr.units) iQ (au 0) aV (dD _)) (bz (yX (pW G_qu hr (au 2) (az (au 1) aG)))) (bz (yX (cl G_qU hr (az (di (az (au 1) aG)) aG)))))))) (fun _=>(bz (cM 3 (Nh G_qD (hr.mrk _) (az (au 4) aG)) sc_qL.nd)))) (bz (bU (rF (bm' hr.units) iQ (au 3) (cl G_qE hr (az eY aG)) (dD _))))))
 exact q
theorem PK (T:Txt K mg a) {f:Addr} {fd:FuncData} (F:Fun K "law" "law" j7 f fd) (G_qN:bx P w K mg base 1 "_law_stir" gW) (G_qI:bx P w K mg base 2 "_law_thing" jK) (G_qB:bx P w K mg base 2 "_law_cell" jJ) (G_qp:gm P w K mg base 2 isD "rows" oh) (G_qL:bx P w K mg base 10 "_law_asked" jL) (G_qo:g8 P w K mg base 1 isD "lift" xf) (G_qe:g8 P w K mg base 1 isD "is_full" n8) (G_qT:bx P w K mg base 1 "found" nW) (G_qK:bx P w K mg base 4 "are_great" oA) (G_qf:g8 P w K mg base 2 aM "done" ou) (G_qy:g8 P w K mg base 1 aU "named" jG) (G_qz:gm P w K mg base 1 aU "needs" lB) (G_qA:gm P w K mg base 1 aU "wants" n6) (G_qQ:bx P w K mg base 7 "step_of" d9) (G_hand:oK P w K mg base) :
  FnOk P w K mg base (cA P w) 11 f fd ["_law_script"] (jU K gY):=by
 exact Bm (P:=P) (w:=w) (base:=base) (N:=["_law_script", "_law_drawing", "_law_cell_here", "_law_thing_here", "_law_way"]) (ps:=["_law_script"]) (k:=10) (body:=jr) F sc_law fun cdv A outer s H E hr=>by
  unfold jr;exact (bf (K4 0 (N':=["_law_k", "_law_cell_here"]) (m:=2) (fr:=[]) rQ rfl (hB' (by decide) (by decide)) (Ms rfl T.z_enumerate (az (au 0) aG)) (fun _ _ _ _=>El rfl (fun _=>y_ 0 (show List.Nodup (["_law_k", "_law_cell_here"]:List Str) by decide +kernel) (y_ 1 (show List.Nodup (["_law_k", "_law_cell_here"]:List Str) by decide +kernel) Ek))) (fun _ _ _ _=>(cl G_qN hr (az (au 1) (az (au 0) aG)))) sc_law.nd) (zal (G_hand _ _ _ _ _ _ _ hr (zak (bf (fd' rfl (lU (cC fU fQ (di (az (cl G_qB hr (az (au 0) (az aV aG))) aG)) (qQ (au 0) (oR aV) (oR aV)))) (kI 2 sc_law.nd) (bf (cM 3 (cl G_qI hr (az (au 2) aG)) sc_law.nd) (bf (Ep rfl rfl T.z_range (az aV aG) (kI 4 sc_law.nd) (bz (fH (bs' (jb (cl G_qL hr (az (cC pI pH (cC fU fQ (au 4) (au 2)) aV) (az (au 3) (az (au 1) aG)))))) (bz (bU lK)) fV))) (bz (fH (dJ (rO hr.units) cN' (PDL.pd (rY G_qp hr (au 1))) (di (az eY aG)) (dD _)) (bz (bU lK)) fV))))) (bz (bU lK)))))))
end
end K29
namespace K29
open PySem PySem.Spec PyProof.Rows L2 DL Mine Bk Lean.Grind
theorem ls' {w:List Nat} (hw:∀c∈w,c < 128) (hl:w.length<=500):∃d,jg "this is no row: " (tx w)=.ok d:=by
 have r:=StrLaws.reprText_len (sT w) (fun c hc=>by
  rw [oZ] at hc;exact Nat.lt_of_lt_of_le (hw c hc) (by decide))
 rw [xj w] at r;have big:6000<=sizeLine:=by decide
 have l2:((Str.empty ++ ("this is no row: " : Str)) ++ reprText (sT w)).length=16 + (reprText (sT w)).length:=by
  show ((Str.empty ++ ("this is no row: " : Str)).cps ++ (reprText (sT w)).cps).size=_;rw [Array.size_append];rfl
 exact ⟨_,if_pos ⟨by omega,by rw [l2]; omega⟩⟩
noncomputable def NR:Exn:=⟨"NoRow",none⟩
noncomputable def Bad (d:D):Prop:=d9 [d]=.err NR
theorem Hq {l:List Nat} {ws:List D} (hl:∀c∈l,c < 128) (hn:l.length<=500) (hs:dg (tx l) [.str " "]=.ok (.lst ws)) (h:jq [.lst ws]=.ok .non):Bad (tx l):=by
 obtain ⟨d,hd⟩:=ls' hl hn;unfold Bad;show outD (oF [some (.arg (tx l)),none])=_;have s0:(cV (fP (aB (aq (aj 0) (fO Bk.is_str)) aR)) (cR "NoRow" (aa (fun _=>.ok (.str "a row is a text")) (fun _=>.ok []))) Out.nxt) [some (.arg (tx l)),none]=.nxt [some (.arg (tx l)),none]:=by kernel_rfl
 have m0:eF "str" dg (aj 0) (aa (fun _=>.ok (.str " ")) (fun _=>.ok [])) [some (.arg (tx l)),none]=.ok (.lst ws):=hs;have s1:(aC 1 (aq (aa (eF "str" dg (aj 0) (aa (fun _=>.ok (.str " ")) (fun _=>.ok []))) (fun _=>.ok [])) jq)) [some (.arg (tx l)),none]=.nxt [some (.arg (tx l)),some (.val .non)]:=by push_cast [m0,h]
 have r0:gH "this is no row: " (aj 0) [some (.arg (tx l)),some (.val .non)]=.ok d:=hd;have s2:(cV (aB (two (aj 1) (fun _=>.ok .non) cg) aF) (cR "NoRow" (aa (gH "this is no row: " (aj 0)) (fun _=>.ok []))) Out.nxt) [some (.arg (tx l)),some (.val .non)]=.err NR [some (.arg (tx l)),some (.val .non)]:=by
  show cR "NoRow" (aa (gH "this is no row: " (aj 0)) (fun _=>.ok [])) [some (.arg (tx l)),some (.val .non)]=_;simp only [cR,ap_cons,r0];rfl
 unfold oF;rw [ap_seq,s0,sq_nxt,ap_seq,s1,sq_nxt,ap_seq,s2,sq_err,out_err]
theorem dm {w:List Nat} (hw:Nw w) {d0 d2 d3:D} {rest:List D} (hr:rest.length<=3):jq [.lst (d0 :: tx w :: d2 :: d3 :: rest)]=outD ((aA (cV (aB (two (two (aj 0) (fun _=>.ok (.int 0)) bh) (fun _=>.ok (.str "point")) dH) aF) (aH (aq (aa (aj 0) (fun _=>.ok [])) qx)) Out.nxt) (aA (cV (aB (two (two (aj 0) (fun _=>.ok (.int 0)) bh) (fun _=>.ok (.str "line")) dH) aF) (aH (aq (aa (aj 0) (fun _=>.ok [])) qu)) Out.nxt) (aA (cV (aB (two (two (aj 0) (fun _=>.ok (.int 0)) bh) (fun _=>.ok (.str "ring")) dH) aF) (aH (aq (aa (aj 0) (fun _=>.ok [])) qy)) Out.nxt) (aA (cV (aB (two (two (aj 0) (fun _=>.ok (.int 0)) bh) (fun _=>.ok (.str "meet")) dH) aF) (aH (aq (aa (aj 0) (fun _=>.ok [])) qw)) Out.nxt) (aH (fun _=>.ok .non)))))) [some (.arg (.lst (d0 :: tx w :: d2 :: d3 :: rest)))]):=by
 show outD (oE [some (.arg (.lst (d0 :: tx w :: d2 :: d3 :: rest)))])=_;have i1:bh (.lst (d0 :: tx w :: d2 :: d3 :: rest)) (.int 1)=.ok (tx w):=ix_lst1 ..;have ln:bO [.lst (d0 :: tx w :: d2 :: d3 :: rest)]=.ok (.int ((rest.length + 4:Nat):Int)):=by rw [len_lst]; rfl
 have lt:decide (((rest.length + 4:Nat):Int) < 4)=false:=decide_eq_false (by omega);unfold oE;push_cast [i1,ln,lt,O7 hw]
theorem Hr {a b w:List Nat} (ha:78∉a) (hb:78∉b):Txt.replace (sT (a ++ 78 :: b)) "N" (sT w)=sT (a ++ w ++ b):=by
 have e:=StrLaws.replace_one (sT (a ++ 78 :: b)) (sT w) 78;have s:=Om ha hb;rw [show ("N" : Str)=⟨#[78]⟩ from rfl,e,show (⟨#[78]⟩:Str)=sT [78] from rfl,s]
 show sT a ++ sT w ++ sT b=_;rw [Cm,Cm]
theorem PL {l w:List Nat} (hl:l≠[]) (h:78∉l):Txt.replace (sT l) "N" (sT w)=sT l:=by
 have e:=StrLaws.replace_one (sT l) (sT w) 78;have s:=Ol (c:=78) hl h;rw [show ("N" : Str)=⟨#[78]⟩ from rfl,e,show (⟨#[78]⟩:Str)=sT [78] from rfl,s]
 rfl
noncomputable def aN (t:Str):Prop:=∀w,Nw w->Bad (.str (Txt.replace t "N" (sT w)))
theorem uP {l:List Nat} (hl:l≠[]) (h:78∉l) (hb:Bad (tx l)):aN (sT l):=fun w _=>by rw [PL hl h]; exact hb
theorem cW {p:List Nat} {rs:List (List Nat)} (hp:p≠[]) (h1:∀q∈p :: rs,32∉q/\78∉q/\∀c∈q,c < 128) (hl:fY (p :: rs) + rs.length<=400) (h:∀w,Nw w->jq [.lst (tx p :: tx w :: cY rs)]=.ok .non):aN (sT (J (p :: [78] :: rs))):=by
 intro w hw;have f78:∀{rs:List (List Nat)},(∀q∈rs,78∉q)->78∉rs.flatMap fun q=>32 :: q:=fun {rs} hq hm=>by
  obtain ⟨q,h1,h2⟩:=List.mem_flatMap.mp hm;rcases List.mem_cons.mp h2 with z | z
  ·cases z
  ·exact hq q h1 z
 have e0:J (p :: [78] :: rs)=(p ++ [32]) ++ 78 :: rs.flatMap (fun q=>32 :: q):=by simp [J]
 have e1:(p ++ [32]) ++ w ++ rs.flatMap (fun q=>32 :: q)=J (p :: w :: rs):=by simp [J]
 rw [e0,Hr (by
  intro hm;rcases List.mem_append.mp hm with z | z
  ·exact (h1 p (by simp)).2.1 z
  ·simp at z) (f78 fun q hq=>(h1 q (by simp [hq])).2.1),e1]
 have hs:∀q∈p :: w :: rs,32∉q:=fun q hq=>by
  rcases List.mem_cons.mp hq with rfl | hq
  ·exact (h1 q (by simp)).1
  ·rcases List.mem_cons.mp hq with rfl | hq
   ·exact hw.sp
   ·exact (h1 q (by simp [hq])).1
 have hsm:∀q∈p :: w :: rs,∀c∈q,c < 128:=fun q hq=>by
  rcases List.mem_cons.mp hq with rfl | hq
  ·exact (h1 q (by simp)).2.2
  ·rcases List.mem_cons.mp hq with rfl | hq
   ·exact hw.small
   ·exact (h1 q (by simp [hq])).2.2
 have hsum:fY (p :: w :: rs) + (p :: w :: rs).length<=450:=by
  have:=hw.2.1;simp [fY] at hl ⊢;omega
 have hJ:=Hc (p :: w :: rs);refine Hq ?_ (by omega) (O4 hs ⟨p,w :: rs,rfl,hp⟩ (by omega)) (h w hw);intro c hc;show c < 128;rw [J] at hc;rcases List.mem_append.mp hc with z | z
 ·exact hsm p (by simp) c z
 ·obtain ⟨q,h1,h2⟩:=List.mem_flatMap.mp z;rcases List.mem_cons.mp h2 with rfl | z2
  ·decide
  ·exact hsm q (List.mem_cons_of_mem _ h1) c z2
theorem r0:aN ("" : Str):=fun w _=>by
 rw [show Txt.replace ("" : Str) "N" (sT w)=sT [] by kernel_rfl];exact (by kernel_rfl:d9 [tx []]=.err NR)
theorem r1:aN (" " : Str):=uP (l:=[32]) (by decide) (by decide) (by unfold Bad; kernel_rfl)
theorem r2:aN ("point" : Str):=uP (l:=[112,111,105,110,116]) (by decide) (by decide) (by unfold Bad; kernel_rfl)
theorem r3:aN ("point N" : Str):=cW (p:=[112,111,105,110,116]) (rs:=[]) (by decide) (by decide) (by decide) fun w hw=>by kernel_rfl
theorem r4:aN ("point N 1" : Str):=cW (p:=[112,111,105,110,116]) (rs:=[[49]]) (by decide) (by decide) (by decide) fun w hw=>by kernel_rfl
theorem r5:aN ("point N 1 2 3" : Str):=cW (p:=[112,111,105,110,116]) (rs:=[[49],[50],[51]]) (by decide) (by decide) (by decide) fun w hw=>(dm hw (d0:=tx [112,111,105,110,116]) (d2:=tx [49]) (d3:=tx [50]) (rest:=cY [[51]]) (by decide)).trans (by kernel_rfl)
theorem r6:aN ("point N 1  2" : Str):=cW (p:=[112,111,105,110,116]) (rs:=[[49],[],[50]]) (by decide) (by decide) (by decide) fun w hw=>(dm hw (d0:=tx [112,111,105,110,116]) (d2:=tx [49]) (d3:=tx []) (rest:=cY [[50]]) (by decide)).trans (by kernel_rfl)
theorem r7:aN ("point N 1 2 " : Str):=cW (p:=[112,111,105,110,116]) (rs:=[[49],[50],[]]) (by decide) (by decide) (by decide) fun w hw=>(dm hw (d0:=tx [112,111,105,110,116]) (d2:=tx [49]) (d3:=tx [50]) (rest:=cY [[]]) (by decide)).trans (by kernel_rfl)
theorem r9:aN ("Point N 1 2" : Str):=cW (p:=[80,111,105,110,116]) (rs:=[[49],[50]]) (by decide) (by decide) (by decide) fun w hw=>(dm hw (d0:=tx [80,111,105,110,116]) (d2:=tx [49]) (d3:=tx [50]) (rest:=cY []) (by decide)).trans (by kernel_rfl)
theorem r10:aN ("point N x 2" : Str):=cW (p:=[112,111,105,110,116]) (rs:=[[120],[50]]) (by decide) (by decide) (by decide) fun w hw=>(dm hw (d0:=tx [112,111,105,110,116]) (d2:=tx [120]) (d3:=tx [50]) (rest:=cY []) (by decide)).trans (by kernel_rfl)
theorem r11:aN ("point N 1 y" : Str):=cW (p:=[112,111,105,110,116]) (rs:=[[49],[121]]) (by decide) (by decide) (by decide) fun w hw=>(dm hw (d0:=tx [112,111,105,110,116]) (d2:=tx [49]) (d3:=tx [121]) (rest:=cY []) (by decide)).trans (by kernel_rfl)
theorem r12:aN ("point N 1/0 2" : Str):=cW (p:=[112,111,105,110,116]) (rs:=[[49,47,48],[50]]) (by decide) (by decide) (by decide) fun w hw=>(dm hw (d0:=tx [112,111,105,110,116]) (d2:=tx [49,47,48]) (d3:=tx [50]) (rest:=cY []) (by decide)).trans (by kernel_rfl)
theorem r13:aN ("point N 01 2" : Str):=cW (p:=[112,111,105,110,116]) (rs:=[[48,49],[50]]) (by decide) (by decide) (by decide) fun w hw=>(dm hw (d0:=tx [112,111,105,110,116]) (d2:=tx [48,49]) (d3:=tx [50]) (rest:=cY []) (by decide)).trans (by kernel_rfl)
theorem r14:aN ("point N 1 +2" : Str):=cW (p:=[112,111,105,110,116]) (rs:=[[49],[43,50]]) (by decide) (by decide) (by decide) fun w hw=>(dm hw (d0:=tx [112,111,105,110,116]) (d2:=tx [49]) (d3:=tx [43,50]) (rest:=cY []) (by decide)).trans (by kernel_rfl)
theorem r15:aN ("point N 1 2/01" : Str):=cW (p:=[112,111,105,110,116]) (rs:=[[49],[50,47,48,49]]) (by decide) (by decide) (by decide) fun w hw=>(dm hw (d0:=tx [112,111,105,110,116]) (d2:=tx [49]) (d3:=tx [50,47,48,49]) (rest:=cY []) (by decide)).trans (by kernel_rfl)
theorem r16:aN ("point N 1 --2" : Str):=cW (p:=[112,111,105,110,116]) (rs:=[[49],[45,45,50]]) (by decide) (by decide) (by decide) fun w hw=>(dm hw (d0:=tx [112,111,105,110,116]) (d2:=tx [49]) (d3:=tx [45,45,50]) (rest:=cY []) (by decide)).trans (by kernel_rfl)
theorem r17:aN ("point N 1 2/-3" : Str):=cW (p:=[112,111,105,110,116]) (rs:=[[49],[50,47,45,51]]) (by decide) (by decide) (by decide) fun w hw=>(dm hw (d0:=tx [112,111,105,110,116]) (d2:=tx [49]) (d3:=tx [50,47,45,51]) (rest:=cY []) (by decide)).trans (by kernel_rfl)
theorem r18:aN ("point N 1 2/" : Str):=cW (p:=[112,111,105,110,116]) (rs:=[[49],[50,47]]) (by decide) (by decide) (by decide) fun w hw=>(dm hw (d0:=tx [112,111,105,110,116]) (d2:=tx [49]) (d3:=tx [50,47]) (rest:=cY []) (by decide)).trans (by kernel_rfl)
theorem r19:aN ("point N 1 /2" : Str):=cW (p:=[112,111,105,110,116]) (rs:=[[49],[47,50]]) (by decide) (by decide) (by decide) fun w hw=>(dm hw (d0:=tx [112,111,105,110,116]) (d2:=tx [49]) (d3:=tx [47,50]) (rest:=cY []) (by decide)).trans (by kernel_rfl)
theorem r20:aN ("point N 1.5 2" : Str):=cW (p:=[112,111,105,110,116]) (rs:=[[49,46,53],[50]]) (by decide) (by decide) (by decide) fun w hw=>(dm hw (d0:=tx [112,111,105,110,116]) (d2:=tx [49,46,53]) (d3:=tx [50]) (rest:=cY []) (by decide)).trans (by kernel_rfl)
theorem r21:aN ("point N 1 -" : Str):=cW (p:=[112,111,105,110,116]) (rs:=[[49],[45]]) (by decide) (by decide) (by decide) fun w hw=>(dm hw (d0:=tx [112,111,105,110,116]) (d2:=tx [49]) (d3:=tx [45]) (rest:=cY []) (by decide)).trans (by kernel_rfl)
theorem r22:aN ("point N 1/2/3 4" : Str):=cW (p:=[112,111,105,110,116]) (rs:=[[49,47,50,47,51],[52]]) (by decide) (by decide) (by decide) fun w hw=>(dm hw (d0:=tx [112,111,105,110,116]) (d2:=tx [49,47,50,47,51]) (d3:=tx [52]) (rest:=cY []) (by decide)).trans (by kernel_rfl)
theorem r23:aN ("point n1 1 2" : Str):=uP (l:=[112,111,105,110,116,32,110,49,32,49,32,50]) (by decide) (by decide) (by unfold Bad; kernel_rfl)
theorem r24:aN ("point N 1 7777777777777777777777777777777777777777777777777777777777777" : Str):=cW (p:=[112,111,105,110,116]) (rs:=[[49],[55,55,55,55,55,55,55,55,55,55,55,55,55,55,55,55,55,55,55,55,55,55,55,55,55,55,55,55,55,55,55,55,55,55,55,55,55,55,55,55,55,55,55,55,55,55,55,55,55,55,55,55,55,55,55,55,55,55,55,55,55]]) (by decide) (by decide) (by decide) fun w hw=>(dm hw (d0:=tx [112,111,105,110,116]) (d2:=tx [49]) (d3:=tx [55,55,55,55,55,55,55,55,55,55,55,55,55,55,55,55,55,55,55,55,55,55,55,55,55,55,55,55,55,55,55,55,55,55,55,55,55,55,55,55,55,55,55,55,55,55,55,55,55,55,55,55,55,55,55,55,55,55,55,55,55]) (rest:=cY []) (by decide)).trans (by kernel_rfl)
theorem r25:aN ("1 2" : Str):=uP (l:=[49,32,50]) (by decide) (by decide) (by unfold Bad; kernel_rfl)
theorem r26:aN ("points N 1 2" : Str):=cW (p:=[112,111,105,110,116,115]) (rs:=[[49],[50]]) (by decide) (by decide) (by decide) fun w hw=>(dm hw (d0:=tx [112,111,105,110,116,115]) (d2:=tx [49]) (d3:=tx [50]) (rest:=cY []) (by decide)).trans (by kernel_rfl)
theorem r27:aN ("line N a" : Str):=cW (p:=[108,105,110,101]) (rs:=[[97]]) (by decide) (by decide) (by decide) fun w hw=>by kernel_rfl
theorem r28:aN ("line N a b c" : Str):=cW (p:=[108,105,110,101]) (rs:=[[97],[98],[99]]) (by decide) (by decide) (by decide) fun w hw=>(dm hw (d0:=tx [108,105,110,101]) (d2:=tx [97]) (d3:=tx [98]) (rest:=cY [[99]]) (by decide)).trans (by kernel_rfl)
theorem r29:aN ("line N a 1" : Str):=cW (p:=[108,105,110,101]) (rs:=[[97],[49]]) (by decide) (by decide) (by decide) fun w hw=>(dm hw (d0:=tx [108,105,110,101]) (d2:=tx [97]) (d3:=tx [49]) (rest:=cY []) (by decide)).trans (by kernel_rfl)
theorem r30:aN ("line N a b first" : Str):=cW (p:=[108,105,110,101]) (rs:=[[97],[98],[102,105,114,115,116]]) (by decide) (by decide) (by decide) fun w hw=>(dm hw (d0:=tx [108,105,110,101]) (d2:=tx [97]) (d3:=tx [98]) (rest:=cY [[102,105,114,115,116]]) (by decide)).trans (by kernel_rfl)
theorem r31:aN ("line N A b" : Str):=cW (p:=[108,105,110,101]) (rs:=[[65],[98]]) (by decide) (by decide) (by decide) fun w hw=>(dm hw (d0:=tx [108,105,110,101]) (d2:=tx [65]) (d3:=tx [98]) (rest:=cY []) (by decide)).trans (by kernel_rfl)
theorem r32:aN ("line N a bcdefgh" : Str):=cW (p:=[108,105,110,101]) (rs:=[[97],[98,99,100,101,102,103,104]]) (by decide) (by decide) (by decide) fun w hw=>(dm hw (d0:=tx [108,105,110,101]) (d2:=tx [97]) (d3:=tx [98,99,100,101,102,103,104]) (rest:=cY []) (by decide)).trans (by kernel_rfl)
theorem r33:aN ("line n1 a b" : Str):=uP (l:=[108,105,110,101,32,110,49,32,97,32,98]) (by decide) (by decide) (by unfold Bad; kernel_rfl)
theorem r34:aN ("ring N a" : Str):=cW (p:=[114,105,110,103]) (rs:=[[97]]) (by decide) (by decide) (by decide) fun w hw=>by kernel_rfl
theorem r35:aN ("ring N a b c" : Str):=cW (p:=[114,105,110,103]) (rs:=[[97],[98],[99]]) (by decide) (by decide) (by decide) fun w hw=>(dm hw (d0:=tx [114,105,110,103]) (d2:=tx [97]) (d3:=tx [98]) (rest:=cY [[99]]) (by decide)).trans (by kernel_rfl)
theorem r36:aN ("ring N a by x" : Str):=cW (p:=[114,105,110,103]) (rs:=[[97],[98,121],[120]]) (by decide) (by decide) (by decide) fun w hw=>(dm hw (d0:=tx [114,105,110,103]) (d2:=tx [97]) (d3:=tx [98,121]) (rest:=cY [[120]]) (by decide)).trans (by kernel_rfl)
theorem r37:aN ("ring N a By 3" : Str):=cW (p:=[114,105,110,103]) (rs:=[[97],[66,121],[51]]) (by decide) (by decide) (by decide) fun w hw=>(dm hw (d0:=tx [114,105,110,103]) (d2:=tx [97]) (d3:=tx [66,121]) (rest:=cY [[51]]) (by decide)).trans (by kernel_rfl)
theorem r38:aN ("ring N a by 3 4" : Str):=cW (p:=[114,105,110,103]) (rs:=[[97],[98,121],[51],[52]]) (by decide) (by decide) (by decide) fun w hw=>(dm hw (d0:=tx [114,105,110,103]) (d2:=tx [97]) (d3:=tx [98,121]) (rest:=cY [[51],[52]]) (by decide)).trans (by kernel_rfl)
theorem r39:aN ("ring N a b by 3" : Str):=cW (p:=[114,105,110,103]) (rs:=[[97],[98],[98,121],[51]]) (by decide) (by decide) (by decide) fun w hw=>(dm hw (d0:=tx [114,105,110,103]) (d2:=tx [97]) (d3:=tx [98]) (rest:=cY [[98,121],[51]]) (by decide)).trans (by kernel_rfl)
theorem r40:aN ("ring N 2 by 3" : Str):=cW (p:=[114,105,110,103]) (rs:=[[50],[98,121],[51]]) (by decide) (by decide) (by decide) fun w hw=>(dm hw (d0:=tx [114,105,110,103]) (d2:=tx [50]) (d3:=tx [98,121]) (rest:=cY [[51]]) (by decide)).trans (by kernel_rfl)
theorem r41:aN ("ring N a by 1/0" : Str):=cW (p:=[114,105,110,103]) (rs:=[[97],[98,121],[49,47,48]]) (by decide) (by decide) (by decide) fun w hw=>(dm hw (d0:=tx [114,105,110,103]) (d2:=tx [97]) (d3:=tx [98,121]) (rest:=cY [[49,47,48]]) (by decide)).trans (by kernel_rfl)
theorem r42:aN ("meet N a" : Str):=cW (p:=[109,101,101,116]) (rs:=[[97]]) (by decide) (by decide) (by decide) fun w hw=>by kernel_rfl
theorem r43:aN ("meet N a b third" : Str):=cW (p:=[109,101,101,116]) (rs:=[[97],[98],[116,104,105,114,100]]) (by decide) (by decide) (by decide) fun w hw=>(dm hw (d0:=tx [109,101,101,116]) (d2:=tx [97]) (d3:=tx [98]) (rest:=cY [[116,104,105,114,100]]) (by decide)).trans (by kernel_rfl)
theorem r44:aN ("meet N a b First" : Str):=cW (p:=[109,101,101,116]) (rs:=[[97],[98],[70,105,114,115,116]]) (by decide) (by decide) (by decide) fun w hw=>(dm hw (d0:=tx [109,101,101,116]) (d2:=tx [97]) (d3:=tx [98]) (rest:=cY [[70,105,114,115,116]]) (by decide)).trans (by kernel_rfl)
theorem r45:aN ("meet N a b c" : Str):=cW (p:=[109,101,101,116]) (rs:=[[97],[98],[99]]) (by decide) (by decide) (by decide) fun w hw=>(dm hw (d0:=tx [109,101,101,116]) (d2:=tx [97]) (d3:=tx [98]) (rest:=cY [[99]]) (by decide)).trans (by kernel_rfl)
theorem r46:aN ("meet N a b first second" : Str):=cW (p:=[109,101,101,116]) (rs:=[[97],[98],[102,105,114,115,116],[115,101,99,111,110,100]]) (by decide) (by decide) (by decide) fun w hw=>(dm hw (d0:=tx [109,101,101,116]) (d2:=tx [97]) (d3:=tx [98]) (rest:=cY [[102,105,114,115,116],[115,101,99,111,110,100]]) (by decide)).trans (by kernel_rfl)
theorem r47:aN ("meet N a first b" : Str):=cW (p:=[109,101,101,116]) (rs:=[[97],[102,105,114,115,116],[98]]) (by decide) (by decide) (by decide) fun w hw=>(dm hw (d0:=tx [109,101,101,116]) (d2:=tx [97]) (d3:=tx [102,105,114,115,116]) (rest:=cY [[98]]) (by decide)).trans (by kernel_rfl)
theorem r48:aN ("mett N a b" : Str):=cW (p:=[109,101,116,116]) (rs:=[[97],[98]]) (by decide) (by decide) (by decide) fun w hw=>(dm hw (d0:=tx [109,101,116,116]) (d2:=tx [97]) (d3:=tx [98]) (rest:=cY []) (by decide)).trans (by kernel_rfl)
theorem r49:aN ("line  a b" : Str):=uP (l:=[108,105,110,101,32,32,97,32,98]) (by decide) (by decide) (by unfold Bad; kernel_rfl)
theorem r51:aN ("ring N a by 3/00" : Str):=cW (p:=[114,105,110,103]) (rs:=[[97],[98,121],[51,47,48,48]]) (by decide) (by decide) (by decide) fun w hw=>(dm hw (d0:=tx [114,105,110,103]) (d2:=tx [97]) (d3:=tx [98,121]) (rest:=cY [[51,47,48,48]]) (by decide)).trans (by kernel_rfl)
theorem r52:aN ("ring N a by 1/3333333333333333333333333333333333333333333333333333333333333" : Str):=cW (p:=[114,105,110,103]) (rs:=[[97],[98,121],[49,47,51,51,51,51,51,51,51,51,51,51,51,51,51,51,51,51,51,51,51,51,51,51,51,51,51,51,51,51,51,51,51,51,51,51,51,51,51,51,51,51,51,51,51,51,51,51,51,51,51,51,51,51,51,51,51,51,51,51,51,51,51]]) (by decide) (by decide) (by decide) fun w hw=>(dm hw (d0:=tx [114,105,110,103]) (d2:=tx [97]) (d3:=tx [98,121]) (rest:=cY [[49,47,51,51,51,51,51,51,51,51,51,51,51,51,51,51,51,51,51,51,51,51,51,51,51,51,51,51,51,51,51,51,51,51,51,51,51,51,51,51,51,51,51,51,51,51,51,51,51,51,51,51,51,51,51,51,51,51,51,51,51,51,51]]) (by decide)).trans (by kernel_rfl)
theorem r54:aN ("line N a,b c" : Str):=cW (p:=[108,105,110,101]) (rs:=[[97,44,98],[99]]) (by decide) (by decide) (by decide) fun w hw=>(dm hw (d0:=tx [108,105,110,101]) (d2:=tx [97,44,98]) (d3:=tx [99]) (rest:=cY []) (by decide)).trans (by kernel_rfl)
theorem PN {w:List Nat} {r:List (List Nat)} (h:∀p∈w :: r,32∉p) (hne:J (w :: r)≠[]):Txt.split (sT (J (w :: r))) (sT [32])=(w :: r).map sT:=by
 have j:=StrLaws.join_split (sT (J (w :: r))) (sT [32]);have f:=StrLaws.split_free (sT (J (w :: r))) 32
 cases q:Txt.split (sT (J (w :: r))) (sT [32]) with
 | nil =>
  rw [q] at j;exfalso;have:(sT (J (w :: r))).cps.toList=[]:=by rw [<- j]; rfl
  rw [oZ] at this;exact hne this
 | cons x rest =>
  have fx:(32:Nat)∉x.cps.toList:=f x (by show x∈Txt.split (sT (J (w :: r))) (sT [32]); rw [q]; simp);have fr:∀p∈rest.map (fun p:Str=>p.cps.toList),(32:Nat)∉p:=fun p hp=>by
   obtain ⟨p',hp',rfl⟩:=List.mem_map.mp hp;exact f p' (by show p'∈Txt.split (sT (J (w :: r))) (sT [32]); rw [q]; exact List.mem_cons_of_mem _ hp')
  rw [q] at j;have e:=congrArg (fun z:Str=>z.cps.toList) j;dsimp only at e;rw [Mine.join_list,oZ] at e;have e':x.cps.toList ++ (rest.map (fun p:Str=>p.cps.toList)).flatMap (fun p=>32 :: p)=w ++ r.flatMap fun p=>32 :: p:=by
   rw [List.flatMap_map]; exact e
  obtain ⟨e1,e2⟩:=CQ fx (h w (by simp)) fr (fun p hp=>h p (by simp [hp])) e';rw [List.map_cons,uM e1,<- e2,List.map_map]
  congr 1
  clear e e' e2 fr j q
  induction rest with
  | nil=>rfl
  | cons p rest ih=>rw [List.map_cons,<- ih]; congr 1
theorem C_ {a b w:List Nat} {ws:List (List Nat)} (hw:Nw w) (ha:78∉a) (hb:78∉b) (e:a ++ w ++ b=J ws) (hws:ws≠[]) (hs:∀p∈ws,32∉p) (sa:∀c∈a,c < 128) (sb:∀c∈b,c < 128) (hl:a.length + b.length<=100)
  (h:jq [.lst (cY ws)]=.ok .non):Bad (.str (Txt.replace (sT (a ++ 78 :: b)) "N" (sT w))):=by
 rw [Hr ha hb];have hle:(a ++ w ++ b).length<=200:=by
  have:=hw.2.1;simp; omega
 have hne:a ++ w ++ b≠[]:=fun z=>by
  have:=hw.1;simp at z;exact this z.2.1
 refine Hq (fun c hc=>?_) (by omega) ?_ h
 ·rcases List.mem_append.mp hc with z | z
  ·rcases List.mem_append.mp z with z | z
   ·exact sa c z
   ·exact hw.small c z
  ·exact sb c z
 ·rw [e] at hne hle ⊢
  cases ws with
  | nil=>exact (hws rfl).elim
  | cons x r =>
   rw [G_];show (if ((sT [32]).length == 0)=false/\(sT (J (x :: r))).length + 2<=sizeLine then Res.ok (D.lst ((Txt.split (sT (J (x :: r))) (sT [32])).map .str)) else .stuck)=_
   rw [if_pos ⟨rfl,Nat.le_trans (show _<=1002 by rw [xj]; omega) (by decide)⟩,PN hs hne,List.map_map]; rfl
theorem r8:aN (" point N 1 2" : Str):=fun w hw=>C_ (a:=[32,112,111,105,110,116,32]) (b:=[32,49,32,50]) (ws:=[[],Hd,w,[49],[50]]) hw (by decide) (by decide) rfl (by simp) (fun p hp=>by
 simp only [List.mem_cons,List.not_mem_nil,or_false] at hp;rcases hp with rfl | rfl | rfl | rfl | rfl
 ·decide
 ·decide
 ·exact hw.sp
 ·decide
 ·decide) (by decide) (by decide) (by decide) (by kernel_rfl)
theorem r50:aN ("N a b" : Str):=fun w hw=>C_ (a:=[]) (b:=[32,97,32,98]) (ws:=[w,[97],[98]]) hw (by decide) (by decide) rfl (by simp) (fun p hp=>by
 simp only [List.mem_cons,List.not_mem_nil,or_false] at hp;rcases hp with rfl | rfl | rfl
 ·exact hw.sp
 ·decide
 ·decide) (by decide) (by decide) (by decide) (by kernel_rfl)
theorem r53:aN ("line_N a b" : Str):=fun w hw=>C_ (a:=[108,105,110,101,95]) (b:=[32,97,32,98]) (ws:=[[108,105,110,101,95] ++ w,[97],[98]]) hw (by decide) (by decide) rfl (by simp) (fun p hp=>by
 simp only [List.mem_cons,List.not_mem_nil,or_false] at hp;rcases hp with rfl | rfl | rfl
 ·intro z;rcases List.mem_append.mp z with z | z
  ·revert z; decide
  ·exact hw.sp z
 ·decide
 ·decide) (by decide) (by decide) (by decide) (by kernel_rfl)
theorem bI {α:Type} {P:α->Prop} {a:α} {l:List α} (h:P a) (r:∀t∈l,P t):∀t∈a :: l,P t:=fun t ht=>by
 rcases List.mem_cons.mp ht with rfl | ht
 ·exact h
 ·exact r t ht
noncomputable def TXS:List Str:=[("" : Str),(" " : Str),("point" : Str),("point N" : Str),("point N 1" : Str),("point N 1 2 3" : Str),("point N 1  2" : Str),("point N 1 2 " : Str),(" point N 1 2" : Str),("Point N 1 2" : Str),("point N x 2" : Str),("point N 1 y" : Str),("point N 1/0 2" : Str),("point N 01 2" : Str),("point N 1 +2" : Str),("point N 1 2/01" : Str),("point N 1 --2" : Str),("point N 1 2/-3" : Str),("point N 1 2/" : Str),("point N 1 /2" : Str),("point N 1.5 2" : Str),("point N 1 -" : Str),("point N 1/2/3 4" : Str),("point n1 1 2" : Str),("point N 1 7777777777777777777777777777777777777777777777777777777777777" : Str),("1 2" : Str),("points N 1 2" : Str),("line N a" : Str),("line N a b c" : Str),("line N a 1" : Str),("line N a b first" : Str),("line N A b" : Str),("line N a bcdefgh" : Str),("line n1 a b" : Str),("ring N a" : Str),("ring N a b c" : Str),("ring N a by x" : Str),("ring N a By 3" : Str),("ring N a by 3 4" : Str),("ring N a b by 3" : Str),("ring N 2 by 3" : Str),("ring N a by 1/0" : Str),("meet N a" : Str),("meet N a b third" : Str),("meet N a b First" : Str),("meet N a b c" : Str),("meet N a b first second" : Str),("meet N a first b" : Str),("mett N a b" : Str),("line  a b" : Str),("N a b" : Str),("ring N a by 3/00" : Str),("ring N a by 1/3333333333333333333333333333333333333333333333333333333333333" : Str),("line_N a b" : Str),("line N a,b c" : Str)]
theorem lt':∀t∈TXS,aN t:=bI r0 (bI r1 (bI r2 (bI r3 (bI r4 (bI r5 (bI r6 (bI r7 (bI r8 (bI r9 (bI r10 (bI r11 (bI r12 (bI r13 (bI r14 (bI r15 (bI r16 (bI r17 (bI r18 (bI r19 (bI r20 (bI r21 (bI r22 (bI r23 (bI r24 (bI r25 (bI r26 (bI r27 (bI r28 (bI r29 (bI r30 (bI r31 (bI r32 (bI r33 (bI r34 (bI r35 (bI r36 (bI r37 (bI r38 (bI r39 (bI r40 (bI r41 (bI r42 (bI r43 (bI r44 (bI r45 (bI r46 (bI r47 (bI r48 (bI r49 (bI r50 (bI r51 (bI r52 (bI r53 (bI r54 (fun _ h=>absurd h List.not_mem_nil)))))))))))))))))))))))))))))))))))))))))))))))))))))))
theorem Ht {ds:List D} {i:Int} (h0:0<=i) (h1:i < (ds.length:Int)):∃d∈ds,bh (.lst ds) (.int i)=.ok d:=by
 obtain ⟨n,rfl⟩:=Int.eq_ofNat_of_zero_le h0;have hn:n < ds.length:=by omega
 exact ⟨ds[n],List.getElem_mem hn,zL ds n _ (List.getElem?_eq_getElem hn)⟩
noncomputable def ODD:List D:=[.non,.bl true,.bl false,.int 7,.int (-1),.lst [],.lst [.str "line",.str "n",.str "a",.str "b"],.tup [.str "point",.str "n",.str "1",.str "2"],.dct,.lst [.str "point n 1 2"]]
theorem PQ:∀d∈ODD,Bad d:=by
 have q:∀d,d9 [d]=.err NR->Bad d:=fun _ h=>h;exact bI (q _ (by kernel_rfl)) (bI (q _ (by kernel_rfl)) (bI (q _ (by kernel_rfl)) (bI (q _ (by kernel_rfl)) (bI (q _ (by kernel_rfl)) (bI (q _ (by kernel_rfl)) (bI (q _ (by kernel_rfl)) (bI (q _ (by kernel_rfl)) (bI (q _ (by kernel_rfl)) (bI (q _ (by kernel_rfl)) fun _ h=>absurd h List.not_mem_nil)))))))))
theorem lv':∀t∈TXS,t.length<=100:=by decide +kernel
theorem PX (c:Int):∃d,jK [.int c]=.ok d/\Bad d:=by
 have sh:jK [.int c]=outD (n_ [some (.arg (.int c)),none,none]):=rfl;have s0:(aC 1 (aQ (aa (fun _=>.ok .non) (aa (fun _=>.ok (.bl true)) (aa (fun _=>.ok (.bl false)) (aa (fun _=>.ok (.int 7)) (aa (pN (fun _=>.ok (.int 1))) (aa (aQ (fun _=>.ok [])) (aa (aQ (aa (fun _=>.ok (.str "line")) (aa (fun _=>.ok (.str "n")) (aa (fun _=>.ok (.str "a")) (aa (fun _=>.ok (.str "b")) (fun _=>.ok [])))))) (aa (ie (aa (fun _=>.ok (.str "point")) (aa (fun _=>.ok (.str "n")) (aa (fun _=>.ok (.str "1")) (aa (fun _=>.ok (.str "2")) (fun _=>.ok [])))))) (aa (fun _=>.ok .dct) (aa (aQ (aa (fun _=>.ok (.str "point n 1 2")) (fun _=>.ok []))) (fun _=>.ok []))))))))))))) [some (.arg (.int c)),none,none]=.nxt [some (.arg (.int c)),some (.val (.lst ODD)),none]:=by kernel_rfl
 have s1:(aC 2 (two (fun _=>qm []) (fun _=>qp []) aW)) [some (.arg (.int c)),some (.val (.lst ODD)),none]=.nxt [some (.arg (.int c)),some (.val (.lst ODD)),some (.val (.lst (TXS.map .str)))]:=by kernel_rfl
 have big:∀n,n < 2 ^ 12->n < 2 ^ 8000:=fun n h=>Nat.lt_of_lt_of_le h (Nat.pow_le_pow_right (by decide) (by decide));have m6:=dR (a:=c) (show (6:Int)≠0 by decide);have d6:=ev' (a:=c) (show (6:Int)≠0 by decide) (big _ (by decide));have d4:=ev' (a:=c) (show (400:Int)≠0 by decide) (big _ (by decide));have m10:=dR (a:=c.fdiv 6) (show (10:Int)≠0 by decide);have m55:=dR (a:=c.fdiv 6) (show (55:Int)≠0 by decide);rw [sh];unfold n_;rw [ap_seq,s0,sq_nxt,ap_seq,s1,sq_nxt]
 by_cases h:c.fmod 6=5
 ·obtain ⟨d,hd,e⟩:=Ht (ds:=ODD) (Int.fmod_nonneg_of_pos (c.fdiv 6) (b:=10) (by decide)) (Int.fmod_lt_of_pos (c.fdiv 6) (b:=10) (by decide));refine ⟨d,?_,PQ d hd⟩;push_cast [m6,h,d6,m10,e]
 ·obtain ⟨d,hd,e⟩:=Ht (ds:=TXS.map .str) (Int.fmod_nonneg_of_pos (c.fdiv 6) (b:=55) (by decide)) (by rw [List.length_map]; exact Int.fmod_lt_of_pos (c.fdiv 6) (b:=55) (by decide));obtain ⟨t,ht,rfl⟩:=List.mem_map.mp hd;obtain ⟨w,hw,hn⟩:=Pb (c.fdiv 400);refine ⟨.str (Txt.replace t "N" (sT w)),?_,lt' t ht w hw⟩;have ln:bO [.lst (TXS.map .str)]=.ok (.int 55):=by kernel_rfl
  have hne:(("N" : Str) == sT w)=false:=by
   rw [beq_eq_false_iff_ne];intro z;have z':sT [78]=sT w:=z;have:=G8 z';have:=hw.2.2 78 (by rw [<- this]; simp);omega
  have hz:t.length + (t.length + 1) * (sT w).length<=16777216:=by
   rw [xj w];have h1:=lv' t ht;have h2:=hw.2.1;have:(t.length + 1) * w.length<=101 * 6:=Nat.mul_le_mul (by omega) h2;omega
  have fo:(two (aj 2) (two (two (aj 0) (fun _=>.ok (.int 6)) bH) (aq (aa (aj 2) (fun _=>.ok [])) bO) bK) bh) [some (.arg (.int c)),some (.val (.lst ODD)),some (.val (.lst (TXS.map .str)))]=.ok (.str t):=by
   push_cast [d6,ln,m55,e]
  have fa:(aa (two (aj 0) (fun _=>.ok (.int 400)) bH) (fun _=>.ok [])) [some (.arg (.int c)),some (.val (.lst ODD)),some (.val (.lst (TXS.map .str)))]=.ok [.int (c.fdiv 400)]:=by
   push_cast [d4]
  have rp:(gR "N" iU (two (aj 2) (two (two (aj 0) (fun _=>.ok (.int 6)) bH) (aq (aa (aj 2) (fun _=>.ok [])) bO) bK) bh) (aa (two (aj 0) (fun _=>.ok (.int 400)) bH) (fun _=>.ok []))) [some (.arg (.int c)),some (.val (.lst ODD)),some (.val (.lst (TXS.map .str)))]=.ok (.str (Txt.replace t "N" (sT w))):=by
   unfold gR;simp only [fo,fa,hn];rw [if_pos ⟨hne,hz⟩]
  push_cast [m6,h,rp]
theorem Hu {d x:D} (h:Bad d):d_ [x,d]=.err NR:=by
 have h':d9 [d]=.err NR:=h;show outD (oG [some (.arg x),some (.arg d),none,none])=_;unfold oG;push_cast [h']
noncomputable def jO:D:=.obj "Drawing" ["steps", "scaffold", "kept"] [.lst [],.tup [],.dic [] []]
abbrev eb:DS->Out:=(dj (dO isD "add" d_ (aj 1) (aa (aj 2) (fun _=>.ok []))))
theorem in' {d:D} (h:Bad d):lE [.lst [d]]=.err NR:=by
 have h':d_ [jO,d]=.err NR:=Hu h;show outD (oH [some (.arg (.lst [d])),none,none])=_;have s0:(aC 1 (fun _=>xg [])) [some (.arg (.lst [d])),none,none]=.nxt [some (.arg (.lst [d])),some (.val jO),none]:=by kernel_rfl
 have b0:eb [some (.val (.lst [d])),some (.val jO),some (.val d)]=.err NR [some (.val (.lst [d])),some (.val jO),some (.val d)]:=by
  show (match (if ir isD "add" jO=true then (Res.ok [d]).bind fun es=>d_ (jO :: es) else .stuck) with | .stuck=>Out.stuck | .ok _=>Out.nxt [some (.val (.lst [d])),some (.val jO),some (.val d)] | .err x=>Out.err x [some (.val (.lst [d])),some (.val jO),some (.val d)])=_
  rw [if_pos (show ir isD "add" jO=true by kernel_rfl)];show (match d_ [jO,d] with | .stuck=>Out.stuck | .ok _=>Out.nxt [some (.val (.lst [d])),some (.val jO),some (.val d)] | .err x=>Out.err x [some (.val (.lst [d])),some (.val jO),some (.val d)])=_
  rw [h']
 have s1:(jW (aY 2) (bindL (aj 0) aK) (dj (dO isD "add" d_ (aj 1) (aa (aj 2) (fun _=>.ok []))))) [some (.arg (.lst [d])),some (.val jO),none]=.err NR [some (.val (.lst [d])),some (.val jO),some (.val d)]:=by
  show fW (match eb [some (.val (.lst [d])),some (.val jO),some (.val d)] with | .nxt δ'=>gO (aY 2) eb [] δ' | .cnt δ'=>gO (aY 2) eb [] δ' | .brk δ'=>.nxt δ' | .ret d=>.ret d | .err x δ'=>.err x δ' | .stuck=>.stuck)=_
  rw [b0];rfl
 unfold oH;rw [ap_seq,s0,sq_nxt,ap_seq,s1,sq_err,out_err]
theorem lx' {d:D} (h:Bad d) {k:Int} (h0:0<=k) (h1:k < 3):jL [.int k,d,dz]=.ok (.bl true):=by
 have e0:d9 [d]=.err NR:=h;have e1:d_ [dz,d]=.err NR:=Hu h;have e2:=in' h;show outD (oJ [some (.arg (.int k)),some (.arg d),some (.arg dz),none,none])=_;have s0:(aC 3 (fun _=>.ok .non)) [some (.arg (.int k)),some (.arg d),some (.arg dz),none,none]=.nxt [some (.arg (.int k)),some (.arg d),some (.arg dz),some (.val .non),none]:=by kernel_rfl
 have b:(cV (aB (two (aj 0) (fun _=>.ok (.int 0)) dH) aF) (dj (aq (aa (aj 1) (fun _=>.ok [])) d9)) (cV (aB (two (aj 0) (fun _=>.ok (.int 1)) dH) aF) (dj (dO isD "add" d_ (aj 2) (aa (aj 1) (fun _=>.ok [])))) (dj (aq (aa (aQ (aa (aj 1) (fun _=>.ok []))) (fun _=>.ok [])) lE)))) [some (.arg (.int k)),some (.arg d),some (.arg dz),some (.val .non),none]=.err NR [some (.arg (.int k)),some (.arg d),some (.arg dz),some (.val .non),none]:=by
  have m:(dO isD "add" d_ (aj 2) (aa (aj 1) (fun _=>.ok []))) [some (.arg (.int k)),some (.arg d),some (.arg dz),some (.val .non),none]=.err NR:=by
   show (if ir isD "add" dz=true then (Res.ok [d]).bind fun es=>d_ (dz :: es) else .stuck)=_
   rw [if_pos (show ir isD "add" dz=true by kernel_rfl)];exact e1
  have:k=0\/k=1\/k=2:=by omega
  rcases this with rfl | rfl | rfl
  ·push_cast [e0]
  ·push_cast [m]
  ·push_cast [e2]
 have s1:(fM 4 cj (cV (aB (two (aj 0) (fun _=>.ok (.int 0)) dH) aF) (dj (aq (aa (aj 1) (fun _=>.ok [])) d9)) (cV (aB (two (aj 0) (fun _=>.ok (.int 1)) dH) aF) (dj (dO isD "add" d_ (aj 2) (aa (aj 1) (fun _=>.ok [])))) (dj (aq (aa (aQ (aa (aj 1) (fun _=>.ok []))) (fun _=>.ok [])) lE)))) (aC 3 (aq (aa (aj 4) (fun _=>.ok [])) (dN qj)))) [some (.arg (.int k)),some (.arg d),some (.arg dz),some (.val .non),none]=.nxt [some (.arg (.int k)),some (.arg d),some (.arg dz),some (.val (.lst ([false,false,false,false,false,false,true,false,false,false,false,false,false,false,false,false,false,false,true,true].map .bl))),none]:=by
  unfold fM;rw [b]
  kernel_rfl
 have s2:(aH (two (aj 3) (aq (aa (fun _=>.ok (.str "NoRow")) (fun _=>.ok [])) ql) dH)) [some (.arg (.int k)),some (.arg d),some (.arg dz),some (.val (.lst ([false,false,false,false,false,false,true,false,false,false,false,false,false,false,false,false,false,false,true,true].map .bl))),none]=.ret (.bl true):=by kernel_rfl
 unfold oJ;rw [ap_seq,s0,sq_nxt,ap_seq,s1,sq_nxt,s2];rfl
abbrev rm:DS->Out:=(aA (aC 3 (aq (aa (aj 2) (fun _=>.ok [])) jK)) (aA (forR (gw) (aY 4) (aa (fun _=>.ok (.int 3)) (fun _=>.ok [])) (cV (fP (aB (aq (aa (two (two (aj 4) (aj 2) aW) (fun _=>.ok (.int 3)) bK) (aa (aj 3) (aa (aj 1) (fun _=>.ok [])))) jL) aR)) (aH (fun _=>.ok (.bl false))) Out.nxt)) (cV (aB (two (aq (aj 1) (cF isD "rows" (eG oh))) (aQ (aa (fun _=>.ok (.str "point a 1 2")) (fun _=>.ok []))) jV) aF) (aH (fun _=>.ok (.bl false))) Out.nxt)))
abbrev rz:DS->Out:=(cV (fP (aB (aq (aa (two (two (aj 4) (aj 2) aW) (fun _=>.ok (.int 3)) bK) (aa (aj 3) (aa (aj 1) (fun _=>.ok [])))) jL) aR)) (aH (fun _=>.ok (.bl false))) Out.nxt)
theorem P0 (ms:List Int) (a b:Option Int):∃ns:List Int,cutD (.lst (ms.map .int)) a b=.ok (.lst (ns.map .int))/\ns.length<=ms.length:=by
 refine ⟨(ms.drop (HT.sIx (ms.map D.int).length 0 a)).take (HT.sIx (ms.map D.int).length (ms.map D.int).length b - HT.sIx (ms.map D.int).length 0 a),?_,?_⟩
 ·show Res.ok (D.lst (((ms.map D.int).drop _).take _))=_;rw [List.map_take,List.map_drop]
 ·rw [List.length_take,List.length_drop]; omega
theorem P_ {S:D} {c:Int} {d:D} (h:Bad d) {k:Int}:rz [some (.val S),some (.val dz),some (.val (.int c)),some (.val d),some (.val (.int k))]=.nxt [some (.val S),some (.val dz),some (.val (.int c)),some (.val d),some (.val (.int k))]:=by
 have m3:=fun x=>dR (a:=x) (show (3:Int)≠0 by decide);have a1:=lx' h (Int.fmod_nonneg_of_pos (k + c) (b:=3) (by decide)) (Int.fmod_lt_of_pos (k + c) (b:=3) (by decide));unfold rz;push_cast [m3,a1]
theorem Qa {S:D} {c:Int} {z3 z4:Option SV}:∃d,rm [some (.val S),some (.val dz),some (.val (.int c)),z3,z4]=.nxt [some (.val S),some (.val dz),some (.val (.int c)),some (.val d),some (.val (.int 2))]:=by
 obtain ⟨d,e,h⟩:=PX c;refine ⟨d,?_⟩;have rg:gw [.int 3]=.ok [.int 0,.int 1,.int 2]:=by kernel_rfl
 have lp:bj (aY 4) rz [.int 0,.int 1,.int 2] [some (.val S),some (.val dz),some (.val (.int c)),some (.val d),z4]=.nxt [some (.val S),some (.val dz),some (.val (.int c)),some (.val d),some (.val (.int 2))]:=by
  have st:∀(k:Int) (ds:List D) (z:Option SV),bj (aY 4) rz (.int k :: ds) [some (.val S),some (.val dz),some (.val (.int c)),some (.val d),z]=bj (aY 4) rz ds [some (.val S),some (.val dz),some (.val (.int c)),some (.val d),some (.val (.int k))]:=fun k ds z=>by
   rw [bj];show (match rz [some (.val S),some (.val dz),some (.val (.int c)),some (.val d),some (.val (.int k))] with | .nxt δ'=>bj (aY 4) rz ds δ' | .cnt δ'=>bj (aY 4) rz ds δ' | .brk δ'=>.nxt δ' | .ret d=>.ret d | _=>.stuck)=_
   rw [P_ h]
  rw [st,st,st]; rfl
 have rs:(cV (aB (two (aq (aj 1) (cF isD "rows" (eG oh))) (aQ (aa (fun _=>.ok (.str "point a 1 2")) (fun _=>.ok []))) jV) aF) (aH (fun _=>.ok (.bl false))) Out.nxt) [some (.val S),some (.val dz),some (.val (.int c)),some (.val d),some (.val (.int 2))]=.nxt [some (.val S),some (.val dz),some (.val (.int c)),some (.val d),some (.val (.int 2))]:=by kernel_rfl
 have e3:(aC 3 (aq (aa (aj 2) (fun _=>.ok [])) jK)) [some (.val S),some (.val dz),some (.val (.int c)),z3,z4]=.nxt [some (.val S),some (.val dz),some (.val (.int c)),some (.val d),z4]:=by push_cast [e]
 have e4:(forR (gw) (aY 4) (aa (fun _=>.ok (.int 3)) (fun _=>.ok [])) (cV (fP (aB (aq (aa (two (two (aj 4) (aj 2) aW) (fun _=>.ok (.int 3)) bK) (aa (aj 3) (aa (aj 1) (fun _=>.ok [])))) jL) aR)) (aH (fun _=>.ok (.bl false))) Out.nxt)) [some (.val S),some (.val dz),some (.val (.int c)),some (.val d),z4]=.nxt [some (.val S),some (.val dz),some (.val (.int c)),some (.val d),some (.val (.int 2))]:=by
  rw [ap_forR];show pK (gw [.int 3]) _=_;rw [rg];exact lp
 unfold rm;rw [ap_seq,e3,sq_nxt,ap_seq,e4,sq_nxt,rs]
theorem fR' {S:D}:∀(cs:List Int) (z2 z3 z4:Option SV),∃z2' z3' z4',bj (aY 2) rm (cs.map .int) [some (.val S),some (.val dz),z2,z3,z4]=.nxt [some (.val S),some (.val dz),z2',z3',z4']
 | [],z2,z3,z4=>⟨z2,z3,z4,rfl⟩
 | c :: cs,z2,z3,z4=>by
  obtain ⟨d,e⟩:=Qa (S:=S) (c:=c) (z3:=z3) (z4:=z4);obtain ⟨z2',z3',z4',e'⟩:=fR' cs (some (.val (.int c))) (some (.val d)) (some (.val (.int 2)));refine ⟨z2',z3',z4',?_⟩;rw [List.map_cons,bj];show (match rm [some (.val S),some (.val dz),some (.val (.int c)),z3,z4] with | .nxt δ'=>bj (aY 2) rm (cs.map .int) δ' | .cnt δ'=>bj (aY 2) rm (cs.map .int) δ' | .brk δ'=>.nxt δ' | .ret d=>.ret d | _=>.stuck)=_
  rw [e];exact e'
open Classical in
noncomputable def ju (i t:Int):Int:=if h:∃z,gW [.int t,.int i]=.ok (.int z) then h.choose else 0
theorem Qc {i t:Int} (h:∃z,gW [.int t,.int i]=.ok (.int z)):gW [.int t,.int i]=.ok (.int (ju i t)):=by
 unfold ju;rw [dif_pos h]; exact h.choose_spec
theorem Qd (ns:List Int) (hl:ns.length<=63):gY [.lst (ns.map .int)]=.ok (.bl true):=by
 show outD (jr [some (.arg (.lst (ns.map .int))),none,none,none,none])=_;have hen:gF (aa (aj 0) (fun _=>.ok [])) iz [some (.arg (.lst (ns.map .int))),none,none,none,none]=.ok (fX (ns.map .int)):=rfl;have cc:=Oz (fe:=(aq (aa (aj 1) (aa (aj 0) (fun _=>.ok []))) gW)) (fi:=gF (aa (aj 0) (fun _=>.ok [])) iz) (fr:=[]) (δ:=[some (.arg (.lst (ns.map .int))),none,none,none,none]) (rest:=[]) (ts:=ns) (g:=ju) hen rfl (Nat.le_trans hl (by decide)) (fun i hi t ht=>by
  have h:=Qc (Hf t (k:=i) (by omega));push_cast [h])
 have hml:(ns.zipIdx.map fun p=>ju ((p.2:Nat):Int) p.1).length<=63:=by simpa using hl
 generalize (ns.zipIdx.map fun p=>ju ((p.2:Nat):Int) p.1)=ms at cc hml;have s0:(aC 0 (bA 2 [] (bZ [0,1]) (aq (aa (aj 1) (aa (aj 0) (fun _=>.ok []))) gW) (gF (aa (aj 0) (fun _=>.ok [])) iz))) [some (.arg (.lst (ns.map .int))),none,none,none,none]=.nxt [some (.val (.lst (ms.map .int))),none,none,none,none]:=by push_cast [cc]
 obtain ⟨z,hz⟩:=Pa ms (k:=0) (by decide);obtain ⟨us,hc,hlu⟩:=P0 ms (some 1) (some 63);have hz':jJ [.lst (ms.map .int),.int 0]=.ok (.int z):=hz;have ad:aW (.lst [.int z]) (.lst (us.map .int))=.ok (.lst ((z :: us).map .int)):=by
  have big:64<=sizeLine:=by decide
  show (if ([D.int z]).length + (us.map D.int).length<=sizeLine then Res.ok (D.lst ([D.int z] ++ us.map D.int)) else .stuck)=_
  rw [if_pos (by rw [List.length_map]; simp; omega)];rfl
 have it:(bindL (two (aQ (aa (aq (aa (aj 0) (aa (fun _=>.ok (.int 0)) (fun _=>.ok []))) jJ) (fun _=>.ok []))) (b_ (aj 0) (cz (fun _=>.ok (.int 1))) (cz (fun _=>.ok (.int 63)))) aW) aK) [some (.val (.lst (ms.map .int))),some (.val dz),none,none,none]=.ok ((z :: us).map .int):=by push_cast [hz',hc,ad]
 obtain ⟨z2,z3,z4,lp⟩:=fR' (S:=.lst (ms.map .int)) (z :: us) none none none;unfold jr;rw [ap_seq,s0,sq_nxt];show outD ((aA (jz (aY 2) ((bindL (two (aQ (aa (aq (aa (aj 0) (aa (fun _=>.ok (.int 0)) (fun _=>.ok []))) jJ) (fun _=>.ok []))) (b_ (aj 0) (cz (fun _=>.ok (.int 1))) (cz (fun _=>.ok (.int 63)))) aW) aK)) rm) (aH (fun _=>.ok (.bl true)))) [some (.val (.lst (ms.map .int))),some (.val dz),none,none,none])=_;rw [ap_seq,ap_for,it];show outD (Out.seq (fW (bj (aY 2) rm ((z :: us).map .int) [some (.val (.lst (ms.map .int))),some (.val dz),none,none,none])) _)=_;rw [lp];rfl
theorem Hv {K:PySem.W.Frag} {H:Hp}:∀ns:List Int,Reps K H (ns.map .int) (ns.map V.int)
 | []=>.nil
 | n :: ns=>.cons iw (Hv ns)
end K29
namespace K29
open PySem PySem.Spec PyProof.Rows L2 DL
theorem all_mk {l:PySem.W.OpenLaw} {w:World} {K:PySem.W.Frag} {h:Heap} {mg:Str->Option Value} {fa c_a c_b c_c c_d c_e c_f c_g c_h c_i c_j c_k c_l c_m c_n c_o c_p c_q c_r c_s c_t c_u c_v c_w c_x c_y c_z c_Drawing f_text f_named f_needs f_wants f_is_full f_lift f_rows f_done f_add j_v j_w j_y j_z j_Drawing j_u j_x j_base f_law:Addr} (X:K.In h) (G:h.Ns mainGlobals mg) (hfa:mg "law" = some (.ref fa))
  {t_FIGURES t_MOST_FIGURES t_LETTERS t_MOST_LETTERS t_MOST_POINTS t_MOST_OTHERS t_MOST_FIGURES_TOLD:Tok}
  {od_law an_law:Option Addr} {sl_law:Array (Option Value)} {oc_law kV_law dc_law pm_law cd_law ct_law:Value}
  (n_a:PySem.W.nsIn K mainGlobals "HallError" = some (some (.ref c_a)))
  (n_b:PySem.W.nsIn K mainGlobals "Below" = some (some (.ref c_b)))
  (n_c:PySem.W.nsIn K mainGlobals "NoText" = some (some (.ref c_c)))
  (x_c:PySem.W.excIn K c_c [.type "ValueError",.type "Exception",.type "BaseException",.type "object"] "ValueError.__new__" = true)
  (n_d:PySem.W.nsIn K mainGlobals "NoOver" = some (some (.ref c_d)))
  (n_e:PySem.W.nsIn K mainGlobals "NoRoom" = some (some (.ref c_e)))
  (n_f:PySem.W.nsIn K mainGlobals "NoLine" = some (some (.ref c_f)))
  (n_g:PySem.W.nsIn K mainGlobals "NoRing" = some (some (.ref c_g)))
  (n_h:PySem.W.nsIn K mainGlobals "NoRow" = some (some (.ref c_h)))
  (x_h:PySem.W.excIn K c_h [.type "ValueError",.type "Exception",.type "BaseException",.type "object"] "ValueError.__new__" = true)
  (n_i:PySem.W.nsIn K mainGlobals "TooMany" = some (some (.ref c_i)))
  (n_j:PySem.W.nsIn K mainGlobals "TooGreat" = some (some (.ref c_j)))
  (n_k:PySem.W.nsIn K mainGlobals "NoClaim" = some (some (.ref c_k)))
  (n_l:PySem.W.nsIn K mainGlobals "NoMove" = some (some (.ref c_l)))
  (n_m:PySem.W.nsIn K mainGlobals "NoChange" = some (some (.ref c_m)))
  (n_n:PySem.W.nsIn K mainGlobals "NoAsk" = some (some (.ref c_n)))
  (n_o:PySem.W.nsIn K mainGlobals "NoMeet" = some (some (.ref c_o)))
  (n_p:PySem.W.nsIn K mainGlobals "Twice" = some (some (.ref c_p)))
  (n_q:PySem.W.nsIn K mainGlobals "NoName" = some (some (.ref c_q)))
  (n_r:PySem.W.nsIn K mainGlobals "NoKind" = some (some (.ref c_r)))
  (n_s:PySem.W.nsIn K mainGlobals "NoCarry" = some (some (.ref c_s)))
  (n_t:PySem.W.nsIn K mainGlobals "Step" = some (some (.ref c_t)))
  (n_u:PySem.W.nsIn K mainGlobals "FirstPoint" = some (some (.ref c_u)))
  (n_v:PySem.W.nsIn K mainGlobals "LineThrough" = some (some (.ref c_v)))
  (n_w:PySem.W.nsIn K mainGlobals "RingThrough" = some (some (.ref c_w)))
  (n_x:PySem.W.nsIn K mainGlobals "RingBy" = some (some (.ref c_x)))
  (n_y:PySem.W.nsIn K mainGlobals "MeetOfLines" = some (some (.ref c_y)))
  (n_z:PySem.W.nsIn K mainGlobals "MeetWithRing" = some (some (.ref c_z)))
  (n_Drawing:PySem.W.nsIn K mainGlobals "Drawing" = some (some (.ref c_Drawing)))
  (pg_u:PySem.W.plainGet K c_u Str.empty=true)
  (hd_u:PySem.W.hasDictIn K c_u=true)
  (po_u:PySem.W.plainOver K c_u=true)
  (sa_u:PySem.W.findIn K (.ref c_u) "__setattr__" = some (some (.builtin "object.__setattr__")))
  (ha_u:PySem.W.findIn K (.ref c_u) "__class__" = some (some (.builtin "object.__class__")))
  (hm_u:PySem.W.mroIn K c_u (.type "object")=some true)
  (na_u_words:PySem.W.findIn K (.ref c_u) "words" = some none)
  (na_u_others:PySem.W.findIn K (.ref c_u) "others" = some none)
  (na_u_wanted:PySem.W.findIn K (.ref c_u) "wanted" = some none)
  (na_u_x:PySem.W.findIn K (.ref c_u) "x" = some none)
  (na_u_y:PySem.W.findIn K (.ref c_u) "y" = some none)
  (mt_u_text:PySem.W.findIn K (.ref c_u) "text" = some (some (.ref f_text)))
  (mt_u_named:PySem.W.findIn K (.ref c_u) "named" = some (some (.ref f_named)))
  (mt_u_needs:PySem.W.findIn K (.ref c_u) "needs" = some (some (.ref f_needs)))
  (mt_u_wants:PySem.W.findIn K (.ref c_u) "wants" = some (some (.ref f_wants)))
  (mt_u_done:PySem.W.findIn K (.ref c_u) "done" = some (some (.ref f_done)))
  (pg_v:PySem.W.plainGet K c_v Str.empty=true)
  (hd_v:PySem.W.hasDictIn K c_v=true)
  (po_v:PySem.W.plainOver K c_v=true)
  (sa_v:PySem.W.findIn K (.ref c_v) "__setattr__" = some (some (.builtin "object.__setattr__")))
  (ha_v:PySem.W.findIn K (.ref c_v) "__class__" = some (some (.builtin "object.__class__")))
  (hm_v:PySem.W.mroIn K c_v (.type "object")=some true)
  (na_v_words:PySem.W.findIn K (.ref c_v) "words" = some none)
  (na_v_others:PySem.W.findIn K (.ref c_v) "others" = some none)
  (na_v_wanted:PySem.W.findIn K (.ref c_v) "wanted" = some none)
  (na_v_y:PySem.W.findIn K (.ref c_v) "y" = some none)
  (na_v_x:PySem.W.findIn K (.ref c_v) "x" = some none)
  (mt_v_text:PySem.W.findIn K (.ref c_v) "text" = some (some (.ref f_text)))
  (mt_v_named:PySem.W.findIn K (.ref c_v) "named" = some (some (.ref f_named)))
  (mt_v_needs:PySem.W.findIn K (.ref c_v) "needs" = some (some (.ref f_needs)))
  (mt_v_wants:PySem.W.findIn K (.ref c_v) "wants" = some (some (.ref f_wants)))
  (pg_w:PySem.W.plainGet K c_w Str.empty=true)
  (hd_w:PySem.W.hasDictIn K c_w=true)
  (po_w:PySem.W.plainOver K c_w=true)
  (sa_w:PySem.W.findIn K (.ref c_w) "__setattr__" = some (some (.builtin "object.__setattr__")))
  (ha_w:PySem.W.findIn K (.ref c_w) "__class__" = some (some (.builtin "object.__class__")))
  (hm_w:PySem.W.mroIn K c_w (.type "object")=some true)
  (na_w_words:PySem.W.findIn K (.ref c_w) "words" = some none)
  (na_w_others:PySem.W.findIn K (.ref c_w) "others" = some none)
  (na_w_wanted:PySem.W.findIn K (.ref c_w) "wanted" = some none)
  (na_w_y:PySem.W.findIn K (.ref c_w) "y" = some none)
  (na_w_x:PySem.W.findIn K (.ref c_w) "x" = some none)
  (mt_w_text:PySem.W.findIn K (.ref c_w) "text" = some (some (.ref f_text)))
  (mt_w_named:PySem.W.findIn K (.ref c_w) "named" = some (some (.ref f_named)))
  (mt_w_needs:PySem.W.findIn K (.ref c_w) "needs" = some (some (.ref f_needs)))
  (mt_w_wants:PySem.W.findIn K (.ref c_w) "wants" = some (some (.ref f_wants)))
  (pg_x:PySem.W.plainGet K c_x Str.empty=true)
  (hd_x:PySem.W.hasDictIn K c_x=true)
  (po_x:PySem.W.plainOver K c_x=true)
  (sa_x:PySem.W.findIn K (.ref c_x) "__setattr__" = some (some (.builtin "object.__setattr__")))
  (ha_x:PySem.W.findIn K (.ref c_x) "__class__" = some (some (.builtin "object.__class__")))
  (hm_x:PySem.W.mroIn K c_x (.type "object")=some true)
  (na_x_words:PySem.W.findIn K (.ref c_x) "words" = some none)
  (na_x_others:PySem.W.findIn K (.ref c_x) "others" = some none)
  (na_x_wanted:PySem.W.findIn K (.ref c_x) "wanted" = some none)
  (na_x_square:PySem.W.findIn K (.ref c_x) "square" = some none)
  (na_x_y:PySem.W.findIn K (.ref c_x) "y" = some none)
  (na_x_x:PySem.W.findIn K (.ref c_x) "x" = some none)
  (mt_x_text:PySem.W.findIn K (.ref c_x) "text" = some (some (.ref f_text)))
  (mt_x_named:PySem.W.findIn K (.ref c_x) "named" = some (some (.ref f_named)))
  (mt_x_needs:PySem.W.findIn K (.ref c_x) "needs" = some (some (.ref f_needs)))
  (mt_x_wants:PySem.W.findIn K (.ref c_x) "wants" = some (some (.ref f_wants)))
  (pg_y:PySem.W.plainGet K c_y Str.empty=true)
  (hd_y:PySem.W.hasDictIn K c_y=true)
  (po_y:PySem.W.plainOver K c_y=true)
  (sa_y:PySem.W.findIn K (.ref c_y) "__setattr__" = some (some (.builtin "object.__setattr__")))
  (ha_y:PySem.W.findIn K (.ref c_y) "__class__" = some (some (.builtin "object.__class__")))
  (hm_y:PySem.W.mroIn K c_y (.type "object")=some true)
  (na_y_words:PySem.W.findIn K (.ref c_y) "words" = some none)
  (na_y_others:PySem.W.findIn K (.ref c_y) "others" = some none)
  (na_y_wanted:PySem.W.findIn K (.ref c_y) "wanted" = some none)
  (na_y_y:PySem.W.findIn K (.ref c_y) "y" = some none)
  (na_y_x:PySem.W.findIn K (.ref c_y) "x" = some none)
  (mt_y_text:PySem.W.findIn K (.ref c_y) "text" = some (some (.ref f_text)))
  (mt_y_named:PySem.W.findIn K (.ref c_y) "named" = some (some (.ref f_named)))
  (mt_y_needs:PySem.W.findIn K (.ref c_y) "needs" = some (some (.ref f_needs)))
  (mt_y_wants:PySem.W.findIn K (.ref c_y) "wants" = some (some (.ref f_wants)))
  (pg_z:PySem.W.plainGet K c_z Str.empty=true)
  (hd_z:PySem.W.hasDictIn K c_z=true)
  (po_z:PySem.W.plainOver K c_z=true)
  (sa_z:PySem.W.findIn K (.ref c_z) "__setattr__" = some (some (.builtin "object.__setattr__")))
  (ha_z:PySem.W.findIn K (.ref c_z) "__class__" = some (some (.builtin "object.__class__")))
  (hm_z:PySem.W.mroIn K c_z (.type "object")=some true)
  (na_z_words:PySem.W.findIn K (.ref c_z) "words" = some none)
  (na_z_others:PySem.W.findIn K (.ref c_z) "others" = some none)
  (na_z_wanted:PySem.W.findIn K (.ref c_z) "wanted" = some none)
  (na_z_word:PySem.W.findIn K (.ref c_z) "word" = some none)
  (na_z_y:PySem.W.findIn K (.ref c_z) "y" = some none)
  (na_z_x:PySem.W.findIn K (.ref c_z) "x" = some none)
  (mt_z_text:PySem.W.findIn K (.ref c_z) "text" = some (some (.ref f_text)))
  (mt_z_named:PySem.W.findIn K (.ref c_z) "named" = some (some (.ref f_named)))
  (mt_z_needs:PySem.W.findIn K (.ref c_z) "needs" = some (some (.ref f_needs)))
  (mt_z_wants:PySem.W.findIn K (.ref c_z) "wants" = some (some (.ref f_wants)))
  (pg_Drawing:PySem.W.plainGet K c_Drawing Str.empty=true)
  (hd_Drawing:PySem.W.hasDictIn K c_Drawing=true)
  (po_Drawing:PySem.W.plainOver K c_Drawing=true)
  (sa_Drawing:PySem.W.findIn K (.ref c_Drawing) "__setattr__" = some (some (.builtin "object.__setattr__")))
  (na_Drawing_steps:PySem.W.findIn K (.ref c_Drawing) "steps" = some none)
  (na_Drawing_scaffold:PySem.W.findIn K (.ref c_Drawing) "scaffold" = some none)
  (na_Drawing_kept:PySem.W.findIn K (.ref c_Drawing) "kept" = some none)
  (mt_Drawing_is_full:PySem.W.findIn K (.ref c_Drawing) "is_full" = some (some (.ref f_is_full)))
  (mt_Drawing_lift:PySem.W.findIn K (.ref c_Drawing) "lift" = some (some (.ref f_lift)))
  (mt_Drawing_rows:PySem.W.findIn K (.ref c_Drawing) "rows" = some (some (.ref f_rows)))
  (mt_Drawing_add:PySem.W.findIn K (.ref c_Drawing) "add" = some (some (.ref f_add)))
  (mk1_v:PySem.W.makesIn K c_v=true)
  (mk2_v:PySem.W.findIn K (.ref c_v) "__init__" = some (some (.ref j_v)))
  (mk3_v:PySem.W.isFn K (.ref j_v)=true)
  (mk4_v:PySem.W.keepIn K (.ref c_v)=true)
  (lka_v:ig K j_v "__init__" "LineThrough.__init__" m8)
  (mk1_w:PySem.W.makesIn K c_w=true)
  (mk2_w:PySem.W.findIn K (.ref c_w) "__init__" = some (some (.ref j_w)))
  (mk3_w:PySem.W.isFn K (.ref j_w)=true)
  (mk4_w:PySem.W.keepIn K (.ref c_w)=true)
  (lka_w:ig K j_w "__init__" "RingThrough.__init__" m9)
  (mk1_y:PySem.W.makesIn K c_y=true)
  (mk2_y:PySem.W.findIn K (.ref c_y) "__init__" = some (some (.ref j_y)))
  (mk3_y:PySem.W.isFn K (.ref j_y)=true)
  (mk4_y:PySem.W.keepIn K (.ref c_y)=true)
  (lka_y:ig K j_y "__init__" "MeetOfLines.__init__" m_)
  (mk1_z:PySem.W.makesIn K c_z=true)
  (mk2_z:PySem.W.findIn K (.ref c_z) "__init__" = some (some (.ref j_z)))
  (mk3_z:PySem.W.isFn K (.ref j_z)=true)
  (mk4_z:PySem.W.keepIn K (.ref c_z)=true)
  (lka_z:ig K j_z "__init__" "MeetWithRing.__init__" ni)
  (mk1_Drawing:PySem.W.makesIn K c_Drawing=true)
  (mk2_Drawing:PySem.W.findIn K (.ref c_Drawing) "__init__" = some (some (.ref j_Drawing)))
  (mk3_Drawing:PySem.W.isFn K (.ref j_Drawing)=true)
  (mk4_Drawing:PySem.W.keepIn K (.ref c_Drawing)=true)
  (lka_Drawing:ig K j_Drawing "__init__" "Drawing.__init__" nj)
  (mk1_u:PySem.W.makesIn K c_u=true)
  (mk2_u:PySem.W.findIn K (.ref c_u) "__init__" = some (some (.ref j_u)))
  (mk3_u:PySem.W.isFn K (.ref j_u)=true)
  (mk4_u:PySem.W.keepIn K (.ref c_u)=true)
  (lka_u:ig K j_u "__init__" "FirstPoint.__init__" nG)
  (mk1_x:PySem.W.makesIn K c_x=true)
  (mk2_x:PySem.W.findIn K (.ref c_x) "__init__" = some (some (.ref j_x)))
  (mk3_x:PySem.W.isFn K (.ref j_x)=true)
  (mk4_x:PySem.W.keepIn K (.ref c_x)=true)
  (lka_x:ig K j_x "__init__" "RingBy.__init__" nH)
  (mf_text:PySem.W.isFn K (.ref f_text)=true)
  (mp_text:PySem.W.keepIn K (.ref f_text)=true)
  (lka_m_text:ig K f_text "text" "Step.text" jY)
  (mf_named:PySem.W.isFn K (.ref f_named)=true)
  (mp_named:PySem.W.keepIn K (.ref f_named)=true)
  (lka_m_named:ig K f_named "named" "Step.named" jZ)
  (mf_needs:PySem.W.isFn K (.ref f_needs)=true)
  (mp_needs:PySem.W.keepIn K (.ref f_needs)=true)
  (lka_m_needs:ig K f_needs "needs" "Step.needs" j0)
  (mf_wants:PySem.W.isFn K (.ref f_wants)=true)
  (mp_wants:PySem.W.keepIn K (.ref f_wants)=true)
  (lka_m_wants:ig K f_wants "wants" "Step.wants" j4)
  (mf_is_full:PySem.W.isFn K (.ref f_is_full)=true)
  (mp_is_full:PySem.W.keepIn K (.ref f_is_full)=true)
  (lka_m_is_full:ig K f_is_full "is_full" "Drawing.is_full" jm)
  (mf_lift:PySem.W.isFn K (.ref f_lift)=true)
  (mp_lift:PySem.W.keepIn K (.ref f_lift)=true)
  (lka_m_lift:ig K f_lift "lift" "Drawing.lift" gU)
  (mf_rows:PySem.W.isFn K (.ref f_rows)=true)
  (mp_rows:PySem.W.keepIn K (.ref f_rows)=true)
  (lka_m_rows:ig K f_rows "rows" "Drawing.rows" j5)
  (mf_done:PySem.W.isFn K (.ref f_done)=true)
  (mp_done:PySem.W.keepIn K (.ref f_done)=true)
  (lka_m_done:ig K f_done "done" "FirstPoint.done" j6)
  (mf_add:PySem.W.isFn K (.ref f_add)=true)
  (mp_add:PySem.W.keepIn K (.ref f_add)=true)
  (lka_m_add:ig K f_add "add" "Drawing.add" iD)
  (b1:PySem.W.specialIn K (.ref c_t) "__getattribute__" = some (some (.builtin "type.__getattribute__")))
  (b2:PySem.W.readsIn K c_t (.type "type")=true)
  (b3:PySem.W.findCls K (.ref c_t) (.type "type") "__init__" = some (.val (.ref j_base)))
  (b4:PySem.W.keepIn K (.ref j_base)=true)
  (lka_base:ig K j_base "__init__" "Step.__init__" if')
  (gt1_POINT:qW K "POINT" ["point"])
  (gt1_LINE:qW K "LINE" ["line"])
  (gt1_RING:qW K "RING" ["ring"])
  (gt2_LINE_OR_RING:qW K "LINE_OR_RING" ["line", "ring"])
  (l_qa:Lk K "ten_times_itself" mq)
  (l_qR:Lk K "common" my)
  (l_qS:Lk K "lifted" mz)
  (l_qM:Lk K "is_plain" mD)
  (l_qv:Lk K "figures_of" mF)
  (l_qP:Lk K "is_name" mG)
  (l_qT:Lk K "found" mH)
  (l_qN:Lk K "_law_stir" mJ)
  (l_qO:Lk K "_law_name" eN)
  (l_qD:Lk K "_law_which" mK)
  (l_qE:Lk K "_law_class" jX)
  (l_qw:Lk K "_law_points" mL)
  (l_qx:Lk K "_law_others" mO)
  (l_qb:Lk K "has_more_figures" mQ)
  (l_qG:Lk K "are_parts" mR)
  (l_qk:Lk K "fraction_text" mU)
  (l_qH:Lk K "are_names" mV)
  (l_qB:Lk K "_law_cell" mW)
  (l_qI:Lk K "_law_thing" mX)
  (l_ql:Lk K "fraction_read" mY)
  (l_qJ:Lk K "has_great" mZ)
  (l_qq:Lk K "step_of_line" nu)
  (l_qr:Lk K "step_of_meet" nA)
  (l_qd:Lk K "fraction_or_none" nD)
  (l_qK:Lk K "are_great" nF)
  (l_qm:Lk K "step_of_point" nJ)
  (l_qs:Lk K "step_of_ring" nM)
  (l_qn:Lk K "step_of_words" nO)
  (l_qQ:Lk K "step_of" nP)
  (l_qU:Lk K "drawn" nQ)
  (l_qL:Lk K "_law_asked" nR)
  (n_law:PySem.W.nsIn K mainGlobals "law" = some (some (.ref f_law)))
  (l_law:K.lookup f_law=some ⟨oc_law,od_law,.func (PySem.W.fnOf "law" "law" (aX j7) (aD j7) (ao j7) .none kV_law dc_law pm_law an_law cd_law ct_law),sl_law⟩)
  (c_law:PySem.W.codeIn K cd_law "law" = true)
  (k_law:PySem.W.keepIn K (.ref f_law)=true)
  (n_FIGURES:PySem.W.nsIn K mainGlobals "FIGURES" = some (some (.str "0123456789" t_FIGURES)))
  (n_MOST_FIGURES:PySem.W.nsIn K mainGlobals "MOST_FIGURES" = some (some (.int 60 t_MOST_FIGURES)))
  (n_LETTERS:PySem.W.nsIn K mainGlobals "LETTERS" = some (some (.str "abcdefghijklmnopqrstuvwxyz" t_LETTERS)))
  (n_MOST_LETTERS:PySem.W.nsIn K mainGlobals "MOST_LETTERS" = some (some (.int 6 t_MOST_LETTERS)))
  (n_MOST_POINTS:PySem.W.nsIn K mainGlobals "MOST_POINTS" = some (some (.int 6 t_MOST_POINTS)))
  (n_MOST_OTHERS:PySem.W.nsIn K mainGlobals "MOST_OTHERS" = some (some (.int 20 t_MOST_OTHERS)))
  (n_MOST_FIGURES_TOLD:PySem.W.nsIn K mainGlobals "MOST_FIGURES_TOLD" = some (some (.int 300 t_MOST_FIGURES_TOLD)))
  (z_ValueError:PySem.W.nsIn K mainGlobals "ValueError" = some none)
  (z_abs:PySem.W.nsIn K mainGlobals "abs" = some none)
  (z_all:PySem.W.nsIn K mainGlobals "all" = some none)
  (z_any:PySem.W.nsIn K mainGlobals "any" = some none)
  (z_dict:PySem.W.nsIn K mainGlobals "dict" = some none)
  (z_enumerate:PySem.W.nsIn K mainGlobals "enumerate" = some none)
  (z_int:PySem.W.nsIn K mainGlobals "int" = some none)
  (z_isinstance:PySem.W.nsIn K mainGlobals "isinstance" = some none)
  (z_len:PySem.W.nsIn K mainGlobals "len" = some none)
  (z_list:PySem.W.nsIn K mainGlobals "list" = some none)
  (z_range:PySem.W.nsIn K mainGlobals "range" = some none)
  (z_reversed:PySem.W.nsIn K mainGlobals "reversed" = some none)
  (z_str:PySem.W.nsIn K mainGlobals "str" = some none)
  (z_zip:PySem.W.nsIn K mainGlobals "zip" = some none)
  (e0_h:PySem.W.findIn K (.ref c_h) "__getattribute__" = some (some (.builtin "BaseException.__getattribute__")))
  (e1_h:PySem.W.findIn K (.ref c_h) "__getattr__" = some none)
  (e2_h:PySem.W.hasDictIn K c_h=true)
  (e3_h:PySem.W.findIn K (.ref c_h) "__class__" = some (some (.builtin "object.__class__")))
  (e6_h:PySem.W.mroIn K c_h (.type "object")=some true)
  (e7_h:PySem.W.mroIn K c_h (.type "BaseException")=some true)
  (e4:PySem.W.specialIn K (.builtin "object.__class__") "__get__" = some (some (.builtin "getset_descriptor.__get__")))
  (e5:PySem.W.takesIn K (.builtin "object.__class__")=some true)
  (s_h_a:PySem.W.exmOne K (.ref c_h) (.ref c_a)=some true)
  (s_c_c:PySem.W.exmOne K (.ref c_c) (.ref c_c)=some true)
  (i_int_str:PySem.W.kitOne K (.type "int") (.type "str")=some false)
  (i_bool_str:PySem.W.kitOne K (.type "bool") (.type "str")=some false)
  (i_NoneType_str:PySem.W.kitOne K (.type "NoneType") (.type "str")=some false)
  (i_str_str:PySem.W.kitOne K (.type "str") (.type "str")=some true)
  (i_tuple_str:PySem.W.kitOne K (.type "tuple") (.type "str")=some false)
  (i_list_str:PySem.W.kitOne K (.type "list") (.type "str")=some false)
  (i_dict_str:PySem.W.kitOne K (.type "dict") (.type "str")=some false)
  (i_u_u:PySem.W.kitOne K (.ref c_u) (.ref c_u)=some true)
  (i_v_u:PySem.W.kitOne K (.ref c_v) (.ref c_u)=some false)
  (i_w_u:PySem.W.kitOne K (.ref c_w) (.ref c_u)=some false)
  (i_x_u:PySem.W.kitOne K (.ref c_x) (.ref c_u)=some false)
  (i_y_u:PySem.W.kitOne K (.ref c_y) (.ref c_u)=some false)
  (i_z_u:PySem.W.kitOne K (.ref c_z) (.ref c_u)=some false)
  (i_h_b:PySem.W.kitOne K (.ref c_h) (.ref c_b)=some false)
  (i_h_c:PySem.W.kitOne K (.ref c_h) (.ref c_c)=some false)
  (i_h_d:PySem.W.kitOne K (.ref c_h) (.ref c_d)=some false)
  (i_h_e:PySem.W.kitOne K (.ref c_h) (.ref c_e)=some false)
  (i_h_f:PySem.W.kitOne K (.ref c_h) (.ref c_f)=some false)
  (i_h_g:PySem.W.kitOne K (.ref c_h) (.ref c_g)=some false)
  (i_h_h:PySem.W.kitOne K (.ref c_h) (.ref c_h)=some true)
  (i_h_i:PySem.W.kitOne K (.ref c_h) (.ref c_i)=some false)
  (i_h_j:PySem.W.kitOne K (.ref c_h) (.ref c_j)=some false)
  (i_h_k:PySem.W.kitOne K (.ref c_h) (.ref c_k)=some false)
  (i_h_l:PySem.W.kitOne K (.ref c_h) (.ref c_l)=some false)
  (i_h_m:PySem.W.kitOne K (.ref c_h) (.ref c_m)=some false)
  (i_h_n:PySem.W.kitOne K (.ref c_h) (.ref c_n)=some false)
  (i_h_o:PySem.W.kitOne K (.ref c_h) (.ref c_o)=some false)
  (i_h_p:PySem.W.kitOne K (.ref c_h) (.ref c_p)=some false)
  (i_h_q:PySem.W.kitOne K (.ref c_h) (.ref c_q)=some false)
  (i_h_r:PySem.W.kitOne K (.ref c_h) (.ref c_r)=some false)
  (i_h_s:PySem.W.kitOne K (.ref c_h) (.ref c_s)=some false)
  (i_h_a:PySem.W.kitOne K (.ref c_h) (.ref c_a)=some true)
  (i_h_ValueError:PySem.W.kitOne K (.ref c_h) (.type "ValueError")=some true)
  : ∃fd:FuncData,(∀(s:Shared) (v:Value),BindsTo s fd ⟨[v],[]⟩ [("_law_script",v)])/\∀base:Heap,K.In base->base.Ns mainGlobals mg->FnOk l.prog w K mg base (cA l.prog w) 11 fa fd ["_law_script"] (jU K gY):=by
 have e:=hfa.symm.trans (PySem.W.mg_of X G n_law)
 cases e
 have gY:=An (st:=j7) l_law c_law k_law;have Y_h:∀{V:Value} {b:Bool},PySem.W.kitOne K (.ref c_h) V=some b->b7 K V b (.exc "NoRow"):=fun h C hC=>by cases n_h.symm.trans hC; exact ⟨⟨e0_h,e1_h,e2_h,e3_h,e4,e5,e6_h,e7_h⟩,h⟩
 have CL_u:Cls K c_u:=⟨pg_u,hd_u,po_u,sa_u⟩;have CL_v:Cls K c_v:=⟨pg_v,hd_v,po_v,sa_v⟩;have CL_w:Cls K c_w:=⟨pg_w,hd_w,po_w,sa_w⟩;have CL_x:Cls K c_x:=⟨pg_x,hd_x,po_x,sa_x⟩;have CL_y:Cls K c_y:=⟨pg_y,hd_y,po_y,sa_y⟩;have CL_z:Cls K c_z:=⟨pg_z,hd_z,po_z,sa_z⟩;have CL_Drawing:Cls K c_Drawing:=⟨pg_Drawing,hd_Drawing,po_Drawing,sa_Drawing⟩;have cs:∀{Q:Addr->Prop},Q c_u->Q c_v->Q c_w->Q c_x->Q c_y->Q c_z->∀c,aU c=true->∀C,PySem.W.nsIn K mainGlobals c=some (some (.ref C))->Q C:=by
  intro Q h_u h_v h_w h_x h_y h_z c hc C hC;unfold aU at hc;simp only [List.contains_cons,List.contains_nil,Bool.or_false,Bool.or_eq_true,beq_iff_eq] at hc;rcases hc with rfl | rfl | rfl | rfl | rfl | rfl
  ·cases n_u.symm.trans hC; exact h_u
  ·cases n_v.symm.trans hC; exact h_v
  ·cases n_w.symm.trans hC; exact h_w
  ·cases n_x.symm.trans hC; exact h_x
  ·cases n_y.symm.trans hC; exact h_y
  ·cases n_z.symm.trans hC; exact h_z
 have csD:∀{Q:Addr->Prop},Q c_Drawing->∀c,isD c=true->∀C,PySem.W.nsIn K mainGlobals c=some (some (.ref C))->Q C:=by
  intro Q h_Drawing c hc C hC;unfold isD at hc;simp only [List.contains_cons,List.contains_nil,Bool.or_false,Bool.or_eq_true,beq_iff_eq] at hc;subst hc; cases n_Drawing.symm.trans hC; exact h_Drawing
 have csS_u:∀{Q:Addr->Prop},Q c_u->∀c,aM c=true->∀C,PySem.W.nsIn K mainGlobals c=some (some (.ref C))->Q C:=by
  intro Q h_u c hc C hC;unfold aM at hc;simp only [List.contains_cons,List.contains_nil,Bool.or_false,Bool.or_eq_true,beq_iff_eq] at hc;subst hc; cases n_u.symm.trans hC; exact h_u
 have T:Txt K mg { c_a:=c_a,c_b:=c_b,c_c:=c_c,c_d:=c_d,c_e:=c_e,c_f:=c_f,c_g:=c_g,c_h:=c_h,c_i:=c_i,c_j:=c_j,c_k:=c_k,c_l:=c_l,c_m:=c_m,c_n:=c_n,c_o:=c_o,c_p:=c_p,c_q:=c_q,c_r:=c_r,c_s:=c_s,c_t:=c_t,c_u:=c_u,c_v:=c_v,c_w:=c_w,c_x:=c_x,c_y:=c_y,c_z:=c_z,c_Drawing:=c_Drawing }:={
  m_a:=PySem.W.mg_of X G n_a
  m_b:=PySem.W.mg_of X G n_b
  m_c:=PySem.W.mg_of X G n_c
  n_c:=n_c
  x_c:=x_c
  m_d:=PySem.W.mg_of X G n_d
  m_e:=PySem.W.mg_of X G n_e
  m_f:=PySem.W.mg_of X G n_f
  m_g:=PySem.W.mg_of X G n_g
  m_h:=PySem.W.mg_of X G n_h
  n_h:=n_h
  x_h:=x_h
  m_i:=PySem.W.mg_of X G n_i
  m_j:=PySem.W.mg_of X G n_j
  m_k:=PySem.W.mg_of X G n_k
  m_l:=PySem.W.mg_of X G n_l
  m_m:=PySem.W.mg_of X G n_m
  m_n:=PySem.W.mg_of X G n_n
  m_o:=PySem.W.mg_of X G n_o
  m_p:=PySem.W.mg_of X G n_p
  m_q:=PySem.W.mg_of X G n_q
  m_r:=PySem.W.mg_of X G n_r
  m_s:=PySem.W.mg_of X G n_s
  m_t:=PySem.W.mg_of X G n_t
  m_u:=PySem.W.mg_of X G n_u
  m_v:=PySem.W.mg_of X G n_v
  m_w:=PySem.W.mg_of X G n_w
  m_x:=PySem.W.mg_of X G n_x
  m_y:=PySem.W.mg_of X G n_y
  m_z:=PySem.W.mg_of X G n_z
  m_Drawing:=PySem.W.mg_of X G n_Drawing
  m_FIGURES:=⟨_,PySem.W.mg_of X G n_FIGURES⟩
  m_MOST_FIGURES:=⟨_,PySem.W.mg_of X G n_MOST_FIGURES⟩
  m_LETTERS:=⟨_,PySem.W.mg_of X G n_LETTERS⟩
  m_MOST_LETTERS:=⟨_,PySem.W.mg_of X G n_MOST_LETTERS⟩
  m_MOST_POINTS:=⟨_,PySem.W.mg_of X G n_MOST_POINTS⟩
  m_MOST_OTHERS:=⟨_,PySem.W.mg_of X G n_MOST_OTHERS⟩
  m_MOST_FIGURES_TOLD:=⟨_,PySem.W.mg_of X G n_MOST_FIGURES_TOLD⟩
  z_ValueError:=PySem.W.mg_none_of X G z_ValueError
  z_abs:=PySem.W.mg_none_of X G z_abs
  z_all:=PySem.W.mg_none_of X G z_all
  z_any:=PySem.W.mg_none_of X G z_any
  z_dict:=PySem.W.mg_none_of X G z_dict
  z_enumerate:=PySem.W.mg_none_of X G z_enumerate
  z_int:=PySem.W.mg_none_of X G z_int
  z_isinstance:=PySem.W.mg_none_of X G z_isinstance
  z_len:=PySem.W.mg_none_of X G z_len
  z_list:=PySem.W.mg_none_of X G z_list
  z_range:=PySem.W.mg_none_of X G z_range
  z_reversed:=PySem.W.mg_none_of X G z_reversed
  z_str:=PySem.W.mg_none_of X G z_str
  z_zip:=PySem.W.mg_none_of X G z_zip
  o_words:=cs (Q:=fun C=>Cls K C/\NoAttr K C "words") ⟨CL_u,na_u_words⟩ ⟨CL_v,na_v_words⟩ ⟨CL_w,na_w_words⟩ ⟨CL_x,na_x_words⟩ ⟨CL_y,na_y_words⟩ ⟨CL_z,na_z_words⟩
  o_others:=cs (Q:=fun C=>Cls K C/\NoAttr K C "others") ⟨CL_u,na_u_others⟩ ⟨CL_v,na_v_others⟩ ⟨CL_w,na_w_others⟩ ⟨CL_x,na_x_others⟩ ⟨CL_y,na_y_others⟩ ⟨CL_z,na_z_others⟩
  o_wanted:=cs (Q:=fun C=>Cls K C/\NoAttr K C "wanted") ⟨CL_u,na_u_wanted⟩ ⟨CL_v,na_v_wanted⟩ ⟨CL_w,na_w_wanted⟩ ⟨CL_x,na_x_wanted⟩ ⟨CL_y,na_y_wanted⟩ ⟨CL_z,na_z_wanted⟩
  o_steps:=csD (Q:=fun C=>Cls K C/\NoAttr K C "steps") ⟨CL_Drawing,na_Drawing_steps⟩
  o_y:=cs (Q:=fun C=>Cls K C/\NoAttr K C "y") ⟨CL_u,na_u_y⟩ ⟨CL_v,na_v_y⟩ ⟨CL_w,na_w_y⟩ ⟨CL_x,na_x_y⟩ ⟨CL_y,na_y_y⟩ ⟨CL_z,na_z_y⟩
  o_x:=cs (Q:=fun C=>Cls K C/\NoAttr K C "x") ⟨CL_u,na_u_x⟩ ⟨CL_v,na_v_x⟩ ⟨CL_w,na_w_x⟩ ⟨CL_x,na_x_x⟩ ⟨CL_y,na_y_x⟩ ⟨CL_z,na_z_x⟩
  o_kept:=csD (Q:=fun C=>Cls K C/\NoAttr K C "kept") ⟨CL_Drawing,na_Drawing_kept⟩
  o_scaffold:=csD (Q:=fun C=>Cls K C/\NoAttr K C "scaffold") ⟨CL_Drawing,na_Drawing_scaffold⟩
  m_POINT:=zB X G gt1_POINT
  m_LINE:=zB X G gt1_LINE
  m_RING:=zB X G gt1_RING
  m_LINE_OR_RING:=zB X G gt2_LINE_OR_RING
  s_c:=by
   intro x C hC hs;unfold eX at hs
   split at hs
   ·rename_i e; subst e; cases n_c.symm.trans hC; exact s_c_c
   ·cases hs
  s_a:=by
   intro x C hC hs;unfold cj at hs
   split at hs
   ·rename_i e; subst e; cases n_h.symm.trans hC; exact s_h_a
   cases hs
  i_ValueError:=by
   exact iC (Y_h i_h_ValueError)
  i_a:=by
   exact iC (Y_h i_h_a)
  i_s:=by
   exact iC (Y_h i_h_s)
  i_r:=by
   exact iC (Y_h i_h_r)
  i_q:=by
   exact iC (Y_h i_h_q)
  i_p:=by
   exact iC (Y_h i_h_p)
  i_o:=by
   exact iC (Y_h i_h_o)
  i_n:=by
   exact iC (Y_h i_h_n)
  i_m:=by
   exact iC (Y_h i_h_m)
  i_l:=by
   exact iC (Y_h i_h_l)
  i_k:=by
   exact iC (Y_h i_h_k)
  i_j:=by
   exact iC (Y_h i_h_j)
  i_i:=by
   exact iC (Y_h i_h_i)
  i_h:=by
   exact iC (Y_h i_h_h)
  i_g:=by
   exact iC (Y_h i_h_g)
  i_f:=by
   exact iC (Y_h i_h_f)
  i_e:=by
   exact iC (Y_h i_h_e)
  i_d:=by
   exact iC (Y_h i_h_d)
  i_c:=by
   exact iC (Y_h i_h_c)
  i_b:=by
   exact iC (Y_h i_h_b)
  i_u:=by
   intro d b hd
   cases d with
   | obj c fs ds =>
    simp only [cu] at hd
    split at hd
    ·rename_i hc; subst hc; cases hd; intro C hC; cases n_u.symm.trans hC; exact ⟨⟨CL_u,ha_u,e4,e5,hm_u⟩,i_u_u⟩
    ·split at hd
     ·rename_i hc; cases hd; intro C hC;simp only [List.contains_cons,List.contains_nil,Bool.or_false,Bool.or_eq_true,beq_iff_eq] at hc;rcases hc with rfl | rfl | rfl | rfl | rfl
      ·cases n_v.symm.trans hC; exact ⟨⟨CL_v,ha_v,e4,e5,hm_v⟩,i_v_u⟩
      ·cases n_w.symm.trans hC; exact ⟨⟨CL_w,ha_w,e4,e5,hm_w⟩,i_w_u⟩
      ·cases n_x.symm.trans hC; exact ⟨⟨CL_x,ha_x,e4,e5,hm_x⟩,i_x_u⟩
      ·cases n_y.symm.trans hC; exact ⟨⟨CL_y,ha_y,e4,e5,hm_y⟩,i_y_u⟩
      ·cases n_z.symm.trans hC; exact ⟨⟨CL_z,ha_z,e4,e5,hm_z⟩,i_z_u⟩
     ·cases hd
   | _=>cases hd
  i_str:=by
   intro d b hd
   cases d <;> simp only [Bk.is_str] at hd <;> cases hd <;> first | exact i_int_str | exact i_bool_str | exact i_NoneType_str | exact i_str_str | exact i_tuple_str | exact i_list_str | exact i_dict_str
 }
 refine ⟨PySem.W.fnOf "law" "law" (aX j7) (aD j7) (ao j7) .none kV_law dc_law pm_law an_law cd_law ct_law,fun s v=>.of_eq rfl,fun base _ _=>?_⟩;have GB:=M3 (P:=l.prog) (w:=w) (base:=base) (k:=0) (f1:="words") (f2:="others") (f3:="wanted") ⟨b1,b2,b3,b4⟩ lka_base (PySem.W.mg_of X G n_t) OD (by decide) (by decide) (by decide) fun _ _ _ _ _ _=>gq (lJ (pv 0) (pv 1) rfl) (gq (lJ (pv 0) (pv 2) rfl) (uR (lJ (pv 0) (pv 3) rfl)));have G_qa:=xx (P:=l.prog) (w:=w) (base:=base) T (dh X G l_qa);have G_qR:=xF (P:=l.prog) (w:=w) (base:=base) T (k_ X G l_qR);have G_qS:=xG (P:=l.prog) (w:=w) (base:=base) T (k_ X G l_qS);have G_qM:=xH (P:=l.prog) (w:=w) (base:=base) T (dh X G l_qM);have G_qv:=xJ (P:=l.prog) (w:=w) (base:=base) T (dh X G l_qv);have G_qP:=xK (P:=l.prog) (w:=w) (base:=base) T (dh X G l_qP);have G_qT:=xM (P:=l.prog) (w:=w) (base:=base) T (vR X G l_qT);have G_qN:=xN (P:=l.prog) (w:=w) (base:=base) T (k_ X G l_qN);have G_qO:=xO (P:=l.prog) (w:=w) (base:=base) T (dh X G l_qO);have G_qD:=xP (P:=l.prog) (w:=w) (base:=base) T (dh X G l_qD);have G_qE:=xQ (P:=l.prog) (w:=w) (base:=base) T (dh X G l_qE);have G_qw:=xR (P:=l.prog) (w:=w) (base:=base) T (xu X G l_qw);have G_qx:=xT (P:=l.prog) (w:=w) (base:=base) T (xu X G l_qx);have EM_t_text:cU K aU "text" "Step.text" jY ["self"]:=pX lka_m_text (cs (Q:=fun C=>Cls K C/\Meth K C "text" f_text) ⟨CL_u,⟨mt_u_text,mf_text,mp_text⟩⟩ ⟨CL_v,⟨mt_v_text,mf_text,mp_text⟩⟩ ⟨CL_w,⟨mt_w_text,mf_text,mp_text⟩⟩ ⟨CL_x,⟨mt_x_text,mf_text,mp_text⟩⟩ ⟨CL_y,⟨mt_y_text,mf_text,mp_text⟩⟩ ⟨CL_z,⟨mt_z_text,mf_text,mp_text⟩⟩) (fun _ _ _ _ _ _ us hl=>match us,hl with | [_],_=>rfl)
 have G_qF:=xU (P:=l.prog) (w:=w) (base:=base) T EM_t_text;have EM_t_named:cU K aU "named" "Step.named" jZ ["self"]:=pX lka_m_named (cs (Q:=fun C=>Cls K C/\Meth K C "named" f_named) ⟨CL_u,⟨mt_u_named,mf_named,mp_named⟩⟩ ⟨CL_v,⟨mt_v_named,mf_named,mp_named⟩⟩ ⟨CL_w,⟨mt_w_named,mf_named,mp_named⟩⟩ ⟨CL_x,⟨mt_x_named,mf_named,mp_named⟩⟩ ⟨CL_y,⟨mt_y_named,mf_named,mp_named⟩⟩ ⟨CL_z,⟨mt_z_named,mf_named,mp_named⟩⟩) (fun _ _ _ _ _ _ us hl=>match us,hl with | [_],_=>rfl)
 have G_qy:=xV (P:=l.prog) (w:=w) (base:=base) T EM_t_named;have EM_t_needs:cU K aU "needs" "Step.needs" j0 ["self"]:=pX lka_m_needs (cs (Q:=fun C=>Cls K C/\Meth K C "needs" f_needs) ⟨CL_u,⟨mt_u_needs,mf_needs,mp_needs⟩⟩ ⟨CL_v,⟨mt_v_needs,mf_needs,mp_needs⟩⟩ ⟨CL_w,⟨mt_w_needs,mf_needs,mp_needs⟩⟩ ⟨CL_x,⟨mt_x_needs,mf_needs,mp_needs⟩⟩ ⟨CL_y,⟨mt_y_needs,mf_needs,mp_needs⟩⟩ ⟨CL_z,⟨mt_z_needs,mf_needs,mp_needs⟩⟩) (fun _ _ _ _ _ _ us hl=>match us,hl with | [_],_=>rfl)
 have G_qz:=xW (P:=l.prog) (w:=w) (base:=base) T EM_t_needs;have EM_t_wants:cU K aU "wants" "Step.wants" j4 ["self"]:=pX lka_m_wants (cs (Q:=fun C=>Cls K C/\Meth K C "wants" f_wants) ⟨CL_u,⟨mt_u_wants,mf_wants,mp_wants⟩⟩ ⟨CL_v,⟨mt_v_wants,mf_wants,mp_wants⟩⟩ ⟨CL_w,⟨mt_w_wants,mf_wants,mp_wants⟩⟩ ⟨CL_x,⟨mt_x_wants,mf_wants,mp_wants⟩⟩ ⟨CL_y,⟨mt_y_wants,mf_wants,mp_wants⟩⟩ ⟨CL_z,⟨mt_z_wants,mf_wants,mp_wants⟩⟩) (fun _ _ _ _ _ _ us hl=>match us,hl with | [_],_=>rfl)
 have G_qA:=xX (P:=l.prog) (w:=w) (base:=base) T EM_t_wants;have EM_Drawing_is_full:cU K isD "is_full" "Drawing.is_full" jm ["self", "first"]:=pX lka_m_is_full (csD (Q:=fun C=>Cls K C/\Meth K C "is_full" f_is_full) ⟨CL_Drawing,⟨mt_Drawing_is_full,mf_is_full,mp_is_full⟩⟩) (fun _ _ _ _ _ _ us hl=>match us,hl with | [_,_],_=>rfl)
 have G_qe:=xY (P:=l.prog) (w:=w) (base:=base) T EM_Drawing_is_full;have EM_Drawing_lift:cU K isD "lift" "Drawing.lift" gU ["self", "roots"]:=pX lka_m_lift (csD (Q:=fun C=>Cls K C/\Meth K C "lift" f_lift) ⟨CL_Drawing,⟨mt_Drawing_lift,mf_lift,mp_lift⟩⟩) (fun _ _ _ _ _ _ us hl=>match us,hl with | [_,_],_=>rfl)
 have G_qo:=xZ (P:=l.prog) (w:=w) (base:=base) T EM_Drawing_lift;have G_qb:=x_ T (k_ X G l_qb) G_qa;have G_qG:=yc T (dh X G l_qG) G_qM;have G_qk:=yd T (dh X G l_qk) G_qv;have G_qH:=ye T (dh X G l_qH) G_qP;have G_qB:=yf T (k_ X G l_qB) G_qN;have G_qI:=yg T (dh X G l_qI) G_qw G_qx G_qO;have EM_Drawing_rows:cU K isD "rows" "Drawing.rows" j5 ["self"]:=pX lka_m_rows (csD (Q:=fun C=>Cls K C/\Meth K C "rows" f_rows) ⟨CL_Drawing,⟨mt_Drawing_rows,mf_rows,mp_rows⟩⟩) (fun _ _ _ _ _ _ us hl=>match us,hl with | [_],_=>rfl)
 have G_qp:=yh (P:=l.prog) (w:=w) (base:=base) T EM_Drawing_rows G_qF;have EM_u_done:cU K aM "done" "FirstPoint.done" j6 ["self", "roots", "given"]:=pX lka_m_done (csS_u (Q:=fun C=>Cls K C/\Meth K C "done" f_done) ⟨CL_u,⟨mt_u_done,mf_done,mp_done⟩⟩) (fun _ _ _ _ _ _ us hl=>match us,hl with | [_,_,_],_=>rfl)
 have G_qf:=yj (P:=l.prog) (w:=w) (base:=base) T EM_u_done G_qS;have G_ql:=ym T (dh X G l_ql) G_qG G_qR;have G_qJ:=yo T (dh X G l_qJ) G_qb;have G_qg:=yp T (jC ⟨mk1_v,mk2_v,mk3_v,mk4_v⟩ lka_v (PySem.W.mg_of X G n_v) n_v CL_v (by intro g hg; simp only [List.map_cons,List.map_nil,List.cons_append,List.nil_append,List.mem_cons,List.not_mem_nil,or_false] at hg; rcases hg with rfl | rfl | rfl <;> assumption) (fun _ _ _ _ _ _ us hl=>match us,hl with | [_,_,_,_],_=>rfl))  GB
 have G_qh:=yq T (jC ⟨mk1_w,mk2_w,mk3_w,mk4_w⟩ lka_w (PySem.W.mg_of X G n_w) n_w CL_w (by intro g hg; simp only [List.map_cons,List.map_nil,List.cons_append,List.nil_append,List.mem_cons,List.not_mem_nil,or_false] at hg; rcases hg with rfl | rfl | rfl <;> assumption) (fun _ _ _ _ _ _ us hl=>match us,hl with | [_,_,_,_],_=>rfl))  GB
 have G_qi:=yr T (jC ⟨mk1_y,mk2_y,mk3_y,mk4_y⟩ lka_y (PySem.W.mg_of X G n_y) n_y CL_y (by intro g hg; simp only [List.map_cons,List.map_nil,List.cons_append,List.nil_append,List.mem_cons,List.not_mem_nil,or_false] at hg; rcases hg with rfl | rfl | rfl <;> assumption) (fun _ _ _ _ _ _ us hl=>match us,hl with | [_,_,_,_],_=>rfl))  GB
 have G_qc:=yt T (jC ⟨mk1_z,mk2_z,mk3_z,mk4_z⟩ lka_z (PySem.W.mg_of X G n_z) n_z CL_z (by intro g hg; simp only [List.map_cons,List.map_nil,List.cons_append,List.nil_append,List.mem_cons,List.not_mem_nil,or_false] at hg; rcases hg with rfl | rfl | rfl | rfl <;> assumption) (fun _ _ _ _ _ _ us hl=>match us,hl with | [_,_,_,_,_],_=>rfl))  GB
 have D_Drawing:=PJ (P:=l.prog) (w:=w) (base:=base) (jC ⟨mk1_Drawing,mk2_Drawing,mk3_Drawing,mk4_Drawing⟩ lka_Drawing (PySem.W.mg_of X G n_Drawing) n_Drawing CL_Drawing (by intro g hg; simp only [List.map_cons,List.map_nil,List.cons_append,List.nil_append,List.mem_cons,List.not_mem_nil,or_false] at hg; rcases hg with rfl | rfl | rfl <;> assumption) (fun _ _ _ _ _ _ us hl=>match us,hl with | [_],_=>rfl))
 have G_qt:=D_Drawing.okn;have G_qq:=yu T (dh X G l_qq) G_qH G_qg;have G_qr:=yw T (dh X G l_qr) G_qH G_qi G_qc;have G_qd:=yz T (dh X G l_qd) G_ql;have G_qK:=yC T (k_ X G l_qK) G_qJ;have G_qj:=yD T (jC ⟨mk1_u,mk2_u,mk3_u,mk4_u⟩ lka_u (PySem.W.mg_of X G n_u) n_u CL_u (by intro g hg; simp only [List.map_cons,List.map_nil,List.cons_append,List.nil_append,List.mem_cons,List.not_mem_nil,or_false] at hg; rcases hg with rfl | rfl | rfl | rfl | rfl <;> assumption) (fun _ _ _ _ _ _ us hl=>match us,hl with | [_,_,_,_],_=>rfl)) G_qk GB
 have G_qC:=yE T (jC ⟨mk1_x,mk2_x,mk3_x,mk4_x⟩ lka_x (PySem.W.mg_of X G n_x) n_x CL_x (by intro g hg; simp only [List.map_cons,List.map_nil,List.cons_append,List.nil_append,List.mem_cons,List.not_mem_nil,or_false] at hg; rcases hg with rfl | rfl | rfl | rfl <;> assumption) (fun _ _ _ _ _ _ us hl=>match us,hl with | [_,_,_,_],_=>rfl)) G_qk GB
 have G_qm:=yF T (dh X G l_qm) G_qd G_qj;have G_qs:=yG T (dh X G l_qs) G_qH G_qh G_qP G_qd G_qC;have G_qn:=yH T (dh X G l_qn) G_qP G_qm G_qq G_qs G_qr;have G_qQ:=yI T (dh X G l_qQ) G_qn;have EM_Drawing_add:cU K isD "add" "Drawing.add" iD ["self", "thing"]:=pX lka_m_add (csD (Q:=fun C=>Cls K C/\Meth K C "add" f_add) ⟨CL_Drawing,⟨mt_Drawing_add,mf_add,mp_add⟩⟩) (fun _ _ _ _ _ _ us hl=>match us,hl with | [_,_],_=>rfl)
 have G_qu:=yJ (P:=l.prog) (w:=w) (base:=base) T EM_Drawing_add G_qQ;have G_qU:=yK T (dh X G l_qU) G_qt G_qu;have G_qL:=yL T (vR X G l_qL) G_qQ G_qD G_qu G_qU G_qE;exact PK T gY G_qN G_qI G_qB G_qp G_qL G_qo G_qe G_qT G_qK G_qf G_qy G_qz G_qA G_qQ (PB T D_Drawing EM_Drawing_add EM_Drawing_lift G_qQ G_qe G_qy G_qf G_qT G_qz G_qA G_qK)
theorem walk {l:PySem.W.OpenLaw} {q:Program} {loose:List Str} {XP:(Str->Option Value)->Heap->Prop} {YP:World->Heap->Prop} {d:DefRec} {K:Params->PySem.W.Frag} (hn:l.most=some 63) (hdf:d.params.defaults=[])
  (hY:∀(w:World) (h:Heap),YP w h->(K w.params).In h)
  (F:∀(w:World) (mg:Str->Option Value) (fa:Addr) (h:Heap),(K w.params).In h->h.Ns mainGlobals mg->mg d.name=some (.ref fa) ->
   ∃fd:FuncData,(∀(s:Shared) (u:Value),BindsTo s fd ⟨[u],[]⟩ [("_law_script",u)])/\∀base:Heap,(K w.params).In base->base.Ns mainGlobals mg->FnOk l.prog w (K w.params) mg base (cA l.prog w) 11 fa fd ["_law_script"] (jU (K w.params) gY)) :
  PySem.W.WalkO q loose XP YP l.row.toRowW d [] (fun f vs=>PySem.call f vs) :=
 L2.walk_of (n:=63) (k:=11) (x:="_law_script") (CX:=fun w=>cA l.prog w) (sp:=fun w=>jU (K w.params) gY) hn (by decide) hdf ⟨rfl,by decide,by decide⟩ hY F
  (fun w H a ns hl _ hS=>⟨[.lst (ns.map .int)],.cons (jT hS (Hv ns)) .nil,by rw [Qd ns hl]; exact fun v H' _ r=>by rw [Rep] at r; exact r⟩)
  fun _ _ _ _ _ z=>by obtain ⟨_,_,_,_,_,_,_,_,_,_,z⟩:=z; exact z
end K29
open PySem PySem.W PyProof.Rows
namespace PySem.W.Fast
def tw2452185862859358730:=()
def tw11966473706195410534:=()
def tw5816580783687833350:=()
def tw12811361190665177318:=()
def tw8559444001291415057:=()
def tw8459161460245672399:=()
def tw8781114773657039638:=()
def tw5491551971877167898:=()
def tw7866606613309887052:=()
def tw12726569500591260204:=()
def tw9676679907519042531:=()
def tw8516026252444357528:=()
def tw12105696406321337908:=()
def tw197337083712090061:=()
def tw326037208516695696:=()
def tw12777810625231812678:=()
def tw9992993593271972475:=()
def tw4901446683363923967:=()
def tw7277563121964796176:=()
def tw10076474853496659249:=()
def tw13298543838681090864:=()
def tw13575242238052311870:=()
def tw12529382911338344661:=()
def tw16831074684200662507:=()
def tw17254621767126483439:=()
def tw16634083738613842927:=()
def tw3217564735658145027:=()
def tw8813053371808851274:=()
def tw838202371677685610:=()
def tw11080105520675404911:=()
def tw10807618657772563529:=()
def tw11313805783754134824:=()
def tw809617921911813415:=()
def tw15339662405498400004:=()
def tw2050304779287878998:=()
def tw15526470104268754168:=()
def tw12473190212225025476:=()
def tw16681586263530841304:=()
def tw14527099473933789460:=()
def tw13066382974132195862:=()
def tw3791188892269171535:=()
def tw4109049492328058329:=()
def tw6445021662458517716:=()
def tw12342389528762050741:=()
def tw16677317095420901019:=()
def tw4752889212750737549:=()
def tw15269093350852081393:=()
def tw14331159918490972130:=()
def tw4995102316876859906:=()
def tw14531816639860901438:=()
def tw14858942249728965229:=()
def tw6668545330221886282:=()
def tw17150584106617088353:=()
def tw3716091074084804337:=()
def tw1800431211667537145:=()
def tw4964802406468257093:=()
def tw4092936497256567798:=()
def tw12417277245637016647:=()
def tw16951488287833900243:=()
def tw12872483643486089010:=()
def tw4185402011183785538:=()
def tw6567754921658308493:=()
def tw5131769335911745061:=()
def tw16796593313565787506:=()
def tw15228221561760191421:=()
def tw13800894063683003041:=()
def tw14701289435919494342:=()
def tw15625555019762561936:=()
def tw8140184920020054163:=()
def tw8821988186735982291:=()
def tw4899296582064125039:=()
def tw4170366706535874958:=()
def tw2161527951256761074:=()
def tw15643065447443630705:=()
def tw7030747573631566558:=()
def tw931535847210246033:=()
def tw10597321749085362474:=()
def tw15707182678310101622:=()
def tw5256965678703033040:=()
def tw10125113788064066140:=()
def tw2663846562152258007:=()
def tw1603788864665902318:=()
def tw3937460992050895795:=()
def tw9364351639968021102:=()
def tw13766171692157037671:=()
def tw4340430592881609366:=()
def tw7864626389354799178:=()
def tw8159454989520479000:=()
def tw18289215131483165109:=()
def tw13830582932187353414:=()
def tw15927240713066946892:=()
def tw5260059908130458167:=()
def tw5165066159802133408:=()
def tw16418332909728518299:=()
def tw5033710793737583482:=()
def tw14182363996718656414:=()
def tw14292745214530603122:=()
def tw3979772108252767556:=()
def tw9981740302268660636:=()
def tw14699574848442513383:=()
def tw5665475133926973783:=()
def tw7849927836485838623:=()
def tw12398241145477872718:=()
def tw3302707075918639383:=()
def tw12470981154786994995:=()
def tw2008707862634625224:=()
def tw401022735583404450:=()
def tw1592074393107316181:=()
def tw9876863475185601956:=()
def tw15660741980642345110:=()
def tw17415706367511560923:=()
def tw15876431294597539618:=()
def tw6390565917014671273:=()
def tw1241546209345255979:=()
def tw501141529444679469:=()
def tw2886125296038792336:=()
def tw14377666318941076365:=()
def tw17162404360246546047:=()
def tw5553402558480201193:=()
def tw523526090322654911:=()
def tw874411511830702233:=()
def tw16487184317715498249:=()
def tw13194071327124135692:=()
def tw6414655542552631880:=()
def tw8819104377072989161:=()
def tw10449441571490170639:=()
def tw11472919605757702868:=()
def tw1293812676873349286:=()
def tw15935506354572040458:=()
def tw7294787908259373729:=()
def tw6773354420508671880:=()
def tw17932257044360664605:=()
def tw17715385265233645439:=()
def tw6563385202917936701:=()
def tw1484358186211982022:=()
def tw11988291358847894513:=()
def tw6796625862061575349:=()
def tw12244419813631921431:=()
def tw981281484315779815:=()
def tw3843047636293503946:=()
def tw8724001430103644290:=()
def tw6159294030229282320:=()
def tw6896972539295064944:=()
def tw7533661739989220479:=()
def tw8220052855559743395:=()
def tw5084269353466979919:=()
def tw5860297548898330171:=()
def tw5886912324212680947:=()
def tw18011005905123127948:=()
def tw10709887576753550904:=()
def tw248174886407548776:=()
def tw14182985929003309741:=()
def tw9962975722604550310:=()
def tw16154347677617486022:=()
def tw15729236019375729937:=()
def tw13612722414648111438:=()
def tw17320304020395160185:=()
def tw11275703151283061240:=()
def tw465713031830163127:=()
def tw12244653302031683756:=()
def tw17035009472560279031:=()
def tw4922288035901752849:=()
def tw10696423375295340801:=()
def tw16476211141644638740:=()
def tw11428172898016616712:=()
def tw13600697867305211684:=()
def tw3934419485964354070:=()
def tw16999270372338916781:=()
def tw14202604307165693664:=()
def tw18223348068668134737:=()
def tw13347916335282497729:=()
def tw7256843342032506809:=()
def tw18394712180269085632:=()
def tw5945138268192344729:=()
def tw7966755269446602678:=()
def tw15602701602802942454:=()
def tw2735133245211741601:=()
def tw11835414089201397329:=()
def tw16124448449144422443:=()
def tw13213830786329159529:=()
def tw17635066413979893040:=()
def tw15541621357329332474:=()
def tw6260360934390932703:=()
def tw5148696423134648752:=()
def tw3506942868945431341:=()
def tw3863108872888842768:=()
def tw7215251402855743621:=()
def tw8249755777896359522:=()
def tw4887872759550385196:=()
def tw14858645249730874548:=()
def tw3916887353956468024:=()
def tw2326525983149310363:=()
def tw18416626169406408086:=()
def tw17347271744308357664:=()
def tw11183530460437382207:=()
def tw16472281097950507419:=()
def tw1459702100727477835:=()
def tw1096356133038430316:=()
def tw7867734215158700634:=()
def tw11520671791154290182:=()
def tw1229461603965512058:=()
def tw4403892886141646851:=()
def tw2500563554841314480:=()
def tw14575943822821993068:=()
def tw3748794096229434919:=()
def tw2833772430956140187:=()
def tw2241354820626714452:=()
def tw14821800001805969546:=()
def tw8974302307648708021:=()
def tw12375689061104310671:=()
def tw7470279293686466844:=()
def tw2890250172027020381:=()
def tw13173026928259296298:=()
def tw1103638577757865249:=()
def tw12196745302512641422:=()
def tw7404458162707781718:=()
def tw3721596053662244460:=()
def tw15534645162394735272:=()
def tw16585088214264968297:=()
def tw7656735105785095031:=()
def tw7412137611802329127:=()
def tw9659976597597411750:=()
def tw14244433432971497128:=()
def tw2781563742962611014:=()
def tw18239537858817206896:=()
def tw15424094301258101914:=()
def tw3118154508504523886:=()
def tw18408915994634418387:=()
def tw139940405905532337:=()
def tw8758533592001912920:=()
def tw5811330708942666401:=()
def tw17554924896204915134:=()
def tw16719632012019568692:=()
def tw8154681525192676042:=()
def tw10432057120266078516:=()
def tw5474703320069266894:=()
def tw3399069399927960910:=()
def tw2939396534500258386:=()
def tw6010079240165788833:=()
def tw5892820042858418025:=()
def tw12131459047786666053:=()
def tw17319429851729011188:=()
def tw18222340586368112663:=()
def tw10591445781205538649:=()
def tw7000615239120504230:=()
def tw2463307820136641792:=()
def tw12227105514302992819:=()
def tw6008912858013035677:=()
def tw12825889368443838809:=()
def tw12293634593238423095:=()
def tw9513463842845703613:=()
def tw4455279719198429840:=()
def tw912514156279385188:=()
def tw13257454762044852943:=()
def tw12828175222005871401:=()
def tw15752744719757255514:=()
def tw14119854110768172893:=()
def tw8678785693768440426:=()
def tw5003300815963739256:=()
def tw2046919795670549131:=()
def tw8406986180722863812:=()
def tw10194260466326690066:=()
def tw13789345750520938856:=()
def tw3493115771376899634:=()
def tw668487493149024862:=()
def tw13722876965075924473:=()
def tw11118292644001334065:=()
def tw16894655439820355718:=()
def tw1117734752968913068:=()
def tw6927038344113826759:=()
def tw3099027575987476209:=()
def tw7911470917880206355:=()
def tw13356667111817178441:=()
def tw911848778797043704:=()
def tw2645026902043185220:=()
def tw7104697616846110022:=()
def tw13627629154339138004:=()
def tw8378522095652734986:=()
def tw11906391822163845451:=()
def tw2696160969493284179:=()
def tw13623476268849883997:=()
def tw3085402885154771360:=()
def tw8934991413885732752:=()
def tw12245269557509324640:=()
def tw1939807918708475837:=()
def tw14976375944823028147:=()
def tw17137080023254742550:=()
def tw13844681681286359558:=()
def tw12357765873266550736:=()
def tw11671184893225287738:=()
def tw871391457063516527:=()
def tw13958846839405311145:=()
def tw2257936574512074135:=()
def tw1081430342861968915:=()
def tw9252174115131866417:=()
def tw9871796145423066480:=()
def tw18333713172876025678:=()
def tw936994594632786366:=()
def tw15719167366444287649:=()
def tw791233384693767605:=()
def tw2117989016498347270:=()
def tw17816707813717636155:=()
def tw10315266642830737297:=()
def tw14220137474700759709:=()
def tw10079203975576490523:=()
def tw6599501624953785310:=()
def tw10206650468948514601:=()
def tw9413187066224395975:=()
def tw9530971934733252610:=()
def tw5809072427732782342:=()
def tw12671995997351861336:=()
def tw1914635628396921505:=()
def tw17494256617637108886:=()
def tw18172796134192014190:=()
def tw17471307551020785122:=()
def tw11004885335316782339:=()
def tw18018847951999719321:=()
def tw12406055578485228296:=()
def tw11730318664239585738:=()
def tw11354975101620124147:=()
def tw16480798396325402194:=()
def tw4802187901061058581:=()
def tw4026175481716019393:=()
def tw12481283170067713630:=()
def tw6039182628085305710:=()
def tw4824477224761765855:=()
def tw5135143222672312143:=()
def tw2110875974531454704:=()
def tw1986072817178054763:=()
def tw10173727175912335386:=()
def tw14409258975825895194:=()
def tw1724193897269660211:=()
def tw11103783312966523827:=()
def tw17806322023771357723:=()
def tw3487302415142093558:=()
def tw4631973384267151823:=()
def tw9749818727992372973:=()
def tw2465567263268861429:=()
def tw5316829420727428380:=()
def tw14487670818036136605:=()
def tw13874472820512020836:=()
def tw17783999584322022680:=()
def tw5650356715467279758:=()
def tw10878848135733943519:=()
def tw7008974152886545881:=()
def tw14790187656172100007:=()
def tw221357190715428520:=()
def tw12981720362291177771:=()
def tw4467025082146362929:=()
def tw12289035311204213425:=()
def tw668282589088928747:=()
def tw3510723777407560933:=()
def tw18001715683930943462:=()
def tw17015537785494470703:=()
def tw4716820913897995417:=()
def tw11907332897783658272:=()
def tw2081861320583275122:=()
def tw4396572637803368085:=()
def tw1287531246737522973:=()
def tw2019323623716634969:=()
def tw2146363634568319009:=()
def tw3070758319125125727:=()
def tw1405060318725474092:=()
def tw12742118138803349118:=()
def tw3824042687266585339:=()
def tw6786875495191302237:=()
def tw7361701393432722301:=()
def tw434393899066358637:=()
def tw46696835265523426:=()
def tw8370512317262245112:=()
def tw16620264334220485748:=()
def tw11277154580629149858:=()
def tw13749063183497743231:=()
def tw15304048340016216143:=()
def tw1394982226612124297:=()
def tw6611649893076267139:=()
def tw1515900851041239650:=()
def tw14879483529109456989:=()
def tw7173942715437232732:=()
def tw12212439199548293420:=()
def tw16605295449527301473:=()
def tw5924495182453395223:=()
def tw1781431251652162823:=()
def tw5039033683433049634:=()
def tw6670767686683258620:=()
def tw17133671808118010353:=()
def tw1073970459257676867:=()
def tw7158866506213463634:=()
def tw17002256856673949427:=()
def tw15390063283647507525:=()
def tw12176793787404277761:=()
def tw1515285670229025818:=()
def tw2393619619571163766:=()
def tw11835120926579712159:=()
def tw14024097787437698239:=()
def tw18136339207852805192:=()
def tw18412621909407781249:=()
def tw16355736224302219424:=()
def tw2596020914218001784:=()
def tw12663026149804615847:=()
def tw18043841536537568918:=()
def tw11403255496822988712:=()
def tw17506594147137074415:=()
def tw7399352368918013683:=()
def tw9304650244988559879:=()
def tw16794649443445590773:=()
def tw2732599119972025272:=()
def tw17458538264500750560:=()
end PySem.W.Fast
set_option maxRecDepth 100000 in
set_option maxHeartbeats 0 in
theorem PySem.Challenge.cw_compasshall_k29_no_rows_holds : PySem.Challenge.rw_compasshall_k29_no_rows.Holds := by
  w_on; o_law; k_head; (case hw => w_witness2)
  k_fill
  refine K29.walk (l := PySem.Challenge.rw_compasshall_k29_no_rows) rfl rfl (fun w h Y => PySem.W.kIn_of Y) ?F
  case F =>
    intro w mg fa h KX G hmg
    refine' K29.all_mk KX G hmg ?q0 ?q1 ?q2 ?q3 ?q4 ?q5 ?q6 ?q7 ?q8 ?q9 ?q10 ?q11 ?q12 ?q13 ?q14 ?q15 ?q16 ?q17 ?q18 ?q19 ?q20 ?q21 ?q22 ?q23 ?q24 ?q25 ?q26 ?q27 ?q28 ?q29 ?q30 ?q31 ?q32 ?q33 ?q34 ?q35 ?q36 ?q37 ?q38 ?q39 ?q40 ?q41 ?q42 ?q43 ?q44 ?q45 ?q46 ?q47 ?q48 ?q49 ?q50 ?q51 ?q52 ?q53 ?q54 ?q55 ?q56 ?q57 ?q58 ?q59 ?q60 ?q61 ?q62 ?q63 ?q64 ?q65 ?q66 ?q67 ?q68 ?q69 ?q70 ?q71 ?q72 ?q73 ?q74 ?q75 ?q76 ?q77 ?q78 ?q79 ?q80 ?q81 ?q82 ?q83 ?q84 ?q85 ?q86 ?q87 ?q88 ?q89 ?q90 ?q91 ?q92 ?q93 ?q94 ?q95 ?q96 ?q97 ?q98 ?q99 ?q100 ?q101 ?q102 ?q103 ?q104 ?q105 ?q106 ?q107 ?q108 ?q109 ?q110 ?q111 ?q112 ?q113 ?q114 ?q115 ?q116 ?q117 ?q118 ?q119 ?q120 ?q121 ?q122 ?q123 ?q124 ?q125 ?q126 ?q127 ?q128 ?q129 ?q130 ?q131 ?q132 ?q133 ?q134 ?q135 ?q136 ?q137 ?q138 ?q139 ?q140 ?q141 ?q142 ?q143 ?q144 ?q145 ?q146 ?q147 ?q148 ?q149 ?q150 ?q151 ?q152 ?q153 ?q154 ?q155 ?q156 ?q157 ?q158 ?q159 ?q160 ?q161 ?q162 ?q163 ?q164 ?q165 ?q166 ?q167 ?q168 ?q169 ?q170 ?q171 ?q172 ?q173 ?q174 ?q175 ?q176 ?q177 ?q178 ?q179 ?q180 ?q181 ?q182 ?q183 ?q184 ?q185 ?q186 ?q187 ?q188 ?q189 ?q190 ?q191 ?q192 ?q193 ?q194 ?q195 ?q196 ?q197 ?q198 ?q199 ?q200 ?q201 ?q202 ?q203 ?q204 ?q205 ?q206 ?q207 ?q208 ?q209 ?q210 ?q211 ?q212 ?q213 ?q214 ?q215 ?q216 ?q217 ?q218 ?q219 ?q220 ?q221 ?q222 ?q223 ?q224 ?q225 ?q226 ?q227 ?q228 ?q229 ?q230 ?q231 ?q232 ?q233 ?q234 ?q235 ?q236 ?q237 ?q238 ?q239 ?q240 ?q241 ?q242 ?q243 ?q244 ?q245 ?q246 ?q247 ?q248 ?q249 ?q250 ?q251 ?q252 ?q253 ?q254 ?q255 ?q256 ?q257 ?q258 ?q259 ?q260 ?q261 ?q262 ?q263 ?q264 ?q265 ?q266 ?q267 ?q268 ?q269 ?q270 ?q271 ?q272 ?q273 ?q274 ?q275 ?q276 ?q277 ?q278 ?q279 ?q280 ?q281 ?q282 ?q283 ?q284 ?q285 ?q286 ?q287 ?q288 ?q289 ?q290 ?q291 ?q292 ?q293 ?q294 ?q295 ?q296 ?q297 ?q298 ?q299 ?q300 ?q301 ?q302
    case q0 | q1 | q2 => k_is
    case q3 => k_exc
    case q4 | q5 | q6 | q7 | q8 => k_is
    case q9 => k_exc
    case q10 | q11 | q12 | q13 | q14 | q15 | q16 | q17 | q18 | q19 | q20 | q21 | q22 | q23 | q24 | q25 | q26 | q27 | q28 | q29 | q30 | q31 | q32 | q33 | q34 | q35 | q36 | q37 | q38 | q39 | q40 | q41 | q42 | q43 | q44 | q45 | q46 | q47 | q48 | q49 | q50 | q51 | q52 | q53 | q54 | q55 | q56 | q57 | q58 | q59 | q60 | q61 | q62 | q63 | q64 | q65 | q66 | q67 | q68 | q69 | q70 | q71 | q72 | q73 | q74 | q75 | q76 | q77 | q78 | q79 | q80 | q81 | q82 | q83 | q84 | q85 | q86 | q87 | q88 | q89 | q90 | q91 | q92 | q93 | q94 | q95 | q96 | q97 | q98 | q99 | q100 | q101 | q102 | q103 | q104 | q105 | q106 | q107 | q108 | q109 | q110 | q111 | q112 | q113 | q114 | q115 | q116 | q117 | q118 | q119 | q120 | q121 | q122 | q123 | q124 | q125 | q126 | q127 | q128 | q129 | q130 | q131 | q132 | q133 | q134 | q135 | q136 => k_is
    case q137 => (refine' DL.lka_mk ?a ?b ?c; (case a => k_is); (case b => k_is); (case c => k_is))
    case q138 | q139 | q140 | q141 => k_is
    case q142 => (refine' DL.lka_mk ?a ?b ?c; (case a => k_is); (case b => k_is); (case c => k_is))
    case q143 | q144 | q145 | q146 => k_is
    case q147 => (refine' DL.lka_mk ?a ?b ?c; (case a => k_is); (case b => k_is); (case c => k_is))
    case q148 | q149 | q150 | q151 => k_is
    case q152 => (refine' DL.lka_mk ?a ?b ?c; (case a => k_is); (case b => k_is); (case c => k_is))
    case q153 | q154 | q155 | q156 => k_is
    case q157 => (refine' DL.lka_mk ?a ?b ?c; (case a => k_is); (case b => k_is); (case c => k_is))
    case q158 | q159 | q160 | q161 => k_is
    case q162 => (refine' DL.lka_mk ?a ?b ?c; (case a => k_is); (case b => k_is); (case c => k_is))
    case q163 | q164 | q165 | q166 => k_is
    case q167 => (refine' DL.lka_mk ?a ?b ?c; (case a => k_is); (case b => k_is); (case c => k_is))
    case q168 | q169 => k_is
    case q170 => (refine' DL.lka_mk ?a ?b ?c; (case a => k_is); (case b => k_is); (case c => k_is))
    case q171 | q172 => k_is
    case q173 => (refine' DL.lka_mk ?a ?b ?c; (case a => k_is); (case b => k_is); (case c => k_is))
    case q174 | q175 => k_is
    case q176 => (refine' DL.lka_mk ?a ?b ?c; (case a => k_is); (case b => k_is); (case c => k_is))
    case q177 | q178 => k_is
    case q179 => (refine' DL.lka_mk ?a ?b ?c; (case a => k_is); (case b => k_is); (case c => k_is))
    case q180 | q181 => k_is
    case q182 => (refine' DL.lka_mk ?a ?b ?c; (case a => k_is); (case b => k_is); (case c => k_is))
    case q183 | q184 => k_is
    case q185 => (refine' DL.lka_mk ?a ?b ?c; (case a => k_is); (case b => k_is); (case c => k_is))
    case q186 | q187 => k_is
    case q188 => (refine' DL.lka_mk ?a ?b ?c; (case a => k_is); (case b => k_is); (case c => k_is))
    case q189 | q190 => k_is
    case q191 => (refine' DL.lka_mk ?a ?b ?c; (case a => k_is); (case b => k_is); (case c => k_is))
    case q192 | q193 => k_is
    case q194 => (refine' DL.lka_mk ?a ?b ?c; (case a => k_is); (case b => k_is); (case c => k_is))
    case q195 | q196 | q197 | q198 => k_is
    case q199 => (refine' DL.lka_mk ?a ?b ?c; (case a => k_is); (case b => k_is); (case c => k_is))
    case q200 | q201 | q202 => (refine' DL.gtk1 ?a ?b; (case a => k_is); (case b => k_is))
    case q203 => (refine' DL.gtk2 ?a ?b; (case a => k_is); (case b => k_is))
    case q204 | q205 | q206 | q207 | q208 | q209 | q210 | q211 | q212 | q213 | q214 | q215 | q216 | q217 | q218 | q219 | q220 | q221 | q222 | q223 | q224 | q225 | q226 | q227 | q228 | q229 | q230 | q231 | q232 | q233 | q234 => (refine' DL.lk_mk ?a ?b ?c ?d; (case a => k_is); (case b => k_is); (case c => k_is); (case d => k_is))
    case q235 | q236 | q237 | q238 | q239 | q240 | q241 | q242 | q243 | q244 | q245 | q246 | q247 | q248 | q249 | q250 | q251 | q252 | q253 | q254 | q255 | q256 | q257 | q258 | q259 | q260 | q261 | q262 | q263 | q264 | q265 | q266 | q267 => k_is
    case q268 | q269 => kts_exm
    case q270 | q271 | q272 | q273 | q274 | q275 | q276 | q277 | q278 | q279 | q280 | q281 | q282 | q283 | q284 | q285 | q286 | q287 | q288 | q289 | q290 | q291 | q292 | q293 | q294 | q295 | q296 | q297 | q298 | q299 | q300 | q301 | q302 => kit_is
