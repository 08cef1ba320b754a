import PyProof.Rows.All
import Wide.All
import OpenK.AllK
import Wide.FinOn
import Lean
import PyProof.EqAt
import PyProof.EqKinds
import PyProof.TupleCall
import PySem.Challenge.RW_meldhouse_k03_layings
local macro_rules | `(0x1) => `(by lia)
local macro_rules | `(0x2) => `(by decide +kernel)
local macro_rules | `(0x3) => `(by decide)
local macro_rules | `(0x4) => `(by simp)
abbrev IE := @List.mem_cons_of_mem
abbrev IF := @List.mem_cons_self
abbrev IG := @PySem.Heap.get?_push_of_some
abbrev IH := @List.mem_append_right
abbrev II := @List.mem_append_left
abbrev IJ := @Nat.le_refl
abbrev IK := @PySem.wpAny_bind
abbrev IL := @PySem.wpAny_pure
abbrev IM := @PySem.Heap.lt_size
abbrev IU := PySem.W.Frag
set_option Elab.async false
set_option bootstrap.genMatcherCode false
set_option linter.all false
set_option maxRecDepth 100000
namespace L2
open PySem PySem.Spec PyProof.Rows
noncomputable abbrev qu:=Sum Int Str
noncomputable def Dk:qu->Value->Bool
 |.inl k,v=>Value.isInt k v
 |.inr x,v=>Value.isStrOf x v
noncomputable def Hg (w:World):qu->Int
 |.inl k=>hashInt k
 |.inr x=>hashStr w x
theorem ck:∀{k:qu} {v:Value},Dk k v=true->(∃i t,k=Sum.inl i/\v=Value.int i t)\/(∃x t,k=Sum.inr x/\v=Value.str x t)
 |.inl i,v,h=>by
  obtain ⟨t,e⟩:=Value.isInt_shape (k:=i) (v:=v) h
  exact .inl ⟨i,t,rfl,e⟩
 |.inr x,v,h=>by
  obtain ⟨t,e⟩:=Value.isStrOf_shape (x:=x) (v:=v) h
  exact .inr ⟨x,t,rfl,e⟩
theorem EA (a b:Int):decide ((Sum.inl a:qu)=Sum.inl b)=(a==b):=by
 by_cases e:a=b
 ·subst e; simp
 ·have h:¬(Sum.inl a:qu)=Sum.inl b:=fun q=>e (Sum.inl.inj q)
  rw [decide_eq_false h]
  exact (beq_eq_false_iff_ne.mpr e).symm
theorem DI (a b:Str):decide ((Sum.inr a:qu)=Sum.inr b)=decide (a=b):=by
 by_cases e:a=b
 ·subst e; simp
 ·have h:¬(Sum.inr a:qu)=Sum.inr b:=fun q=>e (Sum.inr.inj q)
  rw [decide_eq_false h,decide_eq_false e]
theorem ER (a:Int) (b:Str):decide ((Sum.inl a:qu)=Sum.inr b)=false:=decide_eq_false (fun q=>nomatch q)
theorem En (a:Str) (b:Int):decide ((Sum.inr a:qu)=Sum.inl b)=false:=decide_eq_false (fun q=>nomatch q)
noncomputable def vU (prog:Program) (w:World):PySem.KeyKind prog w qu where
 is:=Dk
 hash:=Hg w
 inj:=fun v a b ha hb=>by
  rcases ck ha with ⟨i,t,rfl,rfl⟩|⟨x,t,rfl,rfl⟩
  ·rcases ck hb with ⟨j,u,rfl,e⟩|⟨y,u,rfl,e⟩
   ·injection e with e1 _; rw [e1]
   ·exact nomatch e
  ·rcases ck hb with ⟨j,u,rfl,e⟩|⟨y,u,rfl,e⟩
   ·exact nomatch e
   ·injection e with e1 _; rw [e1]
 byValue:=fun k v h=>by
  rcases ck h with ⟨i,t,rfl,rfl⟩|⟨x,t,rfl,rfl⟩ <;> rfl
 pyHash:=fun hv h=>by
  rcases ck hv with ⟨i,t,rfl,rfl⟩|⟨x,t,rfl,rfl⟩
  ·exact wpAny_pyHash_int h
  ·exact wpAny_pyHash_str h
 eqBool:=fun hu hv h=>by
  rcases ck hu with ⟨i,t,rfl,rfl⟩|⟨x,t,rfl,rfl⟩
  ·rcases ck hv with ⟨j,u,rfl,rfl⟩|⟨y,u,rfl,rfl⟩
   ·rw [EA] at h; exact wpAny_eqBool_int h
   ·rw [ER] at h; exact SeqAt.EqAt.int_str i t y u _ _ _ _ h
  ·rcases ck hv with ⟨j,u,rfl,rfl⟩|⟨y,u,rfl,rfl⟩
   ·rw [En] at h; exact SeqAt.EqAt.str_int x t j u _ _ _ _ h
   ·rw [DI] at h; exact wpAny_eqBool_str h
 «strs»:=fun k x t v h=>by
  rcases ck h with ⟨i,u,rfl,e⟩|⟨y,u,rfl,e⟩
  ·exact nomatch e
  ·injection e with e1 _
   subst e1
   cases v <;> rfl
inductive V where
 |non|bl (b:Bool)|int (i:Int)|str (x:Str)|byt (b:Array UInt8)|flt (b:UInt64)|ref (a:Addr)|ty (n:String)
 deriving DecidableEq
noncomputable def bM:V->Value->Prop
 |.non,u=>u=Value.none
 |.bl b,u=>u=Value.bool b
 |.int i,u=>∃t,u=Value.int i t
 |.str x,u=>∃t,u=Value.str x t
 |.byt b,u=>∃t,u=Value.bytes b t
 |.flt b,u=>∃t,u=Value.float b t
 |.ref a,u=>u=Value.ref a
 |.ty n,u=>u=Value.type n
noncomputable abbrev aQ:List V->List Value->Prop:=Paired bM
theorem aQ.length {xs:List V} {us:List Value} (r:aQ xs us):xs.length=us.length:=Paired.length r
theorem aQ.get:∀{xs:List V} {us:List Value} {i:Nat} {x:V},aQ xs us->xs[i]?=some x->∃u,us[i]?=some u/\bM x u
 |_,_,_,_,.nil,e=>by simp at e
 |_,_,0,_,.cons r _,e=>by simp at e; subst e; exact ⟨_,rfl,r⟩
 |_,_,i+1,x,.cons _ t,e=>by
  obtain ⟨u,h1,h2⟩:=aQ.get (i:=i) (x:=x) t (by simpa using e)
  exact ⟨u,by simpa using h1,h2⟩
theorem aQ.set {x:V} {u:Value} (r:bM x u):∀{xs:List V} {us:List Value} (i:Nat),aQ xs us->aQ (xs.set i x) (us.set i u)
 |_,_,_,.nil=>.nil
 |_,_,0,.cons _ t=>.cons r t
 |_,_,i+1,.cons q t=>.cons q (aQ.set r i t)
theorem aQ.append:∀{xs ys:List V} {us ws:List Value},aQ xs us->aQ ys ws->aQ (xs++ys) (us++ws)
 |_,_,_,_,.nil,s=>s
 |_,_,_,_,.cons r t,s=>.cons r (aQ.append t s)
theorem aQ.take:∀{xs:List V} {us:List Value} (n:Nat),aQ xs us->aQ (xs.take n) (us.take n)
 |_,_,0,_=>.nil
 |_,_,_+1,.nil=>.nil
 |_,_,n+1,.cons r t=>.cons r (aQ.take n t)
theorem aQ.drop:∀{xs:List V} {us:List Value} (n:Nat),aQ xs us->aQ (xs.drop n) (us.drop n)
 |_,_,0,r=>r
 |_,_,_+1,.nil=>.nil
 |_,_,n+1,.cons _ t=>aQ.drop n t
noncomputable def vk:Option V->Option Value->Prop
 |some v,some u=>bM v u
 |none,none=>True
 |_,_=>False
noncomputable def KV {κ:Type}:List (κ×V)->List (κ×Value)->Prop:=Paired fun (p:κ×V) (q:κ×Value)=>p.1=q.1/\bM p.2 q.2
noncomputable def kV:qu->V
 |.inl i=>.int i
 |.inr x=>.str x
inductive HO where
 |lst (xs:List V)
 |tup (xs:List V)
 |dK (kvs:List (qu×V))|dT (kvs:List (List qu×V))
 |set (S:Int->Bool) (n:Nat)
 |ins (C dx:Addr) (fs:List (Str×V))
 |own (x:Addr)
 |xd (fs:List (Str×V))
 |met (f x:Addr)
 |rng (lo hi:Int)
 |frz (o:Obj) (u:HO)
 |tbl (ps:Array Value)
 |ext (φ:Heap->Prop)
noncomputable abbrev Hp:=Addr->Option HO
noncomputable def du (H:Hp) (a:Addr) (o:HO):Hp:=fun b=>if b=a then some o else H b
theorem cf {H:Hp} {a:Addr} {o:HO}:du H a o a=some o:=by unfold du; rw [if_pos rfl]
theorem aN {H:Hp} {a b:Addr} {o:HO} (h:b≠a):du H a o b=H b:=by unfold du; rw [if_neg h]
theorem cA {H:Hp} {a b:Addr} {o:HO} (h:H a=some o) (h':H b=none):a≠b:=by
 intro e; subst e; rw [h] at h'; cases h'
section
variable (P:Program) (w:World)
noncomputable def dg (H:Hp) (h:Heap) (a:Addr):HO->Prop
 |.lst xs=>xs.length<=sizeLine/\∃(its:List Value) (n:Nat),aQ xs its/\h.get? a=some { cls:=.type "list",data:=.seq its.toArray n }
 |.tup xs=>xs.length<=sizeLine/\∃its:List Value,aQ xs its/\IsTup h a its.toArray
 |.dK kvs=>kvs.length<=sizeLine/\(a==sysModules)=false/\∃vs,KV kvs vs/\h.DictOf (vU P w) a vs
 |.dT kvs=>kvs.length<=sizeLine/\(a==sysModules)=false/\∃xs:List (List qu×Addr×Value),
   Paired (fun (p:List qu×V) (q:List qu×Addr×Value)=>p.1=q.1/\H q.2.1=some (.tup (p.1.map kV))/\bM p.2 q.2.2) kvs xs /\
   ∃o es ep,h.get? a=some o/\o.ExactDict/\o.data=.dict es ep/\es.toList=xs.map (entryOfKey (tupleKind (vU P w)))/\(xs.map (·.1)).Nodup
 |.set S n=>h.SetOf (intKind P w) a S n
 |.ins C dx fs=>H dx=some (.own a)/\fs.length<=1000/\dx≠a/\h.get? a=some (PySem.W.instObj C dx) /\
   ∃mA,h.Ns1 dx mA/\(∀f,vk (fs.lookup f) (mA f))/\PySem.Within mA (fs.map (·.1))
 |.own _=>∃o,h.get? a=some o
 |.xd fs=>∃mA,h.Ns1 a mA/\∀f,vk (fs.lookup f) (mA f)
 |.rng lo hi=>∃t u v,h.get? a=some { cls:=.type "range",data:=.fields #[.int lo t,.int hi u,.int 1 v] }
 |.frz o u=>h.get? a=some o/\dg H h a u
 |.tbl ps=>h.get? a=some { cls:=.none,data:=.fields ps }
 |.met f x=>h.get? a=some (PySem.W.methodObj (.ref f) (.ref x))
 |.ext φ=>φ h/\(∃o,h.get? a=some o)/\∀h1 h2:Heap,φ h1->(∀o,h1.get? a=some o->h2.get? a=some o)->φ h2
noncomputable def lR (H:Hp) (h:Heap):Prop:=∀a o,H a=some o->dg P w H h a o
end
section
variable {P:Program} {w:World} {H H':Hp} {h h':Heap} {a:Addr} {o:HO}
theorem dg.lt (x:dg P w H h a o):a<h.objs.size:=by
 cases o with
 |lst xs=>obtain ⟨_,_,_,_,e⟩:=x; exact IM e
 |tup xs=>obtain ⟨_,_,_,p⟩:=x; exact p.lt
 |dK kvs=>obtain ⟨_,_,_,_,o,_,_,e,_⟩:=x; exact IM e
 |dT kvs=>obtain ⟨_,_,_,_,o,_,_,e,_⟩:=x; exact IM e
 |set S n=>obtain ⟨o,_,_,_,e,_⟩:=x; exact IM e
 |ins C dx fs=>obtain ⟨_,_,_,e,_⟩:=x; exact IM e
 |own y=>obtain ⟨_,e⟩:=x; exact IM e
 |xd fs=>obtain ⟨_,⟨_,_,_,e,_⟩,_⟩:=x; exact IM e
 |rng lo hi=>obtain ⟨_,_,_,e⟩:=x; exact IM e
 |frz ob u=>obtain ⟨e,_⟩:=x; exact IM e
 |tbl ps=>exact IM (show h.get? a=some _ from x)
 |met f y=>exact IM (show h.get? a=some _ from x)
 |ext φ=>obtain ⟨_,⟨_,e⟩,_⟩:=x; exact IM e
theorem Paired.mapP {α β:Type} {F G:α->β->Prop}:∀{l₁:List α} {l₂:List β},Paired F l₁ l₂->(∀a b,F a b->G a b)->Paired G l₁ l₂
 |_,_,.nil,_=>.nil
 |_,_,.cons r t,f=>.cons (f _ _ r) (Paired.mapP t f)
theorem dg.stay (x:dg P w H h a o) (k:∀b u,(b=a\/H b=some (.own a))->h.get? b=some u->h'.get? b=some u)
  (ho:∀b,H b=some (.own a)->H' b=some (.own a)) (ht:∀b xs,H b=some (.tup xs)->H' b=some (.tup xs)):dg P w H' h' a o:=by
 induction o with
 |lst xs=>obtain ⟨z,its,n,r,e⟩:=x; exact ⟨z,its,n,r,k _ _ (.inl rfl) e⟩
 |tup xs=>obtain ⟨z,its,r,ob,e,c⟩:=x; exact ⟨z,its,r,ob,k _ _ (.inl rfl) e,c⟩
 |dK kvs=>obtain ⟨z,y,vs,r,ob,es,ep,e,c⟩:=x; exact ⟨z,y,vs,r,ob,es,ep,k _ _ (.inl rfl) e,c⟩
 |dT kvs=>
  obtain ⟨z,y,xs,r,ob,es,ep,e,c⟩:=x
  exact ⟨z,y,xs,Paired.mapP r fun p q z=>⟨z.1,ht _ _ z.2.1,z.2.2⟩,ob,es,ep,k _ _ (.inl rfl) e,c⟩
 |set S n=>obtain ⟨ob,es,ep,t,e,c⟩:=x; exact ⟨ob,es,ep,t,k _ _ (.inl rfl) e,c⟩
 |ins C dx fs=>
  obtain ⟨d,z,ne,e,mA,⟨od,es,ep,e2,c⟩,r⟩:=x
  exact ⟨ho _ d,z,ne,k _ _ (.inl rfl) e,mA,⟨od,es,ep,k _ _ (.inr d) e2,c⟩,r⟩
 |own y=>obtain ⟨ob,e⟩:=x; exact ⟨ob,k _ _ (.inl rfl) e⟩
 |xd fs=>obtain ⟨mA,⟨od,es,ep,e,c⟩,r⟩:=x; exact ⟨mA,⟨od,es,ep,k _ _ (.inl rfl) e,c⟩,r⟩
 |rng lo hi=>obtain ⟨t,u,v,e⟩:=x; exact ⟨t,u,v,k _ _ (.inl rfl) e⟩
 |frz ob u ih=>obtain ⟨e,q⟩:=x; exact ⟨k _ _ (.inl rfl) e,ih q⟩
 |tbl ps=>
  have e:h.get? a=some { cls:=.none,data:=.fields ps }:=x
  show h'.get? a=some { cls:=.none,data:=.fields ps }
  exact k a _ (.inl rfl) e
 |met f y=>
  have e:h.get? a=some (PySem.W.methodObj (.ref f) (.ref y)):=x
  show h'.get? a=some (PySem.W.methodObj (.ref f) (.ref y))
  exact k a _ (.inl rfl) e
 |ext φ=>obtain ⟨p,⟨o,e⟩,st⟩:=x; exact ⟨st _ _ p fun o q=>k _ _ (.inl rfl) q,⟨o,k _ _ (.inl rfl) e⟩,st⟩
theorem lR.lt (x:lR P w H h) (e:H a=some o):a<h.objs.size:=(x a o e).lt
theorem lR.fresh (x:lR P w H h) (e:h.objs.size<=a):H a=none:=by
 cases q:H a with
 |none=>rfl
 |some u=>exact absurd (Nat.lt_of_lt_of_le (x.lt q) e) (Nat.lt_irrefl _)
theorem lR.kept (x:lR P w H h) (k:∀b u,h.get? b=some u->h'.get? b=some u):lR P w H h':=fun a o e=>
 (x a o e).stay (fun b u _ q=>k b u q) (fun _ q=>q) fun _ _ q=>q
theorem lR.laid (x:lR P w H h) (k:∀b u,h.get? b=some u->h'.get? b=some u) (hp:h.objs.size<=a) (new:dg P w (du H a o) h' a o):lR P w (du H a o) h':=fun b u e=>by
 have hn:=x.fresh hp
 by_cases hb:b=a
 ·subst hb; rw [cf] at e; cases e; exact new
 ·rw [aN hb] at e
  exact (x b u e).stay (fun c v _ q=>k c v q) (fun c q=>by rw [aN (cA q hn)]; exact q) fun c xs q=>by rw [aN (cA q hn)]; exact q
end
noncomputable def Rd (H:Hp) (a:Addr) (u:HO):Prop:=H a=some u\/∃o,H a=some (.frz o u)
theorem Rd.ok {P:Program} {w:World} {H:Hp} {h:Heap} {a:Addr} {u:HO} (r:Rd H a u) (x:lR P w H h):dg P w H h a u:=by
 rcases r with r|⟨o,r⟩
 ·exact x a u r
 ·obtain ⟨_,q⟩:=x a _ r
  exact q
noncomputable def GW:Option HO->Prop
 |some (.lst _)=>True
 |some (.dK _)=>True
 |some (.dT _)=>True
 |some (.set _ _)=>True
 |some (.ins _ _ _)=>True
 |some (.ext _)=>True
 |_=>False
section
variable {P:Program} {w:World} {H:Hp} {h h':Heap} {x e:Addr} {o':HO}
theorem lR.write (ok:lR P w H h) (mu:GW (H x)) (he:e=x\/H e=some (.own x)) (k:∀b u,b≠e->h.get? b=some u->h'.get? b=some u) (heo:∃u,h'.get? e=some u)
  (new:dg P w (du H x o') h' x o'):lR P w (du H x o') h':=fun b u q=>by
 have nown:∀c y,H c=some (.own y)->c≠x:=fun c y r z=>by subst z; rw [r] at mu; exact mu
 have ntup:∀c xs,H c=some (.tup xs)->c≠x:=fun c xs r z=>by subst z; rw [r] at mu; exact mu
 by_cases hb:b=x
 ·subst hb; rw [cf] at q; cases q; exact new
 ·rw [aN hb] at q
  by_cases hbe:b=e
  ·have q':H b=some (.own x):=by
    rcases he with z|z
    ·exact absurd (hbe.trans z) hb
    ·rw [hbe]; exact z
   rw [q] at q'; cases q'
   obtain ⟨v,hv⟩:=heo
   exact ⟨v,by rw [hbe]; exact hv⟩
  ·refine (ok b u q).stay (fun c v hc r=>k c v ?_ r) (fun c r=>by rw [aN (nown c b r)]; exact r) fun c xs r=>by rw [aN (ntup c xs r)]; exact r
   rcases hc with rfl|hc
   ·exact hbe
   ·rintro rfl
    rcases he with z|z
    ·exact nown c b hc z
    ·rw [hc] at z; cases z; exact hb rfl
end
structure Un (fs ex:List Addr) (H H':Hp) (h h':Heap):Prop where
 keep:∀b o,h.get? b=some o->H b=none->b∉fs->b∉ex->h'.get? b=some o
 slot:∀b o,h.get? b=some o->H b=none->b∈fs->b∉ex->∃sl,h'.get? b=some { o with slots:=sl }
 free:∀b o,h.get? b=some o->H b=none->b∉ex->H' b=none
 there:∀b o,h.get? b=some o->b∉ex->∃o',h'.get? b=some o'
 tups:∀b xs,H b=some (.tup xs)->H' b=some (.tup xs)
 frzs:∀b o u,H b=some (.frz o u)->H' b=some (.frz o u)
 tbls:∀b ps,H b=some (.tbl ps)->∃more,H' b=some (.tbl (ps++more))
section
variable {fs fs' ex ex':List Addr} {H H1 H2:Hp} {h h1 h2 h':Heap} {a x e:Addr} {o:HO}
theorem Un.any (u:Un fs ex H H1 h h1) {b:Addr} {ob:Obj} (q:h.get? b=some ob) (n:H b=none) (hx:b∉ex):∃sl,h1.get? b=some { ob with slots:=sl }:=by
 by_cases hb:b∈fs
 ·exact u.slot b ob q n hb hx
 ·exact ⟨ob.slots,u.keep b ob q n hb hx⟩
theorem Un.kept (k:∀b u,h.get? b=some u->h'.get? b=some u):Un fs ex H H h h':=
 ⟨fun b ob q _ _ _=>k b ob q,fun b ob q _ _ _=>⟨ob.slots,k b ob q⟩,fun _ _ _ n _=>n,fun b ob q _=>⟨ob,k b ob q⟩,fun _ _ q=>q,fun _ _ _ q=>q,fun _ ps q=>⟨#[],by rw [q]; simp⟩⟩
theorem Un.refl:Un fs ex H H h h:=Un.kept fun _ _ q=>q
theorem Un.laid (k:∀b u,h.get? b=some u->h'.get? b=some u) (hp:h.objs.size<=a) (hn:H a=none):Un fs ex H (du H a o) h h' where
 keep:=fun b u q _ _ _=>k b u q
 slot:=fun b u q _ _ _=>⟨u.slots,k b u q⟩
 free:=fun b u q n _=>by rw [aN (Nat.ne_of_lt (Nat.lt_of_lt_of_le (IM q) hp))]; exact n
 there:=fun b u q _=>⟨u,k b u q⟩
 tups:=fun b xs q=>by rw [aN (cA q hn)]; exact q
 frzs:=fun b u xs q=>by rw [aN (cA q hn)]; exact q
 tbls:=fun b ps q=>⟨#[],by rw [aN (cA q hn),q]; simp⟩
theorem Un.write (mu:GW (H x)) (he:e=x\/H e=some (.own x)) (k:∀b u,b≠e->h.get? b=some u->h'.get? b=some u) (heo:∃u,h'.get? e=some u):Un fs ex H (du H x o) h h':=by
 have hx:∀b,H b=none->b≠x:=fun b n z=>by subst z; rw [n] at mu; exact mu
 have hb:∀b,H b=none->b≠e:=fun b n z=>by
  subst z
  rcases he with r|r
  ·exact hx b n r
  ·rw [n] at r; cases r
 have hm:∀b u,H b=some u->¬GW (some u)->b≠x:=fun b u q nm z=>by subst z; rw [q] at mu; exact nm mu
 refine ⟨fun b u q n _ _=>k b u (hb b n) q,fun b u q n _ _=>⟨u.slots,k b u (hb b n) q⟩,fun b u q n _=>by rw [aN (hx b n)]; exact n,fun b u q _=>?_,
  fun b xs q=>by rw [aN (hm b _ q fun z=>z)]; exact q,fun b u xs q=>by rw [aN (hm b _ q fun z=>z)]; exact q,fun b ps q=>⟨#[],by rw [aN (hm b _ q fun z=>z),q]; simp⟩⟩
 by_cases hbe:b=e
 ·subst hbe; exact heo
 ·exact ⟨u,k b u hbe q⟩
end
noncomputable def trk (h:Heap) (H:Hp):List Addr:=(List.range h.objs.size).filter fun a=>(H a).isSome
noncomputable def rp (h:Heap) (H:Hp):Heap:=PySem.W.hideAll h (trk h H)
theorem xI (h:Heap) (H:Hp):(rp h H).objs.size=h.objs.size:=PySem.W.hideAll_size _ _
theorem yy {h:Heap} {H:Hp} {b:Addr} {o:Obj} (e:h.get? b=some o) (n:H b=none):(rp h H).get? b=some o:=
 PySem.W.hideAll_get _ e fun hm=>by
  have q:(H b).isSome=true:=(List.mem_filter.mp hm).2
  rw [n] at q; simp at q
theorem Cj {h:Heap} {H:Hp} {b:Addr} {o:Obj} (e:(rp h H).get? b=some o):h.get? b=some o/\H b=none:=by
 have e':h.get? b=some o:=PySem.W.of_hideAll (trk h H) e
 refine ⟨e',?_⟩
 cases q:H b with
 |none=>rfl
 |some x=>
  have hm:b∈trk h H:=List.mem_filter.mpr ⟨List.mem_range.mpr (IM e'),by simp [q]⟩
  have z:(rp h H).get? b=none:=PySem.W.hideAll_none (trk h H) hm
  rw [z] at e; cases e
noncomputable def CM (g h:Heap) (L:Addr):List (Addr×Obj):=(List.range h.objs.size).filterMap fun a=>if a=L\/(g.get? a).isSome=true then none else (h.get? a).map fun o=>(a,o)
noncomputable def bN (g h:Heap) (L d:Addr):List (Addr×Obj):=(CM g h L).filter fun p=>decide (p.1≠d)
structure Mod (K:IU) (mg:Str->Option Value) (base:Heap):Prop where
 kin:K.In base
 glob:base.Ns mainGlobals mg
 blt:∃mb,base.Ns builtinsNs mb/\∀x:Str,x ≠ "__name__" -> mb x=bootBuiltins x
 nolimit:base.NoLimit
structure Cx where
 prog:Program
 w:World
 K:IU
 mg:Str->Option Value
 base:Heap
 A:Around
 N:List Str
 s₀:Shared
 H₀:Hp
 env:Env
 outer:List Env
 stack:List Env
 ex:List Addr
 fn:Str->Bool
 calm:Bool
 pn:List (Addr×Obj)
 xe:Value->Shared->Prop
noncomputable def gn (l:List Env):List Addr:=l.filterMap (·.frame)
noncomputable abbrev Cx.fs (X:Cx):List Addr:=gn X.outer
noncomputable def GY (sc:Scope) (x:Str):Prop:=sc.names.lookup x=some .local\/sc.names.lookup x=some .cell\/sc.names.lookup x=some .free
noncomputable def GH (sc:Scope) (x:Str):Prop:=sc.names.lookup x=some .local\/sc.names.lookup x=some .cell
noncomputable def Hh (env:Env) (h:Heap) (m:Str->Option Value) (x:Str) (u:Value):Prop:=
 (env.kindOf x=some .local/\m x=some u)\/((env.kindOf x=some .cell\/env.kindOf x=some .free)/\∃c,env.cells.lookup x=some c/\h.IsCell c (some u))
structure Cx.Ok (X:Cx):Prop where
 mod:Mod X.K X.mg X.base
 kind:X.env.scope.kind=.function
 glob:X.env.globals=mainGlobals
 blt:X.env.builtins=builtinsNs
 above:X.s₀.heap.objs.size<=X.env.locals
 inj:∀x y c,X.env.cells.lookup x=some c->X.env.cells.lookup y=some c->x=y
 has:∀x,(X.env.kindOf x=some .cell\/X.env.kindOf x=some .free)->∃c,X.env.cells.lookup x=some c
 cab:∀x c,X.fn x=true->X.env.cells.lookup x=some c->X.s₀.heap.objs.size<=c
 hd:X.calm=true->X.A.handled=none
 frames:X.A.frames=some X.stack
 stk:X.stack=X.outer\/(X.stack=X.env::X.outer/\X.env.frame=some X.env.locals)
 exf:∀b∈X.ex,b≠X.env.locals/\∀x c,X.env.cells.lookup x=some c->c≠b
 bs:∀b o,X.base.get? b=some o->X.s₀.heap.get? b=some o/\X.H₀ b=none
 bsz:X.base.objs.size<=X.s₀.heap.objs.size
 noex:∀b o,X.base.get? b=some o->b∉X.ex
 exfs:∀b∈X.ex,b∉X.fs
 funs:X.s₀.heap.FunFrames X.base X.outer
 frf:∀b∈X.fs,X.H₀ b=none
structure Inv (X:Cx) (pins:List (Addr×Obj)) (σ:List (Option V)) (H:Hp) (s:Shared):Prop where
 ok:X.Ok
 os:s.os=X.s₀.os
 bare:AllBare s.gens
 base:Un X.fs X.ex X.H₀ H X.s₀.heap s.heap
 loc:∃m,s.heap.Ns X.env.locals m/\∀(i:Nat) (x:Str) (v:V),X.N[i]?=some x->σ[i]?=some (some v)->GY X.env.scope x->∃u,bM v u/\Hh X.env s.heap m x u
 cell:∀x c,X.env.cells.lookup x=some c->∃v,s.heap.IsCell c v
 free:H X.env.locals=none
 freeC:∀x c,X.env.cells.lookup x=some c->H c=none
 pin:∀p∈X.pn++pins,s.heap.get? p.1=some p.2/\H p.1=none/\p.1≠X.env.locals/\p.1∉X.fs/\∀v,p.2.data≠.cell v
 hok:lR X.prog X.w H s.heap
 len:σ.length=X.N.length
section
variable {X:Cx} {pins:List (Addr×Obj)} {σ:List (Option V)} {H H':Hp} {s:Shared} {h':Heap}
theorem Cx.Ok.nofr (ok:X.Ok) {b:Addr} {o:Obj} (e:X.base.get? b=some o):b∉X.fs:=fun hb=>by
 have:=(ok.funs.mem hb).1
 rw [e] at this; cases this
theorem Inv.bs (I:Inv X pins σ H s):∀b o,X.base.get? b=some o->s.heap.get? b=some o/\H b=none:=fun b o e=>
 ⟨I.base.keep b o (I.ok.bs b o e).1 (I.ok.bs b o e).2 (I.ok.nofr e) (I.ok.noex b o e),I.base.free b o (I.ok.bs b o e).1 (I.ok.bs b o e).2 (I.ok.noex b o e)⟩
theorem Inv.bk (I:Inv X pins σ H s):∀b o,X.base.get? b=some o->s.heap.get? b=some o:=fun b o e=>(I.bs b o e).1
theorem Inv.mod (I:Inv X pins σ H s):Mod X.K X.mg X.base:=I.ok.mod
theorem Inv.kIn (I:Inv X pins σ H s):X.K.In s.heap:=I.ok.mod.kin.keeps I.bk
theorem Inv.nolimit (I:Inv X pins σ H s):s.heap.NoLimit:=I.ok.mod.nolimit.keeps I.bk
theorem Inv.fr (I:Inv X pins σ H s):∃m,Fr X.base X.env.locals s.heap m:=
 let ⟨m,hn,_⟩:=I.loc
 ⟨m,hn,I.bk,Nat.le_trans I.ok.bsz I.ok.above⟩
theorem Inv.lt (I:Inv X pins σ H s):X.env.locals<s.heap.objs.size:=let ⟨_,hn,_⟩:=I.loc; hn.lt
theorem Inv.sz (I:Inv X pins σ H s):X.s₀.heap.objs.size<=s.heap.objs.size:=Nat.le_trans I.ok.above (Nat.le_of_lt I.lt)
theorem Inv.nofs (I:Inv X pins σ H s) {a:Addr} (h:s.heap.objs.size<=a):a∉X.fs:=fun hb=>by
 obtain ⟨_,o,ho,_⟩:=I.ok.funs.mem hb
 exact absurd (Nat.lt_of_lt_of_le (IM ho) (Nat.le_trans I.sz h)) (Nat.lt_irrefl _)
theorem Inv.cne (I:Inv X pins σ H s):∀x c,X.env.cells.lookup x=some c->c≠X.env.locals:=fun x c e z=>by
 obtain ⟨v,o,ho,hd⟩:=I.cell x c e
 obtain ⟨m,⟨o',es,ep,ho',hd',_⟩,_⟩:=I.loc
 rw [z,ho'] at ho; cases ho; rw [hd'] at hd; cases hd
theorem Inv.funs (I:Inv X pins σ H s):s.heap.FunFrames X.base X.outer:=by
 have all:∀(l:List Env),(∀b∈gn l,b∈X.fs)->X.s₀.heap.FunFrames X.base l->s.heap.FunFrames X.base l:=by
  intro l
  induction l with
  |nil=>intro _ _; trivial
  |cons env r ih=>
   intro hs hl
   obtain ⟨hk,⟨L,o,hf,hn,ho,hd⟩,hr⟩:=hl
   have hL:L∈X.fs:=hs L (by unfold gn; rw [List.filterMap_cons,hf]; exact IF)
   obtain ⟨sl,e⟩:=I.base.slot L o ho (I.ok.frf L hL) hL fun z=>I.ok.exfs L z hL
   exact ⟨hk,⟨L,_,hf,hn,e,hd⟩,ih (fun b hb=>hs b (by unfold gn; rw [List.filterMap_cons,hf]; exact IE _ hb)) hr⟩
 exact all X.outer (fun _ hb=>hb) I.ok.funs
theorem Inv.stack (I:Inv X pins σ H s):s.heap.FunFrames X.base X.stack:=by
 rcases I.ok.stk with e|⟨e,hf⟩
 ·rw [e]; exact I.funs
 ·rw [e]
  obtain ⟨m,hn,_⟩:=I.loc
  refine .cons (by rw [I.ok.kind]; decide) hf hn ?_ I.funs
  exact Heap.get?_none_of_le (Nat.le_trans I.ok.bsz I.ok.above)
theorem Inv.stkSub (I:Inv X pins σ H s):∀b∈gn X.stack,b∈X.env.locals::X.fs:=fun b hb=>by
 rcases I.ok.stk with e|⟨e,hf⟩
 ·rw [e] at hb; exact IE _ hb
 ·rw [e] at hb
  unfold gn at hb
  rw [List.filterMap_cons,hf] at hb
  exact hb
theorem Inv.stkFree (I:Inv X pins σ H s):∀b∈gn X.stack,H b=none:=fun b hb=>by
 rcases List.mem_cons.mp (I.stkSub b hb) with e|hb
 ·rw [e]; exact I.free
 ·obtain ⟨_,o,ho,_⟩:=I.ok.funs.mem hb
  exact I.base.free b o ho (I.ok.frf b hb) fun z=>I.ok.exfs b z hb
theorem Inv.step {g':Array GenState} {t':Nat} {d':Drawn} {ch:List Addr} (I:Inv X pins σ H s)
  (hch:∀b∈ch,(b∈X.ex\/X.s₀.heap.objs.size<=b)/\b≠X.env.locals/\(∀x c,X.env.cells.lookup x=some c->c≠b)/\∀p∈X.pn++pins,p.1≠b)
  (keep:∀b o,b≠X.env.locals->b∉X.fs->b∉ch->s.heap.get? b=some o->H b=none->h'.get? b=some o)
  (slot:∀b o,b≠X.env.locals->b∈X.fs->b∉ch->s.heap.get? b=some o->H b=none->∃sl,h'.get? b=some { o with slots:=sl }) (free:∀b o,b∉ch->s.heap.get? b=some o->H b=none->H' b=none)
  (there:∀b o,b∉ch->s.heap.get? b=some o->∃o',h'.get? b=some o')
  (tups:∀b xs,H b=some (.tup xs)->H' b=some (.tup xs)) (frzs:∀b o u,H b=some (.frz o u)->H' b=some (.frz o u)) (tbls:∀b ps,H b=some (.tbl ps)->∃more,H' b=some (.tbl (ps++more)))
  (ns:∀m,s.heap.Ns X.env.locals m->h'.Ns X.env.locals m) (hok:lR X.prog X.w H' h') (hg:AllBare g') :
  Inv X pins σ H' { s with heap:=h',gens:=g',drawn:=d',toks:=t' }:=by
 have neL:∀b o,X.s₀.heap.get? b=some o->b≠X.env.locals:=fun b o e=>Nat.ne_of_lt (Nat.lt_of_lt_of_le (IM e) I.ok.above)
 have neC:∀b o,X.s₀.heap.get? b=some o->b∉X.ex->b∉ch:=fun b o e hx hb=>by
  rcases (hch b hb).1 with z|z
  ·exact hx z
  ·exact absurd (Nat.lt_of_lt_of_le (IM e) z) (Nat.lt_irrefl _)
 have cellK:∀x c,X.env.cells.lookup x=some c->∀v,s.heap.IsCell c v->h'.IsCell c v:=fun x c e v ⟨o,ho,hd⟩=>by
  have nch:c∉ch:=fun z=>(hch c z).2.2.1 x c e rfl
  by_cases hc:c∈X.fs
  ·obtain ⟨sl,q⟩:=slot c o (I.cne x c e) hc nch ho (I.freeC x c e)
   exact ⟨_,q,hd⟩
  ·exact ⟨o,keep c o (I.cne x c e) hc nch ho (I.freeC x c e),hd⟩
 refine ⟨I.ok,I.os,hg,⟨fun b o e n hb hx=>?_,fun b o e n hb hx=>?_,fun b o e n hx=>?_,fun b o e hx=>?_,fun b xs e=>tups b xs (I.base.tups b xs e),fun b o xs e=>frzs b o xs (I.base.frzs b o xs e),fun b ps e=>?_⟩,?_,fun x c e=>?_,?_,fun x c e=>?_,fun p hp=>?_,hok,I.len⟩
 ·exact keep b o (neL b o e) hb (neC b o e hx) (I.base.keep b o e n hb hx) (I.base.free b o e n hx)
 ·obtain ⟨sl,e1⟩:=I.base.slot b o e n hb hx
  obtain ⟨sl',e2⟩:=slot b _ (neL b o e) hb (neC b o e hx) e1 (I.base.free b o e n hx)
  exact ⟨sl',e2⟩
 ·obtain ⟨o',e1⟩:=I.base.there b o e hx
  exact free b o' (neC b o e hx) e1 (I.base.free b o e n hx)
 ·obtain ⟨o',e1⟩:=I.base.there b o e hx
  exact there b o' (neC b o e hx) e1
 ·obtain ⟨m1,e1⟩:=I.base.tbls b ps e
  obtain ⟨m2,e2⟩:=tbls b _ e1
  exact ⟨m1++m2,by rw [e2,Array.append_assoc]⟩
 ·obtain ⟨m,hn,hl⟩:=I.loc
  refine ⟨m,ns m hn,fun i x v e1 e2 e3=>?_⟩
  obtain ⟨u,r,l⟩:=hl i x v e1 e2 e3
  refine ⟨u,r,?_⟩
  rcases l with l|⟨k,c,e,z⟩
  ·exact .inl l
  ·exact .inr ⟨k,c,e,cellK x c e _ z⟩
 ·obtain ⟨v,z⟩:=I.cell x c e
  exact ⟨v,cellK x c e v z⟩
 ·obtain ⟨m,⟨o,_,_,ho,_⟩,_⟩:=I.loc
  exact free _ o (fun z=>(hch _ z).2.1 rfl) ho I.free
 ·obtain ⟨v,o,ho,hd⟩:=I.cell x c e
  exact free c o (fun z=>(hch c z).2.2.1 x c e rfl) ho (I.freeC x c e)
 ·obtain ⟨e,n,ne,nf,d⟩:=I.pin p hp
  have nch:p.1∉ch:=fun z=>(hch p.1 z).2.2.2 p hp rfl
  exact ⟨keep p.1 p.2 ne nf nch e n,free p.1 p.2 nch e n,ne,nf,d⟩
theorem Inv.un {t':Nat} (I:Inv X pins σ H s) (u:Un X.fs [] H H' s.heap h') (hok:lR X.prog X.w H' h'):Inv X pins σ H' { s with heap:=h',toks:=t' }:=by
 obtain ⟨m,⟨o,es,ep,ho,r⟩,_⟩:=id I.loc
 obtain ⟨sl,hL⟩:=u.any ho I.free 0x4
 exact I.step (g':=s.gens) (d':=s.drawn) (ch:=[]) (fun _ z=>nomatch z) (fun b o _ hb _ e n=>u.keep b o e n hb 0x4) (fun b o _ hb _ e n=>u.slot b o e n hb 0x4) (fun b o _ e n=>u.free b o e n 0x4) (fun b o _ e=>u.there b o e 0x4) u.tups u.frzs u.tbls (fun m' hm=>by
  obtain ⟨o',es',ep',ho',r'⟩:=hm
  rw [ho] at ho'; cases ho'
  exact ⟨_,es',ep',hL,r'⟩) hok I.bare
theorem Inv.call {g':Array GenState} {t':Nat} {d':Drawn} {ch:List Addr} (I:Inv X pins σ H s) (u:Un (gn X.stack) ch H H' s.heap h') (hok:lR X.prog X.w H' h') (hg:AllBare g')
  (hch:∀b∈ch,(b∈X.ex\/X.s₀.heap.objs.size<=b)/\b≠X.env.locals/\(∀x c,X.env.cells.lookup x=some c->c≠b)/\∀p∈X.pn++pins,p.1≠b) :
  Inv X pins σ H' { s with heap:=h',gens:=g',drawn:=d',toks:=t' }:=by
 obtain ⟨m,⟨o,es,ep,ho,r⟩,_⟩:=id I.loc
 obtain ⟨sl,hL⟩:=u.any ho I.free fun z=>(hch _ z).2.1 rfl
 exact I.step (ch:=ch) hch (fun b o hL hb hc e n=>u.keep b o e n (fun z=>(List.mem_cons.mp (I.stkSub b z)).elim hL hb) hc) (fun b o _ _ hc e n=>u.any e n hc) (fun b o hc e n=>u.free b o e n hc) (fun b o hc e=>u.there b o e hc) u.tups u.frzs u.tbls (fun m' hm=>by
  obtain ⟨o',es',ep',ho',r'⟩:=hm
  rw [ho] at ho'; cases ho'
  exact ⟨_,es',ep',hL,r'⟩) hok hg
theorem Inv.turned {t':Nat} {it:Addr} (I:Inv X pins σ H s) (k:∀b o,b≠it->s.heap.get? b=some o->h'.get? b=some o) (hn:H it=none) (hL:it≠X.env.locals)
  (h1:it∈X.ex\/X.s₀.heap.objs.size<=it) (h2:∀x c,X.env.cells.lookup x=some c->c≠it) (h3:∀p∈X.pn++pins,p.1≠it):Inv X pins σ H { s with heap:=h',toks:=t' }:=by
 have nit:∀b u,H b=some u->b≠it:=fun b u e z=>by rw [z,hn] at e; cases e
 refine I.step (g':=s.gens) (d':=s.drawn) (ch:=[it]) (fun b hb=>?_) (fun b o _ _ hc e _=>k b o (fun z=>hc (by simp [z])) e) (fun b o _ _ hc e _=>⟨o.slots,k b o (fun z=>hc (by simp [z])) e⟩) (fun _ _ _ _ n=>n)
  (fun b o hc e=>⟨o,k b o (fun z=>hc (by simp [z])) e⟩) (fun _ _ e=>e) (fun _ _ _ e=>e) (fun b ps e=>⟨#[],by rw [e]; simp⟩) (fun m hm=>?_) (fun b u e=>?_) I.bare
 ·have e:b=it:=by simpa using hb
  subst e
  exact ⟨h1,hL,h2,h3⟩
 ·obtain ⟨o,es,ep,ho,r⟩:=hm
  exact ⟨o,es,ep,k _ o (Ne.symm hL) ho,r⟩
 ·refine (I.hok b u e).stay (fun c v hc q=>k c v ?_ q) (fun _ q=>q) fun _ _ q=>q
  rcases hc with z|z
  ·rw [z]; exact nit b u e
  ·exact nit c _ z
theorem Inv.tok (I:Inv X pins σ H s) (t:Nat):Inv X pins σ H { s with toks:=t }:=I.un (h':=s.heap) (t':=t) Un.refl I.hok
theorem Inv.kept {t':Nat} (I:Inv X pins σ H s) (k:∀b u,s.heap.get? b=some u->h'.get? b=some u):Inv X pins σ H { s with heap:=h',toks:=t' }:=I.un (Un.kept k) (I.hok.kept k)
theorem Inv.laid {a:Addr} {o:HO} {t':Nat} (I:Inv X pins σ H s) (k:∀b u,s.heap.get? b=some u->h'.get? b=some u) (hp:s.heap.objs.size<=a) (new:dg X.prog X.w (du H a o) h' a o) :
  Inv X pins σ (du H a o) { s with heap:=h',toks:=t' }:=I.un (Un.laid k hp (I.hok.fresh hp)) (I.hok.laid k hp new)
theorem Inv.write {x e:Addr} {o:HO} {t':Nat} (I:Inv X pins σ H s) (mu:GW (H x)) (he:e=x\/H e=some (.own x)) (k:∀b u,b≠e->s.heap.get? b=some u->h'.get? b=some u) (heo:∃u,h'.get? e=some u)
  (new:dg X.prog X.w (du H x o) h' x o):Inv X pins σ (du H x o) { s with heap:=h',toks:=t' }:=I.un (Un.write mu he k heo) (I.hok.write mu he k heo new)
theorem Inv.pins_of {pins':List (Addr×Obj)} (I:Inv X pins σ H s) (h:∀p∈pins',s.heap.get? p.1=some p.2/\H p.1=none/\p.1≠X.env.locals/\p.1∉X.fs/\∀v,p.2.data≠.cell v):Inv X pins' σ H s:=
 ⟨I.ok,I.os,I.bare,I.base,I.loc,I.cell,I.free,I.freeC,fun p hp=>(List.mem_append.mp hp).elim (fun z=>I.pin p (II _ z)) (h p),I.hok,I.len⟩
theorem sR {N:List Str} (hN:N.Nodup) {i j:Nat} {x:Str} (a:N[i]?=some x) (b:N[j]?=some x):i=j:=by
 obtain ⟨h1,e1⟩:=List.getElem?_eq_some_iff.mp a
 obtain ⟨h2,e2⟩:=List.getElem?_eq_some_iff.mp b
 exact (List.getElem_inj hN).mp (e1.trans e2.symm)
theorem qo {M:Model} {A:Around} {E:Value->Shared->Prop} {i:Nat} {x:Str} {v:V} {u:Value} {Q:Unit->Shared->Prop} (I:Inv X pins σ H s) (hN:X.N.Nodup) (hi:X.N[i]?=some x) (hx:GH X.env.scope x) (r:bM v u)
  (h:∀s',Inv X pins (σ.set i (some v)) H s'->(∃a,Heap.SameBut a s.heap s'.heap/\(a=X.env.locals\/X.env.cells.lookup x=some a))->Q () s') (hf:X.fn x=true\/X.env.scope.names.lookup x=some .local:=by first|exact .inl rfl|exact .inr rfl|assumption):wpAny M A (storeName X.env x u) Q E s:=by
 obtain ⟨m,hn,hl⟩:=id I.loc
 have hcls:(X.env.scope.kind==.class||(X.env.scope.kind==.module&&X.env.locals != X.env.globals))=false:=by rw [I.ok.kind]; rfl
 have hiσ:i<σ.length:=by rw [I.len]; exact (List.getElem?_eq_some_iff.mp hi).1
 have cne:=I.cne
 have tracked:∀{a:Addr} {h':Heap},(∃o,s.heap.get? a=some o/\H a=none)->Heap.SameBut a s.heap h'->lR X.prog X.w H h':=fun {a h'} ha hs b ob e=>by
  obtain ⟨_,_,hfree⟩:=ha
  refine (I.hok b ob e).stay (fun c w' hc q=>(hs.2 c ?_).trans q) (fun _ q=>q) fun _ _ q=>q
  rintro rfl
  rcases hc with rfl|hc
  ·rw [hfree] at e; cases e
  ·rw [hfree] at hc; cases hc
 rcases hx with hk|hk
 ·refine wpAny_storeName_local hk hn (fun h' hn' hs=>?_) hcls
  obtain ⟨oL,_,_,hoL,_⟩:=id hn
  refine h _ ⟨I.ok,I.os,I.bare,⟨fun b o e n hb hx=>?_,fun b o e n hb hx=>?_,I.base.free,fun b o e hx=>?_,I.base.tups,I.base.frzs,I.base.tbls⟩,⟨_,hn',fun j y v' e1 e2 e3=>?_⟩,fun y c e=>?_,I.free,I.freeC,fun p hp=>?_,tracked ⟨oL,hoL,I.free⟩ hs,by simpa using I.len⟩ ⟨_,hs,.inl rfl⟩
  ·exact (hs.2 b (Nat.ne_of_lt (Nat.lt_of_lt_of_le (IM e) I.ok.above))).trans (I.base.keep b o e n hb hx)
  ·obtain ⟨sl,e1⟩:=I.base.slot b o e n hb hx
   exact ⟨sl,(hs.2 b (Nat.ne_of_lt (Nat.lt_of_lt_of_le (IM e) I.ok.above))).trans e1⟩
  ·obtain ⟨o',e1⟩:=I.base.there b o e hx
   exact ⟨o',(hs.2 b (Nat.ne_of_lt (Nat.lt_of_lt_of_le (IM e) I.ok.above))).trans e1⟩
  ·by_cases hj:j=i
   ·subst hj
    rw [hi] at e1; cases e1
    rw [List.getElem?_set_self hiσ] at e2
    cases e2
    exact ⟨u,r,.inl ⟨hk,0x4⟩⟩
   ·rw [List.getElem?_set_ne (Ne.symm hj)] at e2
    obtain ⟨u',r',q⟩:=hl j y v' e1 e2 e3
    refine ⟨u',r',?_⟩
    rcases q with ⟨k,e⟩|⟨k,c,e,z⟩
    ·refine .inl ⟨k,?_⟩
     have:y≠x:=fun e=>hj (sR hN e1 (e▸hi))
     simp [this,e]
    ·exact .inr ⟨k,c,e,z.sameBut hs (cne y c e)⟩
  ·obtain ⟨w',z⟩:=I.cell y c e
   exact ⟨w',z.sameBut hs (cne y c e)⟩
  ·obtain ⟨e,n,ne,nf,d⟩:=I.pin p hp
   exact ⟨(hs.2 p.1 ne).trans e,n,ne,nf,d⟩
 ·have hfn:X.fn x=true:=by
   rcases hf with z|z
   ·exact z
   ·rw [z] at hk; cases hk
  obtain ⟨c,hc⟩:=I.ok.has x (.inl hk)
  obtain ⟨w',z⟩:=I.cell x c hc
  refine wpAny_storeName_cell I.ok.kind hk hc z (fun h' hc' hs=>?_)
  obtain ⟨oc,hoc,hocd⟩:=id z
  refine h { s with heap:=h' } ⟨I.ok,I.os,I.bare,⟨fun b o e n hb hx=>?_,fun b o e n hb hx=>?_,I.base.free,fun b o e hx=>?_,I.base.tups,I.base.frzs,I.base.tbls⟩,⟨m,hn.sameBut hs (Ne.symm (cne x c hc)),fun j y v' e1 e2 e3=>?_⟩,fun y c' e=>?_,I.free,I.freeC,fun p hp=>?_,tracked ⟨oc,hoc,I.freeC x c hc⟩ hs,by simpa using I.len⟩ ⟨c,hs,.inr hc⟩
  ·exact (hs.2 b (Nat.ne_of_lt (Nat.lt_of_lt_of_le (IM e) (I.ok.cab x c hfn hc)))).trans (I.base.keep b o e n hb hx)
  ·obtain ⟨sl,e1⟩:=I.base.slot b o e n hb hx
   exact ⟨sl,(hs.2 b (Nat.ne_of_lt (Nat.lt_of_lt_of_le (IM e) (I.ok.cab x c hfn hc)))).trans e1⟩
  ·obtain ⟨o',e1⟩:=I.base.there b o e hx
   exact ⟨o',(hs.2 b (Nat.ne_of_lt (Nat.lt_of_lt_of_le (IM e) (I.ok.cab x c hfn hc)))).trans e1⟩
  ·by_cases hj:j=i
   ·subst hj
    rw [hi] at e1; cases e1
    rw [List.getElem?_set_self hiσ] at e2
    cases e2
    exact ⟨u,r,.inr ⟨.inl hk,c,hc,hc'⟩⟩
   ·rw [List.getElem?_set_ne (Ne.symm hj)] at e2
    obtain ⟨u',r',q⟩:=hl j y v' e1 e2 e3
    refine ⟨u',r',?_⟩
    rcases q with q|⟨k,c',e,z'⟩
    ·exact .inl q
    ·refine .inr ⟨k,c',e,z'.sameBut hs ?_⟩
     rintro rfl
     exact hj (sR hN e1 (I.ok.inj _ _ _ e hc▸hi))
  ·by_cases hcc:c'=c
   ·subst hcc; exact ⟨_,hc'⟩
   ·obtain ⟨w2,z2⟩:=I.cell y c' e
    exact ⟨w2,z2.sameBut hs hcc⟩
  ·obtain ⟨e,n,ne,nf,d⟩:=I.pin p hp
   refine ⟨(hs.2 p.1 ?_).trans e,n,ne,nf,d⟩
   intro q
   rw [q,hoc] at e
   have q':oc=p.2:=Option.some.inj e
   exact d w' (by rw [<-q']; exact hocd)
theorem nO {M:Model} {A:Around} {E:Value->Shared->Prop} {i:Nat} {x:Str} {v:V} {u:Value} {Q:Unit->Shared->Prop} (I:Inv X pins σ H s) (hN:X.N.Nodup) (hi:X.N[i]?=some x) (hx:GH X.env.scope x) (r:bM v u)
  (h:∀s',Inv X pins (σ.set i (some v)) H s'->Q () s') (hf:X.fn x=true\/X.env.scope.names.lookup x=some .local:=by first|exact .inl rfl|exact .inr rfl|assumption):wpAny M A (storeName X.env x u) Q E s:=
 qo I hN hi hx r (fun s' I' _=>h s' I') hf
theorem Inv.call' {s':Shared} {ch:List Addr} (I:Inv X pins σ H s) (ho:s'.os=s.os) (u:Un (gn X.stack) ch H H' s.heap s'.heap) (hok:lR X.prog X.w H' s'.heap) (hg:AllBare s'.gens)
  (hch:∀b∈ch,(b∈X.ex\/X.s₀.heap.objs.size<=b)/\b≠X.env.locals/\(∀x c,X.env.cells.lookup x=some c->c≠b)/\∀p∈X.pn++pins,p.1≠b):Inv X pins σ H' s':=by
 obtain ⟨h',g',d',t',o'⟩:=s'
 have e:o'=s.os:=ho
 subst e
 exact I.call (g':=g') (t':=t') (d':=d') u hok hg hch
end
noncomputable abbrev XK:=Value->Option Addr->Hp->Prop
noncomputable abbrev St:=List (Option V)
noncomputable abbrev VK:=V->Hp->Prop
noncomputable abbrev TE:=St->Hp->VK->Prop
noncomputable abbrev TT:=St->Hp->(Bool->Hp->Prop)->Prop
noncomputable abbrev TA:=St->Hp->(List V->Hp->Prop)->Prop
structure Ends where
 nx:St->Hp->Prop
 rt:VK
 bk:St->Hp->Prop:=fun _ _=>False
 ct:St->Hp->Prop:=fun _ _=>False
noncomputable abbrev TS:=Ends->St->Hp->Prop
noncomputable def EP (X:Cx) (pins:List (Addr×Obj)) (σ:St) (Q:VK) (u:Value) (s':Shared):Prop:=∃v H',Inv X pins σ H' s'/\bM v u/\Q v H'
noncomputable def TP (X:Cx) (pins:List (Addr×Obj)) (σ:St) (Q:Bool->Hp->Prop) (b:Bool) (s':Shared):Prop:=∃H',Inv X pins σ H' s'/\Q b H'
noncomputable def AP (X:Cx) (pins:List (Addr×Obj)) (σ:St) (Q:List V->Hp->Prop) (us:List Value) (s':Shared):Prop:=∃vs H',Inv X pins σ H' s'/\aQ vs us/\Q vs H'
noncomputable def SP (X:Cx) (pins:List (Addr×Obj)) (D:Ends) (f:Flow) (s':Shared):Prop:=
 match f with
 |.next=>∃σ' H',Inv X pins σ' H' s'/\D.nx σ' H'
 |.brk=>∃σ' H',Inv X pins σ' H' s'/\D.bk σ' H'
 |.cont=>∃σ' H',Inv X pins σ' H' s'/\D.ct σ' H'
 |.ret u=>∃v σ' H',Inv X pins σ' H' s'/\bM v u/\D.rt v H'
noncomputable def PE (X:Cx) (e:Expr) (t:TE):Prop:=
 ∀(pins:List (Addr×Obj)) (s:Shared) (σ:St) (H:Hp) (Q:VK),Inv X pins σ H s->t σ H Q->wpAny (model X.prog X.w) X.A (eval e X.env) (EP X pins σ Q) X.xe s
noncomputable def PT (X:Cx) (e:Expr) (t:TT):Prop:=
 ∀(pins:List (Addr×Obj)) (s:Shared) (σ:St) (H:Hp) (Q:Bool->Hp->Prop),Inv X pins σ H s->t σ H Q->wpAny (model X.prog X.w) X.A (isTrue e X.env (eval e X.env)) (TP X pins σ Q) X.xe s
noncomputable def PW (X:Cx) (e:Expr) (t:TT):Prop:=
 ∀(whole:Sem Value) (pins:List (Addr×Obj)) (s:Shared) (σ:St) (H:Hp) (Q:Bool->Hp->Prop),Inv X pins σ H s->t σ H Q->wpAny (model X.prog X.w) X.A (isTrue e X.env whole) (TP X pins σ Q) X.xe s
theorem PW.pt {X:Cx} {e:Expr} {t:TT} (h:PW X e t):PT X e t:=h _
noncomputable def PA (X:Cx) (es:List Expr) (t:TA):Prop:=
 ∀(pos:Pos) (pins:List (Addr×Obj)) (s:Shared) (σ:St) (H:Hp) (Q:List V->Hp->Prop),Inv X pins σ H s->t σ H Q->wpAny (model X.prog X.w) X.A (spliced (backTo pos (starEach es X.env))) (AP X pins σ Q) X.xe s
noncomputable def PS (X:Cx) (st:Stmt) (t:TS):Prop:=
 ∀(pins:List (Addr×Obj)) (s:Shared) (σ:St) (H:Hp) (D:Ends),Inv X pins σ H s->t D σ H->wpAny (model X.prog X.w) X.A (exec st X.env) (SP X pins D) X.xe s
noncomputable def sh (X:Cx) (st:List Stmt) (t:TS):Prop:=
 ∀(pins:List (Addr×Obj)) (s:Shared) (σ:St) (H:Hp) (D:Ends),Inv X pins σ H s->t D σ H->wpAny (model X.prog X.w) X.A (execs st X.env) (SP X pins D) X.xe s
theorem cJ {α:Type} {t:Sem α} {Q Q':α->Shared->Prop} {M:Model} {A:Around} {E:Value->Shared->Prop} {s:Shared} (h:wpAny M A t Q E s) (hQ:∀a s,Q a s->Q' a s):wpAny M A t Q' E s:=wpAny_mono h hQ fun _ _ x=>x
section
variable {X:Cx}
theorem HJ {a b:Expr} {ta tb:TE} (ha:PE X a ta) (hb:PE X b tb) {pins:List (Addr×Obj)} {s:Shared} {σ:St} {H:Hp} {R:V->V->Hp->Prop} (I:Inv X pins σ H s) (h:ta σ H fun x H1=>tb σ H1 fun y H2=>R x y H2)
  {α:Type} {Q:α->Shared->Prop} {f:Value->Value->Sem α}
  (hf:∀v u s2 x y H2,Inv X pins σ H2 s2->bM x v->bM y u->R x y H2->wpAny (model X.prog X.w) X.A (f v u) Q X.xe s2) :
  wpAny (model X.prog X.w) X.A (eval a X.env) (fun v s₁=>wpAny (model X.prog X.w) X.A (eval b X.env) (fun u s₂=>wpAny (model X.prog X.w) X.A (f v u) Q X.xe s₂) X.xe s₁) X.xe s:=by
 refine cJ (ha pins s σ H _ I h) fun v s1 ⟨x,H1,I1,r1,q1⟩=>?_
 refine cJ (hb pins s1 σ H1 _ I1 q1) fun u s2 ⟨y,H2,I2,r2,q2⟩=>?_
 exact hf v u s2 x y H2 I2 r1 r2 q2
noncomputable def rH (i:Nat):TE:=fun σ H Q=>∃v,σ[i]?=some (some v)/\Q v H
noncomputable def tC (v:V):TE:=fun _ H Q=>Q v H
theorem DG {i:Nat} {x:Str} {pos:Pos} (hN:X.N[i]?=some x) (hv:GY X.env.scope x) (hd:(x==("__debug__" : Str))=false:=by decide) (hcd:(x==("__classdict__" : Str))=false:=by decide):PE X (.Name x pos) (rH i):=by
 intro pins s σ H Q I h
 obtain ⟨v,e,h⟩:=h
 obtain ⟨m,hn,hl⟩:=I.loc
 obtain ⟨u,r,l⟩:=hl i x v hN e hv
 have fin:EP X pins σ Q u s:=⟨v,H,I,r,h⟩
 rcases l with ⟨hk,hm⟩|⟨hk,c,hc,hcell⟩
 ·exact wpAny_Name (wpAny_loadName_local I.ok.kind hk hn hm fin) hd
 ·rcases hk with hk|hk
  ·exact wpAny_Name (wpAny_loadName_cell I.ok.kind hk hc hcell fin) hd
  ·exact wpAny_Name (wpAny_loadName_free I.ok.kind hk hc hcell fin hcd) hd
theorem zU {i j pos}:PE X (.Constant (.int i) j pos) (tC (.int i)):=fun _ _ _ H _ I h=>wpAny_Constant_int ⟨.int i,H,I.tok _,⟨_,rfl⟩,h⟩
theorem Gs {b j pos}:PE X (.Constant (.bool b) j pos) (tC (.bl b)):=fun _ _ _ H _ I h=>Constant_bool ⟨.bl b,H,I,rfl,h⟩
theorem Al {x j pos}:PE X (.Constant (.str x) j pos) (tC (.str x)):=fun _ _ _ H _ I h=>Calls.Constant_str ⟨.str x,H,I.tok _,⟨_,rfl⟩,h⟩
noncomputable def Gl (X:Cx) (x:Str):Prop:=X.env.kindOf x=some .globalImplicit
theorem jw {E:Value->Shared->Prop} {pins:List (Addr×Obj)} {s:Shared} {σ:St} {H:Hp} {x:Str} {u:Value} {pos:Pos} {Q:Value->Shared->Prop} (I:Inv X pins σ H s) (hg:Gl X x) (hm:X.mg x=some u) (h:Q u s)
  (hd:(x==("__debug__" : Str))=false:=by decide):wpAny (model X.prog X.w) X.A (eval (.Name x pos) X.env) Q E s:=
 Calls.Name_function_global I.ok.kind hg (Calls.loadGlobal_global (by rw [I.ok.glob]; exact I.mod.glob.keeps I.bk) hm h) hd
theorem jZ {E:Value->Shared->Prop} {pins:List (Addr×Obj)} {s:Shared} {σ:St} {H:Hp} {x:Str} {u:Value} {pos:Pos} {Q:Value->Shared->Prop} (I:Inv X pins σ H s) (hg:Gl X x) (hm:X.mg x=none) (hv:bootBuiltins x=some u) (h:Q u s)
  (hn:x ≠ "__name__" :=by decide) (hd:(x==("__debug__" : Str))=false:=by decide):wpAny (model X.prog X.w) X.A (eval (.Name x pos) X.env) Q E s:=by
 obtain ⟨mb,h1,h2⟩:=I.mod.blt
 exact Calls.Name_function_global I.ok.kind hg (Calls.loadGlobal_builtin (by rw [I.ok.glob]; exact I.mod.glob.keeps I.bk) hm (by rw [I.ok.blt]; exact h1.keeps I.bk) ((h2 x hn).trans hv) h) hd
theorem Bm {x:Str} {v:V} {u:Value} {pos:Pos} (hg:Gl X x) (hm:X.mg x=some u) (r:bM v u) (hd:(x==("__debug__" : Str))=false:=by decide):PE X (.Name x pos) (tC v):=
 fun _ _ _ H _ I h=>jw I hg hm ⟨v,H,I,r,h⟩ hd
variable {a b:Expr} {ta tb:TE} {pos:Pos}
noncomputable def PC (X:Cx) (op:CmpOp) (a b:Expr) (t:TE):Prop:=
 ∀(pins:List (Addr×Obj)) (s:Shared) (σ:St) (H:Hp) (Q:VK),Inv X pins σ H s->t σ H Q ->
  wpAny (model X.prog X.w) X.A (eval a X.env) (fun v s₁=>wpAny (model X.prog X.w) X.A (eval b X.env) (fun u s₂=>wpAny (model X.prog X.w) X.A (compareOp op v u) (EP X pins σ Q) X.xe s₂) X.xe s₁) X.xe s
theorem zD (b:Expr) {op:CmpOp} (h:op≠.In) (h2:op≠.NotIn):behindInMarks op b=false:=by
 have e1:(op==CmpOp.In)=false:=by cases op <;> first|rfl|exact absurd rfl h
 have e2:(op==CmpOp.NotIn)=false:=by cases op <;> first|rfl|exact absurd rfl h2
 cases b <;> simp [behindInMarks,e1,e2]
noncomputable def tB (t:TE):TT:=fun σ H Q=>t σ H fun x H1=>∃c,x=.bl c/\Q c H1
theorem HD {op:CmpOp} {t:TE} (h:PC X op a b t) (h1:behindInMarks op b=false:=by first|exact zD _ 0x3 0x3|rfl):PT X (.Compare a [op] [b] pos) (tB t):=by
 intro pins s σ H Q I hw
 refine wpAny_isTrue_Compare1 (cJ (h pins s σ H _ I hw) fun v s1 h1=>cJ h1 fun u s2 h2=>cJ h2 fun c s3 ⟨x,H1,I1,r1,q1⟩=>?_) h1
 obtain ⟨d,rfl,q⟩:=q1
 cases r1
 exact wpAny_truthy_bool ⟨H1,I1,q⟩
theorem Ea {e:Expr} {t:TE} (h:PE X e t) (he:∀whole,isTrue e X.env whole=(do let v <-whole; standAt e.pos; holding [v] (truthy v)):=by intro _; rfl):PT X e (tB t):=by
 intro pins s σ H Q I hw
 refine isTrue_plain (cJ (h pins s σ H _ I hw) fun v s1 ⟨x,H1,I1,r1,q1⟩=>?_) (he _)
 obtain ⟨d,rfl,q⟩:=q1
 cases r1
 exact wpAny_truthy_bool ⟨H1,I1,q⟩
variable {tA tB':TT} {bN:List Expr}
noncomputable def HB (t u:TT):TT:=fun σ H Q=>t σ H fun c H1=>if c=true then u σ H1 Q else Q false H1
noncomputable def Iv (t u:TT):TT:=fun σ H Q=>t σ H fun c H1=>if c=true then Q true H1 else u σ H1 Q
noncomputable def Hi (t:TT):TT:=fun σ H Q=>t σ H fun c H1=>Q (!c) H1
theorem Bt (ha:PT X a tA):PW X (.BoolOp .And [a] pos) tA:=by
 intro wh pins s σ H Q I h
 refine isTrue_and (cJ (ha pins s σ H Q I h) fun c s1 e=>?_)
 cases c with
 |true=>exact isTrue_and_nil e
 |false=>exact e
theorem Es (ha:PT X a tA):PW X (.BoolOp .Or [a] pos) tA:=by
 intro wh pins s σ H Q I h
 refine isTrue_or (cJ (ha pins s σ H Q I h) fun c s1 e=>?_)
 cases c with
 |false=>exact isTrue_or_nil e
 |true=>exact e
theorem Ec (ha:PT X a tA) (hb:PW X (.BoolOp .And (b::bN) pos) tB'):PW X (.BoolOp .And (a::b::bN) pos) (HB tA tB'):=by
 intro wh pins s σ H Q I h
 refine isTrue_and (cJ (ha pins s σ H _ I h) fun c s1 ⟨H1,I1,q1⟩=>?_)
 cases c with
 |true=>exact hb wh pins s1 σ H1 Q I1 q1
 |false=>exact ⟨H1,I1,q1⟩
theorem FO (ha:PT X a tA) (hb:PW X (.BoolOp .Or (b::bN) pos) tB'):PW X (.BoolOp .Or (a::b::bN) pos) (Iv tA tB'):=by
 intro wh pins s σ H Q I h
 refine isTrue_or (cJ (ha pins s σ H _ I h) fun c s1 ⟨H1,I1,q1⟩=>?_)
 cases c with
 |true=>exact ⟨H1,I1,q1⟩
 |false=>exact hb wh pins s1 σ H1 Q I1 q1
theorem EF (ha:PT X a tA):PT X (.UnaryOp .Not a pos) (Hi tA):=by
 intro pins s σ H Q I h
 exact isTrue_not (ha pins s σ H (fun c H1=>Q (!c) H1) I h)
noncomputable def Gg (ta tb:TE):TE:=fun σ H Q=>ta σ H fun x H1=>∃c,x=.bl c/\if c=true then tb σ H1 Q else Q (.bl false) H1
noncomputable def Gc (ta:TE):TE:=fun σ H Q=>ta σ H fun x H1=>∃c,x=.bl c/\Q (.bl (!c)) H1
theorem EW {op} {t:TE} (h:PE X a t):PE X (.BoolOp op [a] pos) t:=fun pins s σ H Q I hw=>BoolOp_one (h pins s σ H Q I hw)
theorem Em (ha:PE X a ta) (hb:PE X (.BoolOp .And (b::bN) pos) tb):PE X (.BoolOp .And (a::b::bN) pos) (Gg ta tb):=by
 intro pins s σ H Q I h
 refine BoolOp_and (cJ (ha pins s σ H _ I h) fun v s1 ⟨x,H1,I1,r1,q1⟩=>?_)
 obtain ⟨c,rfl,q1⟩:=q1
 cases r1
 refine wpAny_truthy_bool ?_
 cases c with
 |true=>exact hb pins s1 σ H1 Q I1 q1
 |false=>exact ⟨.bl false,H1,I1,rfl,q1⟩
theorem DU (ha:PE X a ta):PE X (.UnaryOp .Not a pos) (Gc ta):=by
 intro pins s σ H Q I h
 refine UnaryOp_ (cJ (ha pins s σ H _ I h) fun v s1 ⟨x,H1,I1,r1,q1⟩=>?_)
 obtain ⟨c,rfl,q1⟩:=q1
 cases r1
 exact not_of (wpAny_truthy_bool ⟨.bl (!c),H1,I1,rfl,q1⟩)
end
noncomputable def gm (K:IU) (H:Hp) (a:Addr) (xs:List V):Prop:=
 Rd H a (.lst xs) \/
  ∃(o:Obj) (its:Array Value) (n:Nat),K.lookup a=some o/\o.cls=.type "list" /\ o.dict=none/\o.data=.seq its n/\its.size<=sizeLine/\aQ xs its.toList
noncomputable def jy (K:IU) (H:Hp) (a:Addr) (xs:List V):Prop:=
 Rd H a (.tup xs) \/
  ∃(o:Obj) (its:Array Value) (n:Nat),K.lookup a=some o/\o.cls=.type "tuple" /\ o.data=.seq its n/\its.size<=sizeLine/\aQ xs its.toList
noncomputable def Hx:Value->Option V
 |.none=>some .non
 |.bool b=>some (.bl b)
 |.int i _=>some (.int i)
 |.str x _=>some (.str x)
 |.bytes b _=>some (.byt b)
 |.float b _=>some (.flt b)
 |.ref a=>some (.ref a)
 |.type n=>some (.ty n)
 |_=>none
theorem bM.abs {x:V} {u:Value} (r:bM x u):Hx u=some x:=by
 cases x with
 |non=>cases r; rfl
 |bl _=>cases r; rfl
 |int _=>obtain ⟨t,rfl⟩:=r; rfl
 |str _=>obtain ⟨t,rfl⟩:=r; rfl
 |byt _=>obtain ⟨t,rfl⟩:=r; rfl
 |flt _=>obtain ⟨t,rfl⟩:=r; rfl
 |ref _=>cases r; rfl
 |ty _=>cases r; rfl
theorem bM.inj {x y:V} {u:Value} (r:bM x u) (q:bM y u):x=y:=Option.some.inj (r.abs.symm.trans q.abs)
theorem aQ.inj:∀{xs ys:List V} {us:List Value},aQ xs us->aQ ys us->xs=ys
 |_,_,_,.nil,.nil=>rfl
 |_,_,_,.cons r t,.cons r' t'=>by rw [r.inj r',aQ.inj t t']
section
variable {X:Cx} {pins:List (Addr×Obj)} {σ:St} {H:Hp} {s:Shared} {a:Addr} {xs ys:List V}
theorem gm.of {K:IU} (h:H a=some (.lst xs)):gm K H a xs:=.inl (.inl h)
theorem jy.of {K:IU} (h:H a=some (.tup xs)):jy K H a xs:=.inl (.inl h)
theorem Inv.list (I:Inv X pins σ H s) (h:gm X.K H a xs):∃its:List Value,aQ xs its/\PlainL s.heap a its.toArray/\xs.length<=sizeLine:=by
 rcases h with h|⟨o,its,n,hk,hc,hd,hs,hz,r⟩
 ·obtain ⟨z,its,n,r,e⟩:=h.ok I.hok
  exact ⟨its,r,⟨_,n,e,rfl,rfl,rfl⟩,z⟩
 ·refine ⟨its.toList,r,⟨o,n,I.kIn a o hk,hc,hd,by simpa using hs⟩,?_⟩
  have e:=r.length
  simp only [Array.length_toList] at e
  lia
theorem Inv.tuple (I:Inv X pins σ H s) (h:jy X.K H a xs):∃its:List Value,aQ xs its/\IsTup s.heap a its.toArray/\xs.length<=sizeLine:=by
 rcases h with h|⟨o,its,n,hk,hc,hs,hz,r⟩
 ·obtain ⟨z,its,r,p⟩:=h.ok I.hok
  exact ⟨its,r,p,z⟩
 ·refine ⟨its.toList,r,⟨o,I.kIn a o hk,hc,n,by simpa using hs⟩,?_⟩
  have e:=r.length
  simp only [Array.length_toList] at e
  lia
theorem Inv.list_inj (I:Inv X pins σ H s) (h:gm X.K H a xs) (h':gm X.K H a ys):xs=ys:=by
 obtain ⟨its,r,⟨o,n,e,_,_,d⟩,_⟩:=I.list h
 obtain ⟨its',r',⟨o',n',e',_,_,d'⟩,_⟩:=I.list h'
 rw [e] at e'; cases e'
 rw [d] at d'
 injection d' with d1 _
 have:its=its':=by simpa using congrArg Array.toList d1
 subst this
 exact r.inj r'
theorem Inv.tuple_inj (I:Inv X pins σ H s) (h:jy X.K H a xs) (h':jy X.K H a ys):xs=ys:=by
 obtain ⟨its,r,⟨o,e,_,n,d⟩,_⟩:=I.tuple h
 obtain ⟨its',r',⟨o',e',_,n',d'⟩,_⟩:=I.tuple h'
 rw [e] at e'; cases e'
 rw [d] at d'
 injection d' with d1 _
 have:its=its':=by simpa using congrArg Array.toList d1
 subst this
 exact r.inj r'
end
noncomputable abbrev Cx.wish (X:Cx) (E:Value->Shared->Prop):Cx:={ X with xe:=E }
noncomputable abbrev Cx.nox (X:Cx):Cx:=X.wish fun _ _=>False
theorem Cx.Ok.wish {X:Cx} (ok:X.Ok) (E:Value->Shared->Prop):(X.wish E).Ok:=
 ⟨ok.mod,ok.kind,ok.glob,ok.blt,ok.above,ok.inj,ok.has,ok.cab,ok.hd,ok.frames,ok.stk,ok.exf,ok.bs,ok.bsz,ok.noex,ok.exfs,ok.funs,ok.frf⟩
theorem Cx.Ok.unwish {X:Cx} {E:Value->Shared->Prop} (ok:(X.wish E).Ok):X.Ok:=
 ⟨ok.mod,ok.kind,ok.glob,ok.blt,ok.above,ok.inj,ok.has,ok.cab,ok.hd,ok.frames,ok.stk,ok.exf,ok.bs,ok.bsz,ok.noex,ok.exfs,ok.funs,ok.frf⟩
section
variable {X:Cx} {pins:List (Addr×Obj)} {σ:St} {H:Hp} {s:Shared} {E:Value->Shared->Prop}
theorem Inv.wish (I:Inv X pins σ H s) (E:Value->Shared->Prop):Inv (X.wish E) pins σ H s:=⟨I.ok.wish E,I.os,I.bare,I.base,I.loc,I.cell,I.free,I.freeC,I.pin,I.hok,I.len⟩
theorem Inv.unwish (I:Inv (X.wish E) pins σ H s):Inv X pins σ H s:=⟨I.ok.unwish,I.os,I.bare,I.base,I.loc,I.cell,I.free,I.freeC,I.pin,I.hok,I.len⟩
theorem SP.unwish {D:Ends} {f:Flow} {s':Shared} (h:SP (X.wish E) pins D f s'):SP X pins D f s':=by
 cases f with
 |next=>obtain ⟨σ',H',I,q⟩:=h; exact ⟨σ',H',I.unwish,q⟩
 |brk=>obtain ⟨σ',H',I,q⟩:=h; exact ⟨σ',H',I.unwish,q⟩
 |cont=>obtain ⟨σ',H',I,q⟩:=h; exact ⟨σ',H',I.unwish,q⟩
 |ret u=>obtain ⟨v,σ',H',I,r,q⟩:=h; exact ⟨v,σ',H',I.unwish,r,q⟩
theorem sh.nox {st:List Stmt} {t:TS} (h:sh X.nox st t):sh X st t:=fun pins s σ H D I hw=>
 wpAny_mono (h pins s σ H D (I.wish _) hw) (fun _ _ q=>q.unwish) fun _ _ z=>False.elim z
end
section
variable {X:Cx} {st:Stmt} {bN:List Stmt} {t u:TS} {e:Expr} {te:TE} {pos:Pos}
noncomputable def FH:TS:=fun D σ H=>D.nx σ H
noncomputable def Hk (t u:TS):TS:=fun D σ H=>t { D with nx:=u D } σ H
theorem q9:sh X [] FH:=fun _ _ σ H _ I h=>wpAny_execs_nil ⟨σ,H,I,h⟩
theorem kj (h1:PS X st t) (h2:sh X bN u):sh X (st::bN) (Hk t u):=by
 intro pins s σ H D I h
 refine wpAny_execs_cons (cJ (h1 pins s σ H { D with nx:=u D } I h) fun f s1 q=>?_)
 cases f with
 |next=>
  obtain ⟨σ',H',I',q⟩:=q
  exact h2 pins s1 σ' H' D I' q
 |ret v=>exact q
 |brk=>exact q
 |cont=>exact q
theorem km (h1:PS X st t):sh X [st] t:=by
 intro pins s σ H D I h
 refine wpAny_execs_cons (cJ (h1 pins s σ H D I h) fun f s1 q=>?_)
 cases f with
 |next=>exact wpAny_execs_nil q
 |ret v=>exact q
 |brk=>exact q
 |cont=>exact q
theorem Inv.quiet {pins:List (Addr×Obj)} {σ:St} {H:Hp} {s:Shared} (I:Inv X pins σ H s):interactive X.env=false:=by simp [interactive,I.ok.kind]
noncomputable def FJ (te:TE):TS:=fun D σ H=>te σ H fun _ H1=>D.nx σ H1
theorem kn (he:PE X e te) (hs:swapsWith e none pos.line X.env=pure false:=by rfl):PS X (.Expr e pos) (FJ te):=by
 intro pins s σ H D I h
 exact wpAny_Expr_any (cJ (he pins s σ H _ I h) fun v s1 ⟨x,H1,I1,r1,q1⟩=>⟨σ,H1,I1,q1⟩) I.quiet hs
noncomputable def G9 (te:TE):TS:=fun D σ H=>te σ H D.rt
theorem AN (he:PE X e te):PS X (.Return (some e) pos) (G9 te):=by
 intro pins s σ H D I h
 exact wpAny_Return_some (cJ (he pins s σ H _ I h) fun v s1 ⟨x,H1,I1,r1,q1⟩=>⟨x,σ,H1,I1,r1,q1⟩)
noncomputable def Ht (c:TT) (t u:TS):TS:=fun D σ H=>c σ H fun b H1=>if b=true then t D σ H1 else u D σ H1
theorem Av {c:Expr} {a b:List Stmt} {tc:TT} (hc:PT X c tc) (ha:sh X a t) (hb:sh X b u):PS X (.If c a b pos) (Ht tc t u):=by
 intro pins s σ H D I h
 refine wpAny_If (cJ (hc pins s σ H _ I h) fun d s1 ⟨H1,I1,q1⟩=>?_)
 cases d with
 |true=>exact ha pins s1 σ H1 D I1 q1
 |false=>exact hb pins s1 σ H1 D I1 q1
end
noncomputable abbrev TG:=V->St->Hp->(St->Hp->Prop)->Prop
noncomputable abbrev AR:=List V->St->Hp->(St->Hp->Prop)->Prop
noncomputable def PG (X:Cx) (target:Expr) (t:TG):Prop:=
 ∀(pins:List (Addr×Obj)) (s:Shared) (σ:St) (H:Hp) (v:V) (u:Value) (Q:St->Hp->Prop),Inv X pins σ H s->bM v u->t v σ H Q ->
  wpAny (model X.prog X.w) X.A (assign target X.env u) (fun _ s'=>∃σ' H',Inv X pins σ' H' s'/\Q σ' H') X.xe s
noncomputable def GX (X:Cx) (ts:List Expr) (t:AR):Prop:=
 ∀(pins:List (Addr×Obj)) (s:Shared) (σ:St) (H:Hp) (vs:List V) (us:List Value) (Q:St->Hp->Prop),Inv X pins σ H s->aQ vs us->t vs σ H Q ->
  wpAny (model X.prog X.w) X.A (assignInOrder ((assignEach ts X.env).map (·.2)) us) (fun _ s'=>∃σ' H',Inv X pins σ' H' s'/\Q σ' H') X.xe s
section
variable {X:Cx} {pos:Pos}
noncomputable def wH (i:Nat):TG:=fun v σ H Q=>Q (σ.set i (some v)) H
theorem aT {i:Nat} {x:Str} (hN:X.N.Nodup) (hi:X.N[i]?=some x) (hx:GH X.env.scope x) (hf:X.fn x=true\/X.env.scope.names.lookup x=some .local:=by first|exact .inl rfl|exact .inr rfl|assumption):PG X (.Name x pos) (wH i):=by
 intro pins s σ H v u Q I r h
 exact wpAny_assign_Name (nO I hN hi hx r (fun s' I'=>⟨_,H,I',h⟩) hf)
noncomputable def Gh:AR:=fun vs σ H Q=>vs=[]/\Q σ H
noncomputable def CS (t:TG) (u:AR):AR:=fun vs σ H Q=>∃v r,vs=v::r/\t v σ H fun σ' H'=>u r σ' H' Q
theorem rB:GX X [] Gh:=by
 intro pins s σ H vs us Q I r h
 obtain ⟨e,h⟩:=h
 subst e
 cases r
 exact assignInOrder_nil ⟨σ,H,I,h⟩
theorem gg {e:Expr} {es:List Expr} {t:TG} {u:AR} (h1:PG X e t) (h2:GX X es u)
  (hs:(assignEach (e::es) X.env).map (·.2)=assign e X.env::(assignEach es X.env).map (·.2):=by rfl):GX X (e::es) (CS t u):=by
 intro pins s σ H vs us Q I r h
 obtain ⟨v,vr,e1,h⟩:=h
 subst e1
 cases r with
 |cons r rr=>
  rw [hs]
  refine assignInOrder_cons (cJ (h1 pins s σ H _ _ _ I r h) fun _ s1 ⟨σ1,H1,I1,q1⟩=>?_)
  exact h2 pins s1 σ1 H1 _ _ Q I1 rr q1
noncomputable def GD (K:IU) (n:Nat) (t:AR):TG:=fun v σ H Q=>∃a xs,v=.ref a/\jy K H a xs/\xs.length=n/\t xs σ H Q
theorem vc {es:List Expr} {k:Nat} {t:AR} {n:Nat} (hc:X.calm=true) (h:GX X es t)
  (hn:(assignEach es X.env).length=n:=by rfl) (hst:(assignEach es X.env).findIdx? (·.1)=none:=by rfl):PG X (.Tuple es k pos) (GD X.K n t):=by
 intro pins s σ H v u Q I r hw
 obtain ⟨a,xs,e1,hq,hl,hw⟩:=hw
 subst e1
 cases r
 obtain ⟨its,rv,ht,hz⟩:=I.tuple hq
 refine assign_Tuple_tuple (I.ok.hd hc) ht (by simp [hn,<-hl,rv.length]) hst fun h' hx=>?_
 have I1:Inv X pins σ H { s with heap:=h' }:=I.kept (t':=s.toks) fun b o e=>hx b o (Nat.ne_of_lt (IM e)) e
 exact h pins _ σ H xs _ Q I1 (by simpa using rv) hw
noncomputable def Ep (te:TE) (g:TG):TS:=fun D σ H=>te σ H fun x H1=>g x σ H1 D.nx
theorem DO {tg e:Expr} {te:TE} {g:TG} (he:PE X e te) (hg:PG X tg g) (hs:swapsWithSole [tg] e pos.line X.env=pure false:=by rfl) (hw:swappedStores [tg] e X.env=pure none:=by rfl)
  (h1:(assignEach [tg] X.env).map (·.2)=[assign tg X.env]:=by rfl):PS X (.Assign [tg] e pos) (Ep te g):=by
 intro pins s σ H D I h
 refine wpAny_Assign_stores (cJ (he pins s σ H _ I h) fun v s1 ⟨x,H1,I1,r1,q1⟩=>?_) hs hw
 rw [h1]
 exact cJ (hg pins s1 σ H1 x v _ I1 r1 q1) fun _ s2 q=>q
theorem EU {i:Nat} {x:Str} {e:Expr} {te:TE} {pos':Pos} (hN:X.N.Nodup) (hi:X.N[i]?=some x) (hx:GH X.env.scope x) (he:PE X e te) (hs:swapsWith e (some (.Name x pos')) pos.line X.env=pure false:=by rfl) (hf:X.fn x=true\/X.env.scope.names.lookup x=some .local:=by first|exact .inl rfl|exact .inr rfl|assumption) :
  PS X (.Assign [.Name x pos'] e pos) (Ep te (wH i)):=by
 intro pins s σ H D I h
 refine wpAny_Assign_Name (cJ (he pins s σ H _ I h) fun v s1 ⟨y,H1,I1,r1,q1⟩=>?_) hs
 exact nO I1 hN hi hx r1 (fun s2 I2=>⟨_,H1,I2,q1⟩) hf
end
section
variable {X:Cx} {pos:Pos}
end
structure It where
 go:Nat->Hp->Prop
 yld:Nat->Hp->V->Hp->Prop
 stop:Nat->Hp->Prop
noncomputable def mP (X:Cx) (pins:List (Addr×Obj)) (H:Hp) (b:Addr):Prop:=
 H b=none/\b≠X.env.locals/\b∉X.fs/\(b∈X.ex\/X.s₀.heap.objs.size<=b)/\(∀x c,X.env.cells.lookup x=some c->c≠b)/\∀p∈X.pn++pins,p.1≠b
theorem Inv.fpOk {X:Cx} {pins:List (Addr×Obj)} {σ:St} {H H':Hp} {s:Shared} {b:Addr} (I:Inv X pins σ H s) (hb:s.heap.objs.size<=b) (hn:H' b=none):mP X pins H' b:=by
 refine ⟨hn,Nat.ne_of_gt (Nat.lt_of_lt_of_le I.lt hb),I.nofs hb,.inr (Nat.le_trans I.sz hb),fun x c e z=>?_,fun p hp z=>?_⟩
 ·obtain ⟨v,q⟩:=I.cell x c e
  exact absurd (Nat.lt_of_lt_of_le q.lt (by rw [z]; exact hb)) (Nat.lt_irrefl _)
 ·exact absurd (Nat.lt_of_lt_of_le (IM (I.pin p hp).1) (by rw [z]; exact hb)) (Nat.lt_irrefl _)
structure Turn (P:Program) (w:World) (K:IU) (tg:Expr) (J:It) (fp:List Addr) (it:Addr) (tn:Nat->Heap->Prop):Prop where
 mem:it∈fp
 obj:∀i h,tn i h->∀b∈fp,∃o,h.get? b=some o/\∀v,o.data≠.cell v
 keep:∀i h h',tn i h->(∀b∈fp,∀o,h.get? b=some o->h'.get? b=some o)->tn i h'
 item:∀(X:Cx),X.prog=P->X.w=w->X.K=K->X.calm=true->∀(i:Nat) (pins:List (Addr×Obj)) (s:Shared) (σ:St) (H:Hp) (E:Value->Shared->Prop),Inv X pins σ H s->(∀b∈fp,mP X pins H b)->tn i s.heap->J.go i H ->
  wpAny (model P w) X.A (pyNext (.ref it)) (fun r s1=>∃u,r=some u /\
   wpAny (model P w) X.A (letOwnedTupleGo tg (.ref it) u) (fun _ s2=>∃x H',Inv X pins σ H' s2/\bM x u/\J.yld i H x H'/\tn (i+1) s2.heap/\∀b∈fp,H' b=none) E s1) E s
 done:∀(X:Cx),X.prog=P->X.w=w->X.K=K->X.calm=true->∀(i:Nat) (pins:List (Addr×Obj)) (s:Shared) (σ:St) (H:Hp) (E:Value->Shared->Prop),Inv X pins σ H s->(∀b∈fp,mP X pins H b)->tn i s.heap->J.stop i H ->
  wpAny (model P w) X.A (pyNext (.ref it)) (fun r s1=>r=none/\Inv X pins σ H s1) E s
 self:∀(A:Around) (i:Nat) (s:Shared) (Q:Value->Shared->Prop) (E:Value->Shared->Prop),tn i s.heap->Q (.ref it) s->wpAny (model P w) A (pyIter (.ref it)) Q E s
noncomputable abbrev TI:=St->Hp->(It->Hp->Prop)->Prop
noncomputable def Ie (X:Cx) (pins:List (Addr×Obj)) (σ:St) (tg:Expr) (R:It->Hp->Prop) (itv:Value) (s2:Shared):Prop:=
 ∃(it:Addr) (fp:List Addr) (tn:Nat->Heap->Prop) (J:It) (H':Hp),itv=.ref it/\Inv X pins σ H' s2/\Turn X.prog X.w X.K tg J fp it tn/\tn 0 s2.heap/\(∀b∈fp,mP X pins H' b)/\R J H'
noncomputable def PI (X:Cx) (tg iter:Expr) (wi:TI):Prop:=
 ∀(pins:List (Addr×Obj)) (s:Shared) (σ:St) (H:Hp) (R:It->Hp->Prop),Inv X pins σ H s->wi σ H R ->
  wpAny (model X.prog X.w) X.A (eval iter X.env) (fun v s1=>wpAny (model X.prog X.w) X.A (pyIter v) (Ie X pins σ tg R) X.xe s1) X.xe s
theorem zP {M:Model} {A:Around} {E:Value->Shared->Prop} {s:Shared} {tg:Expr} {it:Addr} {u:Value} {o:Obj} {n:String} {vs:Array Value} {Q:Unit->Shared->Prop} (ho:s.heap.get? it=some o) (hc:o.cls=.type n) (hd:o.data=.fields vs)
  (hn:["enumerate", "zip", "dict_itemiterator", "dict_reverseitemiterator", "odict_iterator", "itertools.zip_longest", "itertools.pairwise"].contains n=false) (hQ:Q () s):wpAny M A (letOwnedTupleGo tg (.ref it) u) Q E s:=by
 unfold letOwnedTupleGo
 cases tg <;> first
  |exact IL hQ
  |(cases u <;> first
    |exact IL hQ
    |(refine IK (wpAny_load ho ?_); rw [hc,hd]; show wpAny M A (if (["enumerate", "zip", "dict_itemiterator", "dict_reverseitemiterator", "odict_iterator", "itertools.zip_longest", "itertools.pairwise"].contains n&&vs[0]?==some (rawInt _))=true then _ else _) Q E s; rw [if_neg (by intro h; rw [hn,Bool.false_and] at h; cases h)]; exact IL hQ))
noncomputable def HK (K:IU) (a:Addr):It:=
 ⟨fun i H=>∃xs x,gm K H a xs/\xs[i]?=some x,fun i H x H'=>H'=H/\∀xs,gm K H a xs->xs[i]?=some x,fun i H=>∃xs,gm K H a xs/\xs.length<=i⟩
noncomputable def HV (K:IU) (a:Addr):It:=
 ⟨fun i H=>∃xs x,jy K H a xs/\xs[i]?=some x,fun i H x H'=>H'=H/\∀xs,jy K H a xs->xs[i]?=some x,fun i H=>∃xs,jy K H a xs/\xs.length<=i⟩
noncomputable def Gp (lo:Int) (n:Nat):It:=⟨fun i _=>i<n,fun i H x H'=>H'=H/\x=.int (lo+i),fun i _=>n<=i⟩
theorem xo {P:Program} {w:World} {K:IU} {tg:Expr} (a it:Addr):Turn P w K tg (HK K a) [it] it (fun i h=>h.IsListIter it a i) where
 mem:=by simp
 obj:=fun i h st b hb=>by
  have e:b=it:=by simpa using hb
  subst e
  obtain ⟨o,e,c,d⟩:=st
  exact ⟨o,e,fun v z=>by rw [d] at z; cases z⟩
 keep:=fun i h h' st k=>st.at fun o e=>k it 0x4 o e
 item:=by
  intro X hP hw hK hc i pins s σ H E I hf st hg
  subst hP hw hK
  obtain ⟨xs,x,hq,hx⟩:=hg
  obtain ⟨its,rv,p,hz⟩:=I.list hq
  obtain ⟨u,hu,ru⟩:=rv.get hx
  obtain ⟨f0,f1,f2,f3,f4,f5⟩:=hf it 0x4
  refine wpAny_pyNext_list_item st p.isList (x:=u) (by simpa using hu) fun h' st' sb=>?_
  have I1:Inv X pins σ H { s with heap:=h' }:=I.turned (t':=s.toks) (fun b o hb e=>(sb.2 b hb).trans e) f0 f1 f3 f4 f5
  obtain ⟨o,e,c,d⟩:=id st'
  exact ⟨u,rfl,zP (s:={ s with heap:=h' }) e c d 0x3 ⟨x,H,I1,ru,⟨rfl,fun ys hy=>by rw [I.list_inj hy hq]; exact hx⟩,st',fun b hb=>(hf b hb).1⟩⟩
 done:=by
  intro X hP hw hK hc i pins s σ H E I hf st hg
  subst hP hw hK
  obtain ⟨xs,hq,hx⟩:=hg
  obtain ⟨its,rv,p,hz⟩:=I.list hq
  obtain ⟨f0,f1,f2,f3,f4,f5⟩:=hf it 0x4
  have hl:=rv.length
  exact wpAny_pyNext_list_end (I.ok.hd hc) st p.isList (by simp; lia) fun h' eb=>⟨rfl,I.turned (t':=s.toks) (fun b o hb e=>eb b o hb e) f0 f1 f3 f4 f5⟩
 self:=fun _ _ _ _ _ st h=>wpAny_pyIter_listiter st h
theorem uQ {P:Program} {w:World} {K:IU} {tg:Expr} (a it:Addr):Turn P w K tg (HV K a) [it] it (fun i h=>h.IsTupleIter it a i) where
 mem:=by simp
 obj:=fun i h st b hb=>by
  have e:b=it:=by simpa using hb
  subst e
  obtain ⟨o,e,c,d⟩:=st
  exact ⟨o,e,fun v z=>by rw [d] at z; cases z⟩
 keep:=fun i h h' st k=>st.at fun o e=>k it 0x4 o e
 item:=by
  intro X hP hw hK hc i pins s σ H E I hf st hg
  subst hP hw hK
  obtain ⟨xs,x,hq,hx⟩:=hg
  obtain ⟨its,rv,p,hz⟩:=I.tuple hq
  obtain ⟨u,hu,ru⟩:=rv.get hx
  obtain ⟨f0,f1,f2,f3,f4,f5⟩:=hf it 0x4
  refine wpAny_pyNext_tuple_item st (show s.heap.IsTuple a its.toArray from p) (x:=u) (by simpa using hu) fun h' st' sb=>?_
  have I1:Inv X pins σ H { s with heap:=h' }:=I.turned (t':=s.toks) (fun b o hb e=>(sb.2 b hb).trans e) f0 f1 f3 f4 f5
  obtain ⟨o,e,c,d⟩:=id st'
  exact ⟨u,rfl,zP (s:={ s with heap:=h' }) e c d 0x3 ⟨x,H,I1,ru,⟨rfl,fun ys hy=>by rw [I.tuple_inj hy hq]; exact hx⟩,st',fun b hb=>(hf b hb).1⟩⟩
 done:=by
  intro X hP hw hK hc i pins s σ H E I hf st hg
  subst hP hw hK
  obtain ⟨xs,hq,hx⟩:=hg
  obtain ⟨its,rv,p,hz⟩:=I.tuple hq
  obtain ⟨f0,f1,f2,f3,f4,f5⟩:=hf it 0x4
  have hl:=rv.length
  exact wpAny_pyNext_tuple_end (I.ok.hd hc) st (show s.heap.IsTuple a its.toArray from p) (by simp; lia) fun h' eb=>⟨rfl,I.turned (t':=s.toks) (fun b o hb e=>eb b o hb e) f0 f1 f3 f4 f5⟩
 self:=fun _ _ _ _ _ st h=>wpAny_pyIter_tupleiter st h
theorem uv {P:Program} {w:World} {K:IU} {tg:Expr} (it:Addr) (lo:Int) (n:Nat):Turn P w K tg (Gp lo n) [it] it (fun i h=>IsRangeIter h it (lo+(i:Nat)*1) ((n:Int)-(i:Nat)) 1) where
 mem:=by simp
 obj:=fun i h st b hb=>by
  have e:b=it:=by simpa using hb
  subst e
  exact ⟨_,st,fun v z=>by
   have z':Data.fields _=Data.cell v:=z
   cases z'⟩
 keep:=fun i h h' st k=>k it 0x4 _ st
 item:=by
  intro X hP hw hK hc i pins s σ H E I hf st hg
  subst hP hw hK
  obtain ⟨f0,f1,f2,f3,f4,f5⟩:=hf it 0x4
  have W:=Walks.range (prog:=X.prog) (w:=X.w) (I.ok.hd hc) it lo 1 n
  refine W.item i s _ _ hg st fun v h' tk hv st' kk=>?_
  obtain ⟨t,rfl⟩:=hv
  have I1:Inv X pins σ H { s with heap:=h',toks:=tk }:=I.turned (fun b o hb e=>kk b o (by simpa using hb) e) f0 f1 f3 f4 f5
  refine ⟨_,rfl,zP (s:={ s with heap:=h',toks:=tk }) (n:= "range_iterator") st' rfl rfl 0x3 ⟨.int (lo+i),H,I1,⟨t,?_⟩,⟨rfl,rfl⟩,st',fun b hb=>(hf b hb).1⟩⟩
  rw [Int.mul_one]
 done:=by
  intro X hP hw hK hc i pins s σ H E I hf st hg
  subst hP hw hK
  obtain ⟨f0,f1,f2,f3,f4,f5⟩:=hf it 0x4
  exact wpAny_pyNext_range_end (I.ok.hd hc) st (by have:n<=i:=hg; lia) fun h' eb=>⟨rfl,I.turned (t':=s.toks) (fun b o hb e=>eb b o hb e) f0 f1 f3 f4 f5⟩
 self:=fun _ _ _ _ _ st h=>wpAny_pyIter_rangeiter st h
section
variable {X:Cx} {tg:Expr}
noncomputable def FZ (K:IU) (tl:TE):TI:=fun σ H R=>tl σ H fun x H1=>∃a,x=.ref a/\(∃xs,gm K H1 a xs)/\R (HK K a) H1
noncomputable def HN (K:IU) (tl:TE):TI:=fun σ H R=>tl σ H fun x H1=>∃a,x=.ref a/\(∃xs,jy K H1 a xs)/\R (HV K a) H1
theorem CD {l:Expr} {tl:TE} (hl:PE X l tl):PI X tg l (FZ X.K tl):=by
 intro pins s σ H R I h
 refine cJ (hl pins s σ H _ I h) fun v s1 ⟨x,H1,I1,r1,q1⟩=>?_
 obtain ⟨a,e,⟨xs,hq⟩,q⟩:=q1
 subst e
 cases r1
 obtain ⟨its,rv,p,hz⟩:=I1.list hq
 refine wpAny_pyIter_list p.isList ?_
 refine ⟨s1.heap.objs.size,[s1.heap.objs.size],_,_,H1,rfl,I1.kept (t':=s1.toks) fun b o e=>IG _ e,xo a _,⟨_,Heap.get?_push_size _ rfl,rfl,rfl⟩,fun b hb=>?_,q⟩
 have e:b=s1.heap.objs.size:=by simpa using hb
 subst e
 exact I1.fpOk (IJ _) (I1.hok.fresh (IJ _))
theorem Fo {l:Expr} {tl:TE} (hl:PE X l tl):PI X tg l (HN X.K tl):=by
 intro pins s σ H R I h
 refine cJ (hl pins s σ H _ I h) fun v s1 ⟨x,H1,I1,r1,q1⟩=>?_
 obtain ⟨a,e,⟨xs,hq⟩,q⟩:=q1
 subst e
 cases r1
 obtain ⟨its,rv,p,hz⟩:=I1.tuple hq
 refine wpAny_pyIter_tuple (show s1.heap.IsTuple a its.toArray from p) ?_
 refine ⟨s1.heap.objs.size,[s1.heap.objs.size],_,_,H1,rfl,I1.kept (t':=s1.toks) fun b o e=>IG _ e,uQ a _,⟨_,Heap.get?_push_size _ rfl,rfl,rfl⟩,fun b hb=>?_,q⟩
 have e:b=s1.heap.objs.size:=by simpa using hb
 subst e
 exact I1.fpOk (IJ _) (I1.hok.fresh (IJ _))
theorem tJ {pins:List (Addr×Obj)} {σ:St} {H:Hp} {s:Shared} {R:It->Hp->Prop} {E:Value->Shared->Prop} {lo hi:Int} {t u v:Tok} {tk:Nat} (I:Inv X pins σ H s) (h1:-(2 ^ 62)<=lo) (h2:lo<2 ^ 62) (h3:-(2 ^ 62)<=hi) (h4:hi<2 ^ 62)
  (q:R (Gp lo (hi-lo).toNat) H):wpAny (model X.prog X.w) X.A (pyIter (.ref s.heap.objs.size)) (Ie X pins σ tg R) E { s with heap:=s.heap.push { cls:=.type "range",data:=.fields #[.int lo t,.int hi u,.int 1 v] },toks:=tk }:=by
 refine wpAny_pyIter_range (IsRange.new ..) (small_one h1 h2 h3 h4) ?_
 have I1:Inv X pins σ H { s with heap:=s.heap.push { cls:=.type "range",data:=.fields #[.int lo t,.int hi u,.int 1 v] },toks:=tk }:=I.kept fun b o e=>IG _ e
 refine ⟨(s.heap.push { cls:=.type "range",data:=.fields #[.int lo t,.int hi u,.int 1 v] }).objs.size,[(s.heap.push { cls:=.type "range",data:=.fields #[.int lo t,.int hi u,.int 1 v] }).objs.size],_,_,H,rfl,
  I1.kept (t':=tk) fun b o e=>IG _ e,uv _ lo (hi-lo).toNat,?_,fun b hb=>?_,q⟩
 ·have e1:lo+((0:Nat):Int)*1=lo:=by simp
  have e2:(((hi-lo).toNat:Nat):Int)-((0:Nat):Int)=Builtin.Range.rangeSize lo hi 1:=by rw [rangeSize_one]; split <;> lia
  show IsRangeIter _ _ (lo+((0:Nat):Int)*1) ((((hi-lo).toNat:Nat):Int)-((0:Nat):Int)) 1
  rw [e1,e2]
  exact Heap.get?_push_size _ rfl
 ·have e:b=(s.heap.push { cls:=.type "range",data:=.fields #[.int lo t,.int hi u,.int 1 v] }).objs.size:=by simpa using hb
  subst e
  exact I1.fpOk (IJ _) (I1.hok.fresh (IJ _))
noncomputable def FA (ta:TA):TI:=fun σ H R=>ta σ H fun vs H1=>∃j:Int,vs=[.int j]/\-(2 ^ 62)<=j/\j<2 ^ 62/\R (Gp 0 j.toNat) H1
noncomputable def GC (ta:TA):TI:=fun σ H R=>ta σ H fun vs H1=>∃i j:Int,vs=[.int i,.int j]/\(-(2 ^ 62)<=i/\i<2 ^ 62/\-(2 ^ 62)<=j/\j<2 ^ 62)/\R (Gp i (j-i).toNat) H1
theorem xG {a:Expr} {ta:TA} {p pos:Pos} (hg:Gl X "range") (hm:X.mg "range" = none) (ha:PA X [a] ta) (hs:starEach [a] X.env=[(false,eval a X.env)]:=by rfl):PI X tg (.Call (.Name "range" p) [a] [] pos) (FA ta):=by
 intro pins s σ H R I h
 refine Call_ (jZ I hg hm boot_range (PyProof.Rows.callWith_type1 (cJ (ha pos pins s σ H _ I h) fun us s1 ⟨vs,H1,I1,r1,q1⟩=>?_) hs rfl))
 obtain ⟨j,e,q1,q2,q⟩:=q1
 subst e
 cases r1 with
 |cons r rr=>
  cases rr
  obtain ⟨t,rfl⟩:=r
  exact call_range_1 (tJ I1 0x1 0x1 q1 q2 (by simpa using q))
theorem xV {a b:Expr} {ta:TA} {p pos:Pos} (hg:Gl X "range") (hm:X.mg "range" = none) (ha:PA X [a,b] ta) (hs:starEach [a,b] X.env=[(false,eval a X.env),(false,eval b X.env)]:=by rfl) (hs2:starEach [b] X.env=[(false,eval b X.env)]:=by rfl) :
  PI X tg (.Call (.Name "range" p) [a,b] [] pos) (GC ta):=by
 intro pins s σ H R I h
 refine Call_ (jZ I hg hm boot_range (PyProof.Rows.callWith_type1 (cJ (ha pos pins s σ H _ I h) fun us s1 ⟨vs,H1,I1,r1,q1⟩=>?_) (by rw [hs,hs2]) (by rw [hs2]; rfl)))
 obtain ⟨i,j,e,⟨q1,q2,q3,q4⟩,q⟩:=q1
 subst e
 cases r1 with
 |cons r rr=>
  cases rr with
  |cons r' rr=>
   cases rr
   obtain ⟨t,rfl⟩:=r
   obtain ⟨t',rfl⟩:=r'
   exact call_range_2 (tJ I1 q1 q2 q3 q4 q)
noncomputable def HP (wi:TI) (g:TG) (tb:TS):TS:=fun D σ H=>wi σ H fun J H1=>∃W:Nat->Nat->St->Hp->Prop,(∃m,W 0 m σ H1)/\∀i m σ H,W i m σ H ->
 (J.stop i H/\D.nx σ H)\/(J.go i H/\∃N:St->Hp->Prop,(∀σ' H',N σ' H'->∃m',m'<m/\W (i+1) m' σ' H')/\∀x H',J.yld i H x H'->g x σ H' fun σ2 H2=>tb { D with nx:=N,ct:=N,bk:=D.nx } σ2 H2)
noncomputable def lP (fp:List Addr) (h:Heap):List (Addr×Obj):=fp.filterMap fun b=>(h.get? b).map fun o=>(b,o)
theorem hV {fp:List Addr} {h:Heap} {b:Addr} {o:Obj} (hb:b∈fp) (e:h.get? b=some o):(b,o)∈lP fp h:=List.mem_filterMap.mpr ⟨b,hb,by rw [e]; rfl⟩
theorem xA {fp:List Addr} {h:Heap} {p:Addr×Obj} (hp:p∈lP fp h):p.1∈fp/\h.get? p.1=some p.2:=by
 obtain ⟨b,hb,e⟩:=List.mem_filterMap.mp hp
 cases q:h.get? b with
 |none=>rw [q] at e; cases e
 |some o=>
  rw [q] at e
  have e':(b,o)=p:=Option.some.inj e
  subst e'
  exact ⟨hb,q⟩
theorem Inv.pinned {pins:List (Addr×Obj)} {σ:St} {H:Hp} {s:Shared} {fp:List Addr} (I:Inv X pins σ H s) (hf:∀b∈fp,mP X pins H b) (ho:∀b∈fp,∃o,s.heap.get? b=some o/\∀v,o.data≠.cell v):Inv X (pins++lP fp s.heap) σ H s:=
 I.pins_of fun p hp=>(List.mem_append.mp hp).elim (fun z=>I.pin p (IH _ z)) fun z=>by
  obtain ⟨hb,e⟩:=xA z
  obtain ⟨f0,f1,f2,_⟩:=hf p.1 hb
  obtain ⟨o,e',d⟩:=ho p.1 hb
  rw [e] at e'; cases e'
  exact ⟨e,f0,f1,f2,d⟩
theorem Inv.unpinned {pins pl:List (Addr×Obj)} {σ:St} {H:Hp} {s:Shared} (I:Inv X (pins++pl) σ H s):Inv X pins σ H s:=I.pins_of fun p hp=>I.pin p (IH _ (II _ hp))
theorem E8 {iter:Expr} {body:List Stmt} {wi:TI} {g:TG} {tb:TS} {pos:Pos} (hp:PassesOwn (model X.prog X.w) X.A X.env X.xe) (hc:X.calm=true) (hi:PI X tg iter wi) (hg:PG X tg g) (hb:sh X body tb)
  (hs:∀x,foldedSetIterable iter X.env x=pure x:=by intro _; rfl):PS X (.For tg iter body [] pos) (HP wi g tb):=by
 intro pins s σ H D I h
 refine wpAny_For (cJ (hi pins s σ H _ I h) fun v s1 h1=>cJ h1 fun itv s2 h2=>?_) hs
 obtain ⟨it,fp,tn,J,H2,e,I2,T,st2,f2,W,⟨m0,w0⟩,turn⟩:=h2
 subst e
 have stat:∀{H':Hp},(∀b∈fp,H' b=none)->∀b∈fp,mP X pins H' b:=fun hn b hb=>⟨hn b hb,(f2 b hb).2⟩
 refine codeAny_forLoop_any (fun n s'=>∃i σ' H',Inv X pins σ' H' s'/\tn i s'.heap/\(∀b∈fp,H' b=none)/\W i n σ' H') ?_ m0 ⟨0,σ,H2,I2,st2,fun b hb=>(f2 b hb).1,w0⟩
 rintro n s3 ⟨i,σ3,H3,I3,st3,fr3,w3⟩
 rcases turn i n σ3 H3 w3 with ⟨stop,qn⟩|⟨go,N,hN,step⟩
 ·refine wpAny_passesOwn hp (cJ (T.done X rfl rfl rfl hc i pins s3 σ3 H3 X.xe I3 (stat fr3) st3 stop) fun r s4 ⟨hr,I4⟩=>?_)
  subst hr
  exact wpAny_execs_nil ⟨σ3,H3,I4,qn⟩
 ·refine wpAny_passesOwn hp (cJ (T.item X rfl rfl rfl hc i pins s3 σ3 H3 X.xe I3 (stat fr3) st3 go) fun r s4 ⟨u,hr,h4⟩=>?_)
  subst hr
  refine wpAny_passesOwn hp (cJ h4 fun _ s5 ⟨x,H5,I5,r5,y5,st5,fr5⟩=>?_)
  have I5':=I5.pinned (stat fr5) (T.obj _ _ st5)
  refine wpAny_passesOwn hp (cJ (hg _ s5 σ3 H5 x u _ I5' r5 (step x H5 y5)) fun _ s6 ⟨σ6,H6,I6,q6⟩=>?_)
  refine wpAny_passesOwn hp (cJ (hb _ s6 σ6 H6 _ I6 q6) fun f s7 q7=>?_)
  have again:∀{σ7:St} {H7:Hp},Inv X (pins++lP fp s5.heap) σ7 H7 s7->N σ7 H7->∃m,m<n/\∃i σ' H',Inv X pins σ' H' s7/\tn i s7.heap/\(∀b∈fp,H' b=none)/\W i m σ' H':=fun {σ7 H7} I7 n7=>by
   obtain ⟨m',hm,w7⟩:=hN σ7 H7 n7
   refine ⟨m',hm,i+1,σ7,H7,I7.unpinned,T.keep _ _ _ st5 fun b hb o e=>(I7.pin (b,o) (IH _ (IH _ (hV hb e)))).1,fun b hb=>?_,w7⟩
   obtain ⟨o,e,d⟩:=T.obj _ _ st5 b hb
   exact (I7.pin (b,o) (IH _ (IH _ (hV hb e)))).2.1
  cases f with
  |next=>obtain ⟨σ7,H7,I7,n7⟩:=q7; exact again I7 n7
  |cont=>obtain ⟨σ7,H7,I7,n7⟩:=q7; exact again I7 n7
  |brk=>obtain ⟨σ7,H7,I7,q7⟩:=q7; exact ⟨σ7,H7,I7.unpinned,q7⟩
  |ret v=>obtain ⟨x7,σ7,H7,I7,r7,q7⟩:=q7; exact ⟨x7,σ7,H7,I7.unpinned,r7,q7⟩
end
noncomputable abbrev R2:=V->V->Hp->VK->Prop
noncomputable def si (X:Cx) (f:Value->Value->Sem Value) (r:R2):Prop:=
 ∀(pins:List (Addr×Obj)) (s:Shared) (σ:St) (H:Hp) (x y:V) (v u:Value) (Q:VK),Inv X pins σ H s->bM x v->bM y u->r x y H Q ->
  wpAny (model X.prog X.w) X.A (f v u) (EP X pins σ Q) X.xe s
noncomputable def iA (X:Cx) (f:Value) (r:List V->Hp->VK->Prop):Prop:=
 ∀(pins:List (Addr×Obj)) (s:Shared) (σ:St) (H:Hp) (xs:List V) (us:List Value) (Q:VK),Inv X pins σ H s->aQ xs us->r xs H Q ->
  wpAny (model X.prog X.w) X.A (call f us) (EP X pins σ Q) X.xe s
noncomputable def HY (r:R2) (ta tb:TE):TE:=fun σ H Q=>ta σ H fun x H1=>tb σ H1 fun y H2=>r x y H2 Q
noncomputable def rI (C:Int->Int->Prop) (g:Int->Int->V):R2:=fun x y H Q=>∃i j,x=.int i/\y=.int j/\C i j/\Q (g i j) H
noncomputable def CA (g:Int->Int->V):R2:=fun x y H Q=>∃i j,x=.int i/\y=.int j/\Q (g i j) H
section
variable {X:Cx} {a b c:Expr} {ta tb tc:TE} {pos:Pos}
theorem Hm (ha:PE X a ta) (hb:PE X b tb) {pins:List (Addr×Obj)} {s:Shared} {σ:St} {H:Hp} {R:V->V->Hp->Prop} (I:Inv X pins σ H s)
  (h:ta σ H fun x H1=>tb σ H1 fun y H2=>R x y H2) {Q:Value->Shared->Prop} {f:Value->Value->Sem Value}
  (hf:∀v u s2 x y H2,Inv X pins σ H2 s2->bM x v->bM y u->R x y H2->wpAny (model X.prog X.w) X.A (f v u) Q X.xe s2) :
  wpAny (model X.prog X.w) X.A (eval a X.env) (fun v s₁=>wpAny (model X.prog X.w) X.A (eval b X.env) (fun u s₂=>wpAny (model X.prog X.w) X.A (f v u) Q X.xe s₂) X.xe s₁) X.xe s:=by
 refine cJ (ha pins s σ H _ I h) fun v s1 ⟨x,H1,I1,r1,q1⟩=>?_
 refine cJ (hb pins s1 σ H1 _ I1 q1) fun u s2 ⟨y,H2,I2,r2,q2⟩=>?_
 exact hf v u s2 x y H2 I2 r1 r2 q2
theorem HM {f:Value->Value->Sem Value} {C:Int->Int->Prop} {g:Int->Int->Int}
  (rule:∀(i j:Int) (t u:Tok) (s:Shared) (Q:Value->Shared->Prop) (E:Value->Shared->Prop),C i j->Q (.int (g i j) s.toks) { s with toks:=s.toks+1 }->wpAny (model X.prog X.w) X.A (f (.int i t) (.int j u)) Q E s) :
  si X f (rI C fun i j=>.int (g i j)):=by
 intro pins s σ H x y v u Q I rx ry h
 obtain ⟨i,j,rfl,rfl,hc,q⟩:=h
 obtain ⟨t,rfl⟩:=rx
 obtain ⟨t',rfl⟩:=ry
 exact rule i j t t' s _ _ hc ⟨.int (g i j),H,I.tok _,⟨_,rfl⟩,q⟩
theorem Fz {f:Value->Value->Sem Value} {g:Int->Int->Int}
  (rule:∀(i j:Int) (t u:Tok) (s:Shared) (Q:Value->Shared->Prop) (E:Value->Shared->Prop),Q (.int (g i j) s.toks) { s with toks:=s.toks+1 }->wpAny (model X.prog X.w) X.A (f (.int i t) (.int j u)) Q E s) :
  si X f (CA fun i j=>.int (g i j)):=by
 intro pins s σ H x y v u Q I rx ry h
 obtain ⟨i,j,rfl,rfl,q⟩:=h
 obtain ⟨t,rfl⟩:=rx
 obtain ⟨t',rfl⟩:=ry
 exact rule i j t t' s _ _ ⟨.int (g i j),H,I.tok _,⟨_,rfl⟩,q⟩
theorem CK {f:Value->Value->Sem Value} {g:Int->Int->Bool}
  (rule:∀(i j:Int) (t u:Tok) (s:Shared) (Q:Value->Shared->Prop) (E:Value->Shared->Prop),Q (.bool (g i j)) s->wpAny (model X.prog X.w) X.A (f (.int i t) (.int j u)) Q E s) :
  si X f (CA fun i j=>.bl (g i j)):=by
 intro pins s σ H x y v u Q I rx ry h
 obtain ⟨i,j,rfl,rfl,q⟩:=h
 obtain ⟨t,rfl⟩:=rx
 obtain ⟨t',rfl⟩:=ry
 exact rule i j t t' s _ _ ⟨.bl (g i j),H,I,rfl,q⟩
noncomputable def GO (i j:Int):Prop:=0<j/\j<1073741824
noncomputable def Cq (i j:Int):Prop:=(-(2 ^ 64)<i/\i<2 ^ 64)\/(-(2 ^ 64)<j/\j<2 ^ 64)
theorem Cq.ok {i j:Int} (h:Cq i j):IntMulOk i j:=by
 rcases h with ⟨h1,h2⟩|⟨h1,h2⟩
 ·exact .of_left (intBits_le_64 h1 h2)
 ·exact .of_right (intBits_le_64 h1 h2)
theorem Dx:si X (binaryOp .Add) (CA fun i j=>.int (i+j)):=Fz fun _ _ _ _ _ _ _ q=>add_int q
theorem EH:si X (binaryOp .Sub) (CA fun i j=>.int (i-j)):=Fz fun _ _ _ _ _ _ _ q=>sub_int q
theorem DR:si X (binaryOp .Mult) (rI Cq fun i j=>.int (i*j)):=HM fun _ _ _ _ _ _ _ hc q=>mul_int q hc.ok
theorem CL:si X (binaryOp .FloorDiv) (rI GO fun i j=>.int (i / j)):=HM fun i j _ _ _ _ _ hc q=>by
 have h1:(0:Int)<j:=hc.1
 have h2:j<1073741824:=hc.2
 exact floordiv_int 0x1 (by rw [Int.fdiv_eq_ediv_of_nonneg i 0x1]; exact q) (.inl (PyProof.noPylong_small 0x1))
theorem Fc:si X (binaryOp .Mod) (rI (fun _ j=>0<j) fun i j=>.int (i % j)):=HM fun i j _ _ _ _ _ hc q=>by
 have h1:(0:Int)<j:=hc
 exact mod_int' 0x1 (by rw [Int.fmod_eq_emod_of_nonneg i 0x1]; exact q)
end
section
variable {X:Cx} {a b c:Expr} {ta tb tc:TE} {pos:Pos}
theorem FK:si X (compareOp .Lt) (CA fun i j=>.bl (decide (i<j))):=CK fun _ _ _ _ _ _ _ q=>lt_int q
theorem Gq:si X (compareOp .LtE) (CA fun i j=>.bl (decide (i<=j))):=CK fun _ _ _ _ _ _ _ q=>le_int q
theorem Gy:si X (compareOp .Gt) (CA fun i j=>.bl (decide (j<i))):=CK fun _ _ _ _ _ _ _ q=>gt_int q
theorem Gx:si X (compareOp .GtE) (CA fun i j=>.bl (decide (j<=i))):=CK fun _ _ _ _ _ _ _ q=>ge_int q
theorem yD (b:Expr) {op:CmpOp} (h:op≠.In:=by decide) (h2:op≠.NotIn:=by decide):behindInMarks op b=false:=by
 have e1:(op==CmpOp.In)=false:=by cases op <;> first|rfl|exact absurd rfl h
 have e2:(op==CmpOp.NotIn)=false:=by cases op <;> first|rfl|exact absurd rfl h2
 cases b <;> simp [behindInMarks,e1,e2]
theorem qR:(sizeLine:Nat)<2 ^ 63:=by rw [sizeLine_eq]; decide
theorem oE {x:V} {us:List Value} (r:aQ [x] us):∃u,us=[u]/\bM x u:=by
 cases r with
 |cons r1 r2=>cases r2; exact ⟨_,rfl,r1⟩
theorem C4 {x y:V} {us:List Value} (r:aQ [x,y] us):∃u w',us=[u,w']/\bM x u/\bM y w':=by
 cases r with
 |cons r1 r2=>
  cases r2 with
  |cons r3 r4=>cases r4; exact ⟨_,_,rfl,r1,r3⟩
theorem xX (hc:X.calm=true):iA X (.builtin "max") (fun xs H Q=>∃i j,xs=[.int i,.int j]/\Q (.int (if j>i then j else i)) H):=by
 intro pins s σ H xs us Q I r h
 obtain ⟨i,j,rfl,q⟩:=h
 obtain ⟨u,w',rfl,⟨t,rfl⟩,⟨t',rfl⟩⟩:=C4 r
 refine max_two_ints (I.ok.hd hc) fun h' tk k=>⟨_,H,I.kept k,?_,q⟩
 by_cases hj:j>i
 ·rw [if_pos hj,if_pos hj]; exact ⟨_,rfl⟩
 ·rw [if_neg hj,if_neg hj]; exact ⟨_,rfl⟩
theorem xJ (hc:X.calm=true):iA X (.builtin "min") (fun xs H Q=>∃i j,xs=[.int i,.int j]/\Q (.int (if j<i then j else i)) H):=by
 intro pins s σ H xs us Q I r h
 obtain ⟨i,j,rfl,q⟩:=h
 obtain ⟨u,w',rfl,⟨t,rfl⟩,⟨t',rfl⟩⟩:=C4 r
 refine min_two_ints (I.ok.hd hc) fun h' tk k=>⟨_,H,I.kept k,?_,q⟩
 by_cases hj:j<i
 ·rw [if_pos hj,if_pos hj]; exact ⟨_,rfl⟩
 ·rw [if_neg hj,if_neg hj]; exact ⟨_,rfl⟩
theorem xN:iA X (.type "int") (fun xs H Q=>(∃i,xs=[.int i]/\Q (.int i) H)\/∃k,xs=[.bl k]/\Q (.int (if k then 1 else 0)) H):=by
 intro pins s σ H xs us Q I r h
 rcases h with ⟨i,rfl,q⟩|⟨k,rfl,q⟩
 ·obtain ⟨u,rfl,t,rfl⟩:=oE r
  exact call_int_int ⟨.int i,H,I,⟨_,rfl⟩,q⟩
 ·obtain ⟨u,rfl,r1⟩:=oE r
  cases r1
  exact call_int_bool ⟨.int (if k then 1 else 0),H,I.tok _,⟨_,rfl⟩,q⟩
end
structure ObjM (h:Heap) (x dx C:Addr) (mA:Str->Option Value):Prop where
 obj:h.get? x=some (PySem.W.instObj C dx)
 ns:h.Ns1 dx mA
 ne:dx≠x
theorem xH {h:Heap} {dx:Addr} {mA:Str->Option Value} (n:h.Ns1 dx mA):∃od,h.get? dx=some od/\∀name,PySem.W.lookIn name od=some (mA name):=by
 obtain ⟨o,es,ep,ho,hd,hk,_,hm⟩:=n
 refine ⟨o,ho,fun name=>?_⟩
 have e:=hm name
 unfold nsFind findBy at e
 rw [<-Array.find?_toList] at e
 unfold PySem.W.lookIn
 rw [hd]
 dsimp only
 split
 ·rename_i y q
  rw [q] at e
  exact congrArg some e
 ·rename_i q
  rw [q] at e
  have a:es.toList.any (·.refKey)=false:=by
   rw [List.any_eq_false]
   intro y hy
   obtain ⟨z,t,hkey⟩:=hk y (Array.mem_toList_iff.mp hy)
   simp [DictEntry.refKey,hkey]
  have a':¬es.toList.any (·.refKey)=true:=by rw [a]; exact Bool.false_ne_true
  rw [if_neg a']
  exact congrArg some e
theorem ObjM.look {h:Heap} {x dx C:Addr} {mA:Str->Option Value} (I:ObjM h x dx C mA):∃od,PySem.W.InstAt h x (PySem.W.instObj C dx) C (some od)/\∀name,PySem.W.lookIn name od=some (mA name):=
 let ⟨od,ho,hl⟩:=xH I.ns
 ⟨od,⟨I.obj,rfl,rfl,ho⟩,hl⟩
section
variable {prog:Program} {w:World} {A:Around} {E:Value->Shared->Prop} {s:Shared} {K:IU} {x dx C f:Addr} {mA:Str->Option Value} {name:Str} {v:Value}
theorem Bc {expr:Bool} {Q:Value->Shared->Prop} (X:K.In s.heap) (I:ObjM s.heap x dx C mA) (hg:PySem.W.plainGet K C name=true) (hh:PySem.W.hasDictIn K C=true)
  (ha:PySem.W.findIn K (.ref C) name=some none) (hv:mA name=some v) (hv':PySem.W.handedIn v=true) (h:Q v { s with toks:=s.toks+1 }) :
  wpAny (model prog w) A (getAttr (.ref x) name expr) Q E s:=by
 obtain ⟨od,J,hl⟩:=I.look
 exact PySem.W.get_value X J (PySem.W.plainGet_of hg).1 (PySem.W.findObj_own hh ha rfl (by rw [hl,hv])) hv' h
theorem Cd {ns:List Str} {Q:Unit->Shared->Prop} (X:K.In s.heap) (I:ObjM s.heap x dx C mA)
  (hs:PySem.W.findIn K (.ref C) "__setattr__" = some (some (.builtin "object.__setattr__"))) (hp:PySem.W.plainOver K C=true) (ht:PySem.W.takerIn K C name=some none) (hh:PySem.W.hasDictIn K C=true)
  (hw:PySem.Within mA ns) (hsz:ns.length<=sizeLine)
  (h:∀h',ObjM h' x dx C (fun y=>if y=name then some v else mA y)->Heap.SameBut dx s.heap h'->Q () { s with heap:=h',toks:=s.toks+2 }) :
  wpAny (model prog w) A (setAttr (.ref x) name v) Q E s:=by
 obtain ⟨od,J,hl⟩:=I.look
 refine PySem.W.set_plain X J hs (PySem.W.osa_open (s:={ s with toks:=s.toks+1 }) (r:=none) X J hp ht fun b=>?_)
 obtain ⟨cd,hc,hd'⟩:=PySem.W.any_some hh
 have hx:s.heap.get? x=some ⟨.ref C,some dx,.plain,#[]⟩:=I.obj
 refine IK (IL (IK (IK (wpAny_loadPart hx (IK (PySem.W.Looks.here (s:={ s with toks:=s.toks+1 }) (PySem.W.looks_clsIn X hc) ?_))))))
 rw [hd']
 refine IL (a:=some dx) (IK (IL (IK ?_)))
 refine wpAny_nsSet1 (s:={ s with toks:=s.toks+1 }) I.ns fun h' hn2 hs2=>?_
 obtain ⟨oD,esD,epD,hoD,hdD,hcD⟩:=hn2.count (PySem.Within.cons name v hw)
 refine IK (wpAny_lookBehind hoD (by rw [hdD]; exact pastItsLine_dict (Nat.le_trans hcD (by rw [List.length_cons]; lia))) ?_)
 exact IL (h _ ⟨(hs2.2 _ (Ne.symm I.ne)).trans I.obj,hn2,I.ne⟩ hs2)
theorem zE {R:Result->Shared->Prop} {vs:List Value} {kw:List (Str×Value)} (X:K.In s.heap) (hm:PySem.W.makesIn K C=true)
  (hi:PySem.W.findIn K (.ref C) "__init__" = some (some (.ref f))) (hf:PySem.W.typeIn K (.ref f)=some (.type "function"))
  (h:codeAny (model prog w) (A.under (.builtin "type.__call__" ⟨.ref C::vs,kw⟩)) (.call (.ref f) ⟨.ref (s.heap.objs.size+1)::vs,kw⟩) (PySem.W.InitBack (s.heap.objs.size+1) R)
   { s with heap:=(s.heap.push PySem.W.emptyDict).push (PySem.W.instObj C s.heap.objs.size) }) :
  codeAny (model prog w) A (.call (.ref C) ⟨vs,kw⟩) R s:=by
 obtain ⟨hh,g,d,t,os⟩:=s
 exact PySem.W.make_core (PySem.W.makes_of X hm) (PySem.W.looks_findIn X hi) (fun self=>PySem.W.bind_fn X self hf) (.inl rfl) h
end
noncomputable def gG (f:Str) (v:V):List (Str×V)->List (Str×V)
 |[]=>[(f,v)]
 |(g,x)::r=>if g=f then (g,v)::r else (g,x)::gG f v r
theorem mE (f g:Str) (v:V):∀fs:List (Str×V),(gG f v fs).lookup g=if g=f then some v else fs.lookup g
 |[]=>by
  show List.lookup g [(f,v)]=_
  by_cases h:g=f
  ·have hb:(g==f)=true:=beq_iff_eq.mpr h
   simp only [List.lookup,hb,if_pos h]
  ·have hb:(g==f)=false:=beq_eq_false_iff_ne.mpr h
   simp only [List.lookup,hb,if_neg h]
 |(k,x)::r=>by
  have ih:=mE f g v r
  rw [show gG f v ((k,x)::r)=(if k=f then (k,v)::r else (k,x)::gG f v r) from rfl]
  by_cases hk:k=f
  ·rw [if_pos hk]
   by_cases h:g=k
   ·have hb:(g==k)=true:=beq_iff_eq.mpr h
    simp only [List.lookup,hb,if_pos (h.trans hk)]
   ·have hb:(g==k)=false:=beq_eq_false_iff_ne.mpr h
    simp only [List.lookup,hb,if_neg (fun e:g=f=>h (e.trans hk.symm))]
  ·rw [if_neg hk]
   by_cases h:g=k
   ·have hb:(g==k)=true:=beq_iff_eq.mpr h
    simp only [List.lookup,hb,if_neg (fun e:g=f=>hk (h.symm.trans e))]
   ·have hb:(g==k)=false:=beq_eq_false_iff_ne.mpr h
    simp only [List.lookup,hb]
    exact ih
theorem lJ (f:Str) (v:V):∀fs:List (Str×V),f∈(gG f v fs).map (·.1)/\∀g,g∈fs.map (·.1)->g∈(gG f v fs).map (·.1)
 |[]=>⟨by simp [gG],fun g h=>by simp at h⟩
 |(k,x)::r=>by
  obtain ⟨i1,i2⟩:=lJ f v r
  rw [show gG f v ((k,x)::r)=(if k=f then (k,v)::r else (k,x)::gG f v r) from rfl]
  by_cases hk:k=f
  ·rw [if_pos hk]
   subst hk
   exact ⟨0x4,fun g h=>by simpa using h⟩
  ·rw [if_neg hk]
   refine ⟨?_,fun g h=>?_⟩
   ·rw [List.map_cons]
    exact IE _ i1
   ·rw [List.map_cons] at h ⊢
    rcases List.mem_cons.mp h with e|e
    ·exact List.mem_cons.mpr (.inl e)
    ·exact IE _ (i2 g e)
theorem mm (f:Str) (v:V):∀fs:List (Str×V),(gG f v fs).length<=fs.length+1
 |[]=>by simp [gG]
 |(k,x)::r=>by
  have ih:=mm f v r
  rw [show gG f v ((k,x)::r)=(if k=f then (k,v)::r else (k,x)::gG f v r) from rfl]
  by_cases hk:k=f
  ·rw [if_pos hk,List.length_cons,List.length_cons]; lia
  ·rw [if_neg hk,List.length_cons,List.length_cons]; lia
theorem vk.some_of {v:V} {o:Option Value} (r:vk (some v) o):∃u,o=some u/\bM v u:=by
 cases o with
 |none=>exact (show False from r).elim
 |some u=>exact ⟨u,rfl,r⟩
theorem xF {v:V} {u:Value} (r:bM v u):PySem.W.handedIn u=true:=by
 cases v with
 |non=>cases (show u=Value.none from r); rfl
 |bl b=>cases (show u=Value.bool b from r); rfl
 |int i=>obtain ⟨t,e⟩:=(show ∃t,u=Value.int i t from r); cases e; rfl
 |str x=>obtain ⟨t,e⟩:=(show ∃t,u=Value.str x t from r); cases e; rfl
 |byt b=>obtain ⟨t,e⟩:=(show ∃t,u=Value.bytes b t from r); cases e; rfl
 |flt b=>obtain ⟨t,e⟩:=(show ∃t,u=Value.float b t from r); cases e; rfl
 |ref a=>cases (show u=Value.ref a from r); rfl
 |ty n=>cases (show u=Value.type n from r); rfl
section
variable {P:Program} {w:World} {H H':Hp} {h h':Heap} {a C dx:Addr} {fs fs':List (Str×V)}
theorem rJ (hok:lR P w H h) (e:H a=some (.ins C dx fs)):∃mA,ObjM h a dx C mA/\(∀f,vk (fs.lookup f) (mA f))/\PySem.Within mA (fs.map (·.1))/\fs.length<=1000/\H dx=some (.own a):=by
 obtain ⟨d,z,ne,ob,mA,n,r,q⟩:=(show dg P w H h a (.ins C dx fs) from hok a _ e)
 exact ⟨mA,⟨ob,n,ne⟩,r,q,z,d⟩
end
structure Cls (K:IU) (C:Addr):Prop where
 pg:PySem.W.plainGet K C Str.empty=true
 hd:PySem.W.hasDictIn K C=true
 po:PySem.W.plainOver K C=true
 sa:PySem.W.findIn K (.ref C) "__setattr__" = some (some (.builtin "object.__setattr__"))
theorem Cls.get {K:IU} {C:Addr} (c:Cls K C) (f:Str):PySem.W.plainGet K C f=true:=c.pg
noncomputable def hW (K:IU) (C:Addr) (f:Str):Prop:=PySem.W.findIn K (.ref C) f=some none
theorem hW.taker {K:IU} {C:Addr} {f:Str} (n:hW K C f):PySem.W.takerIn K C f=some none:=by
 unfold PySem.W.takerIn
 rw [show PySem.W.findIn K (.ref C) f=some none from n]
 rfl
section
variable {X:Cx} {pins:List (Addr×Obj)} {σ:St} {H:Hp} {s:Shared} {a C dx:Addr} {fs:List (Str×V)} {f:Str} {v:V} {A:Around} {E:Value->Shared->Prop}
theorem vF {b:Bool} {Q:Value->Shared->Prop} (I:Inv X pins σ H s) (e:H a=some (.ins C dx fs)) (c:Cls X.K C) (n:hW X.K C f) (l:fs.lookup f=some v)
  (h:∀u s',Inv X pins σ H s'->bM v u->Q u s'):wpAny (model X.prog X.w) A (getAttr (.ref a) f b) Q E s:=by
 obtain ⟨mA,O,r,_,_,_⟩:=rJ I.hok e
 obtain ⟨u,hu,ru⟩:=vk.some_of (v:=v) (o:=mA f) (by rw [<-l]; exact r f)
 exact Bc I.kIn O (c.get f) c.hd n hu (xF ru) (h u _ (I.tok _) ru)
theorem vq {y:V} {u:Value} {Q:Unit->Shared->Prop} (I:Inv X pins σ H s) (e:H a=some (.ins C dx fs)) (c:Cls X.K C) (n:hW X.K C f) (hl:fs.length<1000) (ry:bM y u)
  (h:∀s',Inv X pins σ (du H a (.ins C dx (gG f y fs))) s'->Q () s'):wpAny (model X.prog X.w) A (setAttr (.ref a) f u) Q E s:=by
 obtain ⟨mA,O,r,wi,_,ho⟩:=rJ I.hok e
 have hz:(fs.map (·.1)).length<=sizeLine:=by rw [List.length_map,sizeLine_eq]; lia
 refine Cd I.kIn O c.sa c.po n.taker c.hd wi hz fun h' O' sb=>h _ ?_
 have hd:∃o,h'.get? dx=some o:=let ⟨o,_,_,e',_⟩:=O'.ns; ⟨o,e'⟩
 refine I.write (x:=a) (e:=dx) (by rw [e]; exact True.intro) (.inr ho) (fun b q hb z=>(sb.2 b hb).trans z) hd ?_
 refine ⟨by rw [aN O.ne]; exact ho,?_,O.ne,O'.obj,_,O'.ns,fun g=>?_,fun g hg=>?_⟩
 ·have:=mm f y fs; lia
 ·show vk ((gG f y fs).lookup g) (if g=f then some u else mA g)
  rw [mE]
  by_cases q:g=f
  ·rw [if_pos q,if_pos q]; exact ry
  ·rw [if_neg q,if_neg q]; exact r g
 ·by_cases q:g=f
  ·rw [q]; exact (lJ f y fs).1
  ·refine (lJ f y fs).2 g (wi g fun z=>hg ?_)
   show (if g=f then some u else mA g)=none
   rw [if_neg q]; exact z
theorem Inv.made (I:Inv X pins σ H s):Inv X pins σ (du (du H s.heap.objs.size (.own (s.heap.objs.size+1))) (s.heap.objs.size+1) (.ins C s.heap.objs.size []))
  { s with heap:=(s.heap.push PySem.W.emptyDict).push (PySem.W.instObj C s.heap.objs.size) }:=by
 have e1:(s.heap.push PySem.W.emptyDict).get? s.heap.objs.size=some PySem.W.emptyDict:=Heap.get?_push_size s.heap rfl
 have e2:((s.heap.push PySem.W.emptyDict).push (PySem.W.instObj C s.heap.objs.size)).get? (s.heap.objs.size+1)=some (PySem.W.instObj C s.heap.objs.size):=by
  have:=Heap.get?_push_size (s.heap.push PySem.W.emptyDict) (o:=PySem.W.instObj C s.heap.objs.size) rfl
  rwa [Heap.size_push] at this
 have e3:(s.heap.push PySem.W.emptyDict).Ns s.heap.objs.size (fun _=>none):=⟨PySem.W.emptyDict,#[],_,e1,rfl,(fun e he=>absurd he 0x4),fun _=>rfl⟩
 have I1:=I.laid (a:=s.heap.objs.size) (o:=.own (s.heap.objs.size+1)) (h':=s.heap.push PySem.W.emptyDict) (t':=s.toks) (fun b u q=>IG _ q) (IJ _) ⟨_,e1⟩
 refine I1.laid (a:=s.heap.objs.size+1) (o:=.ins C s.heap.objs.size []) (t':=s.toks) (fun b u q=>IG _ q) (Nat.le_of_eq (Heap.size_push _ _)) ?_
 have ne:s.heap.objs.size≠s.heap.objs.size+1:=Nat.ne_of_lt (Nat.lt_succ_self _)
 refine ⟨by rw [aN ne,cf],Nat.zero_le _,ne,e2,fun _=>none,(Heap.Ns1.of_empty e3).at fun o q=>IG _ q,fun _=>True.intro,fun y hy=>absurd rfl hy⟩
theorem Cg {prog:Program} {w:World} {env:Env} {e:Expr} {f:Str} {pos:Pos} {s:Shared} {Q:Value->Shared->Prop} (hb:attributeBase e f env (eval e env)=eval e env)
  (h:wpAny (model prog w) A (eval e env) (fun o s₁=>wpAny (model prog w) A (getAttr o f true) Q E s₁) E s):wpAny (model prog w) A (eval (.Attribute e f pos) env) Q E s:=
 Attribute_any_ h (by rw [arm_eval_Attribute,hb])
end
noncomputable def Hz (K:IU) (ta:TE) (f:Str):TE:=fun σ H Q=>ta σ H fun x H1=>∃a C dx fs v,x=.ref a/\H1 a=some (.ins C dx fs)/\Cls K C/\hW K C f/\fs.lookup f=some v/\Q v H1
noncomputable def Hj (K:IU) (ta tv:TE) (f:Str):TS:=fun D σ H=>tv σ H fun y H1=>ta σ H1 fun x H2=>∃a C dx fs,x=.ref a/\H2 a=some (.ins C dx fs)/\Cls K C/\hW K C f/\fs.length<1000 /\
 D.nx σ (du H2 a (.ins C dx (gG f y fs)))
section
variable {X:Cx} {o e value:Expr} {f:Str} {pos pos' tpos:Pos} {ta tv:TE}
theorem Dm (he:PE X e ta) (hb:attributeBase e f X.env (eval e X.env)=eval e X.env):PE X (.Attribute e f pos) (Hz X.K ta f):=by
 intro pins s σ H Q I h
 refine Cg hb (cJ (he pins s σ H _ I h) fun u s1 ⟨x,H1,I1,rx,a,C,dx,fs,v,ex,ea,c,n,l,q⟩=>?_)
 subst ex
 obtain rfl:u=Value.ref a:=rx
 exact vF I1 ea c n l fun u' s2 I2 ru=>⟨v,H1,I2,ru,q⟩
theorem Ad (ha:PE X o ta) (hv:PE X value tv) (hs:swapsWith value (some (.Attribute o f pos')) pos.line X.env=pure false):PS X (.Assign [.Attribute o f pos'] value pos) (Hj X.K ta tv f):=by
 intro pins s σ H D I h
 refine plainObj_wpAny_Assign_Attribute (cJ (hv pins s σ H _ I h) fun u s1 ⟨y,H1,I1,ry,q⟩=>cJ (ha pins s1 σ H1 _ I1 q) fun ov s2 ⟨x,H2,I2,rx,a,C,dx,fs,ex,ea,c,n,l,q2⟩=>?_) hs
 subst ex
 obtain rfl:ov=Value.ref a:=rx
 exact vq I2 ea c n l ry fun s3 I3=>⟨σ,_,I3,q2⟩
end
section
variable {X:Cx} {pins:List (Addr×Obj)} {σ:St} {H:Hp} {s:Shared} {A:Around} {E:Value->Shared->Prop} {Q:Value->Shared->Prop} {c:Value} {b:Bool}
inductive TyOf (K:IU) (H:Hp):V->Value->Prop where
 |non:TyOf K H .non (.type "NoneType")
 |bl (x:Bool):TyOf K H (.bl x) (.type "bool")
 |int (i:Int):TyOf K H (.int i) (.type "int")
 |str (x:Str):TyOf K H (.str x) (.type "str")
 |flt (x:UInt64):TyOf K H (.flt x) (.type "float")
 |lst {a:Addr} {xs:List V} (e:H a=some (.lst xs)):TyOf K H (.ref a) (.type "list")
 |frz {a:Addr} {o:Obj} {xs:List V} (e:H a=some (.frz o (.lst xs))):TyOf K H (.ref a) (.type "list")
 |tup {a:Addr} {xs:List V} (e:H a=some (.tup xs)):TyOf K H (.ref a) (.type "tuple")
 |dK {a:Addr} {kvs:List (qu×V)} (e:H a=some (.dK kvs)):TyOf K H (.ref a) (.type "dict")
 |dT {a:Addr} {kvs:List (List qu×V)} (e:H a=some (.dT kvs)):TyOf K H (.ref a) (.type "dict")
 |ins {a C dx:Addr} {fs:List (Str×V)} (e:H a=some (.ins C dx fs)) (cl:Cls K C) (ha:PySem.W.findIn K (.ref C) "__class__" = some (some (.builtin "object.__class__")))
   (hn:PySem.W.specialIn K (.builtin "object.__class__") "__get__" = some (some (.builtin "getset_descriptor.__get__"))) (htk:PySem.W.takesIn K (.builtin "object.__class__")=some true)
   (hm:PySem.W.mroIn K C (.type "object")=some true):TyOf K H (.ref a) (.ref C)
theorem xE {x:V} {u t:Value} (I:Inv X pins σ H s) (rx:bM x u) (ty:TyOf X.K H x t) (e:PySem.W.kitOne X.K t c=some b) (h:∀tk,Q (.bool b) { s with toks:=tk }) :
  wpAny (model X.prog X.w) A (call (.builtin "isinstance") [u,c]) Q E s:=by
 cases ty with
 |non=>cases (show u=Value.none from rx); exact PySem.W.kia_one PySem.W.kitx_none I.kIn True.intro e (fun z=>nomatch z) h
 |bl y=>cases (show u=Value.bool y from rx); exact PySem.W.kia_one PySem.W.kitx_bool I.kIn True.intro e (fun z=>nomatch z) h
 |int i=>obtain ⟨t,q⟩:=(show ∃t,u=Value.int i t from rx); cases q; exact PySem.W.kia_one PySem.W.kitx_int I.kIn True.intro e (fun z=>nomatch z) h
 |str y=>obtain ⟨t,q⟩:=(show ∃t,u=Value.str y t from rx); cases q; exact PySem.W.kia_one PySem.W.kitx_str I.kIn True.intro e (fun z=>nomatch z) h
 |flt y=>obtain ⟨t,q⟩:=(show ∃t,u=Value.float y t from rx); cases q; exact PySem.W.kia_one PySem.W.kitx_float I.kIn True.intro e (fun z=>nomatch z) h
 |@lst a xs ea=>
  cases (show u=Value.ref a from rx)
  obtain ⟨_,_,n,_,h1⟩:=(show dg X.prog X.w H s.heap a (.lst xs) from I.hok a _ ea)
  exact PySem.W.kia_one PySem.W.kitx_list I.kIn ⟨_,h1,rfl⟩ e (fun z=>nomatch z) h
 |@frz a ob xs ea=>
  cases (show u=Value.ref a from rx)
  obtain ⟨_,_,_,n,_,h1⟩:=(show dg X.prog X.w H s.heap a (.frz ob (.lst xs)) from I.hok a _ ea)
  exact PySem.W.kia_one PySem.W.kitx_list I.kIn ⟨_,h1,rfl⟩ e (fun z=>nomatch z) h
 |@tup a xs ea=>
  cases (show u=Value.ref a from rx)
  obtain ⟨_,_,_,p⟩:=(show dg X.prog X.w H s.heap a (.tup xs) from I.hok a _ ea)
  obtain ⟨o,h1,h2,_⟩:=p
  exact PySem.W.kia_one PySem.W.kitx_tuple I.kIn ⟨o,h1,h2⟩ e (fun z=>nomatch z) h
 |@dK a kvs ea=>
  cases (show u=Value.ref a from rx)
  obtain ⟨_,_,vs,_,p⟩:=(show dg X.prog X.w H s.heap a (.dK kvs) from I.hok a _ ea)
  obtain ⟨o,es,ep,h1,h2,_⟩:=p
  exact PySem.W.kia_one PySem.W.kitx_dict I.kIn ⟨o,h1,h2.1⟩ e (fun z=>nomatch z) h
 |@dT a kvs ea=>
  cases (show u=Value.ref a from rx)
  obtain ⟨_,_,xs,_,o,es,ep,h1,h2,_⟩:=(show dg X.prog X.w H s.heap a (.dT kvs) from I.hok a _ ea)
  exact PySem.W.kia_one PySem.W.kitx_dict I.kIn ⟨o,h1,h2.1⟩ e (fun z=>nomatch z) h
 |@ins a C dx fs ea cl ha hn htk hm=>
  cases (show u=Value.ref a from rx)
  obtain ⟨mA,O,_⟩:=rJ I.hok ea
  obtain ⟨od,J,_⟩:=O.look
  exact PySem.W.kia_one (PySem.W.kitx_own (cl.get _) cl.hd ha hn htk hm) I.kIn J e (fun z=>nomatch z) h
end
structure Room (k:Nat) (A:Around):Prop where
 hd:A.handled=none
 dp:A.depth+3*k+5<recursionLimit
 un:A.units+16*k+200<cLine
theorem Room.mono {j k:Nat} {A:Around} (r:Room k A) (h:j<=k):Room j A:=⟨r.hd,by have:=r.dp; lia,by have:=r.un; lia⟩
theorem Room.deeper {k:Nat} {A:Around} (r:Room (k+1) A) (env:Env):Room k (A.deeper env):=
 ⟨r.hd,by have:=r.dp; show A.depth+1+3*k+5<_; lia,by have:=r.un; show A.units+3+16*k+200<_; lia⟩
theorem Room.in1 {k:Nat} {A:Around} (r:Room (k+1) A):Room k A.in1:=
 ⟨r.hd,by have:=r.dp; show A.depth+3*k+5<_; lia,by have:=r.un; show A.units+1+16*k+200<_; lia⟩
theorem vC {A:Around} {C:Addr} {us:List Value} {kw:List (Str×Value)}:(A.under (.builtin "type.__call__" ⟨.ref C::us,kw⟩)).depth=A.depth+1:=by
 first|rfl|simp [Around.under,Code.weight,Code.isCreation,Code.isGuard,Code.isCaller,Code.frames,Code.isFrame,guardIds]
theorem vf {A:Around} {C:Addr} {us:List Value} {kw:List (Str×Value)}:(A.under (.builtin "type.__call__" ⟨.ref C::us,kw⟩)).units=A.units+1:=by
 first|rfl|simp [Around.under,Code.cUnits,Code.frames,Code.isFrame]
theorem Room.make {k:Nat} {A:Around} (r:Room (k+1) A) (C:Addr) (us:List Value) (kw:List (Str×Value)):Room k (A.under (.builtin "type.__call__" ⟨.ref C::us,kw⟩)):=
 ⟨r.hd,by have:=r.dp; rw [vC]; lia,by have:=r.un; rw [vf]; lia⟩
theorem Room.depth {k:Nat} {A:Around} (r:Room k A):A.depth<recursionLimit:=by have:=r.dp; lia
theorem Room.units {k:Nat} {A:Around} (r:Room k A):A.units+64<cLine:=by have:=r.un; lia
noncomputable def G3:TA:=fun _ H Q=>Q [] H
noncomputable def FR (ta:TE) (tr:TA):TA:=fun σ H Q=>ta σ H fun x H1=>tr σ H1 fun xs H2=>Q (x::xs) H2
section
variable {X:Cx} {e:Expr} {es:List Expr} {te:TE} {t:TA} {pos:Pos}
theorem jO:PA X [] G3:=fun _ _ _ _ H Q I h=>Calls.spliced_nil ⟨[],H,I,.nil,h⟩
theorem iv (ha:PE X e te) (hr:PA X es t) (hs:starEach (e::es) X.env=(false,eval e X.env)::starEach es X.env:=by rfl):PA X (e::es) (FR te t):=by
 intro pos pins s σ H Q I h
 rw [hs]
 show wpAny _ _ (spliced ((false,eval e X.env)::backTo pos (starEach es X.env))) _ _ s
 refine Calls.spliced_cons (cJ (ha pins s σ H _ I h) fun u s1 ⟨x,H1,I1,r1,q1⟩=>?_)
 exact cJ (hr pos pins s1 σ H1 _ I1 q1) fun us s2 ⟨xs,H2,I2,r2,q2⟩=>⟨x::xs,H2,I2,.cons r1 r2,q2⟩
noncomputable def Hb (t:TA):TE:=fun σ H Q=>t σ H fun xs H1=>xs.length<=sizeLine/\∀p,H1 p=none->Q (.ref p) (du H1 p (.tup xs))
noncomputable def G5 (t:TA):TE:=fun σ H Q=>t σ H fun xs H1=>xs.length<=sizeLine/\∀p,H1 p=none->Q (.ref p) (du H1 p (.lst xs))
theorem Ax {x1} (h:PA X es t):PE X (.Tuple es x1 pos) (Hb t):=by
 intro pins s σ H Q I hq
 refine wpAny_Tuple_spliced (cJ (h pos pins s σ H _ I hq) fun us s1 ⟨xs,H1,I1,r,z,q⟩=>⟨by rw [<-r.length]; exact z,?_⟩)
 have hf:H1 s1.heap.objs.size=none:=I1.hok.fresh (IJ _)
 refine ⟨.ref s1.heap.objs.size,du H1 s1.heap.objs.size (.tup xs),I1.laid (t':=s1.toks) (fun b u e=>IG _ e) (IJ _) ?_,rfl,q _ hf⟩
 exact ⟨z,us,r,⟨_,Heap.get?_push_size _ rfl,rfl,_,rfl⟩⟩
theorem DK (h:PA X es t):PE X (.List es pos) (G5 t):=by
 intro pins s σ H Q I hq
 refine wpAny_List_spliced (cJ (h pos pins s σ H _ I hq) fun us s1 ⟨xs,H1,I1,r,z,q⟩=>⟨by rw [<-r.length]; exact z,?_⟩)
 have hf:H1 s1.heap.objs.size=none:=I1.hok.fresh (IJ _)
 refine ⟨.ref s1.heap.objs.size,du H1 s1.heap.objs.size (.lst xs),I1.laid (t':=s1.toks) (fun b u e=>IG _ e) (IJ _) ?_,rfl,q _ hf⟩
 exact ⟨z,us,0,r,Heap.get?_push_size _ rfl⟩
end
noncomputable abbrev Sp:=List V->Hp->VK->XK->Prop
noncomputable abbrev vN:=List Env->Hp->Shared->XK->Value->Shared->Prop
structure Env0 (P:Program) (w:World) (K:IU) (mg:Str->Option Value) (base:Heap) (A:Around) (outer:List Env) (s:Shared) (H:Hp):Prop where
 frames:A.frames=some outer
 mod:Mod K mg base
 bs:∀b o,base.get? b=some o->s.heap.get? b=some o/\H b=none
 bsz:base.objs.size<=s.heap.objs.size
 funs:s.heap.FunFrames base outer
 frf:∀b∈gn outer,H b=none
 hok:lR P w H s.heap
 bare:AllBare s.gens
noncomputable def CE (outer:List Env) (P:Program) (w:World) (H:Hp) (s:Shared) (Q:VK) (u:Value) (s':Shared):Prop:=
 ∃v H',s'.os=s.os/\AllBare s'.gens/\Un (gn outer) [] H H' s.heap s'.heap/\lR P w H' s'.heap/\bM v u/\Q v H'
noncomputable def CR (CX:vN) (outer:List Env) (P:Program) (w:World) (H:Hp) (s:Shared) (Q:VK) (E:XK) (r:Result) (s':Shared):Prop:=
 match r with
 |.ok (.ret u)=>CE outer P w H s Q u s'
 |.ok _=>False
 |.error e=>CX outer H s E e s'
structure FnOk (P:Program) (w:World) (K:IU) (mg:Str->Option Value) (base:Heap) (CX:vN) (k:Nat) (f:Addr) (fd:FuncData) (ps:List Str) (sp:Sp):Prop where
 len:∀vs H Q E,sp vs H Q E->vs.length=ps.length
 run:∀(A:Around) (outer:List Env) (s:Shared) (H:Hp) (args:Args) (us:List Value) (vs:List V) (Q:VK) (E:XK),Room k A->Env0 P w K mg base A outer s H->BindsTo s fd args (ps.zip us)->aQ vs us->sp vs H Q E ->
  codeAny (model P w) A (.call (.ref f) args) (CR CX outer P w H s Q E) s
theorem FnOk.mono {P:Program} {w:World} {K:IU} {mg:Str->Option Value} {base:Heap} {CX:vN} {j k:Nat} {f:Addr} {fd:FuncData} {ps:List Str} {sp:Sp} (F:FnOk P w K mg base CX j f fd ps sp) (h:j<=k) :
  FnOk P w K mg base CX k f fd ps sp:=⟨F.len,fun A outer s H args us vs Q E hr=>F.run A outer s H args us vs Q E (hr.mono h)⟩
theorem FnOk.imp {P:Program} {w:World} {K:IU} {mg:Str->Option Value} {base:Heap} {CX:vN} {k:Nat} {f:Addr} {fd:FuncData} {ps:List Str} {sp sp':Sp} (F:FnOk P w K mg base CX k f fd ps sp)
  (h:∀vs H Q E,sp' vs H Q E->sp vs H Q E):FnOk P w K mg base CX k f fd ps sp':=
 ⟨fun vs H Q E q=>F.len vs H Q E (h _ _ _ _ q),fun A outer s H args us vs Q E hr he hb hv hs=>F.run A outer s H args us vs Q E hr he hb hv (h _ _ _ _ hs)⟩
theorem Env0.make {P:Program} {w:World} {K:IU} {mg:Str->Option Value} {base:Heap} {A:Around} {outer:List Env} {s:Shared} {H:Hp} (e:Env0 P w K mg base A outer s H) (C:Addr) (us:List Value) (kw:List (Str×Value)) :
  Env0 P w K mg base (A.under (.builtin "type.__call__" ⟨.ref C::us,kw⟩)) outer s H:=⟨by first|exact e.frames|(simpa [Around.under,Code.envs,Code.isFrame,pushEnvs] using e.frames),e.mod,e.bs,e.bsz,e.funs,e.frf,e.hok,e.bare⟩
theorem Env0.in1 {P:Program} {w:World} {K:IU} {mg:Str->Option Value} {base:Heap} {A:Around} {outer:List Env} {s:Shared} {H:Hp} (e:Env0 P w K mg base A outer s H) :
  Env0 P w K mg base A.in1 outer s H:=⟨e.frames,e.mod,e.bs,e.bsz,e.funs,e.frf,e.hok,e.bare⟩
section
variable {X:Cx} {pins:List (Addr×Obj)} {σ:St} {H:Hp} {s s':Shared}
theorem Inv.env0 (I:Inv X pins σ H s):Env0 X.prog X.w X.K X.mg X.base X.A X.stack s H:=
 ⟨I.ok.frames,I.ok.mod,I.bs,Nat.le_trans I.ok.bsz I.sz,I.stack,I.stkFree,I.hok,I.bare⟩
theorem Inv.after {Q:VK} {u:Value} (I:Inv X pins σ H s) (h:CE X.stack X.prog X.w H s Q u s'):EP X pins σ Q u s':=by
 obtain ⟨v,H',os,bare,un,hok,r,q⟩:=h
 obtain ⟨hh,g,d,t,os'⟩:=s'
 obtain rfl:os'=s.os:=os
 exact ⟨v,H',I.call (h':=hh) (g':=g) (d':=d) (t':=t) (ch:=[]) un hok bare (fun b z=>absurd z 0x4),r,q⟩
end
noncomputable def Gn (sp:Sp) (dvs:List V) (E:XK) (t:TA):TE:=fun σ H Q=>t σ H fun vs H1=>sp (vs++dvs) H1 Q E
noncomputable def GF (C:Addr) (sp:Sp) (dvs:List V) (E:XK) (t:TA):TE:=fun σ H Q=>t σ H fun vs H1=>∀x dx,H1 x=none->H1 dx=none->dx≠x ->
 sp (.ref x::(vs++dvs)) (du (du H1 dx (.own x)) x (.ins C dx [])) (fun v H2=>v=.non/\Q (.ref x) H2) E
noncomputable def ix (K:IU) (fd:FuncData) (ps:List Str) (ds:List Value):Prop:=
 ∀(s:Shared) (us:List Value),K.In s.heap->(us++ds).length=ps.length->BindsTo s fd ⟨us,[]⟩ (ps.zip (us++ds))
theorem ix.all {K:IU} {fd:FuncData} {ps:List Str} (h:∀us:List Value,us.length=ps.length->bindArgs fd ⟨us,[]⟩=pure (ps.zip us)):ix K fd ps []:=fun s us _ hl=>by
 rw [List.append_nil] at hl ⊢
 exact .of_eq (h us hl)
noncomputable def gB (CX:vN) (X:Cx) (E:XK):Prop:=∀(pins:List (Addr×Obj)) (σ:St) (H:Hp) (s:Shared) (e:Value) (s':Shared),Inv X pins σ H s->CX X.stack H s E e s'->X.xe e s'
section
variable {X:Cx} {CX:vN} {k:Nat} {f C:Addr} {fd:FuncData} {ps:List Str} {sp:Sp} {dvs:List V} {ds:List Value} {E:XK} {x m:Str} {p pos apos:Pos} {e o:Expr} {es:List Expr} {ta:TE} {t:TA}
theorem E7 {pins:List (Addr×Obj)} {σ:St} {H:Hp} {s:Shared} {Q:VK} {us:List Value} {vs:List V} (F:FnOk X.prog X.w X.K X.mg X.base CX k f fd ps sp) (hr:Room k X.A) (hb:ix X.K fd ps ds) (hd:aQ dvs ds) (hx:gB CX X E)
  (I:Inv X pins σ H s) (r:aQ vs us) (h:sp (vs++dvs) H Q E):wpAny (model X.prog X.w) X.A (call (.ref f) us) (EP X pins σ Q) X.xe s:=by
 have r2:aQ (vs++dvs) (us++ds):=r.append hd
 have hl:(us++ds).length=ps.length:=by rw [<-r2.length]; exact F.len _ _ _ _ h
 refine wpAny_call (codeAny_mono (F.run X.A X.stack s H ⟨us,[]⟩ (us++ds) (vs++dvs) Q E hr I.env0 (hb s us I.kIn hl) r2 h) fun r s' hq=>?_)
 cases r with
 |error e=>exact hx pins σ H s e s' I hq
 |ok fl=>
  cases fl with
  |ret u=>exact I.after hq
  |next=>exact False.elim hq
  |brk=>exact False.elim hq
  |cont=>exact False.elim hq
theorem wN (F:FnOk X.prog X.w X.K X.mg X.base CX k f fd ps sp) (hr:Room k X.A) (hg:Gl X x) (hm:X.mg x=some (.ref f)) (hk:PySem.W.keepIn X.K (.ref f)=true) (hb:ix X.K fd ps ds) (hd:aQ dvs ds) (hx:gB CX X E)
  (ha:PA X (e::es) t) (hdb:(x==("__debug__" : Str))=false:=by decide) (he:starEach (e::es) X.env=(false,eval e X.env)::starEach es X.env:=by rfl) (hpl:(backTo pos (starEach es X.env)).any (·.1)=false:=by rfl) :
  PE X (.Call (.Name x p) (e::es) [] pos) (Gn sp dvs E t):=by
 intro pins s σ H Q I h
 refine wpAny_Call_Name_kw (jw I hg hm ?_ hdb)
 refine PySem.W.callWith_K (h₀:=X.base) I.ok.mod.kin hk (cJ (ha pos pins s σ H _ I h) fun us s1 ⟨vs,H1,I1,r,q⟩=>⟨I1.kIn,?_⟩) he hpl
 exact E7 F hr hb hd hx I1 r q
structure Mk (K:IU) (C f:Addr):Prop where
 makes:PySem.W.makesIn K C=true
 init:PySem.W.findIn K (.ref C) "__init__" = some (some (.ref f))
 fn:PySem.W.isFn K (.ref f)=true
 kp:PySem.W.keepIn K (.ref C)=true
theorem yN {pins:List (Addr×Obj)} {σ:St} {H:Hp} {s:Shared} {Q:VK} {us:List Value} {vs:List V} (M:Mk X.K C f) (F:FnOk X.prog X.w X.K X.mg X.base CX k f fd ps sp) (hr:Room (k+1) X.A) (hb:ix X.K fd ps ds) (hd:aQ dvs ds)
  (hx:gB CX X E) (I:Inv X pins σ H s) (r:aQ vs us)
  (h:∀x dx,H x=none->H dx=none->dx≠x->sp (.ref x::(vs++dvs)) (du (du H dx (.own x)) x (.ins C dx [])) (fun v H2=>v=.non/\Q (.ref x) H2) E) :
  wpAny (model X.prog X.w) X.A (call (.ref C) us) (EP X pins σ Q) X.xe s:=by
 have hq:=h (s.heap.objs.size+1) s.heap.objs.size (I.hok.fresh (Nat.le_succ _)) (I.hok.fresh (IJ _)) (Nat.ne_of_lt (Nat.lt_succ_self _))
 have I2:=Inv.made (C:=C) I
 have r2:aQ (V.ref (s.heap.objs.size+1)::(vs++dvs)) (Value.ref (s.heap.objs.size+1)::(us++ds)):=.cons rfl (r.append hd)
 have hl:(Value.ref (s.heap.objs.size+1)::us++ds).length=ps.length:=by
  have e:=r2.length
  rw [F.len _ _ _ _ hq] at e
  exact e.symm
 refine wpAny_call (zE (f:=f) I.kIn M.makes M.init (beq_iff_eq.mp M.fn) (codeAny_mono (F.run _ X.stack _ _ ⟨Value.ref (s.heap.objs.size+1)::us,[]⟩ (Value.ref (s.heap.objs.size+1)::(us++ds)) _ _ E (hr.make C us [])
  (I2.env0.make C us []) (hb _ (Value.ref (s.heap.objs.size+1)::us) I2.kIn hl) r2 hq) fun r s' hq'=>?_))
 cases r with
 |error e=>exact hx pins σ _ _ e s' I2 hq'
 |ok fl=>
  cases fl with
  |ret u=>
   obtain ⟨v,H',I3,rv,ev,q3⟩:=I2.after hq'
   subst ev
   exact ⟨rv,⟨V.ref (s.heap.objs.size+1),H',I3,rfl,q3⟩⟩
  |next=>exact False.elim hq'
  |brk=>exact False.elim hq'
  |cont=>exact False.elim hq'
theorem Cz (M:Mk X.K C f) (F:FnOk X.prog X.w X.K X.mg X.base CX k f fd ps sp) (hr:Room (k+1) X.A) (hg:Gl X x) (hm:X.mg x=some (.ref C)) (hb:ix X.K fd ps ds) (hd:aQ dvs ds) (hx:gB CX X E)
  (ha:PA X (e::es) t) (hdb:(x==("__debug__" : Str))=false:=by decide) (he:starEach (e::es) X.env=(false,eval e X.env)::starEach es X.env:=by rfl) (hpl:(backTo pos (starEach es X.env)).any (·.1)=false:=by rfl) :
  PE X (.Call (.Name x p) (e::es) [] pos) (GF C sp dvs E t):=by
 intro pins s σ H Q I h
 refine wpAny_Call_Name_kw (jw I hg hm ?_ hdb)
 refine PySem.W.callWith_K (h₀:=X.base) I.ok.mod.kin M.kp (cJ (ha pos pins s σ H _ I h) fun us s1 ⟨vs,H1,I1,r,q⟩=>⟨I1.kIn,?_⟩) he hpl
 exact yN M F hr hb hd hx I1 r q
end
section
variable {X:Cx} {CX:vN} {k:Nat} {f C:Addr} {fd:FuncData} {ps ks:List Str} {sp:Sp} {E:XK} {x m:Str} {p pos apos kpos:Pos} {e o:Expr} {es:List Expr} {kws:List Keyword} {te ta:TE} {t tk:TA} {nm:Option Str}
variable {g:List Value->List Value->List Value} {gV:List V->List V->List V}
end
structure FnScope (N P:List Str) (sc:Scope):Prop where
 kind:sc.kind=.function
 co:sc.isCoroutine=false
 gen:sc.isGenerator=false
 nd:N.Nodup
 pre:N.take P.length=P
 par:∀x∈P,sc.names.lookup x=some .local\/sc.names.lookup x=some .cell
 nofree:∀y∈sc.names,y.2≠.free
theorem pM {kindOf:Str->Option NameKind} {x:Str}:∀{binds:List (Str×Value)} {m:Str->Option Value},(∀v,(x,v)∉binds)->bindL kindOf binds m x=m x
 |[],_,_=>rfl
 |(n,v)::r,m,h=>by
  unfold bindL
  rw [pM fun w hw=>h w (IE _ hw)]
  split
  ·have:x≠n:=by rintro rfl; exact h v IF
   simp [this]
  ·rfl
theorem pQ {kindOf:Str->Option NameKind} {x:Str}:∀{binds:List (Str×Value)} {m:Str->Option Value},(∀v,(x,v)∉binds)->bindC kindOf binds m x=m x
 |[],_,_=>rfl
 |(n,v)::r,m,h=>by
  unfold bindC
  rw [pQ fun w hw=>h w (IE _ hw)]
  split
  ·rfl
  ·have:x≠n:=by rintro rfl; exact h v IF
   simp [this]
theorem qc {kindOf:Str->Option NameKind} {x:Str} {v:Value}:∀{P:List Str} {vs:List Value} {i:Nat} {m:Str->Option Value},P.Nodup->P[i]?=some x->vs[i]?=some v->kindOf x=some .local ->
  bindL kindOf (P.zip vs) m x=some v
 |[],_,_,_,_,h,_,_=>by simp at h
 |_::_,[],_,_,_,_,h,_=>by simp at h
 |p::P,w::vs,0,m,nd,h1,h2,hk=>by
  simp at h1 h2; subst h1; subst h2
  show bindL kindOf ((p,w)::P.zip vs) m p=_
  unfold bindL
  rw [pM fun v hv=>(List.nodup_cons.mp nd).1 (List.of_mem_zip hv).1,if_pos hk]
  simp
 |p::P,w::vs,i+1,m,nd,h1,h2,hk=>by
  show bindL kindOf ((p,w)::P.zip vs) m x=_
  unfold bindL
  exact qc (i:=i) (List.nodup_cons.mp nd).2 (by simpa using h1) (by simpa using h2) hk
theorem qf {kindOf:Str->Option NameKind} {x:Str} {v:Value}:∀{P:List Str} {vs:List Value} {i:Nat} {m:Str->Option Value},P.Nodup->P[i]?=some x->vs[i]?=some v->kindOf x≠some .local ->
  bindC kindOf (P.zip vs) m x=some v
 |[],_,_,_,_,h,_,_=>by simp at h
 |_::_,[],_,_,_,_,h,_=>by simp at h
 |p::P,w::vs,0,m,nd,h1,h2,hk=>by
  simp at h1 h2; subst h1; subst h2
  show bindC kindOf ((p,w)::P.zip vs) m p=_
  unfold bindC
  rw [pQ fun v hv=>(List.nodup_cons.mp nd).1 (List.of_mem_zip hv).1,if_neg hk]
  simp
 |p::P,w::vs,i+1,m,nd,h1,h2,hk=>by
  show bindC kindOf ((p,w)::P.zip vs) m x=_
  unfold bindC
  exact qf (i:=i) (List.nodup_cons.mp nd).2 (by simpa using h1) (by simpa using h2) hk
noncomputable def start (N:List Str) (vs:List V):St:=vs.map some++List.replicate (N.length-vs.length) none
noncomputable def eX (CX:vN) (P:Program) (w:World) (K:IU) (mg:Str->Option Value) (base:Heap) (N:List Str) (qual:Str) (scope:Scope) (f:Addr) (cd:Value) (A:Around) (outer:List Env) (s:Shared) (H:Hp) (E:XK):Cx where
 prog:=P
 w:=w
 K:=K
 mg:=mg
 base:=base
 A:=A.deeper (envOfC qual scope s.heap.objs.size f cd)
 N:=N
 s₀:=s
 H₀:=H
 env:=envOfC qual scope s.heap.objs.size f cd
 outer:=outer
 stack:=envOfC qual scope s.heap.objs.size f cd::outer
 ex:=[]
 calm:=true
 fn:=fun _=>true
 pn:=[]
 xe:=fun e s'=>wpAny (model P w) (A.deeper (envOfC qual scope s.heap.objs.size f cd)) (leaving (envOfC qual scope s.heap.objs.size f cd) e) (fun _ s''=>CX outer H s E e s'') (fun e' s''=>CX outer H s E e' s'') s'
theorem tX {sc:Scope} {n:Nat} {x:Str} (h:sc.names.lookup x=some .cell):∃c,(cellsFrom n sc.names []).lookup x=some c:=by
 have q:=PySem.W.cellsFrom_some sc.names n [] (.inl h)
 exact Option.isSome_iff_exists.mp q
theorem xv {CX:vN} {P:Program} {w:World} {K:IU} {mg:Str->Option Value} {base:Heap} {N ps:List Str} {qual:Str} {scope:Scope} {f:Addr} {cd:Value} {A:Around} {outer:List Env} {s s1:Shared} {H:Hp} {E:XK} {us:List Value} {vs:List V}
  (S:FnScope N ps scope) (hd:A.handled=none) (e0:Env0 P w K mg base A outer s H) (hl:vs.length=ps.length) (r:aQ vs us)
  (x:InCallC s s.heap.objs.size (bindL (envOfC qual scope s.heap.objs.size f cd).kindOf (ps.zip us) fun _=>none) (cellsFrom (s.heap.objs.size+1) scope.names []) (bindC (envOfC qual scope s.heap.objs.size f cd).kindOf (ps.zip us) fun _=>none) s1) :
  Inv (eX CX P w K mg base N qual scope f cd A outer s H E) [] (start N vs) H s1:=by
 have hpl:ps.length<=N.length:=by have:=congrArg List.length S.pre; rw [List.length_take] at this; lia
 obtain ⟨h1,tk,rfl,hk⟩:=x.done
 have noA:∀b:Addr,b∉(eX CX P w K mg base N qual scope f cd A outer s H E).ex:=fun b z=>absurd (show b∈([]:List Addr) from z) 0x4
 refine ⟨⟨e0.mod,S.kind,rfl,rfl,IJ _,fun y z c h1 h2=>?_,fun y hy=>?_,fun y c _ h=>?_,fun _=>hd,Around.frames_deeper e0.frames,.inr ⟨rfl,rfl⟩,fun b z=>absurd z (noA b),e0.bs,e0.bsz,fun b _ _=>noA b,fun b z=>absurd z (noA b),e0.funs,e0.frf⟩,
  rfl,e0.bare,Un.kept hk,⟨_,x.toInCall.ns,fun i y v h1 h2 h3=>?_⟩,fun y c h=>⟨_,x.cell y c h⟩,e0.hok.fresh (IJ _),fun y c h=>?_,fun p hp=>absurd (show p∈([]:List (Addr×Obj)) from hp) 0x4,e0.hok.kept hk,?_⟩
 ·exact name_of_addr x.apart (PySem.mem_of_lookup h1) (PySem.mem_of_lookup h2)
 ·have hy:scope.names.lookup y=some .cell\/scope.names.lookup y=some .free:=hy
  rcases hy with hy|hy
  ·exact tX hy
  ·exact absurd rfl (S.nofree _ (PySem.mem_of_lookup hy))
 ·exact Nat.le_of_lt (x.above y c (PySem.mem_of_lookup h))
 ·have hi:i<vs.length:=by
   unfold start at h2
   by_cases hi:i<vs.length
   ·exact hi
   ·rw [List.getElem?_append_right (by simpa using hi)] at h2
    rw [List.getElem?_replicate] at h2
    split at h2 <;> cases h2
  have ha:vs[i]?=some v:=by
   unfold start at h2
   rw [List.getElem?_append_left (by simpa using hi),List.getElem?_map] at h2
   cases e:vs[i]? with
   |none=>rw [e] at h2; cases h2
   |some a=>rw [e] at h2; cases h2; rfl
  obtain ⟨u,hu,rv⟩:=r.get ha
  have hp:ps[i]?=some y:=by
   rw [<-S.pre,List.getElem?_take_of_lt 0x1]; exact h1
  have ndP:ps.Nodup:=by rw [<-S.pre]; exact S.nd.sublist (List.take_sublist _ _)
  refine ⟨u,rv,?_⟩
  rcases S.par y (List.mem_of_getElem? hp) with k|k
  ·exact .inl ⟨k,qc ndP hp hu k⟩
  ·obtain ⟨c,e⟩:=tX (n:=s.heap.objs.size+1) k
   refine .inr ⟨.inl k,c,e,?_⟩
   have q:=x.cell y c e
   rw [qf ndP hp hu (by show scope.names.lookup y≠_; rw [k]; decide)] at q
   exact q
 ·exact e0.hok.fresh (Nat.le_of_lt (x.above y c (PySem.mem_of_lookup h)))
 ·unfold start
  show _=N.length
  rw [List.length_append,List.length_map,List.length_replicate]
  lia
theorem yK {CX:vN} {P:Program} {w:World} {K:IU} {mg:Str->Option Value} {base:Heap} {k:Nat} {f:Addr} {name qual:Str} {params:Arguments} {body:List Stmt} {scope:Scope} {dV kV doc pm cdv ct oc:Value} {an od:Option Addr}
  {osl:Array (Option Value)} {N ps:List Str} {sp:Sp} (lk:K.lookup f=some ⟨oc,od,.func (PySem.W.fnOf name qual params body scope dV kV doc pm an cdv ct),osl⟩) (hcd:PySem.W.codeIn K cdv qual=true) (S:FnScope N ps scope)
  (len:∀vs H Q E,sp vs H Q E->vs.length=ps.length)
  (hbody:∀(A:Around) (outer:List Env) (s:Shared) (H:Hp) (vs:List V) (Q:VK) (E:XK),Room k (A.deeper (envOfC qual scope s.heap.objs.size f cdv))->sp vs H Q E ->
   ∃t,sh (eX CX P w K mg base N qual scope f cdv A outer s H E) body t/\t { nx:=fun _ H'=>Q .non H',rt:=Q } (start N vs) H) :
  FnOk P w K mg base CX (k+1) f (PySem.W.fnOf name qual params body scope dV kV doc pm an cdv ct) ps sp:=by
 refine ⟨len,fun A outer s H args us vs Q E hr e0 hb r hsp=>?_⟩
 have hl:=len _ _ _ _ hsp
 have KX:K.In s.heap:=e0.mod.kin.keeps fun b o e=>(e0.bs b o e).1
 have lim:s.heap.NoLimit:=e0.mod.nolimit.keeps fun b o e=>(e0.bs b o e).1
 have hkind:∀y∈ps.zip us,scope.names.lookup y.1=some .local\/(scope.names.lookup y.1=some .cell/\((cellsFrom (s.heap.objs.size+1) scope.names []).lookup y.1).isSome=true):=fun ⟨n,v⟩ hy=>by
  rcases S.par n (List.of_mem_zip hy).1 with q|q
  ·exact .inl q
  ·exact .inr ⟨q,PySem.W.cellsFrom_some _ _ _ (.inl q)⟩
 refine codeAny_call_function hr.depth (KX _ _ lk) rfl S.co S.gen rfl (PySem.W.codeRec_of KX hcd) (hb _ _ _ _ ?_)
 refine wpAny_newFunctionEnv_cells S.kind hkind fun env he s1 x=>?_
 subst he
 refine ⟨lim.keeps x.toInCall.keep,codeAny_func ?_⟩
 obtain ⟨t,ht,hq⟩:=hbody A outer s H vs Q E (hr.deeper _) hsp
 have I:Inv (eX CX P w K mg base N qual scope f cdv A outer s H E) [] (start N vs) H s1:=xv S hr.hd e0 hl r x
 refine wpAny_mono (ht [] s1 (start N vs) H _ I hq) (fun fl s' hs=>?_) fun e s' hs=>hs
 have fin:∀{σ':St} {H':Hp} {v:V} {u:Value},Inv (eX CX P w K mg base N qual scope f cdv A outer s H E) [] σ' H' s'->bM v u->Q v H'->CE outer P w H s Q u s':=
  fun {σ' H' v u} J rv q=>⟨v,H',J.os,J.bare,J.base,J.hok,rv,q⟩
 cases fl with
 |ret u=>
  obtain ⟨v,σ',H',J,rv,q⟩:=hs
  exact fin J rv q
 |next=>
  obtain ⟨σ',H',J,q⟩:=hs
  exact fin (v:=V.non) (u:=Value.none) J rfl q
 |brk=>
  obtain ⟨_,_,_,q⟩:=hs
  exact False.elim q
 |cont=>
  obtain ⟨_,_,_,q⟩:=hs
  exact False.elim q
section
variable {X:Cx} {x:Str} {p pos:Pos} {e:Expr} {es:List Expr} {t:TA} {id T:String} {r:List V->Hp->VK->Prop}
noncomputable def Ik (r:List V->Hp->VK->Prop) (t:TA):TE:=fun σ H Q=>t σ H fun vs H1=>r vs H1 Q
theorem su (hc:iA X (.builtin id) r) (hg:Gl X x) (hm:X.mg x=none) (hv:bootBuiltins x=some (.builtin id)) (ha:PA X (e::es) t) (hn:x ≠ "__name__" :=by decide) (hdb:(x==("__debug__" : Str))=false:=by decide)
  (he:starEach (e::es) X.env=(false,eval e X.env)::starEach es X.env:=by rfl) (hpl:(backTo pos (starEach es X.env)).any (·.1)=false:=by rfl):PE X (.Call (.Name x p) (e::es) [] pos) (Ik r t):=by
 intro pins s σ H Q I h
 refine wpAny_Call_Name_kw (jZ I hg hm hv ?_ hn hdb)
 exact PyProof.Rows.callWith_builtin1 (cJ (ha pos pins s σ H _ I h) fun us s1 ⟨vs,H1,I1,r1,q1⟩=>hc pins s1 σ H1 vs us Q I1 r1 q1) he hpl
theorem pL (hc:iA X (.type T) r) (hg:Gl X x) (hm:X.mg x=none) (hv:bootBuiltins x=some (.type T)) (ha:PA X (e::es) t) (hn:x ≠ "__name__" :=by decide) (hdb:(x==("__debug__" : Str))=false:=by decide)
  (he:starEach (e::es) X.env=(false,eval e X.env)::starEach es X.env:=by rfl) (hpl:(backTo pos (starEach es X.env)).any (·.1)=false:=by rfl):PE X (.Call (.Name x p) (e::es) [] pos) (Ik r t):=by
 intro pins s σ H Q I h
 refine wpAny_Call_Name_kw (jZ I hg hm hv ?_ hn hdb)
 exact PyProof.Rows.callWith_type1 (cJ (ha pos pins s σ H _ I h) fun us s1 ⟨vs,H1,I1,r1,q1⟩=>hc pins s1 σ H1 vs us Q I1 r1 q1) he hpl
end
end L2
namespace HT
open PySem PyProof.Rows
noncomputable def lexLt:List Int->List Int->Bool
 |[],[]=>false
 |[],_::_=>true
 |_::_,[]=>false
 |x::xs,y::ys=>if x=y then lexLt xs ys else decide (x<y)
theorem lexLt_cons (x y:Int) (xs ys:List Int):lexLt (x::xs) (y::ys)=if x=y then lexLt xs ys else decide (x<y):=rfl
section
open PySem.SeqAt
open PySem.AutoSeq1 (wpAny_loadPart')
open PySem.MeetsSeq PySem.MeetsSeq2 PySem.MeetsSeq3
end
section
variable {prog:Program} {w:World} {A:Around} {E:Value->Shared->Prop} {s:Shared}
theorem cat_tup {t b:Addr} {vs ws:List Value} {Q:Value->Shared->Prop} (ht:IsTup s.heap t vs.toArray) (hb:IsTup s.heap b ws.toArray) (hv:vs≠[])
  (h1:ws=[]->Q (.ref t) s) (h2:ws≠[]->Q (.ref s.heap.objs.size) { s with heap:=s.heap.push { cls:=.type "tuple",data:=.seq (vs++ws).toArray } })
  (hsz:vs.length+ws.length<=sizeLine):wpAny (model prog w) A (binaryOp .Add (.ref t) (.ref b)) Q E s:=by
 obtain ⟨⟨cls,dd,data,sl⟩,ho,hc,n,hd⟩:=id ht
 obtain ⟨⟨cls2,dd2,data2,sl2⟩,ho2,hc2,n2,hd2⟩:=id hb
 simp only at hc hd hc2 hd2
 subst hc hd hc2 hd2
 have e:vs.toArray++ws.toArray=(vs++ws).toArray:=by simp
 by_cases hw:ws=[]
 ·exact concat_meets ⟨_,ho,rfl⟩ ⟨_,ho2,rfl⟩ noFill_tuple_add seq_tuple_add PySem.F.slot_tuple_add PySem.F.entry_tuple_add (PySem.F.args_tuple_add_2 _ _)
   (tuple_addW1 t b vs.toArray ws.toArray n n2 dd dd2 sl sl2 (by simpa using hv) (by simp [hw])) ⟨ho,ho2,h1 hw⟩
 ·refine concat_meets ⟨_,ho,rfl⟩ ⟨_,ho2,rfl⟩ noFill_tuple_add seq_tuple_add PySem.F.slot_tuple_add PySem.F.entry_tuple_add (PySem.F.args_tuple_add_2 _ _)
   (tuple_addW2 t b vs.toArray ws.toArray n n2 dd dd2 sl sl2 (by simpa using hv) (by simpa using hw) (by rw [List.size_toArray,List.size_toArray]; exact hsz)) ⟨ho,ho2,?_⟩
  rw [e]
  exact h2 hw
noncomputable def sIx (n d:Nat):Option Int->Nat
 |none=>d
 |some v=>if v<0 then (v+(n:Int)).toNat else min v.toNat n
end
end HT
namespace L2
open PySem PySem.Spec PyProof.Rows
noncomputable abbrev TO:=St->Hp->(Option Int->Hp->Prop)->Prop
noncomputable def PO (X:Cx) (e:Option Expr) (t:TO):Prop:=
 ∀(pins:List (Addr×Obj)) (s:Shared) (σ:St) (H:Hp) (Q:Option Int->Hp->Prop),Inv X pins σ H s->t σ H Q ->
  wpAny (model X.prog X.w) X.A (evalPart e X.env) (fun u s'=>∃o H',Inv X pins σ H' s'/\IsPart u o/\Q o H') X.xe s
noncomputable def Ck:TO:=fun _ H Q=>Q none H
noncomputable def FT (t:TE):TO:=fun σ H Q=>t σ H fun x H1=>∃i,x=.int i/\Q (some i) H1
theorem uA {ns:List Int}:∀{us:List Value},aQ (ns.map V.int) us->IntsAre us ns:=by
 induction ns with
 |nil=>intro us r; rw [List.map_nil] at r; cases r; exact .nil
 |cons n ns ih=>
  intro us r
  rw [List.map_cons] at r
  cases r with
  |cons r1 r2=>
   obtain ⟨t,e⟩:=r1
   subst e
   exact .cons n t (ih r2)
section
variable {X:Cx} {e:Expr} {te:TE} {lo hi:Option Expr} {tl th:TO} {pos p2:Pos}
theorem wA:PO X none Ck:=by
 intro pins s σ H Q I h
 rw [evalPart_none]
 exact IL ⟨none,H,I,.none,h⟩
theorem wj (h:PE X e te):PO X (some e) (FT te):=by
 intro pins s σ H Q I hw
 rw [evalPart_some]
 refine cJ (h pins s σ H _ I hw) fun u s1 ⟨x,H1,I1,r1,q1⟩=>?_
 obtain ⟨i,rfl,q⟩:=q1
 obtain ⟨t,rfl⟩:=r1
 exact ⟨some i,H1,I1,.int i t,q⟩
noncomputable def H9 (X:Cx) (r:V->Option Int->Option Int->Hp->VK->Prop):Prop:=
 ∀(pins:List (Addr×Obj)) (s:Shared) (σ:St) (H:Hp) (x:V) (v vl vu:Value) (lo hi:Option Int) (sl:Addr) (Q:VK),Inv X pins σ H s->bM x v->s.heap.IsSliceOf sl vl vu .none->IsPart vl lo->IsPart vu hi->r x lo hi H Q ->
  ∃T id,typeLookup (.type T) "__getitem__" = pure (some (.builtin id))/\s.TypeIs v T/\wpAny (model X.prog X.w) X.A (getItem v (.ref sl)) (EP X pins σ Q) X.xe s
noncomputable def ID (r:V->Option Int->Option Int->Hp->VK->Prop) (te:TE) (tl th:TO):TE:=fun σ H Q=>te σ H fun x H1=>tl σ H1 fun l H2=>th σ H2 fun u H3=>r x l u H3 Q
theorem tT {r:V->Option Int->Option Int->Hp->VK->Prop} (hr:H9 X r) (he:PE X e te) (hl:PO X lo tl) (hu:PO X hi th):PE X (.Subscript e (.Slice lo hi none p2) pos) (ID r te tl th):=by
 intro pins s σ H Q I h
 refine Subscript_ (cJ (he pins s σ H _ I h) fun v s1 ⟨x,H1,I1,r1,q1⟩=>?_)
 refine wpAny_Slice (cJ (hl pins s1 σ H1 _ I1 q1) fun vl s2 ⟨l,H2,I2,pl,q2⟩=>cJ (hu pins s2 σ H2 _ I2 q2) fun vu s3 ⟨u,H3,I3,pu,q3⟩=>?_)
 rw [evalPart_none]
 refine IL ?_
 have I4:Inv X pins σ H3 { s3 with heap:=s3.heap.push { cls:=.type "slice",data:=.fields #[vl,vu,.none] } }:=I3.kept (t':=s3.toks) fun b ob q=>IG _ q
 obtain ⟨T,id,hT,ht,hg⟩:=hr pins { s3 with heap:=s3.heap.push { cls:=.type "slice",data:=.fields #[vl,vu,.none] } } σ H3 x v vl vu l u s3.heap.objs.size Q I4 r1 (Heap.IsSliceOf.new ..) pl pu q3
 show wpAny (model X.prog X.w) X.A (subscriptTail e (.Slice lo hi none p2) v (.ref s3.heap.objs.size)) (EP X pins σ Q) X.xe { s3 with heap:=s3.heap.push { cls:=.type "slice",data:=.fields #[vl,vu,.none] } }
 exact tail_any (ops:=[.ref s3.heap.objs.size,v]) ht hT hg (by with_unfolding_all rfl)
noncomputable def xM (xs:List V) (lo hi:Option Int):List V:=(xs.drop (HT.sIx xs.length 0 lo)).take (HT.sIx xs.length xs.length hi-HT.sIx xs.length 0 lo)
theorem tH (xs:List V) (lo hi:Option Int):(xM xs lo hi).length<=xs.length:=by
 unfold xM
 rw [List.length_take,List.length_drop]
 lia
noncomputable def Gu (K:IU):R2:=fun x y H Q=>∃a b xs ys,x=.ref a/\y=.ref b/\jy K H a xs/\jy K H b ys/\xs≠[]/\xs.length+ys.length<=sizeLine /\
 (ys=[]->Q (.ref a) H)/\(ys≠[]->∀p,H p=none->Q (.ref p) (du H p (.tup (xs++ys))))
theorem aQ.nil_iff {xs:List V} {us:List Value} (r:aQ xs us):us=[]↔xs=[]:=by
 cases r with
 |nil=>simp
 |cons _ _=>simp
theorem CN:si X (binaryOp .Add) (Gu X.K):=by
 intro pins s σ H x y v u Q I rx ry h
 obtain ⟨a,b,xs,ys,rfl,rfl,ha,hb,hx,hz,q1,q2⟩:=h
 cases rx
 cases ry
 obtain ⟨its,r1,p1,_⟩:=I.tuple ha
 obtain ⟨its2,r2,p2,_⟩:=I.tuple hb
 refine HT.cat_tup p1 p2 (fun z=>hx (r1.nil_iff.mp z)) (fun z=>⟨.ref a,H,I,rfl,q1 (r2.nil_iff.mp z)⟩) (fun z=>?_) (by rw [<-r1.length,<-r2.length]; exact hz)
 refine ⟨.ref s.heap.objs.size,_,I.laid (t':=s.toks) (o:=.tup (xs++ys)) (fun b ob q=>IG _ q) (IJ _) ?_,rfl,q2 (fun w=>z (r2.nil_iff.mpr w)) _ (I.hok.fresh (IJ _))⟩
 exact ⟨by rw [List.length_append]; exact hz,_,r1.append r2,IsTup.new _ _⟩
end
noncomputable def AU (n:Nat) (i:Int):Option Nat:=if 0<=i then (if i<n then some i.toNat else none) else if -(n:Int)<=i then some (i+n).toNat else none
noncomputable def atI {α:Type} (xs:List α) (i:Int):Option α:=(AU xs.length i).bind fun j=>xs[j]?
theorem Bx {n:Nat} {i:Int} {j:Nat} (h:AU n i=some j):seqIndex? i n=some j/\j<n/\-(n:Int)<=i/\i<n:=by
 unfold AU at h
 by_cases h0:0<=i
 ·rw [if_pos h0] at h
  by_cases h1:i<n
  ·rw [if_pos h1] at h
   have e:i.toNat=j:=Option.some.inj h
   exact ⟨by rw [seqIndex_of h0 h1,e],0x1,0x1,h1⟩
  ·rw [if_neg h1] at h; cases h
 ·rw [if_neg h0] at h
  by_cases h1:-(n:Int)<=i
  ·rw [if_pos h1] at h
   have e:(i+n).toNat=j:=Option.some.inj h
   exact ⟨by rw [seqIndex_neg 0x1 h1,e],0x1,h1,0x1⟩
  ·rw [if_neg h1] at h; cases h
theorem rG {α:Type} {xs:List α} {i:Int} {v:α} (h:atI xs i=some v):∃j,seqIndex? i xs.length=some j/\xs[j]?=some v/\j<xs.length/\-(xs.length:Int)<=i/\i<xs.length:=by
 unfold atI at h
 cases e:AU xs.length i with
 |none=>rw [e] at h; cases h
 |some j=>
  rw [e] at h
  obtain ⟨h1,h2,h3,h4⟩:=Bx e
  exact ⟨j,h1,h,h2,h3,h4⟩
noncomputable def rR (b:Expr):Prop:=∀o i,subscripted b false o i=operate [o,i] (getItem o i)
noncomputable def Bd (X:Cx) (r:R2):Prop:=
 ∀(value slice:Expr) (pins:List (Addr×Obj)) (s:Shared) (σ:St) (H:Hp) (x y:V) (v u:Value) (Q:VK),Inv X pins σ H s->bM x v->bM y u->r x y H Q ->
  subscripted slice false v u=operate [v,u] (getItem v u)->wpAny (model X.prog X.w) X.A (subscriptTail value slice v u) (EP X pins σ Q) X.xe s
noncomputable def HX (X:Cx) (id:String) (r:V->List V->Hp->VK->Prop):Prop:=
 ∀(pins:List (Addr×Obj)) (s:Shared) (σ:St) (H:Hp) (x:V) (xs:List V) (v:Value) (us:List Value) (Q:VK),Inv X pins σ H s->bM x v->aQ xs us->r x xs H Q ->
  wpAny (model X.prog X.w) X.A (call (.builtin id) (v::us)) (EP X pins σ Q) X.xe s
section
variable {X:Cx} {a b:Expr} {ta tb:TE} {pos:Pos}
theorem Bd.or {r r':R2} (h:Bd X r) (h':Bd X r'):Bd X (fun x y H Q=>r x y H Q\/r' x y H Q):=by
 intro value slice pins s σ H x y v u Q I rx ry q hs
 rcases q with q|q
 ·exact h value slice pins s σ H x y v u Q I rx ry q hs
 ·exact h' value slice pins s σ H x y v u Q I rx ry q hs
theorem zi {r:R2} (hr:Bd X r) (ha:PE X a ta) (hb:PE X b tb) (hs:rR b):PE X (.Subscript a b pos) (HY r ta tb):=by
 intro pins s σ H Q I h
 exact Subscript_ (Hm ha hb I h fun v u s2 x y H2 I2 rx ry q=>hr a b pins s2 σ H2 x y v u Q I2 rx ry q (hs _ _))
noncomputable def GN (K:IU):R2:=fun x y H Q=>∃p xs i v,x=.ref p/\y=.int i/\gm K H p xs/\atI xs i=some v/\Q v H
noncomputable def Ge (K:IU):R2:=fun x y H Q=>∃p xs i v,x=.ref p/\y=.int i/\jy K H p xs/\atI xs i=some v/\Q v H
noncomputable def GQ:R2:=fun x y H Q=>∃z i c,x=.str z/\y=.int i/\z.length<=sizeLine/\atI z.cps.toList i=some c/\Q (.str ⟨#[c]⟩) H
theorem CJ:Bd X (GN X.K):=by
 intro value slice pins s σ H x y v u Q I rx ry h hs
 obtain ⟨p,xs,i,z,rfl,rfl,hq,he,q⟩:=h
 cases rx
 obtain ⟨t,rfl⟩:=ry
 obtain ⟨its,r,pl,hz⟩:=I.list hq
 obtain ⟨j,h1,h2,h3,h4,h5⟩:=rG he
 obtain ⟨w,ew,rw'⟩:=r.get h2
 have hl:=r.length
 have hn:=qR
 have fin:EP X pins σ Q w s:=⟨z,H,I,rw',q⟩
 by_cases h0:0<=i
 ·have hj:i.toNat=j:=by
   rw [seqIndex_of h0 h5] at h1
   exact Option.some.inj h1
  exact item_listR pl.isList h0 0x1 (by rw [hj]; simpa using ew) fin hs
 ·have hj:(i+(its.toArray.size:Int)).toNat=j:=by
   rw [seqIndex_neg 0x1 h4] at h1
   rw [List.size_toArray,<-hl]
   exact Option.some.inj h1
  exact subscriptTail_builtinR (x:=w) pl.isList.typeIs slot_list_getitem.lookup
   (wpAny_getItem_list_neg (Q:=fun r s'=>r=w/\EP X pins σ Q r s') pl.isList 0x1 (by rw [List.size_toArray] <;> lia) 0x1 (by rw [hj]; simpa using ew) ⟨rfl,fin⟩) hs
theorem Eo:Bd X (Ge X.K):=by
 intro value slice pins s σ H x y v u Q I rx ry h hs
 obtain ⟨p,xs,i,z,rfl,rfl,hq,he,q⟩:=h
 cases rx
 obtain ⟨t,rfl⟩:=ry
 obtain ⟨its,r,pl,hz⟩:=I.tuple hq
 obtain ⟨j,h1,h2,h3,h4,h5⟩:=rG he
 obtain ⟨w,ew,rw'⟩:=r.get h2
 have hl:=r.length
 have hn:=qR
 have fin:EP X pins σ Q w s:=⟨z,H,I,rw',q⟩
 exact subscriptTail_builtinR (x:=w) pl.typeIs slot_tuple_getitem.lookup
  (getItem_tuple (j:=j) (Q:=fun r s'=>r=w/\EP X pins σ Q r s') pl 0x1 0x1 (by rw [List.size_toArray,<-hl]; exact h1) (by simpa using ew) ⟨rfl,fin⟩) hs
theorem Fk:Bd X GQ:=by
 intro value slice pins s σ H x y v u Q I rx ry h hs
 obtain ⟨z,i,c,rfl,rfl,hz,he,q⟩:=h
 obtain ⟨t,rfl⟩:=rx
 obtain ⟨t',rfl⟩:=ry
 obtain ⟨j,h1,h2,h3,h4,h5⟩:=rG he
 have hl:z.cps.toList.length=z.length:=by simp [Str.length]
 rw [hl] at h1 h4 h5
 have hn:=qR
 exact tail_any (typeIs_str s z t) slot_str_getitem.lookup (getItem_str (c:=c) (by
  have e1:decide (i < -(2 ^ 63:Int))=false:=decide_eq_false 0x1
  have e2:decide (i>=2 ^ 63)=false:=decide_eq_false 0x1
  rw [e1,e2,Bool.or_false]) (by rw [h1]; simpa using h2) ⟨.str ⟨#[c]⟩,H,I.tok _,⟨_,rfl⟩,q⟩) hs
noncomputable def Ig (K:IU):R2:=fun x y H Q=>GN K x y H Q\/Ge K x y H Q\/GQ x y H Q
theorem uo:Bd X (Ig X.K):=CJ.or (Eo.or Fk)
theorem Inv.lst {pins:List (Addr×Obj)} {σ:St} {H:Hp} {s:Shared} {p:Addr} {xs:List V} (I:Inv X pins σ H s) (h:H p=some (.lst xs)) :
  ∃(its:List Value) (n:Nat),aQ xs its/\s.heap.get? p=some { cls:=.type "list",data:=.seq its.toArray n }/\xs.length<=sizeLine:=by
 obtain ⟨z,its,n,r,e⟩:=I.hok p _ h
 exact ⟨its,n,r,e,z⟩
theorem rA (lo hi:Option Int) (n:Nat):(sliceBounds lo hi none n).1=((HT.sIx n 0 lo:Nat):Int)/\(sliceBounds lo hi none n).2.1=((HT.sIx n n hi:Nat):Int)/\(sliceBounds lo hi none n).2.2=1:=by
 refine ⟨?_,?_,rfl⟩
 ·cases lo with
  |none=>simp [sliceBounds,HT.sIx]
  |some i=>
   simp only [sliceBounds,HT.sIx,Option.getD_none,show (1:Int)>0 by decide,if_true]
   by_cases h:i<0
   ·simp only [h,if_true] <;> lia
   ·simp only [h,if_false] <;> lia
 ·cases hi with
  |none=>simp [sliceBounds,HT.sIx]
  |some i=>
   simp only [sliceBounds,HT.sIx,Option.getD_none,show (1:Int)>0 by decide,if_true]
   by_cases h:i<0
   ·simp only [h,if_true] <;> lia
   ·simp only [h,if_false] <;> lia
theorem pF (its:List Value) (lo hi:Option Int):slicePick its.toArray lo hi none=((its.drop (HT.sIx its.length 0 lo)).take (HT.sIx its.length its.length hi-HT.sIx its.length 0 lo)).toArray:=by
 obtain ⟨h1,h2,h3⟩:=rA lo hi its.toArray.size
 unfold slicePick
 rw [h1,h2,h3]
 simp only [sliceRange_one,pick_run,List.size_toArray] <;> rfl
noncomputable def FC (K:IU):V->Option Int->Option Int->Hp->VK->Prop:=fun x lo hi H Q=>∃a xs,x=.ref a/\gm K H a xs/\∀p,H p=none->Q (.ref p) (du H p (.lst (xM xs lo hi)))
theorem wg:H9 X (FC X.K):=by
 intro pins s σ H x v vl vu lo hi sl Q I rx hs pl pu h
 obtain ⟨a,xs,rfl,hx,q⟩:=h
 cases rx
 obtain ⟨its,r,ht,hz⟩:=I.list hx
 have hlen:=r.length
 refine ⟨"list",_,slot_list_getitem.lookup,ht.isList.typeIs,?_⟩
 refine wpAny_getItem_list_slice ht.isList hs pl pu .none 0x4 ?_ (by rw [List.size_toArray] <;> lia)
 rw [pF,<-hlen]
 refine ⟨.ref s.heap.objs.size,_,I.laid (t':=s.toks) (o:=.lst (xM xs lo hi)) (fun b ob q=>IG _ q) (IJ _) ?_,rfl,q _ (I.hok.fresh (IJ _))⟩
 exact ⟨Nat.le_trans (tH xs lo hi) hz,_,0,(r.drop (HT.sIx xs.length 0 lo)).take (HT.sIx xs.length xs.length hi-HT.sIx xs.length 0 lo),Heap.get?_push_size _ rfl⟩
theorem kY:iA X (.builtin "len") (fun xs H Q=>∃p ys,xs=[.ref p]/\(gm X.K H p ys\/jy X.K H p ys)/\Q (.int ys.length) H):=by
 intro pins s σ H xs us Q I r h
 obtain ⟨p,ys,rfl,hq,q⟩:=h
 obtain ⟨u,rfl,rx⟩:=oE r
 cases rx
 have hn:=qR
 rcases hq with hq|hq
 ·obtain ⟨its,r',pl,hz⟩:=I.list hq
  have hlen:=r'.length
  exact Calls.call_len_list pl.isList (by simp only [List.size_toArray] <;> lia) ⟨.int ys.length,H,I.tok _,⟨s.toks+1,by rw [List.size_toArray,hlen]⟩,q⟩
 ·obtain ⟨its,r',pl,hz⟩:=I.tuple hq
  have hlen:=r'.length
  exact len_tuple pl (by simp only [List.size_toArray] <;> lia) ⟨.int ys.length,H,I.tok _,⟨s.toks+1,by rw [List.size_toArray,hlen]⟩,q⟩
theorem rq:iA X (.type "list") (fun xs H Q=>∃p ys,xs=[.ref p]/\(gm X.K H p ys\/jy X.K H p ys)/\∀l,H l=none->Q (.ref l) (du H l (.lst ys))):=by
 intro pins s σ H xs us Q I r h
 obtain ⟨p,ys,rfl,hq,q⟩:=h
 obtain ⟨u,rfl,rx⟩:=oE r
 cases rx
 have fin:∀(its:List Value),aQ ys its->ys.length<=sizeLine->∀(h':Heap) (c':Nat),(∀b o',s.heap.get? b=some o'->h'.get? b=some o') ->
   h'.get? s.heap.objs.size=some { cls:=.type "list",dict:=none,data:=.seq its.toArray c',slots:=#[] }->EP X pins σ Q (.ref s.heap.objs.size) { s with heap:=h' }:=fun its r' hz h' c' kp e=>
  ⟨.ref s.heap.objs.size,_,I.laid (t':=s.toks) kp (IJ _) (show dg X.prog X.w _ h' _ (.lst ys) from ⟨hz,its,c',r',e⟩),rfl,q _ (I.hok.fresh (IJ _))⟩
 rcases hq with hq|hq
 ·obtain ⟨its,r',pl,hz⟩:=I.list hq
  have hlen:=r'.length
  obtain ⟨o,ho,hc,n,hd⟩:=pl.isList
  exact call_list_seq p (.inl rfl) ho hc hd (fun h' c' kp e=>fin its r' hz h' c' kp e) (by simp only [List.size_toArray] <;> lia)
 ·obtain ⟨its,r',pl,hz⟩:=I.tuple hq
  have hlen:=r'.length
  obtain ⟨o,ho,hc,n,hd⟩:=pl
  exact call_list_seq p (.inr rfl) ho hc hd (fun h' c' kp e=>fin its r' hz h' c' kp e) (by simp only [List.size_toArray] <;> lia)
theorem oY:iA X (.type "tuple") (fun xs H Q=>∃p ys,xs=[.ref p]/\((gm X.K H p ys/\∀l,H l=none->Q (.ref l) (du H l (.tup ys)))\/(jy X.K H p ys/\Q (.ref p) H))):=by
 intro pins s σ H xs us Q I r h
 obtain ⟨p,ys,rfl,h⟩:=h
 obtain ⟨u,rfl,rx⟩:=oE r
 cases rx
 rcases h with ⟨hq,q⟩|⟨hq,q⟩
 ·obtain ⟨its,r',pl,hz⟩:=I.list hq
  have hlen:=r'.length
  refine call_tuple_list pl.isList (fun h' kp=>?_) (by simp only [List.size_toArray] <;> lia)
  have I1:Inv X pins σ H { s with heap:=h' }:=I.kept (t':=s.toks) kp
  have I2:Inv X pins σ (du H h'.objs.size (.tup ys)) { s with heap:=h'.push { cls:=.type "tuple",data:=.seq its.toArray } }:=
   I1.laid (t':=s.toks) (fun b o e=>IG _ e) (IJ _) (show dg X.prog X.w _ _ _ (.tup ys) from ⟨hz,its,r',IsTup.new _ _⟩)
  exact ⟨.ref h'.objs.size,_,I2,rfl,q _ (I1.hok.fresh (IJ _))⟩
 ·obtain ⟨its,r',pl,hz⟩:=I.tuple hq
  exact call_tuple_same pl ⟨.ref p,H,I,rfl,q⟩
noncomputable def Il (K:IU) (T:String) (x:V) (H:Hp):Prop:=match x with
 |.str _=>T = "str"
 |.int _=>T = "int"
 |.ref p=>(T = "list" /\ ∃xs,gm K H p xs)\/(T = "tuple" /\ ∃o,K.lookup p=some o/\o.cls=.type "tuple" /\ o.dict=none) \/
   (T = "dict" /\ ((∃kvs,H p=some (.dK kvs))\/∃kvs,H p=some (.dT kvs)))\/(T = "set" /\ ∃S n,H p=some (.set S n))
 |_=>False
theorem E4 {pins:List (Addr×Obj)} {σ:St} {H:Hp} {s:Shared} {T:String} {x:V} {v:Value} (I:Inv X pins σ H s) (r:bM x v) (ty:Il X.K T x H) :
  s.TypeIs v T/\∀a,v=.ref a->∃ob,s.heap.get? a=some ob/\ob.dict=none:=by
 cases x with
 |str z=>
  obtain ⟨t,rfl⟩:=r
  cases (show T = "str" from ty)
  exact ⟨typeIs_str s z t,fun _ e=>nomatch e⟩
 |int i=>
  obtain ⟨t,rfl⟩:=r
  cases (show T = "int" from ty)
  exact ⟨typeIs_int s i t,fun _ e=>nomatch e⟩
 |ref p=>
  cases r
  rcases ty with ⟨rfl,xs,hq⟩|⟨rfl,o,hk,hc,hd⟩|⟨rfl,hk⟩|⟨rfl,S,n,hk⟩
  ·obtain ⟨its,_,pl,_⟩:=I.list hq
   refine ⟨pl.isList.typeIs,fun a e=>?_⟩
   cases e
   obtain ⟨o,n,e,c,hd,_⟩:=pl
   exact ⟨o,e,hd⟩
  ·refine ⟨⟨o,I.kIn p o hk,hc⟩,fun a e=>?_⟩
   cases e
   exact ⟨o,I.kIn _ o hk,hd⟩
  ·have z:∃o,s.heap.get? p=some o/\o.ExactDict:=by
    rcases hk with ⟨kvs,hk⟩|⟨kvs,hk⟩
    ·obtain ⟨_,_,_,_,o,_,_,e,ex,_⟩:=I.hok p _ hk
     exact ⟨o,e,ex⟩
    ·obtain ⟨_,_,_,_,o,_,_,e,ex,_⟩:=I.hok p _ hk
     exact ⟨o,e,ex⟩
   obtain ⟨o,e,ex⟩:=z
   refine ⟨⟨o,e,ex.1⟩,fun a e2=>?_⟩
   cases e2
   exact ⟨o,e,ex.2.1⟩
  ·obtain ⟨o,_,_,_,e,ex,_⟩:=I.hok p _ hk
   refine ⟨⟨o,e,ex.1⟩,fun a e2=>?_⟩
   cases e2
   exact ⟨o,e,ex.2.1⟩
 |_=>exact False.elim ty
noncomputable def IA (K:IU) (T:String) (r:V->List V->Hp->VK->Prop) (to:TE) (t:TA):TE:=fun σ H Q=>to σ H fun x H1=>Il K T x H1/\t σ H1 fun xs H2=>r x xs H2 Q
variable {o e:Expr} {es:List Expr} {to:TE} {t:TA} {name:Str} {apos cpos:Pos} {T id:String} {r:V->List V->Hp->VK->Prop}
theorem tG (pa:PlainAttrs T) (slot:Slot T name id) (hty:typeOf (.builtin id)=pure (.type "method_descriptor")) (hm:HX X id r) (ho:PE X o to) (ha:PA X (e::es) t)
  (hbase:attributeBase o name X.env (eval o X.env)=eval o X.env:=by rfl)
  (hfew:((backTo cpos (starEach (e::es) X.env)).all (fun x=>!x.1)&&(backToKw cpos (keywordEach [] X.env)).all (fun x=>x.1.isSome)
   && decide ((e::es).length+([]:List Keyword).length+(if ([]:List Keyword).isEmpty then 0 else 1)<30))=true:=by rfl)
  (hline:(apos.endLine==cpos.line)=true:=by rfl) (hs:starEach (e::es) X.env=(false,eval e X.env)::starEach es X.env:=by rfl) (hplain:(backTo cpos (starEach es X.env)).any (·.1)=false:=by rfl) :
  PE X (.Call (.Attribute o name apos) (e::es) [] cpos) (IA X.K T r to t):=by
 intro pins s σ H Q I h
 refine wpAny_Call_method_late hbase hfew hline rfl (cJ (ho pins s σ H _ I h) fun v s1 ⟨x,H1,I1,r1,ty,q1⟩=>?_)
 obtain ⟨h1,h2⟩:=E4 I1 r1 ty
 refine ⟨T,id,pa,slot,hty,h1,h2,?_⟩
 have hA:=ha cpos pins s1 σ H1 _ I1 q1
 rw [hs] at hA ⊢
 refine Calls.callWith_builtin (by show (false||(backTo cpos (starEach es X.env)).any (·.1))=false; rw [hplain] <;> rfl) (Calls.evalArgs_plain ?_)
 exact cJ hA fun us s2 ⟨vs,H2,I2,r2,q2⟩=>hm pins s2 σ H2 x vs v us Q I2 r1 r2 q2
end
noncomputable def Ib (X:Cx) (id:String) (r:V->List V->Hp->VK->Prop):Prop:=
 ∀(pins:List (Addr×Obj)) (s:Shared) (σ:St) (H:Hp) (x:V) (xs:List V) (v:Value) (us:List Value) (Q:VK),Inv X pins σ H s->bM x v->aQ xs us->r x xs H Q ->
  wpAny (model X.prog X.w) X.A (call (.builtin id) (v::us)) (EP X pins σ Q) X.xe s
theorem aQ.one:∀{x:V} {us:List Value},aQ [x] us->∃u,us=[u]/\bM x u
 |_,_,.cons r .nil=>⟨_,rfl,r⟩
theorem aQ.zero:∀{us:List Value},aQ [] us->us=[]
 |_,.nil=>rfl
theorem aQ.eraseIdx:∀{xs:List V} {us:List Value} (i:Nat),aQ xs us->aQ (xs.eraseIdx i) (us.eraseIdx i)
 |_,_,_,.nil=>.nil
 |_,_,0,.cons _ t=>t
 |_,_,i+1,.cons r t=>.cons r (aQ.eraseIdx i t)
theorem aQ.reverse {xs:List V} {us:List Value} (h:aQ xs us):aQ xs.reverse us.reverse:=by
 induction h with
 |nil=>exact .nil
 |cons r t ih=>rw [List.reverse_cons,List.reverse_cons]; exact aQ.append ih (.cons r .nil)
theorem aQ.rep {xs:List V} {us:List Value} (h:aQ xs us):∀k:Nat,aQ (List.replicate k xs).flatten (List.replicate k us).flatten
 |0=>.nil
 |k+1=>by
  rw [List.replicate_succ,List.replicate_succ,List.flatten_cons,List.flatten_cons]
  exact aQ.append h (aQ.rep h k)
theorem pO {α:Type}:∀(l:List α) (i:Nat),(l.eraseIdx i).length<=l.length
 |[],_=>IJ _
 |_::_,0=>Nat.le_succ _
 |_::r,i+1=>Nat.succ_le_succ (pO r i)
theorem qy (its:List Value):∀(k:Nat) (acc:List Value),
  List.foldl (fun x1 x2=>x1++x2) acc.toArray (List.replicate k its.toArray)=(acc++(List.replicate k its).flatten).toArray
 |0,acc=>by simp
 |k+1,acc=>by
  have e:acc.toArray++its.toArray=(acc++its).toArray:=by simp
  have e2:(acc++its)++(List.replicate k its).flatten=acc++(List.replicate (k+1) its).flatten:=by
   rw [List.replicate_succ,List.flatten_cons,List.append_assoc]
  rw [<-e2,<-qy its k (acc++its),<-e,List.replicate_succ,List.foldl_cons]
section
variable {X:Cx} {pins:List (Addr×Obj)} {σ:St} {H:Hp} {s:Shared} {l b:Addr} {xs ys zs:List V}
theorem Inv.lset {its its':List Value} {n:Nat} {f:Array Value->Array Value} {t':Nat} (I:Inv X pins σ H s) (hH:H l=some (.lst xs))
  (e:s.heap.get? l=some { cls:=.type "list",data:=.seq its.toArray n }) (hf:f its.toArray=its'.toArray) (hv:aQ ys its') (hz:ys.length<=sizeLine) :
  Inv X pins σ (du H l (.lst ys)) { s with heap:=s.heap.update l (Obj.mapSeq f),toks:=t' }:=by
 have q:=PySem.IsL.update e f
 rw [hf] at q
 refine I.write (x:=l) (e:=l) (by rw [hH]; exact trivial) (.inl rfl) (fun b' u hb hu=>(Heap.get?_update_other s.heap (Obj.mapSeq f) (Ne.symm hb)).trans hu) ⟨_,q⟩ ?_
 exact ⟨hz,its',_,hv,q⟩
theorem Inv.lnew {its:List Value} {t':Nat} (I:Inv X pins σ H s) (hv:aQ ys its) (hz:ys.length<=sizeLine) :
  Inv X pins σ (du H s.heap.objs.size (.lst ys)) { s with heap:=s.heap.push { cls:=.type "list",data:=.seq its.toArray },toks:=t' }:=
 I.laid (fun _ _ q=>IG _ q) (IJ _) ⟨hz,its,0,hv,Heap.get?_push_size _ rfl⟩
theorem Inv.fresh (I:Inv X pins σ H s):H s.heap.objs.size=none:=I.hok.fresh (IJ _)
theorem Inv.lstM (I:Inv X pins σ H s) (hH:H l=some (.lst xs)):xs.length<=sizeLine/\∃(its:List Value) (n:Nat),aQ xs its/\xs.length=its.length/\s.heap.get? l=some { cls:=.type "list",data:=.seq its.toArray n }:=by
 obtain ⟨z,its,n,r,e⟩:=I.hok l _ hH
 exact ⟨z,its,n,r,r.length,e⟩
theorem sV {n:Nat} (h:n<=sizeLine):Builtin.List.listTooLong n=false:=by
 unfold Builtin.List.listTooLong
 exact decide_eq_false 0x1
end
section
variable {X:Cx}
noncomputable def Ce:V->List V->Hp->VK->Prop:=fun x vs H Q=>∃l xs y,x=.ref l/\vs=[y]/\H l=some (.lst xs)/\xs.length<sizeLine/\Q .non (du H l (.lst (xs++[y])))
theorem qj:Ib X "list.append" Ce:=by
 intro pins s σ H x vs v us Q I rx rv h
 obtain ⟨l,xs,y,rfl,rfl,hH,hz,q⟩:=h
 cases rx
 obtain ⟨u,rfl,ru⟩:=rv.one
 obtain ⟨z,its,n,r,hl,e⟩:=I.lstM hH
 refine call_meets F.slot_list_append ⟨_,e,rfl⟩ F.entry_list_append (F.args_list_append_2 _ _) (PySem.list_append l its.toArray n u (by rw [List.size_toArray]; lia)) ⟨e,?_⟩
 refine ⟨.non,_,I.lset (its':=its++[u]) hH e 0x4 (r.append (.cons ru .nil)) ?_,rfl,q⟩
 rw [List.length_append,List.length_singleton]
 lia
noncomputable def w9:V->List V->Hp->VK->Prop:=fun x vs H Q=>∃l b xs zs,x=.ref l/\vs=[.ref b]/\H l=some (.lst xs)/\H b=some (.lst zs)/\xs.length+zs.length<=sizeLine/\Q .non (du H l (.lst (xs++zs)))
theorem xD:Ib X "list.extend" w9:=by
 intro pins s σ H x vs v us Q I rx rv h
 obtain ⟨l,b,xs,zs,rfl,rfl,hH,hB,hz,q⟩:=h
 cases rx
 obtain ⟨u,rfl,ru⟩:=rv.one
 cases ru
 obtain ⟨z,its,n,r,hl,e⟩:=I.lstM hH
 obtain ⟨z2,its2,n2,r2,hl2,e2⟩:=I.lstM hB
 have hsz:its.toArray.size+its2.toArray.size<=sizeLine:=by rw [List.size_toArray,List.size_toArray]; lia
 have hlong:¬(!its.toArray.isEmpty&&Builtin.List.listTooLong (its.toArray.size+its2.toArray.size))=true:=by
  rw [sV hsz,Bool.and_false]
  exact Bool.false_ne_true
 refine call_meets F.slot_list_extend ⟨_,e,rfl⟩ F.entry_list_extend (F.args_list_extend_2 _ _)
  (AutoSeq1.list_extend_list_list_0 l its.toArray n b its2.toArray n2 hlong (by rw [List.size_toArray]; lia) 0x1) ⟨e,e2,?_⟩
 refine ⟨.non,_,I.lset (its':=its++its2) hH e 0x4 (r.append r2) ?_,rfl,q⟩
 rw [List.length_append]
 lia
noncomputable def Hc:R2:=fun x y H Q=>∃l b xs zs,x=.ref l/\y=.ref b/\H l=some (.lst xs)/\H b=some (.lst zs)/\xs.length+zs.length<=sizeLine/\∀p,H p=none->Q (.ref p) (du H p (.lst (xs++zs)))
theorem Ed:si X (binaryOp .Add) Hc:=by
 intro pins s σ H x y v u Q I rx ry h
 obtain ⟨l,b,xs,zs,rfl,rfl,hH,hB,hz,q⟩:=h
 cases rx
 cases ry
 obtain ⟨z,its,n,r,hl,e⟩:=I.lstM hH
 obtain ⟨z2,its2,n2,r2,hl2,e2⟩:=I.lstM hB
 refine PySem.P.add_list e e2 ?_ (by rw [List.size_toArray,List.size_toArray]; lia)
 have ea:its.toArray++its2.toArray=(its++its2).toArray:=by simp
 rw [ea]
 exact ⟨.ref _,_,I.lnew (t':=s.toks) (r.append r2) (by rw [List.length_append]; lia),rfl,q _ I.fresh⟩
noncomputable def Hq:R2:=fun x y H Q=>∃l k xs,x=.ref l/\y=.int k/\H l=some (.lst xs)/\-(2 ^ 63)<=k/\k<2 ^ 63/\xs.length*k.toNat<=sizeLine /\
 ∀p,H p=none->Q (.ref p) (du H p (.lst (List.replicate k.toNat xs).flatten))
theorem B6 {α:Type} (xs:List α) (k:Nat):(List.replicate k xs).flatten.length=k*xs.length:=by
 induction k with
 |zero=>simp
 |succ k ih=>rw [List.replicate_succ,List.flatten_cons,List.length_append,ih,Nat.succ_mul,Nat.add_comm]
theorem ES:si X (binaryOp .Mult) Hq:=by
 intro pins s σ H x y v u Q I rx ry h
 obtain ⟨l,k,xs,rfl,rfl,hH,h1,h2,hz,q⟩:=h
 cases rx
 obtain ⟨t,rfl⟩:=ry
 obtain ⟨z,its,n,r,hl,e⟩:=I.lstM hH
 have hlen:its.toArray.size*k.toNat<=sizeLine:=by rw [List.size_toArray,<-hl]; exact hz
 have hcap:¬its.toArray.size*k.toNat>(2 ^ 63-1) / 8:=by
  have:(sizeLine:Nat)<=(2 ^ 63-1) / 8:=by decide
  lia
 have hfit:¬(!Builtin.List.listFitsIndex k)=true:=by
  rw [fitsIndex_both h1 h2]
  exact Bool.false_ne_true
 have hlong:¬Builtin.List.listTooLong (its.toArray.size*k.toNat)=true:=by
  rw [sV hlen]
  exact Bool.false_ne_true
 have hnew:List.foldl (fun x1 x2=>x1++x2) #[] (List.replicate (if its.toArray.isEmpty=true then 0 else k.toNat) its.toArray)=(List.replicate k.toNat its).flatten.toArray:=by
  have f0:∀m:Nat,List.foldl (fun x1 x2=>x1++x2) #[] (List.replicate m its.toArray)=(List.replicate m its).flatten.toArray:=fun m=>by
   have:=qy its m []
   rw [List.nil_append] at this
   exact this
  rw [f0]
  cases its with
  |nil=>simp
  |cons a r'=>rw [if_neg 0x4]
 refine wpAny_binaryOp_repeat_ref (T:= "list") (U:= "int") 0x3 ⟨_,e,rfl⟩ (fun s'=>typeIs_int s' k t) noFill_list_mul F.fills_int_mul F.slot_int_rmul repeat_list F.slot_int_index.lookup
  (call_meets F.slot_int_rmul (typeIs_int s k t) F.entry_int_rmul (F.args_int_rmul_2 _ _) (int___rmul___int_list k t l its.toArray n)
   ⟨e,rfl,⟨_,e,rfl⟩,call_meets F.slot_list_mul ⟨_,e,rfl⟩ F.entry_list_mul (F.args_list_mul_2 _ _) (AutoListH.list___mul___list_int_3 l its.toArray n k t hfit hcap hlong) ⟨e,?_⟩⟩)
 rw [hnew]
 exact ⟨.ref _,_,I.lnew (t':=s.toks) (r.rep k.toNat) (by rw [B6,Nat.mul_comm]; exact hz),rfl,q _ I.fresh⟩
end
section
variable {prog:Program} {w:World} {A:Around} {E:Value->Shared->Prop} {s:Shared}
set_option maxRecDepth 100000 in
end
section
variable {X:Cx}
end
end L2
namespace Att
open PySem PySem.W PySem.Calls PyProof.Rows
theorem mH {P:Params} {h:Heap}:∀(ns:List Int) (vs:List Value),WellAll P h vs (ns.map WData.int)->IntsAre vs ns:=by
 intro ns
 induction ns with
 |nil=>
  intro vs w
  rw [List.map_nil] at w
  cases w
  exact .nil
 |cons n ns ih=>
  intro vs w
  rw [List.map_cons] at w
  cases w with
  |cons a b=>
   cases a
   exact .cons _ _ (ih _ b)
theorem ya {l:OpenLaw} {n:Nat} (hn:l.most=some n) {P:Params} {h:Heap} {args:List WData} {vals:List Value}
  (hpre:l.row.toRowW.claim.pre args=true) (hwl:WellAll P h vals args) :
  ∃a vs ns,vals=[Value.ref a]/\args=[WData.list (ns.map WData.int)]/\h.get? a=some { cls:=.type "list",data:=.seq vs.toArray }/\IntsAre vs ns/\ns.length<=n:=by
 have hsh:WShape.hasAll [] args [.list .int]=true:=(pre_splitW hpre).1
 have hc:l.pre.holds [] { args:=args }=true:=(pre_splitW hpre).2
 obtain ⟨d,r,rfl,h1,h2⟩:=hasAllW_cons hsh
 obtain rfl:=hasAllW_nil h2
 obtain ⟨xs,rfl,h3⟩:=hasW_list h1
 obtain ⟨ns,rfl⟩:=items_int h3
 have hlen:ns.length<=n:=by
  unfold OpenLaw.pre at hc
  have h4:(WTm.not (.lt (.lit (.int (n:Int))) (.len (.arg 0)))).holds [] { args:=[.list (ns.map .int)] }=true:=by
   have h4:=(holds_andW hc).1
   rw [hn] at h4
   exact h4
  have h5:=condW_of h4 (w_not (w_lt w_lit (w_len_list (w_arg rfl))))
  rw [List.length_map] at h5
  refine Nat.le_of_not_lt fun q=>?_
  have q':(n:Int)<((ns.length:Nat):Int):=by lia
  first
   |(rw [decide_eq_true q'] at h5; exact absurd h5 0x3)
   |(simp at h5; lia)
 cases hwl with
 |cons w1 w2=>
  cases w2
  cases w1 with
  |list ho hall=>exact ⟨_,_,ns,rfl,rfl,ho,mH ns _ hall,hlen⟩
theorem xW (l:OpenLaw) (args:List WData):l.row.toRowW.claim.post args (.bool true) args=true:=
 postW_of (r:=l.row.toRowW) (X:=(true==true))
  (show WShape.has [] (.bool true) .bool=true by first|rfl|decide|simp [WShape.has,WShape.arms,WShape.armsAll])
  (show (WTm.eq .res (.lit (.bool true))).value [] { args:=args,res:=some (.bool true),after:=args }=some (.bool (true==true)) from w_eq_bool (w_res rfl) w_lit) rfl
theorem attach_call {l:OpenLaw} {n:Nat} {q:Program} {loose:List Str} {XP:(Str->Option Value)->Heap->Prop} {YP:World->Heap->Prop} {d:DefRec}
  (hn:l.most=some n) (hdf:d.params.defaults=[])
  (call:∀(w:World) (s₀ s₁:Shared) (mg mb:Str->Option Value) (fa:Addr) (o:Obj) (pm cd doc:Value) (a:Addr) (vs:List Value) (ns:List Int),
   Ground q loose [] XP w s₀ mg mb s₁.heap->YP w s₁.heap ->
   s₁.heap.get? fa=some o->o.data=.func (docDef d.name d.params d.body d.scope pm cd doc)->s₁.heap.CodeRec cd d.name->mg d.name=some (.ref fa) ->
   s₁.heap.get? a=some { cls:=.type "list",data:=.seq vs.toArray }->IntsAre vs ns->ns.length<=n->s₁.gens=#[] ->
   codeAny (model l.prog w) callerA (.call (.ref fa) ⟨[.ref a],[]⟩) (fun r s'=>r=.ok (.ret (.bool true))/\OldK s₁.heap s'.heap/\s'.os=s₁.os/\AllBare s'.gens) s₁) :
  WalkO q loose XP YP l.row.toRowW d [] (fun f vs=>PySem.call f vs):=by
 intro w s₀ s₁ mg mb G Y fa o pm cd doc dV kV ho hd hcd hD hmg hg args vals as hpre hlay hrd hwl hlo
 obtain rfl:dV=.none:=Dflts.none hD hdf
 obtain rfl:kV=.none:=Dflts.noKw hD
 obtain ⟨a,vs,ns,rfl,rfl,hobj,hints,hlen⟩:=ya hn hpre hwl
 refine enter_call (codeAny_mono (call w s₀ s₁ mg mb fa o pm cd doc a vs ns G Y ho (fd_plain hd) hcd hmg hobj hints hlen hg) fun r s' hq=>?_)
 obtain ⟨rfl,h2,h3,h4⟩:=hq
 exact ⟨.inl ⟨.bool true,.bool true,[],rfl,fun _=>rfl,.bool true,xW l _,fun _=>⟨List.Pairwise.nil,fun _ hm=>(nomatch hm)⟩⟩,h2,h3,h4⟩
section
variable {prog:Program} {w:World} {A:Around} {E:Value->Shared->Prop} {s:Shared} {K:Frag}
end
end Att
namespace L2
open PySem PySem.Spec PyProof.Rows
theorem gQ:∀{vs:List Value} {ns:List Int},IntsAre vs ns->aQ (ns.map V.int) vs
 |_,_,.nil=>.nil
 |_,_,.cons n t h=>.cons ⟨t,rfl⟩ (gQ h)
noncomputable def Ek (H:Hp):Prop:=∀b,H b=none\/∃o xs,H b=some (.frz o (.lst xs))
theorem yZ {P:Program} {w:World} {K:IU} {mg mb:Str->Option Value} {CX:vN} {k:Nat} {fa a:Addr} {fd:FuncData} {x:Str} {sp:Sp} {s₁:Shared} {vs:List Value} {ns:List Int}
  (KX:K.In s₁.heap) (hns:s₁.heap.Ns mainGlobals mg) (hb:s₁.heap.Ns builtinsNs mb) (hbb:∀x:Str,x ≠ "__name__" -> mb x=bootBuiltins x) (hlim:s₁.heap.NoLimit) (hg:s₁.gens=#[])
  (ha:s₁.heap.get? a=some { cls:=.type "list",data:=.seq vs.toArray }) (hi:IntsAre vs ns) (hl:ns.length<=sizeLine) (hr:Room k callerA)
  (F:∀base:Heap,K.In base->base.Ns mainGlobals mg->FnOk P w K mg base CX k fa fd [x] sp) (hbind:∀(s:Shared) (u:Value),BindsTo s fd ⟨[u],[]⟩ [(x,u)])
  (hsp:∀H:Hp,Ek H->gm K H a (ns.map V.int)->sp [.ref a] H (fun v _=>v=.bl true) fun _ _ _=>False)
  (hCX:∀H e s',CX [] H s₁ (fun _ _ _=>False) e s'->False) :
  codeAny (model P w) callerA (.call (.ref fa) ⟨[.ref a],[]⟩) (fun r s'=>r=.ok (.ret (.bool true))/\OldK s₁.heap s'.heap/\s'.os=s₁.os/\AllBare s'.gens) s₁:=by
 have rv:=gQ hi
 have lenV:=hi.length
 have core:∀H:Hp,Ek H->gm K H a (ns.map V.int)->lR P w H s₁.heap->(∀b,H b≠none->b=a)->(H a≠none->K.lookup a=none) ->
   codeAny (model P w) callerA (.call (.ref fa) ⟨[.ref a],[]⟩) (fun r s'=>r=.ok (.ret (.bool true))/\OldK s₁.heap s'.heap/\s'.os=s₁.os/\AllBare s'.gens) s₁:=by
  intro H hO hS hok hA hK
  have base_of:∀{b:Addr} {o:Obj},s₁.heap.get? b=some o->H b=none->(rp s₁.heap H).get? b=some o:=fun e n=>yy e n
  have noA:∀{b:Addr} {o:Obj} {es:Array DictEntry} {ep:Nat},s₁.heap.get? b=some o->o.data=.dict es ep->H b=none:=fun {b o es ep} e d=>by
   cases q:H b with
   |none=>rfl
   |some u=>
    have e':b=a:=hA b (by rw [q]; simp)
    subst e'
    rw [ha] at e; cases e
    have d':Data.seq vs.toArray _=Data.dict es ep:=d
    cases d'
  have nsK:∀{b:Addr} {m:Str->Option Value},s₁.heap.Ns b m->(rp s₁.heap H).Ns b m:=fun {b m} ⟨o,es,ep,e,d,r⟩=>⟨o,es,ep,base_of e (noA e d),d,r⟩
  have hKb:K.In (rp s₁.heap H):=fun b o e=>base_of (KX b o e) (by
   cases q:H b with
   |none=>rfl
   |some u=>
    have e':b=a:=hA b (by rw [q]; simp)
    subst e'
    rw [hK (by rw [q]; simp)] at e; cases e)
  have hM:Mod K mg (rp s₁.heap H):=⟨hKb,nsK hns,⟨mb,nsK hb,hbb⟩,let ⟨mc,h1,h2⟩:=hlim; ⟨mc,nsK h1,h2⟩⟩
  have e0:Env0 P w K mg (rp s₁.heap H) callerA [] s₁ H:=⟨rfl,hM,fun b o e=>Cj e,Nat.le_of_eq (xI _ _),trivial,fun b hb=>absurd (show b∈([]:List Addr) from hb) 0x4,hok,.of_eq hg⟩
  refine codeAny_mono ((F _ hKb (nsK hns)).run callerA [] s₁ H ⟨[.ref a],[]⟩ [.ref a] [.ref a] _ _ hr e0 (hbind s₁ (.ref a)) (.cons rfl .nil) (hsp H hO hS)) fun r s' h=>?_
  cases r with
  |error e=>exact (hCX H e s' h).elim
  |ok fl=>
   cases fl with
   |next=>exact False.elim h
   |brk=>exact False.elim h
   |cont=>exact False.elim h
   |ret u=>
    obtain ⟨v,H',os,bare,un,hok',r',q⟩:=h
    have q':v=.bl true:=q
    subst q'
    obtain rfl:u=Value.bool true:=r'
    refine ⟨rfl,OldK.of_keep fun b o e=>?_,os,bare⟩
    cases q:H b with
    |none=>exact un.keep b o e q (by intro z; exact absurd (show b∈([]:List Addr) from z) 0x4) 0x4
    |some u=>
     rcases hO b with z|⟨ob,xs,z⟩
     ·rw [q] at z; cases z
     ·have z2:=un.frzs b ob _ z
      obtain ⟨e1,_⟩:=hok b _ z
      obtain ⟨e2,_⟩:=hok' b _ z2
      rw [e] at e1; cases e1
      exact e2
 cases hk:K.lookup a with
 |some o=>
  have e:=KX a o hk
  rw [ha] at e
  cases e
  refine core (fun _=>none) (fun _=>.inl rfl) (.inr ⟨_,vs.toArray,_,hk,rfl,rfl,rfl,by rw [List.size_toArray,lenV]; exact hl,by simpa using rv⟩) (fun b u z=>by have z':(none:Option HO)=some u:=z; cases z') (fun b z=>absurd rfl z) fun z=>absurd rfl z
 |none=>
  refine core (fun b=>if b=a then some (.frz { cls:=.type "list",data:=.seq vs.toArray } (.lst (ns.map V.int))) else none) (fun b=>?_) (.inl (.inr ⟨{ cls:=.type "list",data:=.seq vs.toArray },if_pos rfl⟩)) (fun b u z=>?_) (fun b z=>?_) fun _=>hk
  ·by_cases hb:b=a
   ·exact .inr ⟨_,_,if_pos hb⟩
   ·exact .inl (if_neg hb)
  ·by_cases hb:b=a
   ·have z':=(if_pos hb).symm.trans z
    cases z'
    subst hb
    exact ⟨ha,by rw [List.length_map]; exact hl,vs,_,rv,ha⟩
   ·have z':=(if_neg hb).symm.trans z
    cases z'
  ·by_cases hb:b=a
   ·exact hb
   ·exact absurd (if_neg hb) z
theorem walk_of {l:PySem.W.OpenLaw} {n k:Nat} {q:Program} {loose:List Str} {XP:(Str->Option Value)->Heap->Prop} {YP:World->Heap->Prop} {d:DefRec} {K:Params->IU} {CX:World->vN} {sp:World->Sp} {x:Str}
  (hn:l.most=some n) (hn2:n<=sizeLine) (hdf:d.params.defaults=[]) (hr:Room k callerA)
  (hY:∀(w:World) (h:Heap),YP w h->(K w.params).In h)
  (F:∀(w:World) (mg:Str->Option Value) (fa:Addr) (h:Heap),(K w.params).In h->h.Ns mainGlobals mg->mg d.name=some (.ref fa) ->
   ∃fd:FuncData,(∀(s:Shared) (u:Value),BindsTo s fd ⟨[u],[]⟩ [(x,u)]) /\
    ∀base:Heap,(K w.params).In base->base.Ns mainGlobals mg->FnOk l.prog w (K w.params) mg base (CX w) k fa fd [x] (sp w))
  (hsp:∀(w:World) (H:Hp) (a:Addr) (ns:List Int),ns.length<=n->Ek H->gm (K w.params) H a (ns.map V.int)->sp w [.ref a] H (fun v _=>v=.bl true) fun _ _ _=>False)
  (hCX:∀(w:World) (H:Hp) (s:Shared) (e:Value) (s':Shared),CX w [] H s (fun _ _ _=>False) e s'->False) :
  PySem.W.WalkO q loose XP YP l.row.toRowW d [] (fun f vs=>PySem.call f vs):=by
 refine Att.attach_call hn hdf fun w s₀ s₁ mg mb fa o pm cd doc a vs ns G Y ho hd hcd hmg hobj hints hlen hg=>?_
 have KX:=hY w _ Y
 obtain ⟨fd,hb,hF⟩:=F w mg fa _ KX G.T.g hmg
 exact yZ KX G.T.g G.T.b G.T.builtins G.T.nolimit hg hobj hints (Nat.le_trans hlen hn2) hr hF hb (fun H hO hS=>hsp w H a ns hlen hO hS) fun H e s'=>hCX w H s₁ e s'
noncomputable def BJ (s:Stmt) (j:Nat):Stmt:=match s with
 |.ClassDef _ _ _ body _ _ _ _ _ _ _=>body.getD j (.Pass ⟨0,0,0,0⟩)
 |_=>.Pass ⟨0,0,0,0⟩
noncomputable def gr (s:Stmt):Arguments:=match s with
 |.FunctionDef _ a _ _ _ _ _ _ _ _=>a
 |_=>{ posonlyargs:=[],args:=[],vararg:=none,kwonlyargs:=[],kw_defaults:=[],kwarg:=none,defaults:=[] }
noncomputable def eE (s:Stmt):List Stmt:=match s with
 |.FunctionDef _ _ b _ _ _ _ _ _ _=>b
 |_=>[]
noncomputable def ar (s:Stmt):Scope:=match s with
 |.FunctionDef _ _ _ _ _ _ sc _ _ _=>sc
 |_=>{ kind:=.function,names:=[],isGenerator:=false,isCoroutine:=false }
noncomputable abbrev wY:vN:=fun _ _ _ _ _ _=>False
noncomputable abbrev E0:XK:=fun _ _ _=>False
structure Fun (K:IU) (x qual:Str) (st:Stmt) (f:Addr) (fd:FuncData):Prop where
 ex:∃(oc:Value) (od:Option Addr) (kV doc pm:Value) (an:Option Addr) (cdv ct:Value) (osl:Array (Option Value)),
  fd=PySem.W.fnOf x qual (gr st) (eE st) (ar st) .none kV doc pm an cdv ct/\K.lookup f=some ⟨oc,od,.func fd,osl⟩/\PySem.W.codeIn K cdv qual=true
 kp:PySem.W.keepIn K (.ref f)=true
section
variable {P:Program} {w:World} {K:IU} {mg:Str->Option Value} {base:Heap}
theorem Fun.ok {x qual:Str} {st:Stmt} {f:Addr} {fd:FuncData} {N ps:List Str} {k:Nat} {sp:Sp} (F:Fun K x qual st f fd) (S:FnScope N ps (ar st)) (len:∀vs H Q E,sp vs H Q E->vs.length=ps.length)
  (hbody:∀(cdv:Value) (A:Around) (outer:List Env) (s:Shared) (H:Hp) (vs:List V) (Q:VK) (E:XK),Room k (A.deeper (envOfC qual (ar st) s.heap.objs.size f cdv))->sp vs H Q E ->
   ∃t,sh (eX wY P w K mg base N qual (ar st) f cdv A outer s H E).nox (eE st) t/\t { nx:=fun _ H'=>Q .non H',rt:=Q } (start N vs) H):FnOk P w K mg base wY (k+1) f fd ps sp:=by
 obtain ⟨oc,od,kV,doc,pm,an,cdv,ct,osl,rfl,lk,hcd⟩:=F.ex
 refine yK lk hcd S len fun A outer s H vs Q E hr hsp=>?_
 obtain ⟨t,h,q⟩:=hbody cdv A outer s H vs Q E hr hsp
 exact ⟨t,h.nox,q⟩
theorem Fun.binds {x qual:Str} {st:Stmt} {f:Addr} {fd:FuncData} {ps:List Str} (F:Fun K x qual st f fd)
  (h:∀(kV doc pm:Value) (an:Option Addr) (cdv ct:Value) (us:List Value),us.length=ps.length->bindArgs (PySem.W.fnOf x qual (gr st) (eE st) (ar st) .none kV doc pm an cdv ct) ⟨us,[]⟩=pure (ps.zip us)):ix K fd ps []:=by
 obtain ⟨oc,od,kV,doc,pm,an,cdv,ct,osl,rfl,lk,hcd⟩:=F.ex
 exact .all (h kV doc pm an cdv ct)
theorem qH {x qual:Str} {st:Stmt} {f:Addr} {oc:Value} {od an:Option Addr} {osl:Array (Option Value)} {kV doc pm cdv ct:Value} (l:K.lookup f=some ⟨oc,od,.func (PySem.W.fnOf x qual (gr st) (eE st) (ar st) .none kV doc pm an cdv ct),osl⟩)
  (c:PySem.W.codeIn K cdv qual=true) (k:PySem.W.keepIn K (.ref f)=true):Fun K x qual st f (PySem.W.fnOf x qual (gr st) (eE st) (ar st) .none kV doc pm an cdv ct):=⟨⟨oc,od,kV,doc,pm,an,cdv,ct,osl,rfl,l,c⟩,k⟩
end
section
variable {X:Cx}
theorem pv (i:Nat) {x:Str} {pos:Pos} (hN:X.N[i]?=some x:=by rfl) (hv:GY X.env.scope x:=by first|exact Or.inl rfl|exact Or.inr (Or.inl rfl)|exact Or.inr (Or.inr rfl)) (hd:(x==("__debug__" : Str))=false:=by decide)
  (hcd:(x==("__classdict__" : Str))=false:=by decide):PE X (.Name x pos) (rH i):=DG hN hv hd hcd
end
theorem z5 {A B:Prop} (h:B):if false=true then A else B:=by
 rw [if_neg Bool.false_ne_true]
 exact h
theorem yS {A B:Prop} (h:A):if true=true then A else B:=by
 rw [if_pos rfl]
 exact h
noncomputable def aB (H H':Hp):Prop:=∀b o,H b=some o->H' b=some o
theorem aB.refl (H:Hp):aB H H:=fun _ _ h=>h
theorem aB.trans {H H1 H2:Hp} (a:aB H H1) (b:aB H1 H2):aB H H2:=fun c o h=>b c o (a c o h)
theorem aB.free {H H':Hp} (e:aB H H') {l:Addr} (h:H' l=Option.none):H l=Option.none:=by
 cases q:H l with
 |none=>rfl
 |some o=>
  rw [e l o q] at h
  cases h
theorem aB.seq {K:IU} {H H':Hp} {a:Addr} {xs:List V} (e:aB H H') (h:gm K H a xs):gm K H' a xs:=by
 rcases h with (h|⟨o,h⟩)|h
 ·exact .inl (.inl (e _ _ h))
 ·exact .inl (.inr ⟨o,e _ _ h⟩)
 ·exact .inr h
end L2
set_option maxHeartbeats 4000000
namespace L2
open PySem PySem.Spec PyProof.Rows
noncomputable def fH (cells:List (Str×Addr)):List (Str×NameKind)->List (Str×Addr)->List (Str×Addr)
 |[],acc=>acc
 |(n,k)::r,acc=>if (k==NameKind.free)=true then (match cells.lookup n with|some c=>fH cells r ((n,c)::acc)|none=>fH cells r acc) else fH cells r acc
theorem nJ {env:Env}:∀(names:List (Str×NameKind)) (acc:List (Str×Addr)),(∀y∈names,y.2=.free->∃c,env.cells.lookup y.1=some c) ->
  (forIn names acc fun (x:Str×NameKind) (r:List (Str×Addr))=>(do
   if (x.2==NameKind.free)=true then do
    let c <-cellOf env x.1
    pure (ForInStep.yield ((x.1,c)::r))
   else pure (ForInStep.yield r):Sem (ForInStep (List (Str×Addr)))))=pure (fH env.cells names acc)
 |[],acc,_=>rfl
 |(n,k)::r,acc,h=>by
  rw [List.forIn_cons]
  by_cases hk:k=.free
  ·subst hk
   obtain ⟨c,hc⟩:=h (n,.free) IF rfl
   have e1:cellOf env n=pure c:=by unfold cellOf; rw [show env.cells.lookup n=some c from hc]
   simp only [beq_self_eq_true,if_true,e1,pure_bind,fH]
   rw [show env.cells.lookup n=some c from hc]
   exact nJ r _ fun y hy=>h y (IE _ hy)
  ·have hb:(k==NameKind.free)=false:=by simpa using hk
   simp only [hb,Bool.false_eq_true,if_false,pure_bind,fH]
   exact nJ r _ fun y hy=>h y (IE _ hy)
theorem we {scope:Scope} {env:Env} (h:∀y∈scope.names,y.2=.free->∃c,env.cells.lookup y.1=some c):closureFor scope env=pure (fH env.cells scope.names []):=by
 have e:=nJ (env:=env) scope.names [] h
 unfold closureFor
 rw [<-bind_pure (pure (fH env.cells scope.names []):Sem (List (Str×Addr))),<-e]
theorem gv {h:Heap} {b:Addr} {n:Nat} {o:Obj} (h1:h.get? b=some o) (h2:h.objs.size<=n):b≠n:=fun z=>absurd (IM h1) (by rw [z]; exact Nat.not_lt.mpr h2)
theorem dt {a:Nat} {b:Addr} {n:Nat} (h1:b<a) (h2:a<=n):b≠n:=fun z=>absurd h1 (by rw [z]; exact Nat.not_lt.mpr h2)
theorem bW {cells:List (Str×Addr)} {x:Str} {c:Addr}:∀{names:List (Str×NameKind)} {acc:List (Str×Addr)},(∀d,acc.lookup x=some d->cells.lookup x=some d)->(fH cells names acc).lookup x=some c->cells.lookup x=some c
 |[],acc,ha,h=>ha c h
 |(n,k)::r,acc,ha,h=>by
  unfold fH at h
  split at h
  ·split at h
   ·rename_i d hd
    refine bW (names:=r) (fun e he=>?_) h
    by_cases hx:x=n
    ·subst hx
     simp only [List.lookup_cons,beq_self_eq_true] at he
     rw [hd]; exact he
    ·have hb:(x==n)=false:=by simpa using hx
     simp only [List.lookup_cons,hb] at he
     exact ha e he
   ·exact bW (names:=r) ha h
  ·exact bW (names:=r) ha h
theorem jd {cells:List (Str×Addr)} {x:Str}:∀{names:List (Str×NameKind)} {acc:List (Str×Addr)},(∃d,acc.lookup x=some d)->∃c,(fH cells names acc).lookup x=some c
 |[],acc,h=>h
 |(n,k)::r,acc,h=>by
  unfold fH
  split
  ·split
   ·rename_i d hd
    refine jd (names:=r) ?_
    by_cases hx:x=n
    ·subst hx; exact ⟨d,by simp [List.lookup_cons]⟩
    ·have hb:(x==n)=false:=by simpa using hx
     obtain ⟨e,he⟩:=h
     exact ⟨e,by simpa [List.lookup_cons,hb] using he⟩
   ·exact jd (names:=r) h
  ·exact jd (names:=r) h
theorem jt {cells:List (Str×Addr)} {x:Str} {c:Addr} (hc:cells.lookup x=some c):∀{names:List (Str×NameKind)} {acc:List (Str×Addr)},(x,NameKind.free)∈names->∃d,(fH cells names acc).lookup x=some d
 |[],_,h=>nomatch h
 |(n,k)::r,acc,h=>by
  rcases List.mem_cons.mp h with e|h
  ·cases e
   unfold fH
   rw [if_pos 0x4]
   rw [hc]
   exact jd ⟨c,by simp [List.lookup_cons]⟩
  ·unfold fH
   split
   ·split <;> exact jt hc (names:=r) h
   ·exact jt hc (names:=r) h
theorem fL {env:Env} {x:Str}:∀{names:List (Str×NameKind)} {k:NameKind},
  (names.map fun (n,k)=>if (k==NameKind.free&&env.scope.kind==.function&&env.kindOf n==some .cell) then (n,NameKind.cell) else (n,k)).lookup x=some k ->
  names.lookup x=some k\/(k=.cell/\names.lookup x=some .free)
 |[],k,h=>by simp at h
 |(n,k0)::r,k,h=>by
  have ih:=@fL env x r k
  rw [List.map_cons] at h
  by_cases hx:x=n
  ·subst hx
   by_cases hc:(k0==NameKind.free&&env.scope.kind==.function&&env.kindOf x==some .cell)=true
   ·simp only [hc,if_true,List.lookup_cons,beq_self_eq_true] at h
    have h0:k0=.free:=by
     simp only [Bool.and_eq_true,beq_iff_eq] at hc
     exact hc.1.1
    subst h0
    cases h
    exact .inr ⟨rfl,by simp [List.lookup_cons]⟩
   ·have hc':(k0==NameKind.free&&env.scope.kind==.function&&env.kindOf x==some .cell)=false:=by simpa using hc
    simp only [hc',Bool.false_eq_true,if_false,List.lookup_cons,beq_self_eq_true] at h
    cases h
    exact .inl (by simp [List.lookup_cons])
  ·have hb:(x==n)=false:=by simpa using hx
   have e1:∀(c:Bool),List.lookup x ((if c=true then (n,NameKind.cell) else (n,k0))::(r.map fun (n,k)=>if (k==NameKind.free&&env.scope.kind==.function&&env.kindOf n==some .cell) then (n,NameKind.cell) else (n,k)))=List.lookup x (r.map fun (n,k)=>if (k==NameKind.free&&env.scope.kind==.function&&env.kindOf n==some .cell) then (n,NameKind.cell) else (n,k)):=fun c=>by
    cases c <;> simp [List.lookup_cons,hb]
   have h':=(e1 _).symm.trans h
   rcases ih h' with q|⟨q1,q2⟩
   ·exact .inl (by simpa [List.lookup_cons,hb] using q)
   ·exact .inr ⟨q1,by simpa [List.lookup_cons,hb] using q2⟩
theorem fA {x:Str} {k:NameKind}:∀{names:List (Str×NameKind)},names.lookup x=some k->(x,k)∈names
 |[],h=>by simp at h
 |(n,k0)::r,h=>by
  by_cases hx:x=n
  ·subst hx
   simp only [List.lookup_cons,beq_self_eq_true] at h
   cases h; exact IF
  ·have hb:(x==n)=false:=by simpa using hx
   simp only [List.lookup_cons,hb] at h
   exact IE _ (fA h)
noncomputable def iT (k:Nat) (js:List Nat) (σ:St):St:=List.replicate k none++js.map fun j=>(σ[j]?).join
noncomputable def aP (X:Cx) (N':List Str) (scope:Scope) (C:Addr) (s₂:Shared) (H₂:Hp) (fp:List Addr):Cx where
 prog:=X.prog
 w:=X.w
 K:=X.K
 mg:=X.mg
 base:=X.base
 A:=X.A
 N:=N'
 s₀:=s₂
 H₀:=H₂
 env:=compEnvC scope (fH X.env.cells scope.names []) C X.env
 outer:=X.stack
 stack:=X.stack
 ex:=fp
 fn:=fun _=>false
 calm:=X.calm
 pn:=[]
 xe:=fun _ _=>False
structure CompFit (X:Cx) (k:Nat) (js:List Nat) (N':List Str) (scope:Scope):Prop where
 kind:scope.kind=.function
 nocell:∀y∈scope.names,y.2≠.cell
 loc:∀y∈scope.names,y.2=.local->scope.names.lookup y.1=some .local
 free:∀y∈scope.names,y.2=.free->X.env.kindOf y.1=some .cell\/X.env.kindOf y.1=some .free
 len:N'.length=k+js.length
 at':∀(i:Nat) (x:Str),N'[i]?=some x->k<=i->∃j,js[i-k]?=some j/\X.N[j]?=some x/\(X.env.kindOf x=some .cell\/X.env.kindOf x=some .free)/\scope.names.lookup x=some .free
section
variable {X:Cx} {pins:List (Addr×Obj)} {σ:St} {H:Hp} {s:Shared} {k:Nat} {js:List Nat} {N':List Str} {scope:Scope}
theorem Ba {C:Addr} {fp:List Addr} (I:Inv X pins σ H s) (S:CompFit X k js N' scope) (hC:s.heap.objs.size<=C) (hf:∀b∈fp,mP X pins H b/\b<s.heap.objs.size):(aP X N' scope C s H fp).Ok where
 mod:=I.ok.mod
 kind:=S.kind
 glob:=I.ok.glob
 blt:=I.ok.blt
 above:=hC
 inj:=fun x y c h1 h2=>I.ok.inj x y c (bW (fun d hd=>by simp at hd) h1) (bW (fun d hd=>by simp at hd) h2)
 has:=fun x hx=>by
  have hx':(relabel scope X.env).names.lookup x=some .cell\/(relabel scope X.env).names.lookup x=some .free:=hx
  have hfree:scope.names.lookup x=some .free:=by
   rcases hx' with h|h
   ·rcases fL h with q|⟨_,q⟩
    ·exact absurd rfl (S.nocell _ (fA q))
    ·exact q
   ·rcases fL h with q|⟨e,_⟩
    ·exact q
    ·cases e
  obtain ⟨c,hc⟩:=I.ok.has x (S.free _ (fA hfree) rfl)
  exact jt hc (fA hfree)
 cab:=fun x c h _=>nomatch h
 hd:=I.ok.hd
 frames:=I.ok.frames
 stk:=.inl rfl
 exf:=fun b hb=>⟨fun e=>absurd (hf b hb).2 (by have e':b=C:=e; rw [e']; exact Nat.not_lt.mpr hC),fun x c h=>(hf b hb).1.2.2.2.2.1 x c (bW (fun d hd=>by simp at hd) h)⟩
 bs:=I.bs
 bsz:=Nat.le_trans I.ok.bsz I.sz
 noex:=fun b o e hb=>by
  rcases (hf b hb).1.2.2.2.1 with z|z
  ·exact I.ok.noex b o e z
  ·exact absurd (Nat.lt_of_lt_of_le (IM e) (Nat.le_trans I.ok.bsz z)) (Nat.lt_irrefl _)
 exfs:=fun b hb z=>by
  rcases List.mem_cons.mp (I.stkSub b z) with e|e
  ·exact (hf b hb).1.2.1 e
  ·exact (hf b hb).1.2.2.1 e
 funs:=I.stack
 frf:=I.stkFree
theorem nE {C:Addr} {fp:List Addr} {h₁:Heap} {tk:Nat} {m:Str->Option Value} (I:Inv X pins σ H s) (S:CompFit X k js N' scope) (hC:s.heap.objs.size<=C) (hf:∀b∈fp,mP X pins H b/\b<s.heap.objs.size)
  (old:∀b o,s.heap.get? b=some o->h₁.get? b=some o) (hn:h₁.Ns C m):Inv (aP X N' scope C s H fp) [] (iT k js σ) H { s with heap:=h₁,toks:=tk }:=by
 refine ⟨Ba I S hC hf,rfl,I.bare,Un.kept old,⟨m,hn,fun i x v h1 h2 h3=>?_⟩,fun x c h=>?_,I.hok.fresh hC,fun x c h=>I.freeC x c (bW (fun d hd=>by simp at hd) h),fun p hp=>absurd (show p∈([]:List (Addr×Obj)) from hp) 0x4,I.hok.kept old,?_⟩
 ·have hi:k<=i:=by
   by_cases hi:k<=i
   ·exact hi
   ·unfold iT at h2
    rw [List.getElem?_append_left (by simp; lia),List.getElem?_replicate] at h2
    split at h2 <;> cases h2
  obtain ⟨j,hj,hN,hk,hfree⟩:=S.at' i x h1 hi
  have hσ:σ[j]?=some (some v):=by
   unfold iT at h2
   rw [List.getElem?_append_right (by simpa using hi),List.length_replicate,List.getElem?_map,hj] at h2
   simp only [Option.map_some] at h2
   have h2':(σ[j]?).join=some v:=Option.some.inj h2
   cases e:σ[j]? with
   |none=>rw [e] at h2'; cases h2'
   |some z=>rw [e] at h2'; simp only [Option.join] at h2'; rw [<-h2']; rfl
  obtain ⟨m0,hn0,hl⟩:=I.loc
  have hv:GY X.env.scope x:=by
   rcases hk with h|h
   ·exact .inr (.inl h)
   ·exact .inr (.inr h)
  obtain ⟨u,r,l⟩:=hl j x v hN hσ hv
  refine ⟨u,r,?_⟩
  rcases l with ⟨hk',_⟩|⟨_,c,hc,hcell⟩
  ·rcases hk with h|h <;> (rw [hk'] at h; cases h)
  ·obtain ⟨d,hd⟩:=jt (names:=scope.names) (acc:=[]) hc (fA hfree)
   have hdc:d=c:=Option.some.inj ((bW (fun d hd=>by simp at hd) hd).symm.trans hc)
   subst hdc
   refine .inr ⟨?_,d,hd,hcell.keeps old⟩
   have h3':(relabel scope X.env).names.lookup x=some .local\/(relabel scope X.env).names.lookup x=some .cell\/(relabel scope X.env).names.lookup x=some .free:=h3
   rcases h3' with h|h|h
   ·rcases fL h with q|⟨e,_⟩
    ·rw [hfree] at q; cases q
    ·cases e
   ·exact .inl h
   ·exact .inr h
 ·obtain ⟨v,hv⟩:=I.cell x c (bW (fun d hd=>by simp at hd) h)
  exact ⟨v,hv.keeps old⟩
 ·unfold iT
  show _=N'.length
  rw [List.length_append,List.length_replicate,List.length_map,S.len]
end
section
variable {prog:Program} {w:World} {A:Around} {R:Result->Shared->Prop} {s:Shared}
noncomputable def CV:Value->Shared->Prop:=fun _ _=>False
theorem nX {elt target iter:Expr} {ifs:List Expr} {scope:Scope} {pos:Pos} {it acc:Value} {env:Env} (I:Nat->Shared->Prop)
  (turn:∀n s,I n s->wpAny (model prog w) A (pyNext it) (fun r s₁=>match r with
   |none=>R (.ok .next) s₁
   |some v=>wpAny (model prog w) A (letOwnedTupleGo target it v) (fun _ s₁'=>wpAny (model prog w) A (assign target env v) (fun _ s₂=>
     wpAny (model prog w) A (forIn ifs true fun c r=>if r=true then (do let ok <-isTrue c env (eval c env); pure (ForInStep.yield ok)) else pure (ForInStep.yield r)) (fun ok s₃=>
      if ok=true then wpAny (model prog w) A (eval elt env) (fun x s₄=>wpAny (model prog w) A (call (.builtin "list.append") [acc,x]) (fun _ s₅=>∃m,m<n/\I m s₅) CV s₄) CV s₃
      else ∃m,m<n/\I m s₃) CV s₂) CV s₁') CV s₁) CV s)
  (n:Nat) (h:I n s):codeAny (model prog w) A (.compLoop (.ListComp elt [⟨target,iter,ifs,0⟩] scope pos) 0 it acc env) R s:=by
 refine codeAny_loop rfl I (fun n s hI=>?_) n h
 refine wpAny_noted (m:=compTurn (.ListComp elt [⟨target,iter,ifs,0⟩] scope pos) 0 it acc env) ?_
 rw [compTurn_list]
 refine IK (wpAny_standAt (IK (wpAny_mono (turn n s hI) (fun r s₁ h₁=>?_) fun _ _ h'=>h'.elim)))
 cases r with
 |none=>exact IL h₁
 |some v=>
  refine IK (wpAny_mono h₁ (fun _ s₁' h₁'=>?_) fun _ _ h'=>h'.elim)
  refine IK (wpAny_mono h₁' (fun _ s₂ h₂=>IK (wpAny_mono h₂ (fun ok s₃ h₃=>?_) fun _ _ h'=>h'.elim)) fun _ _ h'=>h'.elim)
  cases ok with
  |false=>exact IL ⟨rfl,h₃⟩
  |true=>
   refine IK (IK (wpAny_mono h₃ (fun x s₄ h₄=>?_) fun _ _ h'=>h'.elim))
   exact IK (wpAny_mono h₄ (fun _ s₅ h₅=>IL (IL ⟨rfl,h₅⟩)) fun _ _ h'=>h'.elim)
end
noncomputable def PF (X:Cx) (ifs:List Expr) (t:TT):Prop:=
 ∀(pins:List (Addr×Obj)) (s:Shared) (σ:St) (H:Hp) (Q:Bool->Hp->Prop),Inv X pins σ H s->t σ H Q ->
  wpAny (model X.prog X.w) X.A (forIn ifs true fun c r=>if r=true then (do let ok <-isTrue c X.env (eval c X.env); pure (ForInStep.yield ok)) else pure (ForInStep.yield r)) (TP X pins σ Q) X.xe s
noncomputable def Hw:TT:=fun _ H Q=>Q true H
theorem E3 {X:Cx}:PF X [] Hw:=fun _ _ _ H _ I h=>wpAny_tests_nil ⟨H,I,h⟩
theorem uC {X:Cx} {c:Expr} {t:TT} (h:PT X c t):PF X [c] t:=fun pins s σ H Q I hw=>wpAny_tests_one (h pins s σ H Q I hw)
noncomputable def wm (wi:TI) (k:Nat) (js:List Nat) (g:TG) (tc:TT) (te:TE):TE:=fun σ H Q=>wi σ H fun J H1=>∃W:Nat->Nat->St->Hp->List V->Prop,(∃m,W 0 m (iT k js σ) H1 [])/\∀i m σ' H' xs,W i m σ' H' xs ->
 (J.stop i H'/\xs.length<=sizeLine/\∀p,H' p=none->Q (.ref p) (du H' p (.lst xs))) \/
 (J.go i H'/\xs.length<sizeLine/\∀x H2,J.yld i H' x H2->g x σ' H2 fun σ2 H3=>tc σ2 H3 fun b H4=>if b=true then te σ2 H4 fun v H5=>∃m',m'<m/\W (i+1) m' σ2 H5 (xs++[v]) else ∃m',m'<m/\W (i+1) m' σ2 H4 xs)
section
variable {X:Cx} {k:Nat} {js:List Nat} {N':List Str} {scope:Scope} {elt tg iter:Expr} {ifs:List Expr} {pos:Pos} {wi:TI} {g:TG} {tc:TT} {te:TE}
theorem BI (S:CompFit X k js N' scope) (hc:X.calm=true) (hi:PI X tg iter wi)
  (hg:∀C s₂ H₂ fp,PG (aP X N' scope C s₂ H₂ fp) tg g) (hf:∀C s₂ H₂ fp,PF (aP X N' scope C s₂ H₂ fp) ifs tc) (he:∀C s₂ H₂ fp,PE (aP X N' scope C s₂ H₂ fp) elt te)
  (hs:∀x,foldedSetIterable iter X.env x=pure x:=by intro _; rfl):PE X (.ListComp elt [⟨tg,iter,ifs,0⟩] scope pos) (wm wi k js g tc te):=by
 intro pins s σ H Q I h
 rw [eval_ListComp]
 refine wpAny_comprehension_free (use:=none) rfl hs (we fun y hy hk=>I.ok.has y.1 (S.free y hy hk)) S.kind S.loc ?_
 refine cJ (hi pins s σ H _ I h) fun v s1 h1=>cJ h1 fun itv s₂ h2=>?_
 obtain ⟨it,fp,tn,J,H₂,rfl,I2,T,st2,f2,W,⟨m0,w0⟩,turn⟩:=h2
 have lt2:∀b∈fp,b<s₂.heap.objs.size:=fun b hb=>by obtain ⟨o,e,_⟩:=T.obj 0 _ st2 b hb; exact IM e
 refine wpAny_newObj_type (wpAny_newFunctionEnv S.nocell (by intro y hy; simp at hy) (fun h₁ hns₁ hsb₁=>?_) S.kind)
 dsimp only at hns₁ hsb₁ ⊢
 generalize hH2:s₂.heap.push { cls:=.type "list",dict:=none,data:=.seq ([]:List Value).toArray }=G at hns₁ hsb₁ ⊢
 have hC:G.objs.size=s₂.heap.objs.size+1:=by rw [<-hH2,Heap.size_push]
 have hDC:s₂.heap.objs.size≠G.objs.size:=by lia
 have hCle:s₂.heap.objs.size<=G.objs.size:=by lia
 have old:∀b o,s₂.heap.get? b=some o->h₁.get? b=some o:=fun b o e=>hsb₁.extBut b o (gv e hCle) (IG _ (hH2▸IG _ e))
 have hacc:h₁.get? s₂.heap.objs.size=some { cls:=.type "list",data:=.seq ([]:List Value).toArray }:=hsb₁.extBut _ _ hDC (IG _ (hH2▸Heap.get?_push_size _ rfl))
 have hf2:∀b∈fp,mP X pins H₂ b/\b<s₂.heap.objs.size:=fun b hb=>⟨f2 b hb,lt2 b hb⟩
 have I0:∀tk,Inv (aP X N' scope G.objs.size s₂ H₂ fp) [] (iT k js σ) H₂ { s₂ with heap:=h₁,toks:=tk }:=fun tk=>nE I2 S hCle hf2 old hns₁
 generalize hD:s₂.heap.objs.size=D at *
 have hDnone:∀{H':Hp} {s':Shared} {σ':St} {pp:List (Addr×Obj)} {o:Obj},Inv (aP X N' scope G.objs.size s₂ H₂ fp) (pp++[(D,o)]) σ' H' s'->H' D=none/\s'.heap.get? D=some o:=fun {H' s' σ' pp o} J=>by
  have q:=J.pin (D,o) (IH _ (IH _ (List.mem_singleton.mpr rfl)))
  exact ⟨q.2.1,q.1⟩
 have hDfs:D∉gn X.stack:=fun z=>by
  obtain ⟨_,o,ho,_⟩:=I2.stack.mem z
  exact gv ho (Nat.le_of_eq hD) rfl
 have hDcell:∀x c,(aP X N' scope G.objs.size s₂ H₂ fp).env.cells.lookup x=some c->c≠D:=fun x c e z=>by
  obtain ⟨v,q⟩:=I2.cell x c (bW (fun d hd=>by simp at hd) e)
  exact dt q.lt (Nat.le_of_eq hD) z
 have stat:∀{H':Hp} {pp:List (Addr×Obj)},(∀b∈fp,H' b=none)->(∀p∈pp,p.1=D)->∀b∈fp,mP (aP X N' scope G.objs.size s₂ H₂ fp) pp H' b:=fun {H' pp} hn hp b hb=>by
  refine ⟨hn b hb,fun z=>?_,fun z=>?_,.inl hb,fun x c e=>(hf2 b hb).1.2.2.2.2.1 x c (bW (fun d hd=>by simp at hd) e),fun p hp' z=>?_⟩
  ·exact dt (lt2 b hb) hCle z
  ·rcases List.mem_cons.mp (I2.stkSub b z) with e|e
   ·exact (hf2 b hb).1.2.1 e
   ·exact (hf2 b hb).1.2.2.1 e
  ·have e1:p.1=D:=hp p (by simpa [aP] using hp')
   exact dt (lt2 b hb) (IJ _) (z.symm.trans e1)
 have pinD:∀{σ':St} {H':Hp} {s':Shared} {ys:List Value} {c:Nat},Inv (aP X N' scope G.objs.size s₂ H₂ fp) [] σ' H' s'->s'.heap.get? D=some { cls:=.type "list",data:=.seq ys.toArray c }->H' D=none ->
   Inv (aP X N' scope G.objs.size s₂ H₂ fp) [(D,{ cls:=.type "list",data:=.seq ys.toArray c })] σ' H' s':=fun {σ' H' s' ys c} J e n=>J.pins_of fun p hp=>by
  have e1:=List.mem_singleton.mp hp
  subst e1
  exact ⟨e,n,hDC,hDfs,fun v z=>by cases z⟩
 have loop:∀s₃:Shared,(∃tk,s₃={ s₂ with heap:=h₁,toks:=tk })->codeAny (model X.prog X.w) X.A (.compLoop (.ListComp elt [⟨tg,iter,ifs,0⟩] scope pos) 0 (.ref it) (.ref D) (aP X N' scope G.objs.size s₂ H₂ fp).env)
   (compPost (model X.prog X.w) X.A X.xe none (EP X pins σ Q) (.ref D) G.objs.size) s₃:=by
  rintro s₃ ⟨tk,rfl⟩
  refine nX (fun n s'=>∃i σ' H' xs ys c,Inv (aP X N' scope G.objs.size s₂ H₂ fp) [] σ' H' s'/\tn i s'.heap/\(∀b∈fp,H' b=none)/\H' D=none/\s'.heap.get? D=some { cls:=.type "list",data:=.seq ys.toArray c }/\aQ xs ys/\W i n σ' H' xs)
   ?_ m0 ⟨0,_,H₂,[],[],0,I0 tk,T.keep _ _ _ st2 fun b hb o e=>old b o e,fun b hb=>(f2 b hb).1,I2.hok.fresh 0x1,hacc,.nil,w0⟩
  rintro n s' ⟨i,σ',H',xs,ys,c,J',st',fr',nD,eD,rv,w'⟩
  have J1:=pinD J' eD nD
  rcases turn i n σ' H' xs w' with ⟨stop,hz,fin⟩|⟨go,hz,step⟩
  ·refine cJ (T.done (aP X N' scope G.objs.size s₂ H₂ fp) rfl rfl rfl hc i _ s' σ' H' _ J1 (stat fr' fun p hp=>by rw [List.mem_singleton.mp hp]) st' stop) fun r s4 ⟨hr,J4⟩=>?_
   subst hr
   obtain ⟨nD4,eD4⟩:=hDnone (pp:=[]) J4
   obtain ⟨mC,hnC,_⟩:=J4.loc
   refine ⟨mC,hnC,fun h' hs'=>?_⟩
   have keep4:∀b o,b≠G.objs.size->s4.heap.get? b=some o->h'.get? b=some o:=fun b o hb e=>hs'.extBut b o hb e
   have hC4:H' G.objs.size=none:=J4.free
   have hun:Un (gn X.stack) fp H₂ (du H' D (.lst xs)) s₂.heap h':=by
    have u:=J4.base
    have neD:∀b o,s₂.heap.get? b=some o->b≠D:=fun b o e=>gv e (Nat.le_of_eq hD)
    have neC:∀b o,s₂.heap.get? b=some o->b≠G.objs.size:=fun b o e=>gv e (by rw [hD]; exact hCle)
    have neD':∀b o,H₂ b=some o->b≠D:=fun b o e=>dt (I2.hok.lt e) (Nat.le_of_eq hD)
    refine ⟨fun b o e n hb hx=>keep4 b o (neC b o e) (u.keep b o e n hb hx),fun b o e n hb hx=>?_,fun b o e n hx=>by rw [aN (neD b o e)]; exact u.free b o e n hx,fun b o e hx=>?_,
     fun b xs e=>by rw [aN (neD' b _ e)]; exact u.tups b xs e,fun b o z e=>by rw [aN (neD' b _ e)]; exact u.frzs b o z e,fun b ps e=>by rw [aN (neD' b _ e)]; exact u.tbls b ps e⟩
    ·obtain ⟨sl,q⟩:=u.slot b o e n hb hx
     exact ⟨sl,keep4 b _ (neC b o e) q⟩
    ·obtain ⟨o',q⟩:=u.there b o e hx
     exact ⟨o',keep4 b _ (neC b o e) q⟩
   have hok4:lR X.prog X.w (du H' D (.lst xs)) h':=by
    intro b u e
    by_cases hb:b=D
    ·subst hb
     rw [cf] at e
     cases e
     exact ⟨hz,ys,c,rv,keep4 _ _ hDC eD4⟩
    ·rw [aN hb] at e
     have hnD:∀a o,H' a=some o->a≠D:=fun a o e z=>by rw [z,nD4] at e; cases e
     refine (J4.hok b u e).stay (fun a v ha q=>keep4 a v ?_ q) (fun a q=>by rw [aN (hnD a _ q)]; exact q) fun a zs q=>by rw [aN (hnD a _ q)]; exact q
     rintro rfl
     rcases ha with z|z
     ·rw [<-z,hC4] at e; cases e
     ·rw [hC4] at z; cases z
   refine ⟨.ref D,du H' D (.lst xs),I2.call' (s':={ s4 with heap:=h' }) J4.os hun hok4 J4.bare fun b hb=>?_,rfl,fin D nD4⟩
   exact ⟨(f2 b hb).2.2.2.1,(f2 b hb).2.1,(f2 b hb).2.2.2.2.1,(f2 b hb).2.2.2.2.2⟩
  ·refine cJ (T.item (aP X N' scope G.objs.size s₂ H₂ fp) rfl rfl rfl hc i _ s' σ' H' CV J1 (stat fr' fun p hp=>by rw [List.mem_singleton.mp hp]) st' go) fun r s4 ⟨u,hr,h4⟩=>?_
   subst hr
   refine cJ h4 fun _ s5 ⟨x,H5,I5,r5,y5,st5,fr5⟩=>?_
   have I5':=I5.pinned (stat fr5 fun p hp=>by rw [List.mem_singleton.mp hp]) (T.obj _ _ st5)
   refine cJ (hg _ _ _ _ _ s5 σ' H5 x u _ I5' r5 (step x H5 y5)) fun _ s6 ⟨σ6,H6,I6,q6⟩=>?_
   refine cJ (hf _ _ _ _ _ s6 σ6 H6 _ I6 q6) fun ok s7 ⟨H7,I7,q7⟩=>?_
   have back:∀{σ8:St} {H8:Hp} {s8:Shared},Inv (aP X N' scope G.objs.size s₂ H₂ fp) ([(D,{ cls:=.type "list",data:=.seq ys.toArray c })]++lP fp s5.heap) σ8 H8 s8 ->
     Inv (aP X N' scope G.objs.size s₂ H₂ fp) [] σ8 H8 s8/\tn (i+1) s8.heap/\(∀b∈fp,H8 b=none)/\H8 D=none/\s8.heap.get? D=some { cls:=.type "list",data:=.seq ys.toArray c }:=fun {σ8 H8 s8} J=>by
    have pd:=J.pin (D,{ cls:=.type "list",data:=.seq ys.toArray c }) (IH _ (II _ (List.mem_singleton.mpr rfl)))
    have pf:∀b∈fp,∀o,s5.heap.get? b=some o->s8.heap.get? b=some o/\H8 b=none:=fun b hb o e=>by
     have q:=J.pin (b,o) (IH _ (IH _ (hV hb e)))
     exact ⟨q.1,q.2.1⟩
    refine ⟨J.pins_of fun p hp=>absurd hp 0x4,T.keep _ _ _ st5 fun b hb o e=>(pf b hb o e).1,fun b hb=>?_,pd.2.1,pd.1⟩
    obtain ⟨o,e,_⟩:=T.obj _ _ st5 b hb
    exact (pf b hb o e).2
   cases ok with
   |false=>
    simp only [Bool.false_eq_true,if_false] at q7 ⊢
    obtain ⟨m',hm,w7⟩:=q7
    obtain ⟨b1,b2,b3,b4,b5⟩:=back I7
    exact ⟨m',hm,i+1,σ6,H7,xs,ys,c,b1,b2,b3,b4,b5,rv,w7⟩
   |true=>
    simp only [if_true] at q7 ⊢
    refine cJ (he _ _ _ _ _ s7 σ6 H7 _ I7 q7) fun u8 s8 ⟨v8,H8,I8,r8,q8⟩=>?_
    obtain ⟨m',hm,w8⟩:=q8
    obtain ⟨b1,b2,b3,b4,b5⟩:=back I8
    refine append_at b5 (fun h9 hs9 e9=>?_) (by rw [List.size_toArray,<-rv.length]; exact Nat.le_of_lt hz)
    have I9:Inv (aP X N' scope G.objs.size s₂ H₂ fp) [] σ6 H8 { s8 with heap:=h9 }:=b1.turned (t':=s8.toks) (it:=D) (fun b o hb e=>(hs9.2 b hb).trans e) b4 hDC (.inr (by show s₂.heap.objs.size<=D; lia)) hDcell fun p hp=>absurd (show p∈([]:List (Addr×Obj)) from hp) 0x4
    refine ⟨m',hm,i+1,σ6,H8,xs++[v8],ys++[u8],c+1,I9,T.keep _ _ _ b2 fun b hb o e=>(hs9.2 b ?_).trans e,b3,b4,?_,aQ.append rv (.cons r8 .nil),w8⟩
    ·exact dt (lt2 b hb) (IJ _)
    ·rw [e9,List.push_toArray]
 exact codeAny_compStart_list (loop _ ⟨_,rfl⟩) (T.self _ 0 _ _ _ (T.keep _ _ _ st2 fun b hb o e=>old b o e) (loop _ ⟨_,rfl⟩))
end
end L2
namespace L3
open PySem PySem.Spec PyProof.Rows
noncomputable def cI (st:Bool) (i j:Int):Bool:=if st=true then decide (i<j) else decide (i<=j)
noncomputable def cS (st:Bool) (x y:Str):Bool:=if st=true then decide (x.cps.toList<y.cps.toList) else !decide (y.cps.toList<x.cps.toList)
mutual
noncomputable def cD (st:Bool):PyData->PyData->Option Bool
 |.int i,.int j=>some (cI st i j)
 |.str x,.str y=>some (cS st x y)
 |.tuple xs,.tuple ys=>cL st xs ys
 |_,_=>none
noncomputable def cL (st:Bool):List PyData->List PyData->Option Bool
 |[],[]=>some (!st)
 |[],_::_=>some true
 |_::_,[]=>some false
 |x::xs,y::ys=>if PyData.eqv x y=true then cL st xs ys else cD st x y
end
noncomputable def Ic (st:Bool):CmpOp:=if st=true then .Lt else .LtE
noncomputable def GR (A:Around) (s:Shared) (st:Bool) (a b:Value) (k:Bool):Prop:=
 ∀(prog:Program) (w:World) (E:Value->Shared->Prop) (Q:Value->Shared->Prop),Q (.bool k) s->wpAny (model prog w) A (richCompare (Ic st) a b) Q E s
theorem sJ {st:Bool} {k:Bool}:∀{xs ys:List PyData} {vs ws:List Value} {as bs:List Addr} {h:Heap},ReadsAll h vs xs as->ReadsAll h ws ys bs->vs.zip ws=[]->cL st xs ys=some k ->
  k=(if st=true then decide (vs.length<ws.length) else decide (vs.length<=ws.length))
 |_,_,_,_,_,_,_,.nil,.nil,_,e=>by
  unfold cL at e; cases e; cases st <;> rfl
 |_,_,_,_,_,_,_,.nil,.cons _ _,_,e=>by
  unfold cL at e; cases e; cases st <;> simp
 |_,_,_,_,_,_,_,.cons _ _,.nil,_,e=>by
  unfold cL at e; cases e; cases st <;> simp
 |_,_,_,_,_,_,_,.cons _ _,.cons _ _,z,_=>by cases z
section
open PySem.SeqAt
open PySem.AutoSeq1 (wpAny_loadPart')
open PySem.MeetsSeq PySem.MeetsSeq2 PySem.MeetsSeq3
theorem pE (l b:Addr) (items items2:Array Value) (n n2:Nat) (dd dd2:Option Addr) (sl sl2:Array (Option Value)) (xs ys:List PyData) (k:Bool) (hk:cL true xs ys=some k)
  (ih:∀(A:Around) (s:Shared) (x y:PyData) (a c:Value) (as bs:List Addr) (j:Bool),x∈xs->Reads s.heap a x as->Reads s.heap c y bs->x.canLay0=true->y.canLay0=true->A.units+x.depth<cLine->cD true x y=some j->GR A s true a c j) :
  Meets (Builtin.«tuple.__lt__» ⟨[.ref l,.ref b],[]⟩)
   (fun A R s=>s.heap.get? l=some { cls:=.type "tuple",dict:=dd,data:=.seq items n,slots:=sl }/\s.heap.get? b=some { cls:=.type "tuple",dict:=dd2,data:=.seq items2 n2,slots:=sl2 } /\
    (∃as,ReadsAll s.heap items.toList xs as)/\(∃as,ReadsAll s.heap items2.toList ys as)/\PyData.canLayAll0 xs=true/\PyData.canLayAll0 ys=true/\A.units+1+PyData.depthAll xs<cLine/\R (.ok (.ret (.bool k))) s):=
 .of_wp fun prog w A R s h=>by
  obtain ⟨hp,g,d,tk,os⟩:=s; obtain ⟨hl,hb,⟨as,hi⟩,⟨bs,hj⟩,c1,c2,hu,h⟩:=h
  have f2:=AutoSeq1.sub_tuple_tuple
  wp_walk using wpAny_loadPart' hl,wpAny_loadPart' hb,wpAny_forIn_list _ (fun bN b s'=>b.1=none/\s'=⟨hp,g,d,tk,os⟩/\∃(vs ws:List Value) (xs' ys':List PyData) (as' bs':List Addr),bN=vs.zip ws /\
   ReadsAll hp vs xs' as'/\ReadsAll hp ws ys' bs'/\vs.length+items2.size=ws.length+items.size/\(∀x∈xs',x∈xs)/\PyData.canLayAll0 xs'=true/\PyData.canLayAll0 ys'=true/\PyData.depthAll xs'<=PyData.depthAll xs/\cL true xs' ys'=some k) _
  case turn=>
   rintro ⟨y,x⟩ bN b s' ⟨hb',rfl,vs,ws,xs',ys',as',bs',hz,hvi,hwi,hlen,hsub,l1,l2,hdp,hc⟩
   cases hvi with
   |nil=>rw [List.zip_nil_left] at hz; cases hz
   |@cons v1 vs1 x1 xs1 a1 as1 rv hvi'=>
    cases hwi with
    |nil=>rw [List.zip_nil_right] at hz; cases hz
    |@cons w1 ws1 y1 ys1 b1 bs1 rw1 hwi'=>
     rw [List.zip_cons_cons] at hz
     injection hz with hyx hrest
     injection hyx with hy hx
     subst hy hx
     unfold PyData.canLayAll0 at l1 l2
     rw [Bool.and_eq_true] at l1 l2
     unfold cL at hc
     have hdc:PyData.depthAll (x1::xs1)=max x1.depth (PyData.depthAll xs1):=by rw [PyData.depthAll]
     rw [hdc] at hdp
     simp only [List.length_cons] at hlen
     have he:=eqAt_reads x1 y1 A.in1 ⟨hp,g,d,tk,os⟩ _ _ _ _ rv rw1 l1.1 l2.1 (by show A.units+1+_<cLine; lia)
     refine IK (he prog w _ _ ?_)
     cases e:PyData.eqv x1 y1 with
     |true=>
      rw [e,if_pos rfl] at hc
      wp_walk
      exact ⟨rfl,rfl,_,_,_,_,_,_,hrest,hvi',hwi',0x1,fun z hz=>hsub z (IE _ hz),l1.2,l2.2,0x1,hc⟩
     |false=>
      rw [e,if_neg Bool.false_ne_true] at hc
      have hri:∀(E:Value->Shared->Prop) (Q:Value->Shared->Prop),Q (.bool k) ⟨hp,g,d,tk,os⟩->wpAny (model prog w) A.in1 (richCompare .Lt _ _) Q E ⟨hp,g,d,tk,os⟩:=ih A.in1 ⟨hp,g,d,tk,os⟩ x1 y1 _ _ _ _ k (hsub x1 IF) rv rw1 l1.1 l2.1 (by show A.units+1+_<cLine; lia) hc prog w
      wp_walk using hri
      exact ⟨_,rfl,by simpa using h⟩
  case fin=>
   rintro ⟨b1,b2⟩ s' ⟨hb',rfl,vs,ws,xs',ys',as',bs',hz,hvi,hwi,hlen,hsub,l1,l2,hdp,hc⟩
   simp only at hb'
   subst hb'
   have hv:=sJ hvi hwi hz.symm hc
   simp only [if_true] at hv
   have hv2:decide (vs.length<ws.length)=decide (items.size<items2.size):=by
    by_cases q:vs.length<ws.length
    ·rw [decide_eq_true q,decide_eq_true 0x1]
    ·rw [decide_eq_false q,decide_eq_false 0x1]
   rw [hv2] at hv
   rw [hv] at h
   wp_walk
   exact ⟨_,rfl,by simpa [Builtin.Tuple.tupleCompareSizes] using h⟩
  case h=>
   exact ⟨rfl,rfl,items.toList,items2.toList,xs,ys,as,bs,rfl,hi,hj,by simp; lia,fun _ hx=>hx,c1,c2,IJ _,hk⟩
theorem pC (l b:Addr) (items items2:Array Value) (n n2:Nat) (dd dd2:Option Addr) (sl sl2:Array (Option Value)) (xs ys:List PyData) (k:Bool) (hk:cL false xs ys=some k)
  (ih:∀(A:Around) (s:Shared) (x y:PyData) (a c:Value) (as bs:List Addr) (j:Bool),x∈xs->Reads s.heap a x as->Reads s.heap c y bs->x.canLay0=true->y.canLay0=true->A.units+x.depth<cLine->cD false x y=some j->GR A s false a c j) :
  Meets (Builtin.«tuple.__le__» ⟨[.ref l,.ref b],[]⟩)
   (fun A R s=>s.heap.get? l=some { cls:=.type "tuple",dict:=dd,data:=.seq items n,slots:=sl }/\s.heap.get? b=some { cls:=.type "tuple",dict:=dd2,data:=.seq items2 n2,slots:=sl2 } /\
    (∃as,ReadsAll s.heap items.toList xs as)/\(∃as,ReadsAll s.heap items2.toList ys as)/\PyData.canLayAll0 xs=true/\PyData.canLayAll0 ys=true/\A.units+1+PyData.depthAll xs<cLine/\R (.ok (.ret (.bool k))) s):=
 .of_wp fun prog w A R s h=>by
  obtain ⟨hp,g,d,tk,os⟩:=s; obtain ⟨hl,hb,⟨as,hi⟩,⟨bs,hj⟩,c1,c2,hu,h⟩:=h
  have f2:=AutoSeq1.sub_tuple_tuple
  wp_walk using wpAny_loadPart' hl,wpAny_loadPart' hb,wpAny_forIn_list _ (fun bN b s'=>b.1=none/\s'=⟨hp,g,d,tk,os⟩/\∃(vs ws:List Value) (xs' ys':List PyData) (as' bs':List Addr),bN=vs.zip ws /\
   ReadsAll hp vs xs' as'/\ReadsAll hp ws ys' bs'/\vs.length+items2.size=ws.length+items.size/\(∀x∈xs',x∈xs)/\PyData.canLayAll0 xs'=true/\PyData.canLayAll0 ys'=true/\PyData.depthAll xs'<=PyData.depthAll xs/\cL false xs' ys'=some k) _
  case turn=>
   rintro ⟨y,x⟩ bN b s' ⟨hb',rfl,vs,ws,xs',ys',as',bs',hz,hvi,hwi,hlen,hsub,l1,l2,hdp,hc⟩
   cases hvi with
   |nil=>rw [List.zip_nil_left] at hz; cases hz
   |@cons v1 vs1 x1 xs1 a1 as1 rv hvi'=>
    cases hwi with
    |nil=>rw [List.zip_nil_right] at hz; cases hz
    |@cons w1 ws1 y1 ys1 b1 bs1 rw1 hwi'=>
     rw [List.zip_cons_cons] at hz
     injection hz with hyx hrest
     injection hyx with hy hx
     subst hy hx
     unfold PyData.canLayAll0 at l1 l2
     rw [Bool.and_eq_true] at l1 l2
     unfold cL at hc
     have hdc:PyData.depthAll (x1::xs1)=max x1.depth (PyData.depthAll xs1):=by rw [PyData.depthAll]
     rw [hdc] at hdp
     simp only [List.length_cons] at hlen
     have he:=eqAt_reads x1 y1 A.in1 ⟨hp,g,d,tk,os⟩ _ _ _ _ rv rw1 l1.1 l2.1 (by show A.units+1+_<cLine; lia)
     refine IK (he prog w _ _ ?_)
     cases e:PyData.eqv x1 y1 with
     |true=>
      rw [e,if_pos rfl] at hc
      wp_walk
      exact ⟨rfl,rfl,_,_,_,_,_,_,hrest,hvi',hwi',0x1,fun z hz=>hsub z (IE _ hz),l1.2,l2.2,0x1,hc⟩
     |false=>
      rw [e,if_neg Bool.false_ne_true] at hc
      have hri:∀(E:Value->Shared->Prop) (Q:Value->Shared->Prop),Q (.bool k) ⟨hp,g,d,tk,os⟩->wpAny (model prog w) A.in1 (richCompare .LtE _ _) Q E ⟨hp,g,d,tk,os⟩:=ih A.in1 ⟨hp,g,d,tk,os⟩ x1 y1 _ _ _ _ k (hsub x1 IF) rv rw1 l1.1 l2.1 (by show A.units+1+_<cLine; lia) hc prog w
      wp_walk using hri
      exact ⟨_,rfl,by simpa using h⟩
  case fin=>
   rintro ⟨b1,b2⟩ s' ⟨hb',rfl,vs,ws,xs',ys',as',bs',hz,hvi,hwi,hlen,hsub,l1,l2,hdp,hc⟩
   simp only at hb'
   subst hb'
   have hv:=sJ hvi hwi hz.symm hc
   simp only [Bool.false_eq_true,if_false] at hv
   have hv2:decide (vs.length<=ws.length)=decide (items.size<=items2.size):=by
    by_cases q:vs.length<=ws.length
    ·rw [decide_eq_true q,decide_eq_true 0x1]
    ·rw [decide_eq_false q,decide_eq_false 0x1]
   rw [hv2] at hv
   rw [hv] at h
   wp_walk
   exact ⟨_,rfl,by simpa [Builtin.Tuple.tupleCompareSizes] using h⟩
  case h=>
   exact ⟨rfl,rfl,items.toList,items2.toList,xs,ys,as,bs,rfl,hi,hj,by simp; lia,fun _ hx=>hx,c1,c2,IJ _,hk⟩
end
theorem lH:∀(n:Nat) (st:Bool) (da db:PyData) (A:Around) (s:Shared) (a b:Value) (as bs:List Addr) (k:Bool),sizeOf da<n->Reads s.heap a da as->Reads s.heap b db bs->da.canLay0=true->db.canLay0=true ->
  A.units+da.depth<cLine->cD st da db=some k->GR A s st a b k
 |0,_,_,_,_,_,_,_,_,_,_,h,_,_,_,_,_,_=>absurd h (Nat.not_lt_zero _)
 |n+1,st,da,db,A,s,a,b,as,bs,k,hn,ra,rb,ha,hb,hu,hk=>by
  intro prog w E Q hQ
  cases ra with
  |none=>cases db <;> simp [cD] at hk
  |bool x=>cases db <;> simp [cD] at hk
  |list _ _ _ _=>cases db <;> simp [cD] at hk
  |dict _ _ _ _ _=>cases db <;> simp [cD] at hk
  |int i t=>
   cases rb with
   |int j u=>
    simp only [cD] at hk
    cases hk
    cases st with
    |true=>exact (PyProof.Rows.lt_int hQ:wpAny (model prog w) A (compareOp .Lt (.int i t) (.int j u)) Q E s)
    |false=>exact (PyProof.Rows.le_int hQ:wpAny (model prog w) A (compareOp .LtE (.int i t) (.int j u)) Q E s)
   |_=>simp [cD] at hk
  |str x t=>
   cases rb with
   |str y u=>
    simp only [cD] at hk
    cases hk
    cases st with
    |true=>exact (PySem.P.lt_str hQ:wpAny (model prog w) A (compareOp .Lt (.str x t) (.str y u)) Q E s)
    |false=>exact (PySem.P.le_str (by simpa [cS] using hQ):wpAny (model prog w) A (compareOp .LtE (.str x t) (.str y u)) Q E s)
   |_=>simp [cD] at hk
  |@tuple a o vs n1 xs as e1 c1 d1 l1=>
   cases rb with
   |@tuple b o2 ws n2 ys bs e2 c2 d2 l2=>
    simp only [cD] at hk
    unfold PyData.canLay0 at ha hb
    unfold PyData.depth at hu
    obtain ⟨cls,dd,data,sl⟩:=o
    obtain ⟨cls2,dd2,data2,sl2⟩:=o2
    simp only at c1 d1 c2 d2
    subst c1 d1 c2 d2
    have ih:∀(A:Around) (s:Shared) (x y:PyData) (a c:Value) (as bs:List Addr) (j:Bool),x∈xs->Reads s.heap a x as->Reads s.heap c y bs->x.canLay0=true->y.canLay0=true->A.units+x.depth<cLine->cD st x y=some j->GR A s st a c j:=
     fun A s x y a c as bs j hx r1 r2 k1 k2 hu' hj=>lH n st x y A s a c as bs j (by
      have:=List.sizeOf_lt_of_mem hx
      simp only [PyData.tuple.sizeOf_spec] at hn
      lia) r1 r2 k1 k2 hu' hj
    cases st with
    |true=>
     exact richCompare_meets_room (op:=.Lt) ⟨_,e1,rfl⟩ ⟨_,e2,rfl⟩ PySem.F.slot_tuple_lt PySem.F.entry_tuple_lt (PySem.F.args_tuple_lt_2 _ _) (pE a b vs ws n1 n2 dd dd2 sl sl2 xs ys k hk ih)
      ⟨e1,e2,⟨_,l1⟩,⟨_,l2⟩,ha,hb,0x1,show Value.bool k≠Value.notImplemented/\Q (.bool k) s from ⟨(fun x=>nomatch x),hQ⟩⟩ 0x1
    |false=>
     exact richCompare_meets_room (op:=.LtE) ⟨_,e1,rfl⟩ ⟨_,e2,rfl⟩ PySem.F.slot_tuple_le PySem.F.entry_tuple_le (PySem.F.args_tuple_le_2 _ _) (pC a b vs ws n1 n2 dd dd2 sl sl2 xs ys k hk ih)
      ⟨e1,e2,⟨_,l1⟩,⟨_,l2⟩,ha,hb,0x1,show Value.bool k≠Value.notImplemented/\Q (.bool k) s from ⟨(fun x=>nomatch x),hQ⟩⟩ 0x1
   |_=>simp [cD] at hk
end L3
set_option autoImplicit false
namespace L3
open PySem PySem.Spec L2
open PyProof.Rows hiding St
noncomputable abbrev D:=PyData
mutual
inductive Rp (Z:List Addr) (H:Hp):D->V->Prop
 |none:Rp Z H .none .non
 |bool (b:Bool):Rp Z H (.bool b) (.bl b)
 |int (i:Int):Rp Z H (.int i) (.int i)
 |str (x:Str):PyData.strOk x=true->Rp Z H (.str x) (.str x)
 |tup {a:Addr} {xs:List D} {vs:List V}:a∉Z->H a=some (.tup vs)->RpL Z H xs vs->Rp Z H (.tuple xs) (.ref a)
 |lst {a:Addr} {xs:List D} {vs:List V}:a∉Z->H a=some (.lst vs)->RpL Z H xs vs->Rp Z H (.list xs) (.ref a)
inductive RpL (Z:List Addr) (H:Hp):List D->List V->Prop
 |nil:RpL Z H [] []
 |cons {d:D} {v:V} {ds:List D} {vs:List V}:Rp Z H d v->RpL Z H ds vs->RpL Z H (d::ds) (v::vs)
end
structure Kp (Z:List Addr) (H:Hp) (Z':List Addr) (H':Hp):Prop where
 keep:∀a o,a∉Z->H a=some o->H' a=some o
 new:∀a,a∈Z'->a∈Z\/H a=none
theorem Kp.same {Z:List Addr} {H H':Hp} (h:aB H H'):Kp Z H Z H':=⟨fun a o _ e=>h a o e,fun _ h=>.inl h⟩
theorem Kp.refl {Z:List Addr} {H:Hp}:Kp Z H Z H:=.same (aB.refl H)
theorem Kp.at {Z Z':List Addr} {H H':Hp} {a:Addr} {u:HO} (k:Kp Z H Z' H') (hz:a∉Z) (e:H a=some u):a∉Z'/\H' a=some u:=
 ⟨fun h=>(k.new a h).elim hz fun z=>(by rw [e] at z; cases z),k.keep a u hz e⟩
theorem aB.rd {H H':Hp} {a:Addr} {u:HO} (h:aB H H') (r:Rd H a u):Rd H' a u:=by
 rcases r with e|⟨o,e⟩
 ·exact .inl (h _ _ e)
 ·exact .inr ⟨o,h _ _ e⟩
mutual
theorem Rp.kp {Z Z':List Addr} {H H':Hp} (k:Kp Z H Z' H'):∀{d:D} {v:V},Rp Z H d v->Rp Z' H' d v
 |_,_,.none=>.none
 |_,_,.bool b=>.bool b
 |_,_,.int i=>.int i
 |_,_,.str x h=>.str x h
 |_,_,.tup hz r l=>.tup (k.at hz r).1 (k.at hz r).2 (RpL.kp k l)
 |_,_,.lst hz r l=>.lst (k.at hz r).1 (k.at hz r).2 (RpL.kp k l)
theorem RpL.kp {Z Z':List Addr} {H H':Hp} (k:Kp Z H Z' H'):∀{ds:List D} {vs:List V},RpL Z H ds vs->RpL Z' H' ds vs
 |_,_,.nil=>.nil
 |_,_,.cons r l=>.cons (Rp.kp k r) (RpL.kp k l)
end
theorem Kp.trans {Z Z1 Z2:List Addr} {H H1 H2:Hp} (a:Kp Z H Z1 H1) (b:Kp Z1 H1 Z2 H2):Kp Z H Z2 H2:=by
 refine ⟨fun c o hc e=>?_,fun c hc=>?_⟩
 ·exact b.keep c o (fun h=>(a.new c h).elim hc fun z=>by rw [e] at z; cases z) (a.keep c o hc e)
 ·rcases b.new c hc with z|z
  ·exact a.new c z
  ·by_cases hz:c∈Z
   ·exact .inl hz
   ·refine .inr ?_
    cases q:H c with
    |none=>rfl
    |some o=>rw [a.keep c o hz q] at z; cases z
theorem Kp.sub {Z Z':List Addr} {H:Hp} (h:∀a,a∈Z'->a∈Z):Kp Z H Z' H:=⟨fun _ _ _ e=>e,fun a ha=>.inl (h a ha)⟩
theorem RpL.length {Z:List Addr} {H:Hp}:∀{ds:List D} {vs:List V},RpL Z H ds vs->ds.length=vs.length
 |_,_,.nil=>rfl
 |_,_,.cons _ l=>by simp [RpL.length l]
theorem RpL.get {Z:List Addr} {H:Hp}:∀{ds:List D} {vs:List V} {i:Nat} {d:D},RpL Z H ds vs->ds[i]?=some d->∃v,vs[i]?=some v/\Rp Z H d v
 |_,_,_,_,.nil,h=>by simp at h
 |_,_,0,_,.cons r _,h=>by simp at h; subst h; exact ⟨_,rfl,r⟩
 |_,_,i+1,d,.cons _ l,h=>by
  obtain ⟨v,e,r⟩:=RpL.get (i:=i) (d:=d) l (by simpa using h)
  exact ⟨v,by simpa using e,r⟩
theorem RpL.append {Z:List Addr} {H:Hp}:∀{ds es:List D} {vs us:List V},RpL Z H ds vs->RpL Z H es us->RpL Z H (ds++es) (vs++us)
 |_,_,_,_,.nil,s=>s
 |_,_,_,_,.cons r l,s=>.cons r (RpL.append l s)
theorem RpL.take {Z:List Addr} {H:Hp}:∀{ds:List D} {vs:List V} (n:Nat),RpL Z H ds vs->RpL Z H (ds.take n) (vs.take n)
 |_,_,0,_=>.nil
 |_,_,_+1,.nil=>.nil
 |_,_,n+1,.cons r l=>.cons r (RpL.take n l)
theorem RpL.drop {Z:List Addr} {H:Hp}:∀{ds:List D} {vs:List V} (n:Nat),RpL Z H ds vs->RpL Z H (ds.drop n) (vs.drop n)
 |_,_,0,l=>l
 |_,_,_+1,.nil=>.nil
 |_,_,n+1,.cons _ l=>RpL.drop n l
theorem RpL.rep {Z:List Addr} {H:Hp} {ds:List D} {vs:List V} (h:RpL Z H ds vs):∀k:Nat,RpL Z H (List.replicate k ds).flatten (List.replicate k vs).flatten
 |0=>.nil
 |k+1=>by
  rw [List.replicate_succ,List.replicate_succ,List.flatten_cons,List.flatten_cons]
  exact h.append (RpL.rep h k)
mutual
theorem Rp.reads {X:Cx} {pins:List (Addr×Obj)} {σ:St} {H:Hp} {s:Shared} (I:Inv X pins σ H s) {Z:List Addr}:∀{d:D} {v:V} {u:Value},Rp Z H d v->bM v u->∃as,Reads s.heap u d as
 |_,_,_,.none,r=>by cases r; exact ⟨_,.none⟩
 |_,_,_,.bool b,r=>by cases r; exact ⟨_,.bool b⟩
 |_,_,_,.int i,r=>by obtain ⟨t,rfl⟩:=r; exact ⟨_,.int i t⟩
 |_,_,_,.str x _,r=>by obtain ⟨t,rfl⟩:=r; exact ⟨_,.str x t⟩
 |_,_,_,.tup hz q l,r=>by
  cases r
  obtain ⟨its,rv,⟨o,e,c,n,dd⟩,_⟩:=I.tuple (jy.of q)
  obtain ⟨as,ra⟩:=RpL.reads I l rv
  exact ⟨_,.tuple e c dd (by simpa using ra)⟩
 |_,_,_,.lst hz q l,r=>by
  cases r
  obtain ⟨its,rv,⟨o,n,e,c,_,dd⟩,_⟩:=I.list (gm.of q)
  obtain ⟨as,ra⟩:=RpL.reads I l rv
  exact ⟨_,.list e c dd (by simpa using ra)⟩
theorem RpL.reads {X:Cx} {pins:List (Addr×Obj)} {σ:St} {H:Hp} {s:Shared} (I:Inv X pins σ H s) {Z:List Addr}:∀{ds:List D} {vs:List V} {us:List Value},RpL Z H ds vs->aQ vs us->∃as,ReadsAll s.heap us ds as
 |_,_,_,.nil,r=>by cases r; exact ⟨_,.nil⟩
 |_,_,_,.cons p l,r=>by
  cases r with
  |cons r rr=>
   obtain ⟨as,h1⟩:=Rp.reads I p r
   obtain ⟨bs,h2⟩:=RpL.reads I l rr
   exact ⟨_,.cons h1 h2⟩
end
mutual
theorem Rp.lay {Z:List Addr} {H:Hp}:∀{d:D} {v:V},Rp Z H d v->d.canLay0=true
 |_,_,.none=>rfl
 |_,_,.bool _=>rfl
 |_,_,.int _=>rfl
 |_,_,.str x h=>by unfold PyData.canLay0; exact h
 |_,_,.tup _ _ l=>by unfold PyData.canLay0; exact RpL.lay l
 |_,_,.lst _ _ l=>by unfold PyData.canLay0; exact RpL.lay l
theorem RpL.lay {Z:List Addr} {H:Hp}:∀{ds:List D} {vs:List V},RpL Z H ds vs->PyData.canLayAll0 ds=true
 |_,_,.nil=>rfl
 |_,_,.cons r l=>by unfold PyData.canLayAll0; rw [Rp.lay r,RpL.lay l]; rfl
end
noncomputable def KL (K:IU) (a:Addr) (xs:List V):Prop:=∃(o:Obj) (its:Array Value) (n:Nat),K.lookup a=some o/\o.cls=.type "list" /\ o.dict=none/\o.data=.seq its n/\its.size<=sizeLine/\aQ xs its.toList
inductive DV where
 |d (x:D)
 |ob (C:Addr) (fs:List (Str×D))
 |tbl (kvs:List (Str×D))
 |ex (q:Addr)
 |tpo (p xs q:List D)
 |nwt (p xs q:List D)
 |own (xs:List D)
 |new (xs:List D)
 |scr (K:IU) (ns:List Int)
noncomputable abbrev DS:=List (Option DV)
noncomputable def C3 (Z:List Addr) (H:Hp):List (Str×D)->List (Str×V)->Prop:=Paired fun (p:Str×D) (q:Str×V)=>p.1=q.1/\Rp Z H p.2 q.2
noncomputable def AW (Z:List Addr) (H:Hp) (C:Addr) (fs:List (Str×D)) (v:V):Prop:=∃a dx gs,v=.ref a/\a∉Z/\H a=some (.ins C dx gs)/\C3 Z H fs gs
noncomputable def Iy (Z:List Addr) (H:Hp):List (Str×D)->List (qu×V)->Prop:=Paired fun (p:Str×D) (q:qu×V)=>q.1=Sum.inr p.1/\Rp Z H p.2 q.2
noncomputable def AS (Z:List Addr) (H:Hp) (kvs:List (Str×D)) (v:V):Prop:=∃a kv,v=.ref a/\a∉Z/\H a=some (.dK kv)/\Iy Z H kvs kv
noncomputable def Iu (P Z:List Addr) (H:Hp) (xs:List D) (v:V):Prop:=∃a vs,v=.ref a/\a∈P/\H a=some (.lst vs)/\RpL Z H xs vs
noncomputable def Eg (P Z:List Addr) (H:Hp) (p xs q:List D) (v:V):Prop:=∃t a ps vs qs,v=.ref t/\t∉Z/\H t=some (.tup (ps++.ref a::qs))/\a∈P/\H a=some (.lst vs)/\RpL Z H p ps/\RpL Z H xs vs/\RpL Z H q qs
noncomputable def Ai (Z:List Addr) (H H':Hp) (p xs q:List D) (v:V):Prop:=∃t a ps vs qs,v=.ref t/\t∉a::Z/\H' t=some (.tup (ps++.ref a::qs))/\H a=none/\H' a=some (.lst vs)/\RpL (a::Z) H' p ps/\RpL (a::Z) H' xs vs/\RpL (a::Z) H' q qs
noncomputable def pq (H:Hp):DV->V->Addr->Prop
 |.own _,v,a=>v=.ref a
 |.tpo p _ _,v,a=>∃t vs,v=.ref t/\H t=some (.tup vs)/\vs[p.length]?=some (.ref a)
 |_,_,_=>False
noncomputable def BR:DV->Bool
 |.own _=>true
 |.tpo _ _ _=>true
 |_=>false
theorem pq.q {H:Hp} {x:DV} {v:V} {a:Addr} (h:pq H x v a):BR x=true:=by
 cases x <;> first|exact h.elim|rfl
noncomputable def RE (O P:List Addr) (H H':Hp):DV->V->Prop
 |.d x,v=>Rp (P++O) H' x v
 |.ob C fs,v=>AW (P++O) H' C fs v
 |.tbl kvs,v=>AS (P++O) H' kvs v
 |.ex q,v=>v=.ref q
 |.tpo p xs q,v=>Eg P (P++O) H' p xs q v
 |.nwt p xs q,v=>Ai (P++O) H H' p xs q v
 |.own xs,v=>Iu P (P++O) H' xs v
 |.new xs,v=>∃a vs,v=.ref a/\H a=none/\H' a=some (.lst vs)/\RpL (a::(P++O)) H' xs vs
 |.scr K ns,v=>∃a,v=.ref a/\((a∉P++O/\Rd H' a (.lst (ns.map V.int)))\/KL K a (ns.map V.int))
structure RS (O P:List Addr) (H:Hp) (σ:St) (δ:DS):Prop where
 len:σ.length=δ.length
 dom:∀a,a∈P++O->∃o,H a=some o
 apart:∀a,a∈P->a∉O
 at':∀(i:Nat) (x:DV),δ[i]?=some (some x)->∃v,σ[i]?=some (some v)/\(∀xs,x≠.new xs)/\RE O P H H x v
 one:∀(i j:Nat) (x y:DV) (v w:V) (a:Addr),δ[i]?=some (some x)->δ[j]?=some (some y)->σ[i]?=some (some v)->σ[j]?=some (some w)->pq H x v a->pq H y w a->i=j
theorem Eg.kp {P P' Z Z':List Addr} {H H':Hp} (k:Kp Z H Z' H') (hP:∀a u,a∈P->H a=some u->a∈P'/\H' a=some u) {p xs q:List D} {v:V} (h:Eg P Z H p xs q v):Eg P' Z' H' p xs q v:=by
 obtain ⟨t,a,ps,vs,qs,e,hz,ht,hp,ha,l1,l2,l3⟩:=h
 exact ⟨t,a,ps,vs,qs,e,(k.at hz ht).1,(k.at hz ht).2,(hP a _ hp ha).1,(hP a _ hp ha).2,l1.kp k,l2.kp k,l3.kp k⟩
theorem Ai.no {Z:List Addr} {H:Hp} {p xs q:List D} {v:V} (h:Ai Z H H p xs q v):False:=by
 obtain ⟨t,a,ps,vs,qs,e,hz,ht,hn,ha,_⟩:=h
 rw [hn] at ha; cases ha
theorem Ai.on {Z:List Addr} {H H1 H2:Hp} {p xs q:List D} {v:V} (h:Ai Z H H1 p xs q v) (s:aB H1 H2):Ai Z H H2 p xs q v:=by
 obtain ⟨t,a,ps,vs,qs,e,hz,ht,hn,ha,l1,l2,l3⟩:=h
 exact ⟨t,a,ps,vs,qs,e,hz,s _ _ ht,hn,s _ _ ha,l1.kp (.same s),l2.kp (.same s),l3.kp (.same s)⟩
theorem pq.old {O P:List Addr} {H H':Hp} {x:DV} {v:V} {a:Addr} (k:∀b o,b∉P++O->H b=some o->H' b=some o) (r:RE O P H H x v) (h:pq H' x v a):pq H x v a:=by
 cases x with
 |own xs=>exact h
 |tpo p xs q=>
  obtain ⟨t,b,ps,vs,qs,e,hz,ht,_⟩:=r
  obtain ⟨t',us,e',ht',hu⟩:=h
  subst e
  cases e'
  rw [k _ _ hz ht] at ht'
  cases ht'
  exact ⟨t,_,rfl,ht,hu⟩
 |_=>exact h.elim
theorem pq.new {O P:List Addr} {H:Hp} {x:DV} {v:V} {a:Addr} (r:RE O P H H x v) (h:pq H x v a):a∈P:=by
 cases x with
 |own xs=>
  obtain ⟨b,vs,e,hP,_⟩:=r
  have h':v=.ref a:=h
  rw [h'] at e; cases e; exact hP
 |tpo p xs q=>
  obtain ⟨t,b,ps,vs,qs,e,hz,ht,hP,_,l,_⟩:=r
  obtain ⟨t',us,e',ht',hu⟩:=h
  subst e
  cases e'
  rw [ht] at ht'
  cases ht'
  rw [l.length,List.getElem?_append_right (IJ _),Nat.sub_self] at hu
  cases hu
  exact hP
 |_=>exact h.elim
theorem C3.kp {Z Z':List Addr} {H H':Hp} (k:Kp Z H Z' H') {fs:List (Str×D)} {gs:List (Str×V)} (h:C3 Z H fs gs):C3 Z' H' fs gs:=Paired.mapP h fun _ _ r=>⟨r.1,r.2.kp k⟩
theorem AW.kp {Z Z':List Addr} {H H':Hp} (k:Kp Z H Z' H') {C:Addr} {fs:List (Str×D)} {v:V} (h:AW Z H C fs v):AW Z' H' C fs v:=by
 obtain ⟨a,dx,gs,e,hz,ha,hf⟩:=h
 refine ⟨a,dx,gs,e,fun hz'=>?_,k.keep _ _ hz ha,hf.kp k⟩
 rcases k.new a hz' with z|z
 ·exact hz z
 ·rw [ha] at z; cases z
theorem AS.kp {Z Z':List Addr} {H H':Hp} (k:Kp Z H Z' H') {kvs:List (Str×D)} {v:V} (h:AS Z H kvs v):AS Z' H' kvs v:=by
 obtain ⟨a,kv,e,hz,ha,hf⟩:=h
 refine ⟨a,kv,e,fun hz'=>?_,k.keep _ _ hz ha,Paired.mapP hf fun _ _ r=>⟨r.1,r.2.kp k⟩⟩
 rcases k.new a hz' with z|z
 ·exact hz z
 ·rw [ha] at z; cases z
theorem RS.same {O P:List Addr} {H H':Hp} {σ:St} {δ:DS} (r:RS O P H σ δ) (h:aB H H'):RS O P H' σ δ:=by
 refine ⟨r.len,fun a ha=>?_,r.apart,fun i x e=>?_,fun i j x y v w a e1 e2 e3 e4 o1 o2=>?_⟩
 ·obtain ⟨o,e⟩:=r.dom a ha
  exact ⟨o,h a o e⟩
 ·obtain ⟨v,e1,e2,e3⟩:=r.at' i x e
  refine ⟨v,e1,e2,?_⟩
  cases x with
  |d x=>exact Rp.kp (.same h) e3
  |ob C fs=>exact AW.kp (.same h) e3
  |tbl kvs=>exact AS.kp (.same h) e3
  |ex q=>exact e3
  |tpo p xs q=>exact Eg.kp (.same h) (fun a u hp ha=>⟨hp,h a u ha⟩) e3
  |nwt p xs q=>exact (Ai.no e3).elim
  |own xs=>
   obtain ⟨a,vs,ev,hP,ha,hl⟩:=e3
   exact ⟨a,vs,ev,hP,h a _ ha,hl.kp (.same h)⟩
  |new xs=>exact absurd rfl (e2 xs)
  |scr K ns=>
   obtain ⟨a,ev,hz⟩:=e3
   exact ⟨a,ev,hz.imp (fun z=>⟨z.1,aB.rd h z.2⟩) fun z=>z⟩
 ·obtain ⟨v',d1,_,r1⟩:=r.at' i x e1
  obtain ⟨w',d2,_,r2⟩:=r.at' j y e2
  rw [e3] at d1; cases d1
  rw [e4] at d2; cases d2
  exact r.one i j x y v w a e1 e2 e3 e4 (o1.old (fun b o _ q=>h b o q) r1) (o2.old (fun b o _ q=>h b o q) r2)
theorem RE.on {O P:List Addr} {H H1 H2:Hp} {x:DV} {v:V} (r:RE O P H H1 x v) (h:aB H1 H2):RE O P H H2 x v:=by
 cases x with
 |d x=>exact Rp.kp (.same h) r
 |ob C fs=>exact AW.kp (.same h) r
 |tbl kvs=>exact AS.kp (.same h) r
 |ex q=>exact r
 |tpo p xs q=>exact Eg.kp (.same h) (fun a u hp ha=>⟨hp,h a u ha⟩) r
 |nwt p xs q=>exact Ai.on r h
 |own xs=>
  obtain ⟨a,vs,ev,hP,ha,hl⟩:=r
  exact ⟨a,vs,ev,hP,h a _ ha,hl.kp (.same h)⟩
 |new xs=>
  obtain ⟨a,vs,ev,hn,ha,hl⟩:=r
  exact ⟨a,vs,ev,hn,h a _ ha,hl.kp (.same h)⟩
 |scr K ns=>
  obtain ⟨a,ev,hz⟩:=r
  exact ⟨a,ev,hz.imp (fun z=>⟨z.1,aB.rd h z.2⟩) fun z=>z⟩
theorem RE.from {O P:List Addr} {H H1 H2:Hp} {x:DV} {v:V} (r:RE O P H1 H2 x v) (h:aB H H1):RE O P H H2 x v:=by
 cases x with
 |d x=>exact r
 |ob C fs=>exact r
 |tbl kvs=>exact r
 |ex q=>exact r
 |tpo p xs q=>exact r
 |nwt p xs q=>
  obtain ⟨t,a,ps,vs,qs,e,hz,ht,hn,ha,ll⟩:=r
  exact ⟨t,a,ps,vs,qs,e,hz,ht,h.free hn,ha,ll⟩
 |own xs=>exact r
 |new xs=>
  obtain ⟨a,vs,ev,hn,ha,hl⟩:=r
  exact ⟨a,vs,ev,h.free hn,ha,hl⟩
 |scr K ns=>exact r
noncomputable abbrev M (α:Type):=Option (Except Value α)
noncomputable def bd {α β:Type} (m:M α) (f:α->M β):M β:=match m with
 |none=>none
 |some (.error c)=>some (.error c)
 |some (.ok a)=>f a
noncomputable def rt {α:Type} (a:α):M α:=some (.ok a)
@[simp] theorem aK {α β:Type} (a:α) (f:α->M β):bd (rt a) f=f a:=rfl
@[simp] theorem yi {α β:Type} (a:α) (f:α->M β):bd (some (.ok a)) f=f a:=rfl
@[simp] theorem qN {α β:Type} (f:α->M β):bd (none:M α) f=none:=rfl
noncomputable def op {α:Type} (o:Option α):M α:=match o with
 |none=>none
 |some a=>some (.ok a)
@[simp] theorem bg {α:Type} (a:α):op (some a)=rt a:=rfl
theorem az {α β:Type} {m:M α} {f:α->M β} {r:Except Value β} (h:bd m f=some r):(∃a,m=some (.ok a)/\f a=some r)\/(∃c,m=some (.error c)/\r=.error c):=by
 cases m with
 |none=>cases h
 |some e=>
  cases e with
  |ok a=>exact .inl ⟨a,rfl,h⟩
  |error c=>exact .inr ⟨c,rfl,by cases h; rfl⟩
noncomputable def vS:DV->Option D
 |.d x=>some x
 |.new xs=>some (.list xs)
 |_=>none
noncomputable def ju:DV->Option (List D)
 |.d (.list xs)=>some xs
 |.own xs=>some xs
 |.new xs=>some xs
 |_=>none
noncomputable def yA:DV->Option DV
 |.d x=>some (.d x)
 |.ob C fs=>some (.ob C fs)
 |.tbl kvs=>some (.tbl kvs)
 |.ex q=>some (.ex q)
 |.new xs=>some (.d (.list xs))
 |.scr K ns=>some (.scr K ns)
 |_=>none
@[simp] theorem By (K:IU) (ns:List Int):yA (.scr K ns)=some (.scr K ns):=rfl
@[simp] theorem vT (x:D):vS (.d x)=some x:=rfl
@[simp] theorem nr (xs:List D):vS (.new xs)=some (.list xs):=rfl
@[simp] theorem Af (xs:List D):ju (.d (.list xs))=some xs:=rfl
@[simp] theorem nq (xs:List D):ju (.own xs)=some xs:=rfl
@[simp] theorem mW (xs:List D):ju (.new xs)=some xs:=rfl
@[simp] theorem GP (x:D):yA (.d x)=some (.d x):=rfl
@[simp] theorem E1 (C:Addr) (fs:List (Str×D)):yA (.ob C fs)=some (.ob C fs):=rfl
@[simp] theorem BY (xs:List D):yA (.new xs)=some (.d (.list xs)):=rfl
section
variable {O P:List Addr} {H H':Hp} {x:DV} {v:V}
theorem oP {xs:List D} (dom:∀a,a∈P++O->∃o,H a=some o) (r:RE O P H H' (.new xs) v):Rp (P++O) H' (.list xs) v:=by
 obtain ⟨a,vs,rfl,hn,ha,hl⟩:=r
 refine .lst (fun h=>?_) ha (hl.kp (.sub fun b hb=>IE _ hb))
 obtain ⟨o,e⟩:=dom a h
 rw [e] at hn; cases hn
theorem RE.data {d:D} (dom:∀a,a∈P++O->∃o,H a=some o) (r:RE O P H H' x v) (h:vS x=some d):Rp (P++O) H' d v:=by
 cases x with
 |d y=>cases h; exact r
 |ob C fs=>cases h
 |tbl kvs=>cases h
 |ex q=>cases h
 |tpo p xs q=>cases h
 |nwt p xs q=>cases h
 |own xs=>cases h
 |new xs=>cases h; exact oP dom r
 |scr K ns=>cases h
theorem RE.list {xs:List D} (r:RE O P H H' x v) (h:ju x=some xs):∃a vs,v=.ref a/\H' a=some (.lst vs)/\RpL (P++O) H' xs vs:=by
 cases x with
 |d y=>
  cases y <;> simp only [ju] at h <;> try cases h
  have r':Rp (P++O) H' _ v:=r
  cases r' with
  |lst hz q l=>exact ⟨_,_,rfl,q,l⟩
 |ob C fs=>cases h
 |tbl kvs=>cases h
 |ex q=>cases h
 |tpo p xs q=>cases h
 |nwt p xs q=>cases h
 |own ys=>
  cases h
  obtain ⟨a,vs,rfl,hP,ha,hl⟩:=r
  exact ⟨a,vs,rfl,ha,hl⟩
 |new ys=>
  cases h
  obtain ⟨a,vs,rfl,hn,ha,hl⟩:=r
  exact ⟨a,vs,rfl,ha,hl.kp (.sub fun b hb=>IE _ hb)⟩
 |scr K ns=>cases h
theorem RE.arg {y:DV} (dom:∀a,a∈P++O->∃o,H a=some o) (r:RE O P H H' x v) (h:yA x=some y):RE O P H H' y v:=by
 cases x with
 |d z=>cases h; exact r
 |ob C fs=>cases h; exact r
 |tbl kvs=>cases h; exact r
 |ex q=>cases h; exact r
 |tpo p xs q=>cases h
 |nwt p xs q=>cases h
 |own xs=>cases h
 |new xs=>cases h; exact oP dom r
 |scr K ns=>cases h; exact r
end
noncomputable def Fn (E:XK) (O P:List Addr) (H₀ H:Hp) (Q:VK):Except Value DV->Prop
 |.ok x=>∀v H',aB H H'->RE O P H₀ H' x v->Q v H'
 |.error c=>∀dx H',aB H H'->E c dx H'
noncomputable def AQ (E:XK) (H:Hp) (Q:Bool->Hp->Prop):Except Value Bool->Prop
 |.ok b=>∀H',aB H H'->Q b H'
 |.error c=>∀dx H',aB H H'->E c dx H'
noncomputable def lx (O P:List Addr) (H H':Hp):List DV->List V->Prop:=Paired (RE O P H H')
noncomputable def Ir (E:XK) (O P:List Addr) (H₀ H:Hp) (Q:List V->Hp->Prop):Except Value (List DV)->Prop
 |.ok xs=>∀vs H',aB H H'->lx O P H₀ H' xs vs->Q vs H'
 |.error c=>∀dx H',aB H H'->E c dx H'
theorem Fn.on {E:XK} {O P:List Addr} {H₀ H H1:Hp} {Q:VK} {r:Except Value DV} (h:Fn E O P H₀ H Q r) (s:aB H H1):Fn E O P H₀ H1 Q r:=by
 cases r with
 |ok x=>exact fun v H' s' q=>h v H' (s.trans s') q
 |error c=>exact fun dx H' s'=>h dx H' (s.trans s')
theorem AQ.on {E:XK} {H H1:Hp} {Q:Bool->Hp->Prop} {r:Except Value Bool} (h:AQ E H Q r) (s:aB H H1):AQ E H1 Q r:=by
 cases r with
 |ok x=>exact fun H' s'=>h H' (s.trans s')
 |error c=>exact fun dx H' s'=>h dx H' (s.trans s')
noncomputable def tE (E:XK) (f:DS->M DV):TE:=fun σ H Q=>∃O P δ r,RS O P H σ δ/\f δ=some r/\Fn E O P H H Q r
noncomputable def As (E:XK) (f:DS->M Bool):TT:=fun σ H Q=>∃O P δ r,RS O P H σ δ/\f δ=some r/\AQ E H Q r
noncomputable def GV (E:XK) (f:DS->M (List DV)):TA:=fun σ H Q=>∃O P δ r,RS O P H σ δ/\f δ=some r/\Ir E O P H H Q r
noncomputable def PX (X:Cx) (E:XK) (e:Expr) (f:DS->M DV):Prop:=PE X e (tE E f)
noncomputable def PB (X:Cx) (E:XK) (e:Expr) (f:DS->M Bool):Prop:=PT X e (As E f)
noncomputable def wM (X:Cx) (E:XK) (es:List Expr) (f:DS->M (List DV)):Prop:=PA X es (GV E f)
section
variable {X:Cx} {E:XK}
theorem PE.mono {e:Expr} {t t':TE} (h:PE X e t) (m:∀σ H Q,t' σ H Q->t σ H Q):PE X e t':=fun pins s σ H Q I q=>h pins s σ H Q I (m σ H Q q)
theorem PT.mono {e:Expr} {t t':TT} (h:PT X e t) (m:∀σ H Q,t' σ H Q->t σ H Q):PT X e t':=fun pins s σ H Q I q=>h pins s σ H Q I (m σ H Q q)
theorem PA.mono {es:List Expr} {t t':TA} (h:PA X es t) (m:∀σ H Q,t' σ H Q->t σ H Q):PA X es t':=fun pos pins s σ H Q I q=>h pos pins s σ H Q I (m σ H Q q)
theorem l8 {f:DS->M DV} {g:DS->DV->M DV} {σ:St} {H:Hp} {Q t:VK} (h:tE E (fun δ=>bd (f δ) (g δ)) σ H Q)
  (k:∀O P δ x r v H1,RS O P H σ δ->RS O P H1 σ δ->aB H H1->RE O P H H1 x v->g δ x=some r->Fn E O P H H1 Q r->t v H1):tE E f σ H t:=by
 obtain ⟨O,P,δ,r,rs,e,q⟩:=h
 rcases az e with ⟨x,e1,e2⟩|⟨c,e1,e2⟩
 ·exact ⟨O,P,δ,.ok x,rs,e1,fun v H1 s1 re=>k O P δ x r v H1 rs (rs.same s1) s1 re e2 (q.on s1)⟩
 ·subst e2
  exact ⟨O,P,δ,.error c,rs,e1,q⟩
theorem uU {f:DS->M DV} {g:DS->DV->M Bool} {σ:St} {H:Hp} {Q:Bool->Hp->Prop} {t:VK} (h:As E (fun δ=>bd (f δ) (g δ)) σ H Q)
  (k:∀O P δ x r v H1,RS O P H σ δ->RS O P H1 σ δ->aB H H1->RE O P H H1 x v->g δ x=some r->AQ E H1 Q r->t v H1):tE E f σ H t:=by
 obtain ⟨O,P,δ,r,rs,e,q⟩:=h
 rcases az e with ⟨x,e1,e2⟩|⟨c,e1,e2⟩
 ·exact ⟨O,P,δ,.ok x,rs,e1,fun v H1 s1 re=>k O P δ x r v H1 rs (rs.same s1) s1 re e2 (q.on s1)⟩
 ·subst e2
  exact ⟨O,P,δ,.error c,rs,e1,q⟩
theorem vp {f:DS->M Bool} {g:DS->Bool->M Bool} {σ:St} {H:Hp} {Q:Bool->Hp->Prop} {t:Bool->Hp->Prop} (h:As E (fun δ=>bd (f δ) (g δ)) σ H Q)
  (k:∀O P δ x r H1,RS O P H σ δ->RS O P H1 σ δ->aB H H1->g δ x=some r->AQ E H1 Q r->t x H1):As E f σ H t:=by
 obtain ⟨O,P,δ,r,rs,e,q⟩:=h
 rcases az e with ⟨x,e1,e2⟩|⟨c,e1,e2⟩
 ·exact ⟨O,P,δ,.ok x,rs,e1,fun H1 s1=>k O P δ x r H1 rs (rs.same s1) s1 e2 (q.on s1)⟩
 ·subst e2
  exact ⟨O,P,δ,.error c,rs,e1,q⟩
noncomputable def af (i:Nat) (δ:DS):M DV:=op ((δ[i]?).join)
theorem ag (i:Nat) {x:Str} {pos:Pos} (h:PE X (.Name x pos) (rH i)):PX X E (.Name x pos) (af i):=PE.mono h fun σ H Q q=>by
 obtain ⟨O,P,δ,r,rs,e,q⟩:=q
 unfold af at e
 cases ed:δ[i]? with
 |none=>rw [ed] at e; cases e
 |some o=>
  cases o with
  |none=>rw [ed] at e; cases e
  |some y=>
   rw [ed] at e
   cases e
   obtain ⟨v,e1,e2,e3⟩:=rs.at' i y ed
   exact ⟨v,e1,q v H (aB.refl H) e3⟩
noncomputable def eC (x:D) (_:DS):M DV:=rt (.d x)
theorem rk {e:Expr} {x:D} {v:V} (h:PE X e (tC v)) (hr:∀Z H,Rp Z H x v):PX X E e (eC x):=PE.mono h fun σ H Q q=>by
 obtain ⟨O,P,δ,r,rs,e,q⟩:=q
 cases e
 exact q v H (aB.refl H) (hr _ _)
theorem aj {i:Int} {j pos}:PX X E (.Constant (.int i) j pos) (eC (.int i)):=rk zU fun _ _=>.int i
theorem kJ {b:Bool} {j pos}:PX X E (.Constant (.bool b) j pos) (eC (.bool b)):=rk Gs fun _ _=>.bool b
theorem gD {x:Str} {j pos} (hx:PyData.strOk x=true):PX X E (.Constant (.str x) j pos) (eC (.str x)):=rk Al fun _ _=>.str x hx
theorem Bb {x:Str} {i:Int} {t:Tok} {pos:Pos} (hg:Gl X x) (hm:X.mg x=some (.int i t)) (hd:(x==("__debug__" : Str))=false:=by decide):PX X E (.Name x pos) (eC (.int i)):=rk (v:=.int i) (Bm hg hm ⟨t,rfl⟩ hd) fun _ _=>.int i
noncomputable def gq (X:Cx) (E:XK) (f:Value->Value->Sem Value) (g:DV->DV->M DV):Prop:=
 ∀(pins:List (Addr×Obj)) (s:Shared) (σ:St) (O P:List Addr) (H₀ H:Hp) (x y:DV) (v u:V) (vv uu:Value) (r:Except Value DV) (Q:VK),Inv X pins σ H s->(∀a,a∈P++O->∃o,H₀ a=some o)->aB H₀ H ->
  RE O P H₀ H x v->RE O P H₀ H y u->bM v vv->bM u uu->g x y=some r->Fn E O P H₀ H Q r->wpAny (model X.prog X.w) X.A (f vv uu) (EP X pins σ Q) X.xe s
noncomputable def e2 (g:DV->DV->M DV) (fa fb:DS->M DV) (δ:DS):M DV:=bd (fa δ) fun x=>bd (fb δ) fun y=>g x y
theorem gq.rule {f:Value->Value->Sem Value} {g:DV->DV->M DV} {R:R2} (ho:si X f R)
  (h:∀(O P:List Addr) (H₀ H:Hp) (x y:DV) (v u:V) (r:Except Value DV) (Q:VK),(∀a,a∈P++O->∃o,H₀ a=some o)->aB H₀ H->RE O P H₀ H x v->RE O P H₀ H y u->g x y=some r->Fn E O P H₀ H Q r->R v u H Q):gq X E f g:=
 fun pins s σ O P H₀ H x y v u vv uu r Q I hd hs rx ry ev eu e q=>ho pins s σ H v u vv uu Q I ev eu (h O P H₀ H x y v u r Q hd hs rx ry e q)
theorem t2 {g:DV->DV->M DV} {fa fb:DS->M DV} {σ:St} {H:Hp} {Q:VK} (h:tE E (e2 g fa fb) σ H Q) {t:V->V->Hp->Prop}
  (k:∀O P x y r v u H1,(∀a,a∈P++O->∃o,H a=some o)->aB H H1->RE O P H H1 x v->RE O P H H1 y u->g x y=some r->Fn E O P H H1 Q r->t v u H1) :
  tE E fa σ H fun v H1=>tE E fb σ H1 fun u H2=>t v u H2:=by
 refine l8 (g:=fun δ x=>bd (fb δ) fun y=>g x y) h fun O P δ x r v H1 rs rs1 s1 rx e q=>?_
 rcases az e with ⟨y,e1,e2⟩|⟨c,e1,e2⟩
 ·refine ⟨O,P,δ,.ok y,rs1,e1,fun u H2 s2 ry=>k O P x y r v u H2 rs.dom (s1.trans s2) (rx.on s2) (ry.from s1) e2 (q.on s2)⟩
 ·subst e2
  exact ⟨O,P,δ,.error c,rs1,e1,q⟩
theorem aD {a b:Expr} {o:Operator} {fa fb:DS->M DV} {g:DV->DV->M DV} {pos:Pos} (ho:gq X E (binaryOp o) g) (ha:PX X E a fa) (hb:PX X E b fb):PX X E (.BinOp a o b pos) (e2 g fa fb):=by
 intro pins s σ H Q I h
 exact wpAny_BinOp (HJ ha hb I (t2 h (t:=fun v u H1=>∃O P x y r,(∀a,a∈P++O->∃o,H a=some o)/\aB H H1/\RE O P H H1 x v/\RE O P H H1 y u/\g x y=some r/\Fn E O P H H1 Q r) fun O P x y r v u H1 h1 h2 h3 h4 h5 h6=>⟨O,P,x,y,r,h1,h2,h3,h4,h5,h6⟩)
  fun vv uu s2 v u H2 I2 rv ru ⟨O,P,x,y,r,h1,h2,h3,h4,h5,h6⟩=>ho pins s2 σ O P H H2 x y v u vv uu r Q I2 h1 h2 h3 h4 rv ru h5 h6)
theorem fD {a b:Expr} {o:CmpOp} {fa fb:DS->M DV} {g:DV->DV->M DV} {pos:Pos} (ho:gq X E (compareOp o) g) (ha:PX X E a fa) (hb:PX X E b fb) (hm:behindInMarks o b=false:=by first|exact yD _|rfl):PX X E (.Compare a [o] [b] pos) (e2 g fa fb):=by
 intro pins s σ H Q I h
 exact wpAny_Compare1 (HJ ha hb I (t2 h (t:=fun v u H1=>∃O P x y r,(∀a,a∈P++O->∃o,H a=some o)/\aB H H1/\RE O P H H1 x v/\RE O P H H1 y u/\g x y=some r/\Fn E O P H H1 Q r) fun O P x y r v u H1 h1 h2 h3 h4 h5 h6=>⟨O,P,x,y,r,h1,h2,h3,h4,h5,h6⟩)
  fun vv uu s2 v u H2 I2 rv ru ⟨O,P,x,y,r,h1,h2,h3,h4,h5,h6⟩=>ho pins s2 σ O P H H2 x y v u vv uu r Q I2 h1 h2 h3 h4 rv ru h5 h6) hm
noncomputable def gI (C:Int->Int->Bool) (h:Int->Int->D) (x y:DV):M DV:=match x,y with
 |.d (.int i),.d (.int j)=>if C i j=true then rt (.d (h i j)) else none
 |_,_=>none
theorem uc {C:Int->Int->Bool} {h:Int->Int->D} {x y:DV} {r:Except Value DV} (e:gI C h x y=some r):∃i j,x=.d (.int i)/\y=.d (.int j)/\C i j=true/\r=.ok (.d (h i j)):=by
 unfold gI at e
 split at e
 ·rename_i i j
  split at e
  ·cases e; exact ⟨i,j,rfl,rfl,by assumption,rfl⟩
  ·cases e
 ·cases e
theorem qF {f:Value->Value->Sem Value} {C:Int->Int->Bool} {CP:Int->Int->Prop} {h:Int->Int->D} {hv:Int->Int->V} (ho:si X f (rI CP hv)) (hC:∀i j,C i j=true->CP i j) (hr:∀i j Z H,Rp Z H (h i j) (hv i j)):gq X E f (gI C h):=
 gq.rule ho fun O P H₀ H x y v u r Q hd hs rx ry e q=>by
  obtain ⟨i,j,rfl,rfl,hc,rfl⟩:=uc e
  cases rx; cases ry
  exact ⟨i,j,rfl,rfl,hC i j hc,q _ H (aB.refl H) (hr i j _ _)⟩
noncomputable def uO (_ _:Int):Bool:=true
theorem gP {f:Value->Value->Sem Value} {h:Int->Int->D} {hv:Int->Int->V} (ho:si X f (CA hv)) (hr:∀i j Z H,Rp Z H (h i j) (hv i j)):gq X E f (gI uO h):=
 gq.rule ho fun O P H₀ H x y v u r Q hd hs rx ry e q=>by
  obtain ⟨i,j,rfl,rfl,hc,rfl⟩:=uc e
  cases rx; cases ry
  exact ⟨i,j,rfl,rfl,q _ H (aB.refl H) (hr i j _ _)⟩
noncomputable def uy:=gI uO fun i j=>.int (i+j)
noncomputable def gSub:=gI uO fun i j=>.int (i-j)
noncomputable def sQ (i j:Int):Bool:=(decide (-(2 ^ 64)<i)&&decide (i<2 ^ 64))||(decide (-(2 ^ 64)<j)&&decide (j<2 ^ 64))
noncomputable def DD:=gI sQ fun i j=>.int (i*j)
noncomputable def Fq (_ j:Int):Bool:=decide (0<j)&&decide (j<1073741824)
noncomputable def lO:=gI Fq fun i j=>.int (i / j)
noncomputable def Ey (_ j:Int):Bool:=decide (0<j)
noncomputable def fM:=gI Ey fun i j=>.int (i % j)
noncomputable def HU:=gI uO fun i j=>.bool (decide (i<j))
noncomputable def GU:=gI uO fun i j=>.bool (decide (i<=j))
noncomputable def ph:=gI uO fun i j=>.bool (decide (j<i))
noncomputable def Hu:=gI uO fun i j=>.bool (decide (j<=i))
theorem DJ:gq X E (binaryOp .Add) uy:=gP Dx fun _ _ _ _=>.int _
theorem ft:gq X E (binaryOp .Sub) gSub:=gP EH fun _ _ _ _=>.int _
theorem EX:gq X E (binaryOp .Mult) DD:=qF DR (fun i j h=>by simpa [sQ,Cq] using h) fun _ _ _ _=>.int _
theorem l7:gq X E (binaryOp .FloorDiv) lO:=qF CL (fun i j h=>by simpa [Fq,GO] using h) fun _ _ _ _=>.int _
theorem eU:gq X E (binaryOp .Mod) fM:=qF Fc (fun i j h=>by simpa [Ey] using h) fun _ _ _ _=>.int _
theorem Ga:gq X E (compareOp .Lt) HU:=gP FK fun _ _ _ _=>.bool _
theorem GJ:gq X E (compareOp .LtE) GU:=gP Gq fun _ _ _ _=>.bool _
theorem pU:gq X E (compareOp .Gt) ph:=gP Gy fun _ _ _ _=>.bool _
theorem GG:gq X E (compareOp .GtE) Hu:=gP Gx fun _ _ _ _=>.bool _
end
noncomputable def kZ:DV->Option D
 |.d x=>some x
 |.own xs=>some (.list xs)
 |.new xs=>some (.list xs)
 |_=>none
@[simp] theorem qp (x:D):kZ (.d x)=some x:=rfl
@[simp] theorem rf (xs:List D):kZ (.own xs)=some (.list xs):=rfl
@[simp] theorem rK (xs:List D):kZ (.new xs)=some (.list xs):=rfl
section
variable {X:Cx} {E:XK}
theorem nM {pins:List (Addr×Obj)} {σ:St} {H:Hp} {s:Shared} (I:Inv X pins σ H s) {Z:List Addr} {a:Addr} {xs:List D} {vs:List V} (q:H a=some (.lst vs)) (l:RpL Z H xs vs):∃as,Reads s.heap (.ref a) (.list xs) as:=by
 obtain ⟨its,rv,⟨o,n,e,c,_,dd⟩,_⟩:=I.list (gm.of q)
 obtain ⟨as,ra⟩:=RpL.reads I l rv
 exact ⟨_,.list e c dd (by simpa using ra)⟩
theorem RE.reads {pins:List (Addr×Obj)} {σ:St} {O P:List Addr} {H₀ H:Hp} {s:Shared} {x:DV} {v:V} {u:Value} {d:D} (I:Inv X pins σ H s) (r:RE O P H₀ H x v) (ru:bM v u) (h:kZ x=some d):(∃as,Reads s.heap u d as)/\d.canLay0=true:=by
 cases x with
 |d y=>
  cases h
  have r':Rp (P++O) H d v:=r
  exact ⟨Rp.reads I r' ru,r'.lay⟩
 |ob C fs=>cases h
 |tbl kvs=>cases h
 |ex q=>cases h
 |tpo p xs q=>cases h
 |nwt p xs q=>cases h
 |own xs=>
  cases h
  obtain ⟨a,vs,rfl,hP,ha,hl⟩:=r
  cases ru
  exact ⟨nM I ha hl,by unfold PyData.canLay0; exact hl.lay⟩
 |new xs=>
  cases h
  obtain ⟨a,vs,rfl,hn,ha,hl⟩:=r
  cases ru
  exact ⟨nM I ha hl,by unfold PyData.canLay0; exact hl.lay⟩
 |scr K ns=>cases h
noncomputable def fg (neg:Bool) (x y:DV):M DV:=match kZ x,kZ y with
 |some a,some b=>if a.depth<=60 then rt (.d (.bool (if neg=true then !PyData.eqv a b else PyData.eqv a b))) else none
 |_,_=>none
theorem ql {neg:Bool} {x y:DV} {r:Except Value DV} (e:fg neg x y=some r):∃a b,kZ x=some a/\kZ y=some b/\a.depth<=60/\r=.ok (.d (.bool (if neg=true then !PyData.eqv a b else PyData.eqv a b))):=by
 unfold fg at e
 split at e
 ·rename_i a b h1 h2
  split at e
  ·cases e; exact ⟨a,b,h1,h2,by assumption,rfl⟩
  ·cases e
 ·cases e
theorem fZ (hu:X.A.units+64<cLine):gq X E (compareOp .Eq) (fg false):=fun pins s σ O P H₀ H x y v u vv uu r Q I hd hs rx ry ev eu e q=>by
 obtain ⟨a,b,h1,h2,hdp,rfl⟩:=ql e
 obtain ⟨⟨as,ra⟩,la⟩:=rx.reads I ev h1
 obtain ⟨⟨bs,rb⟩,lb⟩:=ry.reads I eu h2
 exact SeqAt.compareEq_reads ra rb la lb (by have:=Nat.min_le_left a.depth b.depth; lia) ⟨.bl _,H,I,rfl,q _ H (aB.refl H) (.bool _)⟩
theorem sL (hu:X.A.units+64<cLine):gq X E (compareOp .NotEq) (fg true):=fun pins s σ O P H₀ H x y v u vv uu r Q I hd hs rx ry ev eu e q=>by
 obtain ⟨a,b,h1,h2,hdp,rfl⟩:=ql e
 obtain ⟨⟨as,ra⟩,la⟩:=rx.reads I ev h1
 obtain ⟨⟨bs,rb⟩,lb⟩:=ry.reads I eu h2
 exact SeqAt.compareNe_reads ra rb la lb (by have:=Nat.min_le_left a.depth b.depth; lia) ⟨.bl _,H,I,rfl,q _ H (aB.refl H) (.bool _)⟩
noncomputable def yf (neg:Bool) (x y:DV):M DV:=match kZ x,kZ y with
 |some a,some (.list ys)=>if a.depth<=60 then rt (.d (.bool (if neg=true then !ys.any (fun z=>PyData.eqv z a) else ys.any fun z=>PyData.eqv z a))) else none
 |some a,some (.tuple ys)=>if a.depth<=60 then rt (.d (.bool (if neg=true then !ys.any (fun z=>PyData.eqv z a) else ys.any fun z=>PyData.eqv z a))) else none
 |_,_=>none
theorem xu {neg:Bool} {x y:DV} {r:Except Value DV} (e:yf neg x y=some r):∃a ys,kZ x=some a/\(kZ y=some (.list ys)\/kZ y=some (.tuple ys))/\a.depth<=60/\r=.ok (.d (.bool (if neg=true then !ys.any (fun z=>PyData.eqv z a) else ys.any fun z=>PyData.eqv z a))):=by
 unfold yf at e
 split at e
 ·rename_i a b h1 h2
  split at e
  ·cases e; exact ⟨a,_,h1,.inl h2,by assumption,rfl⟩
  ·cases e
 ·rename_i a b h1 h2
  split at e
  ·cases e; exact ⟨a,_,h1,.inr h2,by assumption,rfl⟩
  ·cases e
 ·cases e
theorem C7 (hu:X.A.units+64<cLine):gq X E (compareOp .In) (yf false):=fun pins s σ O P H₀ H x y v u vv uu r Q I hd hs rx ry ev eu e q=>by
 obtain ⟨a,ys,h1,h2,hdp,rfl⟩:=xu e
 obtain ⟨⟨as,ra⟩,la⟩:=rx.reads I ev h1
 rcases h2 with h2|h2
 ·obtain ⟨⟨bs,rb⟩,lb⟩:=ry.reads I eu h2
  unfold PyData.canLay0 at lb
  exact SeqAt.in_list_reads rb ra lb la (by have:=Nat.min_le_right (PyData.depthAll ys) a.depth; lia) ⟨.bl _,H,I,rfl,q _ H (aB.refl H) (.bool _)⟩
 ·obtain ⟨⟨bs,rb⟩,lb⟩:=ry.reads I eu h2
  unfold PyData.canLay0 at lb
  exact SeqAt.in_tuple_reads rb ra lb la (by have:=Nat.min_le_right (PyData.depthAll ys) a.depth; lia) ⟨.bl _,H,I,rfl,q _ H (aB.refl H) (.bool _)⟩
noncomputable def gC (st:Bool) (x y:DV):M DV:=match x,y with
 |.d a,.d b=>if a.depth<=60 then bd (op (cD st a b)) fun k=>rt (.d (.bool k)) else none
 |_,_=>none
theorem AD (st:Bool) (hu:X.A.units+64<cLine):gq X E (compareOp (Ic st)) (gC st):=fun pins s σ O P H₀ H x y v u vv uu r Q I hd hs rx ry ev eu e q=>by
 unfold gC at e
 split at e
 ·rename_i a b
  split at e
  ·rename_i hdp
   cases hk:cD st a b with
   |none=>rw [hk] at e; cases e
   |some k=>
    rw [hk] at e
    cases e
    obtain ⟨⟨as,ra⟩,la⟩:=rx.reads I ev (d:=a) rfl
    obtain ⟨⟨bs,rb⟩,lb⟩:=ry.reads I eu (d:=b) rfl
    have h:=lH _ st a b X.A s vv uu as bs k (Nat.lt_succ_self _) ra rb la lb 0x1 hk X.prog X.w X.xe (EP X pins σ Q) ⟨.bl _,H,I,rfl,q _ H (aB.refl H) (.bool _)⟩
    cases st with
    |true=>exact h
    |false=>exact h
  ·cases e
 ·cases e
theorem EO (hu:X.A.units+64<cLine):gq X E (compareOp .Lt) (gC true):=AD true hu
theorem EY (hu:X.A.units+64<cLine):gq X E (compareOp .LtE) (gC false):=AD false hu
noncomputable def AM (x y:DV):M DV:=match ju x,ju y with
 |some xs,some ys=>if xs.length+ys.length<=1000000 then rt (.new (xs++ys)) else none
 |_,_=>none
theorem fB {n:Nat} (h:n<=1000000):n<=sizeLine:=Nat.le_trans h (by rw [sizeLine_eq]; decide)
theorem B3 {O P:List Addr} {H₀ H:Hp} {p:Addr} (hd:∀a,a∈P++O->∃o,H₀ a=some o) (hs:aB H₀ H) (hp:H p=none):p∉P++O:=fun h=>by
 obtain ⟨o,e⟩:=hd p h
 rw [hs p o e] at hp; cases hp
theorem bH {H:Hp} {p:Addr} {o:HO} (hp:H p=none):aB H (du H p o):=fun b u e=>by rw [aN (cA e hp)]; exact e
theorem DN {Z:List Addr} {H:Hp} {p:Addr} {o:HO} (hp:H p=none):Kp Z H (p::Z) (du H p o):=⟨fun a u _ e=>bH hp a u e,fun a ha=>by
 rcases List.mem_cons.mp ha with e|e
 ·subst e; exact .inr hp
 ·exact .inl e⟩
theorem RE.made {O P:List Addr} {H₀ H:Hp} {p:Addr} {xs:List D} {vs:List V} (hs:aB H₀ H) (hp:H p=none) (l:RpL (P++O) H xs vs):RE O P H₀ (du H p (.lst vs)) (.new xs) (.ref p):=
 ⟨p,vs,rfl,hs.free hp,cf,l.kp (DN hp)⟩
theorem zf {O P:List Addr} {H₀ H:Hp} {p:Addr} {xs:List D} {vs:List V} (hd:∀a,a∈P++O->∃o,H₀ a=some o) (hs:aB H₀ H) (hp:H p=none) (l:RpL (P++O) H xs vs):RE O P H₀ (du H p (.tup vs)) (.d (.tuple xs)) (.ref p):=
 .tup (B3 hd hs hp) cf (l.kp (.same (bH hp)))
theorem vj {x y:DV} {r:Except Value DV} (e:AM x y=some r):∃xs ys,ju x=some xs/\ju y=some ys/\xs.length+ys.length<=1000000/\r=.ok (.new (xs++ys)):=by
 unfold AM at e
 split at e
 ·rename_i xs ys h1 h2
  split at e
  ·cases e; exact ⟨xs,ys,h1,h2,by assumption,rfl⟩
  ·cases e
 ·cases e
theorem DZ:gq X E (binaryOp .Add) AM:=gq.rule Ed fun O P H₀ H x y v u r Q hd hs rx ry e q=>by
 obtain ⟨xs,ys,h1,h2,hz,rfl⟩:=vj e
 obtain ⟨a,vs,rfl,ha,la⟩:=rx.list h1
 obtain ⟨b,us,rfl,hb,lb⟩:=ry.list h2
 exact ⟨a,b,vs,us,rfl,rfl,ha,hb,fB (by rw [<-la.length,<-lb.length]; exact hz),fun p hp=>q _ _ (bH hp) (RE.made hs hp (la.append lb))⟩
noncomputable def yF (x y:DV):M DV:=match ju x,y with
 |some xs,.d (.int k)=>if xs.length*k.toNat<=1000000/\-(2 ^ 63)<=k/\k<2 ^ 63 then rt (.new (List.replicate k.toNat xs).flatten) else none
 |_,_=>none
theorem Fs:gq X E (binaryOp .Mult) yF:=gq.rule ES fun O P H₀ H x y v u r Q hd hs rx ry e q=>by
 unfold yF at e
 split at e
 ·rename_i xs k h1
  split at e
  ·rename_i hz
   cases e
   obtain ⟨a,vs,rfl,ha,la⟩:=rx.list h1
   cases ry
   exact ⟨a,k,vs,rfl,rfl,ha,hz.2.1,hz.2.2,fB (by rw [<-la.length]; exact hz.1),fun p hp=>q _ _ (bH hp) (RE.made hs hp (la.rep _))⟩
  ·cases e
 ·cases e
noncomputable def yh (g g':DV->DV->M DV) (x y:DV):M DV:=match g x y with
 |none=>g' x y
 |some r=>some r
theorem gq.or {f:Value->Value->Sem Value} {g g':DV->DV->M DV} (h:gq X E f g) (h':gq X E f g'):gq X E f (yh g g'):=fun pins s σ O P H₀ H x y v u vv uu r Q I hd hs rx ry ev eu e q=>by
 unfold yh at e
 cases hg:g x y with
 |none=>rw [hg] at e; exact h' pins s σ O P H₀ H x y v u vv uu r Q I hd hs rx ry ev eu e q
 |some r'=>rw [hg] at e; cases e; exact h pins s σ O P H₀ H x y v u vv uu r Q I hd hs rx ry ev eu hg q
end
theorem yW {α β γ:Type} (m:M α) (f:α->M β) (g:β->M γ):bd (bd m f) g=bd m fun a=>bd (f a) g:=by
 cases m with
 |none=>rfl
 |some z=>cases z <;> rfl
noncomputable def bw:DV->M Bool
 |.d (.bool b)=>rt b
 |_=>none
@[simp] theorem wK (b:Bool):bw (.d (.bool b))=rt b:=rfl
theorem lV {x:DV} {r:Except Value Bool} (h:bw x=some r):∃b,x=.d (.bool b)/\r=.ok b:=by
 unfold bw at h
 split at h
 ·rename_i b
  cases h; exact ⟨b,rfl,rfl⟩
 ·cases h
section
variable {X:Cx} {E:XK} {a b c e:Expr} {pos:Pos} {fa fb fc f:DS->M DV} {ga gb:DS->M Bool}
theorem rZ {O P:List Addr} {H₀ H:Hp} {x:DV} {v:V} {r:Except Value Bool} {Q:Bool->Hp->Prop} (rx:RE O P H₀ H x v) (h:bw x=some r) (q:AQ E H Q r):∃k,v=.bl k/\Q k H:=by
 obtain ⟨k,rfl,rfl⟩:=lV h
 cases rx
 exact ⟨k,rfl,q H (aB.refl H)⟩
theorem gE (h:PX X E e f) (he:∀whole,isTrue e X.env whole=(do let v <-whole; standAt e.pos; holding [v] (truthy v)):=by intro _; rfl):PB X E e (fun δ=>bd (f δ) bw):=
 PT.mono (Ea h he) fun σ H Q q=>uU (g:=fun _=>bw) q fun O P δ x r v H1 rs rs1 s1 rx e' q'=>rZ rx e' q'
theorem IC {g:DV->DV->M DV} {σ:St} {H:Hp} {Q:Bool->Hp->Prop} (h:As E (fun δ=>bd (e2 g fa fb δ) bw) σ H Q) {t:V->V->Hp->Prop}
  (k:∀O P x y r v u H1,(∀a,a∈P++O->∃o,H a=some o)->aB H H1->RE O P H H1 x v->RE O P H H1 y u->bd (g x y) bw=some r->AQ E H1 Q r->t v u H1) :
  tE E fa σ H fun v H1=>tE E fb σ H1 fun u H2=>t v u H2:=by
 have h':As E (fun δ=>bd (fa δ) fun x=>bd (bd (fb δ) fun y=>g x y) bw) σ H Q:=by
  obtain ⟨O,P,δ,r,rs,e,q⟩:=h
  exact ⟨O,P,δ,r,rs,(yW _ _ _).symm.trans e,q⟩
 refine uU (g:=fun δ x=>bd (bd (fb δ) fun y=>g x y) bw) h' fun O P δ x r v H1 rs rs1 s1 rx e q=>?_
 rcases az e with ⟨z,e1,e2⟩|⟨c,e1,e2⟩
 ·rcases az e1 with ⟨y,e3,e4⟩|⟨c,e3,e4⟩
  ·exact ⟨O,P,δ,.ok y,rs1,e3,fun u H2 s2 ry=>k O P x y r v u H2 rs.dom (s1.trans s2) (rx.on s2) (ry.from s1) (by rw [e4]; exact e2) (q.on s2)⟩
  ·cases e4
 ·rcases az e1 with ⟨y,e3,e4⟩|⟨c',e3,e4⟩
  ·exact ⟨O,P,δ,.ok y,rs1,e3,fun u H2 s2 ry=>k O P x y r v u H2 rs.dom (s1.trans s2) (rx.on s2) (ry.from s1) (by rw [e4]; subst e2; rfl) (q.on s2)⟩
  ·cases e4
   subst e2
   exact ⟨O,P,δ,.error c,rs1,e3,q⟩
theorem gq.test {o:Value->Value->Sem Value} {g:DV->DV->M DV} (ho:gq X E o g) {pins:List (Addr×Obj)} {s:Shared} {σ:St} {O P:List Addr} {H₀ H:Hp} {x y:DV} {v u:V} {vv uu:Value} {r:Except Value Bool} {Q:Bool->Hp->Prop}
  (I:Inv X pins σ H s) (hd:∀a,a∈P++O->∃o,H₀ a=some o) (hs:aB H₀ H) (rx:RE O P H₀ H x v) (ry:RE O P H₀ H y u) (ev:bM v vv) (eu:bM u uu) (e:bd (g x y) bw=some r) (q:AQ E H Q r) :
  wpAny (model X.prog X.w) X.A (o vv uu) (EP X pins σ fun z H2=>∃k,z=.bl k/\Q k H2) X.xe s:=by
 rcases az e with ⟨z,e1,e2⟩|⟨c,e1,e2⟩
 ·refine ho pins s σ O P H₀ H x y v u vv uu (.ok z) _ I hd hs rx ry ev eu e1 fun w H2 s2 rz=>rZ rz e2 (q.on s2)
 ·subst e2
  exact ho pins s σ O P H₀ H x y v u vv uu (.error c) _ I hd hs rx ry ev eu e1 q
theorem bu {o:CmpOp} {g:DV->DV->M DV} (ho:gq X E (compareOp o) g) (ha:PX X E a fa) (hb:PX X E b fb) (hm:behindInMarks o b=false:=by first|exact yD _|rfl):PB X E (.Compare a [o] [b] pos) (fun δ=>bd (e2 g fa fb δ) bw):=by
 intro pins s σ H Q I h
 refine wpAny_isTrue_Compare1 (HJ ha hb I (IC h (t:=fun v u H1=>∃O P x y r,(∀a,a∈P++O->∃o,H a=some o)/\aB H H1/\RE O P H H1 x v/\RE O P H H1 y u/\bd (g x y) bw=some r/\AQ E H1 Q r) fun O P x y r v u H1 h1 h2 h3 h4 h5 h6=>⟨O,P,x,y,r,h1,h2,h3,h4,h5,h6⟩)
  fun vv uu s2 v u H2 I2 rv ru ⟨O,P,x,y,r,h1,h2,h3,h4,h5,h6⟩=>cJ (ho.test I2 h1 h2 h3 h4 rv ru h5 h6) fun d s3 ⟨z,H3,I3,r3,k,ez,q3⟩=>?_) hm
 subst ez
 cases r3
 exact wpAny_truthy_bool ⟨H3,I3,q3⟩
noncomputable def yg (g g':DV->DV->M DV) (fa fb fc:DS->M DV) (δ:DS):M DV:=bd (fa δ) fun x=>bd (fb δ) fun y=>bd (bd (g x y) bw) fun k=>if k=true then bd (fc δ) fun z=>g' y z else rt (.d (.bool false))
theorem t3 {g g':DV->DV->M DV} {σ:St} {H:Hp} {Q:VK} (h:tE E (yg g g' fa fb fc) σ H Q) {t:V->V->Hp->Prop}
  (k:∀O P δ x y r v u H1,RS O P H σ δ->RS O P H1 σ δ->aB H H1->RE O P H H1 x v->RE O P H H1 y u->(bd (bd (g x y) bw) fun k=>if k=true then bd (fc δ) fun z=>g' y z else rt (.d (.bool false)))=some r->Fn E O P H H1 Q r->t v u H1) :
  tE E fa σ H fun v H1=>tE E fb σ H1 fun u H2=>t v u H2:=by
 refine l8 (g:=fun δ x=>bd (fb δ) fun y=>bd (bd (g x y) bw) fun k=>if k=true then bd (fc δ) fun z=>g' y z else rt (.d (.bool false))) h fun O P δ x r v H1 rs rs1 s1 rx e q=>?_
 rcases az e with ⟨y,e1,e2⟩|⟨c,e1,e2⟩
 ·exact ⟨O,P,δ,.ok y,rs1,e1,fun u H2 s2 ry=>k O P δ x y r v u H2 rs (rs1.same s2) (s1.trans s2) (rx.on s2) (ry.from s1) e2 (q.on s2)⟩
 ·subst e2
  exact ⟨O,P,δ,.error c,rs1,e1,q⟩
theorem tW {o o':CmpOp} {g g':DV->DV->M DV} (ho:gq X E (compareOp o) g) (ho':gq X E (compareOp o') g') (ha:PX X E a fa) (hb:PX X E b fb) (hc:PX X E c fc)
  (hm:lastMarks [o,o'] [b,c]=false:=by with_unfolding_all rfl):PX X E (.Compare a [o,o'] [b,c] pos) (yg g g' fa fb fc):=by
 intro pins s σ H Q I h
 refine Compare_chain (cJ (ha pins s σ H _ I (t3 h (t:=fun v u H1=>∃O P δ x y r,RS O P H σ δ/\RS O P H1 σ δ/\aB H H1/\RE O P H H1 x v/\RE O P H H1 y u/\(bd (bd (g x y) bw) fun k=>if k=true then bd (fc δ) fun z=>g' y z else rt (.d (.bool false)))=some r/\Fn E O P H H1 Q r)
  fun O P δ x y r v u H1 h1 h2 h3 h4 h5 h6 h7=>⟨O,P,δ,x,y,r,h1,h2,h3,h4,h5,h6,h7⟩)) fun vv s1 ⟨v,H1,I1,r1,q1⟩=>chain_link (cJ (hb pins s1 σ H1 _ I1 q1) fun uu s2 ⟨u,H2,I2,r2,q2⟩=>?_)) hm
 obtain ⟨O,P,δ,x,y,r,h1,h2,h3,h4,h5,h6,h7⟩:=q2
 rcases az h6 with ⟨k,e1,e2⟩|⟨cx,e1,e2⟩
 ·refine cJ (ho.test (Q:=fun k' H3=>k'=k/\aB H2 H3) I2 h1.dom h3 h4 h5 r1 r2 e1 fun H3 s3=>⟨rfl,s3⟩) fun d s3 ⟨z,H3,I3,r3,k',ez,ek,s3'⟩=>?_
  subst ez ek
  cases r3
  refine wpAny_truthy_bool ?_
  cases k' with
  |false=>
   cases e2
   exact ite_ff ⟨.bl false,H3,I3,rfl,h7 _ H3 s3' (.bool false)⟩
  |true=>
   simp only [if_true] at e2
   refine ite_tt (chain_last (cJ (hc pins s3 σ H3 (fun w' H4=>∃zz,RE O P H H4 zz w'/\aB H3 H4/\g' y zz=some r) I3 ?_) fun ww s4 ⟨w',H4,I4,r4,zz,q4,s4',e4⟩=>?_))
   ·rcases az e2 with ⟨zz,e3,e4⟩|⟨cc,e3,e4⟩
    ·exact ⟨O,P,δ,.ok zz,h2.same s3',e3,fun w' H4 s4 rz=>⟨zz,rz.from (h3.trans s3'),s4,e4⟩⟩
    ·subst e4
     exact ⟨O,P,δ,.error cc,h2.same s3',e3,h7.on s3'⟩
   ·exact ho' pins s4 σ O P H H4 y zz u w' uu ww r Q I4 h1.dom (h3.trans (s3'.trans s4')) (h5.on (s3'.trans s4')) q4 r2 r4 e4 (h7.on (s3'.trans s4'))
 ·subst e2
  exact cJ (ho.test (Q:=fun _ _=>False) I2 h1.dom h3 h4 h5 r1 r2 e1 h7) fun d s3 ⟨z,H3,I3,r3,k',ez,q3⟩=>q3.elim
theorem nv {o o':CmpOp} {g g':DV->DV->M DV} (ho:gq X E (compareOp o) g) (ho':gq X E (compareOp o') g') (ha:PX X E a fa) (hb:PX X E b fb) (hc:PX X E c fc)
  (hm:lastMarks [o,o'] [b,c]=false:=by with_unfolding_all rfl):PB X E (.Compare a [o,o'] [b,c] pos) (fun δ=>bd (yg g g' fa fb fc δ) bw):=by
 intro pins s σ H Q I h
 have h':tE E (yg g g' fa fb fc) σ H (fun z H'=>∃k,z=.bl k/\Q k H'):=uU (g:=fun _=>bw) h fun O P δ x r v H1 rs rs1 s1 rx e' q'=>rZ rx e' q'
 refine isTrue_chain (cJ (ha pins s σ H _ I (t3 h' (t:=fun v u H1=>∃O P δ x y r,RS O P H σ δ/\RS O P H1 σ δ/\aB H H1/\RE O P H H1 x v/\RE O P H H1 y u/\(bd (bd (g x y) bw) fun k=>if k=true then bd (fc δ) fun z=>g' y z else rt (.d (.bool false)))=some r/\Fn E O P H H1 (fun z H'=>∃k,z=.bl k/\Q k H') r)
  fun O P δ x y r v u H1 h1 h2 h3 h4 h5 h6 h7=>⟨O,P,δ,x,y,r,h1,h2,h3,h4,h5,h6,h7⟩)) fun vv s1 ⟨v,H1,I1,r1,q1⟩=>test_link (cJ (hb pins s1 σ H1 _ I1 q1) fun uu s2 ⟨u,H2,I2,r2,q2⟩=>?_)) hm
 obtain ⟨O,P,δ,x,y,r,h1,h2,h3,h4,h5,h6,h7⟩:=q2
 rcases az h6 with ⟨k,e1,e2⟩|⟨cx,e1,e2⟩
 ·refine cJ (ho.test (Q:=fun k' H3=>k'=k/\aB H2 H3) I2 h1.dom h3 h4 h5 r1 r2 e1 fun H3 s3=>⟨rfl,s3⟩) fun d s3 ⟨z,H3,I3,r3,k',ez,ek,s3'⟩=>?_
  subst ez ek
  cases r3
  refine wpAny_truthy_bool ?_
  cases k' with
  |false=>
   cases e2
   obtain ⟨k2,ek2,q7⟩:=h7 _ H3 s3' (Rp.bool false)
   cases ek2
   exact ite_ff ⟨H3,I3,q7⟩
  |true=>
   simp only [if_true] at e2
   refine ite_tt (test_last (cJ (hc pins s3 σ H3 (fun w' H4=>∃zz,RE O P H H4 zz w'/\aB H3 H4/\g' y zz=some r) I3 ?_) fun ww s4 ⟨w',H4,I4,r4,zz,q4,s4',e4⟩=>?_))
   ·rcases az e2 with ⟨zz,e3,e4⟩|⟨cc,e3,e4⟩
    ·exact ⟨O,P,δ,.ok zz,h2.same s3',e3,fun w' H4 s4 rz=>⟨zz,rz.from (h3.trans s3'),s4,e4⟩⟩
    ·subst e4
     exact ⟨O,P,δ,.error cc,h2.same s3',e3,h7.on s3'⟩
   ·refine cJ (ho' pins s4 σ O P H H4 y zz u w' uu ww r _ I4 h1.dom (h3.trans (s3'.trans s4')) (h5.on (s3'.trans s4')) q4 r2 r4 e4 (h7.on (s3'.trans s4'))) fun d' s5 ⟨z2,H5,I5,r5,k2,ek2,q5⟩=>?_
    subst ek2
    cases r5
    exact wpAny_truthy_bool ⟨H5,I5,q5⟩
 ·subst e2
  exact cJ (ho.test (Q:=fun _ _=>False) I2 h1.dom h3 h4 h5 r1 r2 e1 h7) fun d s3 ⟨z,H3,I3,r3,k',ez,q3⟩=>q3.elim
noncomputable def vJ (X:Cx) (E:XK) (e:Expr) (f:DS->M Bool):Prop:=PW X e (As E f)
theorem vJ.pb (h:vJ X E e ga):PB X E e ga:=PW.pt h
noncomputable def jA (ga gb:DS->M Bool) (δ:DS):M Bool:=bd (ga δ) fun k=>if k=true then gb δ else rt false
noncomputable def xT (ga gb:DS->M Bool) (δ:DS):M Bool:=bd (ga δ) fun k=>if k=true then rt true else gb δ
noncomputable def eS (ga:DS->M Bool) (δ:DS):M Bool:=bd (ga δ) fun k=>rt (!k)
theorem PW.mono {t t':TT} (h:PW X e t) (m:∀σ H Q,t' σ H Q->t σ H Q):PW X e t':=fun wh pins s σ H Q I q=>h wh pins s σ H Q I (m σ H Q q)
variable {bN:List Expr}
theorem qG (h:PB X E a ga):vJ X E (.BoolOp .And [a] pos) ga:=Bt h
theorem uP (h:PB X E a ga):vJ X E (.BoolOp .Or [a] pos) ga:=Es h
theorem va (ha:PB X E a ga) (hb:vJ X E (.BoolOp .And (b::bN) pos) gb):vJ X E (.BoolOp .And (a::b::bN) pos) (jA ga gb):=
 PW.mono (Ec ha hb) fun σ H Q q=>vp (g:=fun δ k=>if k=true then gb δ else rt false) q fun O P δ k r H1 rs rs1 s1 e q=>by
  cases k with
  |true=>exact ⟨O,P,δ,r,rs1,e,q⟩
  |false=>cases e; exact q H1 (aB.refl H1)
theorem nH (ha:PB X E a ga) (hb:vJ X E (.BoolOp .Or (b::bN) pos) gb):vJ X E (.BoolOp .Or (a::b::bN) pos) (xT ga gb):=
 PW.mono (FO ha hb) fun σ H Q q=>vp (g:=fun δ k=>if k=true then rt true else gb δ) q fun O P δ k r H1 rs rs1 s1 e q=>by
  cases k with
  |false=>exact ⟨O,P,δ,r,rs1,e,q⟩
  |true=>cases e; exact q H1 (aB.refl H1)
theorem eZ (ha:PB X E a ga):PB X E (.UnaryOp .Not a pos) (eS ga):=
 PT.mono (EF ha) fun σ H Q q=>vp (g:=fun δ k=>rt (!k)) q fun O P δ k r H1 rs rs1 s1 e q=>by
  cases e; exact q H1 (aB.refl H1)
noncomputable def jz (fa fb:DS->M DV) (δ:DS):M DV:=bd (bd (fa δ) bw) fun k=>if k=true then fb δ else rt (.d (.bool false))
noncomputable def Ha (fa fb:DS->M DV) (δ:DS):M DV:=bd (bd (fa δ) bw) fun k=>if k=true then rt (.d (.bool true)) else fb δ
noncomputable def yz (fa:DS->M DV) (δ:DS):M DV:=bd (bd (fa δ) bw) fun k=>rt (.d (.bool (!k)))
theorem t1 {g:DS->Bool->M DV} {σ:St} {H:Hp} {Q:VK} (h:tE E (fun δ=>bd (bd (fa δ) bw) (g δ)) σ H Q) {t:VK}
  (k:∀O P δ k r H1,RS O P H1 σ δ->aB H H1->g δ k=some r->Fn E O P H H1 Q r->t (.bl k) H1):tE E fa σ H t:=by
 obtain ⟨O,P,δ,r,rs,e,q⟩:=h
 rcases az e with ⟨z,e1,e2⟩|⟨c,e1,e2⟩
 ·rcases az e1 with ⟨x,e3,e4⟩|⟨c,e3,e4⟩
  ·refine ⟨O,P,δ,.ok x,rs,e3,fun v H1 s1 rx=>?_⟩
   obtain ⟨kk,rfl,ek⟩:=lV e4
   cases ek
   cases rx
   exact k O P δ _ r H1 (rs.same s1) s1 e2 (q.on s1)
  ·cases e4
 ·subst e2
  rcases az e1 with ⟨x,e3,e4⟩|⟨c',e3,e4⟩
  ·obtain ⟨kk,_,ek⟩:=lV e4
   cases ek
  ·cases e4
   exact ⟨O,P,δ,.error c,rs,e3,q⟩
theorem jY {o:BoolOp} (h:PX X E a fa):PX X E (.BoolOp o [a] pos) fa:=EW h
theorem BN {O P:List Addr} {H H1:Hp} {Q:VK} {r:Except Value DV} (s1:aB H H1) (q:Fn E O P H H1 Q r):Fn E O P H1 H1 Q r:=by
 cases r with
 |ok x=>exact fun v H' s' rx=>q v H' s' (rx.from s1)
 |error c=>exact q
theorem hU (ha:PX X E a fa) (hb:PX X E (.BoolOp .And (b::bN) pos) fb):PX X E (.BoolOp .And (a::b::bN) pos) (jz fa fb):=
 PE.mono (Em ha hb) fun σ H Q q=>t1 (g:=fun δ k=>if k=true then fb δ else rt (.d (.bool false))) q fun O P δ k r H1 rs1 s1 e q=>by
  refine ⟨k,rfl,?_⟩
  cases k with
  |true=>exact yS ⟨O,P,δ,r,rs1,e,BN s1 q⟩
  |false=>cases e; exact z5 (q _ H1 (aB.refl H1) (.bool false))
theorem DC (ha:PX X E a fa):PX X E (.UnaryOp .Not a pos) (yz fa):=
 PE.mono (DU ha) fun σ H Q q=>t1 (g:=fun δ k=>rt (.d (.bool (!k)))) q fun O P δ k r H1 rs1 s1 e q=>by
  cases e
  exact ⟨k,rfl,q _ H1 (aB.refl H1) (.bool (!k))⟩
end
section
variable {X:Cx} {E:XK} {a b c e o:Expr} {es:List Expr} {pos p:Pos} {fa fb fc f:DS->M DV} {fr:DS->M (List DV)}
theorem lx.from {O P:List Addr} {H H1 H2:Hp} {xs:List DV} {vs:List V} (r:lx O P H1 H2 xs vs) (h:aB H H1):lx O P H H2 xs vs:=Paired.mapP r fun _ _ q=>RE.from q h
noncomputable def ai (_:DS):M (List DV):=rt []
noncomputable def aa (fa:DS->M DV) (fr:DS->M (List DV)) (δ:DS):M (List DV):=bd (fa δ) fun x=>bd (fr δ) fun xs=>rt (x::xs)
theorem ah:wM X E [] ai:=PA.mono jO fun σ H Q q=>by
 obtain ⟨O,P,δ,r,rs,e,q⟩:=q
 cases e
 exact q [] H (aB.refl H) .nil
theorem ae (ha:PX X E e fa) (hr:wM X E es fr) (hs:starEach (e::es) X.env=(false,eval e X.env)::starEach es X.env:=by rfl):wM X E (e::es) (aa fa fr):=PA.mono (iv ha hr hs) fun σ H Q q=>by
 obtain ⟨O,P,δ,r,rs,e,q⟩:=q
 rcases az e with ⟨x,e1,e2⟩|⟨c,e1,e2⟩
 ·refine ⟨O,P,δ,.ok x,rs,e1,fun v H1 s1 rx=>?_⟩
  rcases az e2 with ⟨xs,e3,e4⟩|⟨c,e3,e4⟩
  ·cases e4
   exact ⟨O,P,δ,.ok xs,rs.same s1,e3,fun vs H2 s2 rxs=>q _ H2 (s1.trans s2) (.cons (rx.on s2) (rxs.from s1))⟩
  ·subst e4
   exact ⟨O,P,δ,.error c,rs.same s1,e3,fun dx H' s'=>q dx H' (s1.trans s')⟩
 ·subst e2
  exact ⟨O,P,δ,.error c,rs,e1,q⟩
noncomputable def dA:List DV->Option (List D)
 |[]=>some []
 |x::r=>match vS x,dA r with
  |some d,some ds=>some (d::ds)
  |_,_=>none
@[simp] theorem lZ:dA []=some []:=rfl
theorem jR (x:DV) (r:List DV):dA (x::r)=match vS x,dA r with|some d,some ds=>some (d::ds)|_,_=>none:=rfl
@[simp] theorem rM (x:D) (r:List DV):dA (.d x::r)=(dA r).map (x::·):=by
 rw [jR,vT]
 cases dA r <;> rfl
@[simp] theorem lX (xs:List D) (r:List DV):dA (.new xs::r)=(dA r).map (.list xs::·):=by
 rw [jR,nr]
 cases dA r <;> rfl
theorem lx.data {O P:List Addr} {H H':Hp} (dom:∀a,a∈P++O->∃o,H a=some o):∀{xs:List DV} {vs:List V} {ds:List D},lx O P H H' xs vs->dA xs=some ds->RpL (P++O) H' ds vs
 |_,_,_,.nil,h=>by cases h; exact .nil
 |_,_,_,.cons r t,h=>by
  rw [jR] at h
  split at h
  ·rename_i d ds h1 h2
   cases h
   exact .cons (r.data dom h1) (lx.data dom t h2)
  ·cases h
noncomputable def bq (fr:DS->M (List DV)) (δ:DS):M DV:=bd (fr δ) fun xs=>bd (op (dA xs)) fun ds=>if ds.length<=1000000 then rt (.d (.tuple ds)) else none
noncomputable def bO (fr:DS->M (List DV)) (δ:DS):M DV:=bd (fr δ) fun xs=>bd (op (dA xs)) fun ds=>if ds.length<=1000000 then rt (.new ds) else none
theorem mf {g:DS->List DV->M DV} {σ:St} {H:Hp} {Q:VK} {t:List V->Hp->Prop} (h:tE E (fun δ=>bd (fr δ) (g δ)) σ H Q)
  (k:∀O P δ xs r vs H1,RS O P H σ δ->RS O P H1 σ δ->aB H H1->lx O P H H1 xs vs->g δ xs=some r->Fn E O P H H1 Q r->t vs H1):GV E fr σ H t:=by
 obtain ⟨O,P,δ,r,rs,e,q⟩:=h
 rcases az e with ⟨x,e1,e2⟩|⟨c,e1,e2⟩
 ·exact ⟨O,P,δ,.ok x,rs,e1,fun v H1 s1 re=>k O P δ x r v H1 rs (rs.same s1) s1 re e2 (q.on s1)⟩
 ·subst e2
  exact ⟨O,P,δ,.error c,rs,e1,q⟩
theorem pX {xs:List DV} {h:List D->M DV} {r:Except Value DV} (e:bd (op (dA xs)) h=some r):∃ds,dA xs=some ds/\h ds=some r:=by
 cases hd:dA xs with
 |none=>rw [hd] at e; cases e
 |some ds=>rw [hd] at e; exact ⟨ds,rfl,e⟩
theorem b8 {k:Nat} (h:wM X E es fr):PX X E (.Tuple es k pos) (bq fr):=PE.mono (Ax h) fun σ H Q q=>mf (g:=fun _ xs=>bd (op (dA xs)) fun ds=>if ds.length<=1000000 then rt (.d (.tuple ds)) else none) q fun O P δ xs r vs H1 rs rs1 s1 rx e q=>by
 obtain ⟨ds,hd,e⟩:=pX e
 split at e
 ·rename_i hz
  cases e
  have l:=lx.data rs.dom rx hd
  exact ⟨fB (by rw [<-l.length]; exact hz),fun p hp=>q _ _ (bH hp) (zf rs.dom s1 hp l)⟩
 ·cases e
theorem bQ (h:wM X E es fr):PX X E (.List es pos) (bO fr):=PE.mono (DK h) fun σ H Q q=>mf (g:=fun _ xs=>bd (op (dA xs)) fun ds=>if ds.length<=1000000 then rt (.new ds) else none) q fun O P δ xs r vs H1 rs rs1 s1 rx e q=>by
 obtain ⟨ds,hd,e⟩:=pX e
 split at e
 ·rename_i hz
  cases e
  have l:=lx.data rs.dom rx hd
  exact ⟨fB (by rw [<-l.length]; exact hz),fun p hp=>q _ _ (bH hp) (RE.made s1 hp l)⟩
 ·cases e
noncomputable def bJ (x y:DV):M DV:=match x,y with
 |.d (.tuple xs),.d (.int i)=>bd (op (atI xs i)) fun z=>rt (.d z)
 |.d (.list xs),.d (.int i)=>bd (op (atI xs i)) fun z=>rt (.d z)
 |.own xs,.d (.int i)=>bd (op (atI xs i)) fun z=>rt (.d z)
 |.new xs,.d (.int i)=>bd (op (atI xs i)) fun z=>rt (.d z)
 |_,_=>none
theorem RpL.atI {Z:List Addr} {H:Hp} {ds:List D} {vs:List V} {i:Int} {d:D} (l:RpL Z H ds vs) (h:L2.atI ds i=some d):∃v,L2.atI vs i=some v/\Rp Z H d v:=by
 unfold L2.atI at h ⊢
 rw [<-l.length]
 cases e:AU ds.length i with
 |none=>rw [e] at h; cases h
 |some j=>
  rw [e] at h
  obtain ⟨v,e1,r⟩:=l.get (i:=j) h
  exact ⟨v,e1,r⟩
theorem qZ {α β:Type} (g:α->β) (xs:List α) (i:Int):atI (xs.map g) i=(atI xs i).map g:=by
 unfold atI
 rw [List.length_map]
 cases AU xs.length i with
 |none=>rfl
 |some j=>simp
theorem cw {α β:Type} {o:Option α} {g:α->M β} {r:Except Value β} (h:bd (op o) g=some r):∃x,o=some x/\g x=some r:=by
 cases o with
 |none=>cases h
 |some x=>exact ⟨x,rfl,h⟩
theorem bf (ha:PX X E a fa) (hb:PX X E b fb) (hs:rR b:=by intro _ _; rfl):PX X E (.Subscript a b pos) (e2 bJ fa fb):=PE.mono (zi uo ha hb hs) fun σ H Q q=>t2 q fun O P x y r v u H1 dom s1 rx ry e q=>by
 unfold bJ at e
 split at e
 ·obtain ⟨z,e1,e2⟩:=cw e
  cases e2
  cases ry
  have rx':Rp (P++O) H1 _ v:=rx
  cases rx' with
  |tup hz ha l=>
   obtain ⟨w,e3,rw3⟩:=l.atI e1
   exact .inr (.inl ⟨_,_,_,w,rfl,rfl,jy.of ha,e3,q w H1 (aB.refl H1) rw3⟩)
 ·obtain ⟨z,e1,e2⟩:=cw e
  cases e2
  cases ry
  have rx':Rp (P++O) H1 _ v:=rx
  cases rx' with
  |lst hz ha l=>
   obtain ⟨w,e3,rw3⟩:=l.atI e1
   exact .inl ⟨_,_,_,w,rfl,rfl,gm.of ha,e3,q w H1 (aB.refl H1) rw3⟩
 ·obtain ⟨z,e1,e2⟩:=cw e
  cases e2
  cases ry
  obtain ⟨a,vs,rfl,hP,ha,l⟩:=rx
  obtain ⟨w,e3,rw3⟩:=l.atI e1
  exact .inl ⟨_,_,_,w,rfl,rfl,gm.of ha,e3,q w H1 (aB.refl H1) rw3⟩
 ·obtain ⟨z,e1,e2⟩:=cw e
  cases e2
  cases ry
  obtain ⟨a,vs,rfl,hn,ha,l⟩:=rx
  obtain ⟨w,e3,rw3⟩:=l.atI e1
  exact .inl ⟨_,_,_,w,rfl,rfl,gm.of ha,e3,q w H1 (aB.refl H1) (rw3.kp (.sub fun b hb=>IE _ hb))⟩
 ·cases e
open Classical in
noncomputable def yM (K:IU) (x y:DV):M DV:=match x,y with
 |.scr K' ns,.d (.int i)=>if K'=K then bd (op (atI ns i)) fun n=>rt (.d (.int n)) else none
 |_,_=>none
theorem RE.scrSq {O P:List Addr} {H₀ H:Hp} {K:IU} {ns:List Int} {v:V} (r:RE O P H₀ H (.scr K ns) v):∃a,v=.ref a/\gm K H a (ns.map V.int):=by
 obtain ⟨a,ev,hz⟩:=r
 exact ⟨a,ev,hz.imp (fun z=>z.2) fun z=>z⟩
theorem Dq (ha:PX X E a fa) (hb:PX X E b fb) (hs:rR b:=by intro _ _; rfl):PX X E (.Subscript a b pos) (e2 (yM X.K) fa fb):=PE.mono (zi uo ha hb hs) fun σ H Q q=>t2 q fun O P x y r v u H1 dom s1 rx ry e q=>by
 unfold yM at e
 split at e
 ·split at e
  ·rename_i hK
   subst hK
   obtain ⟨z,e1,e2⟩:=cw e
   cases e2
   cases ry
   obtain ⟨a,rfl,ha⟩:=rx.scrSq
   exact .inl ⟨_,_,_,.int z,rfl,rfl,ha,by rw [qZ,e1]; rfl,q _ H1 (aB.refl H1) (.int z)⟩
  ·cases e
 ·cases e
noncomputable def ua (xs:List D) (lo hi:Option Int):List D:=(xs.drop (HT.sIx xs.length 0 lo)).take (HT.sIx xs.length xs.length hi-HT.sIx xs.length 0 lo)
theorem RpL.cut {Z:List Addr} {H:Hp} {ds:List D} {vs:List V} (l:RpL Z H ds vs) (lo hi:Option Int):RpL Z H (ua ds lo hi) (xM vs lo hi):=by
 unfold ua xM
 rw [l.length]
 exact (l.drop _).take _
noncomputable def zk (x:DV) (lo hi:Option Int):M DV:=bd (op (ju x)) fun xs=>rt (.new (ua xs lo hi))
noncomputable def Dr:DV->M Int
 |.d (.int i)=>rt i
 |_=>none
theorem qw {x:DV} {r:Except Value Int} (h:Dr x=some r):∃i,x=.d (.int i)/\r=.ok i:=by
 unfold Dr at h
 split at h
 ·rename_i i
  cases h; exact ⟨i,rfl,rfl⟩
 ·cases h
noncomputable def wQ (fa fl:DS->M DV) (δ:DS):M DV:=bd (fa δ) fun x=>bd (fl δ) fun l=>bd (Dr l) fun i=>zk x (some i) none
noncomputable def vG (fa fh:DS->M DV) (δ:DS):M DV:=bd (fa δ) fun x=>bd (fh δ) fun h=>bd (Dr h) fun j=>zk x none (some j)
theorem wk {O P:List Addr} {H₀ H1 H2:Hp} {x:DV} {v:V} {lo hi:Option Int} {r:Except Value DV} {Q:VK} {K:IU} (s12:aB H1 H2) (hs:aB H₀ H2) (rx:RE O P H₀ H1 x v) (e:zk x lo hi=some r) (q:Fn E O P H₀ H2 Q r):FC K v lo hi H2 Q:=by
 obtain ⟨xs,e1,e2⟩:=cw e
 cases e2
 obtain ⟨a,vs,rfl,ha,l⟩:=(rx.on s12).list e1
 exact ⟨a,vs,rfl,gm.of ha,fun p hp=>q _ _ (bH hp) (RE.made hs hp (l.cut lo hi))⟩
theorem wq {x:DV} {v:V} {O P:List Addr} {H₀ H:Hp} {h:Int->M DV} {r:Except Value DV} (rx:RE O P H₀ H x v) (e:bd (Dr x) h=some r):∃i,v=.int i/\h i=some r:=by
 rcases az e with ⟨i,e1,e2⟩|⟨c,e1,e2⟩
 ·obtain ⟨j,rfl,ej⟩:=qw e1
  cases ej
  cases rx
  exact ⟨_,rfl,e2⟩
 ·obtain ⟨j,_,ej⟩:=qw e1
  cases ej
theorem Bo {p2:Pos} (ha:PX X E a fa) (hb:PX X E b fb):PX X E (.Subscript a (.Slice (some b) none none p2) pos) (wQ fa fb):=PE.mono (tT wg ha (wj hb) wA) fun σ H Q q=>
 l8 (g:=fun δ x=>bd (fb δ) fun l=>bd (Dr l) fun i=>zk x (some i) none) q fun O P δ x r v H1 rs rs1 s1 rx e q=>by
  rcases az e with ⟨l,e1,e2⟩|⟨c,e1,e2⟩
  ·refine ⟨O,P,δ,.ok l,rs1,e1,fun u H2 s2 rl=>?_⟩
   obtain ⟨i,rfl,e3⟩:=wq rl e2
   exact ⟨i,rfl,wk s2 (s1.trans s2) rx e3 (q.on s2)⟩
  ·subst e2
   exact ⟨O,P,δ,.error c,rs1,e1,q⟩
theorem B7 {p2:Pos} (ha:PX X E a fa) (hb:PX X E b fb):PX X E (.Subscript a (.Slice none (some b) none p2) pos) (vG fa fb):=PE.mono (tT wg ha wA (wj hb)) fun σ H Q q=>
 l8 (g:=fun δ x=>bd (fb δ) fun l=>bd (Dr l) fun i=>zk x none (some i)) q fun O P δ x r v H1 rs rs1 s1 rx e q=>by
  rcases az e with ⟨l,e1,e2⟩|⟨c,e1,e2⟩
  ·refine ⟨O,P,δ,.ok l,rs1,e1,fun u H2 s2 rl=>?_⟩
   obtain ⟨i,rfl,e3⟩:=wq rl e2
   exact ⟨i,rfl,wk s2 (s1.trans s2) rx e3 (q.on s2)⟩
  ·subst e2
   exact ⟨O,P,δ,.error c,rs1,e1,q⟩
noncomputable def Ap (C:Addr) (n:Str) (x:DV):M DV:=match x with
 |.ob C' fs=>if C'=C then bd (op (fs.lookup n)) fun d=>rt (.d d) else none
 |_=>none
noncomputable def xY (C:Addr) (n:Str) (fa:DS->M DV) (δ:DS):M DV:=bd (fa δ) (Ap C n)
theorem C3.look {Z:List Addr} {H:Hp} {n:Str} {d:D}:∀{fs:List (Str×D)} {gs:List (Str×V)},C3 Z H fs gs->fs.lookup n=some d->∃v,gs.lookup n=some v/\Rp Z H d v
 |_,_,.nil,h=>by simp at h
 |(k,x)::fs,(k',y)::gs,.cons ⟨ek,r⟩ t,h=>by
  have ek':k=k':=ek
  subst ek'
  by_cases hn:n=k
  ·subst hn
   simp only [List.lookup_cons,beq_self_eq_true] at h ⊢
   cases h
   exact ⟨_,rfl,r⟩
  ·have hb:(n==k)=false:=by simpa using hn
   simp only [List.lookup_cons,hb] at h ⊢
   exact C3.look t h
theorem yJ {C:Addr} {n:Str} (ha:PX X E a fa) (hc:Cls X.K C) (hn:hW X.K C n) (hb:attributeBase a n X.env (eval a X.env)=eval a X.env:=by rfl):PX X E (.Attribute a n pos) (xY C n fa):=PE.mono (Dm ha hb) fun σ H Q q=>
 l8 (g:=fun _=>Ap C n) q fun O P δ x r v H1 rs rs1 s1 rx e q=>by
  unfold Ap at e
  split at e
  ·split at e
   ·rename_i hC
    subst hC
    obtain ⟨d,e1,e2⟩:=cw e
    cases e2
    obtain ⟨a,dx,gs,rfl,hz,ha,hf⟩:=rx
    obtain ⟨w,e3,rw3⟩:=C3.look hf e1
    exact ⟨a,_,dx,gs,w,rfl,ha,hc,hn,e3,q w H1 (aB.refl H1) rw3⟩
   ·cases e
  ·cases e
noncomputable def dc (X:Cx) (E:XK) (f:Value) (g:List DV->M DV):Prop:=
 ∀(pins:List (Addr×Obj)) (s:Shared) (σ:St) (O P:List Addr) (H₀ H:Hp) (xs:List DV) (vs:List V) (us:List Value) (r:Except Value DV) (Q:VK),Inv X pins σ H s->(∀a,a∈P++O->∃o,H₀ a=some o)->aB H₀ H ->
  lx O P H₀ H xs vs->aQ vs us->g xs=some r->Fn E O P H₀ H Q r->wpAny (model X.prog X.w) X.A (call f us) (EP X pins σ Q) X.xe s
noncomputable def Aj (E:XK) (g:List DV->M DV) (vs:List V) (H:Hp) (Q:VK):Prop:=∃O P H₀ xs r,(∀a,a∈P++O->∃o,H₀ a=some o)/\aB H₀ H/\lx O P H₀ H xs vs/\g xs=some r/\Fn E O P H₀ H Q r
theorem dc.rule {f:Value} {g:List DV->M DV} (h:dc X E f g):iA X f (Aj E g):=fun pins s σ H vs us Q I rv ⟨O,P,H₀,xs,r,h1,h2,h3,h4,h5⟩=>h pins s σ O P H₀ H xs vs us r Q I h1 h2 h3 rv h4 h5
theorem dc.of {f:Value} {g:List DV->M DV} {R:List V->Hp->VK->Prop} (hc:iA X f R)
  (h:∀(O P:List Addr) (H₀ H:Hp) (xs:List DV) (vs:List V) (r:Except Value DV) (Q:VK),(∀a,a∈P++O->∃o,H₀ a=some o)->aB H₀ H->lx O P H₀ H xs vs->g xs=some r->Fn E O P H₀ H Q r->R vs H Q):dc X E f g:=
 fun pins s σ O P H₀ H xs vs us r Q I h1 h2 h3 rv h4 h5=>hc pins s σ H vs us Q I rv (h O P H₀ H xs vs r Q h1 h2 h3 h4 h5)
noncomputable def aG (g:List DV->M DV) (fr:DS->M (List DV)) (δ:DS):M DV:=bd (fr δ) g
theorem zI {g:List DV->M DV} {σ:St} {H:Hp} {Q:VK} (q:tE E (aG g fr) σ H Q):GV E fr σ H fun vs H1=>Aj E g vs H1 Q:=
 mf (g:=fun _=>g) q fun O P δ xs r vs H1 rs rs1 s1 rx e q=>⟨O,P,H,xs,r,rs.dom,s1,rx,e,q⟩
theorem aJ {x:Str} {id:String} {g:List DV->M DV} (hc:dc X E (.builtin id) g) (hg:Gl X x) (hm:X.mg x=none) (hv:bootBuiltins x=some (.builtin id)) (ha:wM X E (e::es) fr) (hn:x ≠ "__name__" :=by decide) (hdb:(x==("__debug__" : Str))=false:=by decide)
  (he:starEach (e::es) X.env=(false,eval e X.env)::starEach es X.env:=by rfl) (hpl:(backTo pos (starEach es X.env)).any (·.1)=false:=by rfl):PX X E (.Call (.Name x p) (e::es) [] pos) (aG g fr):=
 PE.mono (su hc.rule hg hm hv ha hn hdb he hpl) fun σ H Q q=>zI q
theorem gL {x:Str} {T:String} {g:List DV->M DV} (hc:dc X E (.type T) g) (hg:Gl X x) (hm:X.mg x=none) (hv:bootBuiltins x=some (.type T)) (ha:wM X E (e::es) fr) (hn:x ≠ "__name__" :=by decide) (hdb:(x==("__debug__" : Str))=false:=by decide)
  (he:starEach (e::es) X.env=(false,eval e X.env)::starEach es X.env:=by rfl) (hpl:(backTo pos (starEach es X.env)).any (·.1)=false:=by rfl):PX X E (.Call (.Name x p) (e::es) [] pos) (aG g fr):=
 PE.mono (pL hc.rule hg hm hv ha hn hdb he hpl) fun σ H Q q=>zI q
end
noncomputable def Sub (δ δ':DS):Prop:=δ.length=δ'.length/\∀(i:Nat) (x:DV),δ[i]?=some (some x)->δ'[i]?=some (some x)
theorem Cs {δ:DS} {i:Nat} {y:Option DV} (h:δ[i]?=some none\/δ[i]?=none):Sub δ (δ.set i y):=⟨0x4,fun j x e=>by
 by_cases hj:i=j
 ·subst hj
  rcases h with h|h <;> (rw [h] at e; cases e)
 ·rw [List.getElem?_set_ne hj]; exact e⟩
section
variable {O P:List Addr} {H:Hp} {σ:St} {δ δ':DS}
theorem RS.forget (r:RS O P H σ δ') (h:Sub δ δ'):RS O P H σ δ:=
 ⟨r.len.trans h.1.symm,r.dom,r.apart,fun i x e=>r.at' i x (h.2 i x e),fun i j x y v w a e1 e2=>r.one i j x y v w a (h.2 i _ e1) (h.2 j _ e2)⟩
theorem RS.set (r:RS O P H σ δ) {i:Nat} {x:DV} {v:V} (rx:RE O P H H x v) (h1:∀xs,x≠.new xs) (h2:BR x=false):RS O P H (σ.set i (some v)) (δ.set i (some x)):=by
 refine ⟨by simp [r.len],r.dom,r.apart,fun j y e=>?_,fun j k y z v1 v2 c e1 e2 e3 e4 o1 o2=>?_⟩
 ·by_cases hj:i=j
  ·subst hj
   by_cases hi:i<δ.length
   ·rw [List.getElem?_set_self hi] at e
    cases e
    exact ⟨v,by rw [List.getElem?_set_self (by rw [r.len]; exact hi)],h1,rx⟩
   ·rw [List.getElem?_eq_none (by simpa using hi)] at e; cases e
  ·rw [List.getElem?_set_ne hj] at e
   obtain ⟨w,e1,e2,e3⟩:=r.at' j y e
   exact ⟨w,by rw [List.getElem?_set_ne hj]; exact e1,e2,e3⟩
 ·have nj:∀(j:Nat) (y:DV),(δ.set i (some x))[j]?=some (some y)->BR y=true->i≠j/\δ[j]?=some (some y):=fun j y e ho=>by
   by_cases hj:i=j
   ·subst hj
    by_cases hi:i<δ.length
    ·rw [List.getElem?_set_self hi] at e
     cases e
     rw [h2] at ho; cases ho
    ·rw [List.getElem?_eq_none (by simpa using hi)] at e; cases e
   ·exact ⟨hj,by rw [List.getElem?_set_ne hj] at e; exact e⟩
  obtain ⟨n1,d1⟩:=nj j y e1 o1.q
  obtain ⟨n2,d2⟩:=nj k z e2 o2.q
  rw [List.getElem?_set_ne n1] at e3
  rw [List.getElem?_set_ne n2] at e4
  exact r.one j k y z v1 v2 c d1 d2 e3 e4 o1 o2
theorem RS.ownG {H0:Hp} (r:RS O P H0 σ δ) (hs:aB H0 H) {i:Nat} {x:DV} {v:V} {a:Addr} {u:HO} (hn:H0 a=none) (ha:H a=some u) (hx:∀xs,x≠.new xs) (rx:RE O (a::P) H H x v) (hx1:∀b,pq H x v b->b=a):RS O (a::P) H (σ.set i (some v)) (δ.set i (some x)):=by
 have fz:a∉P++O:=fun h=>by
  obtain ⟨o,e⟩:=r.dom a h
  rw [hn] at e; cases e
 have k:Kp (P++O) H0 (a::P++O) H:=⟨fun b o _ e=>hs b o e,fun b hb=>by
  rcases List.mem_cons.mp hb with e|e
  ·exact .inr (e▸hn)
  ·exact .inl e⟩
 refine ⟨by simp [r.len],fun b hb=>?_,fun b hb hO=>?_,fun j y e=>?_,fun j m y z v1 v2 c e1 e2 e3 e4 o1 o2=>?_⟩
 ·rcases List.mem_cons.mp hb with e|e
  ·exact ⟨_,e▸ha⟩
  ·obtain ⟨o,q⟩:=r.dom b e
   exact ⟨o,hs b o q⟩
 ·rcases List.mem_cons.mp hb with e|e
  ·exact fz (IH _ (e▸hO))
  ·exact r.apart b e hO
 ·by_cases hj:i=j
  ·subst hj
   by_cases hi:i<δ.length
   ·rw [List.getElem?_set_self hi] at e
    cases e
    exact ⟨v,by rw [List.getElem?_set_self (by rw [r.len]; exact hi)],hx,rx⟩
   ·rw [List.getElem?_eq_none (by simpa using hi)] at e; cases e
  ·rw [List.getElem?_set_ne hj] at e
   obtain ⟨w,e1,e2,e3⟩:=r.at' j y e
   refine ⟨w,by rw [List.getElem?_set_ne hj]; exact e1,e2,?_⟩
   cases y with
   |d y=>exact Rp.kp k e3
   |ob C fs=>exact AW.kp k e3
   |tbl kvs=>exact AS.kp k e3
   |ex q=>exact e3
   |tpo p xs q=>exact Eg.kp k (fun b u hp hb=>⟨IE _ hp,hs b u hb⟩) e3
   |nwt p xs q=>exact (Ai.no e3).elim
   |own ys=>
    obtain ⟨b,us,eb,hP,hb,hl⟩:=e3
    exact ⟨b,us,eb,IE _ hP,hs b _ hb,hl.kp k⟩
   |new ys=>exact absurd rfl (e2 ys)
   |scr K ns=>
    obtain ⟨b,eb,⟨hz,hb⟩|hk⟩:=e3
    ·refine ⟨b,eb,.inl ⟨fun h=>?_,aB.rd hs hb⟩⟩
     rcases List.mem_cons.mp h with z|z
     ·rcases hb with hb|⟨ob,hb⟩ <;> (rw [z,hn] at hb; cases hb)
     ·exact hz z
    ·exact ⟨b,eb,.inr hk⟩
 ·
  have old:∀(j:Nat) (y:DV) (w:V),δ[j]?=some (some y)->σ[j]?=some (some w)->pq H y w c->pq H0 y w c/\c∈P:=fun j y w e q o=>by
   obtain ⟨w',e1,_,r1⟩:=r.at' j _ e
   rw [q] at e1
   cases e1
   have:=o.old (fun b o _ q=>hs b o q) r1
   exact ⟨this,this.new r1⟩
  by_cases hj:i=j
  ·by_cases hm:i=m
   ·exact hj.symm.trans hm
   ·subst hj
    by_cases hi:i<δ.length
    ·rw [List.getElem?_set_self hi] at e1
     cases e1
     rw [List.getElem?_set_self (by rw [r.len]; exact hi)] at e3
     cases e3
     rw [List.getElem?_set_ne hm] at e2 e4
     have hc:=hx1 c o1
     exact absurd (II _ (hc▸(old m z v2 e2 e4 o2).2)) fz
    ·rw [List.getElem?_eq_none (by simpa using hi)] at e1; cases e1
  ·by_cases hm:i=m
   ·subst hm
    by_cases hi:i<δ.length
    ·rw [List.getElem?_set_self hi] at e2
     cases e2
     rw [List.getElem?_set_self (by rw [r.len]; exact hi)] at e4
     cases e4
     rw [List.getElem?_set_ne hj] at e1 e3
     have hc:=hx1 c o2
     exact absurd (II _ (hc▸(old j y v1 e1 e3 o1).2)) fz
    ·rw [List.getElem?_eq_none (by simpa using hi)] at e2; cases e2
   ·rw [List.getElem?_set_ne hj] at e1 e3
    rw [List.getElem?_set_ne hm] at e2 e4
    exact r.one j m y z v1 v2 c e1 e2 e3 e4 (old j y v1 e1 e3 o1).1 (old m z v2 e2 e4 o2).1
theorem RS.own {H0:Hp} (r:RS O P H0 σ δ) (hs:aB H0 H) {i:Nat} {xs:List D} {v:V} (rx:RE O P H0 H (.new xs) v):∃a,H0 a=none/\RS O (a::P) H (σ.set i (some v)) (δ.set i (some (.own xs))):=by
 obtain ⟨a,vs,rfl,hn,ha,l⟩:=rx
 exact ⟨a,hn,r.ownG hs hn ha (fun _=>nofun) ⟨a,vs,rfl,IF,ha,l⟩ fun b h=>by
  have h':V.ref a=.ref b:=h
  cases h'; rfl⟩
theorem RS.ownT {H0:Hp} (r:RS O P H0 σ δ) (hs:aB H0 H) {i:Nat} {p xs q:List D} {v:V} (rx:RE O P H0 H (.nwt p xs q) v):∃a,H0 a=none/\RS O (a::P) H (σ.set i (some v)) (δ.set i (some (.tpo p xs q))):=by
 obtain ⟨t,a,ps,vs,qs,rfl,hz,ht,hn,ha,l1,l2,l3⟩:=rx
 refine ⟨a,hn,r.ownG hs hn ha (fun _=>nofun) ⟨t,a,ps,vs,qs,rfl,hz,ht,IF,ha,l1,l2,l3⟩ fun b h=>?_⟩
 obtain ⟨t',us,e',ht',hu⟩:=h
 cases e'
 rw [ht] at ht'
 cases ht'
 rw [l1.length,List.getElem?_append_right (IJ _),Nat.sub_self] at hu
 cases hu
 rfl
end
noncomputable def Dh (g:TG) (sf:D->DS->Option DS):Prop:=∀(O P:List Addr) (H:Hp) (σ:St) (δ δ':DS) (d:D) (v:V) (Q:St->Hp->Prop),RS O P H σ δ->Rp (P++O) H d v->sf d δ=some δ'->(∀σ',RS O P H σ' δ'->Q σ' H)->g v σ H Q
noncomputable def ax (i:Nat) (d:D) (δ:DS):Option DS:=some (δ.set i (some (.d d)))
theorem aS (i:Nat):Dh (wH i) (ax i):=fun O P H σ δ δ' d v Q r rd e h=>by
 cases e
 exact h _ (r.set (x:=.d d) rd (fun _=>nofun) rfl)
noncomputable def xi (ds:List D) (δ:DS):Option DS:=match ds with
 |[]=>some δ
 |_=>none
noncomputable def hG (sf:D->DS->Option DS) (st:List D->DS->Option DS) (ds:List D) (δ:DS):Option DS:=match ds with
 |[]=>none
 |d::r=>match sf d δ with
  |some δ'=>st r δ'
  |none=>none
noncomputable def ve (n:Nat) (st:List D->DS->Option DS) (d:D) (δ:DS):Option DS:=match d with
 |.tuple ds=>if ds.length=n then st ds δ else none
 |_=>none
noncomputable def CC (g:AR) (sf:List D->DS->Option DS):Prop:=∀(O P:List Addr) (H:Hp) (σ:St) (δ δ':DS) (ds:List D) (vs:List V) (Q:St->Hp->Prop),RS O P H σ δ->RpL (P++O) H ds vs->sf ds δ=some δ'->(∀σ',RS O P H σ' δ'->Q σ' H)->g vs σ H Q
theorem u9:CC Gh xi:=fun O P H σ δ δ' ds vs Q r rd e h=>by
 cases rd with
 |nil=>cases e; exact ⟨rfl,h σ r⟩
 |cons _ _=>cases e
theorem ig {g:TG} {sf:D->DS->Option DS} {gs:AR} {st:List D->DS->Option DS} (h1:Dh g sf) (h2:CC gs st):CC (CS g gs) (hG sf st):=fun O P H σ δ δ' ds vs Q r rd e h=>by
 cases rd with
 |nil=>cases e
 |cons r1 rr=>
  unfold hG at e
  simp only at e
  split at e
  ·rename_i δ1 e1
   exact ⟨_,_,rfl,h1 O P H σ δ δ1 _ _ _ r r1 e1 fun σ1 rs1=>h2 O P H σ1 δ1 δ' _ _ Q rs1 rr e h⟩
  ·cases e
theorem vn {K:IU} {n:Nat} {gs:AR} {st:List D->DS->Option DS} (h:CC gs st):Dh (GD K n gs) (ve n st):=fun O P H σ δ δ' d v Q r rd e hq=>by
 unfold ve at e
 split at e
 ·split at e
  ·rename_i hn
   cases rd with
   |tup hz ha l=>exact ⟨_,_,rfl,jy.of ha,by rw [<-l.length]; exact hn,h O P H σ δ δ' _ _ Q r l e hq⟩
  ·cases e
 ·cases e
noncomputable def DX (n:Nat) (fm:List DV->M DV):Sp:=fun vs H Q _=>vs.length=n/\∃O xs x,(∀a,a∈O->∃o,H a=some o)/\lx O [] H H xs vs/\fm xs=some (.ok x)/\∀v H',aB H H'->RE O [] H H' x v->Q v H'
noncomputable def args:List DV->Option (List DV)
 |[]=>some []
 |x::r=>match yA x,args r with
  |some y,some ys=>some (y::ys)
  |_,_=>none
@[simp] theorem args_nil:args []=some []:=rfl
theorem gJ (x:DV) (r:List DV):args (x::r)=match yA x,args r with|some y,some ys=>some (y::ys)|_,_=>none:=rfl
@[simp] theorem u0 (x:D) (r:List DV):args (.d x::r)=(args r).map (.d x::·):=by
 rw [gJ,GP]; cases args r <;> rfl
@[simp] theorem nk (C:Addr) (fs:List (Str×D)) (r:List DV):args (.ob C fs::r)=(args r).map (.ob C fs::·):=by
 rw [gJ,E1]; cases args r <;> rfl
@[simp] theorem oT (xs:List D) (r:List DV):args (.new xs::r)=(args r).map (.d (.list xs)::·):=by
 rw [gJ,BY]; cases args r <;> rfl
@[simp] theorem ow (K:IU) (ns:List Int) (r:List DV):args (.scr K ns::r)=(args r).map (.scr K ns::·):=by
 rw [gJ,By]; cases args r <;> rfl
theorem RE.hand {O P:List Addr} {H₀ H:Hp} {x y:DV} {v:V} (dom:∀a,a∈P++O->∃o,H₀ a=some o) (hs:aB H₀ H) (r:RE O P H₀ H x v) (h:yA x=some y):RE (P++O) [] H H y v:=by
 cases x with
 |d z=>cases h; exact r
 |ob C fs=>cases h; exact r
 |tbl kvs=>cases h; exact r
 |ex q=>cases h; exact r
 |tpo p xs q=>cases h
 |nwt p xs q=>cases h
 |own xs=>cases h
 |new xs=>cases h; exact oP dom r
 |scr K ns=>cases h; exact r
theorem lx.hand {O P:List Addr} {H₀ H:Hp} (dom:∀a,a∈P++O->∃o,H₀ a=some o) (hs:aB H₀ H):∀{xs ys:List DV} {vs:List V},lx O P H₀ H xs vs->args xs=some ys->lx (P++O) [] H H ys vs
 |_,_,_,.nil,h=>by cases h; exact .nil
 |_,_,_,.cons r t,h=>by
  rw [gJ] at h
  split at h
  ·rename_i y ys h1 h2
   cases h
   exact .cons (r.hand dom hs h1) (lx.hand dom hs t h2)
  ·cases h
theorem RE.back {O P:List Addr} {H₀ H H':Hp} {x:DV} {v:V} (hs:aB H₀ H) (r:RE (P++O) [] H H' x v):RE O P H₀ H' x v:=by
 cases x with
 |d z=>exact r
 |ob C fs=>exact r
 |tbl kvs=>exact r
 |ex q=>exact r
 |tpo p xs q=>
  obtain ⟨t,a,ps,vs,qs,e,hz,ht,hP,_⟩:=r
  cases hP
 |nwt p xs q=>
  obtain ⟨t,a,ps,vs,qs,e,hz,ht,hn,ha,ll⟩:=r
  exact ⟨t,a,ps,vs,qs,e,hz,ht,hs.free hn,ha,ll⟩
 |own xs=>
  obtain ⟨a,vs,e,hP,_⟩:=r
  cases hP
 |new xs=>
  obtain ⟨a,vs,e,hn,ha,l⟩:=r
  exact ⟨a,vs,e,hs.free hn,ha,l⟩
 |scr K ns=>exact r
noncomputable def HI {α:Type} (m:M α):M α:=match m with
 |some (.ok x)=>some (.ok x)
 |_=>none
@[simp] theorem uh {α:Type} (x:α):HI (some (.ok x):M α)=some (.ok x):=rfl
@[simp] theorem uE {α:Type} (x:α):HI (rt x)=rt x:=rfl
noncomputable def aw (n:Nat) (fm:List DV->M DV) (xs:List DV):M DV:=bd (op (args xs)) fun ys=>if ys.length=n then HI (fm ys) else none
section
variable {X:Cx} {E:XK} {a b c e o:Expr} {es:List Expr} {pos p:Pos} {fa fb fc f:DS->M DV} {fr:DS->M (List DV)}
theorem Bw {k:Nat} {fn:Addr} {fd:FuncData} {ps:List Str} {x:Str} {n:Nat} {fm:List DV->M DV} (F:FnOk X.prog X.w X.K X.mg X.base wY k fn fd ps (DX n fm)) (hr:Room k X.A) (hm:X.mg x=some (.ref fn)) (hk:PySem.W.keepIn X.K (.ref fn)=true) (hb:ix X.K fd ps [])
  (ha:wM X E (e::es) fr) (hg:Gl X x:=by rfl) (hdb:(x==("__debug__" : Str))=false:=by decide) (he:starEach (e::es) X.env=(false,eval e X.env)::starEach es X.env:=by rfl) (hpl:(backTo pos (starEach es X.env)).any (·.1)=false:=by rfl) :
  PX X E (.Call (.Name x p) (e::es) [] pos) (aG (aw n fm) fr):=
 PE.mono (wN (E:=E0) F hr hg hm hk hb .nil (fun _ _ _ _ _ _ _ h=>h.elim) ha hdb he hpl) fun σ H Q q=>mf (g:=fun _=>aw n fm) q fun O P δ xs r vs H1 rs rs1 s1 rx e q=>by
  obtain ⟨ys,h1,h2⟩:=cw e
  split at h2
  ·rename_i hl
   cases hf:fm ys with
   |none=>rw [hf] at h2; cases h2
   |some z=>
    rw [hf] at h2
    cases z with
    |error c=>cases h2
    |ok x=>
     cases h2
     have ry:=lx.hand rs.dom s1 rx h1
     refine ⟨?_,P++O,ys,x,fun a ha=>?_,?_,hf,fun v H' s2 rv=>q v H' s2 (rv.back s1)⟩
     ·rw [List.append_nil,<-Paired.length ry]; exact hl
     ·obtain ⟨o,e'⟩:=rs.dom a ha
      exact ⟨o,s1 a o e'⟩
     ·rw [List.append_nil]; exact ry
  ·cases h2
noncomputable def bK (xs:List DV):M DV:=match xs with
 |[x]=>match kZ x with
  |some (.list ys)=>rt (.d (.int ys.length))
  |some (.tuple ys)=>rt (.d (.int ys.length))
  |_=>none
 |_=>none
theorem RE.look {O P:List Addr} {H₀ H:Hp} {x:DV} {v:V} {ys:List D} (r:RE O P H₀ H x v):(kZ x=some (.list ys)->∃a vs,v=.ref a/\H a=some (.lst vs)/\RpL (P++O) H ys vs)/\(kZ x=some (.tuple ys)->∃a vs,v=.ref a/\H a=some (.tup vs)/\RpL (P++O) H ys vs):=by
 refine ⟨fun h=>?_,fun h=>?_⟩
 ·refine r.list ?_
  cases x with
  |d z=>cases h; rfl
  |ob C fs=>cases h
  |tbl kvs=>cases h
  |ex q=>cases h
  |tpo p xs q=>cases h
  |nwt p xs q=>cases h
  |own xs=>cases h; rfl
  |new xs=>cases h; rfl
  |scr K ns=>cases h
 ·cases x with
  |d z=>
   cases h
   have r':Rp (P++O) H _ v:=r
   cases r' with
   |tup hz ha l=>exact ⟨_,_,rfl,ha,l⟩
  |ob C fs=>cases h
  |tbl kvs=>cases h
  |ex q=>cases h
  |tpo p xs q=>cases h
  |nwt p xs q=>cases h
  |own xs=>cases h
  |new xs=>cases h
  |scr K ns=>cases h
theorem dh:dc X E (.builtin "len") bK:=dc.of kY fun O P H₀ H xs vs r Q hd hs rx e q=>by
 unfold bK at e
 split at e
 ·cases rx with
  |cons r1 rr=>
   cases rr
   split at e
   ·rename_i h
    cases e
    obtain ⟨a,vs,rfl,ha,l⟩:=r1.look.1 h
    exact ⟨a,vs,rfl,.inl (gm.of ha),q _ H (aB.refl H) (by rw [l.length]; exact .int _)⟩
   ·rename_i h
    cases e
    obtain ⟨a,vs,rfl,ha,l⟩:=r1.look.2 h
    exact ⟨a,vs,rfl,.inr (jy.of ha),q _ H (aB.refl H) (by rw [l.length]; exact .int _)⟩
   ·cases e
 ·cases e
open Classical in
noncomputable def tU (K:IU) (xs:List DV):M DV:=match xs with
 |[.scr K' ns]=>if K'=K then rt (.d (.int ns.length)) else none
 |_=>none
theorem AY:dc X E (.builtin "len") (tU X.K):=dc.of kY fun O P H₀ H xs vs r Q hd hs rx e q=>by
 unfold tU at e
 split at e
 ·split at e
  ·rename_i hK
   subst hK
   cases e
   cases rx with
   |cons r1 rr=>
    cases rr
    obtain ⟨a,rfl,ha⟩:=r1.scrSq
    refine ⟨a,_,rfl,.inl ha,?_⟩
    rw [List.length_map]
    exact q _ H (aB.refl H) (.int _)
  ·cases e
 ·cases e
noncomputable def ti (xs:List DV):M DV:=match xs with
 |[x]=>match kZ x with
  |some (.list ys)=>rt (.new ys)
  |some (.tuple ys)=>rt (.new ys)
  |_=>none
 |_=>none
theorem qQ:dc X E (.type "list") ti:=dc.of rq fun O P H₀ H xs vs r Q hd hs rx e q=>by
 unfold ti at e
 split at e
 ·cases rx with
  |cons r1 rr=>
   cases rr
   split at e
   ·rename_i h
    cases e
    obtain ⟨a,vs,rfl,ha,l⟩:=r1.look.1 h
    exact ⟨a,vs,rfl,.inl (gm.of ha),fun p hp=>q _ _ (bH hp) (RE.made hs hp l)⟩
   ·rename_i h
    cases e
    obtain ⟨a,vs,rfl,ha,l⟩:=r1.look.2 h
    exact ⟨a,vs,rfl,.inr (jy.of ha),fun p hp=>q _ _ (bH hp) (RE.made hs hp l)⟩
   ·cases e
 ·cases e
noncomputable def AK (xs:List DV):M DV:=match xs with
 |[.d (.int i)]=>rt (.d (.int i))
 |[.d (.bool k)]=>rt (.d (.int (if k then 1 else 0)))
 |_=>none
theorem E9:dc X E (.type "int") AK:=dc.of xN fun O P H₀ H xs vs r Q hd hs rx e q=>by
 unfold AK at e
 split at e
 ·cases e
  cases rx with
  |cons r1 rr=>
   cases rr
   cases r1
   exact .inl ⟨_,rfl,q _ H (aB.refl H) (.int _)⟩
 ·cases e
  cases rx with
  |cons r1 rr=>
   cases rr
   cases r1
   exact .inr ⟨_,rfl,q _ H (aB.refl H) (.int _)⟩
 ·cases e
noncomputable def tN (xs:List DV):M DV:=match xs with
 |[.d (.int i),.d (.int j)]=>rt (.d (.int (if j<i then j else i)))
 |_=>none
theorem zO (hc:X.calm=true):dc X E (.builtin "min") tN:=dc.of (xJ hc) fun O P H₀ H xs vs r Q hd hs rx e q=>by
 unfold tN at e
 split at e
 ·cases e
  cases rx with
  |cons r1 rr=>
   cases rr with
   |cons r2 rr=>
    cases rr
    cases r1
    cases r2
    exact ⟨_,_,rfl,q _ H (aB.refl H) (.int _)⟩
 ·cases e
noncomputable def Fi (xs:List DV):M DV:=match xs with
 |[.d (.int i),.d (.int j)]=>rt (.d (.int (if j>i then j else i)))
 |_=>none
theorem Dz (hc:X.calm=true):dc X E (.builtin "max") Fi:=dc.of (xX hc) fun O P H₀ H xs vs r Q hd hs rx e q=>by
 unfold Fi at e
 split at e
 ·cases e
  cases rx with
  |cons r1 rr=>
   cases rr with
   |cons r2 rr=>
    cases rr
    cases r1
    cases r2
    exact ⟨_,_,rfl,q _ H (aB.refl H) (.int _)⟩
 ·cases e
end
inductive Out where
 |nx (δ:DS)
 |rt (x:DV)
 |bk (δ:DS)
 |ct (δ:DS)
noncomputable def C2 (E:XK) (O P:List Addr) (H:Hp) (T:Ends):Except Value Out->Prop
 |.ok (.nx δ)=>∀σ' H' P',Kp P H P' H'->RS O P' H' σ' δ->T.nx σ' H'
 |.ok (.bk δ)=>∀σ' H' P',Kp P H P' H'->RS O P' H' σ' δ->T.bk σ' H'
 |.ok (.ct δ)=>∀σ' H' P',Kp P H P' H'->RS O P' H' σ' δ->T.ct σ' H'
 |.ok (.rt x)=>∀v H1 H' P',Kp P H P' H1->aB H1 H'->(∀a,a∈P'++O->∃o,H1 a=some o)->(∀a,a∈P'->a∉O)->RE O P' H1 H' x v->T.rt v H'
 |.error c=>∀dx H' P',Kp P H P' H'->E c dx H'
theorem C2.on {E:XK} {O P P1:List Addr} {H H1:Hp} {T:Ends} {r:Except Value Out} (h:C2 E O P H T r) (k:Kp P H P1 H1):C2 E O P1 H1 T r:=by
 cases r with
 |error c=>exact fun dx H' P' k'=>h dx H' P' (k.trans k')
 |ok o=>
  cases o with
  |nx δ=>exact fun σ' H' P' k' rs=>h σ' H' P' (k.trans k') rs
  |bk δ=>exact fun σ' H' P' k' rs=>h σ' H' P' (k.trans k') rs
  |ct δ=>exact fun σ' H' P' k' rs=>h σ' H' P' (k.trans k') rs
  |rt x=>exact fun v H2 H' P' k' s d ap rx=>h v H2 H' P' (k.trans k') s d ap rx
noncomputable def tS (E:XK) (F:DS->M Out):TS:=fun T σ H=>∃O P δ r,RS O P H σ δ/\F δ=some r/\C2 E O P H T r
noncomputable def uz (X:Cx) (E:XK) (st:Stmt) (F:DS->M Out):Prop:=PS X st (tS E F)
noncomputable def wb (X:Cx) (E:XK) (st:List Stmt) (F:DS->M Out):Prop:=sh X st (tS E F)
theorem PS.mono {X:Cx} {st:Stmt} {t t':TS} (h:PS X st t) (m:∀T σ H,t' T σ H->t T σ H):PS X st t':=fun pins s σ H T I q=>h pins s σ H T I (m T σ H q)
theorem sh.mono {X:Cx} {st:List Stmt} {t t':TS} (h:sh X st t) (m:∀T σ H,t' T σ H->t T σ H):sh X st t':=fun pins s σ H T I q=>h pins s σ H T I (m T σ H q)
noncomputable def GZ (F:DS->M Out) (o:Out):M Out:=match o with
 |.nx δ=>F δ
 |.rt x=>rt (.rt x)
 |.bk δ=>rt (.bk δ)
 |.ct δ=>rt (.ct δ)
@[simp] theorem vA (F:DS->M Out) (δ:DS):GZ F (.nx δ)=F δ:=rfl
@[simp] theorem uT (F:DS->M Out) (x:DV):GZ F (.rt x)=rt (.rt x):=rfl
noncomputable def bB (F G:DS->M Out) (δ:DS):M Out:=bd (F δ) (GZ G)
noncomputable def bA (δ:DS):M Out:=rt (.nx δ)
section
variable {X:Cx} {E:XK} {st:Stmt} {sts:List Stmt} {F G:DS->M Out} {e c:Expr} {pos:Pos} {f:DS->M DV} {fr:DS->M (List DV)} {gc:DS->M Bool}
theorem bG:wb X E [] bA:=sh.mono q9 fun T σ H q=>by
 obtain ⟨O,P,δ,r,rs,e,q⟩:=q
 cases e
 exact q σ H P (.refl) rs
theorem aq (h1:uz X E st F) (h2:wb X E sts G):wb X E (st::sts) (bB F G):=sh.mono (kj h1 h2) fun T σ H q=>by
 obtain ⟨O,P,δ,r,rs,e,q⟩:=q
 rcases az e with ⟨o,e1,e2⟩|⟨c,e1,e2⟩
 ·cases o with
  |nx δ1=>exact ⟨O,P,δ,.ok (.nx δ1),rs,e1,fun σ' H' P' k rs'=>⟨O,P',δ1,r,rs',e2,q.on k⟩⟩
  |rt x=>cases e2; exact ⟨O,P,δ,.ok (.rt x),rs,e1,q⟩
  |bk δ1=>cases e2; exact ⟨O,P,δ,.ok (.bk δ1),rs,e1,q⟩
  |ct δ1=>cases e2; exact ⟨O,P,δ,.ok (.ct δ1),rs,e1,q⟩
 ·subst e2
  exact ⟨O,P,δ,.error c,rs,e1,q⟩
theorem ay (h1:uz X E st F):wb X E [st] F:=km h1
noncomputable def frz (i:Nat) (δ:DS):DS:=match δ[i]? with
 |some (some (.own xs))=>δ.set i (some (.d (.list xs)))
 |some (some (.tpo p xs q))=>δ.set i (some (.d (.tuple (p++.list xs::q))))
 |_=>δ
theorem RS.frzG {O P:List Addr} {H:Hp} {σ:St} {δ:DS} (r:RS O P H σ δ) {i:Nat} {x:DV} {v:V} {a:Addr} {d:D} (e:δ[i]?=some (some x)) (ev:σ[i]?=some (some v)) (o:pq H x v a) (hd:Rp (P.filter (fun b=>!decide (b=a))++O) H d v):RS O (P.filter (fun b=>!decide (b=a))) H σ (δ.set i (some (.d d))):=by
 have hi:i<δ.length:=(List.getElem?_eq_some_iff.mp e).1
 have sub:∀b,b∈P.filter (fun b=>!decide (b=a))->b∈P:=fun b hb=>(List.mem_filter.mp hb).1
 have subz:∀b,b∈P.filter (fun b=>!decide (b=a))++O->b∈P++O:=fun b hb=>by
  rcases List.mem_append.mp hb with h|h
  ·exact II _ (sub b h)
  ·exact IH _ h
 refine ⟨by simp [r.len],fun b hb=>r.dom b (subz b hb),fun b hb=>r.apart b (sub b hb),fun j y ej=>?_,fun j m y z v1 v2 c e1 e2 e3 e4 o1 o2=>?_⟩
 ·by_cases hj:i=j
  ·subst hj
   rw [List.getElem?_set_self hi] at ej
   cases ej
   exact ⟨v,ev,fun _=>nofun,hd⟩
  ·rw [List.getElem?_set_ne hj] at ej
   obtain ⟨w,e1,e2,e3⟩:=r.at' j y ej
   refine ⟨w,e1,e2,?_⟩
   have ne:∀c,pq H y w c->c∈P->c∈P.filter (fun b=>!decide (b=a)):=fun c oc hc=>by
    refine List.mem_filter.mpr ⟨hc,?_⟩
    have:c≠a:=fun z=>hj (r.one i j x y v w a e ej ev e1 o (z▸oc))
    simpa using this
   cases y with
   |d y=>exact Rp.kp (.sub subz) e3
   |ob C fs=>exact AW.kp (.sub subz) e3
   |tbl kvs=>exact AS.kp (.sub subz) e3
   |ex q=>exact e3
   |tpo p xs q=>
    obtain ⟨t,b,ps,vs,qs,et,hz,ht,hb,hl,l1,l2,l3⟩:=e3
    refine ⟨t,b,ps,vs,qs,et,fun h=>hz (subz t h),ht,ne b ⟨t,_,et,ht,?_⟩ hb,hl,l1.kp (.sub subz),l2.kp (.sub subz),l3.kp (.sub subz)⟩
    rw [l1.length,List.getElem?_append_right (IJ _),Nat.sub_self]; rfl
   |nwt p xs q=>exact (Ai.no e3).elim
   |own ys=>
    obtain ⟨b,us,eb,hPb,hb,hl⟩:=e3
    exact ⟨b,us,eb,ne b eb hPb,hb,hl.kp (.sub subz)⟩
   |new ys=>exact absurd rfl (e2 ys)
   |scr K ns=>
    obtain ⟨b,eb,hz⟩:=e3
    exact ⟨b,eb,hz.imp (fun z=>⟨fun h=>z.1 (subz b h),z.2⟩) fun z=>z⟩
 ·have nj:∀(j:Nat) (y:DV),BR y=true->(δ.set i (some (.d d)))[j]?=some (some y)->δ[j]?=some (some y):=fun j y hy ej=>by
   by_cases hj:i=j
   ·subst hj
    rw [List.getElem?_set_self hi] at ej
    cases ej
    cases hy
   ·rw [List.getElem?_set_ne hj] at ej; exact ej
  exact r.one j m y z v1 v2 c (nj j y o1.q e1) (nj m z o2.q e2) e3 e4 o1 o2
theorem RS.frz {O P:List Addr} {H:Hp} {σ:St} {δ:DS} (r:RS O P H σ δ) (i:Nat):∃P',(∀a,a∈P'->a∈P)/\RS O P' H σ (frz i δ):=by
 have sub:∀a b,b∈P.filter (fun b=>!decide (b=a))->b∈P:=fun a b hb=>(List.mem_filter.mp hb).1
 have nota:∀a,a∈P->a∉P.filter (fun b=>!decide (b=a))++O:=fun a hP h=>by
  rcases List.mem_append.mp h with h|h
  ·have:=(List.mem_filter.mp h).2; simp at this
  ·exact r.apart a hP h
 have subz:∀a b,b∈P.filter (fun b=>!decide (b=a))++O->b∈P++O:=fun a b hb=>by
  rcases List.mem_append.mp hb with h|h
  ·exact II _ (sub a b h)
  ·exact IH _ h
 unfold L3.frz
 split
 ·rename_i xs e
  obtain ⟨v,ev,_,a,vs,rfl,hP,ha,l⟩:=r.at' i _ e
  exact ⟨P.filter (fun b=>!decide (b=a)),sub a,r.frzG e ev rfl (Rp.lst (nota a hP) ha (l.kp (.sub (subz a))))⟩
 ·rename_i p xs q e
  obtain ⟨v,ev,_,t,a,ps,vs,qs,rfl,hz,ht,hP,ha,l1,l2,l3⟩:=r.at' i _ e
  refine ⟨P.filter (fun b=>!decide (b=a)),sub a,r.frzG e ev (a:=a) ⟨t,_,rfl,ht,?_⟩ (Rp.tup (fun h=>hz (subz a t h)) ht (RpL.append (l1.kp (.sub (subz a))) (.cons (Rp.lst (nota a hP) ha (l2.kp (.sub (subz a)))) (l3.kp (.sub (subz a))))))⟩
  rw [l1.length,List.getElem?_append_right (IJ _),Nat.sub_self]; rfl
 ·exact ⟨P,fun _ h=>h,r⟩
theorem C2.sub {O P P':List Addr} {H:Hp} {T:Ends} {r:Except Value Out} (h:C2 E O P H T r) (hs:∀a,a∈P'->a∈P):C2 E O P' H T r:=h.on (.sub hs)
theorem fY (i:Nat) (h:wb X E sts F):wb X E sts (fun δ=>F (frz i δ)):=sh.mono h fun T σ H q=>by
 obtain ⟨O,P,δ,r,rs,e,q⟩:=q
 obtain ⟨P',hP,rs'⟩:=rs.frz i
 exact ⟨O,P',frz i δ,r,rs',e,q.sub hP⟩
noncomputable def dU (gc:DS->M Bool) (F G:DS->M Out) (δ:DS):M Out:=bd (gc δ) fun k=>if k=true then F δ else G δ
theorem cy {as bs:List Stmt} (hc:PB X E c gc) (ha:wb X E as F) (hb:wb X E bs G):uz X E (.If c as bs pos) (dU gc F G):=PS.mono (Av hc ha hb) fun T σ H q=>by
 obtain ⟨O,P,δ,r,rs,e,q⟩:=q
 rcases az e with ⟨k,e1,e2⟩|⟨cx,e1,e2⟩
 ·refine ⟨O,P,δ,.ok k,rs,e1,fun H1 s1=>?_⟩
  cases k with
  |true=>exact yS ⟨O,P,δ,r,rs.same s1,e2,q.on (.same s1)⟩
  |false=>exact z5 ⟨O,P,δ,r,rs.same s1,e2,q.on (.same s1)⟩
 ·subst e2
  exact ⟨O,P,δ,.error cx,rs,e1,fun dx H' s=>q dx H' P (.same s)⟩
noncomputable def bp (f:DS->M DV) (δ:DS):M Out:=bd (f δ) fun x=>rt (.rt x)
theorem aR (he:PX X E e f):uz X E (.Return (some e) pos) (bp f):=PS.mono (AN he) fun T σ H q=>by
 obtain ⟨O,P,δ,r,rs,e,q⟩:=q
 rcases az e with ⟨x,e1,e2⟩|⟨cx,e1,e2⟩
 ·cases e2
  exact ⟨O,P,δ,.ok x,rs,e1,fun v H1 s1 rx=>q v H H1 P .refl s1 rs.dom rs.apart rx⟩
 ·subst e2
  exact ⟨O,P,δ,.error cx,rs,e1,fun dx H' s=>q dx H' P (.same s)⟩
noncomputable def oU (f:DS->M DV) (δ:DS):M Out:=bd (f δ) fun _=>rt (.nx δ)
theorem Bh (he:PX X E e f) (hs:swapsWith e none pos.line X.env=pure false:=by rfl):uz X E (.Expr e pos) (oU f):=PS.mono (kn he hs) fun T σ H q=>by
 obtain ⟨O,P,δ,r,rs,e,q⟩:=q
 rcases az e with ⟨x,e1,e2⟩|⟨cx,e1,e2⟩
 ·cases e2
  exact ⟨O,P,δ,.ok x,rs,e1,fun v H1 s1 rx=>q σ H1 P (.same s1) (rs.same s1)⟩
 ·subst e2
  exact ⟨O,P,δ,.error cx,rs,e1,fun dx H' s=>q dx H' P (.same s)⟩
noncomputable def nN:DV->Option DV
 |.d x=>some (.d x)
 |.ob C fs=>some (.ob C fs)
 |.tbl kvs=>some (.tbl kvs)
 |.ex q=>some (.ex q)
 |.scr K ns=>some (.scr K ns)
 |.new xs=>some (.own xs)
 |.own _=>none
 |.tpo _ _ _=>none
 |.nwt p xs q=>some (.tpo p xs q)
@[simp] theorem uR (x:D):nN (.d x)=some (.d x):=rfl
@[simp] theorem rV (C:Addr) (fs:List (Str×D)):nN (.ob C fs)=some (.ob C fs):=rfl
@[simp] theorem oC (xs:List D):nN (.new xs)=some (.own xs):=rfl
@[simp] theorem nY (K:IU) (ns:List Int):nN (.scr K ns)=some (.scr K ns):=rfl
theorem RS.asg {O P:List Addr} {H H1:Hp} {σ:St} {δ:DS} {x y:DV} {v:V} (r:RS O P H σ δ) (s1:aB H H1) (rx:RE O P H H1 x v) (h:nN x=some y) (i:Nat) :
  ∃P',Kp P H P' H1/\RS O P' H1 (σ.set i (some v)) (δ.set i (some y)):=by
 cases x with
 |d z=>cases h; exact ⟨P,.same s1,(r.same s1).set rx (fun _=>nofun) rfl⟩
 |ob C fs=>cases h; exact ⟨P,.same s1,(r.same s1).set rx (fun _=>nofun) rfl⟩
 |tbl kvs=>cases h; exact ⟨P,.same s1,(r.same s1).set rx (fun _=>nofun) rfl⟩
 |ex q=>cases h; exact ⟨P,.same s1,(r.same s1).set rx (fun _=>nofun) rfl⟩
 |own xs=>cases h
 |tpo p xs q=>cases h
 |nwt p xs q=>
  cases h
  obtain ⟨a,hn,rs⟩:=r.ownT s1 rx (i:=i)
  refine ⟨a::P,⟨fun b o _ e=>s1 b o e,fun b hb=>?_⟩,rs⟩
  rcases List.mem_cons.mp hb with z|z
  ·exact .inr (z▸hn)
  ·exact .inl z
 |scr K ns=>cases h; exact ⟨P,.same s1,(r.same s1).set rx (fun _=>nofun) rfl⟩
 |new xs=>
  cases h
  obtain ⟨a,hn,rs⟩:=r.own s1 rx (i:=i)
  refine ⟨a::P,⟨fun b o _ e=>s1 b o e,fun b hb=>?_⟩,rs⟩
  rcases List.mem_cons.mp hb with z|z
  ·exact .inr (z▸hn)
  ·exact .inl z
noncomputable def aO (i:Nat) (f:DS->M DV) (δ:DS):M Out:=bd (f δ) fun x=>bd (op (nN x)) fun y=>rt (.nx (δ.set i (some y)))
theorem aL {i:Nat} {x:Str} {pos':Pos} (hN:X.N.Nodup) (he:PX X E e f) (hi:X.N[i]?=some x:=by rfl) (hx:GH X.env.scope x:=by first|exact Or.inl rfl|exact Or.inr rfl) (hs:swapsWith e (some (.Name x pos')) pos.line X.env=pure false:=by rfl)
  (hf:X.fn x=true\/X.env.scope.names.lookup x=some .local:=by first|exact .inl rfl|exact .inr rfl|assumption):uz X E (.Assign [.Name x pos'] e pos) (aO i f):=PS.mono (EU hN hi hx he hs hf) fun T σ H q=>by
 obtain ⟨O,P,δ,r,rs,e,q⟩:=q
 rcases az e with ⟨x,e1,e2⟩|⟨cx,e1,e2⟩
 ·obtain ⟨y,e3,e4⟩:=cw e2
  cases e4
  refine ⟨O,P,δ,.ok x,rs,e1,fun v H1 s1 rx=>?_⟩
  obtain ⟨P',k,rs'⟩:=rs.asg s1 rx e3 i
  exact q _ H1 P' k rs'
 ·subst e2
  exact ⟨O,P,δ,.error cx,rs,e1,fun dx H' s=>q dx H' P (.same s)⟩
noncomputable def yx (sf:D->DS->Option DS) (f:DS->M DV) (δ:DS):M Out:=bd (f δ) fun x=>bd (op (vS x)) fun d=>bd (op (sf d δ)) fun δ'=>rt (.nx δ')
theorem vw {tg:Expr} {g:TG} {sf:D->DS->Option DS} (he:PX X E e f) (hg:PG X tg g) (ht:Dh g sf) (hs:swapsWithSole [tg] e pos.line X.env=pure false:=by rfl) (hw:swappedStores [tg] e X.env=pure none:=by rfl)
  (h1:(assignEach [tg] X.env).map (·.2)=[assign tg X.env]:=by rfl):uz X E (.Assign [tg] e pos) (yx sf f):=PS.mono (DO he hg hs hw h1) fun T σ H q=>by
 obtain ⟨O,P,δ,r,rs,e,q⟩:=q
 rcases az e with ⟨x,e1,e2⟩|⟨cx,e1,e2⟩
 ·obtain ⟨d,e3,e4⟩:=cw e2
  obtain ⟨δ',e5,e6⟩:=cw e4
  cases e6
  refine ⟨O,P,δ,.ok x,rs,e1,fun v H1 s1 rx=>?_⟩
  exact ht O P H1 σ δ δ' d v _ (rs.same s1) (rx.data rs.dom e3) e5 fun σ' rs'=>q σ' H1 P (.same s1) rs'
 ·subst e2
  exact ⟨O,P,δ,.error cx,rs,e1,fun dx H' s=>q dx H' P (.same s)⟩
noncomputable def Ft (i j:Nat) (fr:DS->M (List DV)) (δ:DS):M Out:=bd (fr δ) fun xs=>bd (op (dA xs)) fun ds=>match ds with
 |[x,y]=>rt (.nx ((δ.set i (some (.d x))).set j (some (.d y))))
 |_=>none
noncomputable def pB (i:Nat) (f:DS->M DV) (δ:DS):M Out:=match δ[i]? with
 |some (some (.own xs))=>bd (f δ) fun x=>bd (op (vS x)) fun d=>if xs.length<1000000 then rt (.nx (δ.set i (some (.own (xs++[d]))))) else none
 |_=>none
theorem RS.growG {O P:List Addr} {H:Hp} {σ:St} {δ:DS} {i:Nat} {x x':DV} {v:V} {a:Addr} {us:List V} (r:RS O P H σ δ) (e:δ[i]?=some (some x)) (ev:σ[i]?=some (some v)) (o:pq H x v a) (hx:∀xs,x'≠.new xs) (rx:RE O P (du H a (.lst us)) (du H a (.lst us)) x' v) (ox:∀b,pq (du H a (.lst us)) x' v b->b=a) (hP:a∈P) :
  Kp P H P (du H a (.lst us))/\RS O P (du H a (.lst us)) σ (δ.set i (some x')):=by
 have hi:i<δ.length:=(List.getElem?_eq_some_iff.mp e).1
 have k:Kp P H P (du H a (.lst us)):=⟨fun b o hb q=>by rw [aN (show b≠a from fun z=>hb (by rw [z]; exact hP))]; exact q,fun b hb=>.inl hb⟩
 have kz:Kp (P++O) H (P++O) (du H a (.lst us)):=⟨fun b o hb q=>by rw [aN (show b≠a from fun z=>hb (by rw [z]; exact II _ hP))]; exact q,fun b hb=>.inl hb⟩
 have old:∀(j:Nat) (y:DV) (w:V) (c:Addr),δ[j]?=some (some y)->σ[j]?=some (some w)->pq (du H a (.lst us)) y w c->pq H y w c:=fun j y w c e q o=>by
  obtain ⟨w',e1,_,r1⟩:=r.at' j _ e
  rw [q] at e1
  cases e1
  exact o.old kz.keep r1
 refine ⟨k,by simp [r.len],fun b hb=>?_,r.apart,fun j y ej=>?_,fun j m y z v1 v2 c e1 e2 e3 e4 o1 o2=>?_⟩
 ·by_cases hb':b=a
  ·exact ⟨_,by rw [hb',cf]⟩
  ·rw [aN hb']; exact r.dom b hb
 ·by_cases hj:i=j
  ·subst hj
   rw [List.getElem?_set_self hi] at ej
   cases ej
   exact ⟨v,ev,hx,rx⟩
  ·rw [List.getElem?_set_ne hj] at ej
   obtain ⟨w,e1,e2,e3⟩:=r.at' j y ej
   refine ⟨w,e1,e2,?_⟩
   have ne:∀c,pq H y w c->c≠a:=fun c oc z=>hj (r.one i j x y v w a e ej ev e1 o (z▸oc))
   cases y with
   |d y=>exact Rp.kp kz e3
   |ob C fs=>exact AW.kp kz e3
   |tbl kvs=>exact AS.kp kz e3
   |ex q=>exact e3
   |tpo p xs q=>
    obtain ⟨t,b,ps,vs,qs,et,hz,ht,hb,hl,l1,l2,l3⟩:=e3
    have hne:b≠a:=ne b ⟨t,_,et,ht,by rw [l1.length,List.getElem?_append_right (IJ _),Nat.sub_self]; rfl⟩
    exact ⟨t,b,ps,vs,qs,et,hz,(kz.at hz ht).2,hb,by rw [aN hne]; exact hl,l1.kp kz,l2.kp kz,l3.kp kz⟩
   |nwt p xs q=>exact (Ai.no e3).elim
   |own zs=>
    obtain ⟨b,vs,eb,hPb,hb,hl⟩:=e3
    have hne:b≠a:=ne b eb
    exact ⟨b,vs,eb,hPb,by rw [aN hne]; exact hb,hl.kp kz⟩
   |new zs=>exact absurd rfl (e2 zs)
   |scr K ns=>
    obtain ⟨b,eb,⟨hz,hb⟩|hk⟩:=e3
    ·have hba:b≠a:=fun z=>hz (by rw [z]; exact II _ hP)
     refine ⟨b,eb,.inl ⟨hz,?_⟩⟩
     rcases hb with hb|⟨ob,hb⟩
     ·exact .inl (by rw [aN hba]; exact hb)
     ·exact .inr ⟨ob,by rw [aN hba]; exact hb⟩
    ·exact ⟨b,eb,.inr hk⟩
 ·have nj:∀(j:Nat) (y:DV) (w:V),(δ.set i (some x'))[j]?=some (some y)->σ[j]?=some (some w)->pq (du H a (.lst us)) y w c->∃y',δ[j]?=some (some y')/\pq H y' w c:=fun j y w ej eq oc=>by
   by_cases hj:i=j
   ·subst hj
    rw [List.getElem?_set_self hi] at ej
    cases ej
    rw [ev] at eq
    cases eq
    have hc:=ox c oc
    exact ⟨x,e,hc▸o⟩
   ·rw [List.getElem?_set_ne hj] at ej; exact ⟨y,ej,old j y w c ej eq oc⟩
  obtain ⟨z1,d1,p1⟩:=nj j _ _ e1 e3 o1
  obtain ⟨z2,d2,p2⟩:=nj m _ _ e2 e4 o2
  exact r.one j m z1 z2 v1 v2 c d1 d2 e3 e4 p1 p2
theorem RS.grow {O P:List Addr} {H:Hp} {σ:St} {δ:DS} {i:Nat} {xs ys:List D} {a:Addr} {us:List V} (r:RS O P H σ δ) (e:δ[i]?=some (some (.own xs))) (ev:σ[i]?=some (some (.ref a))) (l:RpL (P++O) H ys us) (hP:a∈P) :
  Kp P H P (du H a (.lst us))/\RS O P (du H a (.lst us)) σ (δ.set i (some (.own ys))):=by
 have kz:Kp (P++O) H (P++O) (du H a (.lst us)):=⟨fun b o hb q=>by rw [aN (show b≠a from fun z=>hb (by rw [z]; exact II _ hP))]; exact q,fun b hb=>.inl hb⟩
 exact r.growG e ev (x:=.own xs) rfl (fun _=>nofun) ⟨a,us,rfl,hP,cf,l.kp kz⟩ (fun b h=>by
  have h':V.ref a=.ref b:=h
  cases h'; rfl) hP
theorem zM {i:Nat} {o:Expr} {apos cpos:Pos} (ho:PE X o (rH i)) (he:PX X E e f)
  (hbase:attributeBase o "append" X.env (eval o X.env)=eval o X.env:=by rfl)
  (hfew:((backTo cpos (starEach [e] X.env)).all (fun x=>!x.1)&&(backToKw cpos (keywordEach [] X.env)).all (fun x=>x.1.isSome)
   && decide ([e].length+([]:List Keyword).length+(if ([]:List Keyword).isEmpty then 0 else 1)<30))=true:=by rfl)
  (hline:(apos.endLine==cpos.line)=true:=by rfl) (hs:starEach [e] X.env=(false,eval e X.env)::starEach [] X.env:=by rfl) (hplain:(backTo cpos (starEach [] X.env)).any (·.1)=false:=by rfl)
  (hsw:swapsWith (.Call (.Attribute o "append" apos) [e] [] cpos) none pos.line X.env=pure false:=by rfl):uz X E (.Expr (.Call (.Attribute o "append" apos) [e] [] cpos) pos) (pB i f):=
 PS.mono (kn (tG PySem.F.plainAttrs_list PySem.F.slot_list_append PySem.F.type_list_append qj ho (iv he jO hs) hbase hfew hline hs hplain) hsw) fun T σ H q=>by
  obtain ⟨O,P,δ,r,rs,e,q⟩:=q
  unfold pB at e
  split at e
  ·rename_i xs ei
   obtain ⟨v,ev,_,a,vs,rfl,hP,ha,l⟩:=rs.at' i _ ei
   refine ⟨.ref a,ev,.inl ⟨rfl,_,gm.of ha⟩,?_⟩
   rcases az e with ⟨x,e1,e2⟩|⟨cx,e1,e2⟩
   ·obtain ⟨d,e3,e4⟩:=cw e2
    split at e4
    ·rename_i hz
     cases e4
     refine ⟨O,P,δ,.ok x,rs,e1,fun u H1 s1 rx=>?_⟩
     have ru:=rx.data rs.dom e3
     have l1:=(l.kp (.same s1)).append (.cons ru .nil)
     obtain ⟨k,rs'⟩:=(rs.same s1).grow ei ev l1 hP
     refine ⟨a,vs,u,rfl,rfl,s1 a _ ha,?_,q σ _ P ((Kp.same s1).trans k) rs'⟩
     rw [<-l.length]
     exact Nat.lt_of_lt_of_le hz (by rw [sizeLine_eq]; decide)
    ·cases e4
   ·subst e2
    exact ⟨O,P,δ,.error cx,rs,e1,fun dx H' s=>q dx H' P (.same s)⟩
  ·cases e
end
theorem Kp.app {O P P':List Addr} {H H':Hp} (k:Kp P H P' H'):Kp (P++O) H (P'++O) H':=⟨fun a o ha e=>k.keep a o (fun h=>ha (II _ h)) e,fun a ha=>by
 rcases List.mem_append.mp ha with h|h
 ·rcases k.new a h with z|z
  ·exact .inl (II _ z)
  ·exact .inr z
 ·exact .inl (IH _ h)⟩
noncomputable def CF (O P:List Addr) (H:Hp) (J:It) (xs:List D):Prop:=∀(i:Nat) (P':List Addr) (H':Hp),Kp P H P' H' ->
 (∀d,xs[i]?=some d->J.go i H'/\∀x H2,J.yld i H' x H2->H2=H'/\Rp (P'++O) H' d x)/\(xs.length<=i->J.stop i H')
noncomputable def Io (E:XK) (O P:List Addr) (H:Hp) (R:It->Hp->Prop):Except Value (List D)->Prop
 |.ok xs=>∀J H',aB H H'->CF O P H' J xs->R J H'
 |.error c=>∀dx H',aB H H'->E c dx H'
noncomputable def tI (E:XK) (f:DS->M (List D)):TI:=fun σ H R=>∃O P δ r,RS O P H σ δ/\f δ=some r/\Io E O P H R r
noncomputable def DE (X:Cx) (E:XK) (tg iter:Expr) (f:DS->M (List D)):Prop:=PI X tg iter (tI E f)
theorem PI.mono {X:Cx} {tg e:Expr} {t t':TI} (h:PI X tg e t) (m:∀σ H R,t' σ H R->t σ H R):PI X tg e t':=fun pins s σ H R I q=>h pins s σ H R I (m σ H R q)
noncomputable def oX (f:DS->M DV) (δ:DS):M (List D):=bd (f δ) fun x=>match vS x with
 |some (.list xs)=>rt xs
 |_=>none
noncomputable def Dp (f:DS->M DV) (δ:DS):M (List D):=bd (f δ) fun x=>match x with
 |.d (.tuple xs)=>rt xs
 |_=>none
noncomputable def dB (lo:Int) (n:Nat):List D:=(List.range n).map fun (k:Nat)=>PyData.int (lo+(k:Int))
theorem eB (lo:Int) (n:Nat):(dB lo n).length=n:=by simp [dB]
theorem AJ {lo:Int} {n i:Nat} {d:D} (h:(dB lo n)[i]?=some d):i<n/\d=.int (lo+(i:Int)):=by
 have hi:i<n:=by rw [<-eB lo n]; exact (List.getElem?_eq_some_iff.mp h).1
 refine ⟨hi,?_⟩
 unfold dB at h
 rw [List.getElem?_map,List.getElem?_range hi] at h
 cases h; rfl
noncomputable def tY (fr:DS->M (List DV)) (δ:DS):M (List D):=bd (fr δ) fun xs=>match xs with
 |[.d (.int j)]=>if -(2 ^ 62)<=j/\j<2 ^ 62 then rt (dB 0 j.toNat) else none
 |_=>none
noncomputable def qK (fr:DS->M (List DV)) (δ:DS):M (List D):=bd (fr δ) fun xs=>match xs with
 |[.d (.int i),.d (.int j)]=>if -(2 ^ 62)<=i/\i<2 ^ 62/\-(2 ^ 62)<=j/\j<2 ^ 62 then rt (dB i (j-i).toNat) else none
 |_=>none
section
variable {X:Cx} {E:XK} {tg e a b:Expr} {f:DS->M DV} {fr:DS->M (List DV)} {p pos:Pos}
theorem sE {O P:List Addr} {H:Hp} (lo:Int) (n:Nat):CF O P H (Gp lo n) (dB lo n):=fun i P' H' k=>by
 refine ⟨fun d hd=>?_,fun h=>?_⟩
 ·obtain ⟨hi,rfl⟩:=AJ hd
  exact ⟨hi,fun x H2 ⟨e1,e2⟩=>⟨e1,by rw [e2]; exact .int _⟩⟩
 ·rw [eB] at h; exact h
theorem CI {O P:List Addr} {H:Hp} {K:IU} {xs:List D} {v:V} (r:Rp (P++O) H (.list xs) v):∃a,v=.ref a/\(∃vs,gm K H a vs)/\CF O P H (HK K a) xs:=by
 cases r with
 |@lst a _ vs hz ha l=>
  refine ⟨a,rfl,⟨vs,gm.of ha⟩,fun i P' H' k=>?_⟩
  have ha':=k.keep a _ (fun h=>hz (II _ h)) ha
  have l':=l.kp (Kp.app (O:=O) k)
  refine ⟨fun d hd=>?_,fun h=>⟨vs,gm.of ha',by rw [<-l.length]; exact h⟩⟩
  obtain ⟨x,hx,rx⟩:=l'.get hd
  refine ⟨⟨vs,x,gm.of ha',hx⟩,fun y H2 ⟨e1,e2⟩=>⟨e1,?_⟩⟩
  have:=e2 vs (gm.of ha')
  rw [hx] at this
  cases this; exact rx
theorem Ef {O P:List Addr} {H:Hp} {K:IU} {xs:List D} {v:V} (r:Rp (P++O) H (.tuple xs) v):∃a,v=.ref a/\(∃vs,jy K H a vs)/\CF O P H (HV K a) xs:=by
 cases r with
 |@tup a _ vs hz ha l=>
  refine ⟨a,rfl,⟨vs,jy.of ha⟩,fun i P' H' k=>?_⟩
  have ha':=k.keep a _ (fun h=>hz (II _ h)) ha
  have l':=l.kp (Kp.app (O:=O) k)
  refine ⟨fun d hd=>?_,fun h=>⟨vs,jy.of ha',by rw [<-l.length]; exact h⟩⟩
  obtain ⟨x,hx,rx⟩:=l'.get hd
  refine ⟨⟨vs,x,jy.of ha',hx⟩,fun y H2 ⟨e1,e2⟩=>⟨e1,?_⟩⟩
  have:=e2 vs (jy.of ha')
  rw [hx] at this
  cases this; exact rx
theorem iZ (he:PX X E e f):DE X E tg e (oX f):=PI.mono (CD he) fun σ H R q=>by
 obtain ⟨O,P,δ,r,rs,e,q⟩:=q
 rcases az e with ⟨x,e1,e2⟩|⟨cx,e1,e2⟩
 ·refine ⟨O,P,δ,.ok x,rs,e1,fun v H1 s1 rx=>?_⟩
  split at e2
  ·rename_i xs h
   cases e2
   obtain ⟨a,rfl,h1,h2⟩:=CI (K:=X.K) (rx.data rs.dom h)
   exact ⟨a,rfl,h1,q _ H1 s1 h2⟩
  ·cases e2
 ·subst e2
  exact ⟨O,P,δ,.error cx,rs,e1,q⟩
theorem zd (he:PX X E e f):DE X E tg e (Dp f):=PI.mono (Fo he) fun σ H R q=>by
 obtain ⟨O,P,δ,r,rs,e,q⟩:=q
 rcases az e with ⟨x,e1,e2⟩|⟨cx,e1,e2⟩
 ·refine ⟨O,P,δ,.ok x,rs,e1,fun v H1 s1 rx=>?_⟩
  split at e2
  ·cases e2
   obtain ⟨a,rfl,h1,h2⟩:=Ef (K:=X.K) rx
   exact ⟨a,rfl,h1,q _ H1 s1 h2⟩
  ·cases e2
 ·subst e2
  exact ⟨O,P,δ,.error cx,rs,e1,q⟩
theorem ou (hm:X.mg "range" = none) (ha:wM X E [a] fr) (hg:Gl X "range" :=by rfl) (hs:starEach [a] X.env=[(false,eval a X.env)]:=by rfl):DE X E tg (.Call (.Name "range" p) [a] [] pos) (tY fr):=PI.mono (xG hg hm ha hs) fun σ H R q=>by
 obtain ⟨O,P,δ,r,rs,e,q⟩:=q
 rcases az e with ⟨xs,e1,e2⟩|⟨cx,e1,e2⟩
 ·refine ⟨O,P,δ,.ok xs,rs,e1,fun vs H1 s1 rx=>?_⟩
  split at e2
  ·split at e2
   ·rename_i h
    cases e2
    cases rx with
    |cons r1 rr=>
     cases rr
     cases r1
     exact ⟨_,rfl,h.1,h.2,q _ H1 s1 (sE 0 _)⟩
   ·cases e2
  ·cases e2
 ·subst e2
  exact ⟨O,P,δ,.error cx,rs,e1,q⟩
theorem pR (hm:X.mg "range" = none) (ha:wM X E [a,b] fr) (hg:Gl X "range" :=by rfl) (hs:starEach [a,b] X.env=[(false,eval a X.env),(false,eval b X.env)]:=by rfl) (hs2:starEach [b] X.env=[(false,eval b X.env)]:=by rfl) :
  DE X E tg (.Call (.Name "range" p) [a,b] [] pos) (qK fr):=PI.mono (xV hg hm ha hs hs2) fun σ H R q=>by
 obtain ⟨O,P,δ,r,rs,e,q⟩:=q
 rcases az e with ⟨xs,e1,e2⟩|⟨cx,e1,e2⟩
 ·refine ⟨O,P,δ,.ok xs,rs,e1,fun vs H1 s1 rx=>?_⟩
  split at e2
  ·split at e2
   ·rename_i h
    cases e2
    cases rx with
    |cons r1 rr=>
     cases rr with
     |cons r2 rr=>
      cases rr
      cases r1
      cases r2
      exact ⟨_,_,rfl,h,q _ H1 s1 (sE _ _)⟩
   ·cases e2
  ·cases e2
 ·subst e2
  exact ⟨O,P,δ,.error cx,rs,e1,q⟩
end
noncomputable def HZ (G:DS->M Out) (o:Out):M Out:=match o with
 |.nx δ=>G δ
 |.ct δ=>G δ
 |.bk δ=>rt (.nx δ)
 |.rt x=>rt (.rt x)
@[simp] theorem rg (G:DS->M Out) (δ:DS):HZ G (.nx δ)=G δ:=rfl
noncomputable def dD (sf:D->DS->Option DS) (B:DS->M Out):List D->DS->M Out
 |[],δ=>rt (.nx δ)
 |d::r,δ=>bd (op (sf d δ)) fun δ1=>bd (B δ1) (HZ (dD sf B r))
noncomputable def eL (fi:DS->M (List D)) (sf:D->DS->Option DS) (B:DS->M Out) (δ:DS):M Out:=bd (fi δ) fun xs=>dD sf B xs δ
section
variable {X:Cx} {E:XK} {tg iter:Expr} {body:List Stmt} {fi:DS->M (List D)} {g:TG} {sf:D->DS->Option DS} {B:DS->M Out} {pos:Pos}
theorem gf (hp:PassesOwn (model X.prog X.w) X.A X.env X.xe) (hc:X.calm=true) (hi:DE X E tg iter fi) (hg:PG X tg g) (ht:Dh g sf) (hb:wb X E body B)
  (hs:∀x,foldedSetIterable iter X.env x=pure x:=by intro _; rfl):uz X E (.For tg iter body [] pos) (eL fi sf B):=PS.mono (E8 hp hc hi hg hb hs) fun T σ H q=>by
 obtain ⟨O,P,δ,r,rs,e,q⟩:=q
 rcases az e with ⟨xs,e1,e2⟩|⟨cx,e1,e2⟩
 ·refine ⟨O,P,δ,.ok xs,rs,e1,fun J H1 s1 it=>?_⟩
  refine ⟨fun i m σ' H'=>m=xs.length-i/\i<=xs.length/\∃P' δ',Kp P H1 P' H'/\RS O P' H' σ' δ'/\dD sf B (xs.drop i) δ'=some r,⟨xs.length,0x4,Nat.zero_le _,P,δ,.refl,rs.same s1,e2⟩,?_⟩
  rintro i m σ' H' ⟨rfl,hi,P',δ',k,rs',el⟩
  have q':=q.on ((Kp.same s1).trans k)
  by_cases hlt:i<xs.length
  ·obtain ⟨go,yl⟩:=(it i P' H' k).1 xs[i] (by simp [hlt])
   refine .inr ⟨go,fun σ2 H2=>∃P2 δ2,Kp P H1 P2 H2/\RS O P2 H2 σ2 δ2/\dD sf B (xs.drop (i+1)) δ2=some r,fun σ2 H2 ⟨P2,δ2,h1,h2,h3⟩=>⟨xs.length-(i+1),0x1,rfl,hlt,P2,δ2,h1,h2,h3⟩,fun x H2 hy=>?_⟩
   obtain ⟨rfl,rx⟩:=yl x H2 hy
   rw [List.drop_eq_getElem_cons hlt] at el
   obtain ⟨δ1,e3,e4⟩:=cw el
   refine ht O P' H2 σ' δ' δ1 _ x _ rs' rx e3 fun σ1 rs1=>?_
   rcases az e4 with ⟨o,e5,e6⟩|⟨cx,e5,e6⟩
   ·refine ⟨O,P',δ1,.ok o,rs1,e5,?_⟩
    cases o with
    |nx δ2=>exact fun σ2 H3 P2 k2 rs2=>⟨P2,δ2,k.trans k2,rs2,e6⟩
    |ct δ2=>exact fun σ2 H3 P2 k2 rs2=>⟨P2,δ2,k.trans k2,rs2,e6⟩
    |bk δ2=>cases e6; exact q'
    |rt y=>cases e6; exact q'
   ·subst e6
    exact ⟨O,P',δ1,.error cx,rs1,e5,q'⟩
  ·have hin:i=xs.length:=by lia
   subst hin
   rw [List.drop_length] at el
   cases el
   exact .inl ⟨(it _ P' H' k).2 (IJ _),q' σ' H' P' .refl rs'⟩
 ·subst e2
  exact ⟨O,P,δ,.error cx,rs,e1,fun dx H' s=>q dx H' P (.same s)⟩
end
noncomputable def cG (k:Nat) (js:List Nat) (δ:DS):DS:=List.replicate k none++js.map fun j=>(δ[j]?).join
theorem qP {α:Type} {o:Option (Option α)} {x:α} (h:o.join=some x):o=some (some x):=by
 cases o with
 |none=>cases h
 |some z=>simp only [Option.join] at h; rw [<-h]; rfl
theorem RS.block {O P:List Addr} {H:Hp} {σ:St} {δ:DS} (r:RS O P H σ δ) (k:Nat) (js:List Nat) (hj:js.Nodup):RS O P H (iT k js σ) (cG k js δ):=by
 have at0:∀(i:Nat) (x:DV),(cG k js δ)[i]?=some (some x)->k<=i/\∃j,js[i-k]?=some j/\δ[j]?=some (some x):=fun i x h=>by
  unfold cG at h
  by_cases hi:i<k
  ·rw [List.getElem?_append_left (by simpa using hi),List.getElem?_replicate] at h
   split at h <;> cases h
  ·rw [List.getElem?_append_right (by simpa using hi),List.length_replicate,List.getElem?_map] at h
   cases e:js[i-k]? with
   |none=>rw [e] at h; cases h
   |some j=>
    rw [e] at h
    exact ⟨0x1,j,rfl,qP (Option.some.inj h)⟩
 have sg:∀(i j:Nat),k<=i->js[i-k]?=some j->(iT k js σ)[i]?=some ((σ[j]?).join):=fun i j hi e=>by
  unfold iT
  rw [List.getElem?_append_right (by simpa using hi),List.length_replicate,List.getElem?_map,e]
  rfl
 refine ⟨by unfold iT cG; simp,r.dom,r.apart,fun i x h=>?_,fun i j x y v w c h1 h2 h3 h4 o1 o2=>?_⟩
 ·obtain ⟨hi,j,ej,ed⟩:=at0 i x h
  obtain ⟨v,e1,e2,e3⟩:=r.at' j x ed
  exact ⟨v,by rw [sg i j hi ej,e1]; rfl,e2,e3⟩
 ·obtain ⟨hi,i',ei,di⟩:=at0 i _ h1
  obtain ⟨hj',j',ej,dj⟩:=at0 j _ h2
  rw [sg i i' hi ei] at h3
  rw [sg j j' hj' ej] at h4
  have:=r.one i' j' x y v w c di dj (qP (Option.some.inj h3)) (qP (Option.some.inj h4)) o1 o2
  subst this
  obtain ⟨l1,g1⟩:=List.getElem?_eq_some_iff.mp ei
  obtain ⟨l2,g2⟩:=List.getElem?_eq_some_iff.mp ej
  have:=(List.getElem_inj hj).mp (g1.trans g2.symm)
  lia
noncomputable def cK (sf:D->DS->Option DS) (gc:DS->M Bool) (fe:DS->M DV) (δ:DS):List D->Option (List D)
 |[]=>some []
 |d::r=>match sf d δ with
  |none=>none
  |some δ1=>match gc δ1 with
   |some (.ok false)=>cK sf gc fe δ r
   |some (.ok true)=>match fe δ1 with
    |some (.ok y)=>match vS y,cK sf gc fe δ r with
     |some z,some zs=>some (z::zs)
     |_,_=>none
    |_=>none
   |_=>none
noncomputable def cU (_:DS):M Bool:=rt true
noncomputable def bE (k:Nat) (js:List Nat) (fi:DS->M (List D)) (sf:D->DS->Option DS) (gc:DS->M Bool) (fe:DS->M DV) (δ:DS):M DV:=bd (fi δ) fun xs=>if xs.length<=1000000 then bd (op (cK sf gc fe (cG k js δ) xs)) fun ys=>rt (.new ys) else none
theorem fu {X:Cx}:PF X [] (As E0 cU):=fun pins s σ H Q I q=>E3 pins s σ H Q I (by
 obtain ⟨O,P,δ,r,rs,e,q⟩:=q
 cases e
 exact q H (aB.refl H))
theorem lL {sf:D->DS->Option DS} {gc:DS->M Bool} {fe:DS->M DV} {δ:DS}:∀{xs ys:List D},cK sf gc fe δ xs=some ys->ys.length<=xs.length
 |[],ys,h=>by cases h; simp
 |d::r,ys,h=>by
  unfold cK at h
  split at h
  ·cases h
  ·split at h
   ·have:=lL (xs:=r) h
    simp; lia
   ·split at h
    ·split at h
     ·rename_i z zs e1 e2
      cases h
      have:=lL (xs:=r) e2
      simp; lia
     ·cases h
    ·cases h
   ·cases h
section
variable {X:Cx} {E:XK} {k:Nat} {js:List Nat} {N':List Str} {scope:Scope} {elt tg iter:Expr} {ifs:List Expr} {pos:Pos} {fi:DS->M (List D)} {g:TG} {sf:D->DS->Option DS} {gc:DS->M Bool} {fe:DS->M DV}
theorem qk (hj:js.Nodup) (ht:Dh g sf) (hsub:∀δ d δ1,sf d (cG k js δ)=some δ1->Sub (cG k js δ) δ1) {σ:St} {H:Hp} {Q:VK} (q:tE E (bE k js fi sf gc fe) σ H Q):wm (tI E fi) k js g (As E0 gc) (tE E0 fe) σ H Q:=by
 obtain ⟨O,P,δ,r,rs,e,q⟩:=q
 rcases az e with ⟨xs,e1,e2⟩|⟨cx,e1,e2⟩
 ·refine ⟨O,P,δ,.ok xs,rs,e1,fun J H1 s1 it=>?_⟩
  split at e2
  ·rename_i hz
   obtain ⟨ys,e3,e4⟩:=cw e2
   cases e4
   have hlen:=lL e3
   refine ⟨fun i m σ' H' vs=>m=xs.length-i/\i<=xs.length/\aB H1 H'/\RS O P H' σ' (cG k js δ)/\∃ds es,RpL (P++O) H' ds vs/\cK sf gc fe (cG k js δ) (xs.drop i)=some es/\ys=ds++es,
    ⟨xs.length,0x4,Nat.zero_le _,aB.refl H1,(rs.same s1).block k js hj,[],ys,.nil,e3,rfl⟩,?_⟩
   rintro i m σ' H' vs ⟨rfl,hi,sH,rs',ds,es,l,ec,ey⟩
   have hvl:vs.length<=ys.length:=by rw [ey,<-l.length]; simp
   by_cases hlt:i<xs.length
   ·refine .inr ?_
    rw [List.drop_eq_getElem_cons hlt] at ec
    unfold cK at ec
    obtain ⟨go,yl⟩:=(it i P H' (.same sH)).1 xs[i] (by simp [hlt])
    split at ec
    ·cases ec
    ·rename_i δ1 e5
     refine ⟨go,Nat.lt_of_le_of_lt (Nat.le_trans hvl (Nat.le_trans hlen hz)) (by rw [sizeLine_eq]; decide),fun x H2 hy=>?_⟩
     obtain ⟨rfl,rx⟩:=yl x H2 hy
     refine ht O P H2 σ' _ δ1 _ x _ rs' rx e5 fun σ1 rs1=>?_
     have hsb:=hsub δ _ δ1 e5
     split at ec
     ·rename_i e6
      refine ⟨O,P,δ1,.ok false,rs1,e6,fun H3 s3=>?_⟩
      exact z5 ⟨xs.length-(i+1),0x1,rfl,hlt,sH.trans s3,(rs1.same s3).forget hsb,ds,es,l.kp (.same s3),ec,ey⟩
     ·rename_i e6
      refine ⟨O,P,δ1,.ok true,rs1,e6,fun H3 s3=>?_⟩
      refine yS ?_
      split at ec
      ·rename_i y e7
       split at ec
       ·rename_i z zs e8 e9
        cases ec
        refine ⟨O,P,δ1,.ok y,rs1.same s3,e7,fun v H4 s4 ry=>?_⟩
        refine ⟨xs.length-(i+1),0x1,rfl,hlt,sH.trans (s3.trans s4),(rs1.same (s3.trans s4)).forget hsb,ds++[z],zs,(l.kp (.same (s3.trans s4))).append (.cons (ry.data (rs1.same s3).dom e8) .nil),e9,?_⟩
        rw [ey,List.append_assoc]; rfl
       ·cases ec
      ·cases ec
     ·cases ec
   ·have hin:i=xs.length:=by lia
    subst hin
    rw [List.drop_length] at ec
    cases ec
    refine .inl ⟨(it _ P H' (.same sH)).2 (IJ _),Nat.le_trans hvl (fB (Nat.le_trans hlen hz)),fun p hp=>?_⟩
    rw [ey,List.append_nil] at q
    exact q _ _ ((s1.trans sH).trans (bH hp)) (RE.made (s1.trans sH) hp l)
  ·cases e2
 ·subst e2
  exact ⟨O,P,δ,.error cx,rs,e1,q⟩
theorem cO (S:CompFit X k js N' scope) (hj:js.Nodup) (hc:X.calm=true) (hi:DE X E tg iter fi) (ht:Dh g sf) (hsub:∀δ d δ1,sf d (cG k js δ)=some δ1->Sub (cG k js δ) δ1)
  (hg:∀C s₂ H₂ fp,PG (aP X N' scope C s₂ H₂ fp) tg g) (hf:∀C s₂ H₂ fp,PF (aP X N' scope C s₂ H₂ fp) ifs (As E0 gc)) (he:∀C s₂ H₂ fp,PX (aP X N' scope C s₂ H₂ fp) E0 elt fe)
  (hs:∀x,foldedSetIterable iter X.env x=pure x:=by intro _; rfl):PX X E (.ListComp elt [⟨tg,iter,ifs,0⟩] scope pos) (bE k js fi sf gc fe):=
 PE.mono (BI S hc hi hg hf he hs) fun σ H Q q=>qk hj ht hsub q
end
noncomputable def mR (N:List Str) (xs:List DV):DS:=xs.map some++List.replicate (N.length-xs.length) none
noncomputable def res:DV->DV
 |.own xs=>.new xs
 |.tpo p xs q=>.nwt p xs q
 |x=>x
@[simp] theorem zv (x:D):res (.d x)=.d x:=rfl
@[simp] theorem rQ (xs:List D):res (.own xs)=.new xs:=rfl
@[simp] theorem rX (xs:List D):res (.new xs)=.new xs:=rfl
@[simp] theorem vy (C:Addr) (fs:List (Str×D)):res (.ob C fs)=.ob C fs:=rfl
noncomputable def ze:Out->M DV
 |.rt x=>rt (res x)
 |.nx _=>rt (.d .none)
 |_=>none
@[simp] theorem rm (x:DV):ze (.rt x)=rt (res x):=rfl
@[simp] theorem qI (δ:DS):ze (.nx δ)=rt (.d .none):=rfl
noncomputable def fP (N:List Str) (F:DS->M Out) (xs:List DV):M DV:=bd (F (mR N xs)) ze
theorem RS.start {N:List Str} {O:List Addr} {H:Hp} {xs:List DV} {vs:List V} (dom:∀a,a∈O->∃o,H a=some o) (r:lx O [] H H xs vs):RS O [] H (L2.start N vs) (mR N xs):=by
 have hl:xs.length=vs.length:=Paired.length r
 have at0:∀(i:Nat) (x:DV),(mR N xs)[i]?=some (some x)->xs[i]?=some x:=fun i x h=>by
  unfold mR at h
  by_cases hi:i<xs.length
  ·rw [List.getElem?_append_left (by simpa using hi),List.getElem?_map] at h
   cases e:xs[i]? with
   |none=>rw [e] at h; cases h
   |some y=>rw [e] at h; cases h; rfl
  ·rw [List.getElem?_append_right (by simpa using hi),List.getElem?_replicate] at h
   split at h <;> cases h
 have gets:∀{xs:List DV} {vs:List V},lx O [] H H xs vs->∀(i:Nat) (x:DV),xs[i]?=some x->∃v,vs[i]?=some v/\RE O [] H H x v:=by
  intro xs vs r
  induction r with
  |nil=>intro i x h; simp at h
  |cons r1 _ ih=>
   intro i x h
   cases i with
   |zero=>simp at h; subst h; exact ⟨_,rfl,r1⟩
   |succ i=>simpa using ih i x (by simpa using h)
 have sv:∀(i:Nat) (v:V),vs[i]?=some v->(L2.start N vs)[i]?=some (some v):=fun i v h=>by
  have hi:i<vs.length:=(List.getElem?_eq_some_iff.mp h).1
  unfold L2.start
  rw [List.getElem?_append_left (by simpa using hi),List.getElem?_map,h]; rfl
 refine ⟨by unfold L2.start mR; simp [hl],fun a ha=>dom a ha,fun a ha=>(by cases ha),fun i x h=>?_,fun i j y z v w c h1 h2 h3 h4 o1 o2=>?_⟩
 ·obtain ⟨v,e1,e2⟩:=gets r i x (at0 i x h)
  refine ⟨v,sv i v e1,fun ys hx=>?_,e2⟩
  subst hx
  obtain ⟨a,us,_,hn,ha,_⟩:=e2
  rw [hn] at ha; cases ha
 ·obtain ⟨v',e1,e2⟩:=gets r i _ (at0 i _ h1)
  rw [sv i v' e1] at h3
  cases h3
  cases o1.new e2
theorem RE.out {O P':List Addr} {H H1 H':Hp} {x:DV} {v:V} (k:Kp [] H P' H1) (s:aB H1 H') (r:RE O P' H1 H' x v):aB H H'/\RE O [] H H' (res x) v:=by
 have sH:aB H H':=fun b o e=>s b o (k.keep b o 0x4 e)
 have sub:∀a,a∈([]:List Addr)++O->a∈P'++O:=fun a ha=>IH _ ha
 refine ⟨sH,?_⟩
 cases x with
 |d x=>exact Rp.kp (.sub sub) r
 |ob C fs=>exact AW.kp (.sub sub) r
 |tbl kvs=>exact AS.kp (.sub sub) r
 |ex q=>exact r
 |tpo p xs q=>
  obtain ⟨t,a,ps,vs,qs,e,hz,ht,hP,ha,l1,l2,l3⟩:=r
  have sb:∀b,b∈a::([]++O)->b∈P'++O:=fun b hb=>by
   rcases List.mem_cons.mp hb with z|z
   ·exact II _ (z▸hP)
   ·exact sub b z
  refine ⟨t,a,ps,vs,qs,e,fun h=>hz (sb t h),ht,?_,ha,l1.kp (.sub sb),l2.kp (.sub sb),l3.kp (.sub sb)⟩
  rcases k.new a hP with z|z
  ·cases z
  ·exact z
 |nwt p xs q=>
  obtain ⟨t,a,ps,vs,qs,e,hz,ht,hn,ha,l1,l2,l3⟩:=r
  have sb:∀b,b∈a::([]++O)->b∈a::(P'++O):=fun b hb=>by
   rcases List.mem_cons.mp hb with z|z
   ·exact z▸IF
   ·exact IE _ (sub b z)
  refine ⟨t,a,ps,vs,qs,e,fun h=>hz (sb t h),ht,?_,ha,l1.kp (.sub sb),l2.kp (.sub sb),l3.kp (.sub sb)⟩
  cases q:H a with
  |none=>rfl
  |some o=>rw [k.keep a o 0x4 q] at hn; cases hn
 |own xs=>
  obtain ⟨a,vs,e,hP,ha,l⟩:=r
  refine ⟨a,vs,e,?_,ha,l.kp (.sub fun b hb=>?_)⟩
  ·rcases k.new a hP with z|z
   ·cases z
   ·exact z
  ·rcases List.mem_cons.mp hb with z|z
   ·exact II _ (z▸hP)
   ·exact sub b z
 |new xs=>
  obtain ⟨a,vs,e,hn,ha,l⟩:=r
  refine ⟨a,vs,e,?_,ha,l.kp (.sub fun b hb=>?_)⟩
  ·cases q:H a with
   |none=>rfl
   |some o=>rw [k.keep a o 0x4 q] at hn; cases hn
  ·rcases List.mem_cons.mp hb with z|z
   ·exact z▸IF
   ·exact IE _ (sub b z)
 |scr K ns=>
  obtain ⟨a,e,hz⟩:=r
  exact ⟨a,e,hz.imp (fun z=>⟨fun h=>z.1 (sub a h),z.2⟩) fun z=>z⟩
section
variable {P:Program} {w:World} {K:IU} {mg:Str->Option Value} {base:Heap}
theorem oW {x qual:Str} {st:Stmt} {f:Addr} {fd:FuncData} {N ps:List Str} {k n:Nat} {F:DS->M Out} (Fu:Fun K x qual st f fd) (S:FnScope N ps (ar st)) (hn:ps.length=n)
  (body:∀(cdv:Value) (A:Around) (outer:List Env) (s:Shared) (H:Hp) (E:XK),Room k (A.deeper (envOfC qual (ar st) s.heap.objs.size f cdv)) ->
   wb (eX wY P w K mg base N qual (ar st) f cdv A outer s H E).nox E0 (eE st) F):FnOk P w K mg base wY (k+1) f fd ps (DX n (fP N F)):=by
 refine Fu.ok S (fun vs H Q E h=>h.1.trans hn.symm) fun cdv A outer s H vs Q E hr hsp=>⟨_,body cdv A outer s H E hr,?_⟩
 obtain ⟨_,O,xs,x,dom,rx,e,q⟩:=hsp
 rcases az e with ⟨o,e1,e2⟩|⟨c,_,e2⟩
 ·refine ⟨O,[],mR N xs,.ok o,RS.start dom rx,e1,?_⟩
  cases o with
  |rt y=>
   cases e2
   intro v H1 H' P' k' s' _ _ ry
   obtain ⟨sH,ry'⟩:=ry.out k' s'
   exact q v H' sH ry'
  |nx δ=>
   cases e2
   intro σ' H' P' k' _
   exact q .non H' (fun b o e=>k'.keep b o 0x4 e) .none
  |bk δ=>cases e2
  |ct δ=>cases e2
 ·cases e2
end
section
variable {X:Cx} {E:XK} {o e:Expr} {fo fe:DS->M DV}
noncomputable def oh:List D->Option (List Bool)
 |[]=>some []
 |.bool b::r=>(oh r).map (b::·)
 |_::_=>none
theorem qA:∀{xs:List D} {bs:List Bool},oh xs=some bs->xs=bs.map PyData.bool
 |[],bs,h=>by cases h; rfl
 |x::r,bs,h=>by
  cases x with
  |bool b=>
   unfold oh at h
   cases e:oh r with
   |none=>rw [e] at h; cases h
   |some cs=>rw [e] at h; cases h; rw [qA e]; rfl
  |_=>cases h
theorem xp (bs:List Bool):oh (bs.map PyData.bool)=some bs:=by
 induction bs with
 |nil=>rfl
 |cons b r ih=>rw [List.map_cons,oh,ih]; rfl
noncomputable def mJ (xs:List DV):M DV:=match xs with
 |[x]=>bd (op (ju x)) fun ys=>bd (op (oh ys)) fun bs=>rt (.d (.bool (bs.all id)))
 |_=>none
theorem ny {Z:List Addr} {H:Hp}:∀{bs:List Bool} {vs:List V} {us:List Value},RpL Z H (bs.map PyData.bool) vs->aQ vs us->us=bs.map Value.bool
 |[],_,_,.nil,.nil=>rfl
 |b::r,_,_,.cons p l,.cons q t=>by
  cases p
  cases q
  rw [List.map_cons,ny l t]
theorem xy (bs:List Bool):((List.range bs.length).all fun i=>(bs[i]?).getD true)=bs.all id:=by
 induction bs with
 |nil=>rfl
 |cons b r ih=>
  rw [List.length_cons,List.range_succ_eq_map,List.all_cons,List.all_map,List.all_cons]
  have:(r.all id)=((List.range r.length).all fun i=>(r[i]?).getD true):=ih.symm
  rw [this]
  congr 1
theorem oM (hc:X.calm=true):dc X E (.builtin "all") mJ:=fun pins s σ O P H₀ H xs vs us r Q I hd hs rx rv e q=>by
 unfold mJ at e
 split at e
 ·obtain ⟨ys,e1,e2⟩:=cw e
  obtain ⟨bs,e3,e4⟩:=cw e2
  cases e4
  cases rx with
  |cons r1 rr=>
   cases rr
   obtain ⟨a,ws,rfl,ha,l⟩:=r1.list e1
   cases rv with
   |cons q1 q2=>
    cases q2
    cases q1
    have hys:=qA e3
    subst hys
    obtain ⟨its,ri,pl,hz⟩:=I.list (gm.of ha)
    have hits:=ny l ri
    have hlt:a<s.heap.objs.size:=by obtain ⟨_,e',_⟩:=pl.isList; exact IM e'
    have hlist:=pl.isList
    refine call_all_walk (wpAny_pyIter_list hlist ?_)
    refine ⟨s.heap.objs.size,[s.heap.objs.size,a],[s.heap.objs.size],its.toArray.size,_,_,fun i=>(bs[i]?).getD true,rfl,Walks.list (A:=X.A.in1) (I.ok.hd hc) _ a (Nat.ne_of_lt hlt) its.toArray,
     ⟨⟨_,Heap.get?_push_size _ rfl,rfl,rfl⟩,hlist.push _⟩,fun i v s' Q' E' hP hQ=>?_,fun h' tk hk=>?_⟩
    ·have hv:(bs[i]?).map Value.bool=some v:=by
      have hP':its.toArray[i]?=some v:=hP
      rw [<-hP',hits]; simp
     cases eb:bs[i]? with
     |none=>rw [eb] at hv; cases hv
     |some b=>
      rw [eb] at hv
      cases hv
      simp only [eb,Option.getD_some] at hQ
      exact wpAny_truthy_bool hQ
    ·have hn:its.toArray.size=bs.length:=by rw [hits]; simp
     rw [hn,xy]
     refine ⟨.bl _,H,I.kept (t':=tk) fun b ob eb=>hk b ob (fun hm=>?_) (IG _ eb),rfl,q _ H (aB.refl H) (.bool _)⟩
     rw [List.mem_singleton.mp hm] at eb
     exact Nat.lt_irrefl _ (IM eb)
 ·cases e
noncomputable def qB (x y:DV):M DV:=match ju x,kZ y with
 |some xs,some d=>if d.depth<=60 then rt (.d (.int (xs.countP fun z=>PyData.eqv z d))) else none
 |_,_=>none
noncomputable def hX (fo fe:DS->M DV) (δ:DS):M DV:=bd (fo δ) fun x=>bd (op (ju x)) fun _=>bd (fe δ) fun y=>qB x y
noncomputable def Ho (E:XK) (x:V) (vs:List V) (H:Hp) (Q:VK):Prop:=∃O P H₀ dx dy v r,vs=[v]/\RE O P H₀ H dx x/\RE O P H₀ H dy v/\qB dx dy=some r/\Fn E O P H₀ H Q r
theorem zF (hu:X.A.units+64<cLine):HX X "list.count" (Ho E):=fun pins s σ H x xs v us Q I rx rs h=>by
 obtain ⟨O,P,H₀,dx,dy,w,r,rfl,r1,r2,e,q⟩:=h
 obtain ⟨u,rfl,ru⟩:=oE rs
 unfold qB at e
 split at e
 ·rename_i ys d h1 h2
  split at e
  ·rename_i hdp
   cases e
   obtain ⟨a,ws,rfl,ha,l⟩:=r1.list h1
   cases rx
   obtain ⟨⟨as,ra⟩,la⟩:=r2.reads I ru h2
   obtain ⟨its,ri,pl,hz⟩:=I.list (gm.of ha)
   obtain ⟨bs,rb⟩:=RpL.reads I l ri
   obtain ⟨⟨cls,dd,data,sl⟩,ho,hc,n,hd⟩:=pl.isList
   simp only at hc hd
   subst hc hd
   refine call_meets PySem.F.slot_list_count ⟨_,ho,rfl⟩ PySem.F.entry_list_count (PySem.F.args_list_count_2 _ _) (SeqAt.list_countAt a its.toArray n dd sl u fun y=>PyData.eqv (SeqAt.readOf s.heap y) d)
    ⟨ho,SeqAt.items_eqAt (vs:=its.toArray) rb ra l.lay la (by have:=Nat.min_le_right (PyData.depthAll ys) d.depth; lia),?_⟩
   have hcount:its.toArray.toList.countP (fun y=>PyData.eqv (SeqAt.readOf s.heap y) d)=ys.countP fun z=>PyData.eqv z d:=by
    rw [<-SeqAt.readsAll_map ys _ _ l.lay rb,List.countP_map]; rfl
   rw [hcount]
   exact ⟨.int _,H,I.tok _,⟨_,rfl⟩,q _ H (aB.refl H) (.int _)⟩
  ·cases e
 ·cases e
theorem gR {apos cpos:Pos} (hu:X.A.units+64<cLine) (ho:PX X E o fo) (he:PX X E e fe)
  (hbase:attributeBase o "count" X.env (eval o X.env)=eval o X.env:=by rfl)
  (hfew:((backTo cpos (starEach [e] X.env)).all (fun x=>!x.1)&&(backToKw cpos (keywordEach [] X.env)).all (fun x=>x.1.isSome)
   && decide ([e].length+([]:List Keyword).length+(if ([]:List Keyword).isEmpty then 0 else 1)<30))=true:=by rfl)
  (hline:(apos.endLine==cpos.line)=true:=by rfl) (hs:starEach [e] X.env=(false,eval e X.env)::starEach [] X.env:=by rfl) (hplain:(backTo cpos (starEach [] X.env)).any (·.1)=false:=by rfl) :
  PX X E (.Call (.Attribute o "count" apos) [e] [] cpos) (hX fo fe):=
 PE.mono (tG PySem.F.plainAttrs_list PySem.F.slot_list_count PySem.F.type_list_count (zF (E:=E) hu) ho (iv he jO hs) hbase hfew hline hs hplain) fun σ H Q q=>
  l8 (g:=fun δ x=>bd (op (ju x)) fun _=>bd (fe δ) fun y=>qB x y) q fun O P δ x r v H1 rs rs1 s1 rx e q=>by
   obtain ⟨ys,h1,e⟩:=cw e
   obtain ⟨a,ws,rfl,ha,_⟩:=rx.list h1
   refine ⟨.inl ⟨rfl,_,gm.of ha⟩,?_⟩
   rcases az e with ⟨y,e1,e2⟩|⟨c,e1,e2⟩
   ·exact ⟨O,P,δ,.ok y,rs1,e1,fun u H2 s2 ry=>⟨O,P,H,x,y,u,r,rfl,rx.on s2,ry.from s1,e2,q.on s2⟩⟩
   ·subst e2
    exact ⟨O,P,δ,.error c,rs1,e1,q⟩
end
open PySem.W (KasT kas_asc kas_desc kas_tail3 kas_descPart kas_count kas_place kas_bin kas_sort kas_rev)
noncomputable abbrev ll:=HT.lexLt
theorem cX:∀a:List Int,ll a a=false
 |[]=>rfl
 |x::r=>by
  show HT.lexLt (x::r) (x::r)=false
  rw [HT.lexLt_cons,if_pos rfl]
  exact cX r
theorem iS:∀{a b:List Int},ll a b=false->ll b a=false->a=b
 |[],[],_,_=>rfl
 |[],_::_,h,_=>by cases h
 |_::_,[],_,h=>by cases h
 |x::xs,y::ys,h1,h2=>by
  have e1:HT.lexLt (x::xs) (y::ys)=false:=h1
  have e2:HT.lexLt (y::ys) (x::xs)=false:=h2
  rw [HT.lexLt_cons] at e1 e2
  by_cases h:x=y
  ·subst h
   rw [if_pos rfl] at e1 e2
   rw [iS e1 e2]
  ·rw [if_neg h] at e1
   rw [if_neg (Ne.symm h)] at e2
   have:=of_decide_eq_false e1
   have:=of_decide_eq_false e2
   lia
theorem kQ:∀{a b c:List Int},ll a b=true->ll b c=true->ll a c=true
 |[],[],_,h,_=>by cases h
 |[],_::_,[],_,h=>by cases h
 |[],_::_,_::_,_,_=>rfl
 |_::_,[],_,h,_=>by cases h
 |_::_,_::_,[],_,h=>by cases h
 |x::xs,y::ys,z::zs,h1,h2=>by
  have e1:HT.lexLt (x::xs) (y::ys)=true:=h1
  have e2:HT.lexLt (y::ys) (z::zs)=true:=h2
  show HT.lexLt (x::xs) (z::zs)=true
  rw [HT.lexLt_cons] at e1 e2 ⊢
  by_cases h:x=y
  ·subst h
   rw [if_pos rfl] at e1
   by_cases h':x=z
   ·subst h'
    rw [if_pos rfl] at e2 ⊢
    exact kQ e1 e2
   ·rw [if_neg h'] at e2 ⊢
    exact e2
  ·rw [if_neg h] at e1
   have l1:=of_decide_eq_true e1
   by_cases h':y=z
   ·subst h'
    rw [if_neg h]; exact e1
   ·rw [if_neg h'] at e2
    have l2:=of_decide_eq_true e2
    rw [if_neg 0x1]
    exact decide_eq_true 0x1
theorem fv {a b:List Int} (h:ll a b=true):ll b a=false:=by
 cases e:ll b a with
 |false=>rfl
 |true=>
  have:=kQ h e
  rw [cX] at this; cases this
theorem ee {a b c:List Int} (h1:ll b a=false) (h2:ll c b=false):ll c a=false:=by
 cases e:ll c a with
 |false=>rfl
 |true=>
  cases e2:ll a b with
  |true=>rw [kQ e e2] at h2; cases h2
  |false=>
   have:=iS e2 h1
   subst this
   rw [e] at h2; cases h2
theorem Am {a b c:List Int} (h1:ll a b=true) (h2:ll c b=false):ll a c=true:=by
 cases e2:ll b c with
 |true=>exact kQ h1 e2
 |false=>
  have:=iS e2 h2
  subst this; exact h1
section
variable (key:Nat->List Int)
variable {key}
end
open PySem.W (KasT kas_asc kas_desc kas_tail3 kas_descPart kas_count kas_place kas_bin kas_sort kas_rev kas_ask kas_item)
noncomputable def xU {α:Type} (n:Nat) (R:α->Prop):KasT α->Prop
 |.ret a=>R a
 |.ask i j k=>i<n/\j<n/\∀b,xU n R (k b)
theorem xU.bind {α β:Type} {n:Nat} {R:α->Prop} {R':β->Prop} {f:α->KasT β}:∀{t:KasT α},xU n R t->(∀a,R a->xU n R' (f a))->xU n R' (t.bind f)
 |.ret a,h,hf=>hf a h
 |.ask i j k,h,hf=>⟨h.1,h.2.1,fun b=>xU.bind (h.2.2 b) hf⟩
noncomputable def Ew (n:Nat) (p:Array Nat):Prop:=1<=n/\∀x,x∈p->x<n
theorem Ew.perm {n:Nat} {p q:Array Nat} (h:Ew n p) (hp:q.Perm p):Ew n q:=⟨h.1,fun x hx=>h.2 x (hp.mem_iff.mp hx)⟩
section
variable {prog:Program} {w:World} {A:Around} {E:Value->Shared->Prop} {s:Shared}
end
noncomputable def kT:D->Option (List Int)
 |.tuple xs=>go xs
 |_=>none
where go:List D->Option (List Int)
 |[]=>some []
 |.int i::r=>(go r).map (i::·)
 |_::_=>none
theorem Dl:∀{xs:List D} {ks:List Int},kT.go xs=some ks->xs=ks.map PyData.int
 |[],ks,h=>by cases h; rfl
 |x::r,ks,h=>by
  cases x with
  |int i=>
   unfold kT.go at h
   cases e:kT.go r with
   |none=>rw [e] at h; cases h
   |some cs=>rw [e] at h; cases h; rw [Dl e]; rfl
  |_=>cases h
theorem jI {d:D} {ks:List Int} (h:kT d=some ks):d=.tuple (ks.map PyData.int):=by
 unfold kT at h
 split at h
 ·rw [Dl h]
 ·cases h
theorem ni:∀(ks ms:List Int),cL true (ks.map PyData.int) (ms.map PyData.int)=some (ll ks ms)
 |[],[]=>rfl
 |[],_::_=>rfl
 |_::_,[]=>rfl
 |x::xs,y::ys=>by
  rw [List.map_cons,List.map_cons,cL]
  show (if (x==y)=true then _ else _)=some (HT.lexLt (x::xs) (y::ys))
  rw [HT.lexLt_cons]
  by_cases h:x=y
  ·subst h
   rw [if_pos (beq_self_eq_true _),if_pos rfl]
   exact ni xs ys
  ·rw [if_neg (by simpa using h),if_neg h]
   rfl
theorem oJ:∀(ks ms:List Int),PyData.eqvAll (ks.map PyData.int) (ms.map PyData.int)=decide (ks=ms)
 |[],[]=>rfl
 |[],_::_=>rfl
 |_::_,[]=>rfl
 |x::xs,y::ys=>by
  rw [List.map_cons,List.map_cons,PyData.eqvAll,oJ xs ys]
  show ((x==y)&&decide (xs=ys))=_
  by_cases h:x=y
  ·subst h; simp
  ·have:(x==y)=false:=by simpa using h
   rw [this]; simp [h]
noncomputable def ins (d:D):List D->List D
 |[]=>[d]
 |e::r=>if ll (kOf d) (kOf e)=true then d::e::r else e::ins d r
where kOf (d:D):List Int:=(kT d).getD []
noncomputable def uf:List D->List D
 |[]=>[]
 |d::r=>ins d (uf r)
noncomputable abbrev kO:=ins.kOf
theorem oO (d:D):∀xs:List D,(ins d xs).Perm (d::xs)
 |[]=>.refl _
 |e::r=>by
  unfold ins
  split
  ·exact .refl _
  ·exact ((oO d r).cons e).trans (.swap d e r)
theorem dq:∀xs:List D,(uf xs).Perm xs
 |[]=>.refl _
 |d::r=>(oO d (uf r)).trans ((dq r).cons d)
noncomputable def Ord (xs:List D):Prop:=xs.Pairwise fun a b=>ll (kO b) (kO a)=false
theorem vY (d:D):∀{xs:List D},Ord xs->Ord (ins d xs)
 |[],_=>by unfold ins Ord; simp
 |e::r,h=>by
  have h':=List.pairwise_cons.mp h
  unfold ins
  split
  ·rename_i c
   refine List.pairwise_cons.mpr ⟨fun x hx=>?_,h⟩
   rcases List.mem_cons.mp hx with q|q
   ·subst q; exact fv c
   ·exact ee (fv c) (h'.1 x q)
  ·rename_i c
   refine List.pairwise_cons.mpr ⟨fun x hx=>?_,vY d h'.2⟩
   rcases List.mem_cons.mp ((oO d r).mem_iff.mp hx) with q|q
   ·subst q; simpa using c
   ·exact h'.1 x q
theorem ki:∀xs:List D,Ord (uf xs)
 |[]=>List.Pairwise.nil
 |d::r=>vY d (ki r)
theorem mX:∀{xs ys:List D},xs.Perm ys->Ord xs->Ord ys->(∀x∈xs,(kT x).isSome)->xs=ys
 |[],ys,hp,_,_,_=>by rw [List.nil_perm.mp hp]
 |x::xs,[],hp,_,_,_=>by have:=hp.length_eq; simp at this
 |x::xs,y::ys,hp,h1,h2,hk=>by
  have p1:=List.pairwise_cons.mp h1
  have p2:=List.pairwise_cons.mp h2
  have exy:x=y:=by
   by_cases e:x=y
   ·exact e
   ·have hx:x∈ys:=by
     rcases List.mem_cons.mp (hp.mem_iff.mp IF) with q|q
     ·exact absurd q e
     ·exact q
    have hy:y∈xs:=by
     rcases List.mem_cons.mp (hp.mem_iff.mpr IF) with q|q
     ·exact absurd q.symm e
     ·exact q
    have a1:=p1.1 y hy
    have a2:=p2.1 x hx
    have ek:kO x=kO y:=iS a2 a1
    obtain ⟨k1,e1⟩:=Option.isSome_iff_exists.mp (hk x IF)
    obtain ⟨k2,e2⟩:=Option.isSome_iff_exists.mp (hk y (IE _ hy))
    have q1:kO x=k1:=by show (kT x).getD []=k1; rw [e1]; rfl
    have q2:kO y=k2:=by show (kT y).getD []=k2; rw [e2]; rfl
    rw [jI e1,jI e2,<-q1,<-q2,ek]
  subst exy
  rw [mX (List.Perm.cons_inv hp) p1.2 p2.2 fun z hz=>hk z (IE _ hz)]
noncomputable def vi (xs:List DV):M DV:=match xs with
 |[x]=>bd (op (ju x)) fun ys=>if ys.length<64/\ys.all (fun y=>(kT y).isSome&&decide ((kO y).length≠0))=true then rt (.new (uf ys)) else none
 |_=>none
theorem RpL.pick {Z:List Addr} {H:Hp} {ds:List D} {vs:List V} (l:RpL Z H ds vs):∀(is:List Nat),(∀i∈is,i<ds.length)->RpL Z H (is.map fun i=>ds.getD i .none) (is.map fun i=>vs.getD i .non)
 |[],_=>.nil
 |i::r,h=>by
  have hi:=h i IF
  obtain ⟨v,e,rv⟩:=l.get (i:=i) (d:=ds[i]) (by simp [hi])
  refine .cons ?_ (RpL.pick l r fun j hj=>h j (IE _ hj))
  have e1:ds.getD i .none=ds[i]:=by simp [hi]
  have e2:vs.getD i .non=v:=by simp [List.getD_eq_getElem?_getD,e]
  show Rp Z H (ds.getD i .none) (vs.getD i .non)
  rw [e1,e2]; exact rv
theorem jo {vs:List V} {us:List Value} (r:aQ vs us):∀(is:List Nat),(∀i∈is,i<vs.length)->aQ (is.map fun i=>vs.getD i .non) (is.map fun i=>us.getD i Value.none)
 |[],_=>.nil
 |i::rs,h=>by
  have hi:=h i IF
  obtain ⟨u,e,ru⟩:=r.get (i:=i) (x:=vs[i]) (by simp [hi])
  refine .cons ?_ (jo r rs fun j hj=>h j (IE _ hj))
  have e1:vs.getD i .non=vs[i]:=by simp [hi]
  have e2:us.getD i Value.none=u:=by simp [List.getD_eq_getElem?_getD,e]
  show bM (vs.getD i .non) (us.getD i Value.none)
  rw [e1,e2]; exact ru
theorem q0 {h:Heap}:∀(vs:List Value),(∀v∈vs,∃b o its n i t,v=.ref b/\h.get? b=some o/\o.cls=.type "tuple" /\ o.data=.seq its n/\its[0]?=some (.int i t))->∃fs,PySem.W.KatTups h vs fs/\fs.length=vs.length/\∀f∈fs,∃i t,f=Value.int i t
 |[],_=>⟨[],PySem.W.KatTups.nil,rfl,fun _ hf=>nomatch hf⟩
 |v::r,hv=>by
  obtain ⟨b,o,its,n,i,t,rfl,eo,ec,ed,e0⟩:=hv v IF
  obtain ⟨fs,h1,h2,h3⟩:=q0 r fun u hu=>hv u (IE _ hu)
  refine ⟨.int i t::fs,PySem.W.KatTups.cons eo ec ed e0 h1,by simp [h2],fun f hf=>?_⟩
  rcases List.mem_cons.mp hf with e|e
  ·exact ⟨i,t,e⟩
  ·exact h3 f e
theorem tF {prog:Program} {w:World} {A:Around} {s:Shared} {Q:Bool->Shared->Prop} {X Y:Nat}:∀{vs ws:List Value} {ks ms:List Int} (i:Nat),IntsAre vs ks->IntsAre ws ms->vs.length+Y=ws.length+X->Q (ll ks ms) s ->
  PySem.W.KatLex prog w A true (decide (X<Y)) Q (vs.zip ws) i s
 |_,_,_,_,i,.nil,.nil,hl,h=>by
  have:decide (X<Y)=false:=decide_eq_false (by simp at hl; lia)
  rw [this]; exact h
 |_,_,_,_,i,.nil,.cons _ _ _,hl,h=>by
  have:decide (X<Y)=true:=decide_eq_true (by simp at hl; lia)
  rw [this]; exact h
 |_,_,_,_,i,.cons _ _ _,.nil,hl,h=>by
  have:decide (X<Y)=false:=decide_eq_false (by simp at hl; lia)
  rw [this]; exact h
 |_,_,x::xs,y::ys,i,.cons _ t h1,.cons _ u h2,hl,h=>by
  have h':Q (HT.lexLt (x::xs) (y::ys)) s:=h
  rw [HT.lexLt_cons] at h'
  refine PySem.W.kat_cons (SeqAt.EqAt.int_int x t y u prog w _ _ ?_)
  by_cases e:x=y
  ·subst e
   rw [if_pos rfl] at h'
   rw [beq_self_eq_true]
   exact PySem.W.kat_yes (tF (i+1) h1 h2 (by simp at hl; lia) h')
  ·rw [if_neg e] at h'
   rw [show (x==y)=false by simpa using e]
   refine PySem.W.kat_no ?_
   cases hb:(true&&i==0) with
   |true=>exact oneLt_int h'
   |false=>exact PySem.W.kat_one _ _ (PyProof.Rows.lt_int h')
section
variable {X:Cx} {E:XK}
theorem iq {α:Type} (d:α) (xs:List α):(List.range xs.length).map (fun i=>xs.getD i d)=xs:=by
 apply List.ext_getElem
 ·simp
 ·intro i h1 h2
  simp at h1
  simp [h1]
end
noncomputable def aY:=yh uy AM
noncomputable def eR:=yh DD yF
noncomputable def fJ:=yh HU (gC true)
noncomputable def gz:=yh GU (gC false)
section
variable {X:Cx} {E:XK}
theorem bU:gq X E (binaryOp .Add) aY:=DJ.or DZ
theorem fW:gq X E (binaryOp .Mult) eR:=EX.or Fs
theorem i5 (hu:X.A.units+64<cLine):gq X E (compareOp .Lt) fJ:=Ga.or (EO hu)
theorem dZ (hu:X.A.units+64<cLine):gq X E (compareOp .LtE) gz:=GJ.or (EY hu)
end
@[simp] theorem cC (i j:Int):aY (.d (.int i)) (.d (.int j))=rt (.d (.int (i+j))):=rfl
@[simp] theorem nP (i j:Int):uy (.d (.int i)) (.d (.int j))=rt (.d (.int (i+j))):=rfl
@[simp] theorem b9 (i j:Int):gSub (.d (.int i)) (.d (.int j))=rt (.d (.int (i-j))):=rfl
@[simp] theorem ro (i j:Int):HU (.d (.int i)) (.d (.int j))=rt (.d (.bool (decide (i<j)))):=rfl
@[simp] theorem rW (i j:Int):GU (.d (.int i)) (.d (.int j))=rt (.d (.bool (decide (i<=j)))):=rfl
@[simp] theorem gw (i j:Int):ph (.d (.int i)) (.d (.int j))=rt (.d (.bool (decide (j<i)))):=rfl
@[simp] theorem nt (i j:Int):Hu (.d (.int i)) (.d (.int j))=rt (.d (.bool (decide (j<=i)))):=rfl
@[simp] theorem dY (i j:Int):fJ (.d (.int i)) (.d (.int j))=rt (.d (.bool (decide (i<j)))):=rfl
@[simp] theorem i7 (i j:Int):gz (.d (.int i)) (.d (.int j))=rt (.d (.bool (decide (i<=j)))):=rfl
theorem cF {i j:Int} (h:0<j):fM (.d (.int i)) (.d (.int j))=rt (.d (.int (i % j))):=by
 unfold fM gI Ey
 simp [h]
theorem iR {i j:Int} (h:0<j) (h':j<1073741824):lO (.d (.int i)) (.d (.int j))=rt (.d (.int (i / j))):=by
 unfold lO gI Fq
 simp [h,h']
theorem eT {i j:Int} (h:sQ i j=true):eR (.d (.int i)) (.d (.int j))=rt (.d (.int (i*j))):=by
 unfold eR yh DD gI
 simp [h,rt]
theorem cY:bootBuiltins "len" = some (.builtin "len"):=by decide +kernel
theorem nQ:bootBuiltins "all" = some (.builtin "all"):=by decide +kernel
theorem zN:bootBuiltins "min" = some (.builtin "min"):=by decide +kernel
theorem Ee:bootBuiltins "max" = some (.builtin "max"):=by decide +kernel
theorem eW:bootBuiltins "sorted" = some (.builtin "sorted"):=by decide +kernel
theorem jJ:bootBuiltins "isinstance" = some (.builtin "isinstance"):=by decide +kernel
theorem zp:bootBuiltins "int" = some (.type "int"):=by decide +kernel
theorem B0:bootBuiltins "bool" = some (.type "bool"):=by decide +kernel
theorem mZ:bootBuiltins "list" = some (.type "list"):=by decide +kernel
theorem sS:bootBuiltins "tuple" = some (.type "tuple"):=by decide +kernel
structure Has (P:Program) (w:World) (K:IU) (mg:Str->Option Value) (base:Heap) (k:Nat) (x:Str) (n:Nat) (fm:List DV->M DV):Prop where
 ex:∃fn fd ps,FnOk P w K mg base wY k fn fd ps (DX n fm)/\mg x=some (.ref fn)/\PySem.W.keepIn K (.ref fn)=true/\ix K fd ps []
section
variable {X:Cx} {E:XK} {e:Expr} {es:List Expr} {pos p:Pos} {fa:DS->M DV} {fr:DS->M (List DV)}
theorem aM {k n:Nat} {x:Str} {fm:List DV->M DV} (F:Has X.prog X.w X.K X.mg X.base k x n fm) (hr:Room k X.A) (ha:wM X E (e::es) fr) (hg:Gl X x:=by rfl) (hdb:(x==("__debug__" : Str))=false:=by decide)
  (he:starEach (e::es) X.env=(false,eval e X.env)::starEach es X.env:=by rfl) (hpl:(backTo pos (starEach es X.env)).any (·.1)=false:=by rfl) :
  PX X E (.Call (.Name x p) (e::es) [] pos) (aG (aw n fm) fr):=by
 obtain ⟨fn,fd,ps,h1,h2,h3,h4⟩:=F.ex
 exact Bw h1 hr h2 h3 h4 ha hg hdb he hpl
noncomputable def Dv:D->Option String
 |.none=>some "NoneType"
 |.bool _=>some "bool"
 |.int _=>some "int"
 |.str _=>some "str"
 |.tuple _=>some "tuple"
 |.list _=>some "list"
 |_=>none
noncomputable def Fw (T t:String):Bool:=if T = "int" then t = "int" || t = "bool" else t=T
noncomputable def FY (t T:String):Option Bool:=if (Value.type t==Value.type T)=true then some true else if PySem.W.kitMeta T=true then (fastBuiltinMro t).map (·.contains (.type T)) else none
theorem Be (K:IU) (t T:String):PySem.W.kitOne K (.type t) (.type T)=FY t T:=rfl
noncomputable def Hl:List String:=["NoneType", "bool", "int", "str", "tuple", "list"]
theorem BW:∀T∈["int", "bool", "str", "tuple", "list"],∀t∈Hl,FY t T=some (Fw T t):=by decide +kernel
theorem EK {d:D} {t:String} (h:Dv d=some t):t∈Hl:=by
 cases d <;> simp only [Dv] at h <;> first|(cases h; decide)|cases h
noncomputable def Dt (T:String) (fa:DS->M DV) (δ:DS):M DV:=bd (fa δ) fun x=>bd (op ((kZ x).bind Dv)) fun t=>rt (.d (.bool (Fw T t)))
theorem DA {Z:List Addr} {H:Hp} {K:IU} {d:D} {v:V} {t:String} (r:Rp Z H d v) (h:Dv d=some t):TyOf K H v (.type t):=by
 cases r with
 |none=>cases h; exact .non
 |bool b=>cases h; exact .bl b
 |int i=>cases h; exact .int i
 |str x _=>cases h; exact .str x
 |tup _ ha _=>cases h; exact .tup ha
 |lst _ ha _=>cases h; exact .lst ha
theorem RE.ty {O P:List Addr} {H₀ H:Hp} {K:IU} {x:DV} {v:V} {t:String} (r:RE O P H₀ H x v) (h:(kZ x).bind Dv=some t):TyOf K H v (.type t):=by
 cases x with
 |d y=>exact DA (show Rp (P++O) H y v from r) h
 |ob C fs=>cases h
 |tbl kvs=>cases h
 |ex q=>cases h
 |tpo p xs q=>cases h
 |nwt p xs q=>cases h
 |own xs=>
  obtain ⟨a,vs,rfl,_,ha,_⟩:=r
  cases h; exact .lst ha
 |new xs=>
  obtain ⟨a,vs,rfl,_,ha,_⟩:=r
  cases h; exact .lst ha
 |scr K ns=>cases h
theorem vK {T:String} {y:Str} {p2:Pos} (hT:T∈["int", "bool", "str", "tuple", "list"]) (hm:X.mg "isinstance" = none) (hmy:X.mg y=none) (hv:bootBuiltins y=some (.type T)) (ha:PX X E e fa) (hg:Gl X "isinstance" :=by rfl) (hgy:Gl X y:=by rfl) (hn:y ≠ "__name__" :=by decide) (hdb:(y==("__debug__" : Str))=false:=by decide)
  (he:starEach [e,.Name y p2] X.env=(false,eval e X.env)::starEach [.Name y p2] X.env:=by rfl) (hpl:(backTo pos (starEach [.Name y p2] X.env)).any (·.1)=false:=by rfl):PX X E (.Call (.Name "isinstance" p) [e,.Name y p2] [] pos) (Dt T fa):=by
 intro pins s σ H Q I h
 refine wpAny_Call_Name_kw (jZ I hg hm jJ ?_)
 refine PyProof.Rows.callWith_builtin1 (PyProof.Rows.spliced_more (cJ (ha pins s σ H (fun v H1=>∃t,TyOf X.K H1 v (.type t)/\t∈Hl/\Q (.bl (Fw T t)) H1) I ?_) fun u s1 ⟨v,H1,I1,r1,t,ty,hin,q1⟩=>PyProof.Rows.spliced_more (jZ I1 hgy hmy hv ?_ hn hdb)) he) he hpl
 ·exact l8 (g:=fun _ x=>bd (op ((kZ x).bind Dv)) fun t=>rt (.d (.bool (Fw T t)))) h fun O P δ x r v H1 rs rs1 s1 rx e' q'=>by
   obtain ⟨t,e1,e2⟩:=cw e'
   cases e2
   refine ⟨t,rx.ty e1,?_,q' _ H1 (aB.refl H1) (.bool _)⟩
   obtain ⟨d,_,hd⟩:=Option.bind_eq_some_iff.mp e1
   exact EK hd
 ·exact PyProof.Rows.spliced_none (xE I1 r1 ty (b:=Fw T t) (by rw [Be]; exact BW T hT t hin) fun tk=>⟨.bl _,H1,I1.tok tk,rfl,q1⟩)
end
structure CompSc (sc:Scope) (N:List Str) (k:Nat) (js:List Nat) (N':List Str) (scope:Scope):Prop where
 kind:scope.kind=.function
 nocell:∀y∈scope.names,y.2≠.cell
 loc:∀y∈scope.names,y.2=.local->scope.names.lookup y.1=some .local
 free:∀y∈scope.names,y.2=.free->sc.names.lookup y.1=some .cell\/sc.names.lookup y.1=some .free
 len:N'.length=k+js.length
 at':((List.range js.length).all fun i=>match js[i]?,N'[k+i]? with
  |some j,some x=>decide (N[j]?=some x/\(sc.names.lookup x=some .cell\/sc.names.lookup x=some .free)/\scope.names.lookup x=some .free)
  |_,_=>false)=true
theorem CompSc.fit {X:Cx} {N:List Str} {k:Nat} {js:List Nat} {N':List Str} {sc scope:Scope} (S:CompSc sc N k js N' scope) (h1:X.env.scope=sc:=by rfl) (h2:X.N=N:=by rfl):CompFit X k js N' scope:=by
 subst h1 h2
 refine ⟨S.kind,S.nocell,S.loc,S.free,S.len,fun i x h hi=>?_⟩
 have hlt:i<N'.length:=(List.getElem?_eq_some_iff.mp h).1
 rw [S.len] at hlt
 have q:=List.all_eq_true.mp S.at' (i-k) (List.mem_range.mpr 0x1)
 have e:k+(i-k)=i:=by lia
 rw [e,h] at q
 cases ej:js[i-k]? with
 |none=>rw [ej] at q; cases q
 |some j=>
  rw [ej] at q
  obtain ⟨a,b,c⟩:=of_decide_eq_true q
  exact ⟨j,rfl,a,b,c⟩
theorem bR {k:Nat} {js:List Nat} {i:Nat} (hi:i<k) (δ:DS) (d:D) (δ1:DS) (h:ax i d (cG k js δ)=some δ1):Sub (cG k js δ) δ1:=by
 cases h
 refine Cs (.inl ?_)
 unfold cG
 rw [List.getElem?_append_left (by simpa using hi),List.getElem?_replicate,if_pos hi]
theorem Has.mono {P:Program} {w:World} {K:IU} {mg:Str->Option Value} {base:Heap} {j k:Nat} {x:Str} {n:Nat} {fm:List DV->M DV} (h:Has P w K mg base j x n fm) (hj:j<=k):Has P w K mg base k x n fm:=by
 obtain ⟨fn,fd,ps,h1,h2,h3,h4⟩:=h.ex
 exact ⟨fn,fd,ps,h1.mono hj,h2,h3,h4⟩
noncomputable def Df (K:IU) (mg:Str->Option Value) (x:Str) (st:Stmt) (ps:List Str):Prop:=∃f fd,Fun K x x st f fd/\mg x=some (.ref f)/\ix K fd ps []
theorem Df.has {P:Program} {w:World} {K:IU} {mg:Str->Option Value} {base:Heap} {x:Str} {st:Stmt} {ps:List Str} {k n:Nat} {fm:List DV->M DV} (D:Df K mg x st ps)
  (h:∀f fd,Fun K x x st f fd->FnOk P w K mg base wY k f fd ps (DX n fm)):Has P w K mg base k x n fm:=by
 obtain ⟨f,fd,Fu,hm,hb⟩:=D
 exact ⟨f,fd,ps,h f fd Fu,hm,Fu.kp,hb⟩
theorem eM {A:Around} {k:Nat} (hr:Room k A):A.units+64<cLine:=by
 have:=hr.un
 lia
theorem kK {X:Cx} {E:XK} {x:Str} {i:Int} {pos:Pos} (hm:∃t,X.mg x=some (.int i t)) (hg:Gl X x:=by rfl) (hd:(x==("__debug__" : Str))=false:=by decide):PX X E (.Name x pos) (eC (.int i)):=by
 obtain ⟨t,h⟩:=hm
 exact Bb hg h hd
theorem dg.some {P:Program} {w:World} {H:Hp} {h:Heap} {a:Addr} {o:HO} (x:dg P w H h a o):∃u,h.get? a=some u:=by
 cases o with
 |lst xs=>obtain ⟨_,_,_,_,e⟩:=x; exact ⟨_,e⟩
 |tup xs=>obtain ⟨_,_,_,u,e,_⟩:=x; exact ⟨u,e⟩
 |dK kvs=>obtain ⟨_,_,_,_,u,_,_,e,_⟩:=x; exact ⟨u,e⟩
 |dT kvs=>obtain ⟨_,_,_,_,u,_,_,e,_⟩:=x; exact ⟨u,e⟩
 |set S n=>obtain ⟨u,_,_,_,e,_⟩:=x; exact ⟨u,e⟩
 |ins C dx fs=>obtain ⟨_,_,_,e,_⟩:=x; exact ⟨_,e⟩
 |own y=>exact x
 |xd fs=>obtain ⟨_,⟨u,_,_,e,_⟩,_⟩:=x; exact ⟨u,e⟩
 |rng lo hi=>obtain ⟨_,_,_,e⟩:=x; exact ⟨_,e⟩
 |frz ob u=>exact ⟨ob,x.1⟩
 |tbl ps=>exact ⟨_,x⟩
 |met f y=>exact ⟨_,x⟩
 |ext φ=>exact x.2.1
structure Fly (P:Program) (w:World) (l:List Env) (s:Shared) (H:Hp) (cls:Value) (x:Addr) (H':Hp) (B:Heap) (a0:Value) (s':Shared):Prop where
 os:s'.os=s.os
 bare:AllBare s'.gens
 fly:Heap.FlyingW B l x cls a0 s'.heap
 trk:∀b u,H' b=some u->∃o,B.get? b=some o
 old:∀b o,s.heap.get? b=some o->H b=none->b∉gn l->B.get? b=some o
 all:∀b o,s.heap.get? b=some o->b∉gn l->∃o',B.get? b=some o'
 un:Un (gn l) [] H H' s.heap s'.heap
 hok:lR P w H' s'.heap
noncomputable def sm (P:Program) (w:World):vN:=fun l H s E e s'=>∃x cls dx H' B a0,e=.ref x/\Fly P w l s H cls x H' B a0 s'/\E cls dx H'
theorem Fly.free {P:Program} {w:World} {l:List Env} {s s':Shared} {H H':Hp} {cls a0:Value} {x:Addr} {B:Heap} (F:Fly P w l s H cls x H' B a0 s'):H' x=none:=by
 cases q:H' x with
 |none=>rfl
 |some u=>
  obtain ⟨o,e⟩:=F.trk x u q
  rw [F.fly.2.1] at e; cases e
theorem Fly.go {P:Program} {w:World} {l:List Env} {s s':Shared} {H H':Hp} {cls a0:Value} {x:Addr} {B h':Heap} (F:Fly P w l s H cls x H' B a0 s') (f:Heap.FlyingW B l x cls a0 h') (u:s'.heap.UpToSlots h'):Fly P w l s H cls x H' B a0 { s' with heap:=h' }:=by
 have fr:∀b,b∈gn l->∀o,s'.heap.get? b=some o->∃sl,h'.get? b=some { o with slots:=sl }:=fun b hb o e=>by
  obtain ⟨_,o',e',hd⟩:=F.fly.2.2.1.mem hb
  rw [e] at e'; cases e'
  exact u b o e hd
 refine ⟨F.os,F.bare,f,F.trk,F.old,F.all,⟨fun b o e n hb _=>f.1 b o (F.old b o e n hb),fun b o e n hb hx=>?_,F.un.free,fun b o e hx=>?_,F.un.tups,F.un.frzs,F.un.tbls⟩,fun b v q=>(F.hok b v q).stay (fun c o hc e=>?_) (fun _ q=>q) fun _ _ q=>q⟩
 ·obtain ⟨sl,e1⟩:=F.un.slot b o e n hb hx
  obtain ⟨sl',e2⟩:=fr b hb _ e1
  exact ⟨sl',e2⟩
 ·obtain ⟨o',e1⟩:=F.un.there b o e hx
  by_cases hb:b∈gn l
  ·obtain ⟨sl,e2⟩:=fr b hb o' e1
   exact ⟨_,e2⟩
  ·obtain ⟨o2,e2⟩:=F.all b o e hb
   exact ⟨o2,f.1 b o2 e2⟩
 ·have ht:∃v',H' c=some v':=by
   rcases hc with z|z
   ·exact ⟨v,z▸q⟩
   ·exact ⟨_,z⟩
  obtain ⟨v',hv'⟩:=ht
  obtain ⟨o2,e2⟩:=F.trk c v' hv'
  have:=F.fly.1 c o2 e2
  rw [e] at this; cases this
  exact f.1 c _ e2
theorem Fly.inv {X:Cx} {pins:List (Addr×Obj)} {σ:St} {s s':Shared} {H H':Hp} {cls a0:Value} {x:Addr} {B:Heap} (I:Inv X pins σ H s) (F:Fly X.prog X.w X.stack s H cls x H' B a0 s'):Inv X pins σ H' s':=
 I.call' (ch:=[]) F.os F.un F.hok F.bare fun b hb=>absurd hb 0x4
theorem vZ {P:Program} {w:World} {K:IU} {mg:Str->Option Value} {base:Heap} {N:List Str} {qual:Str} {scope:Scope} {f:Addr} {cd:Value} {A:Around} {outer:List Env} {s0 s:Shared} {H0 H:Hp} {E:XK} {pins:List (Addr×Obj)} {σ:St} {h1:Heap} {e:Addr} {cls:Value} {vs:List Value}
  (I:Inv (eX (sm P w) P w K mg base N qual scope f cd A outer s0 H0 E) pins σ H s) (hx:Heap.MadeExcOf s.heap h1 e cls vs) (hE:E cls none H):(eX (sm P w) P w K mg base N qual scope f cd A outer s0 H0 E).xe (.ref e) { s with heap:=h1 }:=by
 have hl:∀b,b∈gn (envOfC qual scope s0.heap.objs.size f cd::outer)↔b=s0.heap.objs.size\/b∈gn outer:=fun b=>by
  show b∈s0.heap.objs.size::gn outer↔_
  exact List.mem_cons
 have nL:∀b o,s0.heap.get? b=some o->b≠s0.heap.objs.size:=fun b o q=>Nat.ne_of_lt (IM q)
 have hst:=I.stack
 have ff:=PySem.W.funFrames_hide (as:=gn (envOfC qual scope s0.heap.objs.size f cd::outer)) hst fun en he a ha=>List.mem_filterMap.mpr ⟨en,he,ha⟩
 refine wpAny_leaves_madeW (base:=PySem.W.hideAll s.heap (gn (envOfC qual scope s0.heap.objs.size f cd::outer))) (h:=s.heap) I.ok.frames rfl (fun b o q=>PySem.W.of_hideAll _ q) ff hx fun h2 t x1 x2 x3 x4=>?_
 have kB:∀b o,s.heap.get? b=some o->b∉gn (envOfC qual scope s0.heap.objs.size f cd::outer)->h2.get? b=some o:=fun b o q n=>x1.1 b o (PySem.W.hideAll_get _ q n)
 have trk:∀b u,H b=some u->b∉gn (envOfC qual scope s0.heap.objs.size f cd::outer):=fun b u q hb=>by
  have:=I.stkFree b hb
  rw [q] at this; cases this
 have fr:∀b o,b∈gn outer->s.heap.get? b=some o->∃sl,h2.get? b=some { o with slots:=sl }:=fun b o hb q=>by
  obtain ⟨_,o',e',hd⟩:=I.funs.mem hb
  rw [q] at e'; cases e'
  exact x4 b o (hx.keeps b o q) hd
 have out:∀b o,s0.heap.get? b=some o->b∉gn outer->b∉gn (envOfC qual scope s0.heap.objs.size f cd::outer):=fun b o q n z=>by
  rcases (hl b).mp z with z|z
  ·exact nL b o q z
  ·exact n z
 refine ⟨e,cls,none,H,_,_,rfl,⟨I.os,I.bare,x1,fun b u q=>?_,fun b o q n hb=>?_,fun b o q hb=>?_,⟨fun b o q n hb _=>?_,fun b o q n hb _=>?_,fun b o q n _=>I.base.free b o q n (by simp [eX]),fun b o q _=>?_,I.base.tups,I.base.frzs,I.base.tbls⟩,fun b u q=>(I.hok b u q).stay (fun c o hc r=>?_) (fun _ q=>q) fun _ _ q=>q⟩,hE⟩
 ·obtain ⟨o,r⟩:=dg.some (I.hok b u q)
  exact ⟨o,PySem.W.hideAll_get _ r (trk b u q)⟩
 ·exact PySem.W.hideAll_get _ (I.base.keep b o q n hb (by simp [eX])) (out b o q hb)
 ·obtain ⟨o',r⟩:=I.base.there b o q (by simp [eX])
  exact ⟨o',PySem.W.hideAll_get _ r (out b o q hb)⟩
 ·exact kB b o (I.base.keep b o q n hb (by simp [eX])) (out b o q hb)
 ·obtain ⟨sl,r⟩:=I.base.slot b o q n hb (by simp [eX])
  obtain ⟨sl',r'⟩:=fr b _ hb r
  exact ⟨sl',r'⟩
 ·obtain ⟨o',r⟩:=I.base.there b o q (by simp [eX])
  by_cases hb:b∈gn outer
  ·obtain ⟨sl,r'⟩:=fr b o' hb r
   exact ⟨_,r'⟩
  ·exact ⟨o',kB b o' r (out b o q hb)⟩
 ·have ht:∃v,H c=some v:=by
   rcases hc with z|z
   ·exact ⟨u,z▸q⟩
   ·exact ⟨_,z⟩
  obtain ⟨v,hv⟩:=ht
  exact kB c o r (trk c v hv)
noncomputable def Iq:List Value:=[.type "ValueError",.type "Exception",.type "BaseException",.type "object"]
structure Xc (K:IU) (mg:Str->Option Value) (x:Str) (C:Addr):Prop where
 bound:mg x=some (.ref C)
 ex:PySem.W.excIn K C Iq "ValueError.__new__" = true
theorem w4 {K:IU} {h:Heap} {C:Addr} {bmB:List Value} {nw:String} (X:K.In h) (q:PySem.W.excIn K C bmB nw=true) :
  ∃bm N nm qn bs hdct sn sub ab col dd k0 k1 k2 k3 k5 mN,h.get? C=some (excClassObj nm qn C N bs bm hdct sn sub ab col dd k0 k1 k2 k3 k5 nw)/\h.Ns N mN/\mN "__init__" = none/\OwnTail h bmB bm:=by
 unfold PySem.W.excIn at q
 cases ho:K.lookup C with
 |none=>rw [ho] at q; cases q
 |some ob=>
  rw [ho] at q
  split at q
  ·rename_i dd cd sl eo
   cases eo
   split at q
   ·rename_i C' bm k0 k1 k2 k3 n k5 hm hs
    rw [Bool.and_eq_true,Bool.and_eq_true,Bool.and_eq_true,Bool.and_eq_true,Bool.and_eq_true] at q
    obtain ⟨⟨⟨⟨⟨q1,q2⟩,q3⟩,q4⟩,q5⟩,q6⟩:=q
    have q1:=beq_iff_eq.mp q1
    have q2:=beq_iff_eq.mp q2
    have q7:PySem.W.nsIn K cd.ns "__init__" = some none:=beq_iff_eq.mp q6
    obtain ⟨nm,bs,mro,ns,qn,hd,sn,sub,ab,col,del⟩:=cd
    simp only at hm q3 q5 q7
    have q3:del=false:=by simpa using q3
    subst q1 q2 hm q3
    have hsl:sl=#[k0,k1,k2,k3,some (.builtin n),k5]:=Array.toList_inj.mp (by rw [hs])
    subst hsl
    refine ⟨bm,ns,nm,qn,bs,hd,sn,sub,ab,col,dd,k0,k1,k2,k3,k5,h.nsMap ns,?_,?_,?_,?_⟩
    ·exact X _ _ ho
    ·exact .of_isNs (PySem.W.isNs_of_in X q5)
    ·exact PySem.W.nsMap_none_of_in X q5 q7
    ·exact PySem.W.tail_of_in X q4
   ·cases q
  ·cases q
section
variable {X:Cx} {E:XK} {x:Str} {C:Addr} {np cpos pos p2:Pos} {z:Str} {j:Nat}
noncomputable def wD (X:Cx) (E:XK):Prop:=X.A.handled=none/\∀(pins:List (Addr×Obj)) (σ:St) (H:Hp) (s:Shared) (h1:Heap) (e:Addr) (cls:Value) (vs:List Value),Inv X pins σ H s->Heap.MadeExcOf s.heap h1 e cls vs->E cls none H->X.xe (.ref e) { s with heap:=h1 }
theorem nz (mk:wD X E) (O:Xc X.K X.mg x C) (hg:Gl X x:=by rfl) (hd:(x==("__debug__" : Str))=false:=by decide) {jj} :
  PS X (.Raise (some (.Call (.Name x np) [.Constant (.str z) jj p2] [] cpos)) none pos) (fun _ _ H=>E (.ref C) none H):=by
 intro pins s σ H D I h
 obtain ⟨bm,N,nm,q,bs,hdct,sn,sub,ab,col,dd,k0,k1,k2,k3,k5,mN,hC,hN,hni,T⟩:=w4 I.ok.mod.kin O.ex
 refine wpAny_Raise_call_subT (C:=C) (nm:=nm) (q:=q) (N:=N) (bs:=bs) (bm:=bm) (hdct:=hdct) (sn:=sn) (sub:=sub) (ab:=ab) (col:=col) (dd:=dd) (k0:=k0) (k1:=k1) (k2:=k2) (k3:=k3) (k5:=k5) (mN:=mN)
  PySem.F.excBase_ValueError (T.hasType PySem.F.excBase_ValueError.hasBase) mk.1 rfl hni (jw I hg O.bound ⟨rfl,?_⟩ hd)
 have hst:starEach [(.Constant (.str z) jj p2:Expr)] X.env=(false,eval (.Constant (.str z) jj p2) X.env)::starEach [] X.env:=rfl
 rw [hst]
 refine Calls.evalArgs_plain ?_
 refine Calls.spliced_cons (cJ (Al (pos:=p2) (j:=jj) (x:=z) pins s σ H (fun _ H1=>H1=H) I rfl) fun u s1 ⟨v,H1,I1,_,e1⟩=>Calls.spliced_nil ?_)
 subst e1
 refine ⟨rfl,by show 1<=sizeLine; decide,I1.bk _ _ hC,hN.keeps I1.bk,T.keeps I1.bk,fun h1 e hm=>mk.2 pins σ H1 s1 h1 e _ _ I1 hm h⟩
end
open PySem.W (Looks)
theorem Cw {prog:Program} {w:World} {A:Around} {E:Value->Shared->Prop} {s:Shared} {Q:Value->Shared->Prop} {K:IU} {e C:Addr} {oe:Obj} {c:Value} (he:s.heap.get? e=some oe) (hc:oe.cls=.ref C) (X:K.In s.heap)
  (q:PySem.W.kitOne K (.ref C) c=some true) (h:Q (.bool true) s):wpAny (model prog w) A (call (.builtin "isinstance") [.ref e,c]) Q E s:=by
 refine call_isinstance_of ?_ (by intro z; cases z)
 unfold Builtin.«isinstance.nested»
 have LT:Looks (model prog w) s.heap (typeOf (.ref e)) (.ref C):=hc▸(Looks.ld he).andThen .now
 refine IK (LT.at ?_)
 by_cases k:(Value.ref C==c)=true
 ·rw [if_pos k]
  repeat (first|refine IL ?_|refine wpAny_rule ?_|refine IK ?_)
  exact h
 ·rw [if_neg k]
  have q':PySem.W.kitCls K (.ref C) c=some true:=by
   unfold PySem.W.kitOne at q
   rw [if_neg k] at q; exact q
  obtain ⟨hty,his,hsub⟩:=PySem.W.kit_cls (M:=model prog w) X q'
  have LI:Looks (model prog w) s.heap (isInstance (.ref e) c) true:=LT.andThen hsub
  refine IK (hty.at ?_)
  rw [if_pos 0x3]
  refine IK (IK (m:=isType c) (his.at ?_))
  refine IK (m:=isInstance (.ref e) c) (LI.at ?_)
  exact IL (a:=true) (IL h)
theorem yp {X:Cx} {pins:List (Addr×Obj)} {σ:St} {H:Hp} {s:Shared} {h':Heap} {m':Str->Option Value} {t:Nat} (I:Inv X pins σ H s) (hn:h'.Ns X.env.locals m') (hs:Heap.SameBut X.env.locals s.heap h') :
  Inv X pins (List.replicate σ.length none) H { s with heap:=h',toks:=t }:=by
 have neL:∀b o,X.s₀.heap.get? b=some o->b≠X.env.locals:=fun b o e=>Nat.ne_of_lt (Nat.lt_of_lt_of_le (IM e) I.ok.above)
 refine ⟨I.ok,I.os,I.bare,⟨fun b o e n hb hx=>?_,fun b o e n hb hx=>?_,I.base.free,fun b o e hx=>?_,I.base.tups,I.base.frzs,I.base.tbls⟩,⟨m',hn,fun i y v _ e2 _=>?_⟩,fun y c e=>?_,I.free,I.freeC,fun p hp=>?_,fun b o e=>(I.hok b o e).stay (fun c u hc q=>(hs.2 c ?_).trans q) (fun _ q=>q) fun _ _ q=>q,by simpa using I.len⟩
 ·exact (hs.2 b (neL b o e)).trans (I.base.keep b o e n hb hx)
 ·obtain ⟨sl,q⟩:=I.base.slot b o e n hb hx
  exact ⟨sl,(hs.2 b (neL b o e)).trans q⟩
 ·obtain ⟨o',q⟩:=I.base.there b o e hx
  exact ⟨o',(hs.2 b (neL b o e)).trans q⟩
 ·rw [List.getElem?_replicate] at e2
  split at e2 <;> cases e2
 ·obtain ⟨v,z⟩:=I.cell y c e
  exact ⟨v,z.sameBut hs (I.cne y c e)⟩
 ·obtain ⟨e,n,ne,nf,d⟩:=I.pin p hp
  exact ⟨(hs.2 p.1 ne).trans e,n,ne,nf,d⟩
 ·rintro rfl
  rcases hc with z|z
  ·rw [<-z,I.free] at e; cases e
  ·rw [I.free] at z; cases z
noncomputable abbrev Cx.tried (X:Cx) (pn:List (Addr×Obj)) (W:Value->Shared->Prop):Cx:={ X with pn:=X.pn++pn,xe:=W }
noncomputable abbrev Cx.caught (X:Cx) (e:Addr) (pn:List (Addr×Obj)) (W:Value->Shared->Prop):Cx:={ X with A:=X.A.mark (some (.ref e)),calm:=false,pn:=X.pn++pn,xe:=W }
section
variable {X:Cx} {pins pn:List (Addr×Obj)} {σ:St} {H:Hp} {s:Shared} {W:Value->Shared->Prop} {e:Addr}
theorem xm (I:Inv X pins σ H s) (W:Value->Shared->Prop):Inv (Cx.tried X pins W) [] σ H s:=
 ⟨⟨I.ok.mod,I.ok.kind,I.ok.glob,I.ok.blt,I.ok.above,I.ok.inj,I.ok.has,I.ok.cab,I.ok.hd,I.ok.frames,I.ok.stk,I.ok.exf,I.ok.bs,I.ok.bsz,I.ok.noex,I.ok.exfs,I.ok.funs,I.ok.frf⟩,
  I.os,I.bare,I.base,I.loc,I.cell,I.free,I.freeC,fun p hp=>I.pin p (by simpa using hp),I.hok,I.len⟩
theorem dO {pins':List (Addr×Obj)} (I:Inv (Cx.tried X pn W) pins' σ H s):Inv X pn σ H s:=
 ⟨⟨I.ok.mod,I.ok.kind,I.ok.glob,I.ok.blt,I.ok.above,I.ok.inj,I.ok.has,I.ok.cab,I.ok.hd,I.ok.frames,I.ok.stk,I.ok.exf,I.ok.bs,I.ok.bsz,I.ok.noex,I.ok.exfs,I.ok.funs,I.ok.frf⟩,
  I.os,I.bare,I.base,I.loc,I.cell,I.free,I.freeC,fun p hp=>I.pin p (II _ hp),I.hok,I.len⟩
theorem vd {pins':List (Addr×Obj)} {D:Ends} {f:Flow} {s':Shared} (h:SP (Cx.tried X pn W) pins' D f s'):SP X pn D f s':=by
 cases f with
 |next=>obtain ⟨σ',H',I,q⟩:=h; exact ⟨σ',H',dO I,q⟩
 |brk=>obtain ⟨σ',H',I,q⟩:=h; exact ⟨σ',H',dO I,q⟩
 |cont=>obtain ⟨σ',H',I,q⟩:=h; exact ⟨σ',H',dO I,q⟩
 |ret u=>obtain ⟨v,σ',H',I,r,q⟩:=h; exact ⟨v,σ',H',dO I,r,q⟩
theorem oN (I:Inv X pins σ H s) (W:Value->Shared->Prop) (e:Addr) (hm:(X.A.mark (some (.ref e))).frames=X.A.frames:=by rfl):Inv (Cx.caught X e pins W) [] σ H s:=
 ⟨⟨I.ok.mod,I.ok.kind,I.ok.glob,I.ok.blt,I.ok.above,I.ok.inj,I.ok.has,I.ok.cab,(fun z=>nomatch z),hm.trans I.ok.frames,I.ok.stk,I.ok.exf,I.ok.bs,I.ok.bsz,I.ok.noex,I.ok.exfs,I.ok.funs,I.ok.frf⟩,
  I.os,I.bare,I.base,I.loc,I.cell,I.free,I.freeC,fun p hp=>I.pin p (by simpa using hp),I.hok,I.len⟩
theorem rF {p:Addr×Obj} {pins':List (Addr×Obj)} (ok:X.Ok) (I:Inv (Cx.caught X e (p::pn) W) pins' σ H s):Inv X pn σ H s:=
 ⟨ok,I.os,I.bare,I.base,I.loc,I.cell,I.free,I.freeC,fun p hp=>I.pin p (II _ (by
  show p∈X.pn++_::pn
  rcases List.mem_append.mp hp with z|z
  ·exact II _ z
  ·exact IH _ (IE _ z))),I.hok,I.len⟩
end
noncomputable def vg (F:DS->M Out) (C:Addr) (k:Bool) (δ:DS):M Out:=match F δ with
 |some (.ok o)=>some (.ok o)
 |some (.error c)=>if c=.ref C then rt (.rt (.d (.bool k))) else none
 |none=>none
section
variable {X:Cx} {E:XK} {body:List Stmt} {F:DS->M Out} {cn n:Str} {C:Addr} {i:Nat} {ex:Expr} {np hpos rpos pos:Pos} {k:Bool}
theorem Du (O:Xc X.K X.mg cn C) (hN:X.N.Nodup) (hb:∀pn W E',gB (sm X.prog X.w) (Cx.tried X pn W) E'->wb (Cx.tried X pn W) E' body F)
  (hs:∀e pn W oe,oe.cls=.ref C->(e,oe)∈pn->PE (Cx.caught X e pn W) ex (fun σ H Q=>σ[i]?=some (some (.ref e))/\Q (.bl k) H))
  (hst:X.stack=X.env::X.outer:=by rfl) (hfm:X.env.frame=some X.env.locals:=by rfl) (hg:Gl X cn:=by rfl) (hi:X.N[i]?=some n:=by rfl) (hloc:X.env.scope.names.lookup n=some .local:=by rfl) (hfn:X.fn n=true:=by rfl) (hd:(cn==("__debug__" : Str))=false:=by decide) :
  uz X E (.Try body [.ExceptHandler (some (.Name cn np)) (some n) [.Return (some ex) rpos] hpos] [] [] pos) (vg F C k):=by
 intro pins s σ H T I q
 obtain ⟨O',P,δ,r,rs,e,q⟩:=q
 refine wpAny_Try_except ?_
 have pass:gB (sm X.prog X.w) (Cx.tried X pins fun e s₁=>wpAny (model X.prog X.w) X.A (noteFrame e X.env) (fun _ s₂=>wpAny (model X.prog X.w) X.A (setFlight e none) (fun _ s₃=>
   wpAny (model X.prog X.w) X.A (handleBy e X.env [.ExceptHandler (some (.Name cn np)) (some n) [.Return (some ex) rpos] hpos]) (SP X pins T) X.xe s₃) X.xe s₂) X.xe s₁) (fun cls _ H'=>cls=.ref C/\T.rt (.bl k) H'):=by
  intro pins' σ' H1 s1 e s' I1 cx
  obtain ⟨x,cls,dx,H',B,a0,rfl,Fl,rfl,hT⟩:=cx
  have Fl:Fly X.prog X.w X.stack s1 H1 (.ref C) x H' B a0 s':=Fl
  have fr:X.A.frames=some (X.env::X.outer):=by rw [<-hst]; exact I.ok.frames
  refine wpAny_looks_onW (L:=X.env.locals) fr hfm (hst▸Fl.fly) fun h4 hheld sm4=>?_
  refine wpAny_landsW hheld fun h5 fl5 sm5=>?_
  have F5:=Fl.go (hst.symm▸fl5) (sm4.trans sm5)
  have I5:Inv X pins σ' H' { s' with heap:=h5 }:=dO (Fly.inv I1 F5)
  obtain ⟨ob,hob,hobc⟩:=fl5.there
  refine wpAny_handleBy_cons (codeAny_handlers_test (jw (X:=Cx.caught X x pins X.xe) (oN I5 X.xe x) hg O.bound ?_ hd)) (by intro z; cases z)
  obtain ⟨bm,N,nm,qn,bs,hdct,sn,sub,ab,col,dd,k0,k1,k2,k3,k5,mN,hC,hN',hni,Tl⟩:=w4 I5.ok.mod.kin O.ex
  refine wpAny_excMatches_sub_self (I5.bk _ _ hC) hob hobc (Tl.hasType PySem.F.excBase_ValueError.hasBase) (codeAny_handlers_suite_as ?_)
  refine lands_againW fl5 fun h6 fl6 sm6=>?_
  have F6:=F5.go (hst.symm▸fl6) sm6
  have I6:Inv X pins σ' H' { s' with heap:=h6 }:=dO (Fly.inv I1 F6)
  obtain ⟨oe,vs,he,hec,hed,_⟩:=fl6.first
  have nfr:∀b,b∈gn X.stack->x≠b:=fun b hbm z=>by
   obtain ⟨_,o',e',hdd⟩:=I6.stack.mem hbm
   have e'':h6.get? b=some o':=e'
   rw [<-z,he] at e''
   cases e''
   exact hdd vs hed
  have I6':Inv X ((x,oe)::pins) σ' H' { s' with heap:=h6 }:=I6.pins_of fun p hp=>by
   rcases List.mem_cons.mp hp with z|z
   ·subst z
    refine ⟨he,Fl.free,fun z=>nfr X.env.locals ?_ z,fun z=>nfr x ?_ rfl,fun v z=>?_⟩
    ·rw [hst]
     show X.env.locals∈gn (X.env::X.outer)
     unfold gn
     rw [List.filterMap_cons,hfm]
     exact IF
    ·rw [hst]
     show x∈gn (X.env::X.outer)
     unfold gn
     rw [List.filterMap_cons,hfm]
     exact IE _ z
    ·rw [hed] at z; cases z
   ·exact I6.pin p (IH _ z)
  refine nO (X:=Cx.caught X x ((x,oe)::pins) fun _ _=>False) (oN I6' _ x) hN hi (.inl hloc) (v:=.ref x) rfl (fun s7 I8=>?_) (.inl hfn)
  have hlen:i<σ'.length:=by rw [I6.len]; exact (List.getElem?_eq_some_iff.mp hi).1
  refine wpAny_mono (km (AN (hs x _ _ oe hec IF)) [] s7 _ H' { nx:=fun _ _=>False,rt:=fun v H2=>v=.bl k/\H2=H' } I8 ⟨by rw [List.getElem?_set_self hlen],rfl,rfl⟩) (fun f s8 h8=>?_) fun _ _ z=>z.elim
  cases f with
  |next=>obtain ⟨_,_,_,z⟩:=h8; exact z.elim
  |brk=>obtain ⟨_,_,_,z⟩:=h8; exact z.elim
  |cont=>obtain ⟨_,_,_,z⟩:=h8; exact z.elim
  |ret u=>
   obtain ⟨v,σ2,H2,I9,rv,rfl,rfl⟩:=h8
   have I10:Inv X pins σ2 H2 s8:=rF I.ok I9
   obtain ⟨m,hm,_⟩:=I10.loc
   exact wpAny_nameGoes hloc hm (by rw [I.ok.kind]; rfl) fun h9 m9 hn9 hs9=>⟨.bl k,_,H2,yp I10 hn9 hs9,rv,hT⟩
 have fin:∀r',F δ=some r'->C2 (fun cls _ H'=>cls=.ref C/\T.rt (.bl k) H') O' P H T r'->wpAny (model X.prog X.w) X.A (execs body X.env) (fun f s1=>match f with|.next=>wpAny (model X.prog X.w) X.A (execs [] X.env) (SP X pins T) X.xe s1|f=>SP X pins T f s1) (fun e s₁=>wpAny (model X.prog X.w) X.A (noteFrame e X.env) (fun _ s₂=>wpAny (model X.prog X.w) X.A (setFlight e none) (fun _ s₃=>
   wpAny (model X.prog X.w) X.A (handleBy e X.env [.ExceptHandler (some (.Name cn np)) (some n) [.Return (some ex) rpos] hpos]) (SP X pins T) X.xe s₃) X.xe s₂) X.xe s₁) s:=fun r' e' q'=>by
  refine wpAny_mono (hb pins _ _ pass [] s σ H T (xm I _) ⟨O',P,δ,r',rs,e',q'⟩) (fun f s1 h=>?_) fun _ _ z=>z
  have h':=vd h
  cases f with
  |next=>exact wpAny_execs_nil h'
  |brk=>exact h'
  |cont=>exact h'
  |ret u=>exact h'
 unfold vg at e
 split at e
 ·rename_i o e'
  cases e
  refine fin (.ok o) e' ?_
  cases o <;> exact q
 ·rename_i c e'
  split at e
  ·rename_i hc
   cases e
   refine fin (.error c) e' fun dx H' P' kp=>⟨hc,?_⟩
   have kp0:Kp P H [] H':=⟨kp.keep,fun a ha=>nomatch ha⟩
   refine q (.bl k) H' H' [] kp0 (aB.refl H') (fun a ha=>?_) (fun a ha=>nomatch ha) (.bool k)
   obtain ⟨o,eo⟩:=rs.dom a (IH _ (by simpa using ha))
   exact ⟨o,kp.keep a o (fun z=>rs.apart a z (by simpa using ha)) eo⟩
  ·cases e
 ·cases e
end
section
variable {X:Cx} {e C:Addr} {oe:Obj} {i:Nat} {n y:Str} {p p1 p2 pos:Pos} {c:Value}
noncomputable def Ih (i:Nat) (e:Addr) (k:Bool):TE:=fun σ H Q=>σ[i]?=some (some (.ref e))/\Q (.bl k) H
theorem Fe (hp:(e,oe)∈X.pn) (hc:oe.cls=.ref C) (q:PySem.W.kitOne X.K (.ref C) c=some true) (hm:X.mg "isinstance" = none) (hn:PE X (.Name n p1) (rH i))
  (hy:∀(pins:List (Addr×Obj)) (s:Shared) (σ:St) (H:Hp) (Q:Value->Shared->Prop),Inv X pins σ H s->Q c s->wpAny (model X.prog X.w) X.A (eval (.Name y p2) X.env) Q X.xe s) (hg:Gl X "isinstance" :=by rfl)
  (he:starEach [.Name n p1,.Name y p2] X.env=(false,eval (.Name n p1) X.env)::starEach [.Name y p2] X.env:=by rfl) (he2:starEach [(.Name y p2:Expr)] X.env=(false,eval (.Name y p2) X.env)::starEach [] X.env:=by rfl)
  (hpl:(backTo pos (starEach [.Name y p2] X.env)).any (·.1)=false:=by rfl):PE X (.Call (.Name "isinstance" p) [.Name n p1,.Name y p2] [] pos) (Ih i e true):=by
 intro pins s σ H Q I h
 refine wpAny_Call_Name_kw (jZ I hg hm jJ ?_)
 refine PyProof.Rows.callWith_builtin1 (PyProof.Rows.spliced_more (cJ (hn pins s σ H (fun v H1=>v=.ref e/\H1=H) I ⟨.ref e,h.1,rfl,rfl⟩) fun u s1 ⟨v,H1,I1,r1,ev,eH⟩=>PyProof.Rows.spliced_more (hy pins s1 σ H1 _ I1 ?_) he2) he) he hpl
 subst ev eH
 cases r1
 refine PyProof.Rows.spliced_none ?_
 obtain ⟨g,_⟩:=I1.pin _ (II _ hp)
 exact Cw (K:=X.K) g hc I1.kIn q ⟨.bl true,H1,I1,rfl,h.2⟩
theorem Dy {D:Addr} (hp:(e,oe)∈X.pn) (hc:oe.cls=.ref C) (q:PySem.W.kitOne X.K (.ref C) (.ref D)=some true) (hm:X.mg "isinstance" = none) (hmy:X.mg y=some (.ref D)) (hn:PE X (.Name n p1) (rH i)) (hg:Gl X "isinstance" :=by rfl) (hgy:Gl X y:=by rfl) (hd:(y==("__debug__" : Str))=false:=by decide)
  (he:starEach [.Name n p1,.Name y p2] X.env=(false,eval (.Name n p1) X.env)::starEach [.Name y p2] X.env:=by rfl) (he2:starEach [(.Name y p2:Expr)] X.env=(false,eval (.Name y p2) X.env)::starEach [] X.env:=by rfl)
  (hpl:(backTo pos (starEach [.Name y p2] X.env)).any (·.1)=false:=by rfl):PE X (.Call (.Name "isinstance" p) [.Name n p1,.Name y p2] [] pos) (Ih i e true):=
 Fe hp hc q hm hn (fun _ _ _ _ _ I h=>jw I hgy hmy h hd) hg he he2 hpl
theorem Ej {P:Program} {w:World}:gB (sm P w) X E0:=fun _ _ _ _ _ _ _ ⟨_,_,_,_,_,_,_,_,h⟩=>h.elim
end
noncomputable def Ii (C CB:Addr) (iF:Int->Int->Bool) (f1 f2:Str):Sp:=fun vs H Q E=>∃p dx m c,vs=[.ref p,.int m,.int c]/\H p=some (.ins C dx []) /\
 ∀H1,aB H H1->if iF m c=true then Q .non (du (du H1 p (.ins C dx (gG f1 (.int m) []))) p (.ins C dx (gG f2 (.int c) (gG f1 (.int m) [])))) else E (.ref CB) none H1
structure Hs (P:Program) (w:World) (K:IU) (mg:Str->Option Value) (base:Heap) (x:Str) (C CB:Addr) (iF:Int->Int->Bool) (f1 f2:Str):Prop where
 ex:∃f fd ps,Mk K C f/\FnOk P w K mg base (sm P w) 1 f fd ps (Ii C CB iF f1 f2)/\ix K fd ps []/\mg x=some (.ref C)
noncomputable def G1 (C CB:Addr) (iF:Int->Int->Bool) (f1 f2:Str) (xs:List DV):M DV:=match xs with
 |[.d (.int m),.d (.int c)]=>if iF m c=true then rt (.ob C [(f1,.int m),(f2,.int c)]) else some (.error (.ref CB))
 |_=>none
theorem FF {f1 f2:Str} (h:f1≠f2) (v u:V):gG f2 u (gG f1 v [])=[(f1,v),(f2,u)]:=by
 show (if f1=f2 then _ else _)=_
 rw [if_neg h]; rfl
section
variable {X:Cx} {E:XK} {e:Expr} {es:List Expr} {pos p:Pos} {fr:DS->M (List DV)}
theorem BZ {x:Str} {C CB:Addr} {iF:Int->Int->Bool} {f1 f2:Str} (h:Hs X.prog X.w X.K X.mg X.base x C CB iF f1 f2) (hf:f1≠f2) (hr:Room 2 X.A) (pass:gB (sm X.prog X.w) X E) (ha:wM X E (e::es) fr) (hg:Gl X x:=by rfl) (hdb:(x==("__debug__" : Str))=false:=by decide)
  (he:starEach (e::es) X.env=(false,eval e X.env)::starEach es X.env:=by rfl) (hpl:(backTo pos (starEach es X.env)).any (·.1)=false:=by rfl):PX X E (.Call (.Name x p) (e::es) [] pos) (aG (G1 C CB iF f1 f2) fr):=by
 obtain ⟨f,fd,ps,hM,hF,hb,hm⟩:=h.ex
 refine PE.mono (Cz hM hF hr hg hm hb .nil pass ha hdb he hpl) fun σ H Q q=>mf (g:=fun _=>G1 C CB iF f1 f2) q fun O P δ xs r vs H1 rs rs1 s1 rx e q=>?_
 unfold G1 at e
 split at e
 ·rename_i m c
  cases rx with
  |cons r1 rr=>
   cases rr with
   |cons r2 rr=>
    cases rr
    cases r1
    cases r2
    intro x dx nx ndx ne
    refine ⟨x,dx,m,c,rfl,cf,fun H2 s2=>?_⟩
    have sH:aB H1 H2:=fun b o q=>s2 b o (by rw [aN (cA q nx),aN (cA q ndx)]; exact q)
    split at e
    ·rename_i hgood
     rw [if_pos hgood]
     cases e
     refine ⟨rfl,q _ _ (fun b o q=>?_) ⟨x,dx,_,rfl,fun z=>?_,cf,?_⟩⟩
     ·rw [aN (cA q nx),aN (cA q nx)]; exact sH b o q
     ·obtain ⟨o,q⟩:=rs1.dom x z
      rw [nx] at q; cases q
     ·rw [FF hf]
      exact .cons ⟨rfl,.int m⟩ (.cons ⟨rfl,.int c⟩ .nil)
    ·rename_i hgood
     rw [if_neg hgood]
     cases e
     exact q none H2 sH
 ·cases e
end
theorem mU {P:Program} {w:World} {K:IU} {mg:Str->Option Value} {base:Heap} {N:List Str} {qual:Str} {scope:Scope} {f:Addr} {cd:Value} {A:Around} {outer:List Env} {s0:Shared} {H0:Hp} {E:XK} :
  gB (sm P w) (eX (sm P w) P w K mg base N qual scope f cd A outer s0 H0 E) E:=by
 intro pins σ H s e s' I cx
 obtain ⟨x,cls,dx,H',B,a0,rfl,Fl,hE⟩:=cx
 have hl:∀b,b∈gn (envOfC qual scope s0.heap.objs.size f cd::outer)↔b=s0.heap.objs.size\/b∈gn outer:=fun b=>by
  show b∈s0.heap.objs.size::gn outer↔_
  exact List.mem_cons
 have out:∀b o,s0.heap.get? b=some o->b∉gn outer->b∉gn (envOfC qual scope s0.heap.objs.size f cd::outer):=fun b o q n z=>by
  rcases (hl b).mp z with z|z
  ·exact Nat.ne_of_lt (IM q) z
  ·exact n z
 have Fl:Fly P w (envOfC qual scope s0.heap.objs.size f cd::outer) s H cls x H' B a0 s':=Fl
 refine wpAny_leaves_onW (L:=s0.heap.objs.size) I.ok.frames rfl Fl.fly fun h2 f2 u=>?_
 have fr:∀b o,b∈gn outer->s'.heap.get? b=some o->∃sl,h2.get? b=some { o with slots:=sl }:=fun b o hb q=>by
  obtain ⟨_,o',e',hd⟩:=Fl.fly.2.2.1.mem (show b∈gn (envOfC qual scope s0.heap.objs.size f cd::outer) from (hl b).mpr (.inr hb))
  rw [q] at e'; cases e'
  exact u b o q hd
 have old:∀b o,s0.heap.get? b=some o->H0 b=none->b∉gn outer->B.get? b=some o:=fun b o q n hb=>
  Fl.old b o (I.base.keep b o q n hb (by simp [eX])) (I.base.free b o q n (by simp [eX])) (out b o q hb)
 have all:∀b o,s0.heap.get? b=some o->b∉gn outer->∃o',B.get? b=some o':=fun b o q hb=>by
  obtain ⟨o',r⟩:=I.base.there b o q (by simp [eX])
  exact Fl.all b o' r (out b o q hb)
 refine ⟨x,cls,dx,H',B,a0,rfl,⟨Fl.os.trans I.os,Fl.bare,f2,Fl.trk,old,all,⟨fun b o q n hb _=>f2.1 b o (old b o q n hb),fun b o q n hb _=>?_,fun b o q n _=>?_,fun b o q _=>?_,fun b xs q=>Fl.un.tups b xs (I.base.tups b xs q),fun b o xs q=>Fl.un.frzs b o xs (I.base.frzs b o xs q),fun b ps q=>?_⟩,fun b v q=>(Fl.hok b v q).stay (fun c o hc r=>?_) (fun _ q=>q) fun _ _ q=>q⟩,hE⟩
 ·obtain ⟨sl,r⟩:=I.base.slot b o q n hb (by simp [eX])
  obtain ⟨sl',r'⟩:=Fl.un.slot b _ r (I.base.free b o q n (by simp [eX])) ((hl b).mpr (.inr hb)) 0x4
  obtain ⟨sl2,r2⟩:=fr b _ hb r'
  exact ⟨sl2,r2⟩
 ·obtain ⟨o',r⟩:=I.base.there b o q (by simp [eX])
  exact Fl.un.free b o' r (I.base.free b o q n (by simp [eX])) 0x4
 ·obtain ⟨o',r⟩:=I.base.there b o q (by simp [eX])
  by_cases hb:b∈gn outer
  ·obtain ⟨o2,r2⟩:=Fl.un.there b o' r 0x4
   obtain ⟨sl,r3⟩:=fr b o2 hb r2
   exact ⟨_,r3⟩
  ·obtain ⟨o2,r2⟩:=all b o q hb
   exact ⟨o2,f2.1 b o2 r2⟩
 ·obtain ⟨m1,e1⟩:=I.base.tbls b ps q
  obtain ⟨m2,e2⟩:=Fl.un.tbls b _ e1
  exact ⟨m1++m2,by rw [e2,Array.append_assoc]⟩
 ·have ht:∃v',H' c=some v':=by
   rcases hc with z|z
   ·exact ⟨v,z▸q⟩
   ·exact ⟨_,z⟩
  obtain ⟨v',hv'⟩:=ht
  obtain ⟨o2,e2⟩:=Fl.trk c v' hv'
  have:=Fl.fly.1 c o2 e2
  rw [r] at this; cases this
  exact f2.1 c _ e2
noncomputable def HR (n:Nat) (fm:List DV->M DV):Sp:=fun vs H Q E=>vs.length=n/\∃O xs r,(∀a,a∈O->∃o,H a=some o)/\lx O [] H H xs vs/\fm xs=some r/\Fn E O [] H H Q r
theorem F7 {P:Program} {w:World} {K:IU} {mg:Str->Option Value} {base:Heap} {x qual:Str} {st:Stmt} {f:Addr} {fd:FuncData} {N ps:List Str} {k n:Nat} {F:DS->M Out} (Fu:Fun K x qual st f fd) (S:FnScope N ps (ar st)) (hn:ps.length=n)
  (body:∀(cdv:Value) (A:Around) (outer:List Env) (s:Shared) (H:Hp) (E:XK),Room k (A.deeper (envOfC qual (ar st) s.heap.objs.size f cdv)) ->
   wb (eX (sm P w) P w K mg base N qual (ar st) f cdv A outer s H E) E (eE st) F):FnOk P w K mg base (sm P w) (k+1) f fd ps (HR n (fP N F)):=by
 obtain ⟨oc,od,kV,doc,pm,an,cdv,ct,osl,rfl,lk,hcd⟩:=Fu.ex
 refine yK lk hcd S (fun vs H Q E h=>h.1.trans hn.symm) fun A outer s H vs Q E hr hsp=>⟨_,body cdv A outer s H E hr,?_⟩
 obtain ⟨_,O,xs,r,dom,rx,e,q⟩:=hsp
 rcases az e with ⟨o,e1,e2⟩|⟨c,e1,e2⟩
 ·refine ⟨O,[],mR N xs,.ok o,RS.start dom rx,e1,?_⟩
  cases o with
  |rt y=>
   cases e2
   intro v H1 H' P' k' s' _ _ ry
   obtain ⟨sH,ry'⟩:=ry.out k' s'
   exact q v H' sH ry'
  |nx δ=>
   cases e2
   intro σ' H' P' k' _
   exact q .non H' (fun b o e=>k'.keep b o 0x4 e) .none
  |bk δ=>cases e2
  |ct δ=>cases e2
 ·subst e2
  exact ⟨O,[],mR N xs,.error c,RS.start dom rx,e1,fun dx H' P' k'=>q dx H' fun b o e=>k'.keep b o 0x4 e⟩
structure HasX (P:Program) (w:World) (K:IU) (mg:Str->Option Value) (base:Heap) (k:Nat) (x:Str) (n:Nat) (fm:List DV->M DV):Prop where
 ex:∃fn fd ps,FnOk P w K mg base (sm P w) k fn fd ps (HR n fm)/\mg x=some (.ref fn)/\PySem.W.keepIn K (.ref fn)=true/\ix K fd ps []
theorem HasX.mono {P:Program} {w:World} {K:IU} {mg:Str->Option Value} {base:Heap} {j k:Nat} {x:Str} {n:Nat} {fm:List DV->M DV} (h:HasX P w K mg base j x n fm) (hj:j<=k):HasX P w K mg base k x n fm:=by
 obtain ⟨fn,fd,ps,h1,h2,h3,h4⟩:=h.ex
 exact ⟨fn,fd,ps,h1.mono hj,h2,h3,h4⟩
theorem Df.hasX {P:Program} {w:World} {K:IU} {mg:Str->Option Value} {base:Heap} {x:Str} {st:Stmt} {ps:List Str} {k n:Nat} {fm:List DV->M DV} (D:Df K mg x st ps)
  (h:∀f fd,Fun K x x st f fd->FnOk P w K mg base (sm P w) k f fd ps (HR n fm)):HasX P w K mg base k x n fm:=by
 obtain ⟨f,fd,Fu,hm,hb⟩:=D
 exact ⟨f,fd,ps,h f fd Fu,hm,Fu.kp,hb⟩
noncomputable def cQ (n:Nat) (fm:List DV->M DV) (xs:List DV):M DV:=bd (op (args xs)) fun ys=>if ys.length=n then fm ys else none
section
variable {X:Cx} {E:XK} {e:Expr} {es:List Expr} {pos p np cpos p2:Pos} {fr:DS->M (List DV)} {x:Str} {C:Addr} {z:Str} {jj:Nat}
theorem jk {k n:Nat} {fm:List DV->M DV} (F:HasX X.prog X.w X.K X.mg X.base k x n fm) (hr:Room k X.A) (pass:gB (sm X.prog X.w) X E) (ha:wM X E (e::es) fr) (hg:Gl X x:=by rfl) (hdb:(x==("__debug__" : Str))=false:=by decide)
  (he:starEach (e::es) X.env=(false,eval e X.env)::starEach es X.env:=by rfl) (hpl:(backTo pos (starEach es X.env)).any (·.1)=false:=by rfl) :
  PX X E (.Call (.Name x p) (e::es) [] pos) (aG (cQ n fm) fr):=by
 obtain ⟨fn,fd,ps,h1,h2,h3,h4⟩:=F.ex
 refine PE.mono (wN h1 hr hg h2 h3 h4 .nil pass ha hdb he hpl) fun σ H Q q=>mf (g:=fun _=>cQ n fm) q fun O P δ xs r vs H1 rs rs1 s1 rx e q=>?_
 obtain ⟨ys,e1,e2⟩:=cw e
 split at e2
 ·rename_i hl
  have ry:=lx.hand rs.dom s1 rx e1
  refine ⟨?_,P++O,ys,r,fun a ha=>?_,?_,e2,?_⟩
  ·rw [List.append_nil,<-Paired.length ry]; exact hl
  ·obtain ⟨o,e'⟩:=rs.dom a ha
   exact ⟨o,s1 a o e'⟩
  ·rw [List.append_nil]; exact ry
  ·cases r with
   |ok y=>exact fun v H' s2 rv=>q v H' s2 (rv.back s1)
   |error c=>exact q
 ·cases e2
theorem kL (mk:wD X E) (O:Xc X.K X.mg x C) (hg:Gl X x:=by rfl) (hd:(x==("__debug__" : Str))=false:=by decide) :
  uz X E (.Raise (some (.Call (.Name x np) [.Constant (.str z) jj p2] [] cpos)) none pos) (fun _=>some (.error (.ref C))):=PS.mono (nz mk O hg hd) fun T σ H q=>by
 obtain ⟨O',P,δ,r,rs,e,q⟩:=q
 cases e
 exact q none H P .refl
end
theorem ku {P:Program} {w:World} {K:IU} {mg:Str->Option Value} {base:Heap} {N:List Str} {qual:Str} {scope:Scope} {f:Addr} {cd:Value} {A:Around} {outer:List Env} {s0:Shared} {H0:Hp} {E:XK} {k:Nat}
  (hr:Room k (A.deeper (envOfC qual scope s0.heap.objs.size f cd))):wD (eX (sm P w) P w K mg base N qual scope f cd A outer s0 H0 E) E:=⟨hr.hd,fun _ _ _ _ _ _ _ _ I hm hE=>vZ I hm hE⟩
open Builtin Builtin.ObjectAttr Builtin.Getset_descriptor
section
variable {prog:Program} {w:World} {A:Around} {E:Value->Shared->Prop} {s:Shared} {K:IU} {x D:Addr}
end
section
variable {X:Cx} {e C:Addr} {oe:Obj} {i:Nat} {n y:Str} {p p1 p2 pos:Pos} {c:Value} {b:Bool}
end
end L3
namespace L2
open PySem PySem.Spec PyProof.Rows
section
variable {X:Cx} {k:Nat} {js:List Nat} {N':List Str} {scope:Scope} {elt tg iter:Expr} {ifs:List Expr} {pos:Pos} {wi:TI} {g:TG} {tc:TT} {te:TE}
theorem yQ {use:Option (Value->Sem Unit)} {Q':Value->Shared->Prop} {ip:Pos} (S:CompFit X k js N' scope) (hc:X.calm=true) (hi:PI X tg iter wi)
  (hg:∀C s₂ H₂ fp,PG (aP X N' scope C s₂ H₂ fp) tg g) (hf:∀C s₂ H₂ fp,PF (aP X N' scope C s₂ H₂ fp) ifs tc) (he:∀C s₂ H₂ fp,PE (aP X N' scope C s₂ H₂ fp) elt te)
  {pins:List (Addr×Obj)} {s:Shared} {σ:St} {H:Hp} {Q:VK} (I:Inv X pins σ H s) (h:wm wi k js g tc te σ H Q)
  (hend:∀(D C:Addr) (s4:Shared) (m:Str->Option Value),s4.heap.Ns C m->X.s₀.heap.objs.size<=C->C≠X.env.locals->(∀x c,X.env.cells.lookup x=some c->c≠C)->(∀p∈X.pn++pins,p.1≠C) ->
   (∀h',Heap.SameBut C s4.heap h'->∃H5,Inv X pins σ H5 { s4 with heap:=h' }/\H5 C=none/\Q (.ref D) H5)->compPost (model X.prog X.w) X.A X.xe use Q' (.ref D) C (.ok .next) s4)
  (hs:∀x,foldedSetIterable iter X.env x=pure x) :
  wpAny (model X.prog X.w) X.A (comprehension (.ListComp elt [⟨tg,iter,ifs,0⟩] scope pos) scope X.env ip (newList []) false (eval iter X.env) use) Q' X.xe s:=by
 refine wpAny_comprehension_free (use:=use) rfl hs (we fun y hy hk=>I.ok.has y.1 (S.free y hy hk)) S.kind S.loc ?_
 refine cJ (hi pins s σ H _ I h) fun v s1 h1=>cJ h1 fun itv s₂ h2=>?_
 obtain ⟨it,fp,tn,J,H₂,rfl,I2,T,st2,f2,W,⟨m0,w0⟩,turn⟩:=h2
 have lt2:∀b∈fp,b<s₂.heap.objs.size:=fun b hb=>by obtain ⟨o,e,_⟩:=T.obj 0 _ st2 b hb; exact IM e
 refine wpAny_newObj_type (wpAny_newFunctionEnv S.nocell (by intro y hy; simp at hy) (fun h₁ hns₁ hsb₁=>?_) S.kind)
 dsimp only at hns₁ hsb₁ ⊢
 generalize hH2:s₂.heap.push { cls:=.type "list",dict:=none,data:=.seq ([]:List Value).toArray }=G at hns₁ hsb₁ ⊢
 have hC:G.objs.size=s₂.heap.objs.size+1:=by rw [<-hH2,Heap.size_push]
 have hDC:s₂.heap.objs.size≠G.objs.size:=by lia
 have hCle:s₂.heap.objs.size<=G.objs.size:=by lia
 have old:∀b o,s₂.heap.get? b=some o->h₁.get? b=some o:=fun b o e=>hsb₁.extBut b o (gv e hCle) (IG _ (hH2▸IG _ e))
 have hacc:h₁.get? s₂.heap.objs.size=some { cls:=.type "list",data:=.seq ([]:List Value).toArray }:=hsb₁.extBut _ _ hDC (IG _ (hH2▸Heap.get?_push_size _ rfl))
 have hf2:∀b∈fp,mP X pins H₂ b/\b<s₂.heap.objs.size:=fun b hb=>⟨f2 b hb,lt2 b hb⟩
 have I0:∀tk,Inv (aP X N' scope G.objs.size s₂ H₂ fp) [] (iT k js σ) H₂ { s₂ with heap:=h₁,toks:=tk }:=fun tk=>nE I2 S hCle hf2 old hns₁
 generalize hD:s₂.heap.objs.size=D at *
 have hDnone:∀{H':Hp} {s':Shared} {σ':St} {pp:List (Addr×Obj)} {o:Obj},Inv (aP X N' scope G.objs.size s₂ H₂ fp) (pp++[(D,o)]) σ' H' s'->H' D=none/\s'.heap.get? D=some o:=fun {H' s' σ' pp o} J=>by
  have q:=J.pin (D,o) (IH _ (IH _ (List.mem_singleton.mpr rfl)))
  exact ⟨q.2.1,q.1⟩
 have hDfs:D∉gn X.stack:=fun z=>by
  obtain ⟨_,o,ho,_⟩:=I2.stack.mem z
  exact gv ho (Nat.le_of_eq hD) rfl
 have hDcell:∀x c,(aP X N' scope G.objs.size s₂ H₂ fp).env.cells.lookup x=some c->c≠D:=fun x c e z=>by
  obtain ⟨v,q⟩:=I2.cell x c (bW (fun d hd=>by simp at hd) e)
  exact dt q.lt (Nat.le_of_eq hD) z
 have stat:∀{H':Hp} {pp:List (Addr×Obj)},(∀b∈fp,H' b=none)->(∀p∈pp,p.1=D)->∀b∈fp,mP (aP X N' scope G.objs.size s₂ H₂ fp) pp H' b:=fun {H' pp} hn hp b hb=>by
  refine ⟨hn b hb,fun z=>?_,fun z=>?_,.inl hb,fun x c e=>(hf2 b hb).1.2.2.2.2.1 x c (bW (fun d hd=>by simp at hd) e),fun p hp' z=>?_⟩
  ·exact dt (lt2 b hb) hCle z
  ·rcases List.mem_cons.mp (I2.stkSub b z) with e|e
   ·exact (hf2 b hb).1.2.1 e
   ·exact (hf2 b hb).1.2.2.1 e
  ·have e1:p.1=D:=hp p (by simpa [aP] using hp')
   exact dt (lt2 b hb) (IJ _) (z.symm.trans e1)
 have pinD:∀{σ':St} {H':Hp} {s':Shared} {ys:List Value} {c:Nat},Inv (aP X N' scope G.objs.size s₂ H₂ fp) [] σ' H' s'->s'.heap.get? D=some { cls:=.type "list",data:=.seq ys.toArray c }->H' D=none ->
   Inv (aP X N' scope G.objs.size s₂ H₂ fp) [(D,{ cls:=.type "list",data:=.seq ys.toArray c })] σ' H' s':=fun {σ' H' s' ys c} J e n=>J.pins_of fun p hp=>by
  have e1:=List.mem_singleton.mp hp
  subst e1
  exact ⟨e,n,hDC,hDfs,fun v z=>by cases z⟩
 have loop:∀s₃:Shared,(∃tk,s₃={ s₂ with heap:=h₁,toks:=tk })->codeAny (model X.prog X.w) X.A (.compLoop (.ListComp elt [⟨tg,iter,ifs,0⟩] scope pos) 0 (.ref it) (.ref D) (aP X N' scope G.objs.size s₂ H₂ fp).env)
   (compPost (model X.prog X.w) X.A X.xe use Q' (.ref D) G.objs.size) s₃:=by
  rintro s₃ ⟨tk,rfl⟩
  refine nX (fun n s'=>∃i σ' H' xs ys c,Inv (aP X N' scope G.objs.size s₂ H₂ fp) [] σ' H' s'/\tn i s'.heap/\(∀b∈fp,H' b=none)/\H' D=none/\s'.heap.get? D=some { cls:=.type "list",data:=.seq ys.toArray c }/\aQ xs ys/\W i n σ' H' xs)
   ?_ m0 ⟨0,_,H₂,[],[],0,I0 tk,T.keep _ _ _ st2 fun b hb o e=>old b o e,fun b hb=>(f2 b hb).1,I2.hok.fresh 0x1,hacc,.nil,w0⟩
  rintro n s' ⟨i,σ',H',xs,ys,c,J',st',fr',nD,eD,rv,w'⟩
  have J1:=pinD J' eD nD
  rcases turn i n σ' H' xs w' with ⟨stop,hz,fin⟩|⟨go,hz,step⟩
  ·refine cJ (T.done (aP X N' scope G.objs.size s₂ H₂ fp) rfl rfl rfl hc i _ s' σ' H' _ J1 (stat fr' fun p hp=>by rw [List.mem_singleton.mp hp]) st' stop) fun r s4 ⟨hr,J4⟩=>?_
   subst hr
   obtain ⟨nD4,eD4⟩:=hDnone (pp:=[]) J4
   obtain ⟨mC,hnC,_⟩:=J4.loc
   refine hend D G.objs.size s4 mC hnC (by have:=I2.sz; lia) (fun z=>dt (Nat.lt_of_lt_of_le I2.lt 0x1) (IJ G.objs.size) z.symm) (fun x c e z=>?_) (fun p hp z=>?_) fun h' hs'=>?_
   ·obtain ⟨v,q⟩:=I2.cell x c e
    exact dt (Nat.lt_of_lt_of_le q.lt 0x1) (IJ G.objs.size) z
   ·exact dt (Nat.lt_of_lt_of_le (IM (I2.pin p hp).1) 0x1) (IJ G.objs.size) z
   have keep4:∀b o,b≠G.objs.size->s4.heap.get? b=some o->h'.get? b=some o:=fun b o hb e=>hs'.extBut b o hb e
   have hC4:H' G.objs.size=none:=J4.free
   have hun:Un (gn X.stack) fp H₂ (du H' D (.lst xs)) s₂.heap h':=by
    have u:=J4.base
    have neD:∀b o,s₂.heap.get? b=some o->b≠D:=fun b o e=>gv e (Nat.le_of_eq hD)
    have neC:∀b o,s₂.heap.get? b=some o->b≠G.objs.size:=fun b o e=>gv e (by rw [hD]; exact hCle)
    have neD':∀b o,H₂ b=some o->b≠D:=fun b o e=>dt (I2.hok.lt e) (Nat.le_of_eq hD)
    refine ⟨fun b o e n hb hx=>keep4 b o (neC b o e) (u.keep b o e n hb hx),fun b o e n hb hx=>?_,fun b o e n hx=>by rw [aN (neD b o e)]; exact u.free b o e n hx,fun b o e hx=>?_,
     fun b xs e=>by rw [aN (neD' b _ e)]; exact u.tups b xs e,fun b o z e=>by rw [aN (neD' b _ e)]; exact u.frzs b o z e,fun b ps e=>by rw [aN (neD' b _ e)]; exact u.tbls b ps e⟩
    ·obtain ⟨sl,q⟩:=u.slot b o e n hb hx
     exact ⟨sl,keep4 b _ (neC b o e) q⟩
    ·obtain ⟨o',q⟩:=u.there b o e hx
     exact ⟨o',keep4 b _ (neC b o e) q⟩
   have hok4:lR X.prog X.w (du H' D (.lst xs)) h':=by
    intro b u e
    by_cases hb:b=D
    ·subst hb
     rw [cf] at e
     cases e
     exact ⟨hz,ys,c,rv,keep4 _ _ hDC eD4⟩
    ·rw [aN hb] at e
     have hnD:∀a o,H' a=some o->a≠D:=fun a o e z=>by rw [z,nD4] at e; cases e
     refine (J4.hok b u e).stay (fun a v ha q=>keep4 a v ?_ q) (fun a q=>by rw [aN (hnD a _ q)]; exact q) fun a zs q=>by rw [aN (hnD a _ q)]; exact q
     rintro rfl
     rcases ha with z|z
     ·rw [<-z,hC4] at e; cases e
     ·rw [hC4] at z; cases z
   refine ⟨du H' D (.lst xs),I2.call' (s':={ s4 with heap:=h' }) J4.os hun hok4 J4.bare (fun b hb=>?_),by rw [aN (Ne.symm hDC)]; exact hC4,fin D nD4⟩
   exact ⟨(f2 b hb).2.2.2.1,(f2 b hb).2.1,(f2 b hb).2.2.2.2.1,(f2 b hb).2.2.2.2.2⟩
  ·refine cJ (T.item (aP X N' scope G.objs.size s₂ H₂ fp) rfl rfl rfl hc i _ s' σ' H' CV J1 (stat fr' fun p hp=>by rw [List.mem_singleton.mp hp]) st' go) fun r s4 ⟨u,hr,h4⟩=>?_
   subst hr
   refine cJ h4 fun _ s5 ⟨x,H5,I5,r5,y5,st5,fr5⟩=>?_
   have I5':=I5.pinned (stat fr5 fun p hp=>by rw [List.mem_singleton.mp hp]) (T.obj _ _ st5)
   refine cJ (hg _ _ _ _ _ s5 σ' H5 x u _ I5' r5 (step x H5 y5)) fun _ s6 ⟨σ6,H6,I6,q6⟩=>?_
   refine cJ (hf _ _ _ _ _ s6 σ6 H6 _ I6 q6) fun ok s7 ⟨H7,I7,q7⟩=>?_
   have back:∀{σ8:St} {H8:Hp} {s8:Shared},Inv (aP X N' scope G.objs.size s₂ H₂ fp) ([(D,{ cls:=.type "list",data:=.seq ys.toArray c })]++lP fp s5.heap) σ8 H8 s8 ->
     Inv (aP X N' scope G.objs.size s₂ H₂ fp) [] σ8 H8 s8/\tn (i+1) s8.heap/\(∀b∈fp,H8 b=none)/\H8 D=none/\s8.heap.get? D=some { cls:=.type "list",data:=.seq ys.toArray c }:=fun {σ8 H8 s8} J=>by
    have pd:=J.pin (D,{ cls:=.type "list",data:=.seq ys.toArray c }) (IH _ (II _ (List.mem_singleton.mpr rfl)))
    have pf:∀b∈fp,∀o,s5.heap.get? b=some o->s8.heap.get? b=some o/\H8 b=none:=fun b hb o e=>by
     have q:=J.pin (b,o) (IH _ (IH _ (hV hb e)))
     exact ⟨q.1,q.2.1⟩
    refine ⟨J.pins_of fun p hp=>absurd hp 0x4,T.keep _ _ _ st5 fun b hb o e=>(pf b hb o e).1,fun b hb=>?_,pd.2.1,pd.1⟩
    obtain ⟨o,e,_⟩:=T.obj _ _ st5 b hb
    exact (pf b hb o e).2
   cases ok with
   |false=>
    simp only [Bool.false_eq_true,if_false] at q7 ⊢
    obtain ⟨m',hm,w7⟩:=q7
    obtain ⟨b1,b2,b3,b4,b5⟩:=back I7
    exact ⟨m',hm,i+1,σ6,H7,xs,ys,c,b1,b2,b3,b4,b5,rv,w7⟩
   |true=>
    simp only [if_true] at q7 ⊢
    refine cJ (he _ _ _ _ _ s7 σ6 H7 _ I7 q7) fun u8 s8 ⟨v8,H8,I8,r8,q8⟩=>?_
    obtain ⟨m',hm,w8⟩:=q8
    obtain ⟨b1,b2,b3,b4,b5⟩:=back I8
    refine append_at b5 (fun h9 hs9 e9=>?_) (by rw [List.size_toArray,<-rv.length]; exact Nat.le_of_lt hz)
    have I9:Inv (aP X N' scope G.objs.size s₂ H₂ fp) [] σ6 H8 { s8 with heap:=h9 }:=b1.turned (t':=s8.toks) (it:=D) (fun b o hb e=>(hs9.2 b hb).trans e) b4 hDC (.inr (by show s₂.heap.objs.size<=D; lia)) hDcell fun p hp=>absurd (show p∈([]:List (Addr×Obj)) from hp) 0x4
    refine ⟨m',hm,i+1,σ6,H8,xs++[v8],ys++[u8],c+1,I9,T.keep _ _ _ b2 fun b hb o e=>(hs9.2 b ?_).trans e,b3,b4,?_,aQ.append rv (.cons r8 .nil),w8⟩
    ·exact dt (lt2 b hb) (IJ _)
    ·rw [e9,List.push_toArray]
 exact codeAny_compStart_list (loop _ ⟨_,rfl⟩) (T.self _ 0 _ _ _ (T.keep _ _ _ st2 fun b hb o e=>old b o e) (loop _ ⟨_,rfl⟩))
theorem CQ {i:Nat} {y:Str} {py spos:Pos} (S:CompFit X k js N' scope) (hc:X.calm=true) (hN:X.N.Nodup) (hi:X.N[i]?=some y) (hx:X.env.scope.names.lookup y=some .local) (Fv:PI X tg iter wi)
  (hg:∀C s₂ H₂ fp,PG (aP X N' scope C s₂ H₂ fp) tg g) (hf:∀C s₂ H₂ fp,PF (aP X N' scope C s₂ H₂ fp) ifs tc) (he:∀C s₂ H₂ fp,PE (aP X N' scope C s₂ H₂ fp) elt te)
  (hsw:swapsWith (.ListComp elt [⟨tg,iter,ifs,0⟩] scope pos) (some (.Name y py)) spos.line X.env=pure true) (hs:∀x,foldedSetIterable iter X.env x=pure x) :
  PS X (.Assign [.Name y py] (.ListComp elt [⟨tg,iter,ifs,0⟩] scope pos) spos) (Ep (wm wi k js g tc te) (wH i)):=by
 intro pins s σ H D I h
 rw [exec_Assign_Name_used _ _ _ _ hsw]
 refine IK (wpAny_standAt (IK ?_))
 show wpAny _ X.A (do let _ <-comprehension (.ListComp elt [⟨tg,iter,ifs,0⟩] scope pos) scope X.env _ (newList []) false (eval iter X.env) (some (assign (.Name y py) X.env))) _ _ s
 refine IK (wpAny_mono (yQ (use:=some (assign (.Name y py) X.env)) (Q':=fun _ s'=>SP X pins D .next s') S hc Fv hg hf he I h (fun Dd C s4 m hn h0 h1 h2 h3 hfin=>?_) hs) (fun _ s' hq=>IL (IL hq)) fun _ _ e=>e)
 obtain ⟨H5,I5,n5,q5⟩:=hfin s4.heap (Heap.SameBut.refl _ _)
 show wpAny _ X.A (assign (.Name y py) X.env (.ref Dd)) _ X.xe s4
 refine wpAny_assign_Name (qo (v:=.ref Dd) I5 hN hi (.inl hx) rfl (fun s5 I6 ⟨a,hsb,ha⟩=>?_) (.inr hx))
 have haC:C≠a:=fun z=>by
  rcases ha with e|e
  ·exact h1 (z.trans e)
  ·exact h2 y a e z.symm
 refine ⟨m,hn.sameBut hsb haC,fun h' hs'=>⟨σ.set i (some (.ref Dd)),H5,?_,q5⟩⟩
 exact I6.turned (t':=s5.toks) (it:=C) (fun b o hb e=>(hs'.2 b hb).trans e) n5 h1 (.inr h0) h2 h3
end
end L2
namespace L3
open PySem PySem.Spec L2
open PyProof.Rows hiding St
section
variable {X:Cx} {E:XK} {k:Nat} {js:List Nat} {N':List Str} {scope:Scope} {elt tg iter:Expr} {ifs:List Expr} {pos py spos:Pos} {y:Str} {i:Nat} {fi:DS->M (List D)} {g:TG} {sf:D->DS->Option DS} {gc:DS->M Bool} {fe:DS->M DV}
theorem BX (S:CompFit X k js N' scope) (hj:js.Nodup) (hc:X.calm=true) (hN:X.N.Nodup) (Fv:DE X E tg iter fi) (ht:Dh g sf) (hsub:∀δ d δ1,sf d (cG k js δ)=some δ1->Sub (cG k js δ) δ1)
  (hg:∀C s₂ H₂ fp,PG (aP X N' scope C s₂ H₂ fp) tg g) (hf:∀C s₂ H₂ fp,PF (aP X N' scope C s₂ H₂ fp) ifs (As E0 gc)) (he:∀C s₂ H₂ fp,PX (aP X N' scope C s₂ H₂ fp) E0 elt fe)
  (hi:X.N[i]?=some y:=by rfl) (hx:X.env.scope.names.lookup y=some .local:=by rfl) (hsw:swapsWith (.ListComp elt [⟨tg,iter,ifs,0⟩] scope pos) (some (.Name y py)) spos.line X.env=pure true:=by rfl)
  (hs:∀x,foldedSetIterable iter X.env x=pure x:=by intro _; rfl):uz X E (.Assign [.Name y py] (.ListComp elt [⟨tg,iter,ifs,0⟩] scope pos) spos) (aO i (bE k js fi sf gc fe)):=
 PS.mono (CQ S hc hN hi hx Fv hg hf he hsw hs) fun T σ H q=>qk hj ht hsub (by
  obtain ⟨O,P,δ,r,rs,e,q⟩:=q
  rcases az e with ⟨x,e1,e2⟩|⟨cx,e1,e2⟩
  ·obtain ⟨z,e3,e4⟩:=cw e2
   cases e4
   refine ⟨O,P,δ,.ok x,rs,e1,fun v H1 s1 rx=>?_⟩
   obtain ⟨P',kp,rs'⟩:=rs.asg s1 rx e3 i
   exact q _ H1 P' kp rs'
  ·subst e2
   exact ⟨O,P,δ,.error cx,rs,e1,fun dx H' s=>q dx H' P (.same s)⟩)
end
section
variable {X:Cx} {E:XK}
theorem zj {prog:Program} {w:World} {A:Around} {E:Value->Shared->Prop} {s:Shared} {t b:Addr} {ws:List Value} {Q:Value->Shared->Prop} (ht:IsTup s.heap t #[]) (hb:IsTup s.heap b ws.toArray) (h:Q (.ref b) s):wpAny (model prog w) A (binaryOp .Add (.ref t) (.ref b)) Q E s:=by
 obtain ⟨⟨c1,d1,a1,l1⟩,o1,q1,n1,z1⟩:=id ht
 obtain ⟨⟨c2,d2,a2,l2⟩,o2,q2,n2,z2⟩:=id hb
 simp only at q1 z1 q2 z2
 subst q1 z1 q2 z2
 exact concat_meets ⟨_,o1,rfl⟩ ⟨_,o2,rfl⟩ noFill_tuple_add seq_tuple_add PySem.F.slot_tuple_add PySem.F.entry_tuple_add (PySem.F.args_tuple_add_2 _ _) (tuple_addW0 t b #[] ws.toArray n1 n2 d1 d2 l1 l2 rfl) ⟨o1,o2,h⟩
noncomputable def yU (x y:DV):M DV:=match x,y with
 |.d (.tuple xs),.d (.tuple ys)=>if xs.length+ys.length<=1000000 then rt (.d (.tuple (xs++ys))) else none
 |_,_=>none
theorem Bf:gq X E (binaryOp .Add) yU:=fun pins s σ O P H₀ H x y v u vv uu r Q I hd hs rx ry ev eu e q=>by
 unfold yU at e
 split at e
 ·rename_i xs ys
  split at e
  ·rename_i hz
   cases e
   have rx':Rp (P++O) H (.tuple xs) v:=rx
   have ry':Rp (P++O) H (.tuple ys) u:=ry
   cases rx' with
   |@tup a _ vs za ha la=>
    cases ry' with
    |@tup b _ us zb hb lb=>
     cases xs with
     |nil=>
      cases la
      cases ev
      cases eu
      obtain ⟨i1,r1,p1,_⟩:=I.tuple (jy.of ha)
      obtain ⟨i2,r2,p2,_⟩:=I.tuple (jy.of hb)
      cases r1
      exact zj p1 p2 ⟨.ref b,H,I,rfl,q _ H (aB.refl H) (.tup zb hb lb)⟩
     |cons x0 xr=>
      refine CN pins s σ H (.ref a) (.ref b) vv uu Q I ev eu ⟨a,b,vs,us,rfl,rfl,jy.of ha,jy.of hb,fun z=>?_,fB (by rw [<-la.length,<-lb.length]; exact hz),fun z=>?_,fun z p hp=>?_⟩
      ·subst z; cases la
      ·subst z
       cases lb
       rw [List.append_nil] at q
       exact q _ H (aB.refl H) (.tup za ha la)
      ·exact q _ _ (bH hp) (zf hd hs hp (la.append lb))
  ·cases e
 ·cases e
noncomputable def aA:=yh aY yU
theorem bh:gq X E (binaryOp .Add) aA:=bU.or Bf
noncomputable def oQ (xs:List DV):M DV:=match xs with
 |[x]=>match kZ x with
  |some (.list ys)=>rt (.d (.tuple ys))
  |some (.tuple ys)=>rt (.d (.tuple ys))
  |_=>none
 |_=>none
theorem yv:dc X E (.type "tuple") oQ:=dc.of oY fun O P H₀ H xs vs r Q hd hs rx e q=>by
 unfold oQ at e
 split at e
 ·rename_i x
  cases rx with
  |cons r1 rr=>
   cases rr
   split at e
   ·rename_i ys h
    cases e
    obtain ⟨a,ws,rfl,ha,l⟩:=r1.look.1 h
    exact ⟨a,ws,rfl,.inl ⟨gm.of ha,fun p hp=>q _ _ (bH hp) (zf hd hs hp l)⟩⟩
   ·rename_i ys h
    cases e
    cases x with
    |d z=>
     cases h
     have r':Rp (P++O) H (.tuple ys) _:=r1
     cases r' with
     |tup hz ha l=>exact ⟨_,_,rfl,.inr ⟨jy.of ha,q _ H (aB.refl H) (.tup hz ha l)⟩⟩
    |ob C fs=>cases h
    |tbl kvs=>cases h
    |ex q=>cases h
    |tpo p xs q=>cases h
    |nwt p xs q=>cases h
    |own zs=>cases h
    |new zs=>cases h
    |scr K ns=>cases h
   ·cases e
 ·cases e
noncomputable def ur (i:Nat) (f:DS->M DV) (δ:DS):M Out:=match δ[i]? with
 |some (some (.own xs))=>bd (f δ) fun x=>match x with
  |.new ys=>if xs.length+ys.length<=1000000 then rt (.nx (δ.set i (some (.own (xs++ys))))) else none
  |.d (.list ys)=>if xs.length+ys.length<=1000000 then rt (.nx (δ.set i (some (.own (xs++ys))))) else none
  |_=>none
 |_=>none
variable {e o:Expr} {pos apos cpos:Pos} {f:DS->M DV} {i:Nat}
theorem Dw (ho:PE X o (rH i)) (he:PX X E e f)
  (hbase:attributeBase o "extend" X.env (eval o X.env)=eval o X.env:=by rfl)
  (hfew:((backTo cpos (starEach [e] X.env)).all (fun x=>!x.1)&&(backToKw cpos (keywordEach [] X.env)).all (fun x=>x.1.isSome)
   && decide ([e].length+([]:List Keyword).length+(if ([]:List Keyword).isEmpty then 0 else 1)<30))=true:=by rfl)
  (hline:(apos.endLine==cpos.line)=true:=by rfl) (hs:starEach [e] X.env=(false,eval e X.env)::starEach [] X.env:=by rfl) (hplain:(backTo cpos (starEach [] X.env)).any (·.1)=false:=by rfl)
  (hsw:swapsWith (.Call (.Attribute o "extend" apos) [e] [] cpos) none pos.line X.env=pure false:=by rfl):uz X E (.Expr (.Call (.Attribute o "extend" apos) [e] [] cpos) pos) (ur i f):=
 PS.mono (kn (tG PySem.F.plainAttrs_list PySem.F.slot_list_extend PySem.F.type_list_extend xD ho (iv he jO hs) hbase hfew hline hs hplain) hsw) fun T σ H q=>by
  obtain ⟨O,P,δ,r,rs,e,q⟩:=q
  unfold ur at e
  split at e
  ·rename_i xs ei
   obtain ⟨v,ev,_,a,vs,rfl,hP,ha,l⟩:=rs.at' i _ ei
   refine ⟨.ref a,ev,.inl ⟨rfl,_,gm.of ha⟩,?_⟩
   rcases az e with ⟨x,e1,e2⟩|⟨cx,e1,e2⟩
   ·refine ⟨O,P,δ,.ok x,rs,e1,fun u H1 s1 rx=>?_⟩
    have fin:∀ys b us,u=.ref b->H1 b=some (.lst us)->RpL (P++O) H1 ys us->xs.length+ys.length<=1000000->r=.ok (.nx (δ.set i (some (.own (xs++ys)))))->w9 (.ref a) [u] H1 fun _ H2=>T.nx σ H2:=fun ys b us eu hb lb hz er=>by
     subst eu er
     have l1:=(l.kp (.same s1)).append lb
     obtain ⟨kp,rs'⟩:=(rs.same s1).grow ei ev l1 hP
     exact ⟨a,b,vs,us,rfl,rfl,s1 a _ ha,hb,fB (by rw [<-l.length,<-lb.length]; exact hz),q σ _ P ((Kp.same s1).trans kp) rs'⟩
    split at e2
    ·rename_i ys
     split at e2
     ·rename_i hz
      cases e2
      obtain ⟨b,us,eu,hb,lb⟩:=rx.list (xs:=ys) rfl
      exact fin ys b us eu hb lb hz rfl
     ·cases e2
    ·rename_i ys
     split at e2
     ·rename_i hz
      cases e2
      obtain ⟨b,us,eu,hb,lb⟩:=rx.list (xs:=ys) rfl
      exact fin ys b us eu hb lb hz rfl
     ·cases e2
    ·cases e2
   ·subst e2
    exact ⟨O,P,δ,.error cx,rs,e1,fun dx H' s=>q dx H' P (.same s)⟩
  ·cases e
noncomputable def one?:D->Option D
 |.none=>some .none
 |.bool b=>some (.bool b)
 |_=>none
noncomputable def Fy:DV->D->Bool
 |.d .none,.none=>true
 |.d (.bool a),.bool b=>a==b
 |_,_=>false
noncomputable def G0 (neg:Bool) (x y:DV):M DV:=match y with
 |.d .none=>match x with
  |.scr _ _=>none
  |_=>rt (.d (.bool (if neg=true then !Fy x .none else Fy x .none)))
 |.d (.bool b)=>match x with
  |.scr _ _=>none
  |_=>rt (.d (.bool (if neg=true then !Fy x (.bool b) else Fy x (.bool b))))
 |_=>none
theorem GL {M:Model} {A:Around} {E:Value->Shared->Prop} {s:Shared} {Q:Value->Shared->Prop} {v:Value} {b:Bool} (hv:∀i,v≠.builtin i) (h:Q (.bool (v==.bool b)) s):wpAny M A (compareOp .Is v (.bool b)) Q E s:=by
 cases v <;> first|exact IL h|exact absurd rfl (hv _)
theorem Ac {O P:List Addr} {H₀ H:Hp} {x:DV} {v:V} {vv:Value} (r:RE O P H₀ H x v) (e:bM v vv):(vv==Value.none)=Fy x .none:=by
 cases x with
 |d z=>
  have r':Rp (P++O) H z v:=r
  cases r' with
  |none=>cases e; rfl
  |bool b=>cases e; rfl
  |int i=>obtain ⟨t,rfl⟩:=e; rfl
  |str x _=>obtain ⟨t,rfl⟩:=e; rfl
  |tup _ _ _=>cases e; rfl
  |lst _ _ _=>cases e; rfl
 |ob C fs=>obtain ⟨a,dx,gs,rfl,_⟩:=r; cases e; rfl
 |tbl kvs=>obtain ⟨a,kv,rfl,_⟩:=r; cases e; rfl
 |ex q=>obtain rfl:=(show _=_ from r); cases e; rfl
 |tpo p xs q=>obtain ⟨t,a,ps,vs,qs,rfl,_⟩:=r; cases e; rfl
 |nwt p xs q=>obtain ⟨t,a,ps,vs,qs,rfl,_⟩:=r; cases e; rfl
 |own xs=>obtain ⟨a,vs,rfl,_⟩:=r; cases e; rfl
 |new xs=>obtain ⟨a,vs,rfl,_⟩:=r; cases e; rfl
 |scr K ns=>obtain ⟨a,rfl,_⟩:=r; cases e; rfl
theorem yq {O P:List Addr} {H₀ H:Hp} {x:DV} {v:V} {vv:Value} (b:Bool) (r:RE O P H₀ H x v) (e:bM v vv):(vv==Value.bool b)=Fy x (.bool b):=by
 cases x with
 |d z=>
  have r':Rp (P++O) H z v:=r
  cases r' with
  |none=>cases e; rfl
  |bool c=>cases e; cases b <;> cases c <;> rfl
  |int i=>obtain ⟨t,rfl⟩:=e; rfl
  |str x _=>obtain ⟨t,rfl⟩:=e; rfl
  |tup _ _ _=>cases e; rfl
  |lst _ _ _=>cases e; rfl
 |ob C fs=>obtain ⟨a,dx,gs,rfl,_⟩:=r; cases e; rfl
 |tbl kvs=>obtain ⟨a,kv,rfl,_⟩:=r; cases e; rfl
 |ex q=>obtain rfl:=(show _=_ from r); cases e; rfl
 |tpo p xs q=>obtain ⟨t,a,ps,vs,qs,rfl,_⟩:=r; cases e; rfl
 |nwt p xs q=>obtain ⟨t,a,ps,vs,qs,rfl,_⟩:=r; cases e; rfl
 |own xs=>obtain ⟨a,vs,rfl,_⟩:=r; cases e; rfl
 |new xs=>obtain ⟨a,vs,rfl,_⟩:=r; cases e; rfl
 |scr K ns=>obtain ⟨a,rfl,_⟩:=r; cases e; rfl
theorem BQ {O P:List Addr} {H₀ H:Hp} {x:DV} {v:V} {vv:Value} (r:RE O P H₀ H x v) (e:bM v vv):∀i,vv≠.builtin i:=by
 intro i z
 subst z
 cases x with
 |d z=>
  have r':Rp (P++O) H z v:=r
  cases r' with
  |none=>cases e
  |bool c=>cases e
  |int i=>obtain ⟨t,z⟩:=e; cases z
  |str x _=>obtain ⟨t,z⟩:=e; cases z
  |tup _ _ _=>cases e
  |lst _ _ _=>cases e
 |ob C fs=>obtain ⟨a,dx,gs,rfl,_⟩:=r; cases e
 |tbl kvs=>obtain ⟨a,kv,rfl,_⟩:=r; cases e
 |ex q=>obtain rfl:=(show _=_ from r); cases e
 |tpo p xs q=>obtain ⟨t,a,ps,vs,qs,rfl,_⟩:=r; cases e
 |nwt p xs q=>obtain ⟨t,a,ps,vs,qs,rfl,_⟩:=r; cases e
 |own xs=>obtain ⟨a,vs,rfl,_⟩:=r; cases e
 |new xs=>obtain ⟨a,vs,rfl,_⟩:=r; cases e
 |scr K ns=>obtain ⟨a,rfl,_⟩:=r; cases e
theorem C6:gq X E (compareOp .Is) (G0 false):=fun pins s σ O P H₀ H x y v u vv uu r Q I hd hs rx ry ev eu e q=>by
 unfold G0 at e
 split at e
 ·have ry':Rp (P++O) H .none u:=ry
  cases ry'
  cases eu
  refine is_none_gen ?_
  rw [Ac rx ev]
  cases x <;> cases e <;> exact ⟨.bl _,H,I,rfl,q _ H (aB.refl H) (.bool _)⟩
 ·rename_i b
  have ry':Rp (P++O) H (.bool b) u:=ry
  cases ry'
  cases eu
  refine GL (BQ rx ev) ?_
  rw [yq b rx ev]
  cases x <;> cases e <;> exact ⟨.bl _,H,I,rfl,q _ H (aB.refl H) (.bool _)⟩
 ·cases e
end
section
variable {X:Cx} {E:XK} {a b e o:Expr} {fa fb fo fe:DS->M DV} {pos:Pos}
end
open PySem PySem.Spec L2 PySem.SeqAt PySem.MeetsSeq
noncomputable abbrev HA (its:Array Value) (c:Nat):Obj:={ cls:=.type "list",dict:=none,data:=.seq its c,slots:=#[] }
noncomputable abbrev FX (l:Addr) (its:Array Value) (c:Nat) (x:Value) (q:Value->Bool) (j:Nat):PySem.Spec:=fun A R s=>s.heap.get? l=some (HA its c)/\(∀y,y∈its->EqAt A.in1 s y x (q y))/\R (.ok (.ret .none)) { s with heap:=s.heap.update l (Obj.mapSeq fun zs=>zs.eraseIdxIfInBounds j) }
theorem yG (l:Addr) (its:Array Value) (c:Nat) (x:Value) (q:Value->Bool) (j:Nat) (hj:j<its.size) (yes:q its[j]=true) (hz:its.size<=sizeLine):∀k i:Nat,j-i=k->i<=j->(∀m (hm:m<its.size),i<=m->m<j->q its[m]=false) ->
  Meets (Builtin.«list.remove.loop» ⟨[.ref l,x,rawInt i],[]⟩) (FX l its c x q j):=by
 intro k
 induction k with
 |zero=>
  intro i k0 le no prog w A R s ⟨at_,eqs,fin⟩
  obtain ⟨hp,gs,dr,tk,os⟩:=s
  obtain rfl:i=j:=by lia
  wp_walk using AutoSeq1.wpAny_loadPart' at_
  rw [show its[((i:Nat):Int).toNat]?=some its[i] by simp [hj]]
  refine IK (eqs _ (Array.getElem_mem hj) prog w _ _ ?_); rw [yes]
  have few:(its.eraseIdxIfInBounds i).size<=sizeLine+1:=Nat.le_trans (size_erased its _) (Nat.le_succ_of_le hz)
  wp_walk using (wpAny_updateSeq at_ rfl (hz:=hz) (_hz':=few)),AutoSeq1.wpAny_loadPart' at_
  simpa using fin
 |succ k ih=>
  intro i k1 le no prog w A R s ⟨at_,eqs,fin⟩
  obtain ⟨hp,gs,dr,tk,os⟩:=s
  have lt:i<its.size:=by lia
  wp_walk using AutoSeq1.wpAny_loadPart' at_
  rw [show its[((i:Nat):Int).toNat]?=some its[i] by simp [lt]]
  refine IK (eqs _ (Array.getElem_mem lt) prog w _ _ ?_); rw [no i lt (IJ _) 0x1]
  wp_walk
  rw [show ((i:Int)+1)=((i+1:Nat):Int) by push_cast; rfl]
  refine ⟨plainId_quiet plain_remove_loop _,codeAny_builtin entry_remove_loop ?_⟩
  rw [Around.under_plainId plain_remove_loop _]; exact ih (i+1) 0x1 0x1 (fun m hm h1 h2=>no m hm 0x1 h2) prog w A R _ ⟨at_,eqs,fin⟩
theorem DB (l:Addr) (its:Array Value) (c:Nat) (x:Value) (q:Value->Bool) (j:Nat) (hj:j<its.size) (yes:q its[j]=true) (no:∀m (hm:m<its.size),m<j->q its[m]=false) (hz:its.size<=sizeLine):Meets (Builtin.«list.remove» ⟨[.ref l,x],[]⟩) (FX l its c x q j):=by
 intro prog w A R s ⟨at_,eqs,fin⟩
 obtain ⟨hp,gs,dr,tk,os⟩:=s
 wp_walk using AutoSeq1.wpAny_loadPart' at_
 refine ⟨plainId_quiet plain_remove_loop _,codeAny_builtin entry_remove_loop ?_⟩
 rw [Around.under_plainId plain_remove_loop _]; exact yG l its c x q j hj yes hz _ 0 rfl (Nat.zero_le _) (fun m hm _ h2=>no m hm h2) prog w A R _ ⟨at_,eqs,fin⟩
section
variable {X:Cx} {E:XK} {e o:Expr} {f:DS->M DV} {pos:Pos}
noncomputable def G2 (x:V) (vs:List V) (H:Hp) (Q:VK):Prop:=∃O P H₀ l ys ws dy v d j,x=.ref l/\vs=[v]/\H l=some (.lst ws)/\RpL (P++O) H ys ws/\RE O P H₀ H dy v/\kZ dy=some d/\d.depth<=60/\ys.findIdx? (fun z=>PyData.eqv z d)=some j/\Q .non (du H l (.lst (ws.eraseIdx j)))
theorem yd (hu:X.A.units+64<cLine):HX X "list.remove" G2:=fun pins s σ H x xs v us Q I rx rs h=>by
 obtain ⟨O,P,H₀,a,ys,ws,dy,w,d,j,rfl,rfl,ha,l,r2,h2,hdp,hj,q⟩:=h
 obtain ⟨u,rfl,ru⟩:=oE rs
 cases rx
 obtain ⟨z,its,n,r,hl,e⟩:=I.lstM ha
 obtain ⟨⟨as,ra⟩,la⟩:=r2.reads I ru h2
 obtain ⟨bs,rb⟩:=RpL.reads I l r
 have hm:its.map (readOf s.heap)=ys:=SeqAt.readsAll_map ys _ _ l.lay rb
 rw [List.findIdx?_eq_some_iff_getElem] at hj
 obtain ⟨hj1,hj2,hj3⟩:=hj
 subst hm
 have hj':j<its.toArray.size:=by simpa using hj1
 refine call_meets PySem.F.slot_list_remove ⟨_,e,rfl⟩ PySem.F.entry_list_remove (PySem.F.args_list_remove_2 _ _) (DB a its.toArray n u (fun y=>PyData.eqv (readOf s.heap y) d) j hj' (by simpa using hj2) (fun m hm lt=>by simpa using hj3 m lt) (by rw [List.size_toArray]; lia))
  ⟨e,SeqAt.items_eqAt (vs:=its.toArray) rb ra l.lay la (by have:=Nat.min_le_right (PyData.depthAll (its.map (readOf s.heap))) d.depth; lia),?_⟩
 refine ⟨.non,_,I.lset (its':=its.eraseIdx j) ha e ?_ (r.eraseIdx j) ?_,rfl,q⟩
 ·show its.toArray.eraseIdxIfInBounds j=(its.eraseIdx j).toArray
  rw [List.eraseIdxIfInBounds_toArray]
 ·have:=pO ws j
  lia
noncomputable def xx (i:Nat) (f:DS->M DV) (δ:DS):M Out:=match δ[i]? with
 |some (some (.own xs))=>bd (f δ) fun x=>bd (op (kZ x)) fun d=>if d.depth<=60 then bd (op (xs.findIdx? fun z=>PyData.eqv z d)) fun j=>rt (.nx (δ.set i (some (.own (xs.eraseIdx j))))) else none
 |_=>none
theorem RpL.erase {Z:List Addr} {H:Hp}:∀{xs:List D} {vs:List V} (j:Nat),RpL Z H xs vs->RpL Z H (xs.eraseIdx j) (vs.eraseIdx j)
 |_,_,_,.nil=>by simp; exact .nil
 |_,_,0,.cons p l=>l
 |_,_,j+1,.cons p l=>.cons p (RpL.erase j l)
theorem ET {i:Nat} {apos cpos:Pos} (hu:X.A.units+64<cLine) (ho:PE X o (rH i)) (he:PX X E e f)
  (hbase:attributeBase o "remove" X.env (eval o X.env)=eval o X.env:=by rfl)
  (hfew:((backTo cpos (starEach [e] X.env)).all (fun x=>!x.1)&&(backToKw cpos (keywordEach [] X.env)).all (fun x=>x.1.isSome)
   && decide ([e].length+([]:List Keyword).length+(if ([]:List Keyword).isEmpty then 0 else 1)<30))=true:=by rfl)
  (hline:(apos.endLine==cpos.line)=true:=by rfl) (hs:starEach [e] X.env=(false,eval e X.env)::starEach [] X.env:=by rfl) (hplain:(backTo cpos (starEach [] X.env)).any (·.1)=false:=by rfl)
  (hsw:swapsWith (.Call (.Attribute o "remove" apos) [e] [] cpos) none pos.line X.env=pure false:=by rfl):uz X E (.Expr (.Call (.Attribute o "remove" apos) [e] [] cpos) pos) (xx i f):=
 PS.mono (kn (tG PySem.F.plainAttrs_list PySem.F.slot_list_remove PySem.F.type_list_remove (yd hu) ho (iv he jO hs) hbase hfew hline hs hplain) hsw) fun T σ H q=>by
  obtain ⟨O,P,δ,r,rs,e,q⟩:=q
  unfold xx at e
  split at e
  ·rename_i xs ei
   obtain ⟨v,ev,_,a,vs,rfl,hP,ha,l⟩:=rs.at' i _ ei
   refine ⟨.ref a,ev,.inl ⟨rfl,_,gm.of ha⟩,?_⟩
   rcases az e with ⟨x,e1,e2⟩|⟨cx,e1,e2⟩
   ·obtain ⟨d,e3,e4⟩:=cw e2
    split at e4
    ·rename_i hz
     obtain ⟨j,e5,e6⟩:=cw e4
     cases e6
     refine ⟨O,P,δ,.ok x,rs,e1,fun u H1 s1 rx=>?_⟩
     have l1:=(l.kp (.same s1))
     obtain ⟨k,rs'⟩:=(rs.same s1).grow ei ev (l1.erase j) hP
     exact ⟨O,P,_,a,xs,vs,x,u,d,j,rfl,rfl,s1 a _ ha,l1,rx,e3,hz,e5,q σ _ P ((Kp.same s1).trans k) rs'⟩
    ·cases e4
   ·subst e2
    exact ⟨O,P,δ,.error cx,rs,e1,fun dx H' s=>q dx H' P (.same s)⟩
  ·cases e
end
section
variable {X:Cx} {E:XK} {o e:Expr} {fo fe:DS->M DV} {pos:Pos}
end
noncomputable def lE:List DV->Option (List D×List D×List D)
 |[]=>none
 |.own xs::r=>(dA r).map fun q=>([],xs,q)
 |x::r=>match vS x,lE r with
  |some d,some (p,xs,q)=>some (d::p,xs,q)
  |_,_=>none
theorem lx.split {O P:List Addr} {H H':Hp} (dom:∀a,a∈P++O->∃o,H a=some o):∀{xs:List DV} {vs:List V} {p ys q:List D},lx O P H H' xs vs->lE xs=some (p,ys,q)->∃a ps us qs,vs=ps++.ref a::qs/\a∈P/\H' a=some (.lst us)/\RpL (P++O) H' p ps/\RpL (P++O) H' ys us/\RpL (P++O) H' q qs
 |[],_,_,_,_,_,h=>by cases h
 |x::r,v::vs,p,ys,q,.cons r1 t,h=>by
  have gen:(match vS x,lE r with
   |some d,some (p,xs,q)=>some (d::p,xs,q)
   |_,_=>none)=some (p,ys,q)->∃a ps us qs,v::vs=ps++.ref a::qs/\a∈P/\H' a=some (.lst us)/\RpL (P++O) H' p ps/\RpL (P++O) H' ys us/\RpL (P++O) H' q qs:=fun h=>by
   split at h
   ·rename_i d p' xs' q' h1 h2
    cases h
    obtain ⟨a,ps,us,qs,e,hP,ha,l1,l2,l3⟩:=lx.split dom t h2
    exact ⟨a,_::ps,us,qs,by rw [e]; rfl,hP,ha,.cons (r1.data dom h1) l1,l2,l3⟩
   ·cases h
  cases x with
  |own zs=>
   unfold lE at h
   cases hd:dA r with
   |none=>rw [hd] at h; cases h
   |some ds=>
    rw [hd] at h
    cases h
    obtain ⟨a,vs,rfl,hP,ha,l⟩:=r1
    exact ⟨a,[],vs,_,rfl,hP,ha,.nil,l,lx.data dom t hd⟩
  |d z=>exact gen h
  |new z=>exact gen h
  |ob C fs=>exact gen h
  |tbl kvs=>exact gen h
  |ex z=>exact gen h
  |tpo p xs z=>exact gen h
  |nwt p xs z=>exact gen h
  |scr K ns=>exact gen h
section
variable {X:Cx} {E:XK} {a b e o:Expr} {es:List Expr} {fa fb f fe:DS->M DV} {fr:DS->M (List DV)} {gc:DS->M Bool} {pos:Pos}
noncomputable def zR (fr:DS->M (List DV)) (δ:DS):M DV:=bd (fr δ) fun xs=>bd (op (lE xs)) fun t=>if xs.length<=1000000 then rt (.tpo t.1 t.2.1 t.2.2) else none
theorem BO {k:Nat} (h:wM X E es fr):PX X E (.Tuple es k pos) (zR fr):=PE.mono (Ax h) fun σ H Q q=>mf (g:=fun _ xs=>bd (op (lE xs)) fun t=>if xs.length<=1000000 then rt (.tpo t.1 t.2.1 t.2.2) else none) q fun O P δ xs r vs H1 rs rs1 s1 rx e q=>by
 obtain ⟨⟨p,ys,qq⟩,hd,e⟩:=cw e
 split at e
 ·rename_i hz
  cases e
  obtain ⟨a,ps,us,qs,e1,hP,ha,l1,l2,l3⟩:=lx.split rs.dom rx hd
  refine ⟨fB (by rw [<-Paired.length rx]; exact hz),fun t ht=>q _ _ (bH ht) ?_⟩
  have k:Kp (P++O) H1 (P++O) (du H1 t (.tup vs)):=.same (bH ht)
  refine ⟨t,a,ps,us,qs,rfl,fun h=>?_,by rw [cf,e1],hP,bH ht a _ ha,l1.kp k,l2.kp k,l3.kp k⟩
  obtain ⟨o,q⟩:=rs1.dom t h
  rw [q] at ht; cases ht
 ·cases e
noncomputable def Dj:DV->DV
 |.nwt p xs q=>.d (.tuple (p++.list xs::q))
 |x=>x
noncomputable def BU (f:DS->M DV) (δ:DS):M DV:=bd (f δ) fun x=>rt (Dj x)
theorem Fp (h:PX X E e f):PX X E e (BU f):=PE.mono h fun σ H Q q=>l8 (g:=fun _ x=>rt (Dj x)) q fun O P δ x r v H1 rs rs1 s1 rx e q=>by
 cases e
 refine q v H1 (aB.refl H1) ?_
 cases x with
 |nwt p xs qq=>
  obtain ⟨t,a,ps,vs,qs,rfl,hz,ht,hn,ha,l1,l2,l3⟩:=rx
  have sb:∀b,b∈P++O->b∈a::(P++O):=fun b hb=>IE _ hb
  refine Rp.tup (fun h=>hz (sb t h)) ht (RpL.append (l1.kp (.sub sb)) (.cons (Rp.lst (fun h=>?_) ha (l2.kp (.sub sb))) (l3.kp (.sub sb))))
  obtain ⟨o,z⟩:=rs.dom a h
  rw [hn] at z; cases z
 |d x=>exact rx
 |ob C fs=>exact rx
 |tbl kvs=>exact rx
 |ex z=>exact rx
 |tpo p xs z=>exact rx
 |own xs=>exact rx
 |new xs=>exact rx
 |scr K ns=>exact rx
theorem vb (i:Nat) (h:PB X E e gc):PB X E e (fun δ=>gc (frz i δ)):=PT.mono h fun σ H Q q=>by
 obtain ⟨O,P,δ,r,rs,e,q⟩:=q
 obtain ⟨P',hP,rs'⟩:=rs.frz i
 exact ⟨O,P',frz i δ,r,rs',e,q⟩
noncomputable def Gj:DV->Bool
 |.d .none=>true
 |.d (.bool _)=>true
 |.d (.int _)=>true
 |.d (.str _)=>true
 |_=>false
noncomputable def C0 (i:Nat) (f:DS->M DV) (δ:DS):M DV:=bd (f (frz i δ)) fun x=>if Gj x=true then rt x else none
theorem BG (i:Nat) (h:PX X E e f):PX X E e (C0 i f):=PE.mono h fun σ H Q q=>by
 obtain ⟨O,P,δ,r,rs,e,q⟩:=q
 obtain ⟨P',hP,rs'⟩:=rs.frz i
 rcases az e with ⟨x,e1,e2⟩|⟨c,e1,e2⟩
 ·split at e2
  ·rename_i hf
   cases e2
   refine ⟨O,P',frz i δ,.ok x,rs',e1,fun v H' s rx=>q v H' s ?_⟩
   unfold Gj at hf
   split at hf
   ·have rx':Rp (P'++O) H' .none v:=rx
    cases rx'; exact Rp.none
   ·rename_i bb
    have rx':Rp (P'++O) H' (.bool bb) v:=rx
    cases rx'; exact Rp.bool _
   ·rename_i bb
    have rx':Rp (P'++O) H' (.int bb) v:=rx
    cases rx'; exact Rp.int _
   ·rename_i bb
    have rx':Rp (P'++O) H' (.str bb) v:=rx
    cases rx' with
    |str _ hh=>exact Rp.str _ hh
   ·cases hf
  ·cases e2
 ·subst e2
  exact ⟨O,P',frz i δ,.error c,rs',e1,q⟩
noncomputable def wF (i k:Nat) (f:DS->M DV) (δ:DS):M Out:=match δ[i]? with
 |some (some (.tpo p xs q))=>if p.length=k then bd (f δ) fun x=>bd (op (vS x)) fun d=>if xs.length<1000000 then rt (.nx (δ.set i (some (.tpo p (xs++[d]) q)))) else none else none
 |_=>none
theorem BV {ps qs:List V} {v:V}:atI (ps++v::qs) (ps.length:Int)=some v:=by
 unfold atI
 have:AU (ps++v::qs).length (ps.length:Int)=some ps.length:=by
  unfold AU
  simp
  lia
 rw [this]
 simp
theorem Ct {i k:Nat} {apos cpos:Pos} (ho:PE X o (HY (Ig X.K) (rH i) (tC (.int (k:Int))))) (he:PX X E e f)
  (hbase:attributeBase o "append" X.env (eval o X.env)=eval o X.env:=by rfl)
  (hfew:((backTo cpos (starEach [e] X.env)).all (fun x=>!x.1)&&(backToKw cpos (keywordEach [] X.env)).all (fun x=>x.1.isSome)
   && decide ([e].length+([]:List Keyword).length+(if ([]:List Keyword).isEmpty then 0 else 1)<30))=true:=by rfl)
  (hline:(apos.endLine==cpos.line)=true:=by rfl) (hs:starEach [e] X.env=(false,eval e X.env)::starEach [] X.env:=by rfl) (hplain:(backTo cpos (starEach [] X.env)).any (·.1)=false:=by rfl)
  (hsw:swapsWith (.Call (.Attribute o "append" apos) [e] [] cpos) none pos.line X.env=pure false:=by rfl):uz X E (.Expr (.Call (.Attribute o "append" apos) [e] [] cpos) pos) (wF i k f):=
 PS.mono (kn (tG PySem.F.plainAttrs_list PySem.F.slot_list_append PySem.F.type_list_append qj ho (iv he jO hs) hbase hfew hline hs hplain) hsw) fun T σ H q=>by
  obtain ⟨O,P,δ,r,rs,e,q⟩:=q
  unfold wF at e
  split at e
  ·rename_i p xs qq ei
   split at e
   ·rename_i hk
    obtain ⟨v,ev,_,t,a,ps,vs,qs,rfl,hzt,ht,hP,ha,l1,l2,l3⟩:=rs.at' i _ ei
    refine ⟨.ref t,ev,.inr (.inl ⟨_,_,_,.ref a,rfl,rfl,jy.of ht,?_,?_⟩)⟩
    ·rw [<-hk,l1.length]; exact BV
    refine ⟨.inl ⟨rfl,_,gm.of ha⟩,?_⟩
    rcases az e with ⟨x,e1,e2⟩|⟨cx,e1,e2⟩
    ·obtain ⟨d,e3,e4⟩:=cw e2
     split at e4
     ·rename_i hz
      cases e4
      refine ⟨O,P,δ,.ok x,rs,e1,fun u H1 s1 rx=>?_⟩
      have ru:=rx.data rs.dom e3
      have l4:=(l2.kp (.same s1)).append (.cons ru .nil)
      have kz:Kp (P++O) H1 (P++O) (du H1 a (.lst (vs++[u]))):=⟨fun b o hb q=>by rw [aN (show b≠a from fun z=>hb (by rw [z]; exact II _ hP))]; exact q,fun b hb=>.inl hb⟩
      have hta:t≠a:=fun z=>hzt (by rw [z]; exact II _ hP)
      obtain ⟨k1,rs'⟩:=(rs.same s1).growG (x':=.tpo p (xs++[d]) qq) (us:=vs++[u]) ei ev (a:=a) ⟨t,_,rfl,s1 t _ ht,by rw [l1.length,List.getElem?_append_right (IJ _),Nat.sub_self]; rfl⟩ (fun _=>nofun)
       ⟨t,a,ps,vs++[u],qs,rfl,hzt,by rw [aN hta]; exact s1 t _ ht,hP,cf,(l1.kp (.same s1)).kp kz,l4.kp kz,(l3.kp (.same s1)).kp kz⟩ (fun b h=>by
        obtain ⟨t',us,e',ht',hu⟩:=h
        cases e'
        rw [aN hta,s1 t _ ht] at ht'
        cases ht'
        rw [l1.length,List.getElem?_append_right (IJ _),Nat.sub_self] at hu
        cases hu
        rfl) hP
      refine ⟨a,vs,u,rfl,rfl,s1 a _ ha,?_,q σ _ P ((Kp.same s1).trans k1) rs'⟩
      rw [<-l2.length]
      exact Nat.lt_of_lt_of_le hz (by rw [sizeLine_eq]; decide)
     ·cases e4
    ·subst e2
     exact ⟨O,P,δ,.error cx,rs,e1,fun dx H' s=>q dx H' P (.same s)⟩
   ·cases e
  ·cases e
end
section
variable {X:Cx} {E:XK}
noncomputable def oK:List D->Option (List Int)
 |[]=>some []
 |.int i::r=>(oK r).map (i::·)
 |_::_=>none
theorem pY:∀{xs:List D} {ns:List Int},oK xs=some ns->xs=ns.map PyData.int
 |[],ns,h=>by cases h; rfl
 |x::r,ns,h=>by
  cases x with
  |int b=>
   unfold oK at h
   cases e:oK r with
   |none=>rw [e] at h; cases h
   |some cs=>rw [e] at h; cases h; rw [pY e]; rfl
  |_=>cases h
theorem xO (ns:List Int):oK (ns.map PyData.int)=some ns:=by
 induction ns with
 |nil=>rfl
 |cons b r ih=>rw [List.map_cons,oK,ih]; rfl
noncomputable def BM (xs:List DV):M DV:=match xs with
 |[x]=>bd (op (ju x)) fun ys=>bd (op (oK ys)) fun ns=>rt (.d (.int ns.sum))
 |_=>none
theorem gQ {Z:List Addr} {H:Hp}:∀{ns:List Int} {vs:List V} {us:List Value},RpL Z H (ns.map PyData.int) vs->aQ vs us->∃ps:List (Int×Tok),us=ps.map (fun p=>Value.int p.1 p.2)/\ps.map (·.1)=ns
 |[],_,_,.nil,.nil=>⟨[],rfl,rfl⟩
 |b::r,_,_,.cons p l,.cons q t=>by
  cases p
  obtain ⟨tk,rfl⟩:=q
  obtain ⟨ps,e1,e2⟩:=gQ l t
  exact ⟨(b,tk)::ps,by rw [e1]; rfl,by rw [List.map_cons,e2]⟩
theorem EB:bootBuiltins "sum" = some (.builtin "sum"):=by decide +kernel
theorem E5 (hc:X.calm=true):dc X E (.builtin "sum") BM:=fun pins s σ O P H₀ H xs vs us r Q I hd hs rx rv e q=>by
 unfold BM at e
 split at e
 ·obtain ⟨ys,e1,e2⟩:=cw e
  obtain ⟨ns,e3,e4⟩:=cw e2
  cases e4
  cases rx with
  |cons r1 rr=>
   cases rr
   obtain ⟨a,ws,rfl,ha,l⟩:=r1.list e1
   cases rv with
   |cons q1 q2=>
    cases q2
    cases q1
    have hys:=pY e3
    subst hys
    obtain ⟨its,ri,pl,hz⟩:=I.list (gm.of ha)
    obtain ⟨ps,hits,hns⟩:=gQ l ri
    have hlist:=pl.isList
    have hl:s.heap.IsList a (intItems ps.toArray):=by
     have:its.toArray=intItems ps.toArray:=by rw [hits]; simp [intItems]
     rw [<-this]; exact hlist
    refine sum_intListG (I.ok.hd hc) hl fun h' tk t' hk=>?_
    have hsum:preSum (numAt ps.toArray) ps.toArray.size=ns.sum:=by
     rw [preSum_eq,List.take_of_length_le 0x4]
     rw [<-hns]
    rw [hsum]
    exact ⟨.int _,H,I.kept (t':=tk) fun b ob eb=>hk b ob eb,⟨_,rfl⟩,q _ H (aB.refl H) (.int _)⟩
 ·cases e
end
noncomputable def qV:Bool->Keyed->Array Keyed->Nat->Nat->Nat->StateT SortSt Sem (Option Nat):=sortPriv% PySem.Builtin.gallop
noncomputable def mL (M:Model) (A:Around) (E:Value->Shared->Prop) (s:Shared) (κ:SortKind) (key:Keyed->List Int) (P:Keyed->Prop):Prop:=
 ∀(x y:Keyed) (st:SortSt) (Q:Option Bool->SortSt->Prop),kindOf st=κ->P x->P y->Q (some (ll (key x) (key y))) st->wpS M A E s (lt' x y) Q st
noncomputable def Hf (key:Keyed->List Int) (left:Bool) (k x:Keyed):Bool:=if left=true then ll (key x) (key k) else !ll (key k) (key x)
section
variable {M:Model} {A:Around} {E:Value->Shared->Prop} {s:Shared} {κ:SortKind} {key:Keyed->List Int} {P:Keyed->Prop}
theorem aV {arr:Array Keyed} {i:Nat} {x:Keyed} {st:SortSt} {Q:Keyed->SortSt->Prop} (h:arr[i]?=some x) (hq:Q x st):wpS M A E s (elem' arr i) Q st:=by
 rw [elem'_eq,h]; exact wpS_pure hq
theorem qx (hA:mL M A E s κ key P) {left:Bool} {k:Keyed} {arr:Array Keyed} {base n hint:Nat} {st:SortSt} {Q:Option Nat->SortSt->Prop} (hk:kindOf st=κ)
  (hP:∀i,i<n->∃x,arr[base+i]?=some x/\P x) (hPk:P k) (hh:hint<n) (b:Nat->Bool) (hb:∀i x,i<n->arr[base+i]?=some x->b i=Hf key left k x)
  (mono:∀i j,i<=j->j<n->b j=true->b i=true)
  (h:∀r,r<=n->(∀i,i<r->b i=true)->(∀i,r<=i->i<n->b i=false)->Q (some r) st):wpS M A E s (qV left k arr base n hint) Q st:=by
 have ask:∀(i:Nat) (Q':Option Bool->SortSt->Prop),i<n->Q' (some (b i)) st->wpS M A E s (do let x <-elem' arr (base+i); if left=true then lt' x k else (do let r <-lt' k x; pure (r.map fun x=>!x))) Q' st:=fun i Q' hi hq=>by
  obtain ⟨x,ex,px⟩:=hP i hi
  rw [hb i x hi ex] at hq
  refine wpS_bind (aV ex ?_)
  cases left with
  |true=>exact hA x k st _ hk px hPk hq
  |false=>exact wpS_bind (hA k x st _ hk hPk px (wpS_pure hq))
 refine wpS_bind (ask hint _ hh ?_)
 dsimp only
 cases c:b hint with
 |true=>
  rw [if_pos rfl]
  refine wpS_bind (wpS_mono (wpS_forRange (I:=fun x c st'=>st'=st/\∃l o,c=(none,l,o)/\l<o/\x<=l/\l<n-hint/\b (hint+l)=true)
   (Q:=fun c st'=>st'=st/\∃l o,c=(none,l,o)/\l<o/\l<n-hint/\b (hint+l)=true/\(o>=n-hint\/(hint+o<n/\b (hint+o)=false))) ?_ ?_ ⟨rfl,0,1,rfl,0x1,0x1,0x1,c⟩) ?_)
  ·rintro x c st' _ hx ⟨rfl,l,o,rfl,h1,h2,h3,h4⟩
   dsimp only
   by_cases ho:o>=n-hint
   ·rw [if_pos ho]; exact wpS_pure ⟨rfl,l,o,rfl,h1,h3,h4,.inl ho⟩
   ·rw [if_neg ho]
    refine wpS_bind (ask (hint+o) _ 0x1 ?_)
    dsimp only
    cases c2:b (hint+o) with
    |true=>exact wpS_pure ⟨rfl,o,2*o+1,rfl,0x1,0x1,0x1,c2⟩
    |false=>exact wpS_pure ⟨rfl,l,o,rfl,h1,h3,h4,.inr ⟨0x1,c2⟩⟩
  ·rintro c st' ⟨rfl,l,o,rfl,h1,h2,h3,h4⟩
   exact absurd h2 0x1
  ·rintro c st' ⟨rfl,l,o,rfl,h1,h2,h3,h4⟩
   dsimp only
   have lo1:∀i,i<hint+l+1->b i=true:=fun i hi=>mono i (hint+l) 0x1 0x1 h3
   have hi1:∀i,hint+min o (n-hint)<=i->i<n->b i=false:=fun i q1 q2=>by
    rcases h4 with h4|⟨h4,h5⟩
    ·lia
    ·cases c3:b i with
     |false=>rfl
     |true=>rw [mono (hint+o) i 0x1 q2 c3] at h5; cases h5
   have lh:hint+l+1<=hint+min o (n-hint):=by lia
   have hn:hint+min o (n-hint)<=n:=by lia
   generalize hint+l+1=lo at *
   generalize hint+min o (n-hint)=hi at *
   clear h1 h2 h3 h4
   refine wpS_bind (wpS_mono (wpS_forRange (I:=fun x c st''=>st''=st'/\∃l o,c=(none,l,o)/\l<=o/\o<=n/\o-l<=n-x/\(∀i,i<l->b i=true)/\∀i,o<=i->i<n->b i=false)
    (Q:=fun c st''=>st''=st'/\∃l,c=(none,l,l)/\l<=n/\(∀i,i<l->b i=true)/\∀i,l<=i->i<n->b i=false) ?_ ?_ ⟨rfl,lo,hi,rfl,lh,hn,0x1,lo1,hi1⟩) ?_)
   ·rintro x c st'' _ hx ⟨rfl,l,o,rfl,q1,q2,q3,q4,q5⟩
    dsimp only
    by_cases hlo:l>=o
    ·rw [if_pos hlo]
     have:l=o:=by lia
     subst this
     exact wpS_pure ⟨rfl,l,rfl,q2,q4,q5⟩
    ·rw [if_neg hlo]
     refine wpS_bind (ask (l+(o-l) / 2) _ 0x1 ?_)
     dsimp only
     cases c2:b (l+(o-l) / 2) with
     |true=>exact wpS_pure ⟨rfl,_,_,rfl,0x1,q2,0x1,fun i hi=>mono i _ 0x1 0x1 c2,q5⟩
     |false=>
      refine wpS_pure ⟨rfl,_,_,rfl,0x1,0x1,0x1,q4,fun i u1 u2=>?_⟩
      cases c3:b i with
      |false=>rfl
      |true=>rw [mono _ i u1 u2 c3] at c2; cases c2
   ·rintro c st'' ⟨rfl,l,o,rfl,q1,q2,q3,q4,q5⟩
    have:l=o:=by lia
    subst this
    exact ⟨rfl,l,rfl,q2,q4,q5⟩
   ·rintro c st'' ⟨rfl,l,rfl,q2,q4,q5⟩
    exact wpS_pure (h l q2 q4 q5)
 |false=>
  rw [if_neg 0x4]
  refine wpS_bind (wpS_mono (wpS_forRange (I:=fun x c st'=>st'=st/\∃l o,c=(none,l,o)/\l<o/\x<=l/\l<=hint/\b (hint-l)=false)
   (Q:=fun c st'=>st'=st/\∃l o,c=(none,l,o)/\l<o/\l<=hint/\b (hint-l)=false/\(o>=hint+1\/(o<=hint/\b (hint-o)=true))) ?_ ?_ ⟨rfl,0,1,rfl,0x1,0x1,0x1,c⟩) ?_)
  ·rintro x c st' _ hx ⟨rfl,l,o,rfl,h1,h2,h3,h4⟩
   dsimp only
   by_cases ho:o>=hint+1
   ·rw [if_pos ho]; exact wpS_pure ⟨rfl,l,o,rfl,h1,h3,h4,.inl ho⟩
   ·rw [if_neg ho]
    refine wpS_bind (ask (hint-o) _ 0x1 ?_)
    dsimp only
    cases c2:b (hint-o) with
    |true=>exact wpS_pure ⟨rfl,l,o,rfl,h1,h3,h4,.inr ⟨0x1,c2⟩⟩
    |false=>exact wpS_pure ⟨rfl,o,2*o+1,rfl,0x1,0x1,0x1,c2⟩
  ·rintro c st' ⟨rfl,l,o,rfl,h1,h2,h3,h4⟩
   exact absurd h2 0x1
  ·rintro c st' ⟨rfl,l,o,rfl,h1,h2,h3,h4⟩
   dsimp only
   have lo1:∀i,i<hint+1-min o (hint+1)->b i=true:=fun i hi=>by
    rcases h4 with h4|⟨h4,h5⟩
    ·lia
    ·exact mono i (hint-o) 0x1 0x1 h5
   have hi1:∀i,hint-l<=i->i<n->b i=false:=fun i q1 q2=>by
    cases c3:b i with
    |false=>rfl
    |true=>rw [mono (hint-l) i 0x1 q2 c3] at h3; cases h3
   have lh:hint+1-min o (hint+1)<=hint-l:=by lia
   have hn:hint-l<=n:=by lia
   generalize hint+1-min o (hint+1)=lo at *
   generalize hint-l=hi at *
   clear h1 h2 h3 h4
   refine wpS_bind (wpS_mono (wpS_forRange (I:=fun x c st''=>st''=st'/\∃l o,c=(none,l,o)/\l<=o/\o<=n/\o-l<=n-x/\(∀i,i<l->b i=true)/\∀i,o<=i->i<n->b i=false)
    (Q:=fun c st''=>st''=st'/\∃l,c=(none,l,l)/\l<=n/\(∀i,i<l->b i=true)/\∀i,l<=i->i<n->b i=false) ?_ ?_ ⟨rfl,lo,hi,rfl,lh,hn,0x1,lo1,hi1⟩) ?_)
   ·rintro x c st'' _ hx ⟨rfl,l,o,rfl,q1,q2,q3,q4,q5⟩
    dsimp only
    by_cases hlo:l>=o
    ·rw [if_pos hlo]
     have:l=o:=by lia
     subst this
     exact wpS_pure ⟨rfl,l,rfl,q2,q4,q5⟩
    ·rw [if_neg hlo]
     refine wpS_bind (ask (l+(o-l) / 2) _ 0x1 ?_)
     dsimp only
     cases c2:b (l+(o-l) / 2) with
     |true=>exact wpS_pure ⟨rfl,_,_,rfl,0x1,q2,0x1,fun i hi=>mono i _ 0x1 0x1 c2,q5⟩
     |false=>
      refine wpS_pure ⟨rfl,_,_,rfl,0x1,0x1,0x1,q4,fun i u1 u2=>?_⟩
      cases c3:b i with
      |false=>rfl
      |true=>rw [mono _ i u1 u2 c3] at c2; cases c2
   ·rintro c st'' ⟨rfl,l,o,rfl,q1,q2,q3,q4,q5⟩
    have:l=o:=by lia
    subst this
    exact ⟨rfl,l,rfl,q2,q4,q5⟩
   ·rintro c st'' ⟨rfl,l,rfl,q2,q4,q5⟩
    exact wpS_pure (h l q2 q4 q5)
end
noncomputable def Le (key:Keyed->List Int) (x y:Keyed):Prop:=ll (key y) (key x)=false
section
variable {key:Keyed->List Int}
theorem Le.refl (x:Keyed):Le key x x:=cX _
theorem Le.trans {x y z:Keyed} (h1:Le key x y) (h2:Le key y z):Le key x z:=ee h1 h2
theorem Le.of_lt {x y:Keyed} (h:ll (key x) (key y)=true):Le key x y:=fv h
noncomputable def eN (key:Keyed->List Int) (arr:Array Keyed) (lo hi:Nat):Prop:=∀i j x y,lo<=i->i<=j->j<hi->arr[i]?=some x->arr[j]?=some y->Le key x y
theorem iO {arr:Array Keyed}:arr.toList.Pairwise (Le key)↔eN key arr 0 arr.size:=by
 constructor
 ·intro h i j x y _ hij hj ex ey
  rcases Nat.lt_or_ge i j with hlt|hge
  ·obtain ⟨hi',rfl⟩:=Array.getElem?_eq_some_iff.mp ex
   obtain ⟨hj',rfl⟩:=Array.getElem?_eq_some_iff.mp ey
   have:=List.pairwise_iff_getElem.mp h i j (by simpa using hi') (by simpa using hj') hlt
   simpa using this
  ·have:i=j:=by lia
   subst this
   rw [ex] at ey; cases ey; exact Le.refl _
 ·intro h
  refine List.pairwise_iff_getElem.mpr fun i j hi hj hij=>?_
  have hi':i<arr.size:=by simpa using hi
  have hj':j<arr.size:=by simpa using hj
  exact h i j _ _ (Nat.zero_le _) (Nat.le_of_lt hij) hj' (by simp [hi']) (by simp [hj'])
theorem cN {arr:Array Keyed} {i:Nat} (h:i<arr.size):∃x,arr[i]?=some x/\x∈arr.toList:=⟨arr[i],by simp [h],0x4⟩
theorem gK {arr:Array Keyed} {i:Nat} {y:Keyed} (h:y∈arr.toList.drop i):∃j,i<=j/\j<arr.size/\arr[j]?=some y:=by
 obtain ⟨j,hj,rfl⟩:=List.getElem_of_mem h
 simp at hj
 refine ⟨i+j,0x1,0x1,?_⟩
 have:i+j<arr.size:=by lia
 simp [this]
theorem gS {arr:Array Keyed} {i:Nat} {y:Keyed} (h:y∈arr.toList.take i):∃j,j<i/\j<arr.size/\arr[j]?=some y:=by
 obtain ⟨j,hj,rfl⟩:=List.getElem_of_mem h
 simp at hj
 refine ⟨j,0x1,0x1,?_⟩
 have:j<arr.size:=by lia
 simp [this]
theorem dG {arr:Array Keyed} {i k:Nat} {y:Keyed} (h:y∈(arr.extract i k).toList):∃j,i<=j/\j<k/\j<arr.size/\arr[j]?=some y:=by
 obtain ⟨j,hj,rfl⟩:=List.getElem_of_mem h
 simp at hj
 refine ⟨i+j,0x1,0x1,0x1,?_⟩
 have:i+j<arr.size:=by lia
 simp [this]
theorem mY {arr:Array Keyed} {i:Nat}:(arr.extract i).toList=arr.toList.drop i:=by
 rw [Array.toList_extract,List.extract_eq_take_drop]
 exact List.take_of_length_le 0x4
theorem jr {arr:Array Keyed} {i:Nat}:(arr.extract 0 i).toList=arr.toList.take i:=by
 rw [Array.toList_extract,List.extract_eq_take_drop]
 rfl
theorem wC {arr:Array Keyed} {i:Nat} {x:Keyed} (h:arr[i]?=some x):arr.toList.drop i=x::arr.toList.drop (i+1):=by
 obtain ⟨hi,rfl⟩:=Array.getElem?_eq_some_iff.mp h
 have hi':i<arr.toList.length:=by simpa using hi
 rw [List.drop_eq_getElem_cons hi']
 simp
theorem wy {arr:Array Keyed} {i:Nat} {x:Keyed} (h:arr[i]?=some x):arr.toList.take (i+1)=arr.toList.take i++[x]:=by
 obtain ⟨hi,rfl⟩:=Array.getElem?_eq_some_iff.mp h
 have hi':i<arr.toList.length:=by simpa using hi
 rw [List.take_succ_eq_append_getElem hi']
 simp
theorem nS {arr:Array Keyed} {i k:Nat}:arr.toList.drop i=(arr.extract i (i+k)).toList++arr.toList.drop (i+k):=by
 rw [Array.toList_extract,List.extract_eq_take_drop,<-List.drop_drop,show i+k-i=k by lia,List.take_append_drop]
theorem iH {arr:Array Keyed} {i k:Nat} (h:i<=k):arr.toList.take k=arr.toList.take i++(arr.extract i k).toList:=by
 rw [Array.toList_extract,List.extract_eq_take_drop]
 conv=>lhs; rw [show k=i+(k-i) by lia,List.take_add]
structure MI (key:Keyed->List Int) (la lb o ra rb:List Keyed):Prop where
 perm:(o++(ra++rb)).Perm (la++lb)
 so:o.Pairwise (Le key)
 sa:ra.Pairwise (Le key)
 sb:rb.Pairwise (Le key)
 oa:∀x∈o,∀y∈ra,Le key x y
 ob:∀x∈o,∀y∈rb,Le key x y
noncomputable def hJ (key:Keyed->List Int) (la lb r:List Keyed):Prop:=r.Perm (la++lb)/\r.Pairwise (Le key)
theorem MI.a {la lb o c ra rb:List Keyed} (h:MI key la lb o (c++ra) rb) (hc:∀x∈c,∀y∈rb,Le key x y):MI key la lb (o++c) ra rb:=by
 obtain ⟨p,so,sa,sb,oa,ob⟩:=h
 obtain ⟨s1,s2,s3⟩:=List.pairwise_append.mp sa
 refine ⟨?_,List.pairwise_append.mpr ⟨so,s1,fun x hx y hy=>oa x hx y (II _ hy)⟩,s2,sb,fun x hx y hy=>?_,fun x hx y hy=>?_⟩
 ·simpa using p
 ·rcases List.mem_append.mp hx with q|q
  ·exact oa x q y (IH _ hy)
  ·exact s3 x q y hy
 ·rcases List.mem_append.mp hx with q|q
  ·exact ob x q y hy
  ·exact hc x q y hy
theorem MI.b {la lb o c ra rb:List Keyed} (h:MI key la lb o ra (c++rb)) (hc:∀x∈c,∀y∈ra,Le key x y):MI key la lb (o++c) ra rb:=by
 obtain ⟨p,so,sa,sb,oa,ob⟩:=h
 obtain ⟨s1,s2,s3⟩:=List.pairwise_append.mp sb
 refine ⟨?_,List.pairwise_append.mpr ⟨so,s1,fun x hx y hy=>ob x hx y (II _ hy)⟩,sa,s2,fun x hx y hy=>?_,fun x hx y hy=>?_⟩
 ·refine List.Perm.trans ?_ p
  have:(c++(ra++rb)).Perm (ra++(c++rb)):=by
   rw [<-List.append_assoc,<-List.append_assoc]
   exact List.perm_append_comm.append_right _
  rw [List.append_assoc]
  exact this.append_left o
 ·rcases List.mem_append.mp hx with q|q
  ·exact oa x q y hy
  ·exact hc x q y hy
 ·rcases List.mem_append.mp hx with q|q
  ·exact ob x q y (IH _ hy)
  ·exact s3 x q y hy
theorem MI.ab {la lb o ra rb:List Keyed} (h:MI key la lb o ra rb) (hc:∀x∈ra,∀y∈rb,Le key x y):hJ key la lb (o++ra++rb):=by
 have h1:MI key la lb (o++ra) [] rb:=MI.a (by simpa using h) hc
 have h2:MI key la lb (o++ra++rb) [] []:=MI.b (by simpa using h1) (fun _ _ _ hy=>nomatch hy)
 exact ⟨by simpa using h2.perm,h2.so⟩
theorem MI.ba {la lb o ra rb:List Keyed} (h:MI key la lb o ra rb) (hc:∀x∈rb,∀y∈ra,Le key x y):hJ key la lb (o++rb++ra):=by
 have h1:MI key la lb (o++rb) ra []:=MI.b (by simpa using h) hc
 have h2:MI key la lb (o++rb++ra) [] []:=MI.a (by simpa using h1) (fun _ _ _ hy=>nomatch hy)
 exact ⟨by simpa using h2.perm,h2.so⟩
end
structure Sm (st st':SortSt):Prop where
 kind:kindOf st'=kindOf st
 arr:arrOf st'=arrOf st
 pend:pendingOf st'=pendingOf st
 failed:failedOf st'=failedOf st
theorem Sm.refl (st:SortSt):Sm st st:=⟨rfl,rfl,rfl,rfl⟩
theorem Sm.trans {a b c:SortSt} (h1:Sm a b) (h2:Sm b c):Sm a c:=⟨h2.kind.trans h1.kind,h2.arr.trans h1.arr,h2.pend.trans h1.pend,h2.failed.trans h1.failed⟩
noncomputable def Gb:Nat->StateT SortSt Sem Unit:=sortPriv% PySem.Builtin.setMinGallop
section
variable {M:Model} {A:Around} {E:Value->Shared->Prop} {s:Shared} {κ:SortKind} {key:Keyed->List Int} {P:Keyed->Prop}
theorem rT {st:SortSt} {g:Nat} {Q:Unit->SortSt->Prop} (h:∀st',Sm st st'->Q () st'):wpS M A E s (Gb g) Q st:=wpS_modify (h _ ⟨rfl,rfl,rfl,rfl⟩)
theorem jV (hA:mL M A E s κ key P) {k:Keyed} {arr:Array Keyed} {base n hint:Nat} {st:SortSt} {Q:Option Nat->SortSt->Prop} (hk:kindOf st=κ) (hPk:P k) (hz:base+n<=arr.size)
  (hP:∀x∈arr.toList,P x) (hs:eN key arr base (base+n)) (hh:hint<n)
  (h:∀r,r<=n->(∀i x,base<=i->i<base+r->arr[i]?=some x->Le key x k)->(∀i x,base+r<=i->i<base+n->arr[i]?=some x->ll (key k) (key x)=true)->Q (some r) st) :
  wpS M A E s (qV false k arr base n hint) Q st:=by
 have get:∀i,i<n->arr[base+i]?=some (arr[base+i]?.getD k):=fun i hi=>by
  obtain ⟨x,ex,_⟩:=cN (arr:=arr) (i:=base+i) 0x1
  rw [ex]; rfl
 refine qx hA hk (fun i hi=>?_) hPk hh (fun i=>Hf key false k (arr[base+i]?.getD k)) (fun i x hi ex=>by rw [ex]; rfl) (fun i j hij hj hb=>?_) fun r hr h1 h2=>h r hr (fun i x q1 q2 ex=>?_) (fun i x q1 q2 ex=>?_)
 ·obtain ⟨x,ex,mx⟩:=cN (arr:=arr) (i:=base+i) 0x1
  exact ⟨x,ex,hP x mx⟩
 ·have hle:=hs (base+i) (base+j) _ _ 0x1 0x1 0x1 (get i 0x1) (get j hj)
  show (!ll (key k) (key (arr[base+i]?.getD k)))=true
  have hb':(!ll (key k) (key (arr[base+j]?.getD k)))=true:=hb
  have q:ll (key k) (key (arr[base+j]?.getD k))=false:=by simpa using hb'
  have:ll (key k) (key (arr[base+i]?.getD k))=false:=Le.trans hle q
  rw [this]; rfl
 ·have:=h1 (i-base) 0x1
  rw [show base+(i-base)=i by lia,ex] at this
  have t:(!ll (key k) (key x))=true:=this
  exact (by simpa using t:ll (key k) (key x)=false)
 ·have:=h2 (i-base) 0x1 0x1
  rw [show base+(i-base)=i by lia,ex] at this
  have t:(!ll (key k) (key x))=false:=this
  simpa using t
theorem fS (hA:mL M A E s κ key P) {k:Keyed} {arr:Array Keyed} {base n hint:Nat} {st:SortSt} {Q:Option Nat->SortSt->Prop} (hk:kindOf st=κ) (hPk:P k) (hz:base+n<=arr.size)
  (hP:∀x∈arr.toList,P x) (hs:eN key arr base (base+n)) (hh:hint<n)
  (h:∀r,r<=n->(∀i x,base<=i->i<base+r->arr[i]?=some x->ll (key x) (key k)=true)->(∀i x,base+r<=i->i<base+n->arr[i]?=some x->Le key k x)->Q (some r) st) :
  wpS M A E s (qV true k arr base n hint) Q st:=by
 have get:∀i,i<n->arr[base+i]?=some (arr[base+i]?.getD k):=fun i hi=>by
  obtain ⟨x,ex,_⟩:=cN (arr:=arr) (i:=base+i) 0x1
  rw [ex]; rfl
 refine qx hA hk (fun i hi=>?_) hPk hh (fun i=>Hf key true k (arr[base+i]?.getD k)) (fun i x hi ex=>by rw [ex]; rfl) (fun i j hij hj hb=>?_) fun r hr h1 h2=>h r hr (fun i x q1 q2 ex=>?_) (fun i x q1 q2 ex=>?_)
 ·obtain ⟨x,ex,mx⟩:=cN (arr:=arr) (i:=base+i) 0x1
  exact ⟨x,ex,hP x mx⟩
 ·have hle:=hs (base+i) (base+j) _ _ 0x1 0x1 0x1 (get i 0x1) (get j hj)
  have hb':ll (key (arr[base+j]?.getD k)) (key k)=true:=hb
  show ll (key (arr[base+i]?.getD k)) (key k)=true
  cases c:ll (key (arr[base+i]?.getD k)) (key k) with
  |true=>rfl
  |false=>
   have:ll (key (arr[base+j]?.getD k)) (key k)=false:=Le.trans c hle
   rw [this] at hb'; cases hb'
 ·have:=h1 (i-base) 0x1
  rw [show base+(i-base)=i by lia,ex] at this
  exact this
 ·have:=h2 (i-base) 0x1 0x1
  rw [show base+(i-base)=i by lia,ex] at this
  exact this
end
noncomputable def yj:Array Keyed->Array Keyed->StateT SortSt Sem (Array Keyed):=sortPriv% PySem.Builtin.mergeLo
section
variable {M:Model} {A:Around} {E:Value->Shared->Prop} {s:Shared} {κ:SortKind} {key:Keyed->List Int} {P:Keyed->Prop}
structure LoA (key:Keyed->List Int) (a b:Array Keyed) (out:Array Keyed) (ia ib:Nat):Prop where
 mi:MI key a.toList b.toList out.toList (a.toList.drop ia) (b.toList.drop ib)
 ha:ia+1<a.size
 hb:ib<b.size
theorem uq (hA:mL M A E s κ key P) {a b:Array Keyed} {st:SortSt} {Q:Array Keyed->SortSt->Prop} (hk:kindOf st=κ)
  (pa:∀x∈a.toList,P x) (pb:∀x∈b.toList,P x) (za:0<a.size) (zb:0<b.size) (sa:a.toList.Pairwise (Le key)) (sb:b.toList.Pairwise (Le key))
  (first:∀y,b[0]?=some y->∀x∈a.toList,Le key y x) (last:∀z,a[a.size-1]?=some z->∀y∈b.toList,Le key y z)
  (h:∀r st',Sm st st'->hJ key a.toList b.toList r.toList->Q r st'):wpS M A E s (yj a b) Q st:=by
 have Sa:eN key a 0 a.size:=iO.mp sa
 have Sb:eN key b 0 b.size:=iO.mp sb
 have doneB:∀(out:Array Keyed) (ia ib:Nat),MI key a.toList b.toList out.toList (a.toList.drop ia) (b.toList.drop ib)->(ib=b.size\/ia=a.size)->hJ key a.toList b.toList (out++a.extract ia++b.extract ib).toList:=fun out ia ib mi hc=>by
  rw [Array.toList_append,Array.toList_append,mY,mY]
  refine mi.ab fun x hx y hy=>?_
  rcases hc with hc|hc
  ·rw [hc,List.drop_of_length_le 0x4] at hy; cases hy
  ·rw [hc,List.drop_of_length_le 0x4] at hx; cases hx
 have lastA:∀(out:Array Keyed) (ia ib:Nat),MI key a.toList b.toList out.toList (a.toList.drop ia) (b.toList.drop ib)->ia+1=a.size->hJ key a.toList b.toList (out++b.extract ib++a.extract ia).toList:=fun out ia ib mi hc=>by
  rw [Array.toList_append,Array.toList_append,mY,mY]
  refine mi.ba fun x hx y hy=>?_
  obtain ⟨j,j1,j2,ej⟩:=gK hy
  have:j=a.size-1:=by lia
  subst this
  exact last y ej x (List.mem_of_mem_drop hx)
 have pushB:∀(out:Array Keyed) (ia ib:Nat) (x:Keyed),MI key a.toList b.toList out.toList (a.toList.drop ia) (b.toList.drop ib)->b[ib]?=some x->(∀z,a[ia]?=some z->Le key x z)->MI key a.toList b.toList (out.push x).toList (a.toList.drop ia) (b.toList.drop (ib+1)):=fun out ia ib x mi ex hx=>by
  rw [wC ex] at mi
  rw [Array.toList_push]
  refine MI.b (c:=[x]) (by simpa using mi) fun u hu y hy=>?_
  rw [List.mem_singleton.mp hu]
  obtain ⟨j,j1,j2,ej⟩:=gK hy
  obtain ⟨z,ez,_⟩:=cN (arr:=a) (i:=ia) 0x1
  exact (hx z ez).trans (Sa ia j z y (Nat.zero_le _) j1 j2 ez ej)
 have pushA:∀(out:Array Keyed) (ia ib:Nat) (x:Keyed),MI key a.toList b.toList out.toList (a.toList.drop ia) (b.toList.drop ib)->a[ia]?=some x->(∀z,b[ib]?=some z->Le key x z)->MI key a.toList b.toList (out.push x).toList (a.toList.drop (ia+1)) (b.toList.drop ib):=fun out ia ib x mi ex hx=>by
  rw [wC ex] at mi
  rw [Array.toList_push]
  refine MI.a (c:=[x]) (by simpa using mi) fun u hu y hy=>?_
  rw [List.mem_singleton.mp hu]
  obtain ⟨j,j1,j2,ej⟩:=gK hy
  obtain ⟨z,ez,_⟩:=cN (arr:=b) (i:=ib) 0x1
  exact (hx z ez).trans (Sb ib j z y (Nat.zero_le _) j1 j2 ez ej)
 refine wpS_bind (wpS_lift (wpAny_rule ⟨rfl,?_⟩))
 obtain ⟨y0,ey0,my0⟩:=cN (arr:=b) (i:=0) zb
 refine wpS_bind (aV ey0 ?_)
 dsimp only
 have mi0:MI key a.toList b.toList (#[y0]:Array Keyed).toList (a.toList.drop 0) (b.toList.drop 1):=by
  have:MI key a.toList b.toList (#[]:Array Keyed).toList (a.toList.drop 0) (b.toList.drop 0):=⟨0x4,List.Pairwise.nil,by simpa using sa,by simpa using sb,fun _ hx=>(by simp at hx),fun _ hx=>(by simp at hx)⟩
  exact pushB #[] 0 0 y0 this ey0 fun z ez=>first y0 ey0 z (by
   obtain ⟨hz,rfl⟩:=Array.getElem?_eq_some_iff.mp ez
   simp)
 by_cases c1:(1==b.size)=true
 ·rw [if_pos c1]
  exact wpS_pure (h _ _ (Sm.refl _) (doneB _ _ _ mi0 (.inl (by simpa using c1))))
 rw [if_neg c1]
 have c1':1≠b.size:=by simpa using c1
 by_cases c2:(0+1==a.size)=true
 ·rw [if_pos c2]
  exact wpS_pure (h _ _ (Sm.refl _) (lastA _ _ _ mi0 (by simpa using c2)))
 rw [if_neg c2]
 have c2':0+1≠a.size:=by simpa using c2
 refine wpS_bind (wpS_get ?_)
 refine wpS_bind (wpS_mono (wpS_forRange
  (I:=fun x c st'=>Sm st st'/\∃out ia ib g,c=(none,out,ia,ib,g)/\LoA key a b out ia ib/\x+1<=ia+ib)
  (Q:=fun c st'=>Sm st st'/\∃r bN,c=(some r,bN)/\hJ key a.toList b.toList r.toList) ?step ?fin ⟨Sm.refl _,_,_,_,_,rfl,⟨mi0,0x1,0x1⟩,0x1⟩) ?post)
 case post=>
  rintro c st' ⟨hS,r,bN,rfl,hr⟩
  exact wpS_pure (h r st' hS hr)
 case fin=>
  rintro c st' ⟨hS,out,ia,ib,g,rfl,hL,hx⟩
  have:=hL.ha
  have:=hL.hb
  exact absurd hx 0x1
 case step=>
  rintro x c st1 _ hx ⟨hS1,out,ia,ib,g,rfl,hL,hxx⟩
  dsimp only
  refine wpS_bind (wpS_mono (wpS_forRange
   (I:=fun y c st'=>st'=st1/\∃out ia' ib' ac bc,c=(none,out,ia',ib',ac,bc)/\LoA key a b out ia' ib'/\ia+ib+y<=ia'+ib')
   (Q:=fun c st'=>st'=st1/\((∃r bN,c=(some r,bN)/\hJ key a.toList b.toList r.toList)\/∃out ia' ib' ac bc,c=(none,out,ia',ib',ac,bc)/\LoA key a b out ia' ib'/\ia+ib+1<=ia'+ib'))
   ?istep ?ifin ⟨rfl,_,_,_,_,_,rfl,hL,IJ _⟩) ?ipost)
  case ifin=>
   rintro c st' ⟨rfl,out,ia',ib',ac,bc,rfl,hL',hy⟩
   exact ⟨rfl,.inr ⟨_,_,_,_,_,rfl,hL',0x1⟩⟩
  case istep=>
   rintro y c st' _ hy ⟨rfl,out,ia',ib',ac,bc,rfl,hL',hyy⟩
   dsimp only
   obtain ⟨ha',hb'⟩:=And.intro hL'.ha hL'.hb
   obtain ⟨xb,exb,mxb⟩:=cN (arr:=b) (i:=ib') hb'
   obtain ⟨xa,exa,mxa⟩:=cN (arr:=a) (i:=ia') 0x1
   refine wpS_bind (aV exb (wpS_bind (aV exa (wpS_bind (hA xb xa _ _ (hS1.kind.trans hk) (pb _ mxb) (pa _ mxa) ?_)))))
   dsimp only
   cases c3:ll (key xb) (key xa) with
   |true=>
    rw [if_pos rfl]
    refine wpS_bind (aV exb ?_)
    have mi':=pushB out ia' ib' xb hL'.mi exb (fun z ez=>by rw [exa] at ez; cases ez; exact Le.of_lt c3)
    by_cases c4:(ib'+1==b.size)=true
    ·rw [if_pos c4]
     exact wpS_pure ⟨rfl,.inl ⟨_,_,rfl,doneB _ _ _ mi' (.inl (by simpa using c4))⟩⟩
    ·rw [if_neg c4]
     have c4':ib'+1≠b.size:=by simpa using c4
     have hL2:LoA key a b (out.push xb) ia' (ib'+1):=⟨mi',ha',0x1⟩
     by_cases c5:bc+1>=g
     ·rw [if_pos c5]; exact wpS_pure ⟨rfl,.inr ⟨_,_,_,_,_,rfl,hL2,0x1⟩⟩
     ·rw [if_neg c5]; exact wpS_pure ⟨rfl,_,_,_,_,_,rfl,hL2,0x1⟩
   |false=>
    rw [if_neg 0x4]
    refine wpS_bind (aV exa ?_)
    have mi':=pushA out ia' ib' xa hL'.mi exa (fun z ez=>by rw [exb] at ez; cases ez; exact c3)
    by_cases c4:(ia'+1+1==a.size)=true
    ·rw [if_pos c4]
     exact wpS_pure ⟨rfl,.inl ⟨_,_,rfl,lastA _ _ _ mi' (by simpa using c4)⟩⟩
    ·rw [if_neg c4]
     have c4':ia'+1+1≠a.size:=by simpa using c4
     have hL2:LoA key a b (out.push xa) (ia'+1) ib':=⟨mi',0x1,hb'⟩
     by_cases c5:ac+1>=g
     ·rw [if_pos c5]; exact wpS_pure ⟨rfl,.inr ⟨_,_,_,_,_,rfl,hL2,0x1⟩⟩
     ·rw [if_neg c5]; exact wpS_pure ⟨rfl,_,_,_,_,_,rfl,hL2,0x1⟩
  case ipost=>
   rintro c st' ⟨rfl,hc⟩
   rcases hc with ⟨r,bN,rfl,hr⟩|⟨out,ia2,ib2,ac,bc,rfl,hL2,hy2⟩
   ·dsimp only
    exact wpS_pure ⟨hS1,r,_,rfl,hr⟩
   dsimp only
   refine wpS_bind (wpS_lift (wpAny_rule ⟨rfl,?_⟩))
   refine wpS_bind (wpS_mono (wpS_forRange
    (I:=fun y c st'=>Sm st st'/\∃out ia' ib' g ac bc,c=(none,out,ia',ib',g,ac,bc)/\LoA key a b out ia' ib'/\ia2+ib2<=ia'+ib')
    (Q:=fun c st'=>Sm st st'/\((∃r bN,c=(some r,bN)/\hJ key a.toList b.toList r.toList)\/∃out ia' ib' g ac bc,c=(none,out,ia',ib',g,ac,bc)/\LoA key a b out ia' ib'/\ia2+ib2<=ia'+ib'))
    ?gstep ?gfin ⟨hS1,_,_,_,_,_,_,rfl,hL2,IJ _⟩) ?gpost)
   case gfin=>
    rintro c st' ⟨hS,out,ia',ib',g,ac,bc,rfl,hL',hy⟩
    exact ⟨hS,.inr ⟨_,_,_,_,_,_,rfl,hL',hy⟩⟩
   case gpost=>
    rintro c st' ⟨hS,hc⟩
    rcases hc with ⟨r,bN,rfl,hr⟩|⟨out,ia3,ib3,g,ac,bc,rfl,hL3,hy3⟩
    ·dsimp only
     exact wpS_pure ⟨hS,r,_,rfl,hr⟩
    dsimp only
    refine wpS_bind (wpS_modify (wpS_pure ⟨hS.trans ⟨rfl,rfl,rfl,rfl⟩,_,_,_,_,rfl,hL3,0x1⟩))
   case gstep=>
    rintro y c st2 _ hy ⟨hS2,out,ia',ib',g,ac,bc,rfl,hL',hyy⟩
    dsimp only
    have ha':=hL'.ha
    have hb':=hL'.hb
    obtain ⟨xb,exb,mxb⟩:=cN (arr:=b) (i:=ib') hb'
    by_cases hg:g>1
    case' pos=>rw [if_pos hg]
    case' neg=>rw [if_neg hg]
    all_goals
     refine wpS_bind (rT fun st3 hS3'=>?_)
     have hS3:=hS2.trans hS3'
     refine wpS_bind (aV exb ?_)
     refine wpS_bind (jV hA (hS3.kind.trans hk) (pb _ mxb) 0x1 pa (fun i j x y q1 q2 q3=>Sa i j x y (Nat.zero_le _) q2 0x1) 0x1 fun k w1 w2 w3=>?_)
     dsimp only
     by_cases hk0:k>0
     ·rw [if_pos hk0]
      have mi1:MI key a.toList b.toList (out++a.extract ia' (ia'+k)).toList (a.toList.drop (ia'+k)) (b.toList.drop ib'):=by
       rw [Array.toList_append]
       refine MI.a (by rw [<-nS]; exact hL'.mi) fun x hx y hy=>?_
       obtain ⟨i,i1,i2,i3,ei⟩:=dG hx
       obtain ⟨j,j1,j2,ej⟩:=gK hy
       exact (w2 i x i1 i2 ei).trans (Sb ib' j xb y (Nat.zero_le _) j1 j2 exb ej)
      by_cases e1:(ia'+k+1==a.size)=true
      ·rw [if_pos e1]
       exact wpS_pure ⟨hS3,.inl ⟨_,_,rfl,lastA _ _ _ mi1 (by simpa using e1)⟩⟩
      rw [if_neg e1]
      have e1':ia'+k+1≠a.size:=by simpa using e1
      by_cases e2:(ia'+k==a.size)=true
      ·rw [if_pos e2]
       exact wpS_pure ⟨hS3,.inl ⟨_,_,rfl,doneB _ _ _ mi1 (.inr (by simpa using e2))⟩⟩
      rw [if_neg e2]
      have e2':ia'+k≠a.size:=by simpa using e2
      have lt1:ia'+k+1<a.size:=by lia
      have low:∀z,a[ia'+k]?=some z->Le key xb z:=fun z ez=>Le.of_lt (w3 _ z (IJ _) 0x1 ez)
      have lQ:ia2+ib2<=ia'+k+ib':=by lia
      clear w2 w3 e1 e2
      generalize out++a.extract ia' (ia'+k)=out1 at *
      generalize ia'+k=ia1 at *
      obtain ⟨xa1,exa1,mxa1⟩:=cN (arr:=a) (i:=ia1) 0x1
      refine wpS_bind (aV exb ?_)
      have mi1b:=pushB out1 ia1 ib' xb mi1 exb low
      by_cases e3:(ib'+1==b.size)=true
      ·rw [if_pos e3]
       exact wpS_pure ⟨hS3,.inl ⟨_,_,rfl,doneB _ _ _ mi1b (.inl (by simpa using e3))⟩⟩
      rw [if_neg e3]
      have e3':ib'+1≠b.size:=by simpa using e3
      refine wpS_bind (aV exa1 ?_)
      refine wpS_bind (fS hA (hS3.kind.trans hk) (pa _ mxa1) 0x1 pb (fun i j x y q1 q2 q3=>Sb i j x y (Nat.zero_le _) q2 0x1) 0x1 fun k2 u1 u2 u3=>?_)
      dsimp only
      by_cases hk2:k2>0
      ·rw [if_pos hk2]
       have mi2:MI key a.toList b.toList (out1.push xb++b.extract (ib'+1) (ib'+1+k2)).toList (a.toList.drop ia1) (b.toList.drop (ib'+1+k2)):=by
        rw [Array.toList_append]
        refine MI.b (by rw [<-nS]; exact mi1b) fun x hx y hy=>?_
        obtain ⟨i,i1,i2,i3,ei⟩:=dG hx
        obtain ⟨j,j1,j2,ej⟩:=gK hy
        exact (Le.of_lt (u2 i x i1 i2 ei)).trans (Sa ia1 j xa1 y (Nat.zero_le _) j1 j2 exa1 ej)
       by_cases e4:(ib'+1+k2==b.size)=true
       ·rw [if_pos e4]
        exact wpS_pure ⟨hS3,.inl ⟨_,_,rfl,doneB _ _ _ mi2 (.inl (by simpa using e4))⟩⟩
       rw [if_neg e4]
       have e4':ib'+1+k2≠b.size:=by simpa using e4
       have up2:∀z,b[ib'+1+k2]?=some z->Le key xa1 z:=fun z ez=>u3 _ z (IJ _) 0x1 ez
       have cnt2:ia2+ib2<=ia1+1+(ib'+1+k2):=by lia
       have ltz:ib'+1+k2<b.size:=by lia
       clear u2 u3 e4
       generalize out1.push xb++b.extract (ib'+1) (ib'+1+k2)=out2 at *
       generalize ib'+1+k2=ibz at *
       refine wpS_bind (aV exa1 ?_)
       have mi3:=pushA out2 ia1 ibz xa1 mi2 exa1 up2
       by_cases d1:(ia1+1+1==a.size)=true
       ·rw [if_pos d1]
        exact wpS_pure ⟨hS3,.inl ⟨_,_,rfl,lastA _ _ _ mi3 (by simpa using d1)⟩⟩
       rw [if_neg d1]
       have d1':ia1+1+1≠a.size:=by simpa using d1
       have hL4:LoA key a b (out2.push xa1) (ia1+1) ibz:=⟨mi3,0x1,0x1⟩
       split
       ·exact wpS_pure ⟨hS3,.inr ⟨_,_,_,_,_,_,rfl,hL4,0x1⟩⟩
       ·exact wpS_pure ⟨hS3,_,_,_,_,_,_,rfl,hL4,0x1⟩
      ·rw [if_neg hk2]
       have mi2:=mi1b
       have hk2':k2=0:=by lia
       have up2:∀z,b[ib'+1]?=some z->Le key xa1 z:=fun z ez=>u3 _ z 0x1 0x1 ez
       have cnt2:ia2+ib2<=ia1+1+(ib'+1):=by lia
       have ltz:ib'+1<b.size:=by lia
       clear u2 u3 mi1b
       generalize out1.push xb=out2 at *
       generalize ib'+1=ibz at *
       refine wpS_bind (aV exa1 ?_)
       have mi3:=pushA out2 ia1 ibz xa1 mi2 exa1 up2
       by_cases d1:(ia1+1+1==a.size)=true
       ·rw [if_pos d1]
        exact wpS_pure ⟨hS3,.inl ⟨_,_,rfl,lastA _ _ _ mi3 (by simpa using d1)⟩⟩
       rw [if_neg d1]
       have d1':ia1+1+1≠a.size:=by simpa using d1
       have hL4:LoA key a b (out2.push xa1) (ia1+1) ibz:=⟨mi3,0x1,0x1⟩
       split
       ·exact wpS_pure ⟨hS3,.inr ⟨_,_,_,_,_,_,rfl,hL4,0x1⟩⟩
       ·exact wpS_pure ⟨hS3,_,_,_,_,_,_,rfl,hL4,0x1⟩
     ·rw [if_neg hk0]
      have mi1:=hL'.mi
      have hk0':k=0:=by lia
      have low:∀z,a[ia']?=some z->Le key xb z:=fun z ez=>Le.of_lt (w3 _ z 0x1 0x1 ez)
      have lt1:ia'+1<a.size:=ha'
      have lQ:ia2+ib2<=ia'+ib':=hyy
      clear w2 w3
      generalize out=out1 at *
      generalize ia'=ia1 at *
      obtain ⟨xa1,exa1,mxa1⟩:=cN (arr:=a) (i:=ia1) 0x1
      refine wpS_bind (aV exb ?_)
      have mi1b:=pushB out1 ia1 ib' xb mi1 exb low
      by_cases e3:(ib'+1==b.size)=true
      ·rw [if_pos e3]
       exact wpS_pure ⟨hS3,.inl ⟨_,_,rfl,doneB _ _ _ mi1b (.inl (by simpa using e3))⟩⟩
      rw [if_neg e3]
      have e3':ib'+1≠b.size:=by simpa using e3
      refine wpS_bind (aV exa1 ?_)
      refine wpS_bind (fS hA (hS3.kind.trans hk) (pa _ mxa1) 0x1 pb (fun i j x y q1 q2 q3=>Sb i j x y (Nat.zero_le _) q2 0x1) 0x1 fun k2 u1 u2 u3=>?_)
      dsimp only
      by_cases hk2:k2>0
      ·rw [if_pos hk2]
       have mi2:MI key a.toList b.toList (out1.push xb++b.extract (ib'+1) (ib'+1+k2)).toList (a.toList.drop ia1) (b.toList.drop (ib'+1+k2)):=by
        rw [Array.toList_append]
        refine MI.b (by rw [<-nS]; exact mi1b) fun x hx y hy=>?_
        obtain ⟨i,i1,i2,i3,ei⟩:=dG hx
        obtain ⟨j,j1,j2,ej⟩:=gK hy
        exact (Le.of_lt (u2 i x i1 i2 ei)).trans (Sa ia1 j xa1 y (Nat.zero_le _) j1 j2 exa1 ej)
       by_cases e4:(ib'+1+k2==b.size)=true
       ·rw [if_pos e4]
        exact wpS_pure ⟨hS3,.inl ⟨_,_,rfl,doneB _ _ _ mi2 (.inl (by simpa using e4))⟩⟩
       rw [if_neg e4]
       have e4':ib'+1+k2≠b.size:=by simpa using e4
       have up2:∀z,b[ib'+1+k2]?=some z->Le key xa1 z:=fun z ez=>u3 _ z (IJ _) 0x1 ez
       have cnt2:ia2+ib2<=ia1+1+(ib'+1+k2):=by lia
       have ltz:ib'+1+k2<b.size:=by lia
       clear u2 u3 e4
       generalize out1.push xb++b.extract (ib'+1) (ib'+1+k2)=out2 at *
       generalize ib'+1+k2=ibz at *
       refine wpS_bind (aV exa1 ?_)
       have mi3:=pushA out2 ia1 ibz xa1 mi2 exa1 up2
       by_cases d1:(ia1+1+1==a.size)=true
       ·rw [if_pos d1]
        exact wpS_pure ⟨hS3,.inl ⟨_,_,rfl,lastA _ _ _ mi3 (by simpa using d1)⟩⟩
       rw [if_neg d1]
       have d1':ia1+1+1≠a.size:=by simpa using d1
       have hL4:LoA key a b (out2.push xa1) (ia1+1) ibz:=⟨mi3,0x1,0x1⟩
       split
       ·exact wpS_pure ⟨hS3,.inr ⟨_,_,_,_,_,_,rfl,hL4,0x1⟩⟩
       ·exact wpS_pure ⟨hS3,_,_,_,_,_,_,rfl,hL4,0x1⟩
      ·rw [if_neg hk2]
       have mi2:=mi1b
       have hk2':k2=0:=by lia
       have up2:∀z,b[ib'+1]?=some z->Le key xa1 z:=fun z ez=>u3 _ z 0x1 0x1 ez
       have cnt2:ia2+ib2<=ia1+1+(ib'+1):=by lia
       have ltz:ib'+1<b.size:=by lia
       clear u2 u3 mi1b
       generalize out1.push xb=out2 at *
       generalize ib'+1=ibz at *
       refine wpS_bind (aV exa1 ?_)
       have mi3:=pushA out2 ia1 ibz xa1 mi2 exa1 up2
       by_cases d1:(ia1+1+1==a.size)=true
       ·rw [if_pos d1]
        exact wpS_pure ⟨hS3,.inl ⟨_,_,rfl,lastA _ _ _ mi3 (by simpa using d1)⟩⟩
       rw [if_neg d1]
       have d1':ia1+1+1≠a.size:=by simpa using d1
       have hL4:LoA key a b (out2.push xa1) (ia1+1) ibz:=⟨mi3,0x1,0x1⟩
       split
       ·exact wpS_pure ⟨hS3,.inr ⟨_,_,_,_,_,_,rfl,hL4,0x1⟩⟩
       ·exact wpS_pure ⟨hS3,_,_,_,_,_,_,rfl,hL4,0x1⟩
end
noncomputable def zg:Array Keyed->Array Keyed->StateT SortSt Sem (Array Keyed):=sortPriv% PySem.Builtin.mergeHi
section
variable {key:Keyed->List Int}
structure MH (key:Keyed->List Int) (la lb o ra rb:List Keyed):Prop where
 perm:(ra++rb++o).Perm (la++lb)
 so:o.Pairwise (Le key)
 sa:ra.Pairwise (Le key)
 sb:rb.Pairwise (Le key)
 ao:∀x∈ra,∀y∈o,Le key x y
 bo:∀x∈rb,∀y∈o,Le key x y
theorem MH.b {la lb o c ra rb:List Keyed} (h:MH key la lb o ra (rb++c)) (hc:∀x∈c,∀y∈ra,Le key y x):MH key la lb (c++o) ra rb:=by
 obtain ⟨p,so,sa,sb,ao,bo⟩:=h
 obtain ⟨s1,s2,s3⟩:=List.pairwise_append.mp sb
 refine ⟨by simpa using p,List.pairwise_append.mpr ⟨s2,so,fun x hx y hy=>bo x (IH _ hx) y hy⟩,sa,s1,fun x hx y hy=>?_,fun x hx y hy=>?_⟩
 ·rcases List.mem_append.mp hy with q|q
  ·exact hc y q x hx
  ·exact ao x hx y q
 ·rcases List.mem_append.mp hy with q|q
  ·exact s3 x hx y q
  ·exact bo x (II _ hx) y q
theorem MH.a {la lb o c ra rb:List Keyed} (h:MH key la lb o (ra++c) rb) (hc:∀x∈c,∀y∈rb,Le key y x):MH key la lb (c++o) ra rb:=by
 obtain ⟨p,so,sa,sb,ao,bo⟩:=h
 obtain ⟨s1,s2,s3⟩:=List.pairwise_append.mp sa
 refine ⟨?_,List.pairwise_append.mpr ⟨s2,so,fun x hx y hy=>ao x (IH _ hx) y hy⟩,s1,sb,fun x hx y hy=>?_,fun x hx y hy=>?_⟩
 ·refine List.Perm.trans ?_ p
  have:(rb++c).Perm (c++rb):=List.perm_append_comm
  have e1:ra++rb++(c++o)=ra++((rb++c)++o):=by simp
  have e2:ra++c++rb++o=ra++((c++rb)++o):=by simp
  rw [e1,e2]
  exact (this.append_right o).append_left ra
 ·rcases List.mem_append.mp hy with q|q
  ·exact s3 x hx y q
  ·exact ao x (II _ hx) y q
 ·rcases List.mem_append.mp hy with q|q
  ·exact hc y q x hx
  ·exact bo x hx y q
theorem MH.ab {la lb o ra rb:List Keyed} (h:MH key la lb o ra rb) (hc:∀x∈ra,∀y∈rb,Le key x y):hJ key la lb (ra++rb++o):=by
 have h1:MH key la lb (rb++o) ra []:=MH.b (by simpa using h) (fun x hx y hy=>hc y hy x hx)
 have h2:MH key la lb (ra++(rb++o)) [] []:=MH.a (by simpa using h1) (fun _ _ _ hy=>nomatch hy)
 exact ⟨by simpa using h2.perm,by simpa using h2.so⟩
theorem MH.ba {la lb o ra rb:List Keyed} (h:MH key la lb o ra rb) (hc:∀x∈rb,∀y∈ra,Le key x y):hJ key la lb (rb++ra++o):=by
 have h1:MH key la lb (ra++o) [] rb:=MH.a (by simpa using h) (fun x hx y hy=>hc y hy x hx)
 have h2:MH key la lb (rb++(ra++o)) [] []:=MH.b (by simpa using h1) (fun _ _ _ hy=>nomatch hy)
 exact ⟨by simpa using h2.perm,by simpa using h2.so⟩
end
section
variable {M:Model} {A:Around} {E:Value->Shared->Prop} {s:Shared} {κ:SortKind} {key:Keyed->List Int} {P:Keyed->Prop}
structure HiA (key:Keyed->List Int) (a b:Array Keyed) (out:Array Keyed) (na nb:Nat):Prop where
 mi:MH key a.toList b.toList out.reverse.toList (a.toList.take na) (b.toList.take nb)
 ha:0<na
 ha2:na<=a.size
 hb:1<nb
 hb2:nb<=b.size
theorem vD (hA:mL M A E s κ key P) {a b:Array Keyed} {st:SortSt} {Q:Array Keyed->SortSt->Prop} (hk:kindOf st=κ)
  (pa:∀x∈a.toList,P x) (pb:∀x∈b.toList,P x) (za:0<a.size) (zb:0<b.size) (sa:a.toList.Pairwise (Le key)) (sb:b.toList.Pairwise (Le key))
  (first:∀y,b[0]?=some y->∀x∈a.toList,Le key y x) (last:∀z,a[a.size-1]?=some z->∀y∈b.toList,Le key y z)
  (h:∀r st',Sm st st'->hJ key a.toList b.toList r.toList->Q r st'):wpS M A E s (zg a b) Q st:=by
 have Sa:eN key a 0 a.size:=iO.mp sa
 have Sb:eN key b 0 b.size:=iO.mp sb
 have doneB:∀(out:Array Keyed) (na nb:Nat),MH key a.toList b.toList out.reverse.toList (a.toList.take na) (b.toList.take nb)->(na=0\/nb=0)->hJ key a.toList b.toList (a.extract 0 na++b.extract 0 nb++out.reverse).toList:=fun out na nb mi hc=>by
  rw [Array.toList_append,Array.toList_append,jr,jr]
  refine mi.ab fun x hx y hy=>?_
  rcases hc with hc|hc
  ·rw [hc] at hx; cases hx
  ·rw [hc] at hy; cases hy
 have firstB:∀(out:Array Keyed) (na nb:Nat),MH key a.toList b.toList out.reverse.toList (a.toList.take na) (b.toList.take nb)->nb=1->hJ key a.toList b.toList (b.extract 0 nb++a.extract 0 na++out.reverse).toList:=fun out na nb mi hc=>by
  rw [Array.toList_append,Array.toList_append,jr,jr]
  refine mi.ba fun x hx y hy=>?_
  obtain ⟨j,j1,j2,ej⟩:=gS hx
  have:j=0:=by lia
  subst this
  exact first x ej y (List.mem_of_mem_take hy)
 have pushB:∀(out:Array Keyed) (na nb:Nat) (x:Keyed),MH key a.toList b.toList out.reverse.toList (a.toList.take na) (b.toList.take nb)->0<nb->na<=a.size->b[nb-1]?=some x->(∀z,0<na->a[na-1]?=some z->Le key z x)->MH key a.toList b.toList (out.push x).reverse.toList (a.toList.take na) (b.toList.take (nb-1)):=fun out na nb x mi h0 hz ex hx=>by
  have e:=wy ex
  rw [show nb-1+1=nb by lia] at e
  rw [e] at mi
  have er:(out.push x).reverse.toList=[x]++out.reverse.toList:=by simp
  rw [er]
  refine MH.b mi fun u hu y hy=>?_
  rw [List.mem_singleton.mp hu]
  obtain ⟨j,j1,j2,ej⟩:=gS hy
  obtain ⟨z,ez,_⟩:=cN (arr:=a) (i:=na-1) 0x1
  exact (Sa j (na-1) y z (Nat.zero_le _) 0x1 0x1 ej ez).trans (hx z 0x1 ez)
 have pushA:∀(out:Array Keyed) (na nb:Nat) (x:Keyed),MH key a.toList b.toList out.reverse.toList (a.toList.take na) (b.toList.take nb)->0<na->nb<=b.size->a[na-1]?=some x->(∀z,0<nb->b[nb-1]?=some z->Le key z x)->MH key a.toList b.toList (out.push x).reverse.toList (a.toList.take (na-1)) (b.toList.take nb):=fun out na nb x mi h0 hz ex hx=>by
  have e:=wy ex
  rw [show na-1+1=na by lia] at e
  rw [e] at mi
  have er:(out.push x).reverse.toList=[x]++out.reverse.toList:=by simp
  rw [er]
  refine MH.a mi fun u hu y hy=>?_
  rw [List.mem_singleton.mp hu]
  obtain ⟨j,j1,j2,ej⟩:=gS hy
  obtain ⟨z,ez,_⟩:=cN (arr:=b) (i:=nb-1) 0x1
  exact (Sb j (nb-1) y z (Nat.zero_le _) 0x1 0x1 ej ez).trans (hx z 0x1 ez)
 refine wpS_bind (wpS_lift (wpAny_rule ⟨rfl,?_⟩))
 obtain ⟨z0,ez0,mz0⟩:=cN (arr:=a) (i:=a.size-1) 0x1
 refine wpS_bind (aV ez0 ?_)
 dsimp only
 have mi0:MH key a.toList b.toList (#[z0]:Array Keyed).reverse.toList (a.toList.take (a.size-1)) (b.toList.take b.size):=by
  have:MH key a.toList b.toList (#[]:Array Keyed).reverse.toList (a.toList.take a.size) (b.toList.take b.size):=by
   rw [List.take_of_length_le 0x4,List.take_of_length_le 0x4]
   exact ⟨0x4,0x4,sa,sb,fun _ _ _ hx=>(by simp at hx),fun _ _ _ hx=>(by simp at hx)⟩
  exact pushA #[] a.size b.size z0 this za (IJ _) ez0 fun z _ ez=>last z0 ez0 z (by
   obtain ⟨hz,rfl⟩:=Array.getElem?_eq_some_iff.mp ez
   simp)
 by_cases c1:(a.size-1==0)=true
 ·rw [if_pos c1]
  exact wpS_pure (h _ _ (Sm.refl _) (doneB _ _ _ mi0 (.inl (by simpa using c1))))
 rw [if_neg c1]
 have c1':a.size-1≠0:=by simpa using c1
 by_cases c2:(b.size==1)=true
 ·rw [if_pos c2]
  exact wpS_pure (h _ _ (Sm.refl _) (firstB _ _ _ mi0 (by simpa using c2)))
 rw [if_neg c2]
 have c2':b.size≠1:=by simpa using c2
 refine wpS_bind (wpS_get ?_)
 refine wpS_bind (wpS_mono (wpS_forRange
  (I:=fun x c st'=>Sm st st'/\∃na nb out g,c=(none,na,nb,out,g)/\HiA key a b out na nb/\x+1+(na+nb)<=a.size+b.size)
  (Q:=fun c st'=>Sm st st'/\∃r bN,c=(some r,bN)/\hJ key a.toList b.toList r.toList) ?step ?fin ⟨Sm.refl _,_,_,_,_,rfl,⟨mi0,0x1,0x1,0x1,0x1⟩,0x1⟩) ?post)
 case post=>
  rintro c st' ⟨hS,r,bN,rfl,hr⟩
  exact wpS_pure (h r st' hS hr)
 case fin=>
  rintro c st' ⟨hS,na,nb,out,g,rfl,hL,hx⟩
  have:=hL.ha
  have:=hL.hb
  exact absurd hx 0x1
 case step=>
  rintro x c st1 _ hx ⟨hS1,na,nb,out,g,rfl,hL,hxx⟩
  dsimp only
  refine wpS_bind (wpS_mono (wpS_forRange
   (I:=fun y c st'=>st'=st1/\∃na' nb' out ac bc,c=(none,na',nb',out,ac,bc)/\HiA key a b out na' nb'/\y+(na'+nb')<=na+nb)
   (Q:=fun c st'=>st'=st1/\((∃r bN,c=(some r,bN)/\hJ key a.toList b.toList r.toList)\/∃na' nb' out ac bc,c=(none,na',nb',out,ac,bc)/\HiA key a b out na' nb'/\1+(na'+nb')<=na+nb))
   ?istep ?ifin ⟨rfl,_,_,_,_,_,rfl,hL,0x1⟩) ?ipost)
  case ifin=>
   rintro c st' ⟨rfl,na',nb',out,ac,bc,rfl,hL',hy⟩
   exact ⟨rfl,.inr ⟨_,_,_,_,_,rfl,hL',0x1⟩⟩
  case istep=>
   rintro y c st' _ hy ⟨rfl,na',nb',out,ac,bc,rfl,hL',hyy⟩
   dsimp only
   have q1:=hL'.ha
   have q2:=hL'.ha2
   have q3:=hL'.hb
   have q4:=hL'.hb2
   obtain ⟨xb,exb,mxb⟩:=cN (arr:=b) (i:=nb'-1) 0x1
   obtain ⟨xa,exa,mxa⟩:=cN (arr:=a) (i:=na'-1) 0x1
   refine wpS_bind (aV exb (wpS_bind (aV exa (wpS_bind (hA xb xa _ _ (hS1.kind.trans hk) (pb _ mxb) (pa _ mxa) ?_)))))
   dsimp only
   cases c3:ll (key xb) (key xa) with
   |true=>
    rw [if_pos rfl]
    refine wpS_bind (aV exa ?_)
    have mi':=pushA out na' nb' xa hL'.mi q1 q4 exa (fun z _ ez=>by rw [exb] at ez; cases ez; exact Le.of_lt c3)
    by_cases c4:(na'-1==0)=true
    ·rw [if_pos c4]
     exact wpS_pure ⟨rfl,.inl ⟨_,_,rfl,doneB _ _ _ mi' (.inl (by simpa using c4))⟩⟩
    ·rw [if_neg c4]
     have c4':na'-1≠0:=by simpa using c4
     have hL2:HiA key a b (out.push xa) (na'-1) nb':=⟨mi',0x1,0x1,0x1,0x1⟩
     by_cases c5:ac+1>=g
     ·rw [if_pos c5]; exact wpS_pure ⟨rfl,.inr ⟨_,_,_,_,_,rfl,hL2,0x1⟩⟩
     ·rw [if_neg c5]; exact wpS_pure ⟨rfl,_,_,_,_,_,rfl,hL2,0x1⟩
   |false=>
    rw [if_neg 0x4]
    refine wpS_bind (aV exb ?_)
    have mi':=pushB out na' nb' xb hL'.mi 0x1 q2 exb (fun z _ ez=>by rw [exa] at ez; cases ez; exact c3)
    by_cases c4:(nb'-1==1)=true
    ·rw [if_pos c4]
     exact wpS_pure ⟨rfl,.inl ⟨_,_,rfl,firstB _ _ _ mi' (by simpa using c4)⟩⟩
    ·rw [if_neg c4]
     have c4':nb'-1≠1:=by simpa using c4
     have hL2:HiA key a b (out.push xb) na' (nb'-1):=⟨mi',0x1,0x1,0x1,0x1⟩
     by_cases c5:bc+1>=g
     ·rw [if_pos c5]; exact wpS_pure ⟨rfl,.inr ⟨_,_,_,_,_,rfl,hL2,0x1⟩⟩
     ·rw [if_neg c5]; exact wpS_pure ⟨rfl,_,_,_,_,_,rfl,hL2,0x1⟩
  case ipost=>
   rintro c st' ⟨rfl,hc⟩
   rcases hc with ⟨r,bN,rfl,hr⟩|⟨na2,nb2,out,ac,bc,rfl,hL2,hy2⟩
   ·dsimp only
    exact wpS_pure ⟨hS1,r,_,rfl,hr⟩
   dsimp only
   refine wpS_bind (wpS_lift (wpAny_rule ⟨rfl,?_⟩))
   refine wpS_bind (wpS_mono (wpS_forRange
    (I:=fun y c st'=>Sm st st'/\∃na' nb' out g ac bc,c=(none,na',nb',out,g,ac,bc)/\HiA key a b out na' nb'/\na'+nb'<=na2+nb2)
    (Q:=fun c st'=>Sm st st'/\((∃r bN,c=(some r,bN)/\hJ key a.toList b.toList r.toList)\/∃na' nb' out g ac bc,c=(none,na',nb',out,g,ac,bc)/\HiA key a b out na' nb'/\na'+nb'<=na2+nb2))
    ?gstep ?gfin ⟨hS1,_,_,_,_,_,_,rfl,hL2,IJ _⟩) ?gpost)
   case gfin=>
    rintro c st' ⟨hS,na',nb',out,g,ac,bc,rfl,hL',hy⟩
    exact ⟨hS,.inr ⟨_,_,_,_,_,_,rfl,hL',hy⟩⟩
   case gpost=>
    rintro c st' ⟨hS,hc⟩
    rcases hc with ⟨r,bN,rfl,hr⟩|⟨na3,nb3,out,g,ac,bc,rfl,hL3,hy3⟩
    ·dsimp only
     exact wpS_pure ⟨hS,r,_,rfl,hr⟩
    dsimp only
    refine wpS_bind (rT fun st3 hS3'=>wpS_pure ⟨hS.trans hS3',_,_,_,_,rfl,hL3,0x1⟩)
   case gstep=>
    rintro y c st2 _ hy ⟨hS2,na',nb',out,g,ac,bc,rfl,hL',hyy⟩
    dsimp only
    have q1:=hL'.ha
    have q2:=hL'.ha2
    have q3:=hL'.hb
    have q4:=hL'.hb2
    obtain ⟨xb,exb,mxb⟩:=cN (arr:=b) (i:=nb'-1) 0x1
    by_cases hg:g>1
    case' pos=>rw [if_pos hg]
    case' neg=>rw [if_neg hg]
    all_goals
     refine wpS_bind (rT fun st3 hS3'=>?_)
     have hS3:=hS2.trans hS3'
     refine wpS_bind (aV exb ?_)
     refine wpS_bind (jV hA (hS3.kind.trans hk) (pb _ mxb) 0x1 pa (fun i j x y q1 q2 q3=>Sa i j x y (Nat.zero_le _) q2 0x1) 0x1 fun at1 w1 w2 w3=>?_)
     dsimp only
     by_cases hk0:na'-at1>0
     ·rw [if_pos hk0]
      have mi1:MH key a.toList b.toList (out++(a.extract at1 na').reverse).reverse.toList (a.toList.take at1) (b.toList.take nb'):=by
       have er:(out++(a.extract at1 na').reverse).reverse.toList=(a.extract at1 na').toList++out.reverse.toList:=by simp
       rw [er]
       refine MH.a (by rw [<-iH 0x1]; exact hL'.mi) fun x hx y hy=>?_
       obtain ⟨i,i1,i2,i3,ei⟩:=dG hx
       obtain ⟨j,j1,j2,ej⟩:=gS hy
       exact (Sb j (nb'-1) y xb (Nat.zero_le _) 0x1 0x1 ej exb).trans (Le.of_lt (w3 i x 0x1 0x1 ei))
      by_cases e1:(at1==0)=true
      ·rw [if_pos e1]
       exact wpS_pure ⟨hS3,.inl ⟨_,_,rfl,doneB _ _ _ mi1 (.inl (by simpa using e1))⟩⟩
      rw [if_neg e1]
      have e1':at1≠0:=by simpa using e1
      have low:∀z,0<at1->a[at1-1]?=some z->Le key z xb:=fun z _ ez=>w2 _ z (Nat.zero_le _) 0x1 ez
      have lQ:at1+nb'<=na2+nb2:=by lia
      replace q1:0<at1:=by lia
      replace q2:at1<=a.size:=by lia
      clear w2 w3 e1
      generalize out++(a.extract at1 na').reverse=out1 at *
      generalize at1=na1 at *
      obtain ⟨xa1,exa1,mxa1⟩:=cN (arr:=a) (i:=na1-1) 0x1
      refine wpS_bind (aV exb ?_)
      have mi1b:=pushB out1 na1 nb' xb mi1 0x1 q2 exb low
      by_cases e3:(nb'-1==1)=true
      ·rw [if_pos e3]
       exact wpS_pure ⟨hS3,.inl ⟨_,_,rfl,firstB _ _ _ mi1b (by simpa using e3)⟩⟩
      rw [if_neg e3]
      have e3':nb'-1≠1:=by simpa using e3
      refine wpS_bind (aV exa1 ?_)
      refine wpS_bind (fS hA (hS3.kind.trans hk) (pa _ mxa1) 0x1 pb (fun i j x y q1 q2 q3=>Sb i j x y (Nat.zero_le _) q2 0x1) 0x1 fun at2 u1 u2 u3=>?_)
      dsimp only
      by_cases hk2:nb'-1-at2>0
      ·rw [if_pos hk2]
       have mi2:MH key a.toList b.toList (out1.push xb++(b.extract at2 (nb'-1)).reverse).reverse.toList (a.toList.take na1) (b.toList.take at2):=by
        have er:(out1.push xb++(b.extract at2 (nb'-1)).reverse).reverse.toList=(b.extract at2 (nb'-1)).toList++(out1.push xb).reverse.toList:=by simp
        rw [er]
        refine MH.b (by rw [<-iH 0x1]; exact mi1b) fun x hx y hy=>?_
        obtain ⟨i,i1,i2,i3,ei⟩:=dG hx
        obtain ⟨j,j1,j2,ej⟩:=gS hy
        exact (Sa j (na1-1) y xa1 (Nat.zero_le _) 0x1 0x1 ej exa1).trans (u3 i x 0x1 0x1 ei)
       by_cases e4:(at2==1)=true
       ·rw [if_pos e4]
        exact wpS_pure ⟨hS3,.inl ⟨_,_,rfl,firstB _ _ _ mi2 (by simpa using e4)⟩⟩
       rw [if_neg e4]
       have e4':at2≠1:=by simpa using e4
       by_cases e5:(at2==0)=true
       ·rw [if_pos e5]
        exact wpS_pure ⟨hS3,.inl ⟨_,_,rfl,doneB _ _ _ mi2 (.inr (by simpa using e5))⟩⟩
       rw [if_neg e5]
       have e5':at2≠0:=by simpa using e5
       have up2:∀z,0<at2->b[at2-1]?=some z->Le key z xa1:=fun z _ ez=>Le.of_lt (u2 _ z (Nat.zero_le _) 0x1 ez)
       have cnt2:na1+at2<=na2+nb2:=by lia
       have gtz:1<at2:=by lia
       have ltz:at2<=b.size:=by lia
       clear u2 u3 e4 e5
       generalize out1.push xb++(b.extract at2 (nb'-1)).reverse=out2 at *
       generalize at2=nbz at *
       refine wpS_bind (aV exa1 ?_)
       have mi3:=pushA out2 na1 nbz xa1 mi2 q1 0x1 exa1 up2
       by_cases d1:(na1-1==0)=true
       ·rw [if_pos d1]
        exact wpS_pure ⟨hS3,.inl ⟨_,_,rfl,doneB _ _ _ mi3 (.inl (by simpa using d1))⟩⟩
       rw [if_neg d1]
       have d1':na1-1≠0:=by simpa using d1
       have hL4:HiA key a b (out2.push xa1) (na1-1) nbz:=⟨mi3,0x1,0x1,0x1,0x1⟩
       split
       ·exact wpS_pure ⟨hS3,.inr ⟨_,_,_,_,_,_,rfl,hL4,0x1⟩⟩
       ·exact wpS_pure ⟨hS3,_,_,_,_,_,_,rfl,hL4,0x1⟩
      ·rw [if_neg hk2]
       have mi2:=mi1b
       have up2:∀z,0<nb'-1->b[nb'-1-1]?=some z->Le key z xa1:=fun z _ ez=>Le.of_lt (u2 _ z (Nat.zero_le _) 0x1 ez)
       have cnt2:na1+(nb'-1)<=na2+nb2:=by lia
       have gtz:1<nb'-1:=by lia
       have ltz:nb'-1<=b.size:=by lia
       clear u2 u3 mi1b hk2 u1
       generalize out1.push xb=out2 at *
       generalize nb'-1=nbz at *
       refine wpS_bind (aV exa1 ?_)
       have mi3:=pushA out2 na1 nbz xa1 mi2 q1 0x1 exa1 up2
       by_cases d1:(na1-1==0)=true
       ·rw [if_pos d1]
        exact wpS_pure ⟨hS3,.inl ⟨_,_,rfl,doneB _ _ _ mi3 (.inl (by simpa using d1))⟩⟩
       rw [if_neg d1]
       have d1':na1-1≠0:=by simpa using d1
       have hL4:HiA key a b (out2.push xa1) (na1-1) nbz:=⟨mi3,0x1,0x1,0x1,0x1⟩
       split
       ·exact wpS_pure ⟨hS3,.inr ⟨_,_,_,_,_,_,rfl,hL4,0x1⟩⟩
       ·exact wpS_pure ⟨hS3,_,_,_,_,_,_,rfl,hL4,0x1⟩
     ·rw [if_neg hk0]
      have mi1:=hL'.mi
      have low:∀z,0<na'->a[na'-1]?=some z->Le key z xb:=fun z _ ez=>w2 _ z (Nat.zero_le _) 0x1 ez
      have lQ:na'+nb'<=na2+nb2:=hyy
      clear w2 w3 hk0 w1
      generalize out=out1 at *
      generalize na'=na1 at *
      obtain ⟨xa1,exa1,mxa1⟩:=cN (arr:=a) (i:=na1-1) 0x1
      refine wpS_bind (aV exb ?_)
      have mi1b:=pushB out1 na1 nb' xb mi1 0x1 q2 exb low
      by_cases e3:(nb'-1==1)=true
      ·rw [if_pos e3]
       exact wpS_pure ⟨hS3,.inl ⟨_,_,rfl,firstB _ _ _ mi1b (by simpa using e3)⟩⟩
      rw [if_neg e3]
      have e3':nb'-1≠1:=by simpa using e3
      refine wpS_bind (aV exa1 ?_)
      refine wpS_bind (fS hA (hS3.kind.trans hk) (pa _ mxa1) 0x1 pb (fun i j x y q1 q2 q3=>Sb i j x y (Nat.zero_le _) q2 0x1) 0x1 fun at2 u1 u2 u3=>?_)
      dsimp only
      by_cases hk2:nb'-1-at2>0
      ·rw [if_pos hk2]
       have mi2:MH key a.toList b.toList (out1.push xb++(b.extract at2 (nb'-1)).reverse).reverse.toList (a.toList.take na1) (b.toList.take at2):=by
        have er:(out1.push xb++(b.extract at2 (nb'-1)).reverse).reverse.toList=(b.extract at2 (nb'-1)).toList++(out1.push xb).reverse.toList:=by simp
        rw [er]
        refine MH.b (by rw [<-iH 0x1]; exact mi1b) fun x hx y hy=>?_
        obtain ⟨i,i1,i2,i3,ei⟩:=dG hx
        obtain ⟨j,j1,j2,ej⟩:=gS hy
        exact (Sa j (na1-1) y xa1 (Nat.zero_le _) 0x1 0x1 ej exa1).trans (u3 i x 0x1 0x1 ei)
       by_cases e4:(at2==1)=true
       ·rw [if_pos e4]
        exact wpS_pure ⟨hS3,.inl ⟨_,_,rfl,firstB _ _ _ mi2 (by simpa using e4)⟩⟩
       rw [if_neg e4]
       have e4':at2≠1:=by simpa using e4
       by_cases e5:(at2==0)=true
       ·rw [if_pos e5]
        exact wpS_pure ⟨hS3,.inl ⟨_,_,rfl,doneB _ _ _ mi2 (.inr (by simpa using e5))⟩⟩
       rw [if_neg e5]
       have e5':at2≠0:=by simpa using e5
       have up2:∀z,0<at2->b[at2-1]?=some z->Le key z xa1:=fun z _ ez=>Le.of_lt (u2 _ z (Nat.zero_le _) 0x1 ez)
       have cnt2:na1+at2<=na2+nb2:=by lia
       have gtz:1<at2:=by lia
       have ltz:at2<=b.size:=by lia
       clear u2 u3 e4 e5
       generalize out1.push xb++(b.extract at2 (nb'-1)).reverse=out2 at *
       generalize at2=nbz at *
       refine wpS_bind (aV exa1 ?_)
       have mi3:=pushA out2 na1 nbz xa1 mi2 q1 0x1 exa1 up2
       by_cases d1:(na1-1==0)=true
       ·rw [if_pos d1]
        exact wpS_pure ⟨hS3,.inl ⟨_,_,rfl,doneB _ _ _ mi3 (.inl (by simpa using d1))⟩⟩
       rw [if_neg d1]
       have d1':na1-1≠0:=by simpa using d1
       have hL4:HiA key a b (out2.push xa1) (na1-1) nbz:=⟨mi3,0x1,0x1,0x1,0x1⟩
       split
       ·exact wpS_pure ⟨hS3,.inr ⟨_,_,_,_,_,_,rfl,hL4,0x1⟩⟩
       ·exact wpS_pure ⟨hS3,_,_,_,_,_,_,rfl,hL4,0x1⟩
      ·rw [if_neg hk2]
       have mi2:=mi1b
       have up2:∀z,0<nb'-1->b[nb'-1-1]?=some z->Le key z xa1:=fun z _ ez=>Le.of_lt (u2 _ z (Nat.zero_le _) 0x1 ez)
       have cnt2:na1+(nb'-1)<=na2+nb2:=by lia
       have gtz:1<nb'-1:=by lia
       have ltz:nb'-1<=b.size:=by lia
       clear u2 u3 mi1b hk2 u1
       generalize out1.push xb=out2 at *
       generalize nb'-1=nbz at *
       refine wpS_bind (aV exa1 ?_)
       have mi3:=pushA out2 na1 nbz xa1 mi2 q1 0x1 exa1 up2
       by_cases d1:(na1-1==0)=true
       ·rw [if_pos d1]
        exact wpS_pure ⟨hS3,.inl ⟨_,_,rfl,doneB _ _ _ mi3 (.inl (by simpa using d1))⟩⟩
       rw [if_neg d1]
       have d1':na1-1≠0:=by simpa using d1
       have hL4:HiA key a b (out2.push xa1) (na1-1) nbz:=⟨mi3,0x1,0x1,0x1,0x1⟩
       split
       ·exact wpS_pure ⟨hS3,.inr ⟨_,_,_,_,_,_,rfl,hL4,0x1⟩⟩
       ·exact wpS_pure ⟨hS3,_,_,_,_,_,_,rfl,hL4,0x1⟩
end
noncomputable def kA (key:Keyed->List Int) (arr:Array Keyed) (i:Nat):List Int:=match arr[i]? with
 |some x=>key x
 |none=>[]
structure Fr (lo hi:Nat) (st st':SortSt):Prop where
 kind:kindOf st'=kindOf st
 pend:pendingOf st'=pendingOf st
 failed:failedOf st'=failedOf st
 perm:(arrOf st').Perm (arrOf st)
 same:∀i,(i<lo\/hi<=i)->(arrOf st')[i]?=(arrOf st)[i]?
theorem Fr.refl {lo hi:Nat} (st:SortSt):Fr lo hi st st:=⟨rfl,rfl,rfl,Array.Perm.refl _,fun _ _=>rfl⟩
theorem Fr.trans {lo hi:Nat} {a b c:SortSt} (h1:Fr lo hi a b) (h2:Fr lo hi b c):Fr lo hi a c:=
 ⟨h2.kind.trans h1.kind,h2.pend.trans h1.pend,h2.failed.trans h1.failed,h2.perm.trans h1.perm,fun i hi=>(h2.same i hi).trans (h1.same i hi)⟩
theorem Fr.size {lo hi:Nat} {a b:SortSt} (h:Fr lo hi a b):(arrOf b).size=(arrOf a).size:=h.perm.size_eq
section
variable {key:Keyed->List Int}
theorem qi {arr:Array Keyed} {i:Nat} {x:Keyed} (h:arr[i]?=some x):kA key arr i=key x:=by unfold kA; rw [h]
theorem i4 {a b:Array Keyed} {i j:Nat} (h:a[i]?=b[j]?):kA key a i=kA key b j:=by unfold kA; rw [h]
noncomputable def ug (key:Keyed->List Int) (arr:Array Keyed) (lo hi:Nat):Prop:=∀i j,lo<=i->i<=j->j<hi->ll (kA key arr j) (kA key arr i)=false
noncomputable def tj (key:Keyed->List Int) (arr:Array Keyed) (lo hi:Nat):Prop:=∀i j,lo<=i->i<=j->j<hi->ll (kA key arr i) (kA key arr j)=false
theorem ug.seg {arr:Array Keyed} {lo hi:Nat} (h:ug key arr lo hi):eN key arr lo hi:=fun i j x y h1 h2 h3 ex ey=>by
 have:=h i j h1 h2 h3
 rw [qi ex,qi ey] at this
 exact this
theorem eN.up {arr:Array Keyed} {lo hi:Nat} (h:eN key arr lo hi) (hz:hi<=arr.size):ug key arr lo hi:=fun i j h1 h2 h3=>by
 obtain ⟨x,ex,_⟩:=cN (arr:=arr) (i:=i) 0x1
 obtain ⟨y,ey,_⟩:=cN (arr:=arr) (i:=j) 0x1
 rw [qi ex,qi ey]
 exact h i j x y h1 h2 h3 ex ey
theorem eN.congr {a b:Array Keyed} {lo hi:Nat} (h:eN key a lo hi) (e:∀i,lo<=i->i<hi->b[i]?=a[i]?):eN key b lo hi:=fun i j x y h1 h2 h3 ex ey=>
 h i j x y h1 h2 h3 (by rw [<-e i h1 0x1]; exact ex) (by rw [<-e j 0x1 h3]; exact ey)
theorem ug.step {arr:Array Keyed} {lo x:Nat} (h:ug key arr lo x) (hl:lo<x) (c:ll (kA key arr x) (kA key arr (x-1))=false):ug key arr lo (x+1):=fun i j h1 h2 h3=>by
 by_cases hj:j<x
 ·exact h i j h1 h2 hj
 ·have:j=x:=by lia
  subst this
  by_cases hi:i=j
  ·subst hi; exact cX _
  ·exact ee (h i (j-1) h1 0x1 0x1) c
theorem tj.step {arr:Array Keyed} {lo x:Nat} (h:tj key arr lo x) (hl:lo<x) (c:ll (kA key arr (x-1)) (kA key arr x)=false):tj key arr lo (x+1):=fun i j h1 h2 h3=>by
 by_cases hj:j<x
 ·exact h i j h1 h2 hj
 ·have:j=x:=by lia
  subst this
  by_cases hi:i=j
  ·subst hi; exact cX _
  ·exact ee c (h i (j-1) h1 0x1 0x1)
theorem tj.congr {a b:Array Keyed} {lo hi:Nat} (h:tj key a lo hi) (e:∀k,kA key b k=kA key a k):tj key b lo hi:=fun i j h1 h2 h3=>by rw [e,e]; exact h i j h1 h2 h3
theorem gN {arr:Array Keyed} {i j:Nat} (hj:j<=arr.size) (k:Nat):kA key (mirror arr i j ((j-i) / 2)) k=if i<=k/\k<j then kA key arr (i+j-1-k) else kA key arr k:=by
 have e:=getElem?_mirror_all (xs:=arr) (i:=i) hj k
 split
 ·rename_i h; rw [if_pos h] at e; exact i4 e
 ·rename_i h; rw [if_neg h] at e; exact i4 e
theorem eA {arr:Array Keyed} {i j:Nat} (hj:j<=arr.size) (h:∀a,i<=a->a<j->kA key arr a=kA key arr (j-1)) (k:Nat):kA key (mirror arr i j ((j-i) / 2)) k=kA key arr k:=by
 rw [gN hj]
 split
 ·rw [h _ 0x1 0x1,h k 0x1 0x1]
 ·rfl
theorem lY {arr:Array Keyed} {k d:Nat} (hk:k<arr.size) (hd:d<=k) (m:Nat):kA key (bubble arr k d) m=if m=k-d then kA key arr k else if k-d<m/\m<=k then kA key arr (m-1) else kA key arr m:=by
 have e:=getElem?_bubble (xs:=arr) hk d hd m
 split
 ·rename_i h; rw [if_pos h] at e; exact i4 e
 ·rename_i h; rw [if_neg h] at e
  split
  ·rename_i h2; rw [if_pos h2] at e; exact i4 e
  ·rename_i h2; rw [if_neg h2] at e; exact i4 e
theorem Fr.mirror {lo hi i j:Nat} {st:SortSt} (h1:lo<=i) (h2:j<=hi) (hz:j<=(arrOf st).size):Fr lo hi st (setArr st (mirror (arrOf st) i j ((j-i) / 2))):=
 ⟨rfl,rfl,rfl,mirror_perm _ _ _ _,fun k hk=>by
  show (PyProof.Rows.mirror (arrOf st) i j ((j-i) / 2))[k]?=(arrOf st)[k]?
  rw [getElem?_mirror_all hz,if_neg 0x1]⟩
theorem Fr.bubble {lo hi k d:Nat} {st:SortSt} (h1:lo+d<=k) (h2:k<hi) (hz:k<(arrOf st).size):Fr lo hi st (setArr st (bubble (arrOf st) k d)):=
 ⟨rfl,rfl,rfl,bubble_perm _ _ _,fun m hm=>by
  show (PyProof.Rows.bubble (arrOf st) k d)[m]?=(arrOf st)[m]?
  rw [getElem?_bubble hz d 0x1,if_neg 0x1,if_neg 0x1]⟩
end
section
variable {M:Model} {A:Around} {E:Value->Shared->Prop} {s:Shared} {κ:SortKind} {key:Keyed->List Int} {P:Keyed->Prop}
theorem j8 {st:SortSt} {i j:Nat} {Q:Unit->SortSt->Prop} (h:Q () (setArr st (mirror (arrOf st) i j ((j-i) / 2)))):wpS M A E s (reverseSlice' i j) Q st:=by
 rw [reverseSlice'_eq]; exact wpS_modify h
theorem Bn {st:SortSt} {i j:Nat} {Q:Unit->SortSt->Prop} (h:Q () (setArr st (bubble (arrOf st) i (i-j)))):wpS M A E s (moveDown' i j) Q st:=by
 rw [moveDown'_eq]; exact wpS_modify h
theorem fN (hA:mL M A E s κ key P) {st:SortSt} {i j:Nat} {Q:Option Bool->SortSt->Prop} (hk:kindOf st=κ) (hP:∀x∈(arrOf st).toList,P x) (hi:i<(arrOf st).size) (hj:j<(arrOf st).size)
  (h:Q (some (ll (kA key (arrOf st) i) (kA key (arrOf st) j))) st):wpS M A E s (ltAt' i j) Q st:=by
 obtain ⟨x,ex,mx⟩:=cN (arr:=arrOf st) hi
 obtain ⟨y,ey,my⟩:=cN (arr:=arrOf st) hj
 rw [qi ex,qi ey] at h
 rw [ltAt'_eq]
 refine wpS_bind (wpS_get ?_)
 exact wpS_bind (aV ex (wpS_bind (aV ey (hA x y st _ hk (hP x mx) (hP y my) h))))
theorem Fr.allP {lo hi:Nat} {a b:SortSt} (h:Fr lo hi a b) (hP:∀x∈(arrOf a).toList,P x):∀x∈(arrOf b).toList,P x:=fun x hx=>hP x ((Array.perm_iff_toList_perm.mp h.perm).mem_iff.mp hx)
theorem tL (hA:mL M A E s κ key P) {st:SortSt} {lo nrem:Nat} {Q:Option Nat->SortSt->Prop} (hk:kindOf st=κ) (hP:∀x∈(arrOf st).toList,P x) (h1:1<=nrem) (hz:lo+nrem<=(arrOf st).size)
  (h:∀n st',1<=n->n<=nrem->Fr lo (lo+nrem) st st'->eN key (arrOf st') lo (lo+n)->Q (some n) st'):wpS M A E s (countRun' lo nrem) Q st:=by
 refine wpS_bind (wpS_mono (wpS_forRange (I:=fun x c st'=>st'=st/\c=(none,x)/\ug key (arrOf st) lo (lo+x))
  (Q:=fun c st'=>st'=st/\∃n,c=(none,n)/\1<=n/\n<=nrem/\ug key (arrOf st) lo (lo+n)/\(n=nrem\/ll (kA key (arrOf st) (lo+n)) (kA key (arrOf st) (lo+n-1))=true)) ?_ ?_
  ⟨rfl,rfl,fun i j q1 q2 q3=>by rw [show i=j by lia]; exact cX _⟩) ?_)
 ·rintro x c st' q1 q2 ⟨rfl,rfl,hu⟩
  dsimp only
  refine wpS_bind (fN hA hk hP 0x1 0x1 ?_)
  dsimp only
  cases c1:ll (kA key (arrOf st') (lo+x)) (kA key (arrOf st') (lo+x-1)) with
  |true=>exact wpS_pure ⟨rfl,x,rfl,q1,0x1,hu,.inr c1⟩
  |false=>exact wpS_pure ⟨rfl,rfl,hu.step 0x1 c1⟩
 ·rintro c st' ⟨rfl,rfl,hu⟩
  rw [show max 1 nrem=nrem by lia] at hu ⊢
  exact ⟨rfl,nrem,rfl,h1,IJ _,hu,.inl rfl⟩
 rintro c st' ⟨rfl,n,rfl,n1,n2,hu,hor⟩
 dsimp only
 by_cases e1:(n==nrem)=true
 ·rw [if_pos e1]
  exact wpS_pure (h n _ n1 n2 (Fr.refl _) hu.seg)
 rw [if_neg e1]
 have e1':n≠nrem:=by simpa using e1
 have hlt:=hor.resolve_left e1'
 by_cases e2:n>1
 ·rw [if_pos e2]
  refine wpS_bind (fN hA hk hP 0x1 0x1 ?_)
  dsimp only
  cases c1:ll (kA key (arrOf st') lo) (kA key (arrOf st') (lo+n-1)) with
  |true=>exact wpS_pure (h n _ n1 n2 (Fr.refl _) hu.seg)
  |false=>
   rw [if_neg 0x4]
   have all0:∀a,lo<=a->a<lo+n->kA key (arrOf st') a=kA key (arrOf st') (lo+n-1):=fun a q1 q2=>
    iS (ee c1 (hu lo a (IJ _) q1 q2)) (hu a (lo+n-1) q1 0x1 0x1)
   have eqk:=eA (key:=key) (arr:=arrOf st') (i:=lo) (j:=lo+n) 0x1 all0
   refine wpS_bind (j8 ?_)
   have F0:Fr lo (lo+nrem) st' (setArr st' (mirror (arrOf st') lo (lo+n) ((lo+n-lo) / 2))):=Fr.mirror (IJ _) 0x1 0x1
   have D0:tj key (arrOf (setArr st' (mirror (arrOf st') lo (lo+n) ((lo+n-lo) / 2)))) lo (lo+(n+1)):=by
    refine tj.congr (a:=arrOf st') (fun i j q1 q2 q3=>?_) eqk
    by_cases hj:j=lo+n
    ·subst hj
     by_cases hi:i=lo+n
     ·subst hi; exact cX _
     ·rw [all0 i q1 0x1]; exact fv hlt
    ·rw [all0 i q1 0x1,all0 j 0x1 0x1]; exact cX _
   generalize setArr st' (mirror (arrOf st') lo (lo+n) ((lo+n-lo) / 2))=st0 at *
   have K0:=F0.kind.trans hk
   have Z0:=F0.size
   refine wpS_bind (wpS_lift (wpAny_rule ⟨rfl,?_⟩))
   refine wpS_bind (wpS_mono (wpS_forRange
    (I:=fun x c st1=>∃q,c=(none,x,q)/\Fr lo (lo+nrem) st' st1/\tj key (arrOf st1) lo (lo+x)/\q+1<=x/\∀i,lo+x-(q+1)<=i->i<lo+x->kA key (arrOf st1) i=kA key (arrOf st1) (lo+x-1))
    (Q:=fun c st1=>∃m q,c=(none,m,q)/\n+1<=m/\m<=nrem/\Fr lo (lo+nrem) st' st1/\tj key (arrOf st1) lo (lo+m)/\q+1<=m/\∀i,lo+m-(q+1)<=i->i<lo+m->kA key (arrOf st1) i=kA key (arrOf st1) (lo+m-1))
    ?_ ?_ ⟨0,rfl,F0,D0,0x1,fun i q1 q2=>by rw [show i=lo+(n+1)-1 by lia]⟩) ?_)
   ·rintro x c st1 x1 x2 ⟨q,rfl,F1,D1,hq,heq⟩
    dsimp only
    have K1:=F1.kind.trans hk
    have Z1:=F1.size
    refine wpS_bind (fN hA K1 (F1.allP hP) 0x1 0x1 ?_)
    dsimp only
    cases c2:ll (kA key (arrOf st1) (lo+x)) (kA key (arrOf st1) (lo+x-1)) with
    |true=>
     rw [if_pos rfl]
     have D2:tj key (arrOf st1) lo (lo+x+1):=D1.step 0x1 (fv c2)
     by_cases hq0:q>0
     ·rw [if_pos hq0]
      refine wpS_bind (j8 (wpS_pure ⟨0,rfl,F1.trans (Fr.mirror 0x1 0x1 0x1),?_,0x1,fun i q1 q2=>by rw [show i=lo+(x+1)-1 by lia]⟩))
      exact D2.congr (eA 0x1 heq)
     ·rw [if_neg hq0]
      exact wpS_pure ⟨0,rfl,F1,D2,0x1,fun i q1 q2=>by rw [show i=lo+(x+1)-1 by lia]⟩
    |false=>
     rw [if_neg 0x4]
     refine wpS_bind (fN hA K1 (F1.allP hP) 0x1 0x1 ?_)
     dsimp only
     cases c3:ll (kA key (arrOf st1) (lo+x-1)) (kA key (arrOf st1) (lo+x)) with
     |true=>exact wpS_pure ⟨x,q,rfl,x1,0x1,F1,D1,hq,heq⟩
     |false=>
      have ex:kA key (arrOf st1) (lo+x-1)=kA key (arrOf st1) (lo+x):=iS c3 c2
      refine wpS_pure ⟨q+1,rfl,F1,D1.step 0x1 c3,0x1,fun i q1 q2=>?_⟩
      rw [show lo+(x+1)-1=lo+x by lia]
      by_cases hi:i=lo+x
      ·rw [hi]
      ·rw [<-ex]; exact heq i 0x1 0x1
   ·rintro c st1 ⟨q,rfl,F1,D1,hq,heq⟩
    rw [show max (n+1) nrem=nrem by lia] at *
    exact ⟨nrem,q,rfl,0x1,IJ _,F1,D1,hq,heq⟩
   rintro c st1 ⟨m,q,rfl,m1,m2,F1,D1,hq,heq⟩
   dsimp only
   have Z1:=F1.size
   have last:∀st2,Fr lo (lo+nrem) st' st2->tj key (arrOf st2) lo (lo+m)->∀st3,st3=setArr st2 (mirror (arrOf st2) lo (lo+m) ((lo+m-lo) / 2))->Fr lo (lo+nrem) st' st3/\ug key (arrOf st3) lo (lo+m):=fun st2 F2 D2 st3 e3=>by
    have Z2:=F2.size
    subst e3
    refine ⟨F2.trans (Fr.mirror (IJ _) 0x1 0x1),fun i j q1 q2 q3=>?_⟩
    show ll (kA key (mirror (arrOf st2) lo (lo+m) ((lo+m-lo) / 2)) j) (kA key (mirror (arrOf st2) lo (lo+m) ((lo+m-lo) / 2)) i)=false
    rw [gN 0x1,gN 0x1,if_pos 0x1,if_pos 0x1]
    exact D2 _ _ 0x1 0x1 0x1
   by_cases hq0:q>0
   case' pos=>
    rw [if_pos hq0]
    refine wpS_bind (j8 ?_)
    obtain ⟨F3,U3⟩:=last (setArr st1 (mirror (arrOf st1) (lo+m-(q+1)) (lo+m) ((lo+m-(lo+m-(q+1))) / 2))) (F1.trans (Fr.mirror 0x1 0x1 0x1)) (D1.congr (eA 0x1 heq)) _ rfl
   case' neg=>
    rw [if_neg hq0]
    obtain ⟨F3,U3⟩:=last st1 F1 D1 _ rfl
   all_goals
    refine wpS_bind (j8 ?_)
    have Z3:=F3.size
    refine wpS_bind (wpS_mono (wpS_forRange (I:=fun x c st4=>st4=_/\c=(none,x)/\ug key (arrOf st4) lo (lo+x))
     (Q:=fun c st4=>Fr lo (lo+nrem) st' st4/\∃n,c=(none,n)/\1<=n/\n<=nrem/\ug key (arrOf st4) lo (lo+n)) ?_ ?_ ⟨rfl,rfl,U3⟩) ?_)
    ·rintro x c st4 q1 q2 ⟨rfl,rfl,hu⟩
     dsimp only
     refine wpS_bind (fN hA (F3.kind.trans hk) (F3.allP hP) 0x1 0x1 ?_)
     split
     ·rename_i b eb
      cases eb
      split
      ·exact wpS_pure ⟨F3,x,rfl,0x1,0x1,hu⟩
      ·rename_i c5
       exact wpS_pure ⟨rfl,rfl,hu.step 0x1 (by simpa using c5)⟩
     ·rename_i eb
      exact absurd rfl (eb _)
    ·rintro c st4 ⟨rfl,rfl,hu⟩
     rw [show max m nrem=nrem by lia] at hu ⊢
     exact ⟨F3,nrem,rfl,h1,IJ _,hu⟩
    ·rintro c st4 ⟨F4,n',rfl,q1,q2,hu⟩
     exact wpS_pure (h n' _ q1 q2 F4 hu.seg)
 ·rw [if_neg e2]
  have F0:Fr lo (lo+nrem) st' st':=Fr.refl _
  have D0:tj key (arrOf st') lo (lo+(n+1)):=fun i j q1 q2 q3=>by
   by_cases hi:i=j
   ·subst hi; exact cX _
   ·have e3:i=lo+n-1:=by lia
    have e4:j=lo+n:=by lia
    subst e3; subst e4
    exact fv hlt
  obtain ⟨st0,est0⟩:∃x,x=st':=⟨_,rfl⟩
  have F0:Fr lo (lo+nrem) st' st0:=by rw [est0]; exact Fr.refl _
  rw [<-est0] at D0
  rw [show wpS M A E s _ Q st'=wpS M A E s _ Q st0 from by rw [est0]]
  have K0:=F0.kind.trans hk
  have Z0:=F0.size
  refine wpS_bind (wpS_lift (wpAny_rule ⟨rfl,?_⟩))
  refine wpS_bind (wpS_mono (wpS_forRange
   (I:=fun x c st1=>∃q,c=(none,x,q)/\Fr lo (lo+nrem) st' st1/\tj key (arrOf st1) lo (lo+x)/\q+1<=x/\∀i,lo+x-(q+1)<=i->i<lo+x->kA key (arrOf st1) i=kA key (arrOf st1) (lo+x-1))
   (Q:=fun c st1=>∃m q,c=(none,m,q)/\n+1<=m/\m<=nrem/\Fr lo (lo+nrem) st' st1/\tj key (arrOf st1) lo (lo+m)/\q+1<=m/\∀i,lo+m-(q+1)<=i->i<lo+m->kA key (arrOf st1) i=kA key (arrOf st1) (lo+m-1))
   ?_ ?_ ⟨0,rfl,F0,D0,0x1,fun i q1 q2=>by rw [show i=lo+(n+1)-1 by lia]⟩) ?_)
  ·rintro x c st1 x1 x2 ⟨q,rfl,F1,D1,hq,heq⟩
   dsimp only
   have K1:=F1.kind.trans hk
   have Z1:=F1.size
   refine wpS_bind (fN hA K1 (F1.allP hP) 0x1 0x1 ?_)
   dsimp only
   cases c2:ll (kA key (arrOf st1) (lo+x)) (kA key (arrOf st1) (lo+x-1)) with
   |true=>
    rw [if_pos rfl]
    have D2:tj key (arrOf st1) lo (lo+x+1):=D1.step 0x1 (fv c2)
    by_cases hq0:q>0
    ·rw [if_pos hq0]
     refine wpS_bind (j8 (wpS_pure ⟨0,rfl,F1.trans (Fr.mirror 0x1 0x1 0x1),?_,0x1,fun i q1 q2=>by rw [show i=lo+(x+1)-1 by lia]⟩))
     exact D2.congr (eA 0x1 heq)
    ·rw [if_neg hq0]
     exact wpS_pure ⟨0,rfl,F1,D2,0x1,fun i q1 q2=>by rw [show i=lo+(x+1)-1 by lia]⟩
   |false=>
    rw [if_neg 0x4]
    refine wpS_bind (fN hA K1 (F1.allP hP) 0x1 0x1 ?_)
    dsimp only
    cases c3:ll (kA key (arrOf st1) (lo+x-1)) (kA key (arrOf st1) (lo+x)) with
    |true=>exact wpS_pure ⟨x,q,rfl,x1,0x1,F1,D1,hq,heq⟩
    |false=>
     have ex:kA key (arrOf st1) (lo+x-1)=kA key (arrOf st1) (lo+x):=iS c3 c2
     refine wpS_pure ⟨q+1,rfl,F1,D1.step 0x1 c3,0x1,fun i q1 q2=>?_⟩
     rw [show lo+(x+1)-1=lo+x by lia]
     by_cases hi:i=lo+x
     ·rw [hi]
     ·rw [<-ex]; exact heq i 0x1 0x1
  ·rintro c st1 ⟨q,rfl,F1,D1,hq,heq⟩
   rw [show max (n+1) nrem=nrem by lia] at *
   exact ⟨nrem,q,rfl,0x1,IJ _,F1,D1,hq,heq⟩
  rintro c st1 ⟨m,q,rfl,m1,m2,F1,D1,hq,heq⟩
  dsimp only
  have Z1:=F1.size
  have last:∀st2,Fr lo (lo+nrem) st' st2->tj key (arrOf st2) lo (lo+m)->∀st3,st3=setArr st2 (mirror (arrOf st2) lo (lo+m) ((lo+m-lo) / 2))->Fr lo (lo+nrem) st' st3/\ug key (arrOf st3) lo (lo+m):=fun st2 F2 D2 st3 e3=>by
   have Z2:=F2.size
   subst e3
   refine ⟨F2.trans (Fr.mirror (IJ _) 0x1 0x1),fun i j q1 q2 q3=>?_⟩
   show ll (kA key (mirror (arrOf st2) lo (lo+m) ((lo+m-lo) / 2)) j) (kA key (mirror (arrOf st2) lo (lo+m) ((lo+m-lo) / 2)) i)=false
   rw [gN 0x1,gN 0x1,if_pos 0x1,if_pos 0x1]
   exact D2 _ _ 0x1 0x1 0x1
  by_cases hq0:q>0
  case' pos=>
   rw [if_pos hq0]
   refine wpS_bind (j8 ?_)
   obtain ⟨F3,U3⟩:=last (setArr st1 (mirror (arrOf st1) (lo+m-(q+1)) (lo+m) ((lo+m-(lo+m-(q+1))) / 2))) (F1.trans (Fr.mirror 0x1 0x1 0x1)) (D1.congr (eA 0x1 heq)) _ rfl
  case' neg=>
   rw [if_neg hq0]
   obtain ⟨F3,U3⟩:=last st1 F1 D1 _ rfl
  all_goals
   refine wpS_bind (j8 ?_)
   have Z3:=F3.size
   refine wpS_bind (wpS_mono (wpS_forRange (I:=fun x c st4=>st4=_/\c=(none,x)/\ug key (arrOf st4) lo (lo+x))
    (Q:=fun c st4=>Fr lo (lo+nrem) st' st4/\∃n,c=(none,n)/\1<=n/\n<=nrem/\ug key (arrOf st4) lo (lo+n)) ?_ ?_ ⟨rfl,rfl,U3⟩) ?_)
   ·rintro x c st4 q1 q2 ⟨rfl,rfl,hu⟩
    dsimp only
    refine wpS_bind (fN hA (F3.kind.trans hk) (F3.allP hP) 0x1 0x1 ?_)
    split
    ·rename_i b eb
     cases eb
     split
     ·exact wpS_pure ⟨F3,x,rfl,0x1,0x1,hu⟩
     ·rename_i c5
      exact wpS_pure ⟨rfl,rfl,hu.step 0x1 (by simpa using c5)⟩
    ·rename_i eb
     exact absurd rfl (eb _)
   ·rintro c st4 ⟨rfl,rfl,hu⟩
    rw [show max m nrem=nrem by lia] at hu ⊢
    exact ⟨F3,nrem,rfl,h1,IJ _,hu⟩
   ·rintro c st4 ⟨F4,n',rfl,q1,q2,hu⟩
    exact wpS_pure (h n' _ q1 q2 F4 hu.seg)
theorem pD (hA:mL M A E s κ key P) {st:SortSt} {lo n ok:Nat} {Q:Bool->SortSt->Prop} (hk:kindOf st=κ) (hP:∀x∈(arrOf st).toList,P x) (h1:1<=ok) (hok:ok<=n) (hz:lo+n<=(arrOf st).size)
  (hs:eN key (arrOf st) lo (lo+ok)) (h:∀st',Fr lo (lo+n) st st'->eN key (arrOf st') lo (lo+n)->Q true st'):wpS M A E s (binarySort' lo n ok) Q st:=by
 refine wpS_bind (wpS_mono (wpS_forRange (I:=fun k c st'=>c=(none,())/\Fr lo (lo+n) st st'/\ug key (arrOf st') lo (lo+k))
  (Q:=fun c st'=>c=(none,())/\Fr lo (lo+n) st st'/\ug key (arrOf st') lo (lo+n)) ?_ ?_ ⟨rfl,Fr.refl _,by rw [show max ok 1=ok by lia]; exact hs.up 0x1⟩) ?_)
 ·rintro k c st1 k1 k2 ⟨rfl,F1,U1⟩
  have Z1:=F1.size
  dsimp only
  refine wpS_bind (wpS_mono (wpS_forRange (I:=fun x c st2=>st2=st1/\∃l r,c=(none,l,r)/\l<=r/\r<=k/\r-l<=k-x /\
    (∀i,i<l->ll (kA key (arrOf st1) (lo+k)) (kA key (arrOf st1) (lo+i))=false)/\(∀i,r<=i->i<k->ll (kA key (arrOf st1) (lo+k)) (kA key (arrOf st1) (lo+i))=true))
   (Q:=fun c st2=>st2=st1/\∃l r,c=(none,l,r)/\l<=k /\
    (∀i,i<l->ll (kA key (arrOf st1) (lo+k)) (kA key (arrOf st1) (lo+i))=false)/\(∀i,l<=i->i<k->ll (kA key (arrOf st1) (lo+k)) (kA key (arrOf st1) (lo+i))=true)) ?_ ?_
   ⟨rfl,0,k,rfl,0x1,0x1,0x1,fun i hi=>0x1,fun i h1 h2=>0x1⟩) ?_)
  ·rintro x c st2 _ hx ⟨rfl,l,r,rfl,q1,q2,q3,q4,q5⟩
   dsimp only
   by_cases hlr:l>=r
   ·rw [if_pos hlr]
    exact wpS_pure ⟨rfl,l,r,rfl,0x1,q4,fun i u1 u2=>q5 i 0x1 u2⟩
   ·rw [if_neg hlr]
    refine wpS_bind (fN hA (F1.kind.trans hk) (F1.allP hP) 0x1 0x1 ?_)
    dsimp only
    cases c1:ll (kA key (arrOf st2) (lo+k)) (kA key (arrOf st2) (lo+(l+r) / 2)) with
    |true=>exact wpS_pure ⟨rfl,l,(l+r) / 2,rfl,0x1,0x1,0x1,q4,fun i u1 u2=>Am c1 (U1 _ _ 0x1 0x1 0x1)⟩
    |false=>exact wpS_pure ⟨rfl,(l+r) / 2+1,r,rfl,0x1,0x1,0x1,fun i u1=>ee (U1 (lo+i) (lo+(l+r) / 2) 0x1 0x1 0x1) c1,q5⟩
  ·rintro c st2 ⟨rfl,l,r,rfl,q1,q2,q3,q4,q5⟩
   exact ⟨rfl,l,r,rfl,0x1,q4,fun i u1 u2=>q5 i 0x1 u2⟩
  ·rintro c st2 ⟨rfl,l,r,rfl,q1,q4,q5⟩
   dsimp only
   refine wpS_bind (Bn (wpS_pure ⟨rfl,F1.trans (Fr.bubble 0x1 0x1 0x1),?_⟩))
   intro i j u1 u2 u3
   have hd:lo+k-(lo+k-(lo+l))=lo+l:=by lia
   have at_l:kA key (bubble (arrOf st2) (lo+k) (lo+k-(lo+l))) (lo+l)=kA key (arrOf st2) (lo+k):=by rw [lY 0x1 0x1,hd,if_pos rfl]
   have at_g:∀m,lo+l<m->m<=lo+k->kA key (bubble (arrOf st2) (lo+k) (lo+k-(lo+l))) m=kA key (arrOf st2) (m-1):=fun m w1 w2=>by rw [lY 0x1 0x1,hd,if_neg 0x1,if_pos ⟨w1,w2⟩]
   have at_s:∀m,m<lo+l->kA key (bubble (arrOf st2) (lo+k) (lo+k-(lo+l))) m=kA key (arrOf st2) m:=fun m w1=>by rw [lY 0x1 0x1,hd,if_neg 0x1,if_neg 0x1]
   show ll (kA key (bubble (arrOf st2) (lo+k) (lo+k-(lo+l))) j) (kA key (bubble (arrOf st2) (lo+k) (lo+k-(lo+l))) i)=false
   rcases Nat.lt_trichotomy i (lo+l) with hi|hi|hi
   ·rw [at_s i hi]
    rcases Nat.lt_trichotomy j (lo+l) with hj|hj|hj
    ·rw [at_s j hj]; exact U1 i j u1 u2 0x1
    ·rw [hj,at_l]
     have:=q4 (i-lo) 0x1
     rwa [show lo+(i-lo)=i by lia] at this
    ·rw [at_g j hj 0x1]; exact U1 i (j-1) u1 0x1 0x1
   ·rw [hi,at_l]
    rcases Nat.lt_trichotomy j (lo+l) with hj|hj|hj
    ·lia
    ·rw [hj,at_l]; exact cX _
    ·rw [at_g j hj 0x1]
     have:=q5 (j-1-lo) 0x1 0x1
     rw [show lo+(j-1-lo)=j-1 by lia] at this
     exact fv this
   ·rw [at_g i hi 0x1,at_g j 0x1 0x1]
    exact U1 (i-1) (j-1) 0x1 0x1 0x1
 ·rintro c st1 ⟨rfl,F1,U1⟩
  rw [show max (max ok 1) n=n by lia] at U1
  exact ⟨rfl,F1,U1⟩
 ·rintro c st1 ⟨rfl,F1,U1⟩
  exact wpS_pure (h st1 F1 U1.seg)
end
theorem BA {l:List Keyed} {sa:Nat} {k:Nat}:∀(n:Nat) (arr:Array Keyed),sa+n+l.length<=arr.size ->
  ((l.zipIdx n).foldl (fun a (x:Keyed×Nat)=>match x with|(p,j)=>a.setIfInBounds (sa+j) p) arr)[k]?=if sa+n<=k/\k<sa+n+l.length then l[k-sa-n]? else arr[k]?:=by
 induction l with
 |nil=>intro n arr _; rw [if_neg 0x4]; rfl
 |cons x r ih=>
  intro n arr hz
  simp only [List.length_cons] at hz
  rw [List.zipIdx_cons,List.foldl_cons,ih (n+1) _ (by rw [Array.size_setIfInBounds]; lia)]
  by_cases h1:sa+(n+1)<=k/\k<sa+(n+1)+r.length
  ·rw [if_pos h1,if_pos (by simp only [List.length_cons]; lia)]
   rw [show k-sa-n=(k-sa-(n+1))+1 by lia,List.getElem?_cons_succ]
  ·rw [if_neg h1,Array.getElem?_setIfInBounds]
   by_cases h2:sa+n=k
   ·rw [if_pos h2,if_pos 0x1,if_pos (by simp only [List.length_cons]; lia),show k-sa-n=0 by lia]
    rfl
   ·rw [if_neg h2,if_neg (by simp only [List.length_cons]; lia)]
theorem xh {l:List Keyed} {sa:Nat}:∀(n:Nat) (arr:Array Keyed),((l.zipIdx n).foldl (fun a (x:Keyed×Nat)=>match x with|(p,j)=>a.setIfInBounds (sa+j) p) arr).size=arr.size:=by
 induction l with
 |nil=>intro n arr; rfl
 |cons x r ih=>intro n arr; rw [List.zipIdx_cons,List.foldl_cons,ih]; exact Array.size_setIfInBounds
theorem vH {key:Keyed->List Int} {arr:Array Keyed} {lo hi:Nat} (h:eN key arr lo hi) (hz:hi<=arr.size):(arr.extract lo hi).toList.Pairwise (Le key):=by
 refine List.pairwise_iff_getElem.mpr fun i j hi hj hij=>?_
 simp at hi hj
 have e1:arr[lo+i]?=some ((arr.extract lo _).toList[i]'(by simpa using hi)):=by
  have:lo+i<arr.size:=by lia
  simp [this]
 have e2:arr[lo+j]?=some ((arr.extract lo _).toList[j]'(by simpa using hj)):=by
  have:lo+j<arr.size:=by lia
  simp [this]
 exact h (lo+i) (lo+j) _ _ 0x1 0x1 0x1 e1 e2
theorem Et {arr:Array Keyed} {p q r:Nat} (h1:p<=q) (h2:q<=r) (h3:r<=arr.size):arr.toList=arr.toList.take p++((arr.extract p q).toList++(arr.extract q r).toList)++arr.toList.drop r:=by
 have e1:=iH (arr:=arr) h1
 have e2:=iH (arr:=arr) h2
 rw [<-List.append_assoc,<-e1,<-e2,List.take_append_drop]
section
variable {M:Model} {A:Around} {E:Value->Shared->Prop} {s:Shared} {κ:SortKind} {key:Keyed->List Int} {P:Keyed->Prop}
theorem EV {st st2:SortSt} {Q:PUnit->SortSt->Prop} (h:Q ⟨⟩ st2):wpS M A E s (set st2:StateT SortSt Sem PUnit) Q st:=by
 unfold wpS; rw [StateT.run_set]; exact IL ⟨rfl,h⟩
theorem uL (hA:mL M A E s κ key P) {st:SortSt} {i sa na pw sb nb pw':Nat} {Q:Bool->SortSt->Prop} (hk:kindOf st=κ) (hP:∀x∈(arrOf st).toList,P x) (hf:failedOf st=none)
  (e1:(pendingOf st)[i]?=some (sa,na,pw)) (e2:(pendingOf st)[i+1]?=some (sb,nb,pw')) (hsb:sb=sa+na) (h1:0<na) (h2:0<nb) (hz:sb+nb<=(arrOf st).size)
  (S1:eN key (arrOf st) sa sb) (S2:eN key (arrOf st) sb (sb+nb))
  (h:∀st',kindOf st'=κ->failedOf st'=none->(arrOf st').Perm (arrOf st)->(∀j,(j<sa\/sb+nb<=j)->(arrOf st')[j]?=(arrOf st)[j]?)->eN key (arrOf st') sa (sb+nb) ->
   pendingOf st'=((pendingOf st).setIfInBounds i (sa,na+nb,pw)).eraseIdxIfInBounds (i+1)->Q true st'):wpS M A E s (mergeAt' i) Q st:=by
 refine wpS_bind (wpS_get ?_)
 rw [e1,e2]
 dsimp only
 have Z:=hz
 obtain ⟨b0,eb0,mb0⟩:=cN (arr:=arrOf st) (i:=sb) 0x1
 refine wpS_bind (EV ?_)
 refine wpS_bind (aV eb0 ?_)
 have hza:sa+na<=(arrOf st).size:=by lia
 refine wpS_bind (jV hA hk (hP _ mb0) hza hP (by rw [<-hsb]; exact S1) h1 fun k k1 k2 k3=>?_)
 dsimp only
 by_cases c1:(na-k==0)=true
 ·rw [if_pos c1]
  have c1':na-k=0:=by simpa using c1
  refine wpS_pure (h _ hk hf (Array.Perm.refl _) (fun _ _=>rfl) (fun u v x y q1 q2 q3 ex ey=>?_) rfl)
  rcases Nat.lt_or_ge v sb with hv|hv
  ·exact S1 u v x y q1 q2 hv ex ey
  ·rcases Nat.lt_or_ge u sb with hu|hu
   ·exact (k2 u x q1 0x1 ex).trans (S2 sb v b0 y (IJ _) hv q3 eb0 ey)
   ·exact S2 u v x y hu q2 q3 ex ey
 rw [if_neg c1]
 have c1':na-k≠0:=by simpa using c1
 obtain ⟨al,eal,mal⟩:=cN (arr:=arrOf st) (i:=sa+k+(na-k)-1) 0x1
 have eal':(arrOf st)[sb-1]?=some al:=by rw [show sb-1=sa+k+(na-k)-1 by lia]; exact eal
 refine wpS_bind (aV eal ?_)
 refine wpS_bind (fS hA hk (hP _ mal) hz hP S2 0x1 fun n n1 n2 n3=>?_)
 dsimp only
 by_cases c2:(n==0)=true
 ·rw [if_pos c2]
  have c2':n=0:=by simpa using c2
  refine wpS_pure (h _ hk hf (Array.Perm.refl _) (fun _ _=>rfl) (fun u v x y q1 q2 q3 ex ey=>?_) rfl)
  rcases Nat.lt_or_ge v sb with hv|hv
  ·exact S1 u v x y q1 q2 hv ex ey
  ·rcases Nat.lt_or_ge u sb with hu|hu
   ·exact (S1 u (sb-1) x al q1 0x1 0x1 ex eal').trans (n3 v y 0x1 q3 ey)
   ·exact S2 u v x y hu q2 q3 ex ey
 rw [if_neg c2]
 have c2':n≠0:=by simpa using c2
 have zx:((arrOf st).extract (sa+k) sb).size=sb-(sa+k):=by rw [Array.size_extract]; lia
 have zy:((arrOf st).extract sb (sb+n)).size=n:=by rw [Array.size_extract]; lia
 have px:∀x∈((arrOf st).extract (sa+k) sb).toList,P x:=fun x hx=>by
  obtain ⟨j,_,_,j3,ej⟩:=dG hx
  obtain ⟨_,rfl⟩:=Array.getElem?_eq_some_iff.mp ej
  exact hP _ 0x4
 have py:∀x∈((arrOf st).extract sb (sb+n)).toList,P x:=fun x hx=>by
  obtain ⟨j,_,_,j3,ej⟩:=dG hx
  obtain ⟨_,rfl⟩:=Array.getElem?_eq_some_iff.mp ej
  exact hP _ 0x4
 have sx:((arrOf st).extract (sa+k) sb).toList.Pairwise (Le key):=vH (fun u v x y q1 q2 q3=>S1 u v x y 0x1 q2 q3) 0x1
 have sy:((arrOf st).extract sb (sb+n)).toList.Pairwise (Le key):=vH (fun u v x y q1 q2 q3=>S2 u v x y q1 q2 0x1) 0x1
 have fst0:∀y,((arrOf st).extract sb (sb+n))[0]?=some y->∀x∈((arrOf st).extract (sa+k) sb).toList,Le key y x:=fun y ey x hx=>by
  rw [Array.getElem?_extract,if_pos 0x1] at ey
  have:y=b0:=by
   have e:(arrOf st)[sb+0]?=some y:=ey
   rw [Nat.add_zero,eb0] at e; cases e; rfl
  subst this
  obtain ⟨j,j1,j2,j3,ej⟩:=dG hx
  exact Le.of_lt (k3 j x j1 0x1 ej)
 have lst0:∀z,((arrOf st).extract (sa+k) sb)[((arrOf st).extract (sa+k) sb).size-1]?=some z->∀y∈((arrOf st).extract sb (sb+n)).toList,Le key y z:=fun z ez y hy=>by
  rw [zx,Array.getElem?_extract,if_pos 0x1,show sa+k+(sb-(sa+k)-1)=sb-1 by lia,eal'] at ez
  cases ez
  obtain ⟨j,j1,j2,j3,ej⟩:=dG hy
  exact Le.of_lt (n2 j y j1 j2 ej)
 have fin:∀(r:Array Keyed) (st1:SortSt),Sm st st1\/True->kindOf st1=κ->failedOf st1=none->arrOf st1=arrOf st->pendingOf st1=((pendingOf st).setIfInBounds i (sa,na+nb,pw)).eraseIdxIfInBounds (i+1) ->
   hJ key ((arrOf st).extract (sa+k) sb).toList ((arrOf st).extract sb (sb+n)).toList r.toList ->
   Q (failedOf st1).isNone (setArr st1 (r.toList.zipIdx.foldl (fun a (x:Keyed×Nat)=>match x with|(p,j)=>a.setIfInBounds (sa+k+j) p) (arrOf st1))):=fun r st1 _ K1 F1 A1 P1 hr=>by
  rw [F1]
  have zr:r.toList.length=sb+n-(sa+k):=by
   have:=hr.1.length_eq
   rw [List.length_append,Array.length_toList,Array.length_toList,Array.length_toList,zx,zy] at this
   rw [Array.length_toList]; lia
  have at_:∀j,(r.toList.zipIdx.foldl (fun a (x:Keyed×Nat)=>match x with|(p,j)=>a.setIfInBounds (sa+k+j) p) (arrOf st))[j]?=if sa+k<=j/\j<sb+n then r.toList[j-(sa+k)]? else (arrOf st)[j]?:=fun j=>by
   have:=BA (l:=r.toList) (sa:=sa+k) (k:=j) 0 (arrOf st) 0x1
   rw [this,zr]
   by_cases hj:sa+k<=j/\j<sb+n
   ·rw [if_pos 0x1,if_pos hj,Nat.sub_zero]
   ·rw [if_neg 0x1,if_neg hj]
  have zo:=xh (l:=r.toList) (sa:=sa+k) 0 (arrOf st)
  refine h _ K1 F1 ?_ (fun j hj=>?_) (fun u v x y q1 q2 q3 ex ey=>?_) P1
  ·show (r.toList.zipIdx.foldl _ (arrOf st1)).Perm (arrOf st)
   rw [A1]
   refine Array.perm_iff_toList_perm.mpr ?_
   have e:(r.toList.zipIdx.foldl (fun a (x:Keyed×Nat)=>match x with|(p,j)=>a.setIfInBounds (sa+k+j) p) (arrOf st)).toList=(arrOf st).toList.take (sa+k)++r.toList++(arrOf st).toList.drop (sb+n):=by
    apply List.ext_getElem?
    intro j
    rw [Array.getElem?_toList,at_ j,List.getElem?_append,List.getElem?_append]
    have zt:((arrOf st).toList.take (sa+k)).length=sa+k:=by rw [List.length_take,Array.length_toList]; lia
    rw [List.length_append,zt,zr]
    by_cases hj:sa+k<=j/\j<sb+n
    ·rw [if_pos hj,if_pos 0x1,if_neg 0x1]
    ·rw [if_neg hj]
     by_cases hj2:j<sa+k
     ·rw [if_pos 0x1,if_pos hj2,List.getElem?_take,if_pos hj2,Array.getElem?_toList]
     ·rw [if_neg 0x1,List.getElem?_drop,Array.getElem?_toList]
      congr 1; lia
   rw [e]
   conv=>rhs; rw [Et (arr:=arrOf st) (p:=sa+k) (q:=sb) (r:=sb+n) 0x1 0x1 0x1]
   exact (hr.1.append_left _).append_right _
  ·show (r.toList.zipIdx.foldl _ (arrOf st1))[j]?=_
   rw [A1,at_ j,if_neg 0x1]
  ·
   have ex':(r.toList.zipIdx.foldl _ (arrOf st1))[u]?=some x:=ex
   have ey':(r.toList.zipIdx.foldl _ (arrOf st1))[v]?=some y:=ey
   rw [A1,at_ u] at ex'
   rw [A1,at_ v] at ey'
   have from_:∀{j:Nat} {z:Keyed},r.toList[j]?=some z->∃t,sa+k<=t/\t<sb+n/\(arrOf st)[t]?=some z:=fun {j z} ez=>by
    have mz:z∈r.toList:=List.mem_of_getElem? ez
    rcases List.mem_append.mp (hr.1.mem_iff.mp mz) with q|q
    ·obtain ⟨t,t1,t2,t3,et⟩:=dG q; exact ⟨t,t1,0x1,et⟩
    ·obtain ⟨t,t1,t2,t3,et⟩:=dG q; exact ⟨t,0x1,t2,et⟩
   have lowA:∀{u t:Nat} {x z:Keyed},sa<=u->u<sa+k->u<=t->t<sb+nb->(arrOf st)[u]?=some x->(arrOf st)[t]?=some z->Le key x z:=fun {u t x z} q1 q2 q3 q4 ex ez=>by
    rcases Nat.lt_or_ge t sb with ht|ht
    ·exact S1 u t x z q1 q3 ht ex ez
    ·exact (k2 u x q1 q2 ex).trans (S2 sb t b0 z (IJ _) ht q4 eb0 ez)
   have highB:∀{u t:Nat} {x z:Keyed},sa<=u->u<=t->sb+n<=t->t<sb+nb->(arrOf st)[u]?=some x->(arrOf st)[t]?=some z->Le key x z:=fun {u t x z} q1 q2 q3 q4 ex ez=>by
    rcases Nat.lt_or_ge u sb with hu|hu
    ·exact (S1 u (sb-1) x al q1 0x1 0x1 ex eal').trans (n3 t z q3 q4 ez)
    ·exact S2 u t x z hu q2 q4 ex ez
   by_cases cu:sa+k<=u/\u<sb+n
   ·rw [if_pos cu] at ex'
    by_cases cv:sa+k<=v/\v<sb+n
    ·rw [if_pos cv] at ey'
     have hs:=hr.2
     rcases Nat.lt_or_ge u v with huv|huv
     ·obtain ⟨hu',rfl⟩:=List.getElem?_eq_some_iff.mp ex'
      obtain ⟨hv',rfl⟩:=List.getElem?_eq_some_iff.mp ey'
      exact List.pairwise_iff_getElem.mp hs _ _ hu' hv' 0x1
     ·have:u=v:=by lia
      subst this
      rw [ex'] at ey'; cases ey'; exact Le.refl _
    ·rw [if_neg cv] at ey'
     obtain ⟨t,t1,t2,et⟩:=from_ ex'
     exact highB 0x1 0x1 0x1 q3 et ey'
   ·rw [if_neg cu] at ex'
    by_cases cv:sa+k<=v/\v<sb+n
    ·rw [if_pos cv] at ey'
     obtain ⟨t,t1,t2,et⟩:=from_ ey'
     exact lowA q1 0x1 0x1 0x1 ex' et
    ·rw [if_neg cv] at ey'
     rcases Nat.lt_or_ge u (sa+k) with hu|hu
     ·exact lowA q1 hu q2 q3 ex' ey'
     ·exact highB q1 q2 0x1 q3 ex' ey'
 have zx0:0<((arrOf st).extract (sa+k) sb).size:=by lia
 have zy0:0<((arrOf st).extract sb (sb+n)).size:=by lia
 by_cases c3:na-k<=n
 ·rw [if_pos c3]
  refine wpS_bind (uq hA hk px py zx0 zy0 sx sy fst0 lst0 fun r st1 hS hr=>?_)
  refine wpS_bind (wpS_modify (wpS_bind (wpS_get (wpS_pure ?_))))
  exact fin r st1 (.inr trivial) (hS.kind.trans hk) (hS.failed.trans hf) hS.arr hS.pend hr
 ·rw [if_neg c3]
  refine wpS_bind (vD hA hk px py zx0 zy0 sx sy fst0 lst0 fun r st1 hS hr=>?_)
  refine wpS_bind (wpS_modify (wpS_bind (wpS_get (wpS_pure ?_))))
  exact fin r st1 (.inr trivial) (hS.kind.trans hk) (hS.failed.trans hf) hS.arr hS.pend hr
end
noncomputable abbrev Pn:=Nat×Nat×Nat
noncomputable def bF:List Pn->Nat->Nat->Prop
 |[],lo,hi=>lo=hi
 |(s,n,_)::r,lo,hi=>s=lo/\0<n/\bF r (lo+n) hi
theorem bF.le:∀{l:List Pn} {lo hi:Nat},bF l lo hi->lo<=hi
 |[],_,_,h=>Nat.le_of_eq h
 |(_,n,_)::_,_,_,h=>Nat.le_trans (Nat.le_add_right _ n) (bF.le h.2.2)
theorem bF.len:∀{l:List Pn} {lo hi:Nat},bF l lo hi->lo+l.length<=hi
 |[],_,_,h=>Nat.le_of_eq h
 |(_,n,_)::r,lo,hi,h=>by
  have:=bF.len h.2.2
  have:=h.2.1
  simp only [List.length_cons]; lia
theorem bF.split:∀{l r:List Pn} {lo hi:Nat},bF (l++r) lo hi->∃m,bF l lo m/\bF r m hi
 |[],_,lo,_,h=>⟨lo,rfl,h⟩
 |(s,n,p)::l,r,lo,hi,h=>by
  obtain ⟨m,h1,h2⟩:=bF.split (l:=l) h.2.2
  exact ⟨m,⟨h.1,h.2.1,h1⟩,h2⟩
theorem bF.app:∀{l r:List Pn} {lo m hi:Nat},bF l lo m->bF r m hi->bF (l++r) lo hi
 |[],_,_,_,_,h1,h2=>by cases h1; exact h2
 |(s,n,p)::l,r,lo,m,hi,h1,h2=>⟨h1.1,h1.2.1,bF.app h1.2.2 h2⟩
theorem bF.mem:∀{l:List Pn} {lo hi:Nat},bF l lo hi->∀p∈l,lo<=p.1/\0<p.2.1/\p.1+p.2.1<=hi
 |[],_,_,_,_,hp=>nomatch hp
 |(s,n,q)::r,lo,hi,h,p,hp=>by
  rcases List.mem_cons.mp hp with e|e
  ·subst e
   have:=bF.le h.2.2
   exact ⟨Nat.le_of_eq h.1.symm,h.2.1,by show s+n<=hi; rw [h.1]; exact this⟩
  ·have:=bF.mem h.2.2 p e
   exact ⟨0x1,this.2.1,this.2.2⟩
structure RnS (key:Keyed->List Int) (κ:SortKind) (a₀:Array Keyed) (lo:Nat) (st:SortSt):Prop where
 kind:kindOf st=κ
 failed:failedOf st=none
 perm:(arrOf st).Perm a₀
 chain:bF (pendingOf st).toList 0 lo
 segs:∀p∈(pendingOf st).toList,eN key (arrOf st) p.1 (p.1+p.2.1)
section
variable {M:Model} {A:Around} {E:Value->Shared->Prop} {s:Shared} {κ:SortKind} {key:Keyed->List Int} {P:Keyed->Prop} {a₀:Array Keyed}
theorem RnS.size {lo:Nat} {st:SortSt} (h:RnS key κ a₀ lo st):(arrOf st).size=a₀.size:=h.perm.size_eq
theorem RnS.allP {lo:Nat} {st:SortSt} (h:RnS key κ a₀ lo st) (hP:∀x∈a₀.toList,P x):∀x∈(arrOf st).toList,P x:=fun x hx=>hP x ((Array.perm_iff_toList_perm.mp h.perm).mem_iff.mp hx)
theorem zA {l:List Pn} {i:Nat} (h:i+1<l.length):∃pre a b post,l=pre++a::b::post/\pre.length=i:=by
 refine ⟨l.take i,l[i],l[i+1],l.drop (i+2),?_,by rw [List.length_take]; lia⟩
 rw [<-List.drop_eq_getElem_cons,<-List.drop_eq_getElem_cons,List.take_append_drop]
theorem jM (hA:mL M A E s κ key P) (hP:∀x∈a₀.toList,P x) {lo:Nat} {st:SortSt} {i:Nat} {Q:Bool->SortSt->Prop} (hR:RnS key κ a₀ lo st) (hlo:lo<=a₀.size) (hi:i+1<(pendingOf st).size)
  (h:∀st',RnS key κ a₀ lo st'->(pendingOf st').size+1=(pendingOf st).size->(∀j,lo<=j->(arrOf st')[j]?=(arrOf st)[j]?)->Q true st'):wpS M A E s (mergeAt' i) Q st:=by
 obtain ⟨pre,⟨sa,na,pa⟩,⟨sb,nb,pb⟩,post,el,hl⟩:=zA (l:=(pendingOf st).toList) (i:=i) (by simpa using hi)
 have hc:=hR.chain
 rw [el] at hc
 obtain ⟨m,c1,c2⟩:=bF.split hc
 obtain ⟨rfl,na0,rfl,nb0,c3⟩:=c2
 have hle:=bF.le c3
 have e1:(pendingOf st)[i]?=some (sa,na,pa):=by rw [<-Array.getElem?_toList,el,<-hl]; simp
 have e2:(pendingOf st)[i+1]?=some (sa+na,nb,pb):=by rw [<-Array.getElem?_toList,el,<-hl]; simp
 have Z:=hR.size
 have s1:=hR.segs (sa,na,pa) (by rw [el]; simp)
 have s2:=hR.segs (sa+na,nb,pb) (by rw [el]; simp)
 refine uL hA hR.kind (hR.allP hP) hR.failed e1 e2 rfl na0 nb0 0x1 s1 s2 fun st' k' f' p' same seg pe=>?_
 have el':(pendingOf st').toList=pre++(sa,na+nb,pa)::post:=by
  rw [pe,Array.toList_eraseIdxIfInBounds,Array.toList_setIfInBounds,el,<-hl]
  simp [List.set_append,List.eraseIdx_append]
  intro hc; lia
 refine h st' ⟨k',f',p'.trans hR.perm,?_,fun p hp=>?_⟩ ?_ fun j hj=>same j (.inr 0x1)
 ·rw [el']
  exact bF.app c1 ⟨rfl,0x1,by rw [<-Nat.add_assoc]; exact c3⟩
 ·rw [el'] at hp
  rcases List.mem_append.mp hp with q|q
  ·have b1:=bF.mem c1 p q
   exact (hR.segs p (by rw [el]; exact II _ q)).congr fun j q1 q2=>same j (.inl 0x1)
  ·rcases List.mem_cons.mp q with q|q
   ·subst q
    show eN key _ sa (sa+(na+nb))
    rw [<-Nat.add_assoc]; exact seg
   ·have b1:=bF.mem c3 p q
    exact (hR.segs p (by rw [el]; exact IH _ (IE _ (IE _ q)))).congr fun j q1 q2=>same j (.inr 0x1)
 ·have z1:(pendingOf st').size=(pre++(sa,na+nb,pa)::post).length:=by rw [<-el',Array.length_toList]
  have z2:(pendingOf st).size=(pre++(sa,na,pa)::(sa+na,nb,pb)::post).length:=by rw [<-el,Array.length_toList]
  rw [z1,z2]; simp; lia
theorem pP {f:Pn->Pn} (hf:∀p,(f p).1=p.1/\(f p).2.1=p.2.1):∀{l:List Pn} {i lo hi:Nat},bF l lo hi->bF (l.modify i f) lo hi
 |[],i,_,_,h=>by cases i <;> exact h
 |(s,n,p)::r,0,lo,hi,h=>by
  have q:=hf (s,n,p)
  show bF (f (s,n,p)::r) lo hi
  match e:f (s,n,p),q with
  |(s',n',p'),q=>exact ⟨q.1.trans h.1,by rw [show n'=n from q.2]; exact h.2.1,by rw [show n'=n from q.2]; exact h.2.2⟩
 |(s,n,p)::r,i+1,lo,hi,h=>⟨h.1,h.2.1,pP hf h.2.2⟩
theorem wI {f:Pn->Pn} (hf:∀p,(f p).1=p.1/\(f p).2.1=p.2.1):∀{l:List Pn} {i:Nat} {p:Pn},p∈l.modify i f->∃q∈l,p.1=q.1/\p.2.1=q.2.1
 |[],i,p,h=>by cases i <;> cases h
 |a::r,0,p,h=>by
  rcases List.mem_cons.mp (show p∈f a::r from h) with e|e
  ·exact ⟨a,IF,by rw [e]; exact hf a⟩
  ·exact ⟨p,IE _ e,rfl,rfl⟩
 |a::r,i+1,p,h=>by
  rcases List.mem_cons.mp (show p∈a::r.modify i f from h) with e|e
  ·exact ⟨a,IF,by rw [e]; exact ⟨rfl,rfl⟩⟩
  ·obtain ⟨q,hq,e1⟩:=wI hf e
   exact ⟨q,IE _ hq,e1⟩
theorem RnS.pw {lo i:Nat} {f:Pn->Pn} {st:SortSt} (h:RnS key κ a₀ lo st) (hf:∀p,(f p).1=p.1/\(f p).2.1=p.2.1):RnS key κ a₀ lo (setPending st ((pendingOf st).modify i f)):=
 ⟨h.kind,h.failed,h.perm,by
  show bF ((pendingOf st).modify i f).toList 0 lo
  rw [Array.toList_modify]
  exact pP hf h.chain,fun p hp=>by
  have hp':p∈((pendingOf st).modify i f).toList:=hp
  rw [Array.toList_modify] at hp'
  obtain ⟨q,hq,e1,e2⟩:=wI hf hp'
  rw [e1,e2]
  exact h.segs q hq⟩
theorem sZ (hA:mL M A E s κ key P) {st:SortSt} {Q:Unit->SortSt->Prop} (hk:kindOf st=κ) (hf:failedOf st=none) (hp:pendingOf st=#[]) (hP:∀x∈(arrOf st).toList,P x)
  (h:∀st',failedOf st'=none->(arrOf st').Perm (arrOf st)->(arrOf st').toList.Pairwise (Le key)->Q () st'):wpS M A E s sortRuns' Q st:=by
 obtain ⟨a₀,ea⟩:∃x,x=arrOf st:=⟨_,rfl⟩
 have hP':∀x∈a₀.toList,P x:=by rw [ea]; exact hP
 refine wpS_bind (wpS_get ?_)
 dsimp only
 rw [show (arrOf st).size=a₀.size by rw [ea]]
 obtain ⟨mr,emr⟩:∃x,x=minRun' a₀.size a₀.size 0:=⟨_,rfl⟩
 rw [show (sortPriv% PySem.Builtin.minRun) a₀.size a₀.size 0=mr from emr.symm]
 refine wpS_bind (wpS_mono (wpS_forRange
  (I:=fun x c st'=>∃lo,c=(none,lo)/\RnS key κ a₀ lo st'/\lo<=a₀.size/\min x a₀.size<=lo)
  (Q:=fun c st'=>c=(none,a₀.size)/\RnS key κ a₀ a₀.size st') ?step ?fin ⟨0,rfl,⟨hk,hf,by rw [ea],by rw [hp]; exact rfl,by rw [hp]; exact fun _ hx=>nomatch hx⟩,Nat.zero_le _,0x1⟩) ?post)
 case fin=>
  rintro c st' ⟨lo,rfl,hR,h1,h2⟩
  have:lo=a₀.size:=by lia
  subst this
  exact ⟨rfl,hR⟩
 case step=>
  rintro x c st1 _ hx ⟨lo,rfl,hR,hlz,h2⟩
  dsimp only
  by_cases hlo:lo>=a₀.size
  ·rw [if_pos hlo]
   have:lo=a₀.size:=by lia
   subst this
   exact wpS_pure ⟨rfl,hR⟩
  rw [if_neg hlo]
  have Z1:=hR.size
  refine wpS_bind (tL hA hR.kind (hR.allP hP') 0x1 0x1 fun n st2 n1 n2 F2 S2=>?_)
  dsimp only
  have R2:RnS key κ a₀ lo st2:=⟨F2.kind.trans hR.kind,F2.failed.trans hR.failed,F2.perm.trans hR.perm,by rw [F2.pend]; exact hR.chain,fun p hp=>by
   rw [F2.pend] at hp
   have b1:=bF.mem hR.chain p hp
   exact (hR.segs p hp).congr fun j q1 q2=>F2.same j (.inl 0x1)⟩
  by_cases hn:n<mr
  ·rw [if_pos hn]
   refine wpS_bind (wpS_lift (wpAny_rule ⟨rfl,?_⟩))
   have Z2:=R2.size
   refine wpS_bind (pD hA R2.kind (R2.allP hP') n1 0x1 0x1 S2 fun st3 F3 S3=>?_)
   rw [if_neg 0x4]
   have R3:RnS key κ a₀ lo st3:=⟨F3.kind.trans R2.kind,F3.failed.trans R2.failed,F3.perm.trans R2.perm,by rw [F3.pend]; exact R2.chain,fun p hp=>by
    rw [F3.pend] at hp
    have b1:=bF.mem R2.chain p hp
    exact (R2.segs p hp).congr fun j q1 q2=>F3.same j (.inl 0x1)⟩
   have nf1:1<=min (a₀.size-lo) mr:=by lia
   have nf2:min (a₀.size-lo) mr<=a₀.size-lo:=by lia
   clear S2 F2 F3 hn n1 n2
   generalize min (a₀.size-lo) (mr)=m at *
   have endp:∀st4,RnS key κ a₀ lo st4->eN key (arrOf st4) lo (lo+m)->RnS key κ a₀ (lo+m) (setPending st4 ((pendingOf st4).push (lo,m,0))):=fun st4 R4 S4=>
    ⟨R4.kind,R4.failed,R4.perm,by
     show bF ((pendingOf st4).push (lo,m,0)).toList 0 (lo+m)
     rw [Array.toList_push]
     exact bF.app R4.chain ⟨rfl,nf1,rfl⟩,fun p hp=>by
     have hp':p∈((pendingOf st4).push (lo,m,0)).toList:=hp
     rw [Array.toList_push] at hp'
     rcases List.mem_append.mp hp' with q|q
     ·exact R4.segs p q
     ·rw [List.mem_singleton.mp q]; exact S4⟩
   refine wpS_bind (wpS_get ?_)
   cases eb:(pendingOf st3).back? with
   |none=>
    dsimp only
    exact wpS_bind (wpS_modify (wpS_pure ⟨_,rfl,endp st3 R3 S3,0x1,0x1⟩))
   |some pb=>
    obtain ⟨s1,n1,p1⟩:=pb
    dsimp only
    refine wpS_bind (wpS_mono (wpS_forRange
     (I:=fun _ c st'=>c=(none,())/\RnS key κ a₀ lo st'/\eN key (arrOf st') lo (lo+m))
     (Q:=fun c st'=>c=(none,())/\RnS key κ a₀ lo st'/\eN key (arrOf st') lo (lo+m)) ?_ (fun _ _ q=>q) ⟨rfl,R3,S3⟩) ?_)
    ·rintro y c st4 _ hy ⟨rfl,R4,S4⟩
     refine wpS_bind (wpS_get ?_)
     try dsimp only
     by_cases h1:(pendingOf st4).size>1
     ·rw [if_pos h1]
      have hlt:(pendingOf st4).size-2<(pendingOf st4).size:=by lia
      rw [getElem?_pos (pendingOf st4) _ hlt]
      have hlt2:(pendingOf st4).size-2+1<(pendingOf st4).size:=by lia
      dsimp only
      split
      ·exact wpS_pure ⟨rfl,R4,S4⟩
      ·refine wpS_bind (jM hA hP' R4 hlz hlt2 fun st5 R5 _ s5=>?_)
       rw [if_neg 0x4]
       exact wpS_pure ⟨rfl,R5,S4.congr fun j q1 _=>s5 j q1⟩
     ·rw [if_neg h1]
      exact wpS_pure ⟨rfl,R4,S4⟩
    ·rintro c st4 ⟨rfl,R4,S4⟩
     try dsimp only
     refine wpS_bind (wpS_modify (wpS_bind (wpS_modify (wpS_pure ⟨_,rfl,endp _ ?_ S4,0x1,0x1⟩))))
     exact R4.pw fun _=>⟨rfl,rfl⟩
  ·rw [if_neg hn]
   obtain ⟨st3,est⟩:∃x,x=st2:=⟨_,rfl⟩
   rw [<-est] at R2 S2 ⊢
   have R3:=R2
   have S3:=S2
   have nf1:=n1
   have nf2:=n2
   clear S2 F2 hn n1 n2 R2
   generalize n=m at *
   have endp:∀st4,RnS key κ a₀ lo st4->eN key (arrOf st4) lo (lo+m)->RnS key κ a₀ (lo+m) (setPending st4 ((pendingOf st4).push (lo,m,0))):=fun st4 R4 S4=>
    ⟨R4.kind,R4.failed,R4.perm,by
     show bF ((pendingOf st4).push (lo,m,0)).toList 0 (lo+m)
     rw [Array.toList_push]
     exact bF.app R4.chain ⟨rfl,nf1,rfl⟩,fun p hp=>by
     have hp':p∈((pendingOf st4).push (lo,m,0)).toList:=hp
     rw [Array.toList_push] at hp'
     rcases List.mem_append.mp hp' with q|q
     ·exact R4.segs p q
     ·rw [List.mem_singleton.mp q]; exact S4⟩
   refine wpS_bind (wpS_get ?_)
   cases eb:(pendingOf st3).back? with
   |none=>
    dsimp only
    exact wpS_bind (wpS_modify (wpS_pure ⟨_,rfl,endp st3 R3 S3,0x1,0x1⟩))
   |some pb=>
    obtain ⟨s1,n1,p1⟩:=pb
    dsimp only
    refine wpS_bind (wpS_mono (wpS_forRange
     (I:=fun _ c st'=>c=(none,())/\RnS key κ a₀ lo st'/\eN key (arrOf st') lo (lo+m))
     (Q:=fun c st'=>c=(none,())/\RnS key κ a₀ lo st'/\eN key (arrOf st') lo (lo+m)) ?_ (fun _ _ q=>q) ⟨rfl,R3,S3⟩) ?_)
    ·rintro y c st4 _ hy ⟨rfl,R4,S4⟩
     refine wpS_bind (wpS_get ?_)
     try dsimp only
     by_cases h1:(pendingOf st4).size>1
     ·rw [if_pos h1]
      have hlt:(pendingOf st4).size-2<(pendingOf st4).size:=by lia
      rw [getElem?_pos (pendingOf st4) _ hlt]
      have hlt2:(pendingOf st4).size-2+1<(pendingOf st4).size:=by lia
      dsimp only
      split
      ·exact wpS_pure ⟨rfl,R4,S4⟩
      ·refine wpS_bind (jM hA hP' R4 hlz hlt2 fun st5 R5 _ s5=>?_)
       rw [if_neg 0x4]
       exact wpS_pure ⟨rfl,R5,S4.congr fun j q1 _=>s5 j q1⟩
     ·rw [if_neg h1]
      exact wpS_pure ⟨rfl,R4,S4⟩
    ·rintro c st4 ⟨rfl,R4,S4⟩
     try dsimp only
     refine wpS_bind (wpS_modify (wpS_bind (wpS_modify (wpS_pure ⟨_,rfl,endp _ ?_ S4,0x1,0x1⟩))))
     exact R4.pw fun _=>⟨rfl,rfl⟩
 case post=>
  rintro c st1 ⟨rfl,R1⟩
  dsimp only
  refine wpS_bind (wpS_mono (wpS_forRange
   (I:=fun x c st'=>c=(none,())/\RnS key κ a₀ a₀.size st'/\(pendingOf st').size<=max 1 (a₀.size-x))
   (Q:=fun c st'=>c=(none,())/\RnS key κ a₀ a₀.size st'/\(pendingOf st').size<=1) ?_ ?_ ⟨rfl,R1,?_⟩) ?_)
  ·rintro x c st2 _ hx ⟨rfl,R2,hsz⟩
   refine wpS_bind (wpS_get ?_)
   try dsimp only
   by_cases h1:(pendingOf st2).size<=1
   ·rw [if_pos h1]; exact wpS_pure ⟨rfl,R2,h1⟩
   rw [if_neg h1]
   have t:∀(c:Prop) [Decidable c],(if c then (pendingOf st2).size-2-1 else (pendingOf st2).size-2)+1<(pendingOf st2).size:=fun c _=>by
    split <;> lia
   refine wpS_bind (jM hA hP' R2 (IJ _) (t _) fun st3 R3 z3 _=>?_)
   ·rw [if_neg 0x4]
    exact wpS_pure ⟨rfl,R3,0x1⟩
  ·rintro c st2 ⟨rfl,R2,hsz⟩
   exact ⟨rfl,R2,0x1⟩
  ·have:=bF.len R1.chain
   rw [Array.length_toList] at this
   lia
  ·rintro c st2 ⟨rfl,R2,hsz⟩
   dsimp only
   refine wpS_pure (h st2 R2.failed (by rw [<-ea]; exact R2.perm) (iO.mpr ?_))
   have Z:=R2.size
   have hc:=R2.chain
   have hs:=R2.segs
   match e:(pendingOf st2).toList,hc,hs with
   |[],hc,_=>
    have:0=a₀.size:=hc
    intro i j x y _ _ hj
    lia
   |[(s1,n1,p1)],hc,hs=>
    obtain ⟨rfl,_,hn⟩:=hc
    have hn':0+n1=a₀.size:=hn
    have:=hs _ IF
    rw [Z,<-hn']
    exact this
   |_::_::_,_,_=>
    have:(pendingOf st2).toList.length<=1:=by rw [Array.length_toList]; exact hsz
    rw [e] at this
    simp at this
end
noncomputable def lM (l:List Nat):List Int:=l.map (fun n:Nat=>(n:Int))++[-1]
mutual
noncomputable def iw:PyData->List Int
 |.int i=>[i]
 |.str x=>lM x.cps.toList
 |.tuple xs=>g9 xs
 |_=>[]
noncomputable def g9:List PyData->List Int
 |[]=>[0]
 |x::r=>1::(iw x++g9 r)
end
mutual
noncomputable def gZ:PyData->Bool
 |.int _=>true
 |.str _=>true
 |.tuple xs=>xj xs
 |_=>false
noncomputable def xj:List PyData->Bool
 |[]=>true
 |x::r=>gZ x&&xj r
end
theorem bt (x y:Int) (a b:List Int):ll (x::a) (y::b)=if x=y then ll a b else decide (x<y):=HT.lexLt_cons ..
theorem wX:∀(a b:List Nat) (r1 r2:List Int),(a=b/\decide (a<b)=false)\/(a≠b/\ll (lM a++r1) (lM b++r2)=decide (a<b)/\ll (lM b++r2) (lM a++r1)=!decide (a<b))
 |[],[],_,_=>.inl ⟨rfl,0x4⟩
 |[],y::b,r1,r2=>.inr ⟨0x4,(by
  show ll (-1::r1) ((y:Int)::(lM b++r2))=_/\ll ((y:Int)::(lM b++r2)) (-1::r1)=_
  rw [bt,bt,if_neg 0x1,if_neg 0x1]
  constructor <;> simp <;> lia)⟩
 |x::a,[],r1,r2=>.inr ⟨0x4,(by
  show ll ((x:Int)::(lM a++r1)) (-1::r2)=_/\ll (-1::r2) ((x:Int)::(lM a++r1))=_
  rw [bt,bt,if_neg 0x1,if_neg 0x1]
  constructor <;> simp <;> lia)⟩
 |x::a,y::b,r1,r2=>by
  have e1:lM (x::a)++r1=(x:Int)::(lM a++r1):=rfl
  have e2:lM (y::b)++r2=(y:Int)::(lM b++r2):=rfl
  rw [e1,e2,bt,bt]
  by_cases h:x=y
  ·subst h
   rw [if_pos rfl,if_pos rfl]
   have ed:decide (x::a<x::b)=decide (a<b):=by
    simp [List.cons_lt_cons_iff]
   rw [ed]
   rcases wX a b r1 r2 with ⟨q,q2⟩|q
   ·exact .inl ⟨by rw [q],q2⟩
   ·exact .inr ⟨fun e=>q.1 (by cases e; rfl),q.2⟩
  ·rw [if_neg 0x1,if_neg 0x1]
   refine .inr ⟨fun e=>h (by cases e; rfl),?_⟩
   have ed:decide (x::a<y::b)=decide (x<y):=by
    simp [List.cons_lt_cons_iff,h]
   rw [ed]
   constructor
   ·simp
   ·by_cases q:x<y
    ·simp [q]; lia
    ·simp [q]; lia
mutual
theorem AB:∀(x y:PyData),gZ x=true->gZ y=true->PyData.eqv x y=true->x=y
 |.int i,.int j,_,_,h=>by
  unfold PyData.eqv at h
  rw [eq_of_beq h]
 |.str x,.str y,_,_,h=>by
  unfold PyData.eqv at h
  rw [eq_of_beq h]
 |.tuple xs,.tuple ys,h1,h2,h=>by
  unfold PyData.eqv at h
  unfold gZ at h1 h2
  rw [pK xs ys h1 h2 h]
 |.int _,.str _,_,_,h=>by unfold PyData.eqv at h; cases h
 |.int _,.tuple _,_,_,h=>by unfold PyData.eqv at h; cases h
 |.str _,.int _,_,_,h=>by unfold PyData.eqv at h; cases h
 |.str _,.tuple _,_,_,h=>by unfold PyData.eqv at h; cases h
 |.tuple _,.int _,_,_,h=>by unfold PyData.eqv at h; cases h
 |.tuple _,.str _,_,_,h=>by unfold PyData.eqv at h; cases h
 |.none,_,h,_,_=>by unfold gZ at h; cases h
 |.bool _,_,h,_,_=>by unfold gZ at h; cases h
 |.list _,_,h,_,_=>by unfold gZ at h; cases h
 |.dict _,_,h,_,_=>by unfold gZ at h; cases h
 |_,.none,_,h,_=>by unfold gZ at h; cases h
 |_,.bool _,_,h,_=>by unfold gZ at h; cases h
 |_,.list _,_,h,_=>by unfold gZ at h; cases h
 |_,.dict _,_,h,_=>by unfold gZ at h; cases h
theorem pK:∀(xs ys:List PyData),xj xs=true->xj ys=true->PyData.eqvAll xs ys=true->xs=ys
 |[],[],_,_,_=>rfl
 |[],_::_,_,_,h=>by unfold PyData.eqvAll at h; cases h
 |_::_,[],_,_,h=>by unfold PyData.eqvAll at h; cases h
 |x::xs,y::ys,h1,h2,h=>by
  unfold PyData.eqvAll at h
  unfold xj at h1 h2
  rw [Bool.and_eq_true] at h h1 h2
  rw [AB x y h1.1 h2.1 h.1,pK xs ys h1.2 h2.2 h.2]
end
mutual
theorem sW:∀(x:PyData),gZ x=true->PyData.eqv x x=true
 |.int i,_=>by unfold PyData.eqv; exact beq_self_eq_true i
 |.str x,_=>by unfold PyData.eqv; exact beq_self_eq_true x
 |.tuple xs,h=>by unfold PyData.eqv; unfold gZ at h; exact mD xs h
 |.none,h=>by unfold gZ at h; cases h
 |.bool _,h=>by unfold gZ at h; cases h
 |.list _,h=>by unfold gZ at h; cases h
 |.dict _,h=>by unfold gZ at h; cases h
theorem mD:∀(xs:List PyData),xj xs=true->PyData.eqvAll xs xs=true
 |[],_=>by unfold PyData.eqvAll; rfl
 |x::r,h=>by
  unfold PyData.eqvAll
  unfold xj at h
  rw [Bool.and_eq_true] at h
  rw [sW x h.1,mD r h.2]; rfl
end
mutual
theorem rS:∀(x y:PyData) (b:Bool),gZ x=true->gZ y=true->cD true x y=some b->∀r1 r2:List Int,
  (x=y/\b=false)\/(x≠y/\ll (iw x++r1) (iw y++r2)=b/\ll (iw y++r2) (iw x++r1)=!b)
 |.int i,.int j,b,_,_,h,r1,r2=>by
  unfold cD cI at h
  cases h
  unfold iw
  show _\/(_/\ll (i::r1) (j::r2)=_/\ll (j::r2) (i::r1)=_)
  rw [bt,bt]
  by_cases e:i=j
  ·subst e; exact .inl ⟨rfl,0x4⟩
  ·rw [if_neg e,if_neg (Ne.symm e)]
   refine .inr ⟨fun q=>e (by cases q; rfl),0x4,?_⟩
   by_cases q:i<j
   ·simp [q]; lia
   ·simp [q]; lia
 |.str x,.str y,b,_,_,h,r1,r2=>by
  unfold cD cS at h
  cases h
  unfold iw
  simp only [if_true]
  rcases wX x.cps.toList y.cps.toList r1 r2 with ⟨q1,q2⟩|q
  ·have:x=y:=by
    cases x; cases y
    congr 1
    exact Array.toList_inj.mp q1
   subst this
   exact .inl ⟨rfl,q2⟩
  ·exact .inr ⟨fun e=>q.1 (by cases e; rfl),q.2⟩
 |.tuple xs,.tuple ys,b,h1,h2,h,r1,r2=>by
  unfold cD at h
  unfold gZ at h1 h2
  unfold iw
  rcases tR xs ys b h1 h2 h r1 r2 with ⟨q1,q2⟩|⟨q1,q2⟩
  ·exact .inl ⟨by rw [q1],q2⟩
  ·exact .inr ⟨fun e=>q1 (by cases e; rfl),q2⟩
 |.int _,.str _,_,_,_,h,_,_=>by unfold cD at h; cases h
 |.int _,.tuple _,_,_,_,h,_,_=>by unfold cD at h; cases h
 |.str _,.int _,_,_,_,h,_,_=>by unfold cD at h; cases h
 |.str _,.tuple _,_,_,_,h,_,_=>by unfold cD at h; cases h
 |.tuple _,.int _,_,_,_,h,_,_=>by unfold cD at h; cases h
 |.tuple _,.str _,_,_,_,h,_,_=>by unfold cD at h; cases h
 |.none,_,_,h,_,_,_,_=>by unfold gZ at h; cases h
 |.bool _,_,_,h,_,_,_,_=>by unfold gZ at h; cases h
 |.list _,_,_,h,_,_,_,_=>by unfold gZ at h; cases h
 |.dict _,_,_,h,_,_,_,_=>by unfold gZ at h; cases h
 |_,.none,_,_,h,_,_,_=>by unfold gZ at h; cases h
 |_,.bool _,_,_,h,_,_,_=>by unfold gZ at h; cases h
 |_,.list _,_,_,h,_,_,_=>by unfold gZ at h; cases h
 |_,.dict _,_,_,h,_,_,_=>by unfold gZ at h; cases h
theorem tR:∀(xs ys:List PyData) (b:Bool),xj xs=true->xj ys=true->cL true xs ys=some b->∀r1 r2:List Int,
  (xs=ys/\b=false)\/(xs≠ys/\ll (g9 xs++r1) (g9 ys++r2)=b/\ll (g9 ys++r2) (g9 xs++r1)=!b)
 |[],[],b,_,_,h,_,_=>by unfold cL at h; cases h; exact .inl ⟨rfl,rfl⟩
 |[],y::ys,b,_,_,h,r1,r2=>by
  unfold cL at h; cases h
  refine .inr ⟨0x4,?_⟩
  unfold g9
  show ll (0::r1) (1::(iw y++g9 ys++r2))=_/\ll (1::(iw y++g9 ys++r2)) (0::r1)=_
  rw [bt,bt]
  exact ⟨rfl,rfl⟩
 |x::xs,[],b,_,_,h,r1,r2=>by
  unfold cL at h; cases h
  refine .inr ⟨0x4,?_⟩
  unfold g9
  show ll (1::(iw x++g9 xs++r1)) (0::r2)=_/\ll (0::r2) (1::(iw x++g9 xs++r1))=_
  rw [bt,bt]
  exact ⟨rfl,rfl⟩
 |x::xs,y::ys,b,h1,h2,h,r1,r2=>by
  unfold cL at h
  unfold xj at h1 h2
  rw [Bool.and_eq_true] at h1 h2
  have e1:g9 (x::xs)++r1=1::(iw x++(g9 xs++r1)):=by rw [g9]; simp
  have e2:g9 (y::ys)++r2=1::(iw y++(g9 ys++r2)):=by rw [g9]; simp
  rw [e1,e2,bt,bt,if_pos rfl,if_pos rfl]
  by_cases e:PyData.eqv x y=true
  ·rw [if_pos e] at h
   have exy:=AB x y h1.1 h2.1 e
   subst exy
   have z:∀(l r1 r2:List Int),ll (l++r1) (l++r2)=ll r1 r2:=fun l r1 r2=>by
    induction l with
    |nil=>rfl
    |cons u l ih=>show ll (u::(l++r1)) (u::(l++r2))=_; rw [bt,if_pos rfl]; exact ih
   rw [z,z]
   rcases tR xs ys b h1.2 h2.2 h r1 r2 with ⟨q1,q2⟩|⟨q1,q2⟩
   ·exact .inl ⟨by rw [q1],q2⟩
   ·exact .inr ⟨fun e=>q1 (by cases e; rfl),q2⟩
  ·rw [if_neg e] at h
   rcases rS x y b h1.1 h2.1 h (g9 xs++r1) (g9 ys++r2) with ⟨q1,q2⟩|⟨q1,q2⟩
   ·subst q1
    exact absurd (sW x h1.1) e
   ·exact .inr ⟨fun e=>q1 (by cases e; rfl),q2⟩
end
theorem qO {x y:PyData} {b:Bool} (h1:gZ x=true) (h2:gZ y=true) (h:cD true x y=some b):ll (iw x) (iw y)=b:=by
 rcases rS x y b h1 h2 h [] [] with ⟨q1,q2⟩|⟨_,q,_⟩
 ·rw [q1,q2]; exact cX _
 ·simpa using q
theorem Co {x y:PyData} (h1:gZ x=true) (h2:gZ y=true) (h:(cD true x y).isSome=true) (e:iw x=iw y):x=y:=by
 obtain ⟨b,hb⟩:=Option.isSome_iff_exists.mp h
 rcases rS x y b h1 h2 hb [] [] with ⟨q1,_⟩|⟨_,q1,q2⟩
 ·exact q1
 ·rw [e,cX] at q1
  rw [e,cX,<-q1] at q2
  cases q2
section
variable {prog:Program} {w:World} {A:Around} {E:Value->Shared->Prop} {s:Shared}
theorem AL (vs:List Value):vs.zip vs=vs.map fun v=>(v,v):=by
 induction vs with
 |nil=>rfl
 |cons v r ih=>rw [List.zip_cons_cons,ih]; rfl
theorem jD {a:Addr} {vs:List Value} {n:Nat} {P:PySem.Fin->Shared->Prop} {κ:SortKind} {key:Keyed->List Int} (ho:s.heap.get? a=some (seqObj "list" vs.toArray n)) (hz:vs.length<=10000)
  (hk:∀(s':Shared) (Q:SortKind->Shared->Prop) (E:Value->Shared->Prop),(∀b o,b≠a->s.heap.get? b=some o->s'.heap.get? b=some o)->2<=vs.length->Q κ s'->wpAny (model prog w) A (keyKind' vs.toArray) Q E s')
  (hc:∀(s':Shared) (u v:Value) (Q:Bool->Shared->Prop) (E:Value->Shared->Prop),(∀b o,b≠a->s.heap.get? b=some o->s'.heap.get? b=some o)->u∈vs->v∈vs->Q (ll (key (u,u)) (key (v,v))) s' ->
   wpAny (model prog w) A (keyLt' κ u v) Q E s')
  (h:∀out:List Value,out.Perm vs->out.Pairwise (fun u v=>ll (key (v,v)) (key (u,u))=false)->P (.done (.ret .none)) { s with heap:=sortedHeap s.heap a vs out.toArray }):wpAny (model prog w) A (Builtin.«list.sort» ⟨[.ref a],[]⟩) P E s:=by
 rw [list_sort_plain]
 have ha:a<s.heap.objs.size:=IM ho
 refine IK (listItems_at ho rfl ?_)
 refine IK (listUpdate_at ho rfl ?_ (by rw [List.size_toArray,sizeLine_eq]; lia) (Nat.zero_le _))
 obtain ⟨c1,ho1⟩:∃c1,(s.heap.update a (Obj.mapSeq fun _=>#[])).get? a=some (seqObj "list" #[] c1):=⟨_,get?_update_seq ho (fun _=>#[])⟩
 refine IK (seqEpoch_at ho1 rfl ?_)
 refine IK (wpAny_newTuple ?_ (by show vs.length<=_; rw [sizeLine_eq]; lia))
 refine IK (wpAny_newList ?_ (Nat.zero_le _))
 refine wpAny_holding ?_
 have keep:∀b o,b≠a->s.heap.get? b=some o->(((s.heap.update a (Obj.mapSeq fun _=>#[])).push (seqObj "tuple" vs.toArray 0)).push (seqObj "list" #[] 0)).get? b=some o:=fun b o hb e=>
  IG _ (IG _ (by rw [Heap.get?_update_ne _ _ _ _ hb]; exact e))
 have ho3:(((s.heap.update a (Obj.mapSeq fun _=>#[])).push (seqObj "tuple" vs.toArray 0)).push (seqObj "list" #[] 0)).get? a=some (seqObj "list" #[] c1):=IG _ (IG _ ho1)
 show wpAny (model prog w) A _ P E { s with heap:=((s.heap.update a (Obj.mapSeq fun _=>#[])).push (seqObj "tuple" vs.toArray 0)).push (seqObj "list" #[] 0) }
 dsimp only
 have hsz:vs.toArray.size=vs.length:=List.size_toArray ..
 have ezl:(vs.toArray.zip vs.toArray).toList=vs.map fun v=>(v,v):=by rw [<-AL]; simp
 have fin:∀st':SortSt,(arrOf st').Perm (vs.toArray.zip vs.toArray)->(arrOf st').toList.Pairwise (Le key)->failedOf st'=none ->
   ∃out:List Value,(arrOf st').map (·.2)=out.toArray/\out.length=vs.length/\P (.done (.ret .none)) { s with heap:=sortedHeap s.heap a vs out.toArray }:=fun st' hp hs hf=>by
  have hp':(arrOf st').toList.Perm (vs.map fun v=>(v,v)):=by rw [<-ezl]; exact Array.perm_iff_toList_perm.mp hp
  have hpo:((arrOf st').toList.map (·.2)).Perm vs:=by
   have:=hp'.map (·.2)
   rwa [List.map_map,show (vs.map ((fun p:Keyed=>p.2)∘fun v=>(v,v)))=vs from by rw [show ((fun p:Keyed=>p.2)∘fun v:Value=>(v,v))=id from rfl,List.map_id]] at this
  refine ⟨(arrOf st').toList.map (·.2),by apply Array.toList_inj.mp; simp,hpo.length_eq,h _ hpo ?_⟩
  refine List.pairwise_map.mpr (hs.imp_of_mem fun {x y} hx hy hxy=>?_)
  obtain ⟨u,_,eu⟩:=List.mem_map.mp (hp'.mem_iff.mp hx)
  obtain ⟨v,_,ev⟩:=List.mem_map.mp (hp'.mem_iff.mp hy)
  subst eu; subst ev
  exact hxy
 by_cases h2:vs.length<2
 ·have h2':vs.toArray.size<2:=by lia
  rw [if_pos h2',if_pos h2']
  refine IK (IL ?_)
  rw [StateT.run_pure]
  refine IK (IL ?_)
  dsimp only
  obtain ⟨out,eo,zo,hP⟩:=fin (SortSt.mk' general' (vs.toArray.zip vs.toArray) #[] 7 none) (Array.Perm.refl _) (by
   show (vs.toArray.zip vs.toArray).toList.Pairwise (Le key)
   rw [ezl]
   match vs,h2 with
   |[],_=>exact List.Pairwise.nil
   |[v],_=>exact List.pairwise_singleton _ _
   |_::_::_,h=>simp at h; lia) rfl
  refine IK (seqEpoch_at ho3 rfl ?_)
  rw [eo]
  refine IK (listUpdate_at ho3 rfl ?_ (Nat.zero_le _) (by rw [List.size_toArray,zo,sizeLine_eq]; lia))
  simp only [bne_self_eq_false,Bool.false_eq_true,if_false]
  exact IL hP
 ·have h2':¬vs.toArray.size<2:=by lia
  rw [if_neg h2',if_neg h2']
  refine IK (hk _ _ _ keep 0x1 ?_)
  have asks:mL (model prog w) A E { s with heap:=((s.heap.update a (Obj.mapSeq fun _=>#[])).push (seqObj "tuple" vs.toArray 0)).push (seqObj "list" #[] 0) } κ key (fun x=>∃v∈vs,x=(v,v)):=fun x y st Q hkd ⟨u,hu,ex⟩ ⟨v,hv,ey⟩ hq=>by
   subst ex; subst ey
   rw [lt'_eq]
   refine wpS_bind (wpS_get ?_)
   rw [hkd]
   refine wpS_bind (wpS_lift (wpAny_attempt (hc _ u v _ _ keep hu hv ⟨rfl,?_⟩)))
   exact wpS_pure hq
  refine IK (wpAny_mono (sZ asks (st:=SortSt.mk' κ (vs.toArray.zip vs.toArray) #[] 7 none) (Q:=fun _ st'=>failedOf st'=none/\∃out:List Value,(arrOf st').map (·.2)=out.toArray/\out.length=vs.length/\P (.done (.ret .none)) { s with heap:=sortedHeap s.heap a vs out.toArray })
   rfl rfl rfl (fun x hx=>?_) fun st' a1 a2 a3=>⟨a1,fin st' a2 a3 a1⟩) ?_ fun _ _ x=>x)
  ·have hx':x∈(vs.toArray.zip vs.toArray).toList:=hx
   rw [ezl] at hx'
   obtain ⟨v,hv,e⟩:=List.mem_map.mp hx'
   exact ⟨v,hv,e.symm⟩
  ·rintro ⟨⟨⟩,st'⟩ s' ⟨rfl,hf,out,eo,zo,hP⟩
   dsimp only at hf eo ⊢
   refine IK (seqEpoch_at ho3 rfl ?_)
   rw [eo]
   refine IK (listUpdate_at ho3 rfl ?_ (Nat.zero_le _) (by rw [List.size_toArray,zo,sizeLine_eq]; lia))
   rw [hf]
   simp only [bne_self_eq_false,Bool.false_eq_true,if_false]
   exact IL hP
theorem uF {l:Addr} {vs:List Value} {Q:Value->Shared->Prop} {κ:SortKind} {key:Keyed->List Int} (hl:s.heap.IsList l vs.toArray) (hz:vs.length<=10000)
  (hk:∀(A':Around) (s':Shared) (Q:SortKind->Shared->Prop) (E:Value->Shared->Prop),A'.units<=A.units+2->(∀b o,s.heap.get? b=some o->s'.heap.get? b=some o)->2<=vs.length->Q κ s'->wpAny (model prog w) A' (keyKind' vs.toArray) Q E s')
  (hc:∀(A':Around) (s':Shared) (u v:Value) (Q:Bool->Shared->Prop) (E:Value->Shared->Prop),A'.units<=A.units+2->(∀b o,s.heap.get? b=some o->s'.heap.get? b=some o)->u∈vs->v∈vs->Q (ll (key (u,u)) (key (v,v))) s' ->
   wpAny (model prog w) A' (keyLt' κ u v) Q E s')
  (h:∀out:List Value,out.Perm vs->out.Pairwise (fun u v=>ll (key (v,v)) (key (u,u))=false)->Q (.ref (s.heap.objs.size+1)) { s with heap:=sortedAll s.heap vs out.toArray }):wpAny (model prog w) A (call (.builtin "sorted") [.ref l]) Q E s:=by
 refine Calls.call_function_entry kind_sorted plain_sorted entry_sorted (args_sorted1 _) ?_
 unfold Builtin.«sorted»
 refine IK (m:=checkCount "sorted" 1 1 _) (IL ?_)
 refine IK (collect_list hl ?_ (by rw [sizeLine_eq]; lia))
 refine IK (wpAny_newList ?_ (by rw [sizeLine_eq]; lia))
 have z1:((s.heap.push (seqObj "list" #[] 0)).update s.heap.objs.size (Obj.mapSeq (·++vs.toArray))).objs.size=s.heap.objs.size+1:=by rw [Heap.size_update,size_push']
 have hoL:(((s.heap.push (seqObj "list" #[] 0)).update s.heap.objs.size (Obj.mapSeq (·++vs.toArray))).push (seqObj "list" vs.toArray 0)).get? (s.heap.objs.size+1)=some (seqObj "list" vs.toArray 0):=by
  rw [<-z1]; exact Heap.get?_push_size _ rfl
 have keep:∀b o,s.heap.get? b=some o->(((s.heap.push (seqObj "list" #[] 0)).update s.heap.objs.size (Obj.mapSeq (·++vs.toArray))).push (seqObj "list" vs.toArray 0)).get? b=some o:=fun b o e=>
  IG _ (by rw [Heap.get?_update_ne _ _ _ _ (Nat.ne_of_lt (IM e))]; exact IG _ e)
 show wpAny _ _ _ _ _ { s with heap:=((s.heap.push (seqObj "list" #[] 0)).update s.heap.objs.size (Obj.mapSeq (·++vs.toArray))).push (seqObj "list" vs.toArray 0) }
 rw [z1]
 have ne1:∀b o,s.heap.get? b=some o->b≠s.heap.objs.size+1:=fun b o e=>Nat.ne_of_lt (Nat.lt_succ_of_lt (IM e))
 refine IK (wpAny_holding (wpAny_call_entry slot_list_sort ⟨_,hoL,rfl⟩ entry_list_sort (jD (κ:=κ) (key:=key) hoL hz
  (fun s' Q' E' kp h2 q=>hk _ s' Q' E' ?_ (fun b o e=>kp b o (ne1 b o e) (keep b o e)) h2 q) (fun s' u v Q' E' kp hi hj q=>hc _ s' u v Q' E' ?_ (fun b o e=>kp b o (ne1 b o e) (keep b o e)) hi hj q) fun out o1 o2=>?_) (args_list_sort _)))
 ·exact IJ _
 ·exact IJ _
 ·exact ⟨_,rfl,IL ⟨_,rfl,h out o1 o2⟩⟩
end
noncomputable def uw (d:D):List D->List D
 |[]=>[d]
 |e::r=>if ll (iw d) (iw e)=true then d::e::r else e::uw d r
noncomputable def iJ:List D->List D
 |[]=>[]
 |d::r=>uw d (iJ r)
theorem lW (d:D):∀xs:List D,(uw d xs).Perm (d::xs)
 |[]=>.refl _
 |e::r=>by
  unfold uw
  split
  ·exact .refl _
  ·exact ((lW d r).cons e).trans (.swap d e r)
theorem cj:∀xs:List D,(iJ xs).Perm xs
 |[]=>.refl _
 |d::r=>(lW d (iJ r)).trans ((cj r).cons d)
noncomputable def pz (xs:List D):Prop:=xs.Pairwise fun a b=>ll (iw b) (iw a)=false
theorem tO (d:D):∀{xs:List D},pz xs->pz (uw d xs)
 |[],_=>by unfold uw pz; simp
 |e::r,h=>by
  have h':=List.pairwise_cons.mp h
  unfold uw
  split
  ·rename_i c
   refine List.pairwise_cons.mpr ⟨fun x hx=>?_,h⟩
   rcases List.mem_cons.mp hx with q|q
   ·subst q; exact fv c
   ·exact ee (fv c) (h'.1 x q)
  ·rename_i c
   refine List.pairwise_cons.mpr ⟨fun x hx=>?_,tO d h'.2⟩
   rcases List.mem_cons.mp ((lW d r).mem_iff.mp hx) with q|q
   ·subst q; simpa using c
   ·exact h'.1 x q
theorem gX:∀xs:List D,pz (iJ xs)
 |[]=>List.Pairwise.nil
 |d::r=>tO d (gX r)
structure Cmp2 (ys:List D):Prop where
 ok:∀y∈ys,gZ y=true
 cmp:∀x∈ys,∀y∈ys,(cD true x y).isSome=true
 head:(∀y∈ys,∃i r,y=.tuple (.int i::r))\/(∀y∈ys,∃t r,y=.tuple (.str t::r))
 deep:∀y∈ys,y.depth<=50
 many:ys.length<=10000
theorem ky:∀{xs ys:List D},xs.Perm ys->pz xs->pz ys->(∀x∈xs,gZ x=true)->(∀x∈xs,∀y∈xs,(cD true x y).isSome=true)->xs=ys
 |[],ys,hp,_,_,_,_=>by rw [List.nil_perm.mp hp]
 |x::xs,[],hp,_,_,_,_=>by have:=hp.length_eq; simp at this
 |x::xs,y::ys,hp,h1,h2,hk,hc=>by
  have p1:=List.pairwise_cons.mp h1
  have p2:=List.pairwise_cons.mp h2
  have exy:x=y:=by
   by_cases e:x=y
   ·exact e
   ·have hx:x∈ys:=by
     rcases List.mem_cons.mp (hp.mem_iff.mp IF) with q|q
     ·exact absurd q e
     ·exact q
    have hy:y∈xs:=by
     rcases List.mem_cons.mp (hp.mem_iff.mpr IF) with q|q
     ·exact absurd q.symm e
     ·exact q
    have a1:=p1.1 y hy
    have a2:=p2.1 x hx
    exact Co (hk x IF) (hk y (IE _ hy)) (hc x IF y (IE _ hy)) (iS a2 a1)
  subst exy
  rw [ky (List.Perm.cons_inv hp) p1.2 p2.2 (fun z hz=>hk z (IE _ hz)) fun a ha b hb=>hc a (IE _ ha) b (IE _ hb)]
open Classical in
noncomputable def fy (xs:List DV):M DV:=match xs with
 |[x]=>bd (op (ju x)) fun ys=>if Cmp2 ys then rt (.new (iJ ys)) else none
 |_=>none
open Classical in
noncomputable def EJ (h:Heap) (p:Keyed):List Int:=if e:∃d:PyData,∃as,Reads h p.1 d as/\d.canLay0=true then iw e.choose else []
theorem nh {h:Heap} {v u:Value} {d:PyData} {as:List Addr} (r:Reads h v d as) (hl:d.canLay0=true):EJ h (v,u)=iw d:=by
 unfold EJ
 have e:∃d:PyData,∃as,Reads h (v,u).1 d as/\d.canLay0=true:=⟨d,as,r,hl⟩
 rw [dif_pos e]
 obtain ⟨as',r',hl'⟩:=e.choose_spec
 rw [PySem.SeqAt.Reads.unique _ _ _ _ _ hl' r' r]
theorem ka {h:Heap}:∀{vs:List Value} {ds:List PyData} {as:List Addr},ReadsAll h vs ds as->PyData.canLayAll0 ds=true->∀v∈vs,∃d∈ds,∃bs,Reads h v d bs/\d.canLay0=true
 |_,_,_,.nil,_,_,hv=>nomatch hv
 |_,_,_,.cons r rr,hl,v,hv=>by
  unfold PyData.canLayAll0 at hl
  rw [Bool.and_eq_true] at hl
  rcases List.mem_cons.mp hv with e|e
  ·subst e; exact ⟨_,IF,_,r,hl.1⟩
  ·obtain ⟨d,hd,bs,h1,h2⟩:=ka rr hl.2 v e
   exact ⟨d,IE _ hd,bs,h1,h2⟩
theorem gA {h:Heap}:∀{vs:List Value} {ds:List PyData} {as:List Addr},ReadsAll h vs ds as->PyData.canLayAll0 ds=true->∀i,i<ds.length->∃bs,Reads h (vs.getD i Value.none) (ds.getD i .none) bs/\(ds.getD i .none).canLay0=true
 |_,_,_,.nil,_,i,hi=>absurd hi (Nat.not_lt_zero _)
 |_,_,_,.cons r rr,hl,0,_=>by
  unfold PyData.canLayAll0 at hl
  rw [Bool.and_eq_true] at hl
  exact ⟨_,r,hl.1⟩
 |_,_,_,.cons r rr,hl,i+1,hi=>by
  unfold PyData.canLayAll0 at hl
  rw [Bool.and_eq_true] at hl
  exact gA rr hl.2 i (Nat.lt_of_succ_lt_succ hi)
theorem sD {h:Heap}:∀(vs:List Value),(∀v∈vs,∃b o its n x t,v=.ref b/\h.get? b=some o/\o.cls=.type "tuple" /\ o.data=.seq its n/\its[0]?=some (.str x t))->∃fs,PySem.W.KatTups h vs fs/\fs.length=vs.length/\∀f∈fs,∃x t,f=Value.str x t
 |[],_=>⟨[],PySem.W.KatTups.nil,rfl,fun _ hf=>nomatch hf⟩
 |v::r,hv=>by
  obtain ⟨b,o,its,n,x,t,rfl,eo,ec,ed,e0⟩:=hv v IF
  obtain ⟨fs,h1,h2,h3⟩:=sD r fun u hu=>hv u (IE _ hu)
  refine ⟨.str x t::fs,PySem.W.KatTups.cons eo ec ed e0 h1,by simp [h2],fun f hf=>?_⟩
  rcases List.mem_cons.mp hf with e|e
  ·exact ⟨x,t,e⟩
  ·exact h3 f e
theorem ue {prog:Program} {w:World} {A:Around} {s:Shared} {Q:Bool->Shared->Prop} {X Y:Nat}:∀{vs ws:List Value} {xs ys:List PyData} {as bs:List Addr} {b:Bool} (i:Nat),ReadsAll s.heap vs xs as->ReadsAll s.heap ws ys bs ->
  PyData.canLayAll0 xs=true->PyData.canLayAll0 ys=true->A.units+PyData.depthAll xs<cLine->vs.length+Y=ws.length+X ->
  (i=0->(∃u r v r',xs=.int u::r/\ys=.int v::r')\/(∃u r v r',xs=.str u::r/\ys=.str v::r'))->cL true xs ys=some b->Q b s ->
  PySem.W.KatLex prog w A true (decide (X<Y)) Q (vs.zip ws) i s
 |_,_,_,_,_,_,b,i,.nil,.nil,_,_,_,hl,_,hc,h=>by
  unfold cL at hc; cases hc
  have:decide (X<Y)=false:=decide_eq_false (by simp at hl; lia)
  rw [this]; exact h
 |_,_,_,_,_,_,b,i,.nil,.cons _ _,_,_,_,hl,_,hc,h=>by
  unfold cL at hc; cases hc
  have:decide (X<Y)=true:=decide_eq_true (by simp at hl; lia)
  rw [this]; exact h
 |_,_,_,_,_,_,b,i,.cons _ _,.nil,_,_,_,hl,_,hc,h=>by
  unfold cL at hc; cases hc
  have:decide (X<Y)=false:=decide_eq_false (by simp at hl; lia)
  rw [this]; exact h
 |_,_,x::xs,y::ys,_,_,b,i,.cons r1 rr1,.cons r2 rr2,l1,l2,hu,hl,hh,hc,h=>by
  unfold PyData.canLayAll0 at l1 l2
  rw [Bool.and_eq_true] at l1 l2
  unfold cL at hc
  have hdc:PyData.depthAll (x::xs)=max x.depth (PyData.depthAll xs):=by rw [PyData.depthAll]
  rw [hdc] at hu
  refine PySem.W.kat_cons (SeqAt.eqAt_reads x y A s _ _ _ _ r1 r2 l1.1 l2.1 0x1 prog w _ _ ?_)
  cases e:PyData.eqv x y with
  |true=>
   rw [e,if_pos rfl] at hc
   exact PySem.W.kat_yes (ue (i+1) rr1 rr2 l1.2 l2.2 0x1 (by simp at hl; lia) (fun q=>absurd q (Nat.succ_ne_zero _)) hc h)
  |false=>
   rw [e,if_neg Bool.false_ne_true] at hc
   refine PySem.W.kat_no ?_
   by_cases hi:i=0
   ·subst hi
    rcases hh rfl with ⟨u,r,v,r',e1,e2⟩|⟨u,r,v,r',e1,e2⟩
    ·cases e1; cases e2
     cases r1; cases r2
     unfold cD cI at hc; cases hc
     exact oneLt_int h
    ·cases e1; cases e2
     cases r1; cases r2
     unfold cD cS at hc; cases hc
     exact oneLt_str h
   ·have:(true&&i==0)=false:=by simp [hi]
    rw [this]
    refine PySem.W.kat_one _ _ ?_
    exact lH _ true x y A s _ _ _ _ b (Nat.lt_succ_self _) r1 r2 l1.1 l2.1 0x1 hc prog w _ _ h
theorem qb {α:Type} {d:α}:∀{xs ys:List α},xs.Perm ys->∃is:List Nat,is.Perm (List.range ys.length)/\xs=is.map fun i=>ys.getD i d:=by
 intro xs ys h
 induction h with
 |nil=>exact ⟨[],0x4,rfl⟩
 |@cons x l1 l2 h ih=>
  obtain ⟨is,h1,h2⟩:=ih
  refine ⟨0::is.map (·+1),?_,?_⟩
  ·rw [List.length_cons,List.range_succ_eq_map]
   exact (h1.map _).cons 0
  ·rw [List.map_cons,List.map_map,h2]
   rfl
 |swap x y l=>
  refine ⟨1::0::(List.range l.length).map (·+2),?_,?_⟩
  ·rw [List.length_cons,List.length_cons,List.range_succ_eq_map,List.range_succ_eq_map,List.map_cons,List.map_map]
   exact List.Perm.swap _ _ _
  ·rw [List.map_cons,List.map_cons,List.map_map]
   show _=y::x::_
   congr 1
   congr 1
   exact (iq d l).symm
 |@trans l1 l2 l3 ha hb iha ihb=>
  obtain ⟨is,h1,h2⟩:=iha
  obtain ⟨js,h3,h4⟩:=ihb
  have zl:js.length=l2.length:=by rw [h4]; simp
  refine ⟨is.map fun i=>js.getD i 0,?_,?_⟩
  ·have:=h1.map fun i=>js.getD i 0
   rw [<-zl,iq] at this
   exact this.trans h3
  ·rw [List.map_map,h2]
   refine List.map_congr_left fun i hi=>?_
   have hlt:i<l2.length:=List.mem_range.mp (h1.mem_iff.mp hi)
   have hlt':i<js.length:=by lia
   show l2.getD i d=l3.getD (js.getD i 0) d
   rw [h4]
   simp [hlt']
section
variable {X:Cx} {E:XK}
theorem eY (hu:X.A.units+64<cLine):dc X E (.builtin "sorted") fy:=fun pins s σ O P H₀ H xs vs us r Q I hd hs rx rv e q=>by
 unfold fy at e
 split at e
 ·obtain ⟨ys,e1,e2⟩:=cw e
  split at e2
  ·rename_i hz
   cases e2
   cases rx with
   |cons r1 rr=>
    cases rr
    obtain ⟨a,ws,rfl,ha,l⟩:=r1.list e1
    cases rv with
    |cons q1 q2=>
     cases q2
     cases q1
     obtain ⟨its,ri,pl,hzz⟩:=I.list (gm.of ha)
     have hlen:its.length=ys.length:=by rw [<-ri.length,l.length]
     obtain ⟨as,ra⟩:=RpL.reads I l ri
     have la:=l.lay
     have item:∀v∈its,∃d∈ys,∃bs,Reads s.heap v d bs/\d.canLay0=true:=ka ra la
     refine uF (κ:=tuples' true) (key:=EJ s.heap) pl.isList (by rw [hlen]; exact hz.many) (fun A' s' Q' E' hA kp h2 hq=>?_) (fun A' s' u v Q' E' hA kp hi hj hq=>?_) fun out o1 o2=>?_
     ·
      rcases hz.head with hh|hh
      ·obtain ⟨fs,f1,f2,f3⟩:=q0 (h:=s'.heap) its fun v hv=>by
        obtain ⟨d,hd',bs,rd,ld⟩:=item v hv
        obtain ⟨i,bN,ed⟩:=hh d hd'
        subst ed
        cases rd with
        |@tuple b o vs' n _ _ g1 g2 g3 g4=>
         cases g4':vs'.toList with
         |nil=>rw [g4'] at g4; cases g4
         |cons v0 vr=>
          rw [g4'] at g4
          cases g4 with
          |cons g5 g6=>
           cases g5 with
           |int _ t=>exact ⟨b,o,vs',n,i,t,rfl,kp b o g1,g2,g3,by rw [<-Array.getElem?_toList,g4']; rfl⟩
       refine PySem.W.kat_kind (T:=.type "int") f1 0x1 (fun v hv=>?_) (by rfl) hq
       obtain ⟨i,t,rfl⟩:=f3 v hv
       exact PySem.W.Looks.now
      ·obtain ⟨fs,f1,f2,f3⟩:=sD (h:=s'.heap) its fun v hv=>by
        obtain ⟨d,hd',bs,rd,ld⟩:=item v hv
        obtain ⟨i,bN,ed⟩:=hh d hd'
        subst ed
        cases rd with
        |@tuple b o vs' n _ _ g1 g2 g3 g4=>
         cases g4':vs'.toList with
         |nil=>rw [g4'] at g4; cases g4
         |cons v0 vr=>
          rw [g4'] at g4
          cases g4 with
          |cons g5 g6=>
           cases g5 with
           |str _ t=>exact ⟨b,o,vs',n,i,t,rfl,kp b o g1,g2,g3,by rw [<-Array.getElem?_toList,g4']; rfl⟩
       refine PySem.W.kat_kind (T:=.type "str") f1 0x1 (fun v hv=>?_) (by rfl) hq
       obtain ⟨i,t,rfl⟩:=f3 v hv
       exact PySem.W.Looks.now
     ·obtain ⟨d1,hd1,bs1,rd1,ld1⟩:=item u hi
      obtain ⟨d2,hd2,bs2,rd2,ld2⟩:=item v hj
      rw [nh rd1 ld1,nh rd2 ld2] at hq
      obtain ⟨b,hb⟩:=Option.isSome_iff_exists.mp (hz.cmp d1 hd1 d2 hd2)
      rw [qO (hz.ok d1 hd1) (hz.ok d2 hd2) hb] at hq
      have dp1:=hz.deep d1 hd1
      have rd1':=Reads.keeps kp rd1
      have rd2':=Reads.keeps kp rd2
      have hd12:(∃x r x' r',d1=.tuple (.int x::r)/\d2=.tuple (.int x'::r'))\/(∃x r x' r',d1=.tuple (.str x::r)/\d2=.tuple (.str x'::r')):=by
       rcases hz.head with hh|hh
       ·obtain ⟨x,r,e1⟩:=hh d1 hd1
        obtain ⟨x',r',e2⟩:=hh d2 hd2
        exact .inl ⟨x,r,x',r',e1,e2⟩
       ·obtain ⟨x,r,e1⟩:=hh d1 hd1
        obtain ⟨x',r',e2⟩:=hh d2 hd2
        exact .inr ⟨x,r,x',r',e1,e2⟩
      obtain ⟨xs1,e1⟩:∃l,d1=.tuple l:=by
       rcases hd12 with ⟨x,r,x',r',e1,e2⟩|⟨x,r,x',r',e1,e2⟩ <;> exact ⟨_,e1⟩
      obtain ⟨xs2,e2⟩:∃l,d2=.tuple l:=by
       rcases hd12 with ⟨x,r,x',r',e1,e2⟩|⟨x,r,x',r',e1,e2⟩ <;> exact ⟨_,e2⟩
      subst e1; subst e2
      unfold cD at hb
      unfold PyData.canLay0 at ld1 ld2
      unfold PyData.depth at dp1
      cases rd1' with
      |@tuple b1 o1 vs1 n1 _ _ g1 g2 g3 g4=>
       cases rd2' with
       |@tuple b2 o2 vs2 n2 _ _ k1 k2 k3 k4=>
        refine PySem.W.kat_lt g1 g3 k1 k3 (ue (X:=vs1.size) (Y:=vs2.size) 0 g4 k4 ld1 ld2 0x1 (by simp; lia) (fun _=>?_) hb hq)
        rcases hd12 with ⟨x,r,x',r',e1,e2⟩|⟨x,r,x',r',e1,e2⟩
        ·cases e1; cases e2; exact .inl ⟨_,_,_,_,rfl,rfl⟩
        ·cases e1; cases e2; exact .inr ⟨_,_,_,_,rfl,rfl⟩
     ·
      obtain ⟨is,i1,i2⟩:=qb (d:=Value.none) o1
      have hlt:∀i∈is,i<ys.length:=fun i hi=>by
       have:=List.mem_range.mp (i1.mem_iff.mp hi)
       lia
      have hl':=l.pick is hlt
      have hv':=jo ri is fun i hi=>by rw [<-l.length]; exact hlt i hi
      have ed:(is.map fun i=>ys.getD i .none)=iJ ys:=by
       have hp:(is.map fun i=>ys.getD i .none).Perm ys:=by
        have:=i1.map fun i=>ys.getD i .none
        rw [hlen,iq] at this
        exact this
       refine ky (hp.trans (cj ys).symm) ?_ (gX ys) (fun x hx=>hz.ok x (hp.mem_iff.mp hx)) fun x hx y hy=>hz.cmp x (hp.mem_iff.mp hx) y (hp.mem_iff.mp hy)
       rw [i2] at o2
       have o3:=List.pairwise_map.mp o2
       refine List.pairwise_map.mpr (o3.imp_of_mem fun {i j} hi hj hij=>?_)
       obtain ⟨bs1,k1,k2⟩:=gA ra la i (hlt i hi)
       obtain ⟨bs2,k3,k4⟩:=gA ra la j (hlt j hj)
       rw [nh k1 k2,nh k3 k4] at hij
       exact hij
      rw [i2]
      rw [ed] at hl'
      obtain ⟨ep,hat⟩:=sortedAll_at s.heap its (is.map fun i=>its.getD i Value.none).toArray
      have hn:s.heap.objs.size<=s.heap.objs.size+1:=Nat.le_succ _
      refine ⟨.ref (s.heap.objs.size+1),du H (s.heap.objs.size+1) (.lst (is.map fun i=>ws.getD i .non)),I.laid (t':=s.toks) (fun b o e=>sortedAll_old e) hn ⟨?_,_,ep,hv',hat⟩,rfl,q _ _ (bH (I.hok.fresh hn)) (RE.made hs (I.hok.fresh hn) hl')⟩
      rw [<-hl'.length,(cj ys).length_eq,l.length]; exact hzz
  ·cases e2
 ·cases e
end
section
variable {X:Cx} {E:XK} {tg e:Expr} {f:DS->M DV}
end
section
variable {X:Cx} {E:XK} {k:Nat} {js:List Nat} {N':List Str} {scope:Scope} {elt tg iter:Expr} {ifs:List Expr} {pos:Pos} {fi:DS->M (List D)} {g:TG} {sf:D->DS->Option DS} {gc:DS->M Bool} {fe:DS->M DV}
end
open PySem
noncomputable abbrev Pb:=SetTable.Probe
noncomputable def FP (xs:Array Nat):Prop:=∀i j x y:Nat,i<j->xs[i]?=some x->xs[j]?=some y->x<y
theorem oS (xs:Array Nat) (hr:FP xs) (j:Nat):∀(fuel lo hi:Nat),hi<=xs.size->lo<=hi->hi-lo<=fuel->(∀i x,i<lo->xs[i]?=some x->x<j)->(∀i x,hi<=i->xs[i]?=some x->j<=x) ->
  SetTable.below.go xs j fuel lo hi<=xs.size/\(∀i x,i<SetTable.below.go xs j fuel lo hi->xs[i]?=some x->x<j)/\(∀i x,SetTable.below.go xs j fuel lo hi<=i->xs[i]?=some x->j<=x)
 |0,lo,hi,h1,h2,h3,h4,h5=>by
  have:lo=hi:=by lia
  subst this
  exact ⟨h1,h4,h5⟩
 |fuel+1,lo,hi,h1,h2,h3,h4,h5=>by
  unfold SetTable.below.go
  by_cases hl:lo<hi
  ·rw [if_pos hl]
   have hm:(lo+hi) / 2<xs.size:=by lia
   have hg:xs[(lo+hi) / 2]?=some (xs.getD ((lo+hi) / 2) j):=by
    rw [Array.getD_eq_getD_getElem?,Array.getElem?_eq_getElem hm]; rfl
   dsimp only
   by_cases hc:xs.getD ((lo+hi) / 2) j<j
   ·rw [if_pos hc]
    refine oS xs hr j fuel _ _ h1 0x1 0x1 (fun i x hi' hx=>?_) h5
    by_cases he:i=(lo+hi) / 2
    ·subst he; rw [hg] at hx; cases hx; exact hc
    ·have:=hr i _ x _ 0x1 hx hg; lia
   ·rw [if_neg hc]
    refine oS xs hr j fuel _ _ 0x1 0x1 0x1 h4 fun i x hi' hx=>?_
    by_cases he:i=(lo+hi) / 2
    ·subst he; rw [hg] at hx; cases hx; lia
    ·have:=hr _ i _ x 0x1 hg hx; lia
  ·rw [if_neg hl]
   have:lo=hi:=by lia
   subst this
   exact ⟨h1,h4,h5⟩
theorem kr {xs:Array Nat} (hr:FP xs) (j:Nat):SetTable.below xs j<=xs.size/\(∀i x,i<SetTable.below xs j->xs[i]?=some x->x<j)/\(∀i x,SetTable.below xs j<=i->xs[i]?=some x->j<=x):=
 oS xs hr j _ _ _ (IJ _) (Nat.zero_le _) 0x1 (fun i x h=>absurd h (Nat.not_lt_zero _)) fun i x h hx=>by
  rw [Array.getElem?_eq_none h] at hx; cases hx
theorem zc {xs:Array Nat} (hr:FP xs) {i j:Nat} (h:xs[i]?=some j):SetTable.below xs j=i:=by
 obtain ⟨_,b2,b3⟩:=kr hr j
 by_cases h1:i<SetTable.below xs j
 ·have:=b2 i j h1 h; lia
 ·by_cases h2:SetTable.below xs j<i
  ·have hs:SetTable.below xs j<xs.size:=by
    have:=(Array.getElem?_eq_some_iff.mp h).1; lia
   obtain ⟨y,hy⟩:∃y,xs[SetTable.below xs j]?=some y:=⟨_,Array.getElem?_eq_getElem hs⟩
   have h3:=b3 _ y (IJ _) hy
   have h4:=hr _ _ y j h2 hy h
   lia
  ·lia
noncomputable def AV (mask:Nat) (p:Pb):Pb:=if p.more>0 then { p with j:=p.j+1,more:=p.more-1 } else
 { p with j:=(SetTable.leap mask p.i p.perturb).1,more:=SetTable.runEnd mask (SetTable.leap mask p.i p.perturb).1-(SetTable.leap mask p.i p.perturb).1,i:=(SetTable.leap mask p.i p.perturb).1,perturb:=(SetTable.leap mask p.i p.perturb).2 }
noncomputable def run (mask i q:Nat):Pb:={ j:=i,more:=SetTable.runEnd mask i-i,i:=i,perturb:=q,dummy:=none }
noncomputable def cZ (mask:Nat) (h:Int):Nat->Pb
 |0=>run mask (SetTable.bits h % (mask+1)) (SetTable.bits h)
 |n+1=>AV mask (cZ mask h n)
theorem pJ (mask:Nat) (h:Int):∀n,(cZ mask h n).dummy=none
 |0=>rfl
 |n+1=>by
  show (AV mask (cZ mask h n)).dummy=none
  unfold AV
  split <;> exact pJ mask h n
theorem jm {mask i:Nat} (h:i<=mask):SetTable.runEnd mask i<=mask/\i<=SetTable.runEnd mask i/\SetTable.runEnd mask i<=i+9:=by
 unfold SetTable.runEnd; split <;> lia
theorem ym (mask i q:Nat):∀k p,p={ run mask i q with j:=i+k,more:=(run mask i q).more-k }->k<(run mask i q).more->AV mask p={ run mask i q with j:=i+(k+1),more:=(run mask i q).more-(k+1) }:=fun k p e hk=>by
 subst e
 unfold AV
 rw [if_pos (by show (run mask i q).more-k>0; lia)]
 rfl
theorem qS {mask:Nat} {h:Int} {n i q:Nat} (e:cZ mask h n=run mask i q):∀k,k<=(run mask i q).more->cZ mask h (n+k)={ run mask i q with j:=i+k,more:=(run mask i q).more-k }
 |0,_=>e
 |k+1,hk=>ym mask i q k _ (qS e k 0x1) 0x1
theorem tw {mask:Nat} {h:Int} {n i q:Nat} (e:cZ mask h n=run mask i q):cZ mask h (n+(run mask i q).more+1)=run mask (SetTable.leap mask i q).1 (SetTable.leap mask i q).2:=by
 show AV mask (cZ mask h (n+(run mask i q).more))=_
 rw [qS e _ (IJ _)]
 unfold AV
 rw [if_neg (by show ¬(run mask i q).more-(run mask i q).more>0; lia)]
 rfl
noncomputable def lp (mask:Nat):Nat->Nat×Nat->Nat×Nat
 |0,s=>s
 |n+1,s=>lp mask n (SetTable.leap mask s.1 s.2)
theorem ly (mask:Nat):∀(m n:Nat) (s:Nat×Nat),lp mask (m+n) s=lp mask n (lp mask m s)
 |0,n,s=>by rw [Nat.zero_add]; rfl
 |m+1,n,s=>by rw [show m+1+n=(m+n)+1 by lia]; exact ly mask m n _
theorem vt (mask:Nat):∀(n:Nat) (s:Nat×Nat),(lp mask n s).2=s.2 / 32 ^ n
 |0,s=>by show s.2=_; simp
 |n+1,s=>by
  show (lp mask n (SetTable.leap mask s.1 s.2)).2=_
  rw [vt mask n]
  show s.2 / 32 / 32 ^ n=_
  rw [Nat.div_div_eq_div_mul,Nat.pow_succ,Nat.mul_comm]
theorem vP (mask:Nat):∀(n:Nat) (s:Nat×Nat),s.1<=mask->(lp mask n s).1<=mask
 |0,s,h=>h
 |n+1,s,h=>vP mask n _ (by
  show (s.1*5+1+s.2 / 32) % (mask+1)<=mask
  have:=Nat.mod_lt (s.1*5+1+s.2 / 32) (show 0<mask+1 from Nat.succ_pos mask)
  lia)
noncomputable def ye (mask:Nat):Prop:=mask=7\/mask=31\/mask=127
theorem Br (mask:Nat):∀(n i:Nat),(lp mask n (i,0)).2=0:=fun n i=>by rw [vt]; simp
theorem FV:∀e∈List.range 8,∃b∈List.range 8,(lp 7 b (0,0)).1=e:=by decide +kernel
theorem EL:∀e∈List.range 32,∃b∈List.range 32,(lp 31 b (0,0)).1=e:=by decide +kernel
theorem CH:∀e∈List.range 128,∃b∈List.range 128,(lp 127 b (0,0)).1=e:=by decide +kernel
theorem HW:lp 7 8 (0,0)=(0,0):=by decide +kernel
theorem Gi:lp 31 32 (0,0)=(0,0):=by decide +kernel
theorem EE:lp 127 128 (0,0)=(0,0):=by decide +kernel
theorem GI {mask:Nat} (hm:ye mask) {e:Nat} (he:e<=mask):∃b,b<=mask/\(lp mask b (0,0)).1=e:=by
 rcases hm with rfl|rfl|rfl
 ·obtain ⟨b,hb,h⟩:=FV e (List.mem_range.mpr 0x1); exact ⟨b,by have:=List.mem_range.mp hb; lia,h⟩
 ·obtain ⟨b,hb,h⟩:=EL e (List.mem_range.mpr 0x1); exact ⟨b,by have:=List.mem_range.mp hb; lia,h⟩
 ·obtain ⟨b,hb,h⟩:=CH e (List.mem_range.mpr 0x1); exact ⟨b,by have:=List.mem_range.mp hb; lia,h⟩
theorem Iw {mask:Nat} (hm:ye mask):lp mask (mask+1) (0,0)=(0,0):=by
 rcases hm with rfl|rfl|rfl
 ·exact HW
 ·exact Gi
 ·exact EE
theorem Hr {mask:Nat} (hm:ye mask) {i e:Nat} (hi:i<=mask) (he:e<=mask):∃m,m<=mask/\(lp mask m (i,0)).1=e:=by
 obtain ⟨a,ha,ea⟩:=GI hm hi
 obtain ⟨b,hb,eb⟩:=GI hm he
 have hs:lp mask a (0,0)=(i,0):=Prod.ext ea (Br mask a 0)
 by_cases h:a<=b
 ·refine ⟨b-a,0x1,?_⟩
  rw [<-hs,<-ly,show a+(b-a)=b by lia,eb]
 ·refine ⟨mask+1-a+b,0x1,?_⟩
  rw [<-hs,<-ly,show a+(mask+1-a+b)=mask+1+b by lia,ly,Iw hm,eb]
theorem Fv {mask:Nat} (hm:ye mask) {i q e:Nat} (hi:i<=mask) (hq:q<2 ^ 64) (he:e<=mask):∃m,m<=mask+13/\(lp mask m (i,q)).1=e:=by
 have h0:(lp mask 13 (i,q)).2=0:=by
  rw [vt]
  exact Nat.div_eq_of_lt (Nat.lt_of_lt_of_le hq 0x3)
 obtain ⟨m,h1,h2⟩:=Hr hm (vP mask 13 (i,q) hi) he
 refine ⟨13+m,0x1,?_⟩
 rw [ly,show lp mask 13 (i,q)=((lp mask 13 (i,q)).1,0) from Prod.ext rfl h0]
 exact h2
theorem wR (h:Int):SetTable.bits h<2 ^ 64:=by
 unfold SetTable.bits
 have h1:=Int.emod_nonneg h (show ((2:Int) ^ 64)≠0 by decide)
 have h2:=Int.emod_lt_of_pos h (show (0:Int)<2 ^ 64 by decide)
 lia
theorem wW (mask:Nat) (h:Int):∀m,∃n,n<=10*m/\cZ mask h n=run mask (lp mask m (SetTable.bits h % (mask+1),SetTable.bits h)).1 (lp mask m (SetTable.bits h % (mask+1),SetTable.bits h)).2
 |0=>⟨0,0x1,rfl⟩
 |m+1=>by
  obtain ⟨n,hn,e⟩:=wW mask h m
  have hs:(SetTable.bits h % (mask+1),SetTable.bits h).1<=mask:=by
   have:=Nat.mod_lt (SetTable.bits h) (show 0<mask+1 from Nat.succ_pos mask)
   show SetTable.bits h % (mask+1)<=mask
   lia
  have hl:=vP mask m _ hs
  have h9:=jm hl
  refine ⟨_,?_,(tw e).trans ?_⟩
  ·show n+(SetTable.runEnd mask _-_)+1<=_
   lia
  ·rw [show lp mask (m+1) (SetTable.bits h % (mask+1),SetTable.bits h)=lp mask 1 (lp mask m (SetTable.bits h % (mask+1),SetTable.bits h)) from ly mask m 1 _]
   rfl
theorem HH {mask:Nat} (hm:ye mask) (h:Int) {e:Nat} (he:e<=mask):∃n,n<10*SetTable.turns mask/\(cZ mask h n).j=e:=by
 obtain ⟨m,h1,h2⟩:=Fv hm (i:=SetTable.bits h % (mask+1)) (q:=SetTable.bits h) (by have:=Nat.mod_lt (SetTable.bits h) (show 0<mask+1 from Nat.succ_pos mask); lia) (wR h) he
 obtain ⟨n,h3,h4⟩:=wW mask h m
 refine ⟨n,by unfold SetTable.turns; lia,?_⟩
 rw [h4]
 exact h2
noncomputable abbrev El:=Nat×Int×Value
noncomputable def xt (L:List El) (j:Nat):Prop:=∃e∈L,e.1=j
noncomputable def FL (mask:Nat) (occ:Nat->Prop) (h:Int) (j:Nat):Prop:=∃n,(cZ mask h n).j=j/\∀k,k<n->occ (cZ mask h k).j
structure Tab (t:SetTable) (L:List El):Prop where
 msk:ye t.mask
 dum:t.dummies=#[]
 pl:t.place.toList=L.map (·.1)
 ris:L.Pairwise fun a b=>a.1<b.1
 le:∀e∈L,e.1<=t.mask
 room:L.length<=t.mask
 way:∀e∈L,FL t.mask (xt L) e.2.1 e.1
theorem sk {t:SetTable} {L:List El} (h:t.place.toList=L.map (·.1)) (i:Nat):t.place[i]?=(L[i]?).map (·.1):=by
 rw [<-Array.getElem?_toList,h,List.getElem?_map]
theorem rh {t:SetTable} {L:List El} (h:t.place.toList=L.map (·.1)) (hr:L.Pairwise fun a b=>a.1<b.1):FP t.place:=fun i j x y hij hx hy=>by
 rw [sk h] at hx hy
 obtain ⟨a,ha,rfl⟩:=Option.map_eq_some_iff.mp hx
 obtain ⟨b,hb,rfl⟩:=Option.map_eq_some_iff.mp hy
 obtain ⟨li,rfl⟩:=List.getElem?_eq_some_iff.mp ha
 obtain ⟨lj,rfl⟩:=List.getElem?_eq_some_iff.mp hb
 exact List.pairwise_iff_getElem.mp hr i j li lj hij
theorem Tab.size {t:SetTable} {L:List El} (T:Tab t L):t.place.size=L.length:=by rw [<-Array.length_toList,T.pl,List.length_map]
theorem Tab.fits {t:SetTable} {L:List El} (T:Tab t L):t.fits L.length=true:=by
 unfold SetTable.fits SetTable.fill
 rw [T.size,T.dum]
 have:=T.room
 simp
 exact this
theorem Tab.live {t:SetTable} {L:List El} (T:Tab t L) {i:Nat} {e:El} (h:L[i]?=some e):t.slot e.1=.live i:=by
 have hp:t.place[i]?=some e.1:=by rw [sk T.pl,h]; rfl
 unfold SetTable.slot
 dsimp only
 rw [zc (rh T.pl T.ris) hp,hp]
 simp
theorem Tab.empty {t:SetTable} {L:List El} (T:Tab t L) {j:Nat} (h:¬xt L j):t.slot j=.empty:=by
 unfold SetTable.slot
 dsimp only
 rw [if_neg,if_neg]
 ·rw [T.dum]; unfold SetTable.has; simp
 ·intro he
  have he:=eq_of_beq he
  rw [sk T.pl] at he
  obtain ⟨e,h1,h2⟩:=Option.map_eq_some_iff.mp he
  exact h ⟨e,List.mem_of_getElem? h1,h2⟩
theorem BL {L:List El} {mask:Nat} (h:L.length<=mask):∃e,e<=mask/\¬xt L e:=by
 apply Classical.byContradiction
 intro hn
 have hs:List.range (mask+1)⊆L.map (·.1):=fun e he=>by
  have h1:e<=mask:=by have:=List.mem_range.mp he; lia
  have h2:xt L e:=Classical.byContradiction fun hc=>hn ⟨e,h1,hc⟩
  obtain ⟨x,hx,rfl⟩:=h2
  exact List.mem_map_of_mem hx
 have:=List.Nodup.length_le_of_subset List.nodup_range hs
 rw [List.length_range,List.length_map] at this
 lia
theorem first {P:Nat->Prop}:∀n,P n->∃m,m<=n/\P m/\∀k,k<m->¬P k:=fun n=>by
 induction n using Nat.strongRecOn with
 |ind n ih=>
  intro h
  by_cases hc:∃k,k<n/\P k
  ·obtain ⟨k,h1,h2⟩:=hc
   obtain ⟨m,h3,h4,h5⟩:=ih k h1 h2
   exact ⟨m,0x1,h4,h5⟩
  ·exact ⟨n,IJ _,h,fun k hk hp=>hc ⟨k,hk,hp⟩⟩
theorem Tab.end {t:SetTable} {L:List El} (T:Tab t L) (h:Int):∃N,N<10*SetTable.turns t.mask/\¬xt L (cZ t.mask h N).j/\∀k,k<N->xt L (cZ t.mask h k).j:=by
 obtain ⟨e,h1,h2⟩:=BL T.room
 obtain ⟨n,h3,h4⟩:=HH T.msk h h1
 obtain ⟨m,h5,h6,h7⟩:=first (P:=fun n=>¬xt L (cZ t.mask h n).j) n (by rw [h4]; exact h2)
 exact ⟨m,0x1,h6,fun k hk=>Classical.byContradiction (h7 k hk)⟩
theorem Tab.probe {t:SetTable} {L:List El} (T:Tab t L) {h:Int} {N:Nat} (hN:¬xt L (cZ t.mask h N).j) (ho:∀k,k<N->xt L (cZ t.mask h k).j) (ha:Nat->Int) (hha:∀i e,L[i]?=some e->ha i=e.2.1) :
  ∀(fuel n:Nat),n<=N->N-n<fuel->∃m,n<=m/\m<=N/\(∀k,n<=k->k<m->∀e∈L,e.1=(cZ t.mask h k).j->e.2.1≠h) /\
   ((m=N/\SetTable.probe.go t ha h fuel (cZ t.mask h n)=some (.empty (cZ t.mask h N).j none))\/(m<N/\∃i e,L[i]?=some e/\e.1=(cZ t.mask h m).j/\e.2.1=h/\SetTable.probe.go t ha h fuel (cZ t.mask h n)=some (.candidate (cZ t.mask h m).j i (cZ t.mask h (m+1)))))
 |0,n,h1,h2=>by lia
 |fuel+1,n,h1,h2=>by
  by_cases hn:n=N
  ·subst hn
   refine ⟨n,IJ _,IJ _,fun k a b=>0x1,.inl ⟨rfl,?_⟩⟩
   unfold SetTable.probe.go
   rw [T.empty hN,pJ]
  ·obtain ⟨e,he,hj⟩:=ho n 0x1
   obtain ⟨i,hi⟩:=List.mem_iff_getElem?.mp he
   have hs:t.slot (cZ t.mask h n).j=.live i:=by rw [<-hj]; exact T.live hi
   by_cases hh:e.2.1=h
   ·refine ⟨n,IJ _,h1,fun k a b=>0x1,.inr ⟨0x1,i,e,hi,hj,hh,?_⟩⟩
    unfold SetTable.probe.go
    rw [hs]
    dsimp only
    rw [hha i e hi,if_pos (by rw [hh]; exact beq_self_eq_true _)]
    rfl
   ·obtain ⟨m,m1,m2,m3,m4⟩:=Tab.probe T hN ho ha hha fuel (n+1) 0x1 0x1
    have hg:SetTable.probe.go t ha h (fuel+1) (cZ t.mask h n)=SetTable.probe.go t ha h fuel (cZ t.mask h (n+1)):=by
     rw [SetTable.probe.go,hs]
     dsimp only
     rw [hha i e hi,if_neg (by intro hc; exact hh (eq_of_beq hc))]
     rfl
    refine ⟨m,0x1,m2,fun k a b e' he' hj'=>?_,by rw [hg]; exact m4⟩
    by_cases hk:k=n
    ·subst hk
     obtain ⟨i',hi'⟩:=List.mem_iff_getElem?.mp he'
     have h3:=T.live hi'
     rw [hj',hs] at h3
     cases h3
     rw [hi] at hi'
     cases hi'
     exact hh
    ·exact m3 k 0x1 b e' he' hj'
noncomputable def mG (L:List El) (p:Nat) (e:El):List El:=L.take p++e::L.drop p
theorem nV {α:Type} (xs:Array α) (p:Nat) (x:α):(SetTable.insertAt xs p x).toList=xs.toList.take p++x::xs.toList.drop p:=by
 rw [SetTable.toList_insertAt]
theorem kg {L:List El} {p:Nat} {e x:El}:x∈mG L p e↔x=e\/x∈L:=by
 unfold mG
 rw [List.mem_append,List.mem_cons]
 have:x∈L↔x∈L.take p\/x∈L.drop p:=by rw [<-List.mem_append,List.take_append_drop]
 rw [this]
 constructor
 ·rintro (h|h|h)
  ·exact .inr (.inl h)
  ·exact .inl h
  ·exact .inr (.inr h)
 ·rintro (h|h|h)
  ·exact .inr (.inl h)
  ·exact .inl h
  ·exact .inr (.inr h)
theorem qa (L:List El) (p:Nat) (e:El):(mG L p e).Perm (e::L):=by
 unfold mG
 refine List.perm_middle.trans ?_
 rw [List.take_append_drop]
theorem iX (L:List El) (p:Nat) (e:El):(mG L p e).length=L.length+1:=(qa L p e).length_eq
theorem Aw {L:List El} {p:Nat} {e:El} (hr:L.Pairwise fun a b=>a.1<b.1) (h1:∀i x,i<p->L[i]?=some x->x.1<e.1) (h2:∀i x,p<=i->L[i]?=some x->e.1<x.1):(mG L p e).Pairwise fun a b=>a.1<b.1:=by
 unfold mG
 rw [List.pairwise_append,List.pairwise_cons]
 have ht:∀a∈L.take p,a.1<e.1:=fun a ha=>by
  obtain ⟨i,hi⟩:=List.mem_iff_getElem?.mp ha
  rw [List.getElem?_take] at hi
  split at hi
  ·exact h1 i a (by assumption) hi
  ·cases hi
 have hd:∀a∈L.drop p,e.1<a.1:=fun a ha=>by
  obtain ⟨i,hi⟩:=List.mem_iff_getElem?.mp ha
  rw [List.getElem?_drop] at hi
  exact h2 _ a 0x1 hi
 refine ⟨hr.sublist (List.take_sublist _ _),⟨hd,hr.sublist (List.drop_sublist _ _)⟩,fun a ha b hb=>?_⟩
 rcases List.mem_cons.mp hb with rfl|hb
 ·exact ht a ha
 ·exact Nat.lt_trans (ht a ha) (hd b hb)
theorem FL.mono {mask:Nat} {o o':Nat->Prop} {h:Int} {j:Nat} (w:FL mask o h j) (i:∀j,o j->o' j):FL mask o' h j:=let ⟨n,a,b⟩:=w; ⟨n,a,fun k hk=>i _ (b k hk)⟩
theorem Tab.put {t:SetTable} {L:List El} (T:Tab t L) (hr:L.length+1<=t.mask) {h:Int} {x:Value} {N:Nat} (hN:¬xt L (cZ t.mask h N).j) (hle:(cZ t.mask h N).j<=t.mask) (ho:∀k,k<N->xt L (cZ t.mask h k).j) :
  Tab (t.put (cZ t.mask h N).j).1 (mG L (t.put (cZ t.mask h N).j).2 ((cZ t.mask h N).j,h,x)):=by
 have hd:(t.put (cZ t.mask h N).j).1.dummies=#[]:=by
  unfold SetTable.put
  dsimp only
  rw [T.dum]
  unfold SetTable.has
  simp
 have hb:=kr (rh T.pl T.ris) (cZ t.mask h N).j
 have hp:(t.put (cZ t.mask h N).j).2=SetTable.below t.place (cZ t.mask h N).j:=rfl
 have hm:(t.put (cZ t.mask h N).j).1.mask=t.mask:=rfl
 rw [hp]
 refine ⟨T.msk,hd,?_,Aw T.ris (fun i y hi hy=>?_) (fun i y hi hy=>?_),fun e he=>?_,by rw [iX]; exact hr,fun e he=>?_⟩
 ·show (SetTable.insertAt t.place _ _).toList=_
  rw [nV,T.pl]
  unfold mG
  simp [List.map_take,List.map_drop]
 ·exact hb.2.1 i y.1 hi (by rw [sk T.pl,hy]; rfl)
 ·have:=hb.2.2 i y.1 hi (by rw [sk T.pl,hy]; rfl)
  have hne:y.1≠(cZ t.mask h N).j:=fun e=>hN ⟨y,List.mem_of_getElem? hy,e⟩
  show (cZ t.mask h N).j<y.1
  lia
 ·rcases kg.mp he with rfl|he
  ·exact hle
  ·exact T.le e he
 ·rcases kg.mp he with rfl|he
  ·exact ⟨N,rfl,fun k hk=>let ⟨e,a,b⟩:=ho k hk; ⟨e,kg.mpr (.inr a),b⟩⟩
  ·exact (T.way e he).mono fun j ⟨e',a,b⟩=>⟨e',kg.mpr (.inr a),b⟩
theorem DH {mask:Nat} {p:Pb} (h:p.j+p.more<=mask):(AV mask p).j+(AV mask p).more<=mask:=by
 unfold AV
 split
 ·show p.j+1+(p.more-1)<=mask
  lia
 ·have h1:(SetTable.leap mask p.i p.perturb).1<=mask:=by
   have:=Nat.mod_lt (p.i*5+1+p.perturb / 32) (show 0<mask+1 from Nat.succ_pos mask)
   show (p.i*5+1+p.perturb / 32) % (mask+1)<=mask
   lia
  have:=jm h1
  show (SetTable.leap mask p.i p.perturb).1+(SetTable.runEnd mask (SetTable.leap mask p.i p.perturb).1-(SetTable.leap mask p.i p.perturb).1)<=mask
  lia
theorem y2 (mask:Nat) (h:Int):∀n,(cZ mask h n).j+(cZ mask h n).more<=mask
 |0=>by
  have:=Nat.mod_lt (SetTable.bits h) (show 0<mask+1 from Nat.succ_pos mask)
  have h1:SetTable.bits h % (mask+1)<=mask:=by lia
  have:=jm h1
  show SetTable.bits h % (mask+1)+(SetTable.runEnd mask (SetTable.bits h % (mask+1))-SetTable.bits h % (mask+1))<=mask
  lia
 |n+1=>DH (y2 mask h n)
noncomputable def CG (owner:Array (Option Nat)) (j:Nat):Prop:=∃k,owner[j]?=some (some k)
theorem wZ {mask:Nat} {h:Int} {owner:Array (Option Nat)} (hz:owner.size=mask+1) {e:Nat} (he:owner[e]?=some none):∀(fuel i q n:Nat),i<=mask->cZ mask h n=run mask i q->(∀k,k<n->CG owner (cZ mask h k).j)->(∃m,m<fuel/\(lp mask m (i,q)).1=e) ->
  ∃n',SetTable.layClean.free mask owner fuel i q=some (cZ mask h n').j/\(∀k,k<n'->CG owner (cZ mask h k).j)/\owner[(cZ mask h n').j]?=some none
 |0,i,q,n,_,_,_,⟨m,hm,_⟩=>by lia
 |fuel+1,i,q,n,hi,hp,ho,⟨m,hm,hme⟩=>by
  have hr:=jm hi
  have at_:∀k,k<SetTable.runEnd mask i+1-i->(cZ mask h (n+k)).j=i+k/\i+k<=mask:=fun k hk=>by
   rw [qS hp k (by show k<=SetTable.runEnd mask i-i; lia)]
   exact ⟨rfl,0x1⟩
  have non:∀k,i+k<=mask->(owner.getD (i+k) (some 0)).isNone=true->owner[i+k]?=some none:=fun k hk hn=>by
   have hb:i+k<owner.size:=by lia
   rw [Array.getD_eq_getD_getElem?,Array.getElem?_eq_getElem hb] at hn
   rw [Array.getElem?_eq_getElem hb]
   have:owner[i+k].isNone=true:=hn
   rw [Option.isNone_iff_eq_none.mp this]
  have som:∀k,i+k<=mask->(!(owner.getD (i+k) (some 0)).isNone)=true->CG owner (i+k):=fun k hk hn=>by
   have hb:i+k<owner.size:=by lia
   rw [Array.getD_eq_getD_getElem?,Array.getElem?_eq_getElem hb] at hn
   unfold CG
   rw [Array.getElem?_eq_getElem hb]
   cases hc:owner[i+k] with
   |none=>rw [hc] at hn; cases hn
   |some y=>exact ⟨y,rfl⟩
  unfold SetTable.layClean.free
  cases hf:(List.range (SetTable.runEnd mask i+1-i)).find? fun k=>(owner.getD (i+k) (some 0)).isNone with
  |some k=>
   obtain ⟨f1,f2,f3⟩:=List.find?_range_eq_some.mp hf
   have hk:=List.mem_range.mp f2
   obtain ⟨a1,a2⟩:=at_ k hk
   refine ⟨n+k,by rw [a1],fun k' hk'=>?_,by rw [a1]; exact non k a2 f1⟩
   by_cases hlt:k'<n
   ·exact ho k' hlt
   ·obtain ⟨b1,b2⟩:=at_ (k'-n) 0x1
    rw [show n+(k'-n)=k' by lia] at b1
    rw [b1]
    exact som _ b2 (f3 (k'-n) 0x1)
  |none=>
   dsimp only
   have f3:=List.find?_range_eq_none.mp hf
   have hm0:m≠0:=fun h0=>by
    subst h0
    have he':i=e:=hme
    subst he'
    have h0:=f3 0 0x1
    obtain ⟨b,hb⟩:=som 0 0x1 h0
    rw [Nat.add_zero,he] at hb
    cases hb
   obtain ⟨m',rfl⟩:∃m',m=m'+1:=⟨m-1,0x1⟩
   refine wZ hz he fuel _ _ _ (vP mask 1 (i,q) hi) (tw hp) (fun k' hk'=>?_) ⟨m',0x1,hme⟩
   by_cases hlt:k'<n
   ·exact ho k' hlt
   ·have hmr:(run mask i q).more=SetTable.runEnd mask i-i:=rfl
    obtain ⟨b1,b2⟩:=at_ (k'-n) 0x1
    rw [show n+(k'-n)=k' by lia] at b1
    rw [b1]
    exact som _ b2 (f3 (k'-n) 0x1)
structure Own3 (mask:Nat) (hs:List Int) (owner:Array (Option Nat)) (js:List Nat):Prop where
 size:owner.size=mask+1
 len:js.length=hs.length
 iff:∀j k:Nat,owner[j]?=some (some k)↔js[k]?=some j
 way:∀(k j:Nat) (h:Int),js[k]?=some j->hs[k]?=some h->FL mask (fun j=>j∈js) h j
theorem Own3.none_ex {mask:Nat} {hs:List Int} {owner:Array (Option Nat)} {js:List Nat} (O:Own3 mask hs owner js) (hl:hs.length<=mask):∃e,e<=mask/\owner[e]?=some none:=by
 apply Classical.byContradiction
 intro hn
 have hsb:List.range (mask+1)⊆js:=fun e he=>by
  have h1:e<owner.size:=by rw [O.size]; exact List.mem_range.mp he
  cases hc:owner[e] with
  |none=>exact absurd ⟨e,by have:=List.mem_range.mp he; lia,by rw [Array.getElem?_eq_getElem h1,hc]⟩ hn
  |some k=>exact List.mem_of_getElem? ((O.iff e k).mp (by rw [Array.getElem?_eq_getElem h1,hc]))
 have:=List.Nodup.length_le_of_subset List.nodup_range hsb
 rw [List.length_range,O.len] at this
 lia
noncomputable def qJ (mask:Nat) (acc:Option (Array (Option Nat)×Nat)) (h:Int):Option (Array (Option Nat)×Nat):=do
 let (owner,k) <-acc
 let j <-SetTable.layClean.free mask owner (SetTable.turns mask) (SetTable.bits h % (mask+1)) (SetTable.bits h)
 pure (owner.setIfInBounds j (some k),k+1)
theorem B1 {mask:Nat} (hm:ye mask) {hs:List Int} {owner:Array (Option Nat)} {js:List Nat} (O:Own3 mask hs owner js) (hl:hs.length<=mask) (h:Int):∃owner' j,qJ mask (some (owner,hs.length)) h=some (owner',(hs++[h]).length)/\Own3 mask (hs++[h]) owner' (js++[j]):=by
 obtain ⟨e,he,hn⟩:=O.none_ex hl
 have hi:SetTable.bits h % (mask+1)<=mask:=by
  have:=Nat.mod_lt (SetTable.bits h) (show 0<mask+1 from Nat.succ_pos mask); lia
 obtain ⟨m,m1,m2⟩:=Fv hm hi (wR h) he
 obtain ⟨n',f1,f2,f3⟩:=wZ (h:=h) O.size hn (SetTable.turns mask) _ _ 0 hi rfl (fun k hk=>absurd hk (Nat.not_lt_zero _)) ⟨m,by unfold SetTable.turns; lia,m2⟩
 have hlt:(cZ mask h n').j<owner.size:=(Array.getElem?_eq_some_iff.mp f3).1
 have hnew:∀k,js[k]?≠some (cZ mask h n').j:=fun k hk=>by
  have:=(O.iff _ k).mpr hk
  rw [f3] at this
  cases this
 refine ⟨owner.setIfInBounds (cZ mask h n').j (some hs.length),(cZ mask h n').j,?_,⟨?_,by simp [O.len],fun j k=>?_,fun k j h' hk hh=>?_⟩⟩
 ·unfold qJ
  show (do let j <-SetTable.layClean.free mask owner (SetTable.turns mask) (SetTable.bits h % (mask+1)) (SetTable.bits h); pure (owner.setIfInBounds j (some hs.length),hs.length+1))=_
  rw [f1,List.length_append]
  rfl
 ·rw [Array.size_setIfInBounds]; exact O.size
 ·rw [Array.getElem?_setIfInBounds]
  by_cases hj:(cZ mask h n').j=j
  ·rw [if_pos hj,if_pos hlt]
   constructor
   ·intro hk
    have:hs.length=k:=by simpa using hk
    subst this
    rw [<-O.len,List.getElem?_append_right (IJ _),Nat.sub_self,<-hj]
    rfl
   ·intro hk
    by_cases hkl:k<js.length
    ·rw [List.getElem?_append_left hkl] at hk
     exact absurd (hj▸hk) (hnew k)
    ·have hk2:k=js.length:=by
      have:=(List.getElem?_eq_some_iff.mp hk).1
      simp at this
      lia
     rw [hk2,O.len]
  ·rw [if_neg hj,O.iff]
   by_cases hkl:k<js.length
   ·rw [List.getElem?_append_left hkl]
   ·rw [List.getElem?_eq_none 0x1,List.getElem?_append_right 0x1]
    constructor
    ·intro h0; cases h0
    ·intro h0
     have:(k-js.length)=0:=by
      have:=(List.getElem?_eq_some_iff.mp h0).1
      simp at this
      lia
     rw [this] at h0
     have h1:(cZ mask h n').j=j:=by simpa using h0
     exact absurd h1 hj
 ·by_cases hkl:k<js.length
  ·rw [List.getElem?_append_left hkl] at hk
   rw [List.getElem?_append_left (by rw [<-O.len]; exact hkl)] at hh
   exact (O.way k j h' hk hh).mono fun j hj=>II _ hj
  ·have hk2:k=js.length:=by
    have:=(List.getElem?_eq_some_iff.mp hk).1
    simp at this
    lia
   subst hk2
   rw [List.getElem?_append_right (IJ _),Nat.sub_self] at hk
   rw [O.len,List.getElem?_append_right (IJ _),Nat.sub_self] at hh
   have e1:(cZ mask h n').j=j:=by simpa using hk
   have e2:h=h':=by simpa using hh
   subst e1; subst e2
   refine ⟨n',rfl,fun k hk=>?_⟩
   obtain ⟨i,hi⟩:=f2 k hk
   exact II _ (List.mem_of_getElem? ((O.iff _ i).mp hi))
theorem wB {mask:Nat} (hm:ye mask):∀(more hs:List Int) (owner:Array (Option Nat)) (js:List Nat),Own3 mask hs owner js->hs.length+more.length<=mask+1->∃owner' js',more.foldl (qJ mask) (some (owner,hs.length))=some (owner',(hs++more).length)/\Own3 mask (hs++more) owner' js'
 |[],hs,owner,js,O,_=>⟨owner,js,by rw [List.append_nil]; rfl,by rw [List.append_nil]; exact O⟩
 |h::more,hs,owner,js,O,hl=>by
  rw [List.length_cons] at hl
  obtain ⟨o1,j,e1,O1⟩:=B1 hm O 0x1 h
  obtain ⟨o2,js2,e2,O2⟩:=wB hm more (hs++[h]) o1 _ O1 (by simp; lia)
  refine ⟨o2,js2,?_,by rw [List.append_assoc] at O2; exact O2⟩
  rw [List.foldl_cons,e1,e2,List.append_assoc]
  rfl
theorem tV {mask:Nat} (hm:ye mask) (hs:Array Int) (hl:hs.size<=mask+1):∃owner js,SetTable.layClean mask hs=some owner/\Own3 mask hs.toList owner js:=by
 have O0:Own3 mask [] (Array.replicate (mask+1) none) []:=⟨0x4,rfl,(fun j k=>by
  rw [Array.getElem?_replicate]
  constructor
  ·intro h; split at h <;> cases h
  ·intro h; cases h),(fun k j h hk=>by cases hk)⟩
 obtain ⟨owner,js,e,O⟩:=wB hm hs.toList [] _ _ O0 (by simpa using hl)
 rw [List.nil_append] at e O
 refine ⟨owner,js,?_,O⟩
 unfold SetTable.layClean
 rw [<-Array.foldl_toList]
 show Option.map (·.1) (hs.toList.foldl (qJ mask) (some (Array.replicate (mask+1) none,0)))=_
 rw [show (0:Nat)=([]:List Int).length from rfl,e]
 rfl
theorem B8 {mask:Nat} (hm:ye mask) (f mv:Nat) (led pl:Bool) (es:Array (Int×Value)) (hl:es.size<=mask) :
  ∃t order L,SetTable.laid mask f mv led pl (es.map (·.1))=some (t,order)/\t.mask=mask/\t.led=led/\t.plain=pl/\Tab t L/\(order.filterMap (es[·]?)).toList=L.map (·.2)/\(L.map (·.2)).Perm es.toList:=by
 obtain ⟨owner,js,e,O⟩:=tV hm (es.map (·.1)) (by simp; lia)
 have jl:js.length=es.size:=by rw [O.len]; simp
 have live_mem:∀j k,(j,k)∈((List.range (mask+1)).filterMap fun j=>(owner.getD j none).map (j,·))↔js[k]?=some j:=fun j k=>by
  rw [List.mem_filterMap,<-O.iff]
  constructor
  ·rintro ⟨j',hj',h⟩
   obtain ⟨k',hk',h2⟩:=Option.map_eq_some_iff.mp h
   cases h2
   have hb:j<owner.size:=by rw [O.size]; exact List.mem_range.mp hj'
   rw [Array.getD_eq_getD_getElem?,Array.getElem?_eq_getElem hb] at hk'
   rw [Array.getElem?_eq_getElem hb]
   exact congrArg some hk'
  ·intro h
   have hb:=(Array.getElem?_eq_some_iff.mp h).1
   refine ⟨j,List.mem_range.mpr (by rw [<-O.size]; exact hb),?_⟩
   rw [Array.getD_eq_getD_getElem?,h]
   rfl
 have live_ris:((List.range (mask+1)).filterMap fun j=>(owner.getD j none).map (j,·)).Pairwise fun a b=>a.1<b.1:=by
  refine List.pairwise_filterMap.mpr (List.pairwise_lt_range.imp fun {a b} hab x hx y hy=>?_)
  obtain ⟨_,_,rfl⟩:=Option.map_eq_some_iff.mp hx
  obtain ⟨_,_,rfl⟩:=Option.map_eq_some_iff.mp hy
  exact hab
 generalize hlive:((List.range (mask+1)).filterMap fun j=>(owner.getD j none).map (j,·))=live at live_mem live_ris
 have kin:∀p∈live,∃x,es[p.2]?=some x:=fun p hp=>by
  have:=(List.getElem?_eq_some_iff.mp ((live_mem p.1 p.2).mp hp)).1
  exact ⟨_,Array.getElem?_eq_getElem 0x1⟩
 have ord:(live.map (·.2)).Perm (List.range es.size):=by
  refine (List.perm_ext_iff_of_nodup ?_ List.nodup_range).mpr fun k=>?_
  ·unfold List.Nodup
   rw [List.pairwise_map]
   refine List.Pairwise.imp_of_mem (fun {a b} ha hb hab e=>?_) live_ris
   have h1:=(live_mem a.1 a.2).mp ha
   have h2:=(live_mem b.1 b.2).mp hb
   rw [e,h2] at h1
   have:=Option.some.inj h1
   lia
  ·rw [List.mem_range]
   constructor
   ·intro h
    obtain ⟨p,hp,rfl⟩:=List.mem_map.mp h
    have:=(List.getElem?_eq_some_iff.mp ((live_mem p.1 p.2).mp hp)).1
    lia
   ·intro h
    exact List.mem_map.mpr ⟨(js[k]'0x1,k),(live_mem _ k).mpr (List.getElem?_eq_getElem _),rfl⟩
 have hLm:∀(P:List (Nat×Nat)),(∀p∈P,∃x,es[p.2]?=some x)->(P.filterMap fun p=>(es[p.2]?).map fun x=>((p.1,x):El)).map (·.1)=P.map (·.1)/\(P.filterMap fun p=>(es[p.2]?).map fun x=>((p.1,x):El)).map (·.2)=(P.map (·.2)).filterMap (es[·]?):=fun P=>by
  induction P with
  |nil=>intro _; exact ⟨rfl,rfl⟩
  |cons p P ih=>
   intro h
   obtain ⟨i1,i2⟩:=ih fun q hq=>h q (IE _ hq)
   obtain ⟨x,hx⟩:=h p IF
   simp only [List.filterMap_cons,List.map_cons,hx,Option.map_some]
   exact ⟨by rw [i1],by rw [i2]⟩
 obtain ⟨m1,m2⟩:=hLm live kin
 have pm:(live.map (·.2)).filterMap (es[·]?) |>.Perm es.toList:=by
  have:=ord.filterMap (es[·]?)
  rw [filterMap_getElem?_range] at this
  exact this
 have memL:∀x∈(live.filterMap fun p=>(es[p.2]?).map fun x=>((p.1,x):El)),∃k,js[k]?=some x.1/\es[k]?=some x.2:=fun x hx=>by
  obtain ⟨p,hp,h⟩:=List.mem_filterMap.mp hx
  obtain ⟨y,hy,rfl⟩:=Option.map_eq_some_iff.mp h
  exact ⟨p.2,(live_mem p.1 p.2).mp hp,hy⟩
 refine ⟨{ mask:=mask,place:=(live.map (·.1)).toArray,dummies:=#[],finger:=f,led:=led,moves:=mv,plain:=pl },(live.map (·.2)).toArray,live.filterMap fun p=>(es[p.2]?).map fun x=>((p.1,x):El),?_,rfl,rfl,rfl,⟨hm,rfl,?_,?_,fun x hx=>?_,?_,fun x hx=>?_⟩,?_,by rw [m2]; exact pm⟩
 ·unfold SetTable.laid
  rw [e]
  show some _=some _
  rw [hlive]
 ·show (live.map (·.1)).toArray.toList=_
  rw [m1]
 ·have:((live.filterMap fun p=>(es[p.2]?).map fun x=>((p.1,x):El)).map (·.1)).Pairwise (·<·):=by
   rw [m1,List.pairwise_map]; exact live_ris
  rw [List.pairwise_map] at this
  exact this
 ·obtain ⟨k,hk,_⟩:=memL x hx
  have:=(O.iff x.1 k).mpr hk
  have:=(Array.getElem?_eq_some_iff.mp this).1
  rw [O.size] at this
  show x.1<=mask
  lia
 ·have:=congrArg List.length m2
  rw [List.length_map] at this
  rw [this,pm.length_eq]
  simpa using hl
 ·obtain ⟨k,hk,hk2⟩:=memL x hx
  refine (O.way k x.1 x.2.1 hk ?_).mono fun j hj=>?_
  ·rw [Array.getElem?_toList,Array.getElem?_map,hk2]; rfl
  ·obtain ⟨k',hk'⟩:=List.mem_iff_getElem?.mp hj
   have hp:=(live_mem j k').mpr hk'
   obtain ⟨y,hy⟩:=kin _ hp
   exact ⟨(j,y),List.mem_filterMap.mpr ⟨(j,k'),hp,by rw [hy]; rfl⟩,rfl⟩
 ·rw [m2]
  simp
section
variable {prog:Program} {w:World} {A:Around} {E:Value->Shared->Prop} {s:Shared}
noncomputable def cz (es:Array (Int×Value)) (ep:Nat) (t:SetTable):Obj:={ cls:=.type "set",dict:=none,data:=.set es ep t,slots:=#[] }
noncomputable abbrev sA (prog:Program) (w:World) (h:Heap) (k:List Int) (b:Addr):Prop:=IsTupleKey (intKind prog w) h k b
noncomputable abbrev hK (prog:Program) (w:World) (k:List Int):Int:=tupleKeyHash (intKind prog w) k
structure TSet (prog:Program) (w:World) (key:Value->List Int) (h:Heap) (a:Addr) (L:List El) (es:Array (Int×Value)) (ep:Nat) (t:SetTable):Prop where
 get:h.get? a=some (cz es ep t)
 els:es.toList=L.map (·.2)
 tab:Tab t L
 few:L.length*5<t.mask*3
 led:t.led=!w.params.followText "set-order"
 plain:t.plain=true
noncomputable def BE (prog:Program) (w:World) (key:Value->List Int) (h:Heap) (L:List El):Prop:=∀e∈L,∃b,e.2.2=.ref b/\sA prog w h (key e.2.2) b/\e.2.1=hK prog w (key e.2.2)
theorem AI {L:List El} {es:Array (Int×Value)} (h:es.toList=L.map (·.2)) {i:Nat} {e:El} (he:L[i]?=some e):es[i]?=some e.2:=by
 rw [<-Array.getElem?_toList,h,List.getElem?_map,he]; rfl
noncomputable def Gz (es:Array (Int×Value)) (i:Nat):Int:=(es[i]?.map fun (p:Int×Value)=>p.1).getD 0
theorem fO {L:List El} {es:Array (Int×Value)} (h:es.toList=L.map (·.2)):es.size=L.length:=by rw [<-Array.length_toList,h,List.length_map]
theorem iY {a:Addr} {es:Array (Int×Value)} {ep:Nat} {t:SetTable} {L:List El} {Q:(Array (Int×Value)×Nat×SetTable)->Shared->Prop} (hg:s.heap.get? a=some (cz es ep t)) (he:es.toList=L.map (·.2)) (T:Tab t L) (h:Q (es,ep,t) s) :
  wpAny (model prog w) A (setState a) Q E s:=wpAny_setState_of hg rfl (by rw [fO he]; exact T.fits) h
theorem qm {k:List Int} {b:Addr} {Q:Bool->Shared->Prop} (hk:sA prog w s.heap k b) (h:Q false s):wpAny (model prog w) A (ofAClassStatement 8 (.ref b)) Q E s:=by
 have hT:=hk.typeIs
 obtain ⟨o,items,n,ho,_,hd,hi⟩:=hk
 unfold ofAClassStatement
 refine IK (wpAny_typeOf hT ?_)
 dsimp only
 rw [if_pos (show ("tuple" == "tuple")=true by decide)]
 refine IK (IL ?_)
 simp only [Bool.not_true,Bool.false_eq_true,if_false]
 refine IK (wpAny_seqItems ho hd ?_)
 dsimp only
 refine IK ?_
 rw [<-Array.forIn_toList]
 refine wpAny_forIn_list _ (fun bN r s'=>r.1=none/\s'=s/\∀v∈bN,carriedByValue v=true) _ ?_ ?_ _ _ ⟨rfl,rfl,hi.byValue⟩
 ·rintro v bN r s' ⟨hr,rfl,hall⟩
  have hv:=hall v IF
  have e:ofAClassStatement 7 v=pure false:=by
   cases v with
   |ref a=>simp [carriedByValue] at hv
   |_=>rfl
  rw [e]
  refine IK (IL ?_)
  simp only [Bool.false_eq_true,if_false]
  exact IL ⟨rfl,rfl,fun u hu'=>hall u (IE _ hu')⟩
 ·rintro ⟨r1,r2⟩ s' ⟨hr,rfl,_⟩
  simp only at hr
  subst hr
  exact IL h
theorem Ff {k:List Int} {b:Addr} {ys:List Value} {Q:Bool->Shared->Prop} (hk:sA prog w s.heap k b) (hy:∀y∈ys,∃c k',y=.ref c/\sA prog w s.heap k' c) (h:Q false s):wpAny (model prog w) A (searchCouldBeSeen (.ref b) ys) Q E s:=by
 unfold searchCouldBeSeen
 refine IK ?_
 refine wpAny_forIn_list _ (fun bN r s'=>r.1=none/\s'=s/\∀y∈bN,∃c k',y=.ref c/\sA prog w s.heap k' c) _ ?_ ?_ _ _ ⟨rfl,rfl,hy⟩
 ·rintro v bN r s' ⟨hr,rfl,hall⟩
  obtain ⟨c,k',rfl,hc⟩:=hall v IF
  dsimp only
  by_cases hbc:((b==c)||(carriedByValue (Value.ref b)&&carriedByValue (Value.ref c)))=true
  ·rw [if_pos hbc]
   exact IL ⟨rfl,rfl,fun u hu'=>hall u (IE _ hu')⟩
  ·rw [if_neg hbc]
   refine IK (wpAny_eqIsQuiet_tuple hk ?_)
   simp only [Bool.not_true,Bool.false_eq_true,if_false]
   refine IK (wpAny_eqIsQuiet_tuple hc ?_)
   simp only [Bool.not_true,Bool.false_eq_true,if_false]
   refine IK (qm hk ?_)
   simp only [Bool.false_eq_true,if_false]
   refine IK (qm hc ?_)
   simp only [Bool.false_eq_true,if_false]
   exact IL ⟨rfl,rfl,fun u hu'=>hall u (IE _ hu')⟩
 ·rintro ⟨r1,r2⟩ s' ⟨hr,rfl,_⟩
  simp only at hr
  subst hr
  exact IL h
theorem zL {key:Value->List Int} {a:Addr} {L:List El} {es:Array (Int×Value)} {ep:Nat} {t:SetTable} {xb:Addr} (S:TSet prog w key s.heap a L es ep t) (hL:BE prog w key s.heap L) (hu:A.units<cLine) (hx:sA prog w s.heap (key (.ref xb)) xb)
  {N:Nat} (hB:N<10*SetTable.turns t.mask) (hN:¬xt L (cZ t.mask (hK prog w (key (.ref xb))) N).j) (ho:∀k,k<N->xt L (cZ t.mask (hK prog w (key (.ref xb))) k).j)
  {Q:SetFound->Shared->Prop} (q1:(∃e∈L,key e.2.2=key (.ref xb))->Q (.there none) s) (q2:(∀e∈L,key e.2.2≠key (.ref xb))->Q (.free (cZ t.mask (hK prog w (key (.ref xb))) N).j false) s) :
  ∀(fuel n:Nat) (stand:Option SetTable.Probe),n<=N->N-n<fuel->stand.getD (t.probeStart (hK prog w (key (.ref xb))))=cZ t.mask (hK prog w (key (.ref xb))) n->(∀k,k<n->∀e∈L,e.1=(cZ t.mask (hK prog w (key (.ref xb))) k).j->key e.2.2≠key (.ref xb)) ->
   wpAny (model prog w) A (setSearchFrom a (.ref xb) (hK prog w (key (.ref xb))) true fuel stand) Q E s
 |0,n,stand,h1,h2,h3,h4=>by lia
 |fuel+1,n,stand,h1,h2,h3,h4=>by
  unfold setSearchFrom
  refine IK (iY S.get S.els S.tab ?_)
  dsimp only
  have hgw:t.gaveWay=false:=by
   unfold SetTable.gaveWay
   rcases S.tab.msk with e|e|e <;> rw [e] <;> rfl
  rw [hgw]
  simp only [Bool.false_eq_true,if_false]
  rw [h3]
  have hha:∀(i:Nat) (e:El),L[i]?=some e->Gz es i=e.2.1:=fun i e he=>by
   unfold Gz
   rw [AI S.els he]; rfl
  obtain ⟨m,m1,m2,m3,m4⟩:=S.tab.probe hN ho (Gz es) hha (10*SetTable.turns t.mask) n h1 0x1
  have hdiff:∀k,k<m->∀e∈L,e.1=(cZ t.mask (hK prog w (key (.ref xb))) k).j->key e.2.2≠key (.ref xb):=fun k hk e he hj hc=>by
   by_cases hkn:k<n
   ·exact h4 k hkn e he hj hc
   ·obtain ⟨b,_,_,hh⟩:=hL e he
    exact m3 k 0x1 hk e he hj (by rw [hh,hc])
  rcases m4 with ⟨rfl,hp⟩|⟨hm,i,e,hi,hj,hh,hp⟩
  ·have hp':t.probe (Gz es) (hK prog w (key (.ref xb))) (cZ t.mask (hK prog w (key (.ref xb))) n)=some (.empty (cZ t.mask (hK prog w (key (.ref xb))) m).j none):=hp
   split
   rotate_left
   ·rename_i hno
    exact absurd hp' (hno _)
   rename_i met heq
   have hmet:=heq.symm.trans hp'
   cases hmet
   dsimp only
   refine IL (q2 fun e he hc=>?_)
   obtain ⟨b,_,_,hh⟩:=hL e he
   obtain ⟨n0,a1,a2⟩:=S.tab.way e he
   rw [hh,hc] at a1 a2
   have hlt:n0<m:=by
    apply Classical.byContradiction
    intro hge
    have h5:m<=n0:=by lia
    rcases Nat.lt_or_eq_of_le h5 with h6|h6
    ·exact hN (a2 m h6)
    ·subst h6; exact hN ⟨e,he,a1.symm⟩
   exact hdiff n0 hlt e he a1.symm hc
  ·have hp':t.probe (Gz es) (hK prog w (key (.ref xb))) (cZ t.mask (hK prog w (key (.ref xb))) n)=some (.candidate (cZ t.mask (hK prog w (key (.ref xb))) m).j i (cZ t.mask (hK prog w (key (.ref xb))) (m+1))):=hp
   split
   rotate_left
   ·rename_i hno
    exact absurd hp' (hno _)
   rename_i met heq
   have hmet:=heq.symm.trans hp'
   cases hmet
   dsimp only
   have hem:e∈L:=List.mem_of_getElem? hi
   obtain ⟨c,hc,hck,_⟩:=hL e hem
   have behind:wpAny (model prog w) A (do
     let some (_,y):=es[i]?|unsupported "internal:set-entry"
     let equal <-holding [y] (eqBool y (.ref xb))
     let (es',_,t') <-setState a
     if true&&equal then return .there none
     let some same:=t'.sameMemory t.moves t.mask|unsupported "set.changed-during-lookup:is-the-new-block-at-the-old-address"
     let still <-match (if same then t'.slot (cZ t.mask (hK prog w (key (.ref xb))) m).j else .empty) with
      |.live i'=>match es'[i']? with
       |some (_,y')=>do pure (if <-isSame y' y then some i' else none)
       |none=>pure none
      |_=>pure none
     match still with
     |none=>rule "set.search.anew"; setSearchFrom a (.ref xb) (hK prog w (key (.ref xb))) true fuel none
     |some i'=>if equal then return .there (some i') else setSearchFrom a (.ref xb) (hK prog w (key (.ref xb))) true fuel (some (cZ t.mask (hK prog w (key (.ref xb))) (m+1)))) Q E s:=by
    rw [AI S.els hi]
    dsimp only
    rw [hc] at hck ⊢
    refine IK (wpAny_holding (wpAny_eqBool_tuple hu hck hx ?_))
    refine IK (iY S.get S.els S.tab ?_)
    dsimp only
    by_cases hk:key (.ref c)=key (.ref xb)
    ·rw [decide_eq_true hk]
     simp only [Bool.and_self,if_true]
     exact IL (q1 ⟨e,hem,by rw [hc]; exact hk⟩)
    ·rw [decide_eq_false hk]
     simp only [Bool.and_false,Bool.false_eq_true,if_false]
     have hsm:t.sameMemory t.moves t.mask=some true:=by unfold SetTable.sameMemory; rw [if_pos (beq_self_eq_true _)]
     rw [hsm]
     dsimp only
     rw [if_pos rfl,<-hj,S.tab.live hi]
     dsimp only
     rw [AI S.els hi]
     dsimp only
     rw [hc]
     refine IK (wpAny_isSame_ref_self (IK (IL ?_)))
     rw [if_pos rfl]
     dsimp only
     refine zL S hL hu hx hB hN ho q1 q2 fuel (m+1) _ 0x1 0x1 rfl fun k' hk' e' he' hj' hc'=>?_
     by_cases hkm:k'=m
     ·subst hkm
      obtain ⟨i',hi'⟩:=List.mem_iff_getElem?.mp he'
      have h5:=S.tab.live hi'
      rw [hj',<-hj,S.tab.live hi] at h5
      cases h5
      rw [hi] at hi'
      cases hi'
      rw [hc] at hc'
      exact hk hc'
     ·exact hdiff k' 0x1 e' he' hj' hc'
   cases hl:t.led with
   |true=>
    simp only [Bool.not_true,Bool.false_eq_true,if_false]
    exact behind
   |false=>
    simp only [Bool.not_false,if_true]
    refine IK (Ff hx (fun y hy=>?_) ?_)
    ·obtain ⟨p,hp1,rfl⟩:=List.mem_map.mp hy
     have hp2:p∈es.toList:=by
      have:=Array.mem_toList_iff.mp hp1
      exact Array.mem_toList_iff.mpr (Array.mem_filter.mp this).1
     rw [S.els] at hp2
     obtain ⟨e',he',rfl⟩:=List.mem_map.mp hp2
     obtain ⟨c',hc',hck',_⟩:=hL e' he'
     exact ⟨c',_,hc',hck'⟩
    ·simp only [Bool.false_eq_true,if_false]
     exact behind
end
section
variable {prog:Program} {w:World} {A:Around} {E:Value->Shared->Prop} {s:Shared}
theorem Ci {k:List Int} {b:Addr} {Q:Bool->Shared->Prop} (hk:sA prog w s.heap k b) (h:Q true s):wpAny (model prog w) A (hashByValue 8 (.ref b)) Q E s:=by
 have hT:=hk.typeIs
 obtain ⟨o,items,n,ho,_,hd,hi⟩:=hk
 unfold hashByValue
 refine IK (wpAny_specialOf hT F.slot_tuple_hash.lookup ?_)
 refine IK (wpAny_seqItems ho hd ?_)
 refine IK ?_
 rw [Option.getD_some,<-Array.forIn_toList]
 refine wpAny_forIn_list _ (fun bN r s'=>r.1=none/\s'=s/\∃ks,ItemsAre (intKind prog w) ks bN) _ ?_ ?_ _ _ ⟨rfl,rfl,k,hi⟩
 ·rintro v bN r s' ⟨hr,rfl,ks,hall⟩
  cases hall with
  |@cons k1 _ ks' _ h1 hl'=>
   have e:hashByValue 7 v=pure true:=by
    cases v with
    |int i t=>rfl
    |bool b=>rfl
    |_=>first|rfl|(exact absurd (show false=true from h1) 0x3)
   rw [e]
   refine IK (IL ?_)
   simp only [Bool.not_true,Bool.false_eq_true,if_false]
   exact IL ⟨rfl,rfl,ks',hl'⟩
 ·rintro ⟨r1,r2⟩ s' ⟨hr,rfl,_⟩
  simp only at hr
  subst hr
  exact IL h
theorem wz {a:Addr} {es es':Array (Int×Value)} {ep:Nat} {t t':SetTable} {h:Heap} (hg:h.get? a=some (cz es ep t)):(h.update a (Obj.putSet es' t')).get? a=some (cz es' (ep+1) t'):=by
 have:=Heap.get?_update_self (Obj.putSet es' t') hg rfl
 rw [this]
 rfl
theorem Gd {key:Value->List Int} {a:Addr} {L:List El} {es:Array (Int×Value)} {ep:Nat} {t:SetTable} {n nm:Nat} (hg:s.heap.get? a=some (cz es ep t)) (hes:es.toList=L.map (·.2)) (T:Tab t L) (hled:t.led=!w.params.followText "set-order") (hpl:t.plain=true)
  (hn:SetTable.sizeAbove n-1=nm) (hz:SetTable.sizeAbove n<=sizeLine) (hm:ye nm) (hfew:L.length*5<nm*3) {Q:Unit->Shared->Prop}
  (q:∀h' L' es' ep' t',TSet prog w key h' a L' es' ep' t'->Heap.SameBut a s.heap h'->(L'.map (·.2)).Perm (L.map (·.2))->Q () { s with heap:=h' }):wpAny (model prog w) A (setRelay a n) Q E s:=by
 have hsz:es.size=L.length:=fO hes
 obtain ⟨t',order,L',e,e1,e2,e3,T',hL',hp⟩:=B8 hm t.finger (t.movedTo nm) t.led t.plain es 0x1
 have hre:t.relaid (es.map (·.1)) n=some (t',order):=by
  unfold SetTable.relaid
  rw [hn]
  exact e
 have hs':(order.filterMap (es[·]?)).size=es.size:=by
  rw [<-Array.length_toList,hL',hp.length_eq,Array.length_toList]
 unfold setRelay
 refine IK (iY hg hes T ?_)
 dsimp only
 rw [if_neg (Nat.not_lt.mpr hz),hre]
 refine IK (wpAny_of_eq (a:=(order.filterMap (es[·]?),t')) ?_ ?_)
 ·show (if ((order.filterMap (es[·]?)).size != es.size)=true then _ else _)=_
  rw [if_neg (by rw [hs']; simp)]
 ·dsimp only
  refine wpAny_storeSet_of hg rfl (q _ L' _ _ t' ⟨wz hg,hL',T',?_,by rw [e2,hled],by rw [e3,hpl]⟩ (Heap.SameBut.update ..) (by rw [hes] at hp; exact hp)) ?_
  ·have:L'.length=L.length:=by
    have h5:=hp.length_eq
    rw [List.length_map] at h5
    have h6:es.toList.length=es.size:=Array.length_toList
    lia
   rw [this,e1]
   exact hfew
  ·rw [hs',hsz,sizeLine_eq]
   rcases hm with rfl|rfl|rfl <;> lia
theorem Fm {key:Value->List Int} {a:Addr} {L:List El} {es:Array (Int×Value)} {ep:Nat} {t:SetTable} {xb:Addr} (S:TSet prog w key s.heap a L es ep t) (hL:BE prog w key s.heap L) (hu:A.units<cLine) (hx:sA prog w s.heap (key (.ref xb)) xb) (hlen:L.length<76)
  {Q:Bool->Shared->Prop} (q1:(∃e∈L,key e.2.2=key (.ref xb))->Q false s)
  (q2:(∀e∈L,key e.2.2≠key (.ref xb))->∀h' L' es' ep' t',TSet prog w key h' a L' es' ep' t'->Heap.SameBut a s.heap h'->(L'.map (·.2)).Perm ((hK prog w (key (.ref xb)),.ref xb)::L.map (·.2))->Q true { s with heap:=h' }) :
  wpAny (model prog w) A (setAddHashed a (.ref xb) (hK prog w (key (.ref xb)))) Q E s:=by
 obtain ⟨N,hB,hN,ho⟩:=S.tab.end (hK prog w (key (.ref xb)))
 have hm7:7<=t.mask:=by rcases S.tab.msk with e|e|e <;> lia
 have hfew:=S.few
 unfold setAddHashed
 refine wpAny_holding ?_
 unfold setAddHashedIn
 refine IK (iY S.get S.els S.tab ?_)
 dsimp only
 rw [show byScan (.ref xb) es=false from rfl]
 simp only [Bool.false_eq_true,if_false]
 unfold setSearch
 refine IK (zL S hL hu hx hB hN ho (fun hin=>?_) (fun hno=>?_) 100000 0 none (Nat.zero_le _) ?_ rfl fun k hk=>absurd hk (Nat.not_lt_zero _))
 ·exact IL (q1 hin)
 ·dsimp only
  refine IK (iY S.get S.els S.tab ?_)
  dsimp only
  have Tp:=S.tab.put (x:=.ref xb) 0x1 hN (by have:=y2 t.mask (hK prog w (key (.ref xb))) N; lia) ho
  have hmk:(t.put (cZ t.mask (hK prog w (key (.ref xb))) N).j).1.mask=t.mask:=rfl
  have hpl:(t.put (cZ t.mask (hK prog w (key (.ref xb))) N).j).1.plain=true:=S.plain
  have hld:(t.put (cZ t.mask (hK prog w (key (.ref xb))) N).j).1.led=!w.params.followText "set-order" :=S.led
  generalize hpt:t.put (cZ t.mask (hK prog w (key (.ref xb))) N).j=pt at Tp hmk hpl hld
  obtain ⟨t1,p⟩:=pt
  dsimp only at Tp hmk hpl hld ⊢
  rw [hpl]
  simp only [if_true]
  refine IK (Ci hx ?_)
  simp only [if_true]
  have hes1:(SetTable.insertAt es p (hK prog w (key (.ref xb)),Value.ref xb)).toList=(mG L p ((cZ t.mask (hK prog w (key (.ref xb))) N).j,hK prog w (key (.ref xb)),.ref xb)).map (·.2):=by
   rw [nV,S.els]
   unfold mG
   simp [List.map_take,List.map_drop]
  have hsz1:(SetTable.insertAt es p (hK prog w (key (.ref xb)),Value.ref xb)).size=L.length+1:=by rw [fO hes1,iX]
  have hpm:((mG L p ((cZ t.mask (hK prog w (key (.ref xb))) N).j,hK prog w (key (.ref xb)),Value.ref xb)).map (·.2)).Perm ((hK prog w (key (.ref xb)),.ref xb)::L.map (·.2)):=(qa L p _).map _
  refine IK (wpAny_storeSet_of S.get rfl ?_ (by rw [hsz1,sizeLine_eq]; lia))
  have hfl:t1.fill=L.length+1:=by
   unfold SetTable.fill
   rw [Tp.size,Tp.dum,iX]
   rfl
  have hg1:=wz (es':=SetTable.insertAt es p (hK prog w (key (.ref xb)),Value.ref xb)) (t':=t1) S.get
  by_cases hf:t1.tooFull=true
  ·have hf':=hf
   unfold SetTable.tooFull at hf'
   rw [hfl,hmk] at hf'
   have hf'':=of_decide_eq_true hf'
   rw [hf]
   simp only [Bool.not_false,Bool.and_self,if_true]
   have hes:es.size=L.length:=fO S.els
   have fin:∀nm:Nat,SetTable.sizeAbove (SetTable.grown (L.length+1))-1=nm->SetTable.sizeAbove (SetTable.grown (L.length+1))<=sizeLine->ye nm->(L.length+1)*5<nm*3->wpAny (model prog w) A (do setRelay a (SetTable.grown (es.size+1)); pure true) Q E { s with heap:=s.heap.update a (Obj.putSet (SetTable.insertAt es p (hK prog w (key (.ref xb)),Value.ref xb)) t1) }:=fun nm h1 h2 h3 h4=>by
    rw [hes]
    refine IK (Gd (key:=key) hg1 hes1 Tp hld hpl h1 h2 h3 (by rw [iX]; exact h4) fun h' L' es' ep' t' S' sb pm=>IL ?_)
    exact q2 hno h' L' es' ep' t' S' ((Heap.SameBut.update ..).trans sb) (pm.trans hpm)
   rcases S.tab.msk with e|e|e
   ·have hl:L.length=4:=by lia
    exact fin 31 (by rw [hl]; decide +kernel) (by rw [hl,sizeLine_eq]; decide +kernel) (.inr (.inl rfl)) 0x1
   ·have hl:L.length=18:=by lia
    exact fin 127 (by rw [hl]; decide +kernel) (by rw [hl,sizeLine_eq]; decide +kernel) (.inr (.inr rfl)) 0x1
   ·lia
  ·have hf2:t1.tooFull=false:=by simpa using hf
   rw [hf2]
   simp only [Bool.and_false,Bool.false_eq_true,if_false]
   refine IL (q2 hno _ _ _ _ t1 ⟨hg1,hes1,Tp,?_,hld,hpl⟩ (Heap.SameBut.update ..) hpm)
   unfold SetTable.tooFull at hf2
   rw [hfl,hmk] at hf2
   have:=of_decide_eq_false hf2
   rw [iX,hmk]
   lia
 ·have:SetTable.turns t.mask<=142:=by unfold SetTable.turns; rcases S.tab.msk with e|e|e <;> lia
  lia
end
theorem sA.keep {prog:Program} {w:World} {h h':Heap} {k:List Int} {b:Addr} (x:sA prog w h k b) (hk:∀o,h.get? b=some o->h'.get? b=some o):sA prog w h' k b:=let ⟨o,its,n,ho,r⟩:=x; ⟨o,its,n,hk o ho,r⟩
structure Few (key:Value->List Int) (L:List El) (vs:List Value):Prop where
 nd:(L.map fun e=>key e.2.2).Nodup
 sub:∀e∈L,e.2.2∈vs
 all:∀v∈vs,∃e∈L,key e.2.2=key v
noncomputable def AllK (prog:Program) (w:World) (key:Value->List Int) (h:Heap) (no:List Addr) (vs:List Value):Prop:=∀v∈vs,∃b,v=.ref b/\b∉no/\sA prog w h (key v) b
theorem AllK.keep {prog:Program} {w:World} {key:Value->List Int} {h h':Heap} {no:List Addr} {vs:List Value} (x:AllK prog w key h no vs) (hk:∀b o,b∉no->h.get? b=some o->h'.get? b=some o):AllK prog w key h' no vs:=fun v hv=>let ⟨b,e,hb,k⟩:=x v hv; ⟨b,e,hb,k.keep fun o ho=>hk b o hb ho⟩
theorem Few.keys {prog:Program} {w:World} {key:Value->List Int} {h:Heap} {no:List Addr} {L:List El} {vs us:List Value} (F:Few key L vs) (hs:∀v∈vs,v∈us) (hh:∀e∈L,e.2.1=hK prog w (key e.2.2)) (K:AllK prog w key h no us):BE prog w key h L:=fun e he=>let ⟨b,e1,_,k⟩:=K _ (hs _ (F.sub e he)); ⟨b,e1,k,hh e he⟩
noncomputable def Ij (prog:Program) (w:World) (key:Value->List Int) (L:List El):Prop:=∀e∈L,e.2.1=hK prog w (key e.2.2)
section
variable {prog:Program} {w:World} {A:Around} {R:Result->Shared->Prop} {I:Addr} {fp wr:List Addr} {G:Array GenState->Array GenState->Prop} {items:Array Value} {St:Nat->Shared->Prop}
theorem yP (W:WalksS prog w A.in1 I fp wr G items.size (fun i v=>items[i]?=some v) St) (S:Addr) (hSf:S∉fp) (key:Value->List Int) (hz:items.size<=76) (hu:A.units+8<cLine) :
  ∀(d i:Nat) (s:Shared) (L:List El) (es:Array (Int×Value)) (ep:Nat) (t:SetTable),items.size-i=d->i<=items.size->St i s->TSet prog w key s.heap S L es ep t->Few key L (items.toList.take i)->Ij prog w key L->AllK prog w key s.heap (S::wr) items.toList ->
   (∀s' L' es' ep' t',Moved (S::wr) G s s'->TSet prog w key s'.heap S L' es' ep' t'->Few key L' items.toList->Ij prog w key L'->R (.ok (.ret .none)) s') ->
   codeAny (model prog w) A (.builtin "set.update.loop" ⟨[.ref S,.ref I],[]⟩) R s:=by
 have hSw:S∉wr:=fun h=>hSf (W.sub _ h)
 have hsub:∀b∈wr,b∈S::wr:=fun b hb=>IE _ hb
 intro d
 induction d with
 |zero=>
  intro i s L es ep t hk hi hst TS FW HS KK hR
  have hin:i=items.size:=by lia
  subst hin
  refine codeAny_builtin F.entry_set_update_loop ?_
  rw [Around.under_plainId F.plain_set_update_loop _]
  show wpAny _ A.in1 (pyNext (.ref I) >>= _) _ _ s
  refine IK (W.done s _ _ hst fun s' hm=>?_)
  show wpAny _ A.in1 (ret Value.none) _ _ s'
  have htk:items.toList.take items.size=items.toList:=List.take_of_length_le 0x4
  rw [htk] at FW
  exact IL (hR s' L es ep t (hm.mono hsub) ⟨hm.heap S _ hSw TS.get,TS.els,TS.tab,TS.few,TS.led,TS.plain⟩ FW HS)
 |succ d ih=>
  intro i s L es ep t hk hi hst TS FW HS KK hR
  have hlt:i<items.size:=by lia
  refine codeAny_builtin F.entry_set_update_loop ?_
  rw [Around.under_plainId F.plain_set_update_loop _]
  show wpAny _ A.in1 (pyNext (.ref I) >>= _) _ _ s
  refine IK (W.item i s _ _ hlt hst fun v s' hP hst' hm=>?_)
  have KK':AllK prog w key s'.heap (S::wr) items.toList:=KK.keep fun b o hb e=>(hm.mono hsub).heap b o hb e
  have hvm:v∈items.toList:=by
   rw [<-Array.getElem?_toList] at hP
   exact List.mem_of_getElem? hP
  obtain ⟨xb,rfl,hxn,hxk⟩:=KK' v hvm
  have TS':TSet prog w key s'.heap S L es ep t:=⟨hm.heap S _ hSw TS.get,TS.els,TS.tab,TS.few,TS.led,TS.plain⟩
  have hts:∀v∈items.toList.take i,v∈items.toList:=fun v hv=>List.mem_of_mem_take hv
  have hLk:BE prog w key s'.heap L:=FW.keys hts HS KK'
  have hll:L.length<76:=by
   have h1:(L.map fun e=>key e.2.2).length<=((items.toList.take i).map key).length:=List.Nodup.length_le_of_subset FW.nd fun k hk'=>by
    obtain ⟨e,he,rfl⟩:=List.mem_map.mp hk'
    exact List.mem_map_of_mem (FW.sub e he)
   rw [List.length_map,List.length_map,List.length_take] at h1
   lia
  have htk1:items.toList.take (i+1)=items.toList.take i++[Value.ref xb]:=by
   rw [List.take_succ,Array.getElem?_toList,hP]; rfl
  show wpAny _ A.in1 (holding [Value.ref xb] (setAdd S (.ref xb)) >>= _) _ _ s'
  refine IK (wpAny_holding ?_)
  unfold setAdd
  refine wpAny_holding ?_
  refine IK (wpAny_pyHash_tuple (knd:=intKind prog w) (by show A.units+1<cLine; lia) hxk ?_)
  refine Fm (s:={ s' with toks:=s'.toks+((key (.ref xb)).length+1) }) (key:=key) TS' hLk (by show A.units+1<cLine; lia) hxk hll (fun hin=>?_) (fun hno h' L' es' ep' t' S' sb pm=>?_)
  ·refine IL ⟨plainId_quiet F.plain_set_update_loop _,ih (i+1) _ L es ep t 0x1 hlt (W.frame _ s' _ _ hst' (Nat.le_add_right _ _) fun b hb o e=>e) TS' ⟨FW.nd,fun e he=>?_,fun u hu'=>?_⟩ HS KK' fun s'' L'' es'' ep'' t'' hm'' S'' F'' H''=>?_⟩
   ·rw [htk1]; exact II _ (FW.sub e he)
   ·rw [htk1] at hu'
    rcases List.mem_append.mp hu' with h|h
    ·exact FW.all u h
    ·rw [List.mem_singleton.mp h]; exact hin
   ·exact hR s'' L'' es'' ep'' t'' (Moved.trans W.gtrans ((hm.mono hsub).then_heap (Nat.le_add_right _ _) fun b o hb e=>e) hm'') S'' F'' H''
  ·have mem':∀e∈L',e.2=(hK prog w (key (.ref xb)),Value.ref xb)\/∃e'∈L,e'.2=e.2:=fun e he=>by
    have:=pm.mem_iff.mp (List.mem_map_of_mem (f:=fun e:El=>e.2) he)
    rcases List.mem_cons.mp this with h|h
    ·exact .inl h
    ·obtain ⟨e',he',h2⟩:=List.mem_map.mp h
     exact .inr ⟨e',he',h2⟩
   have pk:(L'.map fun e=>key e.2.2).Perm (key (.ref xb)::L.map fun e=>key e.2.2):=by
    have:=pm.map fun p:Int×Value=>key p.2
    rw [List.map_cons,List.map_map,List.map_map] at this
    exact this
   refine IL ⟨plainId_quiet F.plain_set_update_loop _,ih (i+1) _ L' es' ep' t' 0x1 hlt (W.frame _ s' _ _ hst' (Nat.le_add_right _ _) fun b hb o e=>?_) S' ⟨?_,fun e he=>?_,fun u hu'=>?_⟩ (fun e he=>?_) (KK'.keep fun b o hb e=>?_) fun s'' L'' es'' ep'' t'' hm'' S'' F'' H''=>?_⟩
   ·rw [sb.2 b (fun h:b=S=>hSf (by rw [<-h]; exact hb))]; exact e
   ·refine pk.symm.nodup (List.nodup_cons.mpr ⟨fun hk'=>?_,FW.nd⟩)
    obtain ⟨e,he,h2⟩:=List.mem_map.mp hk'
    exact hno e he h2
   ·rw [htk1]
    rcases mem' e he with h|⟨e',he',h⟩
    ·rw [h]; exact IH _ IF
    ·rw [<-h]; exact II _ (FW.sub e' he')
   ·rw [htk1] at hu'
    have key_in:∀k,k∈(key (.ref xb)::L.map fun e=>key e.2.2)->∃e∈L',key e.2.2=k:=fun k hk'=>by
     obtain ⟨e,he,h2⟩:=List.mem_map.mp (pk.mem_iff.mpr hk')
     exact ⟨e,he,h2⟩
    rcases List.mem_append.mp hu' with h|h
    ·obtain ⟨e,he,h2⟩:=FW.all u h
     exact key_in _ (IE _ (List.mem_map.mpr ⟨e,he,h2⟩))
    ·rw [List.mem_singleton.mp h]; exact key_in _ IF
   ·rcases mem' e he with h|⟨e',he',h⟩
    ·rw [h]
    ·rw [<-h]; exact HS e' he'
   ·rw [sb.2 b (fun h:b=S=>hb (by rw [h]; exact IF))]; exact e
   ·refine hR s'' L'' es'' ep'' t'' (Moved.trans W.gtrans ((hm.mono hsub).then_heap (Nat.le_add_right _ _) fun b o hb e=>?_) hm'') S'' F'' H''
    rw [sb.2 b (fun h:b=S=>hb (by rw [h]; exact IF))]; exact e
end
section
variable {prog:Program} {w:World} {A:Around} {E:Value->Shared->Prop} {s:Shared}
theorem BS (a:Value) {Q₁:Value->Shared->Prop} (h:Q₁ (.ref s.heap.objs.size) { s with heap:=s.heap.push (cz #[] 0 (.fresh 0 0 (!w.params.followText "set-order"))) }) :
  codeAny (model prog w) A (.call (.builtin "set.__new__") ⟨[.type "set",a],[]⟩) (wants Q₁ E) s:=by
 refine codeAny_of_tree ?_
 show wpAny (model prog w) A.in1 (do checkBuiltinCall "set.__new__" ⟨[.type "set",a],[]⟩; again (.builtin "set.__new__" ⟨[.type "set",a],[]⟩)) _ _ s
 refine IK (wpAny_of_eq (F.newCall_set_1 a) (IL ⟨plainId_quiet F.plain_set_new _,codeAny_builtin F.entry_set_new ?_⟩))
 rw [Around.under_plainId F.plain_set_new _]
 unfold Builtin.«set.__new__» Builtin.Frozenset.newClass
 have hsub:=sub_set_self
 obtain ⟨hp,g,d,tk,os⟩:=s
 dsimp only
 wp_walk
 refine wpAny_askSetting (IL ?_)
 dsimp only
 simp only [newObj]
 refine IK (wpAny_alloc (IL ?_))
 exact IL h
theorem Hy (f m:Nat) (led:Bool):Tab (.fresh f m led) []:=⟨.inl rfl,rfl,rfl,List.Pairwise.nil,(fun _ h=>nomatch h),Nat.zero_le _,(fun _ h=>nomatch h)⟩
theorem zm {l:Addr} {items:Array Value} {key:Value->List Int} {Q:Value->Shared->Prop} (hh:A.handled=none) (hl:s.heap.IsList l items) (hz:items.size<=76) (hu:A.units+16<cLine)
  (KK:∀v∈items.toList,∃b,v=.ref b/\sA prog w s.heap (key v) b)
  (h:∀(h':Heap) (tk:Nat) L es ep t,TSet prog w key h' s.heap.objs.size L es ep t->Few key L items.toList->(∀b o,s.heap.get? b=some o->h'.get? b=some o)->Q (.ref s.heap.objs.size) { s with heap:=h',toks:=tk }) :
  wpAny (model prog w) A (call (.type "set") [.ref l]) Q E s:=by
 obtain ⟨c,tl,hmro⟩:=F.called_set.mro
 have hmade:=F.called_set.made
 have hsub:=F.called_set.sub
 refine wpAny_call (codeAny_of_tree ?_)
 show wpAny _ _ (callAny (.type "set") _) _ _ _
 refine IL ⟨Code.quiet_builtin _ 0x2,codeAny_builtin F.entry_type_call ?_⟩
 rw [Around.under_plain (weight_type_call_type "set" [.ref l] []) rfl]
 have h1:=F.called_set.notType
 have h2:=F.called_set.canCreate
 have hct:=F.typeCall_set_1 (.ref l)
 repeat (any_goals (first|assumption|wp_step))
 refine codeAny_mono (BS (.ref l) (E:=E) (Q₁:=fun obj s₁=>obj=.ref s.heap.objs.size/\s₁={ s with heap:=s.heap.push (cz #[] 0 (.fresh 0 0 (!w.params.followText "set-order"))) }) ⟨rfl,rfl⟩) fun r s₁ hr=>?_
 cases r with
 |error e=>exact hr
 |ok fl=>
  cases fl with
  |ret obj=>
   obtain ⟨rfl,rfl⟩:=hr
   have hS:(s.heap.push (cz #[] 0 (.fresh 0 0 (!w.params.followText "set-order")))).get? s.heap.objs.size=some (cz #[] 0 (.fresh 0 0 (!w.params.followText "set-order"))):=Heap.get?_push_size _ rfl
   have hT:Shared.TypeIs { s with heap:=s.heap.push (cz #[] 0 (.fresh 0 0 (!w.params.followText "set-order"))) } (.ref s.heap.objs.size) "set" :=⟨_,hS,rfl⟩
   have hli:=F.called_set.init.lookup
   have hbi:=F.called_set.init.bind (.ref s.heap.objs.size)
   repeat (any_goals (first|assumption|wp_step))
   refine codeAny_mono (codeAny_call_builtin (R:=wants (fun r s₂=>r=.none/\∃h' tk L es ep t,s₂={ s with heap:=h',toks:=tk }/\TSet prog w key h' s.heap.objs.size L es ep t/\Few key L items.toList /\
     (∀b o,s.heap.get? b=some o->h'.get? b=some o)) E) F.called_set.init.plain F.entry_set_init (check_set_init_1 hT ?_)) fun r₂ s₂ hr₂=>?_
   ·obtain ⟨ol,hol,hcl,nl,hdl⟩:=hl
    obtain ⟨ocls,odict,odata,oslots⟩:=ol
    simp only at hcl hdl
    subst hcl; subst hdl
    have hol':(s.heap.push (cz #[] 0 (.fresh 0 0 (!w.params.followText "set-order")))).get? l=some { cls:=.type "list",dict:=odict,data:=.seq items nl,slots:=oslots }:=IG _ hol
    have hsls:=F.sub_list_set
    have hslf:=F.sub_list_frozenset
    have hne:(Value.type "list" == Value.type "dict")=false:=by decide
    have hl1:(s.heap.push (cz #[] 0 (.fresh 0 0 (!w.params.followText "set-order")))).IsList l items:=⟨_,hol',rfl,nl,rfl⟩
    unfold Builtin.«set.__init__» noKeywords Builtin.Frozenset.updateFrom
    generalize hPI:pyIter=PI
    wp_walk
    subst hPI
    refine wpAny_pyIter_list hl1 ?_
    refine IK (wpAny_runValue ?_)
    have hlS:l<s.heap.objs.size:=IM hol
    have hh3:A.in1.in1.in1.handled=none:=by simp [hh]
    have hzp:(s.heap.push (cz #[] 0 (.fresh 0 0 (!w.params.followText "set-order")))).objs.size=s.heap.objs.size+1:=Heap.size_push ..
    have hneI:l≠(s.heap.push (cz #[] 0 (.fresh 0 0 (!w.params.followText "set-order")))).objs.size:=by rw [hzp]; exact Nat.ne_of_lt (Nat.lt_succ_of_lt hlS)
    have hSf:s.heap.objs.size∉[(s.heap.push (cz #[] 0 (.fresh 0 0 (!w.params.followText "set-order")))).objs.size,l]:=by
     rw [hzp]; simp only [List.mem_cons,List.mem_singleton,List.not_mem_nil,or_false,not_or]
     exact ⟨Nat.ne_of_lt (Nat.lt_succ_self _),Nat.ne_of_gt hlS⟩
    have hget:((s.heap.push (cz #[] 0 (.fresh 0 0 (!w.params.followText "set-order")))).push { cls:=.type "list_iterator",data:=.fields #[.ref l,.int 0 0] }).get? s.heap.objs.size=some (cz #[] 0 (.fresh 0 0 (!w.params.followText "set-order"))):=IG _ hS
    have keep2:∀b o,s.heap.get? b=some o->((s.heap.push (cz #[] 0 (.fresh 0 0 (!w.params.followText "set-order")))).push { cls:=.type "list_iterator",data:=.fields #[.ref l,.int 0 0] }).get? b=some o:=fun b o e=>IG _ (IG _ e)
    refine yP ((Walks.list hh3 _ l hneI items).toS) s.heap.objs.size hSf key hz (by show A.units+1+1+8<cLine; lia) (items.size-0) 0 _ [] #[] 0 _ 0x1 (Nat.zero_le _)
     ⟨⟨_,Heap.get?_push_size _ rfl,rfl,rfl⟩,(hl1.push _)⟩ ⟨hget,rfl,Hy _ _ _,(show 0*5<7*3 by decide),rfl,rfl⟩ ⟨List.nodup_nil,(fun _ h=>nomatch h),(fun _ h=>nomatch h)⟩ (fun _ h=>nomatch h) (fun v hv=>?_) ?_
    ·obtain ⟨b,e,k⟩:=KK v hv
     have hb:b<s.heap.objs.size:=by
      obtain ⟨o,_,_,ho,_⟩:=k
      exact IM ho
     refine ⟨b,e,?_,k.keep fun o ho=>keep2 b o ho⟩
     rw [hzp]
     simp only [List.mem_cons,List.mem_singleton,List.not_mem_nil,or_false,not_or]
     exact ⟨Nat.ne_of_lt hb,Nat.ne_of_lt (Nat.lt_succ_of_lt hb)⟩
    ·intro s' L' es' ep' t' hm hS' hF' _
     obtain ⟨h',g',d',tk',os'⟩:=s'
     have eg:g'=s.gens:=hm.gens
     have ed:d'=s.drawn:=hm.drawn
     have eo:os'=s.os:=hm.os
     subst eg; subst ed; subst eo
     show wpAny _ _ _ _ _ _
     refine IL ?_
     show wpAny _ _ (ret Value.none) _ _ _
     refine IL ⟨rfl,h',tk',L',es',ep',t',rfl,hS',hF',fun b o e=>?_⟩
     have hb:=IM e
     refine hm.heap b o ?_ (keep2 b o e)
     rw [hzp]
     simp only [List.mem_cons,List.mem_singleton,List.not_mem_nil,or_false,not_or]
     exact ⟨Nat.ne_of_lt hb,Nat.ne_of_lt (Nat.lt_succ_of_lt hb)⟩
   ·cases r₂ with
    |error e=>exact hr₂
    |ok fl₂=>
     cases fl₂ with
     |ret r=>
      obtain ⟨rfl,h',tk,L',es',ep',t',rfl,hS',hF',hk'⟩:=hr₂
      repeat (any_goals (first|assumption|wp_step))
      exact h _ _ L' es' ep' t' hS' hF' hk'
     |_=>exact hr₂.elim
  |_=>exact hr.elim
end
theorem Bp {α:Type} {l:List α} {i:Nat} (h:i<l.length):([l[i]]++l.eraseIdx i).Perm l:=by
 rw [List.eraseIdx_eq_take_drop_succ]
 have h1:(l[i]::(l.take i++l.drop (i+1))).Perm (l.take i++l[i]::l.drop (i+1)):=List.perm_middle.symm
 rw [List.getElem_cons_drop,List.take_append_drop] at h1
 exact h1
theorem wt {α:Type} (next:Nat->Nat):∀(fuel k:Nat) (left:List α) (out:Array α),left.length<=fuel->(pickOrder.go next fuel k left out).toList.Perm (out.toList++left)
 |0,k,left,out,h=>by
  have:left=[]:=List.length_eq_zero_iff.mp 0x1
  subst this
  rw [List.append_nil]
  exact .refl _
 |fuel+1,k,left,out,h=>by
  unfold pickOrder.go
  cases hl:left with
  |nil=>simp
  |cons x r=>
   have hlt:next k % (x::r).length<(x::r).length:=Nat.mod_lt _ 0x4
   rw [List.getElem?_eq_getElem hlt]
   dsimp only
   refine (wt next fuel (k+1) _ _ (by rw [List.length_eraseIdx,if_pos hlt,<-hl]; lia)).trans ?_
   rw [Array.toList_push,List.append_assoc]
   exact List.Perm.append_left _ (Bp hlt)
theorem xq {α:Type} (next:Nat->Nat) (xs:Array α):(pickOrder next xs).toList.Perm xs.toList:=by
 unfold pickOrder
 have:=wt next xs.size 0 xs.toList #[] 0x4
 simpa using this
theorem oi:entryFor table "set.__iter__" = some Builtin.«frozenset.__iter__»:=entryFor_alias (id':= "frozenset.__iter__") (by kernel_rfl) rfl 0x2 (by kernel_rfl)
theorem Fb:Manifest.owners.lookup (String.ofList ['r','o','t','a','r','e','t','i','_','t','e','s'].reverse)=some Manifest.sig_set_iterator:=by kernel_rfl
theorem kF:Slot "set_iterator" "__next__" "set_iterator.__next__" :=.of (owner:= "set_iterator") (n:= "__next__") (by rw [typeLookup_type,builtinLookup_eq_fast]; kernel_rfl) 0x2 0x2 0x2 (.inl 0x2) (by rw [isSubtype_type]; kernel_rfl)
theorem sX:entryFor table "set_iterator.__next__" = some Builtin.«set_iterator.__next__»:=entryFor_of_tree (by kernel_rfl)
theorem vL (a:Value):argsOk "set_iterator.__next__" ⟨[a],[]⟩:=by
 unfold argsOk; rw [signature?_of (id:= "set_iterator.__next__") (n:=['_','_','t','x','e','n','_','_']) (o:=['r','o','t','a','r','e','t','i','_','t','e','s']) (by kernel_rfl) Fb]; kernel_rfl
noncomputable def jF (S:Addr) (slot i n ep:Nat):Obj:={ cls:=.type "set_iterator",data:=.fields #[.int slot 0,.int i 0,.ref S,.int n 0,.int ep 0] }
noncomputable def kH (w:World) (S:Addr) (es:Array (Int×Value)) (ep:Nat):Array (Int×Value):=if w.params.followText "set-order" = true then pickOrder (w.params.setOrder S ep) es else es
theorem l6 (w:World) (S:Addr) (es:Array (Int×Value)) (ep:Nat):(kH w S es ep).toList.Perm es.toList:=by
 unfold kH
 split
 ·exact xq _ _
 ·exact .refl _
structure AtI (w:World) (h:Heap) (it S:Addr) (i:Nat) (es:Array (Int×Value)) (ep:Nat) (t:SetTable):Prop where
 ex:∃slot,h.get? it=some (jF S slot i es.size ep)/\(w.params.followText "set-order" = false->SetTable.below t.place slot=i)
 set:h.get? S=some (cz es ep t)
section
variable {prog:Program} {w:World} {A:Around} {E:Value->Shared->Prop} {s:Shared}
theorem uj {Q:Bool->Shared->Prop} (h:Q (w.params.followText "set-order") s):wpAny (model prog w) A setsByText Q E s:=by
 unfold setsByText
 exact IK (wpAny_askSetting (IL h))
theorem yR {key:Value->List Int} {S:Addr} {L:List El} {es:Array (Int×Value)} {ep:Nat} {t:SetTable} {Q:Value->Shared->Prop} (TS:TSet prog w key s.heap S L es ep t)
  (h:AtI w (s.heap.push (jF S 0 0 es.size ep)) s.heap.objs.size S 0 es ep t->Q (.ref s.heap.objs.size) { s with heap:=s.heap.push (jF S 0 0 es.size ep) }):wpAny (model prog w) A (pyIter (.ref S)) Q E s:=by
 have hT:s.TypeIs (.ref S) "set" :=⟨_,TS.get,rfl⟩
 have hf:t.fits es.size=true:=by rw [fO TS.els]; exact TS.tab.fits
 refine wpAny_pyIter_slot hT F.slot_set_iter (wpAny_call_entry F.slot_set_iter hT oi ?_ (F.args_set_iter_1 _))
 unfold Builtin.«frozenset.__iter__» Builtin.Frozenset.slot0 slotArgs
 simp only [List.isEmpty_nil,Bool.not_true,Bool.false_eq_true,↓reduceIte,bind_assoc,List.length_nil,bne_self_eq_false]
 unfold Builtin.Frozenset.addrOf Builtin.Frozenset.sizeOf
 refine IK (IL ?_)
 try dsimp only
 refine IK (IL ?_)
 refine IK (IK (wpAny_setEntries_of TS.get rfl hf (IL ?_)))
 unfold setDrawn
 refine IK (IK (wpAny_setState_of TS.get rfl hf ?_))
 dsimp only
 refine IK (uj (IL ?_))
 split
 ·rename_i hc
  exact absurd hc (by show ¬((!w.params.followText "set-order" && (!t.plain&&decide (es.size>1)))=true); rw [TS.plain]; simp)
 refine IK (IL ?_)
 refine IK (wpAny_setEpoch_of TS.get rfl hf ?_)
 unfold newFields
 refine IK (wpAny_newObj_type (IL ⟨_,rfl, "set_iterator",_,⟨_,Heap.get?_push_size _ rfl,rfl⟩,kF.lookup,?_⟩))
 refine h ⟨⟨0,Heap.get?_push_size _ rfl,fun _=>?_⟩,IG _ TS.get⟩
 have hb:=kr (rh TS.tab.pl TS.tab.ris) 0
 by_cases hz:SetTable.below t.place 0=0
 ·exact hz
 ·have hs:0<t.place.size:=by lia
  have:=hb.2.1 0 t.place[0] 0x1 (Array.getElem?_eq_getElem hs)
  lia
end
theorem vo {xs:Array Nat} (hr:FP xs) {i j:Nat} (h:xs[i]?=some j):SetTable.below xs (j+1)=i+1:=by
 obtain ⟨b1,b2,b3⟩:=kr hr (j+1)
 have hi:=(Array.getElem?_eq_some_iff.mp h).1
 by_cases h1:SetTable.below xs (j+1)<=i
 ·have:=b3 i j h1 h; lia
 ·by_cases h2:i+1<SetTable.below xs (j+1)
  ·obtain ⟨y,hy⟩:∃y,xs[i+1]?=some y:=⟨_,Array.getElem?_eq_getElem 0x1⟩
   have h3:=b2 (i+1) y h2 hy
   have h4:=hr i (i+1) j y 0x1 h hy
   lia
  ·lia
section
variable {prog:Program} {w:World} {A:Around} {E:Value->Shared->Prop} {s:Shared}
theorem yn {S:Addr} {es:Array (Int×Value)} {ep:Nat} {t:SetTable} (hg:s.heap.get? S=some (cz es ep t)) (hf:t.fits es.size=true) (hb:w.params.followText "set-order" = true) {Q:Array (Int×Value)->Shared->Prop} (h:Q (kH w S es ep) s):wpAny (model prog w) A (setWalk S) Q E s:=by
 unfold setWalk
 refine IK (wpAny_setState_of hg rfl hf ?_)
 dsimp only
 refine IK (uj ?_)
 rw [hb,if_pos rfl]
 refine IK (wpAny_askSetting (IL ?_))
 unfold kH at h
 rw [if_pos hb] at h
 exact h
theorem ud {S:Addr} {es:Array (Int×Value)} {ep slot i:Nat} {t:SetTable} {L:List El} (hg:s.heap.get? S=some (cz es ep t)) (hes:es.toList=L.map (·.2)) (T:Tab t L) (hpl:t.plain=true) (hld:t.led=!w.params.followText "set-order") (hsl:w.params.followText "set-order" = false->SetTable.below t.place slot=i)
  {Q:Option (Value×Nat)->Shared->Prop} (h1:∀x,(kH w S es ep)[i]?=some x->∀sl,(w.params.followText "set-order" = false->SetTable.below t.place sl=i+1)->Q (some (x.2,sl)) s) (h2:(kH w S es ep)[i]?=none->Q none s):wpAny (model prog w) A (setNext S slot i ep) Q E s:=by
 have hf:t.fits es.size=true:=by rw [fO hes]; exact T.fits
 unfold setNext
 refine IK (wpAny_setState_of hg rfl hf ?_)
 dsimp only
 refine IK (uj ?_)
 by_cases hb:w.params.followText "set-order" = true
 ·rw [hb,if_pos rfl]
  simp only [bne_self_eq_false,Bool.false_eq_true,if_false]
  refine IK (yn hg hf hb (IL ?_))
  cases hx:(kH w S es ep)[i]? with
  |none=>exact h2 hx
  |some x=>exact h1 x hx slot fun hc=>by rw [hb] at hc; cases hc
 ·have hb':w.params.followText "set-order" = false:=by simpa using hb
  have ho:kH w S es ep=es:=by unfold kH; rw [if_neg hb]
  rw [hb']
  simp only [Bool.false_eq_true,if_false]
  rw [hb'] at hld
  split
  ·rename_i hc
   exact absurd hc (by show ¬((!t.plain&&decide (es.size>1))=true); rw [hpl]; simp)
  refine IK (wpAny_of_eq (a:=()) ?_ ?_)
  ·show (if (!t.led&&!es.isEmpty)=true then _ else _)=_
   rw [hld]
   rfl
  ·refine IL ?_
   rw [hsl hb']
   rw [ho] at h1 h2
   cases hx:es[i]? with
   |none=>exact h2 hx
   |some x=>
    have hlt:=(Array.getElem?_eq_some_iff.mp hx).1
    have hsz:t.place.size=es.size:=by rw [T.size,fO hes]
    obtain ⟨j,hj⟩:∃j,t.place[i]?=some j:=⟨_,Array.getElem?_eq_getElem 0x1⟩
    rw [hj]
    exact h1 x hx (j+1) fun _=>vo (rh T.pl T.ris) hj
theorem vM {w:World} {it S:Addr} {i:Nat} {es:Array (Int×Value)} {ep:Nat} {t:SetTable} {s:Shared} (h:AtI w s.heap it S i es ep t):s.TypeIs (.ref it) "set_iterator" :=let ⟨_,hg,_⟩:=h.ex; ⟨_,hg,rfl⟩
theorem Cf {it S:Addr} {i:Nat} {es:Array (Int×Value)} {ep:Nat} {t:SetTable} {L:List El} (hes:es.toList=L.map (·.2)) (T:Tab t L) (hpl:t.plain=true) (hld:t.led=!w.params.followText "set-order") (hne:S≠it) (at_:AtI w s.heap it S i es ep t) {x:Int×Value} (hx:(kH w S es ep)[i]?=some x) {Q:Option Value->Shared->Prop}
  (h:∀h',AtI w h' it S (i+1) es ep t->Heap.SameBut it s.heap h'->Q (some x.2) { s with heap:=h' }):wpAny (model prog w) A (pyNext (.ref it)) Q E s:=by
 have hT:=vM at_
 have hf:t.fits es.size=true:=by rw [fO hes]; exact T.fits
 obtain ⟨⟨slot,hi,hsl⟩,hg⟩:=at_
 unfold pyNext
 refine IK (wpAny_attempt (wpAny_callSpecial?_slot (name:=Str.ofString "__next__") hT kF (wpAny_call_entry kF hT sX ?_ (vL _))))
 unfold Builtin.«set_iterator.__next__»
 refine IK (IL ?_)
 refine IK (wpAny_fieldsOf hi rfl ?_)
 dsimp only
 refine IK (wpAny_setEntries_of hg rfl hf ?_)
 rw [if_neg 0x4]
 rw [Int.toNat_natCast,Int.toNat_natCast,Int.toNat_natCast]
 refine IK (ud hg hes T hpl hld hsl (fun y hy sl hsl'=>?_) fun hn=>by rw [hx] at hn; cases hn)
 rw [hx] at hy
 cases hy
 dsimp only
 refine IK (wpAny_setField hi rfl 0x4 ?_)
 have hi1:(s.heap.update it (Obj.mapFields (·.setIfInBounds 0 (rawInt (sl:Int))))).get? it=some (jF S sl i es.size ep):=Heap.get?_update_self _ hi rfl
 refine IK (wpAny_setField hi1 rfl 0x4 ?_)
 have hi2:((s.heap.update it (Obj.mapFields (·.setIfInBounds 0 (rawInt (sl:Int))))).update it (Obj.mapFields (·.setIfInBounds 1 (rawInt ((i:Int)+1))))).get? it=some (jF S sl (i+1) es.size ep):=Heap.get?_update_self _ hi1 rfl
 have sb:=(Heap.SameBut.update s.heap it (Obj.mapFields (·.setIfInBounds 0 (rawInt (sl:Int))))).trans (Heap.SameBut.update _ it (Obj.mapFields (·.setIfInBounds 1 (rawInt ((i:Int)+1)))))
 exact IL ⟨_,rfl,IL (h _ ⟨⟨sl,hi2,hsl'⟩,by rw [sb.2 S hne]; exact hg⟩ sb)⟩
theorem DF {it S:Addr} {i:Nat} {es:Array (Int×Value)} {ep:Nat} {t:SetTable} {L:List El} (hh:A.handled=none) (hes:es.toList=L.map (·.2)) (T:Tab t L) (hpl:t.plain=true) (hld:t.led=!w.params.followText "set-order") (at_:AtI w s.heap it S i es ep t) (hx:(kH w S es ep)[i]?=none) {Q:Option Value->Shared->Prop}
  (h:∀h',Heap.ExtBut it s.heap h'->s.heap.objs.size<=h'.objs.size->Q none { s with heap:=h' }):wpAny (model prog w) A (pyNext (.ref it)) Q E s:=by
 have hT:=vM at_
 have hf:t.fits es.size=true:=by rw [fO hes]; exact T.fits
 obtain ⟨⟨slot,hi,hsl⟩,hg⟩:=at_
 unfold pyNext
 refine IK (wpAny_attempt (wpAny_callSpecial?_slot (name:=Str.ofString "__next__") hT kF (wpAny_call_entry kF hT sX ?_ (vL _))))
 unfold Builtin.«set_iterator.__next__»
 refine IK (IL ?_)
 refine IK (wpAny_fieldsOf hi rfl ?_)
 dsimp only
 refine IK (wpAny_setEntries_of hg rfl hf ?_)
 rw [if_neg 0x4]
 rw [Int.toNat_natCast,Int.toNat_natCast,Int.toNat_natCast]
 refine IK (ud hg hes T hpl hld hsl (fun y hy=>by rw [hx] at hy; cases hy) fun _=>?_)
 dsimp only
 refine IK (wpAny_setField hi rfl 0x4 ?_)
 show wpAny _ _ (newExc (.type "StopIteration") [] >>= _) _ _ _
 refine IK ?_
 simp only [newExc,newTuple]
 refine IK (wpAny_newObj_type ?_ (by size_fits))
 refine IK (m:=firstArgMember _ _) (wpAny_of_eq (a:=Value.none) (by first|rfl|(simp only [firstArgMember]; rfl)) ?_)
 refine wpAny_newObj_type ?_ (by size_fits)
 simp only [raiseNew]
 refine IK (wpAny_handled ?_)
 rw [show A.in1.handled=none from hh]
 refine IK (IL (wpAny_throw ?_))
 refine IK (wpAny_isInstance (T:= "StopIteration") (b:=true) ⟨_,Heap.get?_push_size _ rfl,rfl⟩ isSubtype_stop ?_)
 exact IL (h _ (((Heap.SameBut.update ..).extBut.push _).push _) (by rw [Heap.size_push,Heap.size_push,Heap.size_update]; lia))
end
noncomputable def dS (w:World) (S:Addr) (es:Array (Int×Value)) (ep:Nat):List Value:=(kH w S es ep).toList.map (·.2)
theorem kG (w:World) (S:Addr) (es:Array (Int×Value)) (ep:Nat):(dS w S es ep).length=es.size:=by
 unfold dS
 rw [List.length_map,(l6 w S es ep).length_eq,Array.length_toList]
section
variable {prog:Program} {w:World} {A:Around} {R:Result->Shared->Prop}
theorem yI {it S l:Addr} {es:Array (Int×Value)} {ep:Nat} {t:SetTable} {L:List El} (hes:es.toList=L.map (·.2)) (T:Tab t L) (hpl:t.plain=true) (hld:t.led=!w.params.followText "set-order") (hh:A.handled=none) (hz:es.size<=1000) (hne:S≠it) (hlS:l≠S) (hli:l≠it) (res:Value) :
  ∀(d i:Nat) (s:Shared) (acc:Array Value) (c:Nat),es.size-i=d->i<=es.size->AtI w s.heap it S i es ep t->s.heap.get? l=some (seqObj "list" acc c)->acc.toList=(dS w S es ep).take i ->
   (∀h' c',(∀b o,b≠l->b≠it->s.heap.get? b=some o->h'.get? b=some o)->s.heap.objs.size<=h'.objs.size->h'.get? l=some (seqObj "list" (dS w S es ep).toArray c')->R (.ok (.ret res)) { s with heap:=h' }) ->
   codeAny (model prog w) A (.builtin "list.extend.loop" ⟨[.ref l,.ref it,res],[]⟩) R s:=by
 have hol:(kH w S es ep).size=es.size:=by have:=(l6 w S es ep).length_eq; simpa using this
 intro d
 induction d with
 |zero=>
  intro i s acc c hd hi at_ hl hacc hR
  have hin:i=es.size:=by lia
  subst hin
  refine codeAny_builtin F.entry_extend_loop ?_
  rw [Around.under_plainId F.plain_extend_loop _]
  show wpAny _ A.in1 (pyNext (.ref it) >>= _) _ _ s
  refine IK (DF (A:=A.in1) hh hes T hpl hld at_ (Array.getElem?_eq_none 0x1) fun h' eb hsz=>?_)
  refine IL (hR h' c (fun b o _ hb e=>eb b o hb e) hsz ?_)
  have h1:=eb l _ hli hl
  rw [List.take_of_length_le (by rw [kG]; exact IJ _)] at hacc
  rw [h1,<-hacc]
 |succ d ih=>
  intro i s acc c hd hi at_ hl hacc hR
  have hlt:i<es.size:=by lia
  obtain ⟨x,hx⟩:∃x,(kH w S es ep)[i]?=some x:=⟨_,Array.getElem?_eq_getElem 0x1⟩
  refine codeAny_builtin F.entry_extend_loop ?_
  rw [Around.under_plainId F.plain_extend_loop _]
  show wpAny _ A.in1 (pyNext (.ref it) >>= _) _ _ s
  refine IK (Cf hes T hpl hld hne at_ hx fun h' at' sb=>?_)
  have hl':h'.get? l=some (seqObj "list" acc c):=by rw [sb.2 l hli]; exact hl
  have hasz:acc.size=i:=by
   rw [<-Array.length_toList,hacc,List.length_take,kG]; lia
  show wpAny _ A.in1 (updateSeq l (·.push x.2) >>= _) _ _ _
  refine IK ?_
  refine wpAny_updateSeq hl' rfl (IL ⟨plainId_quiet F.plain_extend_loop _,ih (i+1) _ (acc.push x.2) _ 0x1 hlt ?_ (get?_update_seq hl' (·.push x.2)) ?_ fun h'' c'' kp hsz hl''=>?_⟩) (by rw [sizeLine_eq]; lia) (by show (acc.push x.2).size<=sizeLine+1; rw [Array.size_push,sizeLine_eq]; lia)
  ·obtain ⟨⟨sl,e1,e2⟩,e3⟩:=at'
   exact ⟨⟨sl,(Heap.get?_update_other _ _ hli).trans e1,e2⟩,(Heap.get?_update_other _ _ hlS).trans e3⟩
  ·rw [Array.toList_push,hacc,List.take_succ]
   unfold dS
   rw [List.getElem?_map,Array.getElem?_toList,hx]
   rfl
  ·refine hR h'' c'' (fun b o hb1 hb2 e=>kp b o hb1 hb2 ?_) (by have h1:(h'.update l (Obj.mapSeq (·.push x.2))).objs.size<=h''.objs.size:=hsz; rw [Heap.size_update,sb.1] at h1; exact h1) hl''
   rw [Heap.get?_update_other _ _ (Ne.symm hb1),sb.2 b hb2]
   exact e
end
section
variable {prog:Program} {w:World} {A:Around} {E:Value->Shared->Prop} {s:Shared}
theorem zY {α:Type} {c:Prop} [Decidable c] {x y:Sem α} {Q:α->Shared->Prop} (h:c) (k:wpAny (model prog w) A x Q E s):wpAny (model prog w) A (if c then x else y) Q E s:=by rw [if_pos h]; exact k
theorem zC {S:Addr} {Q:Bool->Shared->Prop} (hT:s.TypeIs (.ref S) "set") (h:∀b,Q b s):wpAny (model prog w) A (Builtin.List.listLengthHint (.ref S)) Q E s:=by
 unfold Builtin.List.listLengthHint
 refine IK (wpAny_specialOf hT F.slot_set_len.lookup ?_)
 dsimp only
 rw [show splitId "set.__len__" = some ("set", "__len__") by kernel_rfl]
 dsimp only
 refine IK (wpAny_isInstance hT sub_set_self ?_)
 rw [if_neg (show ¬((!true)=true) by decide)]
 refine zY (by kernel_rfl) ?_
 refine IK (wpAny_typeOf hT ?_)
 exact IL (h _)
theorem tQ {key:Value->List Int} {S:Addr} {L:List El} {es:Array (Int×Value)} {ep:Nat} {t:SetTable} (hh:A.handled=none) (TS:TSet prog w key s.heap S L es ep t) (hz:es.size<=1000) {Q:List Value->Shared->Prop}
  (hQ:∀h',(∀b o,s.heap.get? b=some o->h'.get? b=some o)->s.heap.objs.size<=h'.objs.size->Q (dS w S es ep) { s with heap:=h' }):wpAny (model prog w) A (collect (.ref S)) Q E s:=by
 have hSl:S<s.heap.objs.size:=IM TS.get
 unfold collect
 refine IK (wpAny_runValue (codeAny_builtin F.entry_proto_collect ?_))
 rw [Around.under_plainId F.plain_proto_collect _]
 show wpAny _ A.in1 (newList [] >>= fun l=>again (.builtin "list.__iadd__" ⟨[l,.ref S],[]⟩)) _ _ s
 refine IK (wpAny_newObj_type ?_)
 refine IL ⟨plainId_quiet F.plain_list_iadd _,codeAny_builtin F.entry_list_iadd ?_⟩
 rw [Around.under_plainId F.plain_list_iadd _]
 have TS1:TSet prog w key (s.heap.push (seqObj "list" #[] 0)) S L es ep t:=⟨IG _ TS.get,TS.els,TS.tab,TS.few,TS.led,TS.plain⟩
 have hT1:Shared.TypeIs { s with heap:=s.heap.push (seqObj "list" #[] 0) } (.ref S) "set" :=⟨_,TS1.get,rfl⟩
 show wpAny (model prog w) A.in1 (Builtin.List.listExtendWith (.ref s.heap.objs.size) (.ref S) (.ref s.heap.objs.size)) _ _ { s with heap:=s.heap.push (seqObj "list" #[] 0) }
 unfold Builtin.List.listExtendWith
 refine IK (wpAny_typeOf hT1 ?_)
 have hne:s.heap.objs.size≠S:=Nat.ne_of_gt hSl
 have h1:Builtin.List.listSameRef (.ref s.heap.objs.size) (.ref S)=false:=by simp [Builtin.List.listSameRef,hne]
 have h2:(Value.type "set" == Value.type "list")=false:=by decide
 have h3:(Value.type "set" == Value.type "tuple")=false:=by decide
 simp only [h1,h2,h3,Bool.or_false,Bool.false_eq_true,if_false]
 refine IK (yR TS1 fun at0=>?_)
 have hT2:Shared.TypeIs { s with heap:=(s.heap.push (seqObj "list" #[] 0)).push (jF S 0 0 es.size ep) } (.ref S) "set" :=⟨_,at0.set,rfl⟩
 refine IK (wpAny_holding (zC hT2 fun b=>?_))
 have hI:(s.heap.push (seqObj "list" #[] 0)).objs.size=s.heap.objs.size+1:=size_push' ..
 rw [hI] at at0 ⊢
 have hl0:((s.heap.push (seqObj "list" #[] 0)).push (jF S 0 0 es.size ep)).get? s.heap.objs.size=some (seqObj "list" #[] 0):=IG _ (Heap.get?_push_size _ rfl)
 refine zY (by cases b <;> kernel_rfl) ?_
 refine IK (wpAny_rule ?_)
 refine IK ?_
 show wpAny _ A.in1 (updateSeq s.heap.objs.size (·.push .none) >>= fun _=>updateSeq s.heap.objs.size (·.pop)) _ _ _
 refine IK (wpAny_updateSeq hl0 rfl ?_)
 have hl1:=get?_update_seq hl0 (·.push Value.none)
 refine wpAny_updateSeq hl1 rfl ?_
 have hl2:=get?_update_seq hl1 (·.pop)
 have oth:∀b o,b≠s.heap.objs.size->((s.heap.push (seqObj "list" #[] 0)).push (jF S 0 0 es.size ep)).get? b=some o ->
   ((((s.heap.push (seqObj "list" #[] 0)).push (jF S 0 0 es.size ep)).update s.heap.objs.size (Obj.mapSeq (·.push Value.none))).update s.heap.objs.size (Obj.mapSeq (·.pop))).get? b=some o:=
  fun b o hb e=>(Heap.get?_update_other _ _ (Ne.symm hb)).trans ((Heap.get?_update_other _ _ (Ne.symm hb)).trans e)
 refine IL ⟨plainId_quiet F.plain_extend_loop _,yI (A:=A) (ep:=ep) TS.els TS.tab TS.plain TS.led hh hz (Nat.ne_of_lt (Nat.lt_succ_of_lt hSl)) hne (Nat.ne_of_lt (Nat.lt_succ_self _)) _ es.size 0 _ _ _ rfl (Nat.zero_le _) ?_ hl2 rfl fun h' c' kp hsz hl'=>?_⟩
 ·obtain ⟨⟨sl,e1,e2⟩,e3⟩:=at0
  exact ⟨⟨sl,oth _ _ (Nat.ne_of_gt (Nat.lt_succ_self _)) e1,e2⟩,oth _ _ (Ne.symm hne) e3⟩
 ·show wpAny _ A (load s.heap.objs.size >>= _) _ _ _
  refine IK (wpAny_load hl' ?_)
  refine IL ?_
  refine hQ h' (fun b o e=>?_) (by
   have h1:((((s.heap.push (seqObj "list" #[] 0)).push (jF S 0 0 es.size ep)).update s.heap.objs.size (Obj.mapSeq (·.push Value.none))).update s.heap.objs.size (Obj.mapSeq (·.pop))).objs.size<=h'.objs.size:=hsz
   rw [Heap.size_update,Heap.size_update,Heap.size_push,Heap.size_push] at h1
   lia)
  have hb:=IM e
  exact kp b o (Nat.ne_of_lt hb) (Nat.ne_of_lt (Nat.lt_succ_of_lt hb)) (oth b o (Nat.ne_of_lt hb) (IG _ (IG _ e)))
end
open PySem.W (KasT kas_sort)
noncomputable def rN:List D->List D
 |[]=>[]
 |d::r=>if (r.any fun e=>decide (kO e=kO d))=true then rN r else d::rN r
theorem rj {d:D} (h:(kT d).isSome=true):kT d=some (kO d):=by
 obtain ⟨k,e⟩:=Option.isSome_iff_exists.mp h
 rw [e]
 show _=some ((kT d).getD [])
 rw [e]
 rfl
theorem yk {d e:D} (hd:(kT d).isSome=true) (he:(kT e).isSome=true) (h:kO d=kO e):d=e:=by rw [jI (rj hd),jI (rj he),h]
theorem jn:∀(ys:List D) (x:D),x∈rN ys->x∈ys
 |[],_,h=>nomatch h
 |d::r,x,h=>by
  unfold rN at h
  split at h
  ·exact IE _ (jn r x h)
  ·rcases List.mem_cons.mp h with h|h
   ·rw [h]; exact IF
   ·exact IE _ (jn r x h)
theorem rU:∀(ys:List D),(∀y∈ys,(kT y).isSome=true)->∀x∈ys,x∈rN ys
 |[],_,_,h=>nomatch h
 |d::r,hk,x,h=>by
  have ih:=rU r fun y hy=>hk y (IE _ hy)
  unfold rN
  split
  ·rename_i hc
   rcases List.mem_cons.mp h with h|h
   ·obtain ⟨e,he,h2⟩:=List.any_eq_true.mp hc
    have:=yk (hk e (IE _ he)) (hk d IF) (of_decide_eq_true h2)
    rw [h,<-this]
    exact ih e he
   ·exact ih x h
  ·rcases List.mem_cons.mp h with h|h
   ·rw [h]; exact IF
   ·exact IE _ (ih x h)
theorem ji:∀ys:List D,(rN ys).Nodup
 |[]=>List.nodup_nil
 |d::r=>by
  unfold rN
  split
  ·exact ji r
  ·rename_i hc
   refine List.nodup_cons.mpr ⟨fun h=>hc (List.any_eq_true.mpr ⟨d,jn r d h,0x4⟩),ji r⟩
noncomputable def EM (ys:List D):Bool:=decide (ys.length<=76)&&ys.all (fun y=>(kT y).isSome&&decide ((kO y).length≠0))&&decide ((rN ys).length<64)
noncomputable def tD (xs:List DV):M DV:=match xs with
 |[x]=>bd (op (ju x)) fun ys=>if EM ys=true then rt (.new (uf (rN ys))) else none
 |_=>none
theorem vW {us:List Value}:∀(vs:List Value),(∀v∈vs,v∈us)->∃is:List Nat,(∀i∈is,i<us.length)/\is.map (fun i=>us.getD i Value.none)=vs
 |[],_=>⟨[],(fun _ h=>nomatch h),rfl⟩
 |v::r,h=>by
  obtain ⟨is,h1,h2⟩:=vW r fun u hu=>h u (IE _ hu)
  obtain ⟨i,hi,e⟩:=List.getElem_of_mem (h v IF)
  refine ⟨i::is,fun j hj=>?_,?_⟩
  ·rcases List.mem_cons.mp hj with z|z
   ·rw [z]; exact hi
   ·exact h1 j z
  ·rw [List.map_cons,h2]
   congr 1
   simp [hi,e]
theorem jN {prog:Program} {w:World}:∀{vs:List Value} {ks:List Int},IntsAre vs ks->ItemsAre (intKind prog w) ks vs
 |_,_,.nil=>.nil
 |_,_,.cons n t h=>.cons (intKind_is _ _ _ _) (jN h)
open Classical in
noncomputable def iD (prog:Program) (w:World) (h:Heap):Value->List Int
 |.ref b=>if e:∃k,sA prog w h k b then e.choose else []
 |_=>[]
theorem tM {prog:Program} {w:World} {h:Heap} {k:List Int} {b:Addr} (x:sA prog w h k b):iD prog w h (.ref b)=k:=by
 unfold iD
 have e:∃k,sA prog w h k b:=⟨k,x⟩
 dsimp only
 rw [dif_pos e]
 exact IsTupleKey.inj e.choose_spec x
noncomputable def Ca (prog:Program) (w:World) (key:Value->List Int) (a:Addr) (L:List El) (es:Array (Int×Value)) (ep:Nat) (t:SetTable):HO:=.ext fun h=>TSet prog w key h a L es ep t
section
variable {X:Cx} {E:XK}
noncomputable def Gv (X:Cx) (O P:List Addr) (ys:List D) (v:V) (H:Hp):Prop:=∃a key L es ep t ds vs,v=.ref a/\H a=some (Ca X.prog X.w key a L es ep t)/\RpL (P++O) H ds vs/\aQ vs (dS X.w a es ep)/\ds.Perm (rN ys)
noncomputable def Gr (X:Cx) (vs:List V) (H:Hp) (Q:VK):Prop:=∃O P H₀ x ys v,vs=[v]/\aB H₀ H/\RE O P H₀ H x v/\ju x=some ys/\EM ys=true/\∀v' H',aB H H'->Gv X O P ys v' H'->Q v' H'
noncomputable def C1 (X:Cx) (vs:List V) (H:Hp) (Q:VK):Prop:=∃O P H₀ ys v,vs=[v]/\aB H₀ H/\Gv X O P ys v H/\EM ys=true/\∀v' H',aB H H'->RE O P H₀ H' (.new (uf (rN ys))) v'->Q v' H'
theorem AF {ys:List D} (h:EM ys=true):ys.length<=76/\(∀y∈ys,(kT y).isSome=true/\(kO y).length≠0)/\(rN ys).length<64:=by
 unfold EM at h
 rw [Bool.and_eq_true,Bool.and_eq_true] at h
 refine ⟨of_decide_eq_true h.1.1,fun y hy=>?_,of_decide_eq_true h.2⟩
 have:=List.all_eq_true.mp h.1.2 y hy
 rw [Bool.and_eq_true] at this
 exact ⟨this.1,of_decide_eq_true this.2⟩
theorem vR {Z:List Addr} {H:Hp}:∀{k:List Int} {tv:List V},RpL Z H (k.map PyData.int) tv->tv=k.map V.int
 |[],_,lt=>by cases lt; rfl
 |x::r,_,lt=>by
  cases lt with
  |cons p lt=>cases p; rw [vR lt]; rfl
theorem yu {pins:List (Addr×Obj)} {σ:St} {H:Hp} {s:Shared} {Z:List Addr} {d:D} {v:V} {u:Value} (I:Inv X pins σ H s) (r:Rp Z H d v) (e:bM v u) (hk:(kT d).isSome=true):∃b its o n,u=.ref b/\IntsAre its (kO d)/\s.heap.get? b=some o/\o.cls=.type "tuple" /\ o.data=.seq its.toArray n:=by
 have ed:=jI (rj hk)
 generalize kO d=k at ed
 subst ed
 cases r with
 |@tup b _ tv hzb hb lt=>
  cases e
  obtain ⟨its,rt',⟨o,eo,hcl,n,hdt⟩,_⟩:=I.tuple (jy.of hb)
  refine ⟨b,its,o,n,rfl,?_,eo,hcl,hdt⟩
  rw [vR lt] at rt'
  exact uA rt'
theorem DW (hh:X.A.handled=none) (hu:X.A.units+64<cLine):iA X (.type "set") (Gr X):=fun pins s σ H vs us Q I rv ⟨O,P,H₀,x,ys,v,ev,hs,rx,ex,ok,q⟩=>by
 subst ev
 obtain ⟨hl,hk,h64⟩:=AF ok
 obtain ⟨a,ws,rfl,ha,l⟩:=rx.list ex
 cases rv with
 |cons q1 q2=>
  cases q2
  cases q1
  obtain ⟨its,ri,pl,hzz⟩:=I.list (gm.of ha)
  have hlen:its.length=ys.length:=by rw [<-ri.length,l.length]
  have item:∀i,i<ys.length->∃b,its.getD i Value.none=.ref b/\sA X.prog X.w s.heap (kO (ys.getD i .none)) b:=fun i hi=>by
   obtain ⟨v,ev,rvv⟩:=l.get (i:=i) (d:=ys[i]) (by simp [hi])
   obtain ⟨u,eu,ru⟩:=ri.get ev
   obtain ⟨b,its',o,n,rfl,hI,eo,hcl,hdt⟩:=yu I rvv ru (hk _ (List.getElem_mem hi)).1
   have hyi:ys.getD i .none=ys[i]:=by simp [hi]
   refine ⟨b,by simp [List.getD_eq_getElem?_getD,eu],?_⟩
   rw [hyi]
   exact ⟨o,_,n,eo,hcl,hdt,jN hI⟩
  have keyI:∀i,i<ys.length->iD X.prog X.w s.heap (its.getD i Value.none)=kO (ys.getD i .none):=fun i hi=>by
   obtain ⟨b,eb,kb⟩:=item i hi
   rw [eb]
   exact tM kb
  refine zm (items:=its.toArray) (key:=iD X.prog X.w s.heap) hh pl.isList (by simp; lia) 0x1 (fun v hv=>?_) fun h' tk L es ep t TS FW kp=>?_
  ·obtain ⟨i,hi,e⟩:=List.getElem_of_mem (show v∈its by simpa using hv)
   have hiv:its.getD i Value.none=v:=by simp [hi,e]
   obtain ⟨b,eb,kb⟩:=item i 0x1
   have hkk:=keyI i 0x1
   rw [hiv] at eb hkk
   exact ⟨b,eb,by rw [hkk]; exact kb⟩
  ·have hn:s.heap.objs.size<=s.heap.objs.size:=IJ _
   have hfr:=I.hok.fresh hn
   have hsm:aB H (du H s.heap.objs.size (Ca X.prog X.w (iD X.prog X.w s.heap) s.heap.objs.size L es ep t)):=bH hfr
   refine ⟨.ref s.heap.objs.size,du H s.heap.objs.size (Ca X.prog X.w (iD X.prog X.w s.heap) s.heap.objs.size L es ep t),I.laid (t':=tk) kp hn ⟨TS,⟨_,TS.get⟩,fun h1 h2 p k=>⟨k _ p.get,p.els,p.tab,p.few,p.led,p.plain⟩⟩,rfl,q _ _ hsm ?_⟩
   have ovp:(dS X.w s.heap.objs.size es ep).Perm (L.map fun e=>e.2.2):=by
    unfold dS
    have:=(l6 X.w s.heap.objs.size es ep).map fun p:Int×Value=>p.2
    rw [TS.els,List.map_map] at this
    exact this
   obtain ⟨is,i1,i2⟩:=vW (us:=its) (dS X.w s.heap.objs.size es ep) fun v hv=>by
    obtain ⟨e,he,rfl⟩:=List.mem_map.mp (ovp.mem_iff.mp hv)
    have:=FW.sub e he
    simpa using this
   have i1':∀i∈is,i<ys.length:=fun i hi=>by have:=i1 i hi; lia
   refine ⟨_,_,L,es,ep,t,is.map (fun i=>ys.getD i .none),is.map (fun i=>ws.getD i .non),rfl,cf,(l.pick is i1').kp (Kp.same hsm),?_,?_⟩
   ·rw [<-i2]
    exact jo ri is fun i hi=>by rw [ri.length]; exact i1 i hi
   ·have kd:(is.map fun i=>ys.getD i .none).map kO=(dS X.w s.heap.objs.size es ep).map (iD X.prog X.w s.heap):=by
     rw [<-i2,List.map_map,List.map_map]
     refine List.map_congr_left fun i hi=>?_
     exact (keyI i (i1' i hi)).symm
    have nd:((is.map fun i=>ys.getD i .none).map kO).Nodup:=by
     rw [kd]
     have:=ovp.map (iD X.prog X.w s.heap)
     rw [List.map_map] at this
     exact this.symm.nodup FW.nd
    have nd':(is.map fun i=>ys.getD i .none).Nodup:=by
     unfold List.Nodup at nd ⊢
     rw [List.pairwise_map] at nd
     exact nd.imp fun h e=>h (by rw [e])
    have sub:∀x∈(is.map fun i=>ys.getD i .none),x∈ys:=fun x hx=>by
     obtain ⟨i,hi,rfl⟩:=List.mem_map.mp hx
     have hlt:=i1' i hi
     rw [show ys.getD i .none=ys[i] by simp [hlt]]
     exact List.getElem_mem hlt
    refine (List.perm_ext_iff_of_nodup nd' (ji ys)).mpr fun x=>⟨fun hx=>rU ys (fun y hy=>(hk y hy).1) x (sub x hx),fun hx=>?_⟩
    have hxy:=jn ys x hx
    obtain ⟨i,hi,e⟩:=List.getElem_of_mem hxy
    have hgi:ys.getD i .none=x:=by simp [hi,e]
    obtain ⟨e',he',hke⟩:=FW.all (its.getD i Value.none) (by
     have hi':i<its.length:=by lia
     rw [show its.getD i Value.none=its[i] by simp [hi']]
     simp)
    have hmem:iD X.prog X.w s.heap e'.2.2∈(dS X.w s.heap.objs.size es ep).map (iD X.prog X.w s.heap):=List.mem_map_of_mem (ovp.mem_iff.mpr (List.mem_map.mpr ⟨e',he',rfl⟩))
    rw [hke,keyI i hi,hgi,<-kd] at hmem
    obtain ⟨y,hy,hyk⟩:=List.mem_map.mp hmem
    have:=yk (hk y (sub y hy)).1 (hk x hxy).1 hyk
    rw [<-this]
    exact hy
end
section
variable {prog:Program} {w:World} {A:Around} {E:Value->Shared->Prop} {s:Shared}
theorem u7 {key:Value->List Int} {S:Addr} {L:List El} {es:Array (Int×Value)} {ep:Nat} {t:SetTable} {Q:Value->Shared->Prop} {κ:SortKind} {kf:Value->List Int} (hh:A.handled=none) (TS:TSet prog w key s.heap S L es ep t) (h64:es.size<64)
  (hk:∀(A':Around) (s':Shared) (Q:SortKind->Shared->Prop) (E:Value->Shared->Prop),(∀b o,s.heap.get? b=some o->s'.heap.get? b=some o)->2<=(dS w S es ep).length->Q κ s'->wpAny (model prog w) A' (keyKind' (dS w S es ep).toArray) Q E s')
  (hc:∀(A':Around) (s':Shared) (u v:Value) (Q:Bool->Shared->Prop) (E:Value->Shared->Prop),(∀b o,s.heap.get? b=some o->s'.heap.get? b=some o)->u∈dS w S es ep->v∈dS w S es ep->Q (ll (kf u) (kf v)) s'->wpAny (model prog w) A' (keyLt' κ u v) Q E s')
  (h:∀(out:List Value) (a:Addr) (h2:Heap) (e:Nat),out.Perm (dS w S es ep)->out.Pairwise (fun u v=>ll (kf v) (kf u)=false)->s.heap.objs.size<=a->(∀b o,s.heap.get? b=some o->h2.get? b=some o)->h2.get? a=some (seqObj "list" out.toArray e)->Q (.ref a) { s with heap:=h2 }):wpAny (model prog w) A (call (.builtin "sorted") [.ref S]) Q E s:=by
 have hlv:=kG w S es ep
 refine Calls.call_function_entry kind_sorted plain_sorted entry_sorted (args_sorted1 _) ?_
 unfold Builtin.«sorted»
 refine IK (m:=checkCount "sorted" 1 1 _) (IL ?_)
 refine IK (tQ (A:=A.in1) hh TS 0x1 fun h1 kp1 hsz=>?_)
 refine IK (wpAny_newList ?_ (by rw [sizeLine_eq]; lia))
 have hoL:(h1.push (seqObj "list" (dS w S es ep).toArray 0)).get? h1.objs.size=some (seqObj "list" (dS w S es ep).toArray 0):=Heap.get?_push_size _ rfl
 have keep:∀b o,s.heap.get? b=some o->(h1.push (seqObj "list" (dS w S es ep).toArray 0)).get? b=some o:=fun b o e=>IG _ (kp1 b o e)
 have ne1:∀b o,s.heap.get? b=some o->b≠h1.objs.size:=fun b o e=>Nat.ne_of_lt (Nat.lt_of_lt_of_le (IM e) hsz)
 show wpAny (model prog w) A.in1 _ _ _ { s with heap:=h1.push (seqObj "list" (dS w S es ep).toArray 0) }
 refine IK (wpAny_holding (wpAny_call_entry slot_list_sort ⟨_,hoL,rfl⟩ entry_list_sort (jD (κ:=κ) (key:=fun p=>kf p.1) hoL 0x1
  (fun s' Q' E' kp h2 q=>hk _ s' Q' E' (fun b o e=>kp b o (ne1 b o e) (keep b o e)) h2 q) (fun s' u v Q' E' kp hi hj q=>hc _ s' u v Q' E' (fun b o e=>kp b o (ne1 b o e) (keep b o e)) hi hj q) fun out o1 o2=>?_) (args_list_sort _)))
 obtain ⟨e,he⟩:=sortedHeap_at (vs:=dS w S es ep) (out:=out.toArray) hoL
 refine ⟨_,rfl,IL ⟨_,rfl,h out _ _ e o1 o2 hsz (fun b o eb=>?_) he⟩⟩
 have hlt:b<(h1.push (seqObj "list" (dS w S es ep).toArray 0)).objs.size:=IM (keep b o eb)
 rw [sortedHeap_old (ne1 b o eb) hlt]
 exact keep b o eb
end
section
variable {X:Cx} {E:XK}
theorem BB (hh:X.A.handled=none) (hu:X.A.units+64<cLine):iA X (.builtin "sorted") (C1 X):=fun pins s σ H vs us Q I rv ⟨O,P,H₀,ys,v,ev,hs,⟨a,key,L,es,ep,t,ds,ws,e1,ha,l,ri,hp⟩,ok,q⟩=>by
 subst ev
 subst e1
 obtain ⟨hl,hk0,h64⟩:=AF ok
 have hkd:∀d∈ds,(kT d).isSome=true/\(kO d).length≠0:=fun d hd=>hk0 d (jn ys d (hp.mem_iff.mp hd))
 have hdl:ds.length<64:=by rw [hp.length_eq]; exact h64
 cases rv with
 |cons q1 q2=>
  cases q2
  cases q1
  obtain ⟨TS,_,_⟩:dg X.prog X.w H s.heap a (Ca X.prog X.w key a L es ep t):=I.hok a _ ha
  have hlen:(dS X.w a es ep).length=ds.length:=by rw [<-ri.length,l.length]
  have hsz:=kG X.w a es ep
  have item:∀i,i<ds.length->∃b its o n,(dS X.w a es ep).getD i Value.none=.ref b/\IntsAre its (kO (ds.getD i .none))/\(kO (ds.getD i .none)).length≠0/\s.heap.get? b=some o/\o.cls=.type "tuple" /\ o.data=.seq its.toArray n/\iD X.prog X.w s.heap ((dS X.w a es ep).getD i Value.none)=kO (ds.getD i .none):=fun i hi=>by
   obtain ⟨v,ev,rvv⟩:=l.get (i:=i) (d:=ds[i]) (by simp [hi])
   obtain ⟨u,eu,ru⟩:=ri.get ev
   obtain ⟨b,its',o,n,rfl,hI,eo,hcl,hdt⟩:=yu I rvv ru (hkd _ (List.getElem_mem hi)).1
   have hyi:ds.getD i .none=ds[i]:=by simp [hi]
   have hb:(dS X.w a es ep).getD i Value.none=.ref b:=by simp [List.getD_eq_getElem?_getD,eu]
   rw [hyi,hb]
   exact ⟨b,its',o,n,rfl,hI,(hkd _ (List.getElem_mem hi)).2,eo,hcl,hdt,tM ⟨o,_,n,eo,hcl,hdt,jN hI⟩⟩
  have at_:∀u∈dS X.w a es ep,∃i,i<ds.length/\(dS X.w a es ep).getD i Value.none=u:=fun u hu=>by
   obtain ⟨i,hi,e⟩:=List.getElem_of_mem hu
   exact ⟨i,0x1,by simp [hi,e]⟩
  refine u7 (κ:=tuples' true) (kf:=iD X.prog X.w s.heap) hh TS 0x1 (fun A' s' Q' E' kp h2 hq=>?_) (fun A' s' u v Q' E' kp hi hj hq=>?_) fun out p h2 ep2 o1 o2 hge kp hat=>?_
  ·obtain ⟨fs,f1,f2,f3⟩:=q0 (h:=s'.heap) (dS X.w a es ep) fun v hv=>by
    obtain ⟨i,hi,ev'⟩:=at_ v hv
    obtain ⟨b,its',o,n,eb,hI,hk1,eo,hcl,hdt,_⟩:=item i hi
    generalize kO (ds.getD i .none)=k at hI hk1
    cases hI with
    |nil=>exact absurd rfl hk1
    |cons x t hI'=>exact ⟨b,o,_,n,x,t,ev'.symm.trans eb,kp b o eo,hcl,hdt,rfl⟩
   refine PySem.W.kat_kind (T:=.type "int") f1 0x1 (fun v hv=>?_) (by rfl) hq
   obtain ⟨i,t,rfl⟩:=f3 v hv
   exact PySem.W.Looks.now
  ·obtain ⟨i,hi',rfl⟩:=at_ u hi
   obtain ⟨j,hj',rfl⟩:=at_ v hj
   obtain ⟨b,its',o,n,eb,hI,_,eo,hcl,hdt,k1⟩:=item i hi'
   obtain ⟨b2,its2,o2,n2,eb2,hI2,_,eo2,hcl2,hdt2,k2⟩:=item j hj'
   rw [k1,k2] at hq
   rw [eb,eb2]
   exact PySem.W.kat_lt (kp b o eo) hdt (kp b2 o2 eo2) hdt2 (tF (X:=its'.toArray.size) (Y:=its2.toArray.size) 0 hI hI2 (by simp; lia) hq)
  ·obtain ⟨is,i1,i2⟩:=qb (d:=Value.none) o1
   have hlt:∀i∈is,i<ds.length:=fun i hi=>by
    have:=List.mem_range.mp (i1.mem_iff.mp hi)
    lia
   have hl':=l.pick is hlt
   have hv':=jo ri is fun i hi=>by rw [<-l.length]; exact hlt i hi
   have ed:(is.map fun i=>ds.getD i .none)=uf (rN ys):=by
    have hpd:(is.map fun i=>ds.getD i .none).Perm ds:=by
     have:=i1.map fun i=>ds.getD i .none
     rw [hlen,iq] at this
     exact this
    refine mX (hpd.trans (hp.trans (dq _).symm)) ?_ (ki _) fun x hx=>(hkd x (hpd.mem_iff.mp hx)).1
    rw [i2,List.pairwise_map] at o2
    unfold Ord
    rw [List.pairwise_map]
    refine List.Pairwise.imp_of_mem (fun {i j} hi hj h=>?_) o2
    obtain ⟨_,_,_,_,_,_,_,_,_,_,k1⟩:=item i (hlt i hi)
    obtain ⟨_,_,_,_,_,_,_,_,_,_,k2⟩:=item j (hlt j hj)
    rw [k1,k2] at h
    exact h
   rw [i2] at hat
   rw [ed] at hl'
   refine ⟨.ref p,du H p (.lst (is.map fun i=>ws.getD i .non)),I.laid (t':=s.toks) kp hge ⟨?_,_,ep2,hv',hat⟩,rfl,q _ _ (bH (I.hok.fresh hge)) (RE.made hs (I.hok.fresh hge) hl')⟩
   rw [<-hl'.length,(dq _).length_eq,sizeLine_eq]; lia
theorem DQ:bootBuiltins "set" = some (.type "set"):=by decide +kernel
theorem Cb {x1 x2:Str} {e:Expr} {fe:DS->M DV} {p1 p2 pos1 pos2:Pos} (hh:X.A.handled=none) (hu:X.A.units+64<cLine) (hg1:Gl X x1) (hm1:X.mg x1=none) (hv1:bootBuiltins x1=some (.builtin "sorted")) (hg2:Gl X x2) (hm2:X.mg x2=none) (hv2:bootBuiltins x2=some (.type "set")) (ha:PX X E e fe) (hn1:x1 ≠ "__name__" :=by decide) (hdb1:(x1==("__debug__" : Str))=false:=by decide) (hn2:x2 ≠ "__name__" :=by decide) (hdb2:(x2==("__debug__" : Str))=false:=by decide)
  (hs:starEach [e] X.env=[(false,eval e X.env)]:=by rfl) (hs2:starEach [.Call (.Name x2 p2) [e] [] pos2] X.env=[(false,eval (.Call (.Name x2 p2) [e] [] pos2) X.env)]:=by rfl):PX X E (.Call (.Name x1 p1) [.Call (.Name x2 p2) [e] [] pos2] [] pos1) (aG tD (aa fe ai)):=
 PE.mono (su (BB hh hu) hg1 hm1 hv1 (iv (pL (DW hh hu) hg2 hm2 hv2 (ae ha ah hs) hn2 hdb2 hs rfl) jO hs2) hn1 hdb1 hs2 rfl) fun σ H Q q=>by
  show GV E (aa fe ai) σ H fun vs H1=>Gr X vs H1 fun v H2=>C1 X [v] H2 Q
  refine mf (g:=fun _=>tD) q fun O P δ xs r vs H1 rs rs1 s1 rx eg q=>?_
  unfold tD at eg
  split at eg
  ·obtain ⟨ys,e1,e2⟩:=cw eg
   split at e2
   ·rename_i hok
    cases e2
    cases rx with
    |cons r1 rr=>
     cases rr
     exact ⟨O,P,H,_,ys,_,rfl,s1,r1,e1,hok,fun v' H' s2 sp=>⟨O,P,H,ys,v',rfl,s1.trans s2,sp,hok,fun v'' H'' s3 re=>q v'' H'' (s2.trans s3) re⟩⟩
   ·cases e2
  ·cases eg
end
end L3
namespace LW
open PySem PySem.Spec L2 L3
noncomputable def iF (m c:Int):Bool:=decide (3<=m)&&decide (m<=13)&&(decide (1<=c)&&decide (c<=4))
noncomputable def DP (C CB:Addr) (fr:DS->M (List DV)):DS->M DV:=aG (G1 C CB iF "most" "colours") fr
noncomputable def qe (C:Addr):DS->M Out:=(bp (jz (yg gz gz (eC (.int 1)) (e2 bJ (af 1) (eC (.int 0))) (xY C "most" (af 0))) (yg gz fJ (eC (.int 0)) (e2 bJ (af 1) (eC (.int 1))) (xY C "colours" (af 0)))))
noncomputable def bP (C:Addr):List DV->M DV:=fP ["house", "tile"] (qe C)
noncomputable def gF:DS->M Out:=(bp (aG mJ (aa (bE 1 [0] (qK (aa (eC (.int 1)) (aa (aG bK (aa (af 0) ai)) ai))) (ax 0) cU (e2 gz (e2 bJ (af 1) (e2 gSub (af 0) (eC (.int 1)))) (e2 bJ (af 1) (af 0)))) ai)))
noncomputable def a9:List DV->M DV:=fP ["row"] (gF)
noncomputable def qr (C:Addr):DS->M Out:=(bB (dU (xT (fun δ=>bd (e2 ph (aG bK (aa (af 1) ai)) (eC (.int 12)) δ) bw) (eS (fun δ=>bd (yg gz gz (eC (.int 0)) (af 2) (eC (.int 2)) δ) bw))) (bp (eC (.bool false))) bA) (bB (dU (eS (fun δ=>bd ((aG mJ (aa (bE 1 [0,1] (oX (af 1)) (ax 0) cU (jz (aG (aw 2 (bP C)) (aa (af 1) (aa (af 0) ai))) (e2 gz (hX (af 2) (af 0)) (eC (.int 2))))) ai)) δ) bw)) (bp (eC (.bool false))) bA) (bp (aG (aw 1 (a9)) (aa (af 1) ai)))))
noncomputable def gW (C:Addr):List DV->M DV:=fP ["house", "hand", "jokers"] (qr C)
noncomputable def i8 (K:IU):DS->M Out:=(bB (dU (fun δ=>bd (e2 fJ (af 1) (aG (tU K) (aa (af 0) ai)) δ) bw) (bp (e2 (yM K) (af 0) (af 1))) bA) (bp (eC (.int 0))))
noncomputable def av (K:IU):List DV->M DV:=fP ["script", "k"] (i8 K)
noncomputable def nZ:DS->M Out:=(bB (aO 3 (bO (aa (eC (.int 48271)) (aa (eC (.int 69621)) (aa (eC (.int 16807)) (aa (eC (.int 39373)) (aa (eC (.int 30269)) (aa (eC (.int 40014)) (aa (eC (.int 40692)) (aa (eC (.int 50021)) (aa (eC (.int 61687)) (aa (eC (.int 71993)) (aa (eC (.int 83869)) (aa (eC (.int 95561)) (aa (eC (.int 30307)) ai))))))))))))))) (bB (aO 4 (e2 aY (e2 aY (e2 eR (e2 aY (e2 fM (af 0) (eC (.int 2147483647))) (eC (.int 12345))) (e2 bJ (af 3) (e2 fM (af 1) (eC (.int 13))))) (e2 eR (eC (.int 977)) (af 1))) (e2 eR (eC (.int 7919)) (e2 lO (af 1) (eC (.int 13)))))) (bB (aO 4 (e2 fM (af 4) (eC (.int 1000000007)))) (bp (e2 fM (e2 lO (e2 fM (e2 aY (e2 eR (af 4) (af 4)) (e2 eR (eC (.int 48271)) (af 1))) (eC (.int 1000000007))) (eC (.int 7))) (af 2))))))
noncomputable def au:List DV->M DV:=fP ["cell", "k", "many", "some", "stir"] (nZ)
noncomputable def sd:DS->M Out:=(bp (jz (Dt "int" (af 0)) (yz (Dt "bool" (af 0)))))
noncomputable def dz:List DV->M DV:=fP ["found"] (sd)
noncomputable def iE (K:IU):DS->M Out:=(bB (aO 1 (aG (aw 2 (av K)) (aa (af 0) (aa (eC (.int 0)) ai)))) (bp (bq (aa (e2 aY (eC (.int 3)) (aG (aw 3 (au)) (aa (af 1) (aa (eC (.int 1)) (aa (e2 bJ (bO (aa (eC (.int 4)) (aa (eC (.int 4)) (aa (eC (.int 4)) (aa (eC (.int 11)) ai))))) (aG (aw 3 (au)) (aa (af 1) (aa (eC (.int 2)) (aa (eC (.int 4)) ai))))) ai))))) (aa (e2 aY (eC (.int 1)) (aG (aw 3 (au)) (aa (af 1) (aa (eC (.int 3)) (aa (eC (.int 4)) ai))))) ai)))))
noncomputable def cT (K:IU):List DV->M DV:=fP ["script", "cell"] (iE K)
noncomputable def iW:DS->M Out:=(bB (aO 2 (bO ai)) (bB (eL (oX (af 0)) (ax 3) (dU (jA (fun δ=>bd (e2 fJ (hX (af 2) (af 3)) (eC (.int 2)) δ) bw) (fun δ=>bd (e2 fJ (aG bK (aa (af 2) ai)) (af 1) δ) bw)) (pB 2 (af 3)) bA)) (bp (aG vi (aa (af 2) ai)))))
noncomputable def bY:List DV->M DV:=fP ["tiles", "limit", "found", "tile"] (iW)
noncomputable def jc (K:IU):DS->M Out:=(bB (aO 5 (bO ai)) (bB (eL (tY (aa (eC (.int 3)) ai)) (ax 6) (bB (aO 7 (aG (aw 2 (av K)) (aa (af 0) (aa (e2 aY (af 1) (af 6)) ai)))) (bB (yx (ve 2 (hG (ax 8) (hG (ax 9) xi))) (bq (aa (e2 aY (eC (.int 1)) (aG (aw 3 (au)) (aa (af 7) (aa (eC (.int 1)) (aa (af 2) ai))))) (aa (aG (aw 3 (au)) (aa (af 7) (aa (eC (.int 2)) (aa (af 3) ai)))) ai)))) (bB (aO 10 (e2 aY (eC (.int 2)) (aG (aw 3 (au)) (aa (af 7) (aa (eC (.int 3)) (aa (eC (.int 4)) ai)))))) (bB (dU (fun δ=>bd (e2 (fg false) (aG (aw 3 (au)) (aa (af 7) (aa (eC (.int 4)) (aa (eC (.int 2)) ai)))) (eC (.int 0)) δ) bw) (aO 5 (e2 aY (af 5) (bE 1 [9] (qK (aa (af 8) (aa (e2 aY (aG tN (aa (af 2) (aa (e2 gSub (e2 aY (af 8) (af 10)) (eC (.int 1))) ai))) (eC (.int 1))) ai))) (ax 0) cU (bq (aa (af 0) (aa (af 1) ai)))))) (aO 5 (e2 aY (af 5) (bE 1 [8,7] (tY (aa (af 3) ai)) (ax 0) (fun δ=>bd (e2 ph (aG (aw 3 (au)) (aa (af 2) (aa (e2 aY (eC (.int 10)) (af 0)) (aa (eC (.int 4)) ai)))) (eC (.int 0)) δ) bw) (bq (aa (af 1) (aa (af 0) ai))))))) (dU (fun δ=>bd (e2 (fg false) (aG (aw 3 (au)) (aa (af 7) (aa (eC (.int 5)) (aa (eC (.int 3)) ai)))) (eC (.int 0)) δ) bw) (pB 5 (bq (aa (e2 aY (eC (.int 1)) (aG (aw 3 (au)) (aa (af 7) (aa (eC (.int 6)) (aa (af 2) ai))))) (aa (aG (aw 3 (au)) (aa (af 7) (aa (eC (.int 7)) (aa (af 3) ai)))) ai)))) bA)))))) (bB (dU (fun δ=>bd (e2 (fg false) (aG bK (aa (af 5) ai)) (eC (.int 0)) δ) bw) (aO 5 (bO (aa (bq (aa (eC (.int 1)) (aa (eC (.int 0)) ai))) ai))) bA) (bB (dU (fun δ=>bd (e2 (fg false) (e2 fM (aG (aw 2 (av K)) (aa (af 0) (aa (e2 aY (af 1) (eC (.int 3))) ai))) (eC (.int 9))) (eC (.int 7)) δ) bw) (bp (bO ai)) bA) (fun δ=>(bp (aG (aw 2 (bY)) (aa (af 5) (aa (e2 aY (eC (.int 1)) (e2 fM (aG (aw 2 (av K)) (aa (af 0) (aa (e2 aY (af 1) (eC (.int 3))) ai))) (af 4))) ai)))) (frz 5 δ))))))
noncomputable def cB (K:IU):List DV->M DV:=fP ["script", "start", "most", "colours", "limit", "tiles", "k", "cell", "number", "colour", "size"] (jc K)
theorem AH (a b:Bool):(if a=true then rt (DV.d (.bool b)) else rt (DV.d (.bool false)))=rt (.d (.bool (a&&b))):=by cases a <;> rfl
theorem wL (a b:Bool):(if a=true then rt b else rt false)=(rt (a&&b):M Bool):=by cases a <;> rfl
theorem yw (a b:Bool):(if a=true then rt true else rt b)=(rt (a||b):M Bool):=by cases a <;> rfl
theorem zW (a b:Bool):(if a=true then rt (DV.d (.bool true)) else rt (DV.d (.bool b)))=rt (.d (.bool (a||b))):=by cases a <;> rfl
local macro_rules|`(tactic| walk_at "py")=>`(tactic| simp only [fP,mR,bB,aO,bp,dU,bA,yx,oU,Ft,af,eC,e2,aa,ai,bq,bO,aG,aw,L3.args_nil,u0,nk,oT,ow,lZ,rM,lX,Option.map_some,aK,yi,qN,bg,uE,uh,vA,uT,rm,qI,zv,rQ,rX,vy,uR,rV,oC,nY,wK,eS,jA,xT,jz,Ha,yz,yg,xY,List.map_cons,List.map_nil,List.length_cons,List.length_nil,List.replicate,List.cons_append,List.nil_append,List.append_nil,List.getElem?_cons_zero,List.getElem?_cons_succ,List.set_cons_zero,List.set_cons_succ,Option.join_some,Nat.reduceAdd,Nat.reduceSub,Nat.reduceLeDiff,Nat.reduceEqDiff,if_true,if_false,ite_true,ite_false,Bool.not_true,Bool.not_false,Bool.false_eq_true,Nat.zero_add,vT,nr,Af,nq,mW,qp,rf,rK,cC,nP,b9,ro,rW,gw,nt,dY,i7,AH,wL,yw,zW])
noncomputable def aF (ns:List Int) (k:Int):Int:=if k<(ns.length:Int) then (atI ns k).getD 0 else 0
theorem Aq {α:Type} {xs:List α} {i:Int} (h0:0<=i) (h1:i<(xs.length:Int)):∃x,atI xs i=some x:=by
 unfold atI AU
 rw [if_pos h0,if_pos h1]
 exact ⟨xs[i.toNat]'0x1,0x4⟩
theorem yH (K:IU) (ns:List Int):tU K [.scr K ns]=rt (.d (.int ns.length)):=by
 unfold tU
 exact if_pos rfl
theorem Bj (K:IU) (ns:List Int) (i:Int):yM K (.scr K ns) (.d (.int i))=bd (op (atI ns i)) fun n=>rt (.d (.int n)):=by
 unfold yM
 exact if_pos rfl
theorem zT (K:IU) (ns:List Int) (k:Int) (h:0<=k):av K [.scr K ns,.d (.int k)]=rt (.d (.int (aF ns k))):=by
 unfold av i8 aF
 walk_at "py"
 rw [yH]
 walk_at "py"
 by_cases hk:k<(ns.length:Int)
 ·obtain ⟨x,hx⟩:=Aq h hk
  rw [decide_eq_true hk,Bj,hx,if_pos hk]
  walk_at "py"
  rfl
 ·rw [decide_eq_false hk,if_neg hk]
  walk_at "py"
theorem Ez {i:Int} (h0:0<=i) (h1:i<13):∃x:Int,atI ([.int 48271,.int 69621,.int 16807,.int 39373,.int 30269,.int 40014,.int 40692,.int 50021,.int 61687,.int 71993,.int 83869,.int 95561,.int 30307]:List D) i=some (.int x)/\0<x/\x<100000:=by
 obtain ⟨n,rfl⟩:=Int.eq_ofNat_of_zero_le h0
 have hn:n<13:=by lia
 match n,hn with
 |0,_|1,_|2,_|3,_|4,_|5,_|6,_|7,_|8,_|9,_|10,_|11,_|12,_=>exact ⟨_,rfl,0x3,0x3⟩
theorem mS {xs:List D} {i:Int} {x:D} (h:atI xs i=some x):bJ (.own xs) (.d (.int i))=rt (.d x):=by
 unfold bJ
 simp only [h,bg,aK]
theorem kW {xs:List D} {i:Int} {x:D} (h:atI xs i=some x):bJ (.new xs) (.d (.int i))=rt (.d x):=by
 unfold bJ
 simp only [h,bg,aK]
theorem aU {xs:List D} {i:Int} {x:D} (h:atI xs i=some x):bJ (.d (.tuple xs)) (.d (.int i))=rt (.d x):=by
 unfold bJ
 simp only [h,bg,aK]
theorem kx {xs:List D} {i:Int} {x:D} (h:atI xs i=some x):bJ (.d (.list xs)) (.d (.int i))=rt (.d x):=by
 unfold bJ
 simp only [h,bg,aK]
theorem rO {i j:Int} (h:0<=i) (h':i<18446744073709551616):sQ i j=true:=by
 unfold sQ
 have a:decide (-(2 ^ 64)<i)=true:=decide_eq_true 0x1
 have b:decide (i<2 ^ 64)=true:=decide_eq_true 0x1
 rw [a,b]; rfl
theorem Er {i j:Int} (h:0<=j) (h':j<18446744073709551616):sQ i j=true:=by
 unfold sQ
 have a:decide (-(2 ^ 64)<j)=true:=decide_eq_true 0x1
 have b:decide (j<2 ^ 64)=true:=decide_eq_true 0x1
 rw [a,b,Bool.and_true,Bool.or_true]
theorem tx (cell k many:Int) (hm:0<many):∃r,au [.d (.int cell),.d (.int k),.d (.int many)]=rt (.d (.int r))/\0<=r/\r<many:=by
 unfold au nZ
 walk_at "py"
 rw [cF 0x3,cF 0x3,iR 0x3 0x3]
 obtain ⟨x,hx,x0,x1⟩:=Ez (Int.emod_nonneg k (by decide:(13:Int)≠0)) (Int.emod_lt_of_pos k (by decide:(0:Int)<13))
 walk_at "py"
 rw [mS hx]
 walk_at "py"
 rw [eT (Er 0x1 0x1),eT (rO 0x3 0x3),eT (rO 0x3 0x3)]
 walk_at "py"
 rw [cF 0x3]
 walk_at "py"
 generalize hs:((cell % 2147483647+12345)*x+977*k+7919*(k / 13)) % 1000000007=st
 have s0:0<=st:=by rw [<-hs]; exact Int.emod_nonneg _ 0x3
 have s1:st<1000000007:=by rw [<-hs]; exact Int.emod_lt_of_pos _ 0x3
 rw [eT (rO s0 0x1),eT (rO 0x3 0x3)]
 walk_at "py"
 rw [cF 0x3]
 walk_at "py"
 rw [iR 0x3 0x3]
 walk_at "py"
 rw [cF hm]
 walk_at "py"
 exact ⟨_,rfl,Int.emod_nonneg _ 0x1,Int.emod_lt_of_pos _ hm⟩
local macro_rules|`(tactic| walk_at "py")=>`(tactic| simp only [fP,mR,bB,aO,bp,dU,bA,yx,oU,Ft,af,eC,e2,aa,ai,bq,bO,aG,aw,L3.args_nil,u0,nk,oT,ow,lZ,rM,lX,Option.map_some,aK,yi,qN,bg,uE,uh,vA,uT,rm,qI,zv,rQ,rX,vy,uR,rV,oC,nY,wK,eS,jA,xT,jz,Ha,yz,yg,xY,List.map_cons,List.map_nil,List.length_cons,List.length_nil,List.replicate,List.cons_append,List.nil_append,List.append_nil,List.getElem?_cons_zero,List.getElem?_cons_succ,List.set_cons_zero,List.set_cons_succ,Option.join_some,Nat.reduceAdd,Nat.reduceSub,Nat.reduceLeDiff,Nat.reduceEqDiff,if_true,if_false,ite_true,ite_false,Bool.not_true,Bool.not_false,Bool.false_eq_true,Nat.zero_add,vT,nr,Af,nq,mW,qp,rf,rK,cC,nP,b9,ro,rW,gw,nt,dY,i7,AH,wL,yw,zW])
theorem CO (K:IU) (ns:List Int):∃m c,cT K [.scr K ns]=rt (.d (.tuple [.int m,.int c]))/\3<=m/\m<=13/\1<=c/\c<=4:=by
 unfold cT iE
 walk_at "py"
 rw [zT K ns 0 0x3]
 walk_at "py"
 obtain ⟨r1,h1,a1,b1⟩:=tx (aF ns 0) 2 4 0x3
 rw [h1]
 walk_at "py"
 have hx:∃x:Int,atI ([.int 4,.int 4,.int 4,.int 11]:List D) r1=some (.int x)/\4<=x/\x<=11:=by
  obtain ⟨n,rfl⟩:=Int.eq_ofNat_of_zero_le a1
  have hn:n<4:=by lia
  match n,hn with
  |0,_|1,_|2,_|3,_=>exact ⟨_,rfl,0x3,0x3⟩
 obtain ⟨x,hx,x4,x11⟩:=hx
 rw [kW hx]
 walk_at "py"
 obtain ⟨r2,h2,a2,b2⟩:=tx (aF ns 0) 1 x 0x1
 obtain ⟨r3,h3,a3,b3⟩:=tx (aF ns 0) 3 4 0x3
 rw [h2,h3]
 walk_at "py"
 exact ⟨_,_,rfl,0x1,0x1,0x1,0x1⟩
noncomputable def pr (p:Int×Int):D:=.tuple [.int p.1,.int p.2]
theorem j5 (p q:Int×Int):PyData.eqv (pr p) (pr q)=decide (p=q):=by
 obtain ⟨a,b⟩:=p
 obtain ⟨c,d⟩:=q
 show PyData.eqvAll ([a,b].map PyData.int) ([c,d].map PyData.int)=_
 rw [oJ]
 simp
theorem qW:∀ps qs:List (Int×Int),PyData.eqvAll (ps.map pr) (qs.map pr)=decide (ps=qs)
 |[],[]=>rfl
 |[],_::_=>rfl
 |_::_,[]=>rfl
 |p::ps,q::qs=>by
  rw [List.map_cons,List.map_cons,PyData.eqvAll,j5,qW ps qs]
  by_cases h:p=q
  ·subst h; simp
  ·simp [h]
theorem qU {p q:Int×Int} (h:pr p=pr q):p=q:=by
 have:=j5 p q
 rw [h,j5] at this
 simpa using this.symm
theorem lz:∀ps:List (Int×Int),PyData.depthAll (ps.map pr)<=1
 |[]=>by decide
 |p::ps=>by
  rw [List.map_cons,PyData.depthAll]
  have h1:(pr p).depth=1:=rfl
  have h2:=lz ps
  lia
noncomputable def le (p q:Int×Int):Bool:=!(ll [q.1,q.2] [p.1,p.2])
theorem Gk (p q:Int×Int):cD false (pr p) (pr q)=some (le p q):=by
 obtain ⟨a,b⟩:=p
 obtain ⟨c,d⟩:=q
 show cL false [.int a,.int b] [.int c,.int d]=some (!(HT.lexLt [c,d] [a,b]))
 unfold cL
 have e1:PyData.eqv (.int a) (.int c)=(a==c):=rfl
 have e2:PyData.eqv (.int b) (.int d)=(b==d):=rfl
 rw [e1,HT.lexLt_cons,HT.lexLt_cons]
 by_cases h:a=c
 ·subst h
  rw [if_pos (beq_self_eq_true a),if_pos rfl]
  unfold cL
  rw [e2]
  by_cases h':b=d
  ·subst h'
   rw [if_pos (beq_self_eq_true b),if_pos rfl]
   rfl
  ·rw [if_neg (by simpa using h'),if_neg (Ne.symm h')]
   show some (decide (b<=d))=_
   congr 1
   by_cases hb:b<=d
   ·simp [hb]
   ·simp [hb]; lia
 ·rw [if_neg (by simpa using h),if_neg (Ne.symm h)]
  show some (decide (a<=c))=_
  congr 1
  by_cases hb:a<=c
  ·simp [hb]
  ·simp [hb]; lia
theorem Bz (p q:Int×Int):gz (.d (pr p)) (.d (pr q))=rt (.d (.bool (le p q))):=by
 have h:gz (.d (pr p)) (.d (pr q))=gC false (.d (pr p)) (.d (pr q)):=rfl
 rw [h]
 show (if (pr p).depth<=60 then bd (op (cD false (pr p) (pr q))) (fun k=>rt (DV.d (.bool k))) else none)=_
 rw [if_pos (show (pr p).depth<=60 from (by decide:1<=60)),Gk]
 rfl
theorem sj {fe:DS->M DV} {δ:DS} {g:D->D}:∀{xs:List D},(∀d∈xs,fe (δ.set 0 (some (.d d)))=rt (.d (g d)))->cK (ax 0) cU fe δ xs=some (xs.map g)
 |[],_=>rfl
 |d::r,h=>by
  have h1:=h d IF
  have ih:=sj (xs:=r) fun e he=>h e (IE _ he)
  unfold cK
  simp only [ax,cU,rt]
  rw [h1,ih]
  rfl
theorem je {bs:List Bool}:mJ [.new (bs.map PyData.bool)]=rt (.d (.bool (bs.all id))):=by
 unfold mJ
 simp only [mW,bg,aK,xp]
noncomputable def bx (m c:Int) (p:Int×Int):Bool:=decide (1<=p.1)&&decide (p.1<=m)&&(decide (0<=p.2)&&decide (p.2<c))
noncomputable def hs (C:Addr) (m c:Int):DV:=.ob C [("most",.int m),("colours",.int c)]
theorem xg (C:Addr) (m c:Int):Ap C "most" (hs C m c)=rt (.d (.int m)):=by
 show (if C=C then bd (op (List.lookup ("most" : Str) [(("most" : Str),PyData.int m),("colours",.int c)])) fun d=>rt (DV.d d) else none)=_
 rw [if_pos rfl,List.lookup_cons]
 simp only [beq_self_eq_true]
 rfl
theorem qT (C:Addr) (m c:Int):Ap C "colours" (hs C m c)=rt (.d (.int c)):=by
 show (if C=C then bd (op (List.lookup ("colours" : Str) [(("most" : Str),PyData.int m),("colours",.int c)])) fun d=>rt (DV.d d) else none)=_
 rw [if_pos rfl,List.lookup_cons]
 have h:(("colours" : Str) == "most")=false:=by decide +kernel
 rw [h]
 simp only [List.lookup_cons,beq_self_eq_true]
 rfl
theorem BC (C:Addr) (m c:Int) (r:List DV):args (hs C m c::r)=(args r).map (hs C m c::·):=nk _ _ _
theorem Aa (C:Addr) (m c:Int) (p:Int×Int):bP C [hs C m c,.d (pr p)]=rt (.d (.bool (bx m c p))):=by
 unfold bP qe
 walk_at "py"
 have g0:bJ (.d (pr p)) (.d (.int 0))=rt (.d (.int p.1)):=aU rfl
 have g1:bJ (.d (pr p)) (.d (.int 1))=rt (.d (.int p.2)):=aU rfl
 rw [g0,g1,xg,qT]
 walk_at "py"
 rfl
noncomputable def iP (ps:List (Int×Int)):Bool:=(List.range (ps.length-1)).all fun k=>le (ps.getD k (0,0)) (ps.getD (k+1) (0,0))
theorem j7 {α:Type} {xs:List α} {k:Nat} (h:k<xs.length) (d:α):atI xs (k:Int)=some (xs.getD k d):=by
 unfold atI AU
 rw [if_pos 0x1,if_pos 0x1]
 simp [h]
theorem zH {ps:List (Int×Int)} {k:Nat} (h:k<ps.length):atI (ps.map pr) (k:Int)=some (pr (ps.getD k (0,0))):=by
 rw [qZ,j7 h (0,0)]
 rfl
theorem Ak {lo:Int} {n:Nat} {d:D} (h:d∈dB lo n):∃i:Nat,i<n/\d=.int (lo+(i:Int)):=by
 unfold dB at h
 obtain ⟨i,hi,e⟩:=List.mem_map.mp h
 exact ⟨i,List.mem_range.mp hi,e.symm⟩
theorem uk (ps:List (Int×Int)):cK (ax 0) cU (e2 gz (e2 bJ (af 1) (e2 gSub (af 0) (eC (.int 1)))) (e2 bJ (af 1) (af 0))) (cG 1 [0] [some (.d (.list (ps.map pr)))]) (dB 1 ((ps.length:Int)-1).toNat)=some (((List.range (ps.length-1)).map fun k=>le (ps.getD k (0,0)) (ps.getD (k+1) (0,0))).map PyData.bool):=by
 rw [sj (g:=fun d=>match d with|.int i=>.bool (le (ps.getD (i-1).toNat (0,0)) (ps.getD i.toNat (0,0)))|_=>.none)]
 ·have hn:((ps.length:Int)-1).toNat=ps.length-1:=by lia
  rw [hn]
  unfold dB
  rw [List.map_map,List.map_map]
  congr 1
  refine List.map_congr_left fun k hk=>?_
  show PyData.bool (le (ps.getD (1+(k:Int)-1).toNat (0,0)) (ps.getD (1+(k:Int)).toNat (0,0)))=_
  have e1:(1+(k:Int)-1).toNat=k:=by lia
  have e2:(1+(k:Int)).toNat=k+1:=by lia
  rw [e1,e2]
  rfl
 ·intro d hd
  obtain ⟨i,hi,rfl⟩:=Ak hd
  unfold cG
  walk_at "py"
  have hi2:i+1<ps.length:=by lia
  have e1:(1+(i:Int)-1)=(i:Int):=by lia
  have e2:(1+(i:Int))=((i+1:Nat):Int):=by lia
  rw [e1,e2,kx (zH 0x1),kx (zH hi2)]
  walk_at "py"
  rw [Bz]
  have e3:((i+1:Nat):Int)-1=(i:Int):=by lia
  simp only [e3,Int.toNat_natCast]
theorem gM (ps:List (Int×Int)):bK [.d (.list (ps.map pr))]=rt (.d (.int (ps.length:Int))):=by
 show rt (DV.d (.int ((ps.map pr).length:Int)))=_
 rw [List.length_map]
theorem jS {fr:DS->M (List DV)} {δ:DS} {i j:Int} (h:fr δ=rt [.d (.int i),.d (.int j)]) (hi:-1000<=i) (hi':i<=1000) (hj:-1000<=j) (hj':j<=1000):qK fr δ=rt (dB i (j-i).toNat):=by
 unfold qK
 rw [h]
 exact if_pos ⟨0x1,0x1,0x1,0x1⟩
theorem j6 {fr:DS->M (List DV)} {δ:DS} {j:Int} (h:fr δ=rt [.d (.int j)]) (hj:-1000<=j) (hj':j<=1000):tY fr δ=rt (dB 0 j.toNat):=by
 unfold tY
 rw [h]
 exact if_pos ⟨0x1,0x1⟩
theorem bT {k:Nat} {js:List Nat} {fi:DS->M (List D)} {sf:D->DS->Option DS} {gc:DS->M Bool} {fe:DS->M DV} {δ:DS} {xs ys:List D} (h1:fi δ=rt xs) (h2:xs.length<=1000000) (h3:cK sf gc fe (cG k js δ) xs=some ys):bE k js fi sf gc fe δ=rt (.new ys):=by
 unfold bE
 rw [h1,aK,if_pos h2,h3]
 rfl
theorem Bg (ps:List (Int×Int)) (hl:ps.length<=1000):a9 [.d (.list (ps.map pr))]=rt (.d (.bool (iP ps))):=by
 unfold a9 gF
 walk_at "py"
 rw [bT (jS (i:=1) (j:=(ps.length:Int)) (by walk_at "py"; rw [gM]; walk_at "py") 0x1 0x1 0x1 0x1) (by rw [eB]; lia) (uk ps)]
 walk_at "py"
 rw [je]
 walk_at "py"
 unfold iP
 rw [List.all_map]
 rfl
local macro_rules|`(tactic| walk_at "py")=>`(tactic| simp only [fP,mR,bB,aO,bp,dU,bA,yx,oU,Ft,af,eC,e2,aa,ai,bq,bO,aG,aw,L3.args_nil,u0,nk,oT,ow,lZ,rM,lX,Option.map_some,aK,yi,qN,bg,uE,uh,vA,uT,rm,qI,zv,rQ,rX,vy,uR,rV,oC,nY,wK,eS,jA,xT,jz,Ha,yz,yg,xY,List.map_cons,List.map_nil,List.length_cons,List.length_nil,List.replicate,List.cons_append,List.nil_append,List.append_nil,List.getElem?_cons_zero,List.getElem?_cons_succ,List.set_cons_zero,List.set_cons_succ,Option.join_some,Nat.reduceAdd,Nat.reduceSub,Nat.reduceLeDiff,Nat.reduceEqDiff,if_true,if_false,ite_true,ite_false,Bool.not_true,Bool.not_false,Bool.false_eq_true,Nat.zero_add,vT,nr,Af,nq,mW,qp,rf,rK,cC,nP,b9,ro,rW,gw,nt,dY,i7,AH,wL,yw,zW])
theorem dw {α:Type} {f:α->D} {fe:DS->M DV} {δ:DS} {g:α->D}:∀{as:List α},(∀a∈as,fe (δ.set 0 (some (.d (f a))))=rt (.d (g a)))->cK (ax 0) cU fe δ (as.map f)=some (as.map g)
 |[],_=>rfl
 |a::r,h=>by
  have h1:=h a IF
  have ih:=dw (as:=r) fun e he=>h e (IE _ he)
  rw [List.map_cons,List.map_cons]
  unfold cK
  simp only [ax,cU,rt]
  rw [h1,ih]
  rfl
noncomputable def lQ (ps:List (Int×Int)) (p:Int×Int):Int:=(((ps.map pr).countP fun z=>PyData.eqv z (pr p):Nat):Int)
theorem oA (ps:List (Int×Int)) (p:Int×Int):qB (.d (.list (ps.map pr))) (.d (pr p))=rt (.d (.int (lQ ps p))):=by
 unfold qB lQ
 exact if_pos (show (pr p).depth<=60 from (by decide:1<=60))
theorem nK (ps:List (Int×Int)) (p:Int×Int):qB (.own (ps.map pr)) (.d (pr p))=rt (.d (.int (lQ ps p))):=by
 unfold qB lQ
 exact if_pos (show (pr p).depth<=60 from (by decide:1<=60))
noncomputable def tok (m c:Int) (ps:List (Int×Int)) (p:Int×Int):Bool:=bx m c p&&decide (lQ ps p<=2)
theorem xP (C:Addr) (m c j:Int) (ps:List (Int×Int)) :
  cK (ax 0) cU (jz (aG (aw 2 (bP C)) (aa (af 1) (aa (af 0) ai))) (e2 gz (hX (af 2) (af 0)) (eC (.int 2)))) (cG 1 [0,1] [some (hs C m c),some (.d (.list (ps.map pr))),some (.d (.int j))]) (ps.map pr)=some ((ps.map (tok m c ps)).map PyData.bool):=by
 rw [List.map_map]
 refine dw fun p hp=>?_
 unfold cG
 walk_at "py"
 unfold hX
 walk_at "py"
 simp only [BC]
 walk_at "py"
 rw [Aa,oA]
 walk_at "py"
 rfl
noncomputable def GS (j:Int):Bool:=decide (0<=j)&&decide (j<=2)
noncomputable def ik (m c:Int) (ps:List (Int×Int)) (j:Int):Bool:=decide (ps.length<=12)&&GS j&&(ps.map (tok m c ps)).all id&&iP ps
theorem ic {f:DS->M DV} {δ:DS} {xs:List D} (h:f δ=rt (.d (.list xs))):oX f δ=rt xs:=by
 unfold oX
 rw [h]
 rfl
theorem Ab (y z:DV) (x:D) (fo:List DV->M DV) (b:Bool) (h:fo [.d x]=rt (.d (.bool b))):bd (bd (rt (Out.nx [some y,some (.d x),some z])) (GZ (bp (aG (aw 1 fo) (aa (af 1) ai))))) ze=rt (.d (.bool b)):=by
 walk_at "py"
 rw [h]
 walk_at "py"
theorem EN (C:Addr) (m c j:Int) (ps:List (Int×Int)) (hl:ps.length<=1000):gW C [hs C m c,.d (.list (ps.map pr)),.d (.int j)]=rt (.d (.bool (ik m c ps j))):=by
 have ho:=Bg ps hl
 unfold gW qr
 generalize a9=fo at ho ⊢
 walk_at "py"
 rw [gM]
 walk_at "py"
 have ej:(decide (0<=j)&&decide (j<=2))=GS j:=rfl
 have el:(decide ((12:Int)<(ps.length:Int)))=!decide (ps.length<=12):=by
  by_cases h:ps.length<=12
  ·rw [decide_eq_true h,decide_eq_false 0x1]; rfl
  ·rw [decide_eq_false h,decide_eq_true 0x1]; rfl
 rw [ej,el]
 unfold ik
 cases h12:decide (ps.length<=12) with
 |false=>
  simp only [Bool.not_false,Bool.true_or,if_true,Bool.false_and]
  walk_at "py"
 |true=>
  cases hj:GS j with
  |false=>
   simp only [Bool.not_true,Bool.not_false,Bool.false_or,if_true,Bool.and_false,Bool.false_and]
   walk_at "py"
  |true=>
   simp only [Bool.not_true,Bool.false_or,Bool.false_eq_true,if_false,Bool.true_and]
   walk_at "py"
   rw [bT (ic rfl) (by rw [List.length_map]; lia) (xP C m c j ps)]
   walk_at "py"
   rw [je]
   walk_at "py"
   cases ha:(ps.map (tok m c ps)).all id with
   |false=>
    simp only [Bool.not_false,if_true,Bool.false_and]
    walk_at "py"
   |true=>
    simp only [Bool.not_true,Bool.false_eq_true,if_false,Bool.true_and]
    exact Ab _ _ _ _ _ ho
theorem vE:∀{l:List D},(∀x∈l,∃p,pr p=x)->∃qs:List (Int×Int),l=qs.map pr
 |[],_=>⟨[],rfl⟩
 |x::r,h=>by
  obtain ⟨p,hp⟩:=h x IF
  obtain ⟨qs,hq⟩:=vE (l:=r) fun y hy=>h y (IE _ hy)
  exact ⟨p::qs,by rw [List.map_cons,hp,hq]⟩
theorem Cv (ps:List (Int×Int)):∃qs:List (Int×Int),uf (ps.map pr)=qs.map pr/\qs.length=ps.length:=by
 obtain ⟨qs,hq⟩:=vE (l:=uf (ps.map pr)) fun x hx=>by
  obtain ⟨p,_,e⟩:=List.mem_map.mp ((dq _).mem_iff.mp hx)
  exact ⟨p,e⟩
 refine ⟨qs,hq,?_⟩
 have:=(dq (ps.map pr)).length_eq
 rw [hq,List.length_map,List.length_map] at this
 exact this
theorem yC (ps:List (Int×Int)):(ps.map pr).all (fun y=>(kT y).isSome&&decide ((kO y).length≠0))=true:=by
 rw [List.all_map,List.all_eq_true]
 intro p _
 rfl
theorem Bq {x:DV} {ps:List (Int×Int)} (hx:ju x=some (ps.map pr)) (hl:ps.length<64):vi [x]=rt (.new (uf (ps.map pr))):=by
 unfold vi
 simp only [hx,bg,aK]
 exact if_pos ⟨by rw [List.length_map]; exact hl,yC ps⟩
theorem Bi {ps:List (Int×Int)} (h:iP ps=true):L3.Ord (ps.map pr):=by
 have adj:∀k,k+1<ps.length->ll (kO (pr (ps.getD (k+1) (0,0)))) (kO (pr (ps.getD k (0,0))))=false:=fun k hk=>by
  have:=List.all_eq_true.mp h k (List.mem_range.mpr 0x1)
  show ll [(ps.getD (k+1) (0,0)).1,(ps.getD (k+1) (0,0)).2] [(ps.getD k (0,0)).1,(ps.getD k (0,0)).2]=false
  simpa [le] using this
 have far:∀d i,i+d<ps.length->ll (kO (pr (ps.getD (i+d) (0,0)))) (kO (pr (ps.getD i (0,0))))=false:=fun d=>by
  induction d with
  |zero=>exact fun i _=>cX _
  |succ d ih=>exact fun i hi=>ee (ih i 0x1) (adj (i+d) 0x1)
 unfold L3.Ord
 rw [List.pairwise_map,List.pairwise_iff_getElem]
 intro i j hi hj hij
 have:=far (j-i) i 0x1
 rw [show i+(j-i)=j by lia] at this
 simpa [hi,hj] using this
theorem Cc {ps:List (Int×Int)} (h:L3.Ord (ps.map pr)):iP ps=true:=by
 unfold L3.Ord at h
 rw [List.pairwise_map,List.pairwise_iff_getElem] at h
 unfold iP
 rw [List.all_eq_true]
 intro k hk
 have hk:=List.mem_range.mp hk
 have:=h k (k+1) 0x1 0x1 0x1
 unfold le
 have e1:ps.getD k (0,0)=ps[k]'0x1:=by simp [show k<ps.length by lia]
 have e2:ps.getD (k+1) (0,0)=ps[k+1]'0x1:=by simp [show k+1<ps.length by lia]
 rw [e1,e2]
 have this':ll [(ps[k+1]'0x1).1,(ps[k+1]'0x1).2] [(ps[k]'0x1).1,(ps[k]'0x1).2]=false:=this
 rw [this']
 rfl
theorem Cm (neg:Bool) (ps qs:List (Int×Int)) (x:DV) (hx:kZ x=some (.list (qs.map pr))):fg neg (.d (.list (ps.map pr))) x=rt (.d (.bool (if neg=true then !decide (ps=qs) else decide (ps=qs)))):=by
 unfold fg
 rw [hx]
 simp only [qp]
 have hd:(PyData.list (ps.map pr)).depth<=60:=by
  have:=lz ps
  unfold PyData.depth
  lia
 rw [if_pos hd]
 have he:PyData.eqv (.list (ps.map pr)) (.list (qs.map pr))=decide (ps=qs):=qW ps qs
 rw [he]
section
variable {F G:DS->M Out} {f fa fb fc:DS->M DV} {fr:DS->M (List DV)} {gc:DS->M Bool} {g:DV->DV->M DV} {δ δ':DS} {x y z:DV} {k:Bool}
theorem df (h:F δ=rt (.nx δ')):bB F G δ=G δ':=by unfold bB; rw [h]; rfl
theorem ja (h:F δ=rt (.rt x)):bB F G δ=rt (.rt x):=by unfold bB; rw [h]; rfl
theorem kl (h:gc δ=rt k):dU gc F G δ=if k=true then F δ else G δ:=by unfold dU; rw [h]; rfl
theorem iK {i:Nat} (h:f δ=rt x) (ha:nN x=some y):aO i f δ=rt (.nx (δ.set i (some y))):=by unfold aO; rw [h,aK,ha]; rfl
theorem bz (h:f δ=rt x):bp f δ=rt (.rt x):=by unfold bp; rw [h]; rfl
theorem ak (h1:fa δ=rt x) (h2:fb δ=rt y):e2 g fa fb δ=g x y:=by unfold e2; rw [h1,aK,h2]; rfl
theorem br (h1:fa δ=rt x):aa fa ai δ=rt [x]:=by unfold aa; rw [h1]; rfl
theorem cp (h1:fa δ=rt x) (h2:fb δ=rt y):aa fa (aa fb ai) δ=rt [x,y]:=by
 have:=br h2
 unfold aa at this ⊢
 rw [h1,aK,this]; rfl
theorem jE (h1:fa δ=rt x) (h2:fb δ=rt y) (h3:fc δ=rt z):aa fa (aa fb (aa fc ai)) δ=rt [x,y,z]:=by
 have:=cp h2 h3
 unfold aa at this ⊢
 rw [h1,aK,this]; rfl
theorem bS {G:List DV->M DV} {xs:List DV} (h:fr δ=rt xs):aG G fr δ=G xs:=by unfold aG; rw [h]; rfl
theorem aZ {n:Nat} {fm:List DV->M DV} {xs ys:List DV} (h:fr δ=rt xs) (ha:args xs=some ys) (hn:ys.length=n) (hm:fm ys=rt x):aG (aw n fm) fr δ=rt x:=by
 rw [bS h]
 unfold aw
 rw [ha,bg,aK,if_pos hn,hm]; rfl
theorem i9 {a b:D} (h1:fa δ=rt (.d a)) (h2:fb δ=rt (.d b)):bq (aa fa (aa fb ai)) δ=rt (.d (.tuple [a,b])):=by
 unfold bq
 rw [cp h1 h2]
 rfl
theorem aX {b:Bool} (h:f δ=rt (.d (.bool b))):(fun δ=>bd (f δ) bw) δ=rt b:=by
 show bd (f δ) bw=_
 rw [h]; rfl
theorem u5 {ga gb:DS->M Bool} {a b:Bool} (h1:ga δ=rt a) (h2:gb δ=rt b):jA ga gb δ=rt (a&&b):=by
 unfold jA
 rw [h1,aK,h2,wL]
theorem rD {ga:DS->M Bool} {a:Bool} (h1:ga δ=rt a):eS ga δ=rt (!a):=by
 unfold eS
 rw [h1,aK]
theorem tm {cell k many:Int} (h1:fa δ=rt (.d (.int cell))) (h2:fb δ=rt (.d (.int k))) (h3:fc δ=rt (.d (.int many))) (hm:0<many):∃r,aG (aw 3 au) (aa fa (aa fb (aa fc ai))) δ=rt (.d (.int r))/\0<=r/\r<many:=by
 obtain ⟨r,h,h0,hr⟩:=tx cell k many hm
 exact ⟨r,aZ (jE h1 h2 h3) rfl rfl h,h0,hr⟩
theorem qg {K:IU} {ns:List Int} {k:Int} (h1:fa δ=rt (.scr K ns)) (h2:fb δ=rt (.d (.int k))) (hk:0<=k):aG (aw 2 (av K)) (aa fa (aa fb ai)) δ=rt (.d (.int (aF ns k))):=
 aZ (cp h1 h2) rfl rfl (zT K ns k hk)
theorem zw {i:Nat} {xs:List D} {d:D} (hi:δ[i]?=some (some (.own xs))) (h:f δ=rt x) (hd:vS x=some d) (hl:xs.length<1000000):pB i f δ=rt (.nx (δ.set i (some (.own (xs++[d]))))):=by
 unfold pB
 rw [hi]
 simp only
 rw [h,aK,hd,bg,aK,if_pos hl]
theorem um {xs ys:List D} (h0:uy x y=none) (hx:ju x=some xs) (hy:ju y=some ys) (hl:xs.length+ys.length<=1000000):aY x y=rt (.new (xs++ys)):=by
 unfold aY yh
 rw [h0]
 unfold AM
 rw [hx,hy]
 exact if_pos hl
end
theorem nC (ps:List (Int×Int)):bK [.own (ps.map pr)]=rt (.d (.int (ps.length:Int))):=by
 show rt (DV.d (.int ((ps.map pr).length:Int)))=_
 rw [List.length_map]
theorem jq (a b:Int):fg false (.d (.int a)) (.d (.int b))=rt (.d (.bool (a==b))):=rfl
noncomputable def tB:DS->M Out:=dU (jA (fun δ=>bd (e2 fJ (hX (af 2) (af 3)) (eC (.int 2)) δ) bw) (fun δ=>bd (e2 fJ (aG bK (aa (af 2) ai)) (af 1) δ) bw)) (pB 2 (af 3)) bA
theorem nu {fo fe:DS->M DV} {δ:DS} {x y:DV} {xs:List D} (h1:fo δ=rt x) (hx:ju x=some xs) (h2:fe δ=rt y):hX fo fe δ=qB x y:=by
 unfold hX
 rw [h1,aK,hx,bg,aK,h2,aK]
noncomputable def hB (K:IU):DS->M Out:=(bB (aO 7 (aG (aw 2 (av K)) (aa (af 0) (aa (e2 aY (af 1) (af 6)) ai)))) (bB (yx (ve 2 (hG (ax 8) (hG (ax 9) xi))) (bq (aa (e2 aY (eC (.int 1)) (aG (aw 3 (au)) (aa (af 7) (aa (eC (.int 1)) (aa (af 2) ai))))) (aa (aG (aw 3 (au)) (aa (af 7) (aa (eC (.int 2)) (aa (af 3) ai)))) ai)))) (bB (aO 10 (e2 aY (eC (.int 2)) (aG (aw 3 (au)) (aa (af 7) (aa (eC (.int 3)) (aa (eC (.int 4)) ai)))))) (bB (dU (fun δ=>bd (e2 (fg false) (aG (aw 3 (au)) (aa (af 7) (aa (eC (.int 4)) (aa (eC (.int 2)) ai)))) (eC (.int 0)) δ) bw) (aO 5 (e2 aY (af 5) (bE 1 [9] (qK (aa (af 8) (aa (e2 aY (aG tN (aa (af 2) (aa (e2 gSub (e2 aY (af 8) (af 10)) (eC (.int 1))) ai))) (eC (.int 1))) ai))) (ax 0) cU (bq (aa (af 0) (aa (af 1) ai)))))) (aO 5 (e2 aY (af 5) (bE 1 [8,7] (tY (aa (af 3) ai)) (ax 0) (fun δ=>bd (e2 ph (aG (aw 3 (au)) (aa (af 2) (aa (e2 aY (eC (.int 10)) (af 0)) (aa (eC (.int 4)) ai)))) (eC (.int 0)) δ) bw) (bq (aa (af 1) (aa (af 0) ai))))))) (dU (fun δ=>bd (e2 (fg false) (aG (aw 3 (au)) (aa (af 7) (aa (eC (.int 5)) (aa (eC (.int 3)) ai)))) (eC (.int 0)) δ) bw) (pB 5 (bq (aa (e2 aY (eC (.int 1)) (aG (aw 3 (au)) (aa (af 7) (aa (eC (.int 6)) (aa (af 2) ai))))) (aa (aG (aw 3 (au)) (aa (af 7) (aa (eC (.int 7)) (aa (af 3) ai)))) ai)))) bA)))))
section
variable (K:IU) (ns:List Int) (m c st lim:Int)
noncomputable def hδ (ts:List (Int×Int)) (x6 x7 x8 x9 x10:Option DV):DS:=[some (.scr K ns),some (.d (.int st)),some (.d (.int m)),some (.d (.int c)),some (.d (.int lim)),some (.own (ts.map pr)),x6,x7,x8,x9,x10]
theorem jT {α:Type} {f:α->D} {gc:DS->M Bool} {fe:DS->M DV} {δ:DS} {b:α->Bool} {g:α->D}:∀{as:List α},(∀a∈as,gc (δ.set 0 (some (.d (f a))))=rt (b a)/\fe (δ.set 0 (some (.d (f a))))=rt (.d (g a)))->cK (ax 0) gc fe δ (as.map f)=some ((as.filter b).map g)
 |[],_=>rfl
 |a::r,h=>by
  obtain ⟨h1,h2⟩:=h a IF
  have ih:=jT (as:=r) fun e he=>h e (IE _ he)
  rw [List.map_cons]
  unfold cK
  simp only [ax]
  rw [h1]
  cases hb:b a with
  |false=>
   rw [List.filter_cons_of_neg (by simp [hb])]
   exact ih
  |true=>
   rw [List.filter_cons_of_pos hb]
   simp only [rt]
   rw [h2,ih]
   rfl
theorem Ar {sf:D->DS->Option DS} {f:DS->M DV} {δ δ':DS} {x:DV} {d:D} (h:f δ=rt x) (hd:vS x=some d) (hs:sf d δ=some δ'):yx sf f δ=rt (.nx δ'):=by
 unfold yx
 rw [h,aK,hd,bg,aK,hs]
 rfl
variable {m c}
end
section
variable (m c:Int) (ps:List (Int×Int)) (cell:Int)
theorem FN (δ:DS) (i:Nat) (hi:δ[i]?=some (some (.d (.list (ps.map pr))))):aG bK (aa (af i) ai) δ=rt (.d (.int (ps.length:Int))):=by
 have hv:af i δ=rt (.d (.list (ps.map pr))):=by unfold af; rw [hi]; rfl
 rw [bS (br hv)]
 exact gM ps
end
theorem BH (fs:List (Int×Int)) (p z:Int×Int):lQ (fs++[p]) z=lQ fs z+(if p=z then 1 else 0):=by
 unfold lQ
 rw [List.map_append,List.countP_append]
 simp only [List.map_cons,List.map_nil,List.countP_cons,List.countP_nil,j5]
 by_cases h:p=z <;> simp [h]
theorem uV (T:Option DV) (lim:Int) (fs:List (Int×Int)) (p:Int×Int) (hl:fs.length<=1000) :
  ∃fs':List (Int×Int),tB [T,some (.d (.int lim)),some (.own (fs.map pr)),some (.d (pr p))]=rt (.nx [T,some (.d (.int lim)),some (.own (fs'.map pr)),some (.d (pr p))])/\((fs'=fs)\/(fs'=fs++[p]/\lQ fs p<2/\(fs.length:Int)<lim)):=by
 have c1:hX (af 2) (af 3) [T,some (.d (.int lim)),some (.own (fs.map pr)),some (.d (pr p))]=rt (.d (.int (lQ fs p))):=(nu rfl rfl rfl).trans (nK fs p)
 have c2:aG bK (aa (af 2) ai) [T,some (.d (.int lim)),some (.own (fs.map pr)),some (.d (pr p))]=rt (.d (.int (fs.length:Int))):=(bS (br rfl)).trans (nC fs)
 have t1:(jA (fun δ=>bd (e2 fJ (hX (af 2) (af 3)) (eC (.int 2)) δ) bw) (fun δ=>bd (e2 fJ (aG bK (aa (af 2) ai)) (af 1) δ) bw)) [T,some (.d (.int lim)),some (.own (fs.map pr)),some (.d (pr p))]=rt (decide (lQ fs p<2)&&decide ((fs.length:Int)<lim)):=by
  exact u5 (aX ((ak (y:=.d (.int 2)) c1 rfl).trans (dY _ _))) (aX ((ak (y:=.d (.int lim)) c2 rfl).trans (dY _ _)))
 unfold tB
 rw [kl t1]
 by_cases h:(decide (lQ fs p<2)&&decide ((fs.length:Int)<lim))=true
 ·rw [if_pos h]
  refine ⟨fs++[p],?_,.inr ⟨rfl,?_⟩⟩
  ·rw [zw (xs:=fs.map pr) (x:=.d (pr p)) (d:=pr p) rfl rfl rfl (by rw [List.length_map]; lia)]
   rw [List.map_append]
   rfl
  ·rw [Bool.and_eq_true] at h
   exact ⟨of_decide_eq_true h.1,of_decide_eq_true h.2⟩
 ·rw [if_neg h]
  exact ⟨fs,rfl,.inl rfl⟩
theorem nG (P:Int×Int->Prop) (T:Option DV) (lim:Int) (h1:0<=lim) (h2:lim<=900):∀(qs fs:List (Int×Int)) (x:Option DV),(fs.length:Int)<=lim->(∀p∈fs,P p)->(∀p∈qs,P p)->(∀p,lQ fs p<=2) ->
  ∃(fs':List (Int×Int)) (x':Option DV),dD (ax 3) tB (qs.map pr) [T,some (.d (.int lim)),some (.own (fs.map pr)),x]=rt (.nx [T,some (.d (.int lim)),some (.own (fs'.map pr)),x'])/\(fs'.length:Int)<=lim/\(∀p∈fs',P p)/\(∀p,lQ fs' p<=2)
 |[],fs,x,hf,hP,_,hC=>⟨fs,x,rfl,hf,hP,hC⟩
 |p::qs,fs,x,hf,hP,hQ,hC=>by
  obtain ⟨fs1,e1,h⟩:=uV T lim fs p 0x1
  have hf1:(fs1.length:Int)<=lim:=by
   rcases h with h|⟨h,_,h'⟩
   ·rw [h]; exact hf
   ·rw [h,List.length_append,List.length_singleton]; lia
  have hP1:∀p∈fs1,P p:=by
   rcases h with h|⟨h,_,h'⟩
   ·rw [h]; exact hP
   ·rw [h]
    intro z hz
    rcases List.mem_append.mp hz with hz|hz
    ·exact hP z hz
    ·rw [List.mem_singleton.mp hz]; exact hQ p IF
  have hC1:∀p,lQ fs1 p<=2:=by
   rcases h with h|⟨h,hc,h'⟩
   ·rw [h]; exact hC
   ·rw [h]
    intro z
    rw [BH]
    split
    ·rename_i hz; rw [<-hz]; lia
    ·have:=hC z; lia
  obtain ⟨fs2,x2,e2,hf2⟩:=nG P T lim h1 h2 qs fs1 (some (.d (pr p))) hf1 hP1 (fun z hz=>hQ z (IE _ hz)) hC1
  refine ⟨fs2,x2,?_,hf2⟩
  rw [List.map_cons]
  unfold dD
  have hs:ax 3 (pr p) [T,some (.d (.int lim)),some (.own (fs.map pr)),x]=some [T,some (.d (.int lim)),some (.own (fs.map pr)),some (.d (pr p))]:=rfl
  rw [hs,bg,aK,e1,aK,rg]
  exact e2
theorem Cu (P:Int×Int->Prop) (ps:List (Int×Int)) (hps:∀p∈ps,P p) (lim:Int) (h1:0<=lim) (h2:lim<=12):∃qs:List (Int×Int),bY [.d (.list (ps.map pr)),.d (.int lim)]=rt (.new (qs.map pr))/\(qs.length:Int)<=lim/\(∀p∈qs,P p)/\(∀p,lQ qs p<=2)/\iP qs=true:=by
 obtain ⟨fs,x,e,hf,hP,hC⟩:=nG P (some (.d (.list (ps.map pr)))) lim h1 0x1 ps [] none (by simpa using h1) 0x4 hps (fun p=>by show (0:Int)<=2; decide)
 obtain ⟨qs,hq,hl⟩:=Cv fs
 have hperm:(qs.map pr).Perm (fs.map pr):=by rw [<-hq]; exact dq _
 refine ⟨qs,?_,0x1,fun p hp=>?_,fun p=>?_,?_⟩
 rotate_left
 ·obtain ⟨z,hz,e⟩:=List.mem_map.mp (hperm.mem_iff.mp (List.mem_map_of_mem hp))
  rw [<-qU e]; exact hP z hz
 ·have:lQ qs p=lQ fs p:=by unfold lQ; rw [hperm.countP_eq]
  rw [this]; exact hC p
 ·exact Cc (by rw [<-hq]; exact ki _)
 unfold bY iW fP
 have s1:aO 2 (bO ai) [some (.d (.list (ps.map pr))),some (.d (.int lim)),none,none]=rt (.nx [some (.d (.list (ps.map pr))),some (.d (.int lim)),some (.own []),none]):=rfl
 have s2:eL (oX (af 0)) (ax 3) tB [some (.d (.list (ps.map pr))),some (.d (.int lim)),some (.own []),none]=rt (.nx [some (.d (.list (ps.map pr))),some (.d (.int lim)),some (.own (fs.map pr)),x]):=by
  unfold eL
  rw [ic (xs:=ps.map pr) rfl,aK]
  exact e
 have s3:bp (aG vi (aa (af 2) ai)) [some (.d (.list (ps.map pr))),some (.d (.int lim)),some (.own (fs.map pr)),x]=rt (.rt (.new (qs.map pr))):=by
  refine bz ((bS (br (x:=.own (fs.map pr)) rfl)).trans ?_)
  rw [Bq (ps:=fs) rfl 0x1,hq]
 have hd:mR ["tiles", "limit", "found", "tile"] [.d (.list (ps.map pr)),.d (.int lim)]=[some (.d (.list (ps.map pr))),some (.d (.int lim)),none,none]:=rfl
 rw [hd,show (dU (jA (fun δ=>bd (e2 fJ (hX (af 2) (af 3)) (eC (.int 2)) δ) bw) (fun δ=>bd (e2 fJ (aG bK (aa (af 2) ai)) (af 1) δ) bw)) (pB 2 (af 3)) bA)=tB from rfl]
 rw [df s1,df s2,s3]
 rfl
section
variable (K:IU) (ns:List Int) (m c st lim:Int)
theorem xf (δ:DS) (num hi col:Int) (h0:0<=num) (h1:num<=20) (h2:hi<=20) (h3:-5<=hi) (hd:δ[9]?=some (some (.d (.int col)))) {fi:DS->M (List DV)} (hf:fi δ=rt [.d (.int num),.d (.int hi)]) :
  ∃qs:List (Int×Int),bE 1 [9] (qK fi) (ax 0) cU (bq (aa (af 0) (aa (af 1) ai))) δ=rt (.new (qs.map pr))/\qs.length<=20/\(∀p∈qs,p.2=col/\num<=p.1/\p.1<hi):=by
 refine ⟨(List.range (hi-num).toNat).map fun (k:Nat)=>(num+(k:Int),col),?_,by simp; lia,fun p hp=>?_⟩
 rotate_left
 ·obtain ⟨k,hk,rfl⟩:=List.mem_map.mp hp
  have:=List.mem_range.mp hk
  exact ⟨rfl,by show num<=num+(k:Int); lia,by show num+(k:Int)<hi; lia⟩
 refine bT (jS hf 0x1 0x1 0x1 0x1) (by rw [eB]; lia) ?_
 unfold dB cG
 rw [List.map_map]
 refine dw fun k hk=>?_
 have e:([9].map fun j=>(δ[j]?).join)=[some (.d (.int col))]:=by
  simp only [List.map_cons,List.map_nil,hd,Option.join_some]
 rw [e]
 exact i9 rfl rfl
theorem xc (δ:DS) (num cell:Int) (h1:c<=10) (h0:0<=c) (hd8:δ[8]?=some (some (.d (.int num)))) (hd7:δ[7]?=some (some (.d (.int cell)))) {fi:DS->M (List DV)} (hf:fi δ=rt [.d (.int c)]) :
  ∃qs:List (Int×Int),bE 1 [8,7] (tY fi) (ax 0) (fun δ=>bd (e2 ph (aG (aw 3 (au)) (aa (af 2) (aa (e2 aY (eC (.int 10)) (af 0)) (aa (eC (.int 4)) ai)))) (eC (.int 0)) δ) bw) (bq (aa (af 1) (aa (af 0) ai))) δ=rt (.new (qs.map pr))/\qs.length<=20/\(∀p∈qs,p.1=num/\0<=p.2/\p.2<c):=by
 have hmix:∀k:Int,∃r,au [.d (.int cell),.d (.int k),.d (.int 4)]=rt (.d (.int r)):=fun k=>let ⟨r,h,_⟩:=tx cell k 4 0x3; ⟨r,h⟩
 let mx:Int->Int:=fun k=>(hmix k).choose
 have hmx:∀k,au [.d (.int cell),.d (.int k),.d (.int 4)]=rt (.d (.int (mx k))):=fun k=>(hmix k).choose_spec
 refine ⟨((List.range c.toNat).filter fun (k:Nat)=>decide (0<mx (10+(0+(k:Int))))).map fun (k:Nat)=>(num,0+(k:Int)),?_,?_,fun p hp=>?_⟩
 ·refine bT (j6 hf 0x1 0x1) (by rw [eB]; lia) ?_
  unfold dB cG
  have e:([8,7].map fun j=>(δ[j]?).join)=[some (.d (.int num)),some (.d (.int cell))]:=by
   simp only [List.map_cons,List.map_nil,hd8,hd7,Option.join_some]
  rw [e,List.map_map]
  refine jT fun k hk=>⟨?_,i9 rfl rfl⟩
  exact aX ((ak (y:=.d (.int 0)) (aZ (jE (y:=.d (.int (10+(0+(k:Int))))) rfl ((ak (x:=.d (.int 10)) (y:=.d (.int (0+(k:Int)))) rfl rfl).trans (cC _ _)) rfl) rfl rfl (hmx (10+(0+(k:Int))))) rfl).trans (gw _ _))
 ·rw [List.length_map]
  have:=List.length_filter_le (fun (k:Nat)=>decide (0<mx (10+(0+(k:Int))))) (List.range c.toNat)
  rw [List.length_range] at this
  lia
 ·obtain ⟨k,hk,rfl⟩:=List.mem_map.mp hp
  have:=List.mem_range.mp (List.mem_filter.mp hk).1
  exact ⟨rfl,by show (0:Int)<=0+(k:Int); lia,by show 0+(k:Int)<c; lia⟩
variable {m c}
theorem xC (hm:1<=m) (hm':m<=13) (hc:1<=c) (hc':c<=4) (k cell num col size:Int) (hcol:0<=col) (hcol':col<c) (hn:1<=num) (hn':num<=m) (hs:2<=size) (hs':size<=5) (ts:List (Int×Int)) (hl:ts.length<=500) (hP:∀p∈ts,bx m c p=true) :
  ∃ts':List (Int×Int),dU (fun δ=>bd (e2 (fg false) (aG (aw 3 (au)) (aa (af 7) (aa (eC (.int 4)) (aa (eC (.int 2)) ai)))) (eC (.int 0)) δ) bw) (aO 5 (e2 aY (af 5) (bE 1 [9] (qK (aa (af 8) (aa (e2 aY (aG tN (aa (af 2) (aa (e2 L3.gSub (e2 aY (af 8) (af 10)) (eC (.int 1))) ai))) (eC (.int 1))) ai))) (ax 0) cU (bq (aa (af 0) (aa (af 1) ai)))))) (aO 5 (e2 aY (af 5) (bE 1 [8,7] (tY (aa (af 3) ai)) (ax 0) (fun δ=>bd (e2 ph (aG (aw 3 (au)) (aa (af 2) (aa (e2 aY (eC (.int 10)) (af 0)) (aa (eC (.int 4)) ai)))) (eC (.int 0)) δ) bw) (bq (aa (af 1) (aa (af 0) ai))))))
   (hδ K ns m c st lim ts (some (.d (.int k))) (some (.d (.int cell))) (some (.d (.int num))) (some (.d (.int col))) (some (.d (.int size))))=rt (.nx (hδ K ns m c st lim ts' (some (.d (.int k))) (some (.d (.int cell))) (some (.d (.int num))) (some (.d (.int col))) (some (.d (.int size)))))/\ts'.length<=ts.length+20/\(∀p∈ts',bx m c p=true):=by
 obtain ⟨r,hr,_⟩:=tm (δ:=hδ K ns m c st lim ts (some (.d (.int k))) (some (.d (.int cell))) (some (.d (.int num))) (some (.d (.int col))) (some (.d (.int size)))) (fa:=af 7) (fb:=eC (.int 4)) (fc:=eC (.int 2)) (cell:=cell) (k:=4) (many:=2) rfl rfl rfl 0x3
 rw [kl (aX ((ak (y:=.d (.int 0)) hr rfl).trans (jq _ _)))]
 have fin:∀(qs:List (Int×Int)) (f:DS->M DV),f (hδ K ns m c st lim ts (some (.d (.int k))) (some (.d (.int cell))) (some (.d (.int num))) (some (.d (.int col))) (some (.d (.int size))))=rt (.new (qs.map pr))->qs.length<=20 ->
   aO 5 (e2 aY (af 5) f) (hδ K ns m c st lim ts (some (.d (.int k))) (some (.d (.int cell))) (some (.d (.int num))) (some (.d (.int col))) (some (.d (.int size))))=rt (.nx (hδ K ns m c st lim (ts++qs) (some (.d (.int k))) (some (.d (.int cell))) (some (.d (.int num))) (some (.d (.int col))) (some (.d (.int size))))):=fun qs f h hq=>by
  rw [iK (x:=.new (ts.map pr++qs.map pr)) (y:=.own (ts.map pr++qs.map pr)) ((ak (x:=.own (ts.map pr)) (y:=.new (qs.map pr)) rfl h).trans (um (xs:=ts.map pr) (ys:=qs.map pr) rfl rfl rfl (by simp; lia))) rfl]
  unfold hδ
  rw [List.map_append]
  rfl
 by_cases h:(r==0)=true
 ·rw [if_pos h]
  obtain ⟨qs,hq,hql,hqP⟩:=xf (hδ K ns m c st lim ts (some (.d (.int k))) (some (.d (.int cell))) (some (.d (.int num))) (some (.d (.int col))) (some (.d (.int size)))) num ((if num+size-1<m then num+size-1 else m)+1) col 0x1 0x1 (by split <;> lia) (by split <;> lia) rfl
   (fi:=aa (af 8) (aa (e2 aY (aG tN (aa (af 2) (aa (e2 L3.gSub (e2 aY (af 8) (af 10)) (eC (.int 1))) ai))) (eC (.int 1))) ai)) (cp rfl (ak (x:=.d (.int (if num+size-1<m then num+size-1 else m))) (y:=.d (.int 1)) (bS (cp (x:=.d (.int m)) (y:=.d (.int (num+size-1))) rfl (ak (x:=.d (.int (num+size))) (y:=.d (.int 1)) (ak (x:=.d (.int num)) (y:=.d (.int size)) rfl rfl) rfl))) rfl))
  refine ⟨ts++qs,fin qs _ hq hql,by simp; lia,fun p hp=>?_⟩
  rcases List.mem_append.mp hp with hp|hp
  ·exact hP p hp
  ·obtain ⟨e1,e2,e3⟩:=hqP p hp
   have hmin:(if num+size-1<m then num+size-1 else m)<=m:=by split <;> lia
   unfold bx; simp; lia
 ·rw [if_neg h]
  obtain ⟨qs,hq,hql,hqP⟩:=xc c (hδ K ns m c st lim ts (some (.d (.int k))) (some (.d (.int cell))) (some (.d (.int num))) (some (.d (.int col))) (some (.d (.int size)))) num cell 0x1 0x1 rfl rfl (fi:=aa (af 3) ai) (br rfl)
  refine ⟨ts++qs,fin qs _ hq hql,by simp; lia,fun p hp=>?_⟩
  rcases List.mem_append.mp hp with hp|hp
  ·exact hP p hp
  ·obtain ⟨e1,e2,e3⟩:=hqP p hp
   unfold bx; simp; lia
theorem yb (hm:1<=m) (hm':m<=13) (hc:1<=c) (hc':c<=4) (k cell:Int) (y8 y9 y10:Option DV) (ts:List (Int×Int)) (hl:ts.length<=900) (hP:∀p∈ts,bx m c p=true) :
  ∃ts':List (Int×Int),dU (fun δ=>bd (e2 (fg false) (aG (aw 3 (au)) (aa (af 7) (aa (eC (.int 5)) (aa (eC (.int 3)) ai)))) (eC (.int 0)) δ) bw) (pB 5 (bq (aa (e2 aY (eC (.int 1)) (aG (aw 3 (au)) (aa (af 7) (aa (eC (.int 6)) (aa (af 2) ai))))) (aa (aG (aw 3 (au)) (aa (af 7) (aa (eC (.int 7)) (aa (af 3) ai)))) ai)))) bA
   (hδ K ns m c st lim ts (some (.d (.int k))) (some (.d (.int cell))) y8 y9 y10)=rt (.nx (hδ K ns m c st lim ts' (some (.d (.int k))) (some (.d (.int cell))) y8 y9 y10))/\ts'.length<=ts.length+1/\(∀p∈ts',bx m c p=true):=by
 obtain ⟨r,hr,_⟩:=tm (δ:=hδ K ns m c st lim ts (some (.d (.int k))) (some (.d (.int cell))) y8 y9 y10) (fa:=af 7) (fb:=eC (.int 5)) (fc:=eC (.int 3)) (cell:=cell) (k:=5) (many:=3) rfl rfl rfl 0x3
 obtain ⟨r6,h6,a6,b6⟩:=tm (δ:=hδ K ns m c st lim ts (some (.d (.int k))) (some (.d (.int cell))) y8 y9 y10) (fa:=af 7) (fb:=eC (.int 6)) (fc:=af 2) (cell:=cell) (k:=6) (many:=m) rfl rfl rfl 0x1
 obtain ⟨r7,h7,a7,b7⟩:=tm (δ:=hδ K ns m c st lim ts (some (.d (.int k))) (some (.d (.int cell))) y8 y9 y10) (fa:=af 7) (fb:=eC (.int 7)) (fc:=af 3) (cell:=cell) (k:=7) (many:=c) rfl rfl rfl 0x1
 rw [kl (aX ((ak (y:=.d (.int 0)) hr rfl).trans (jq _ _)))]
 by_cases h:(r==0)=true
 ·rw [if_pos h]
  refine ⟨ts++[(1+r6,r7)],?_,0x4,fun p hp=>?_⟩
  rotate_left
  ·rcases List.mem_append.mp hp with hp|hp
   ·exact hP p hp
   ·rw [List.mem_singleton.mp hp]
    unfold bx; simp; lia
  rw [zw (xs:=ts.map pr) (x:=.d (pr (1+r6,r7))) (d:=pr (1+r6,r7)) rfl (i9 ((ak (x:=.d (.int 1)) (y:=.d (.int r6)) rfl h6).trans (cC _ _)) h7) rfl (by rw [List.length_map]; lia)]
  unfold hδ
  rw [List.map_append]
  rfl
 ·rw [if_neg h]
  exact ⟨ts,rfl,0x1,hP⟩
theorem vh (hm:1<=m) (hm':m<=13) (hc:1<=c) (hc':c<=4) (k:Int) (hk:0<=k) (h0:0<=st) (ts:List (Int×Int)) (hl:ts.length<=500) (hP:∀p∈ts,bx m c p=true) (x7 x8 x9 x10:Option DV) :
  ∃(ts':List (Int×Int)) (y7 y8 y9 y10:Option DV),hB K (hδ K ns m c st lim ts (some (.d (.int k))) x7 x8 x9 x10)=rt (.nx (hδ K ns m c st lim ts' (some (.d (.int k))) y7 y8 y9 y10))/\ts'.length<=ts.length+21/\(∀p∈ts',bx m c p=true):=by
 have s7:aO 7 (aG (aw 2 (av K)) (aa (af 0) (aa (e2 aY (af 1) (af 6)) ai))) (hδ K ns m c st lim ts (some (.d (.int k))) x7 x8 x9 x10)=rt (.nx (hδ K ns m c st lim ts (some (.d (.int k))) (some (.d (.int (aF ns (st+k))))) x8 x9 x10)):=
  iK (y:=.d (.int (aF ns (st+k)))) (qg rfl ((ak (x:=.d (.int st)) (y:=.d (.int k)) rfl rfl).trans (cC _ _)) 0x1) rfl
 generalize aF ns (st+k)=cell at s7
 obtain ⟨r1,h1,a1,b1⟩:=tm (δ:=hδ K ns m c st lim ts (some (.d (.int k))) (some (.d (.int cell))) x8 x9 x10) (fa:=af 7) (fb:=eC (.int 1)) (fc:=af 2) (cell:=cell) (k:=1) (many:=m) rfl rfl rfl 0x1
 obtain ⟨r2,h2,a2,b2⟩:=tm (δ:=hδ K ns m c st lim ts (some (.d (.int k))) (some (.d (.int cell))) x8 x9 x10) (fa:=af 7) (fb:=eC (.int 2)) (fc:=af 3) (cell:=cell) (k:=2) (many:=c) rfl rfl rfl 0x1
 have s89:yx (ve 2 (hG (ax 8) (hG (ax 9) xi))) (bq (aa (e2 aY (eC (.int 1)) (aG (aw 3 (au)) (aa (af 7) (aa (eC (.int 1)) (aa (af 2) ai))))) (aa (aG (aw 3 (au)) (aa (af 7) (aa (eC (.int 2)) (aa (af 3) ai)))) ai)))
   (hδ K ns m c st lim ts (some (.d (.int k))) (some (.d (.int cell))) x8 x9 x10)=rt (.nx (hδ K ns m c st lim ts (some (.d (.int k))) (some (.d (.int cell))) (some (.d (.int (1+r1)))) (some (.d (.int r2))) x10)):=
  Ar (i9 ((ak (x:=.d (.int 1)) (y:=.d (.int r1)) rfl h1).trans (cC _ _)) h2) rfl rfl
 obtain ⟨r3,h3,a3,b3⟩:=tm (δ:=hδ K ns m c st lim ts (some (.d (.int k))) (some (.d (.int cell))) (some (.d (.int (1+r1)))) (some (.d (.int r2))) x10) (fa:=af 7) (fb:=eC (.int 3)) (fc:=eC (.int 4)) (cell:=cell) (k:=3) (many:=4) rfl rfl rfl 0x3
 have s10:aO 10 (e2 aY (eC (.int 2)) (aG (aw 3 (au)) (aa (af 7) (aa (eC (.int 3)) (aa (eC (.int 4)) ai))))) (hδ K ns m c st lim ts (some (.d (.int k))) (some (.d (.int cell))) (some (.d (.int (1+r1)))) (some (.d (.int r2))) x10)=rt (.nx (hδ K ns m c st lim ts (some (.d (.int k))) (some (.d (.int cell))) (some (.d (.int (1+r1)))) (some (.d (.int r2))) (some (.d (.int (2+r3)))))):=
  iK (y:=.d (.int (2+r3))) ((ak (x:=.d (.int 2)) (y:=.d (.int r3)) rfl h3).trans (cC _ _)) rfl
 obtain ⟨ts1,s11,l1,P1⟩:=xC K ns st lim hm hm' hc hc' k cell (1+r1) r2 (2+r3) a2 b2 0x1 0x1 0x1 0x1 ts hl hP
 obtain ⟨ts2,s12,l2,P2⟩:=yb K ns st lim hm hm' hc hc' k cell (some (.d (.int (1+r1)))) (some (.d (.int r2))) (some (.d (.int (2+r3)))) ts1 0x1 P1
 refine ⟨ts2,some (.d (.int cell)),some (.d (.int (1+r1))),some (.d (.int r2)),some (.d (.int (2+r3))),?_,0x1,P2⟩
 unfold hB
 rw [df s7,df s89,df s10,df s11]
 exact s12
theorem oy (hm:1<=m) (hm':m<=13) (hc:1<=c) (hc':c<=4) (hst:0<=st):∀(ks:List Int) (ts:List (Int×Int)) (x6 x7 x8 x9 x10:Option DV),(∀k∈ks,0<=k)->ts.length+21*ks.length<=500->(∀p∈ts,bx m c p=true) ->
  ∃(ts':List (Int×Int)) (y6 y7 y8 y9 y10:Option DV),dD (ax 6) (hB K) (ks.map PyData.int) (hδ K ns m c st lim ts x6 x7 x8 x9 x10)=rt (.nx (hδ K ns m c st lim ts' y6 y7 y8 y9 y10))/\ts'.length<=500/\(∀p∈ts',bx m c p=true)
 |[],ts,x6,x7,x8,x9,x10,_,hl,hP=>⟨ts,x6,x7,x8,x9,x10,rfl,by simpa using hl,hP⟩
 |k::ks,ts,x6,x7,x8,x9,x10,h0,hl,hP=>by
  rw [List.length_cons] at hl
  obtain ⟨ts1,y7,y8,y9,y10,e1,l1,P1⟩:=vh K ns st lim hm hm' hc hc' k (h0 k IF) hst ts 0x1 hP x7 x8 x9 x10
  obtain ⟨ts2,z6,z7,z8,z9,z10,e2,l2⟩:=oy hm hm' hc hc' hst ks ts1 (some (.d (.int k))) y7 y8 y9 y10 (fun k' h=>h0 k' (IE _ h)) 0x1 P1
  refine ⟨ts2,z6,z7,z8,z9,z10,?_,l2⟩
  rw [List.map_cons]
  unfold dD
  have hs:ax 6 (.int k) (hδ K ns m c st lim ts x6 x7 x8 x9 x10)=some (hδ K ns m c st lim ts (some (.d (.int k))) x7 x8 x9 x10):=rfl
  rw [hs,bg,aK,e1,aK,rg]
  exact e2
end
theorem xB (K:IU) (ns:List Int) (m c st lim:Int) (h0:0<=st) (h1:1<=lim) (h12:lim<=12) (ts:List (Int×Int)) (hP:∀p∈ts,bx m c p=true) (y6 y7 y8 y9 y10:Option DV) :
  ∃qs:List (Int×Int),(fun δ=>(bp (aG (aw 2 (bY)) (aa (af 5) (aa (e2 aY (eC (.int 1)) (e2 fM (aG (aw 2 (av K)) (aa (af 0) (aa (e2 aY (af 1) (eC (.int 3))) ai))) (af 4))) ai)))) (frz 5 δ)) (hδ K ns m c st lim ts y6 y7 y8 y9 y10)=rt (.rt (.new (qs.map pr)))/\(qs.length:Int)<=lim/\(∀p∈qs,bx m c p=true)/\(∀p,lQ qs p<=2)/\iP qs=true:=by
 have b0:=Int.emod_nonneg (aF ns (st+3)) (show lim≠0 by lia)
 have b1:=Int.emod_lt_of_pos (aF ns (st+3)) (show 0<lim by lia)
 obtain ⟨qs,hq,hl⟩:=Cu (fun p=>bx m c p=true) ts hP (1+aF ns (st+3) % lim) 0x1 0x1
 refine ⟨qs,?_,0x1,hl.2⟩
 have hf:frz 5 (hδ K ns m c st lim ts y6 y7 y8 y9 y10)=[some (.scr K ns),some (.d (.int st)),some (.d (.int m)),some (.d (.int c)),some (.d (.int lim)),some (.d (.list (ts.map pr))),y6,y7,y8,y9,y10]:=rfl
 show bp _ (frz 5 _)=_
 rw [hf]
 refine bz (aZ (cp (x:=.d (.list (ts.map pr))) (y:=.d (.int (1+aF ns (st+3) % lim))) rfl ?_) rfl rfl hq)
 refine (ak (x:=.d (.int 1)) (y:=.d (.int (aF ns (st+3) % lim))) rfl ?_).trans (cC _ _)
 exact (ak (x:=.d (.int (aF ns (st+3)))) (y:=.d (.int lim)) (qg rfl ((ak (x:=.d (.int st)) (y:=.d (.int 3)) rfl rfl).trans (cC _ _)) 0x1) rfl).trans (cF 0x1)
theorem u4 (K:IU) (ns:List Int) (m c st lim:Int) (h0:0<=st) (h1:1<=lim) (h12:lim<=12) (hm:1<=m) (hm':m<=13) (hc:1<=c) (hc':c<=4) :
  ∃qs:List (Int×Int),cB K [.scr K ns,.d (.int st),.d (.int m),.d (.int c),.d (.int lim)]=rt (.new (qs.map pr))/\(qs.length:Int)<=lim/\(∀p∈qs,bx m c p=true)/\(∀p,lQ qs p<=2)/\iP qs=true:=by
 obtain ⟨ts,y6,y7,y8,y9,y10,hlp,htl,hP⟩:=oy K ns st lim hm hm' hc hc' h0 [0,1,2] [] none none none none none 0x3 0x3 0x4
 have s1:aO 5 (bO ai) [some (.scr K ns),some (.d (.int st)),some (.d (.int m)),some (.d (.int c)),some (.d (.int lim)),none,none,none,none,none,none]=rt (.nx (hδ K ns m c st lim [] none none none none none)):=rfl
 have s2:eL (tY (aa (eC (.int 3)) ai)) (ax 6) (hB K) (hδ K ns m c st lim [] none none none none none)=rt (.nx (hδ K ns m c st lim ts y6 y7 y8 y9 y10)):=by
  unfold eL
  rw [j6 (j:=3) (br rfl) 0x3 0x3,aK]
  exact hlp
 have hlen:aG bK (aa (af 5) ai) (hδ K ns m c st lim ts y6 y7 y8 y9 y10)=rt (.d (.int (ts.length:Int))):=(bS (br (x:=.own (ts.map pr)) rfl)).trans (nC ts)
 have s3:∃ts':List (Int×Int),dU (fun δ=>bd (e2 (fg false) (aG bK (aa (af 5) ai)) (eC (.int 0)) δ) bw) (aO 5 (bO (aa (bq (aa (eC (.int 1)) (aa (eC (.int 0)) ai))) ai))) bA (hδ K ns m c st lim ts y6 y7 y8 y9 y10)=rt (.nx (hδ K ns m c st lim ts' y6 y7 y8 y9 y10))/\(∀p∈ts',bx m c p=true):=by
  rw [kl (aX ((ak (y:=.d (.int 0)) hlen rfl).trans (jq _ _)))]
  by_cases h:(((ts.length:Int))==0)=true
  ·rw [if_pos h]
   exact ⟨[(1,0)],rfl,fun p hp=>by rw [List.mem_singleton.mp hp]; unfold bx; simp; lia⟩
  ·rw [if_neg h]
   exact ⟨ts,rfl,hP⟩
 obtain ⟨ts',s3,hP'⟩:=s3
 have hcell:e2 fM (aG (aw 2 (av K)) (aa (af 0) (aa (e2 aY (af 1) (eC (.int 3))) ai))) (eC (.int 9)) (hδ K ns m c st lim ts' y6 y7 y8 y9 y10)=rt (.d (.int (aF ns (st+3) % 9))):=
  (ak (x:=.d (.int (aF ns (st+3)))) (y:=.d (.int 9)) (qg rfl ((ak (x:=.d (.int st)) (y:=.d (.int 3)) rfl rfl).trans (cC _ _)) 0x1) rfl).trans (cF 0x3)
 have hif:dU (fun δ=>bd (e2 (fg false) (e2 fM (aG (aw 2 (av K)) (aa (af 0) (aa (e2 aY (af 1) (eC (.int 3))) ai))) (eC (.int 9))) (eC (.int 7)) δ) bw) (bp (bO ai)) bA (hδ K ns m c st lim ts' y6 y7 y8 y9 y10)=if (aF ns (st+3) % 9==7)=true then bp (bO ai) (hδ K ns m c st lim ts' y6 y7 y8 y9 y10) else bA (hδ K ns m c st lim ts' y6 y7 y8 y9 y10):=
  kl (aX ((ak (y:=.d (.int 7)) (fb:=eC (.int 7)) hcell rfl).trans (jq _ _)))
 obtain ⟨qs,he,hl⟩:=xB K ns m c st lim h0 h1 h12 ts' hP' y6 y7 y8 y9 y10
 unfold cB fP
 have hd:mR ["script", "start", "most", "colours", "limit", "tiles", "k", "cell", "number", "colour", "size"] [.scr K ns,.d (.int st),.d (.int m),.d (.int c),.d (.int lim)]=[some (.scr K ns),some (.d (.int st)),some (.d (.int m)),some (.d (.int c)),some (.d (.int lim)),none,none,none,none,none,none]:=rfl
 rw [hd]
 have hF:jc K=bB (aO 5 (bO ai)) (bB (eL (tY (aa (eC (.int 3)) ai)) (ax 6) (hB K)) (bB (dU (fun δ=>bd (e2 (fg false) (aG bK (aa (af 5) ai)) (eC (.int 0)) δ) bw) (aO 5 (bO (aa (bq (aa (eC (.int 1)) (aa (eC (.int 0)) ai))) ai))) bA) (bB (dU (fun δ=>bd (e2 (fg false) (e2 fM (aG (aw 2 (av K)) (aa (af 0) (aa (e2 aY (af 1) (eC (.int 3))) ai))) (eC (.int 9))) (eC (.int 7)) δ) bw) (bp (bO ai)) bA) (fun δ=>(bp (aG (aw 2 (bY)) (aa (af 5) (aa (e2 aY (eC (.int 1)) (e2 fM (aG (aw 2 (av K)) (aa (af 0) (aa (e2 aY (af 1) (eC (.int 3))) ai))) (af 4))) ai)))) (frz 5 δ))))):=rfl
 rw [hF,df s1,df s2,df s3]
 by_cases h:(aF ns (st+3) % 9==7)=true
 ·rw [if_pos h] at hif
  refine ⟨[],?_,by simp; lia,0x4,fun p=>by show (0:Int)<=2; decide,rfl⟩
  rw [ja (hif.trans (bz (x:=.new []) rfl))]
  rfl
 ·rw [if_neg h] at hif
  refine ⟨qs,?_,hl⟩
  rw [df (hif.trans (show bA _=rt (.nx _) from rfl))]
  exact (congrArg (fun z=>bd z ze) he).trans rfl
section
variable {F G:DS->M Out} {f fa fb fc:DS->M DV} {fr:DS->M (List DV)} {gc:DS->M Bool} {g:DV->DV->M DV} {δ δ':DS} {x y z:DV} {k:Bool} {r:M Out}
theorem eK (h:F δ=rt (.nx δ')) (h2:G δ'=r):bB F G δ=r:=(df h).trans h2
theorem xw (h:gc δ=rt true) (h2:F δ=r):dU gc F G δ=r:=(kl h).trans h2
theorem qt (h:gc δ=rt false) (h2:G δ=r):dU gc F G δ=r:=(kl h).trans h2
theorem eQ {i:Nat} (h:f δ=rt x) (ha:nN x=some y) (h2:δ.set i (some y)=δ'):aO i f δ=rt (.nx δ'):=by rw [iK h ha,h2]
theorem fx {n:Nat} {fm:List DV->M DV} {xs ys:List DV} {w:M DV} (h:fr δ=rt xs) (ha:args xs=some ys) (hn:ys.length=n) (hm:fm ys=w):aG (cQ n fm) fr δ=w:=by
 rw [bS h]
 unfold cQ
 rw [ha,bg,aK,if_pos hn,hm]
theorem Cr (h:f δ=rt x):oU f δ=rt (.nx δ):=by unfold oU; rw [h]; rfl
theorem tq {c:Value} (h:F δ=some (.error c)):bB F G δ=some (.error c):=by unfold bB; rw [h]; rfl
theorem yX {C:Addr} (h:F δ=some (.error (.ref C))):vg F C k δ=rt (.rt (.d (.bool k))):=by
 unfold vg
 rw [h]
 exact if_pos rfl
theorem zG {C:Addr} (h:F δ=rt (.rt x)):vg F C k δ=rt (.rt x):=by
 unfold vg
 rw [h]; rfl
theorem F8 {c:Value} (h1:fa δ=rt x) (h2:fb δ=some (.error c)):e2 g fa fb δ=some (.error c):=by unfold e2; rw [h1,aK,h2]; rfl
theorem DT {c:Value} (h1:fa δ=some (.error c)):e2 g fa fb δ=some (.error c):=by unfold e2; rw [h1]; rfl
theorem De {c:Value} {Gm:List DV->M DV} (h:fr δ=some (.error c)):aG Gm fr δ=some (.error c):=by unfold aG; rw [h]; rfl
theorem Di {c:Value} (h:fa δ=some (.error c)):aa fa fr δ=some (.error c):=by unfold aa; rw [h]; rfl
theorem uJ {c:Value} (h:f δ=some (.error c)):bp f δ=some (.error c):=by unfold bp; rw [h]; rfl
theorem E2 {c:Value} {i:Nat} (h:f δ=some (.error c)):aO i f δ=some (.error c):=by unfold aO; rw [h]; rfl
theorem dJ {N:List Str} {xs:List DV} (h:F (mR N xs)=rt (.rt x)):fP N F xs=rt (res x):=by unfold fP; rw [h]; rfl
theorem oq {N:List Str} {xs:List DV} {c:Value} (h:F (mR N xs)=some (.error c)):fP N F xs=some (.error c):=by unfold fP; rw [h]; rfl
theorem qv {ga gb:DS->M Bool} {b:Bool} (h1:ga δ=rt false) (h2:gb δ=rt b):xT ga gb δ=rt b:=by unfold xT; rw [h1,aK]; exact h2
theorem gx {ga:DS->M Bool} {a b:Bool} (h1:ga δ=rt a) (hb:(!a)=b):eS ga δ=rt b:=by rw [rD h1,hb]
end
theorem lD {fi:DS->M (List D)} {sf:D->DS->Option DS} {B:DS->M Out} {δ:DS} {xs:List D} {r:M Out} (h:fi δ=rt xs) (h2:dD sf B xs δ=r):eL fi sf B δ=r:=by
 unfold eL
 rw [h,aK,h2]
theorem AA {α:Type} {f:α->D} {as:List α} {k:Nat} (h:k<as.length) (d:α):atI (as.map f) (k:Int)=some (f (as.getD k d)):=by
 rw [qZ,j7 h d]
 rfl
theorem zV {neg:Bool} {ps qs:List (Int×Int)} {x y:DV} (hx:kZ x=some (.list (ps.map pr))) (hy:kZ y=some (.list (qs.map pr))):fg neg x y=rt (.d (.bool (if neg=true then !decide (ps=qs) else decide (ps=qs)))):=by
 have h:=Cm neg ps qs y hy
 unfold fg at h ⊢
 rw [hx]
 exact h
theorem Im {C CB:Addr} {fa fb:DS->M DV} {δ:DS} {m c:Int} (h1:fa δ=rt (.d (.int m))) (h2:fb δ=rt (.d (.int c))) (h3:3<=m) (h13:m<=13) (h4:1<=c) (h5:c<=4):DP C CB (aa fa (aa fb ai)) δ=rt (hs C m c):=by
 unfold DP
 rw [bS (cp h1 h2)]
 show (if iF m c=true then _ else _)=_
 rw [if_pos (by unfold iF; simp; lia)]
 rfl
section
variable {F G:DS->M Out} {B:DS->M Out} {f fe:DS->M DV} {fi:DS->M (List D)} {gc:DS->M Bool} {δ:DS} {r:M Out} {i k:Nat} {js:List Nat}
end
theorem yT {T t:String} {fa:DS->M DV} {δ:DS} {x:DV} {b:Bool} (h:fa δ=rt x) (ht:(kZ x).bind Dv=some t) (hb:Fw T t=b):Dt T fa δ=rt (.d (.bool b)):=by
 unfold Dt
 rw [h,aK,ht,bg,aK,hb]
noncomputable def Nx (F:DS->M Out) (δ:DS) (Q:DS->Prop):Prop:=∃δ',F δ=rt (.nx δ')/\Q δ'
section
variable {F G:DS->M Out} {f fa fb fc fd fe:DS->M DV} {fr:DS->M (List DV)} {fi:DS->M (List D)} {gc:DS->M Bool} {δ:DS} {Q:DS->Prop} {r:M Out} {i:Nat} {x y z u:DV} {b:Bool}
theorem CU (h:f δ=rt x) (ha:nN x=some y) (hq:Q (δ.set i (some y))):Nx (aO i f) δ Q:=⟨_,iK h ha,hq⟩
theorem HC (h:gc δ=rt b) (h1:b=true->Nx F δ Q) (h2:b=false->Nx G δ Q):Nx (dU gc F G) δ Q:=by
 cases b with
 |true=>obtain ⟨δ',e,q⟩:=h1 rfl; exact ⟨δ',xw h e,q⟩
 |false=>obtain ⟨δ',e,q⟩:=h2 rfl; exact ⟨δ',qt h e,q⟩
theorem G8 (h:Nx F δ fun δ'=>Nx G δ' Q):Nx (bB F G) δ Q:=by
 obtain ⟨δ1,e1,δ2,e2,q⟩:=h
 exact ⟨δ2,eK e1 e2,q⟩
theorem FD (h:Q δ):Nx bA δ Q:=⟨δ,rfl,h⟩
theorem He (h:Nx F δ Q) (kk:∀δ',Q δ'->G δ'=r):bB F G δ=r:=by
 obtain ⟨δ',e,q⟩:=h
 exact eK e (kk δ' q)
theorem Ah {xs ys:List D} (h0:uy x y=none) (hx:ju x=some xs) (hy:ju y=some ys) (hl:xs.length+ys.length<=1000000):aA x y=rt (.new (xs++ys)):=by
 unfold aA yh
 rw [um h0 hx hy hl]
 rfl
theorem Fg (h1:fa δ=rt x) (h2:fb δ=rt y) (h3:fc δ=rt z) (h4:fd δ=rt u):aa fa (aa fb (aa fc (aa fd ai))) δ=rt [x,y,z,u]:=by
 have:=jE h2 h3 h4
 unfold aa at this ⊢
 rw [h1,aK,this]; rfl
theorem Fx {v:DV} (h1:fa δ=rt x) (h2:fb δ=rt y) (h3:fc δ=rt z) (h4:fd δ=rt u) (h5:fe δ=rt v):aa fa (aa fb (aa fc (aa fd (aa fe ai)))) δ=rt [x,y,z,u,v]:=by
 have:=Fg h2 h3 h4 h5
 unfold aa at this ⊢
 rw [h1,aK,this]; rfl
theorem HE (n:Nat):dB 0 n=(List.range n).map fun (k:Nat)=>PyData.int (k:Int):=by
 unfold dB
 refine List.map_congr_left fun k _=>?_
 rw [Int.zero_add]
end
noncomputable def sF (C:Addr):DS->M Out:=(bB (aO 4 (e2 gSub (e2 aA (af 2) (af 3)) (eC (.int 1)))) (bp (jz (e2 Hu (af 3) (eC (.int 3))) (jz (aG (aw 2 (bP C)) (aa (af 0) (aa (bq (aa (af 2) (aa (af 1) ai))) ai))) (aG (aw 2 (bP C)) (aa (af 0) (aa (bq (aa (af 4) (aa (af 1) ai))) ai)))))))
noncomputable def iM (C:Addr):List DV->M DV:=fP ["house", "colour", "first", "size", "last"] (sF C)
noncomputable def nW (C:Addr):DS->M Out:=(bB (dU (fun δ=>bd (e2 fJ (aG bK (aa (af 2) ai)) (eC (.int 3)) δ) bw) (bp (eC (.bool false))) bA) (bB (dU (eS (fun δ=>bd ((aG mJ (aa (bE 1 [0,1] (Dp (af 2)) (ax 0) cU (aG (aw 2 (bP C)) (aa (af 1) (aa (bq (aa (af 2) (aa (af 0) ai))) ai)))) ai)) δ) bw)) (bp (eC (.bool false))) bA) (bp (aG mJ (aa (bE 1 [2] (qK (aa (eC (.int 1)) (aa (aG bK (aa (af 2) ai)) ai))) (ax 0) cU (e2 fJ (e2 bJ (af 1) (e2 gSub (af 0) (eC (.int 1)))) (e2 bJ (af 1) (af 0)))) ai)))))
noncomputable def gi (C:Addr):List DV->M DV:=fP ["house", "number", "colours"] (nW C)
noncomputable def lT (C:Addr):DS->M Out:=(bB (dU (fun δ=>bd (e2 (fg false) (e2 bJ (af 1) (eC (.int 0))) (eC (.str "run")) δ) bw) (bp (aG (aw 4 (iM C)) (aa (af 0) (aa (e2 bJ (af 1) (eC (.int 1))) (aa (e2 bJ (af 1) (eC (.int 2))) (aa (e2 bJ (af 1) (eC (.int 3))) ai)))))) bA) (bp (jz (e2 (fg false) (e2 bJ (af 1) (eC (.int 0))) (eC (.str "group"))) (aG (aw 3 (gi C)) (aa (af 0) (aa (e2 bJ (af 1) (eC (.int 1))) (aa (e2 bJ (af 1) (eC (.int 2))) ai)))))))
noncomputable def cE (C:Addr):List DV->M DV:=fP ["house", "meld"] (lT C)
noncomputable def jL (C:Addr) (IS:Addr):DS->M Out:=(bB (dU (eS (fun δ=>bd ((aG (aw 2 (cE C)) (aa (af 0) (aa (af 1) ai))) δ) bw)) (fun _=>some (.error (.ref IS))) bA) (bB (dU (fun δ=>bd (e2 (fg false) (e2 bJ (af 1) (eC (.int 0))) (eC (.str "run")) δ) bw) (bp (bE 1 [1] (tY (aa (e2 bJ (af 1) (eC (.int 3))) ai)) (ax 0) cU (bq (aa (e2 aA (e2 bJ (af 1) (eC (.int 2))) (af 0)) (aa (e2 bJ (af 1) (eC (.int 1))) ai))))) bA) (bp (bE 1 [1] (Dp (e2 bJ (af 1) (eC (.int 2)))) (ax 0) cU (bq (aa (e2 bJ (af 1) (eC (.int 1))) (aa (af 0) ai)))))))
noncomputable def bD (C:Addr) (IS:Addr):List DV->M DV:=fP ["house", "meld"] (jL C IS)
noncomputable def il:DS->M Out:=(bB (dU (fun δ=>bd (e2 (fg false) (e2 bJ (af 0) (eC (.int 0))) (eC (.str "run")) δ) bw) (bp (bE 1 [0] (tY (aa (e2 bJ (af 0) (eC (.int 3))) ai)) (ax 0) cU (bq (aa (e2 aA (e2 bJ (af 1) (eC (.int 2))) (af 0)) (aa (e2 bJ (af 1) (eC (.int 1))) ai))))) bA) (bp (bE 1 [0] (Dp (e2 bJ (af 0) (eC (.int 2)))) (ax 0) cU (bq (aa (e2 bJ (af 1) (eC (.int 1))) (aa (af 0) ai))))))
noncomputable def bC:List DV->M DV:=fP ["meld"] (il)
noncomputable def kS:DS->M Out:=(bB (aO 2 (bO ai)) (bB (eL (tY (aa (af 1) ai)) (ax 3) (eL (qK (aa (eC (.int 1)) (aa (e2 aA (af 0) (eC (.int 1))) ai))) (ax 4) (aO 2 (e2 aA (af 2) (bE 1 [3,4] (qK (aa (e2 aA (af 4) (eC (.int 2))) (aa (e2 aA (af 0) (eC (.int 1))) ai))) (ax 0) cU (bq (aa (eC (.str "run")) (aa (af 1) (aa (af 2) (aa (e2 aA (e2 gSub (af 0) (af 2)) (eC (.int 1))) ai)))))))))) (bB (aO 5 (bO (aa (bO ai) ai))) (bB (eL (tY (aa (af 1) ai)) (ax 3) (fun δ=>(aO 5 (e2 aA (af 5) (bE 1 [3] (oX (af 5)) (ax 0) cU (e2 aA (af 0) (bO (aa (af 1) ai)))))) (frz 5 δ))) (bB (eL (qK (aa (eC (.int 1)) (aa (e2 aA (af 0) (eC (.int 1))) ai))) (ax 6) (fun δ=>(aO 2 (e2 aA (af 2) (bE 1 [6] (oX (af 5)) (ax 0) (fun δ=>bd (e2 ph (aG bK (aa (af 0) ai)) (eC (.int 2)) δ) bw) (bq (aa (eC (.str "group")) (aa (af 1) (aa (aG oQ (aa (af 0) ai)) ai))))))) (frz 5 δ))) (bp (aG fy (aa (af 2) ai))))))))
noncomputable def cR:List DV->M DV:=fP ["most", "colours", "found", "colour", "first", "kinds", "number"] (kS)
section
variable {F G:DS->M Out} {f fa fb fc fd:DS->M DV} {fr:DS->M (List DV)} {gc:DS->M Bool} {g:DV->DV->M DV} {δ δ':DS} {x y z u:DV} {k:Bool}
theorem sU {a b:Bool} (h1:fa δ=rt (.d (.bool a))) (h2:fb δ=rt (.d (.bool b))):jz fa fb δ=rt (.d (.bool (a&&b))):=by
 unfold jz
 rw [h1,aK,wK,aK,h2]
 cases a <;> rfl
theorem CT (h1:fa δ=rt x) (h2:fb δ=rt y) (h3:fc δ=rt z) (h4:fd δ=rt u):aa fa (aa fb (aa fc (aa fd ai))) δ=rt [x,y,z,u]:=by
 have:=jE h2 h3 h4
 unfold aa at this ⊢
 rw [h1,aK,this]; rfl
theorem FG {a b c:D} (h1:fa δ=rt (.d a)) (h2:fb δ=rt (.d b)) (h3:fc δ=rt (.d c)):bq (aa fa (aa fb (aa fc ai))) δ=rt (.d (.tuple [a,b,c])):=by
 unfold bq
 rw [jE h1 h2 h3]
 rfl
theorem GA {a b c e:D} (h1:fa δ=rt (.d a)) (h2:fb δ=rt (.d b)) (h3:fc δ=rt (.d c)) (h4:fd δ=rt (.d e)):bq (aa fa (aa fb (aa fc (aa fd ai)))) δ=rt (.d (.tuple [a,b,c,e])):=by
 unfold bq
 rw [CT h1 h2 h3 h4]
 rfl
theorem j4 (h:gc δ=rt true):dU gc F G δ=F δ:=by rw [kl h]; rfl
theorem oV (h:gc δ=rt false):dU gc F G δ=G δ:=by rw [kl h]; rfl
theorem uB {xs:List D} (h:f δ=rt (.d (.tuple xs))):Dp f δ=rt xs:=by unfold Dp; rw [h]; rfl
theorem zX {xs:List D} (h:f δ=rt (.new xs)):oX f δ=rt xs:=by unfold oX; rw [h]; rfl
theorem EI {i:Nat} {xs ys:List D} (hi:δ[i]?=some (some (.own xs))) (h:f δ=rt (.new ys)) (hl:xs.length+ys.length<=1000000):ur i f δ=rt (.nx (δ.set i (some (.own (xs++ys))))):=by
 unfold ur
 rw [hi]
 simp only
 rw [h,aK]
 exact if_pos hl
end
theorem cb (i j:Int):aA (.d (.int i)) (.d (.int j))=rt (.d (.int (i+j))):=rfl
theorem vQ {x y:DV} {xs ys:List D} (h0:uy x y=none) (hx:ju x=some xs) (hy:ju y=some ys) (hl:xs.length+ys.length<=1000000):aA x y=rt (.new (xs++ys)):=by
 unfold aA yh
 rw [um h0 hx hy hl]
 rfl
noncomputable def rn (c f n:Int):D:=.tuple [.str "run",.int c,.int f,.int n]
noncomputable def tp (cs:List Int):D:=.tuple (cs.map PyData.int)
noncomputable def gp (n:Int) (cs:List Int):D:=.tuple [.str "group",.int n,tp cs]
theorem nT:PyData.eqv (.str "run") (.str "run")=true:=by decide +kernel
theorem oo:PyData.eqv (.str "group") (.str "run")=false:=by decide +kernel
theorem AG:PyData.eqv (.str "run") (.str "group")=false:=by decide +kernel
theorem uN:PyData.eqv (.str "group") (.str "group")=true:=by decide +kernel
theorem ot {a b:Str} {k:Bool} (h:PyData.eqv (.str a) (.str b)=k):fg false (.d (.str a)) (.d (.str b))=rt (.d (.bool k)):=by
 unfold fg
 rw [qp,qp]
 simp only [Bool.false_eq_true,if_false,h]
 exact if_pos (by unfold PyData.depth; lia)
noncomputable def kM (m c col f n:Int):Bool:=decide (3<=n)&&(bx m c (f,col)&&bx m c (f+n-1,col))
theorem zS {C:Addr} {m c a b:Int} {fa fb:DS->M DV} {δ:DS} (h1:fa δ=rt (hs C m c)) (h2:fb δ=rt (.d (pr (a,b)))):aG (aw 2 (bP C)) (aa fa (aa fb ai)) δ=rt (.d (.bool (bx m c (a,b)))):=
 aZ (cp h1 h2) rfl rfl (Aa C m c (a,b))
theorem Ay (C:Addr) (m c col f n:Int):iM C [hs C m c,.d (.int col),.d (.int f),.d (.int n)]=rt (.d (.bool (kM m c col f n))):=by
 unfold iM sF fP
 have hd:mR ["house", "colour", "first", "size", "last"] [hs C m c,.d (.int col),.d (.int f),.d (.int n)]=[some (hs C m c),some (.d (.int col)),some (.d (.int f)),some (.d (.int n)),none]:=rfl
 rw [hd]
 have s1:aO 4 (e2 gSub (e2 aA (af 2) (af 3)) (eC (.int 1))) [some (hs C m c),some (.d (.int col)),some (.d (.int f)),some (.d (.int n)),none]=rt (.nx [some (hs C m c),some (.d (.int col)),some (.d (.int f)),some (.d (.int n)),some (.d (.int (f+n-1)))]):=
  iK (x:=.d (.int (f+n-1))) ((ak ((ak rfl rfl).trans (cb f n)) rfl).trans (b9 _ _)) rfl
 rw [df s1]
 rw [bz (sU ((ak (x:=.d (.int n)) (y:=.d (.int 3)) rfl rfl).trans (nt _ _)) (sU (zS (a:=f) (b:=col) rfl (i9 rfl rfl)) (zS (a:=f+n-1) (b:=col) rfl (i9 rfl rfl))))]
 rfl
noncomputable def HG (cs:List Int):Bool:=(List.range (cs.length-1)).all fun k=>decide (cs.getD k 0<cs.getD (k+1) 0)
noncomputable def ke (m c n:Int) (cs:List Int):Bool:=decide (3<=cs.length)&&cs.all (fun x=>bx m c (n,x))&&HG cs
theorem wu (cs:List Int):bK [.d (tp cs)]=rt (.d (.int (cs.length:Int))):=by
 show rt (DV.d (.int ((cs.map PyData.int).length:Int)))=_
 rw [List.length_map]
theorem uK (C:Addr) (m c n:Int) (cs:List Int) (hl:cs.length<=900):gi C [hs C m c,.d (.int n),.d (tp cs)]=rt (.d (.bool (ke m c n cs))):=by
 unfold gi nW fP
 have hd:mR ["house", "number", "colours"] [hs C m c,.d (.int n),.d (tp cs)]=[some (hs C m c),some (.d (.int n)),some (.d (tp cs))]:=rfl
 rw [hd]
 have t1:(fun δ=>bd (e2 fJ (aG bK (aa (af 2) ai)) (eC (.int 3)) δ) bw) [some (hs C m c),some (.d (.int n)),some (.d (tp cs))]=rt (decide ((cs.length:Int)<3)):=
  aX ((ak (y:=.d (.int 3)) ((bS (br (x:=.d (tp cs)) rfl)).trans (wu cs)) rfl).trans (dY _ _))
 unfold ke
 by_cases h3:3<=cs.length
 ·have e3:decide ((cs.length:Int)<3)=false:=decide_eq_false 0x1
  rw [e3] at t1
  rw [df ((oV t1).trans (show bA _=_ from rfl))]
  have c1:cK (ax 0) cU (aG (aw 2 (bP C)) (aa (af 1) (aa (bq (aa (af 2) (aa (af 0) ai))) ai))) (cG 1 [0,1] [some (hs C m c),some (.d (.int n)),some (.d (tp cs))]) (cs.map PyData.int)=some ((cs.map fun x=>bx m c (n,x)).map PyData.bool):=by
   rw [List.map_map]
   refine dw fun x hx=>?_
   exact zS (a:=n) (b:=x) rfl (i9 rfl rfl)
  have t2:(eS (fun δ=>bd ((aG mJ (aa (bE 1 [0,1] (Dp (af 2)) (ax 0) cU (aG (aw 2 (bP C)) (aa (af 1) (aa (bq (aa (af 2) (aa (af 0) ai))) ai)))) ai)) δ) bw)) [some (hs C m c),some (.d (.int n)),some (.d (tp cs))]=rt (!cs.all fun x=>bx m c (n,x)):=by
   refine rD (aX ((bS (br (bT (uB (xs:=cs.map PyData.int) rfl) (by rw [List.length_map]; lia) c1))).trans ?_))
   rw [je,List.all_map]
   rfl
  cases ha:cs.all fun x=>bx m c (n,x) with
  |false=>
   rw [ha] at t2
   rw [ja ((j4 t2).trans (bz (x:=.d (.bool false)) rfl))]
   rw [Bool.and_false,Bool.false_and]
   rfl
  |true=>
   rw [ha] at t2
   rw [df ((oV t2).trans (show bA _=_ from rfl))]
   have hat:∀k:Nat,k<cs.length->atI (cs.map PyData.int) (k:Int)=some (.int (cs.getD k 0)):=fun k hk=>by
    rw [j7 (by rw [List.length_map]; exact hk) (.int 0)]
    simp [hk]
   have c2:cK (ax 0) cU (e2 fJ (e2 bJ (af 1) (e2 gSub (af 0) (eC (.int 1)))) (e2 bJ (af 1) (af 0))) (cG 1 [2] [some (hs C m c),some (.d (.int n)),some (.d (tp cs))]) (dB 1 ((cs.length:Int)-1).toNat)=some (((List.range (cs.length-1)).map fun k=>decide (cs.getD k 0<cs.getD (k+1) 0)).map PyData.bool):=by
    rw [show ((cs.length:Int)-1).toNat=cs.length-1 by lia,List.map_map]
    unfold dB
    refine dw fun k hk=>?_
    have hk':k<cs.length-1:=List.mem_range.mp hk
    have i1:e2 bJ (af 1) (e2 gSub (af 0) (eC (.int 1))) ((cG 1 [2] [some (hs C m c),some (.d (.int n)),some (.d (tp cs))]).set 0 (some (.d (.int (1+(k:Int))))))=rt (.d (.int (cs.getD k 0))):=by
     refine (ak (x:=.d (tp cs)) rfl ((ak (x:=.d (.int (1+(k:Int)))) rfl rfl).trans (b9 _ _))).trans (aU ?_)
     rw [show (1+(k:Int)-1)=(k:Int) by lia]
     exact hat k 0x1
    have i2:e2 bJ (af 1) (af 0) ((cG 1 [2] [some (hs C m c),some (.d (.int n)),some (.d (tp cs))]).set 0 (some (.d (.int (1+(k:Int))))))=rt (.d (.int (cs.getD (k+1) 0))):=by
     refine (ak (x:=.d (tp cs)) (y:=.d (.int (1+(k:Int)))) rfl rfl).trans (aU ?_)
     rw [show (1+(k:Int))=((k+1:Nat):Int) by lia]
     exact hat (k+1) 0x1
    exact (ak i1 i2).trans (dY _ _)
   have FN:aG bK (aa (af 2) ai) [some (hs C m c),some (.d (.int n)),some (.d (tp cs))]=rt (.d (.int (cs.length:Int))):=(bS (br (x:=.d (tp cs)) rfl)).trans (wu cs)
   have e1:aG mJ (aa (bE 1 [2] (qK (aa (eC (.int 1)) (aa (aG bK (aa (af 2) ai)) ai))) (ax 0) cU (e2 fJ (e2 bJ (af 1) (e2 gSub (af 0) (eC (.int 1)))) (e2 bJ (af 1) (af 0)))) ai) [some (hs C m c),some (.d (.int n)),some (.d (tp cs))]=rt (.d (.bool (HG cs))):=by
    refine (bS (br (bT (jS (cp (x:=.d (.int 1)) rfl FN) 0x1 0x1 0x1 0x1) (by rw [eB]; lia) c2))).trans ?_
    rw [je,List.all_map]
    rfl
   rw [bz e1]
   rw [decide_eq_true h3]
   rfl
 ·have e3:decide ((cs.length:Int)<3)=true:=decide_eq_true 0x1
  rw [e3] at t1
  rw [ja ((j4 t1).trans (bz (x:=.d (.bool false)) rfl))]
  rw [decide_eq_false h3]
  rfl
theorem uH (C:Addr) (m c col f n:Int):cE C [hs C m c,.d (rn col f n)]=rt (.d (.bool (kM m c col f n))):=by
 unfold cE lT fP
 have hd:mR ["house", "meld"] [hs C m c,.d (rn col f n)]=[some (hs C m c),some (.d (rn col f n))]:=rfl
 rw [hd]
 have t1:(fun δ=>bd (e2 (fg false) (e2 bJ (af 1) (eC (.int 0))) (eC (.str "run")) δ) bw) [some (hs C m c),some (.d (rn col f n))]=rt true:=
  aX ((ak ((ak (x:=.d (rn col f n)) rfl rfl).trans (aU rfl)) rfl).trans (ot nT))
 have i1:e2 bJ (af 1) (eC (.int 1)) [some (hs C m c),some (.d (rn col f n))]=rt (.d (.int col)):=(ak (x:=.d (rn col f n)) rfl rfl).trans (aU rfl)
 have i2:e2 bJ (af 1) (eC (.int 2)) [some (hs C m c),some (.d (rn col f n))]=rt (.d (.int f)):=(ak (x:=.d (rn col f n)) rfl rfl).trans (aU rfl)
 have i3:e2 bJ (af 1) (eC (.int 3)) [some (hs C m c),some (.d (rn col f n))]=rt (.d (.int n)):=(ak (x:=.d (rn col f n)) rfl rfl).trans (aU rfl)
 rw [ja ((j4 t1).trans (bz (aZ (n:=4) (CT (fa:=af 0) (x:=hs C m c) rfl i1 i2 i3) rfl rfl (Ay C m c col f n))))]
 rfl
theorem vz (C:Addr) (m c n:Int) (cs:List Int) (hl:cs.length<=900):cE C [hs C m c,.d (gp n cs)]=rt (.d (.bool (ke m c n cs))):=by
 unfold cE lT fP
 have hd:mR ["house", "meld"] [hs C m c,.d (gp n cs)]=[some (hs C m c),some (.d (gp n cs))]:=rfl
 rw [hd]
 have t1:(fun δ=>bd (e2 (fg false) (e2 bJ (af 1) (eC (.int 0))) (eC (.str "run")) δ) bw) [some (hs C m c),some (.d (gp n cs))]=rt false:=
  aX ((ak ((ak (x:=.d (gp n cs)) rfl rfl).trans (aU rfl)) rfl).trans (ot oo))
 have i0:e2 (fg false) (e2 bJ (af 1) (eC (.int 0))) (eC (.str "group")) [some (hs C m c),some (.d (gp n cs))]=rt (.d (.bool true)):=(ak ((ak (x:=.d (gp n cs)) rfl rfl).trans (aU rfl)) rfl).trans (ot uN)
 have i1:e2 bJ (af 1) (eC (.int 1)) [some (hs C m c),some (.d (gp n cs))]=rt (.d (.int n)):=(ak (x:=.d (gp n cs)) rfl rfl).trans (aU rfl)
 have i2:e2 bJ (af 1) (eC (.int 2)) [some (hs C m c),some (.d (gp n cs))]=rt (.d (tp cs)):=(ak (x:=.d (gp n cs)) rfl rfl).trans (aU rfl)
 rw [df ((oV t1).trans (show bA _=_ from rfl))]
 rw [bz (sU i0 (aZ (n:=3) (jE (fa:=af 0) (x:=hs C m c) rfl i1 i2) rfl rfl (uK C m c n cs hl)))]
 rfl
noncomputable def iQ (col f n:Int):List D:=(List.range n.toNat).map fun (k:Nat)=>pr (f+(k:Int),col)
noncomputable def iU (n:Int) (cs:List Int):List D:=cs.map fun x=>pr (n,x)
theorem sr (C E:Addr) (m c col f n:Int) (h0:-1000<=n) (h1:n<=1000):bD C E [hs C m c,.d (rn col f n)]=if kM m c col f n=true then rt (.new (iQ col f n)) else some (.error (.ref E)):=by
 unfold bD jL fP
 have hd:mR ["house", "meld"] [hs C m c,.d (rn col f n)]=[some (hs C m c),some (.d (rn col f n))]:=rfl
 rw [hd]
 have t0:(eS (fun δ=>bd ((aG (aw 2 (cE C)) (aa (af 0) (aa (af 1) ai))) δ) bw)) [some (hs C m c),some (.d (rn col f n))]=rt (!kM m c col f n):=
  rD (aX (aZ (cp (x:=hs C m c) (y:=.d (rn col f n)) rfl rfl) rfl rfl (uH C m c col f n)))
 cases hr:kM m c col f n with
 |false=>
  rw [hr] at t0
  have:dU (eS (fun δ=>bd ((aG (aw 2 (cE C)) (aa (af 0) (aa (af 1) ai))) δ) bw)) (fun _=>some (.error (.ref E))) bA [some (hs C m c),some (.d (rn col f n))]=some (.error (.ref E)):=j4 t0
  unfold bB
  rw [this]
  rfl
 |true=>
  rw [hr] at t0
  rw [df ((oV t0).trans (show bA _=_ from rfl))]
  have t1:(fun δ=>bd (e2 (fg false) (e2 bJ (af 1) (eC (.int 0))) (eC (.str "run")) δ) bw) [some (hs C m c),some (.d (rn col f n))]=rt true:=
   aX ((ak ((ak (x:=.d (rn col f n)) rfl rfl).trans (aU rfl)) rfl).trans (ot nT))
  have i3:e2 bJ (af 1) (eC (.int 3)) [some (hs C m c),some (.d (rn col f n))]=rt (.d (.int n)):=(ak (x:=.d (rn col f n)) rfl rfl).trans (aU rfl)
  have c1:cK (ax 0) cU (bq (aa (e2 aA (e2 bJ (af 1) (eC (.int 2))) (af 0)) (aa (e2 bJ (af 1) (eC (.int 1))) ai))) (cG 1 [1] [some (hs C m c),some (.d (rn col f n))]) (dB 0 n.toNat)=some (iQ col f n):=by
   unfold dB iQ
   refine dw fun k hk=>?_
   have q1:e2 bJ (af 1) (eC (.int 2)) ((cG 1 [1] [some (hs C m c),some (.d (rn col f n))]).set 0 (some (.d (.int (0+(k:Int))))))=rt (.d (.int f)):=(ak (x:=.d (rn col f n)) rfl rfl).trans (aU rfl)
   have q2:e2 bJ (af 1) (eC (.int 1)) ((cG 1 [1] [some (hs C m c),some (.d (rn col f n))]).set 0 (some (.d (.int (0+(k:Int))))))=rt (.d (.int col)):=(ak (x:=.d (rn col f n)) rfl rfl).trans (aU rfl)
   refine (i9 ((ak (y:=.d (.int (0+(k:Int)))) q1 rfl).trans (cb _ _)) q2).trans ?_
   rw [Int.zero_add]; rfl
  rw [ja ((j4 t1).trans (bz (bT (j6 (br i3) h0 h1) (by rw [eB]; lia) c1)))]
  rfl
theorem sT (C E:Addr) (m c n:Int) (cs:List Int) (hl:cs.length<=900):bD C E [hs C m c,.d (gp n cs)]=if ke m c n cs=true then rt (.new (iU n cs)) else some (.error (.ref E)):=by
 unfold bD jL fP
 have hd:mR ["house", "meld"] [hs C m c,.d (gp n cs)]=[some (hs C m c),some (.d (gp n cs))]:=rfl
 rw [hd]
 have t0:(eS (fun δ=>bd ((aG (aw 2 (cE C)) (aa (af 0) (aa (af 1) ai))) δ) bw)) [some (hs C m c),some (.d (gp n cs))]=rt (!ke m c n cs):=
  rD (aX (aZ (cp (x:=hs C m c) (y:=.d (gp n cs)) rfl rfl) rfl rfl (vz C m c n cs hl)))
 cases hr:ke m c n cs with
 |false=>
  rw [hr] at t0
  have:dU (eS (fun δ=>bd ((aG (aw 2 (cE C)) (aa (af 0) (aa (af 1) ai))) δ) bw)) (fun _=>some (.error (.ref E))) bA [some (hs C m c),some (.d (gp n cs))]=some (.error (.ref E)):=j4 t0
  unfold bB
  rw [this]
  rfl
 |true=>
  rw [hr] at t0
  rw [df ((oV t0).trans (show bA _=_ from rfl))]
  have t1:(fun δ=>bd (e2 (fg false) (e2 bJ (af 1) (eC (.int 0))) (eC (.str "run")) δ) bw) [some (hs C m c),some (.d (gp n cs))]=rt false:=
   aX ((ak ((ak (x:=.d (gp n cs)) rfl rfl).trans (aU rfl)) rfl).trans (ot oo))
  rw [df ((oV t1).trans (show bA _=_ from rfl))]
  have i2:e2 bJ (af 1) (eC (.int 2)) [some (hs C m c),some (.d (gp n cs))]=rt (.d (tp cs)):=(ak (x:=.d (gp n cs)) rfl rfl).trans (aU rfl)
  have c1:cK (ax 0) cU (bq (aa (e2 bJ (af 1) (eC (.int 1))) (aa (af 0) ai))) (cG 1 [1] [some (hs C m c),some (.d (gp n cs))]) (cs.map PyData.int)=some (iU n cs):=by
   unfold iU
   refine dw fun x hx=>?_
   have q1:e2 bJ (af 1) (eC (.int 1)) ((cG 1 [1] [some (hs C m c),some (.d (gp n cs))]).set 0 (some (.d (.int x))))=rt (.d (.int n)):=(ak (x:=.d (gp n cs)) rfl rfl).trans (aU rfl)
   exact i9 q1 rfl
  rw [bz (bT (uB i2) (by rw [List.length_map]; lia) c1)]
  rfl
theorem mK (col f n:Int) (h0:-1000<=n) (h1:n<=1000):bC [.d (rn col f n)]=rt (.new (iQ col f n)):=by
 unfold bC il fP
 have hd:mR ["meld"] [.d (rn col f n)]=[some (.d (rn col f n))]:=rfl
 rw [hd]
 have t1:(fun δ=>bd (e2 (fg false) (e2 bJ (af 0) (eC (.int 0))) (eC (.str "run")) δ) bw) [some (.d (rn col f n))]=rt true:=
  aX ((ak ((ak (x:=.d (rn col f n)) rfl rfl).trans (aU rfl)) rfl).trans (ot nT))
 have i3:e2 bJ (af 0) (eC (.int 3)) [some (.d (rn col f n))]=rt (.d (.int n)):=(ak (x:=.d (rn col f n)) rfl rfl).trans (aU rfl)
 have c1:cK (ax 0) cU (bq (aa (e2 aA (e2 bJ (af 1) (eC (.int 2))) (af 0)) (aa (e2 bJ (af 1) (eC (.int 1))) ai))) (cG 1 [0] [some (.d (rn col f n))]) (dB 0 n.toNat)=some (iQ col f n):=by
  unfold dB iQ
  refine dw fun k hk=>?_
  have q1:e2 bJ (af 1) (eC (.int 2)) ((cG 1 [0] [some (.d (rn col f n))]).set 0 (some (.d (.int (0+(k:Int))))))=rt (.d (.int f)):=(ak (x:=.d (rn col f n)) rfl rfl).trans (aU rfl)
  have q2:e2 bJ (af 1) (eC (.int 1)) ((cG 1 [0] [some (.d (rn col f n))]).set 0 (some (.d (.int (0+(k:Int))))))=rt (.d (.int col)):=(ak (x:=.d (rn col f n)) rfl rfl).trans (aU rfl)
  refine (i9 ((ak (y:=.d (.int (0+(k:Int)))) q1 rfl).trans (cb _ _)) q2).trans ?_
  rw [Int.zero_add]; rfl
 rw [ja ((j4 t1).trans (bz (bT (j6 (br i3) h0 h1) (by rw [eB]; lia) c1)))]
 rfl
theorem mM (n:Int) (cs:List Int) (hl:cs.length<=900):bC [.d (gp n cs)]=rt (.new (iU n cs)):=by
 unfold bC il fP
 have hd:mR ["meld"] [.d (gp n cs)]=[some (.d (gp n cs))]:=rfl
 rw [hd]
 have t1:(fun δ=>bd (e2 (fg false) (e2 bJ (af 0) (eC (.int 0))) (eC (.str "run")) δ) bw) [some (.d (gp n cs))]=rt false:=
  aX ((ak ((ak (x:=.d (gp n cs)) rfl rfl).trans (aU rfl)) rfl).trans (ot oo))
 rw [df ((oV t1).trans (show bA _=_ from rfl))]
 have i2:e2 bJ (af 0) (eC (.int 2)) [some (.d (gp n cs))]=rt (.d (tp cs)):=(ak (x:=.d (gp n cs)) rfl rfl).trans (aU rfl)
 have c1:cK (ax 0) cU (bq (aa (e2 bJ (af 1) (eC (.int 1))) (aa (af 0) ai))) (cG 1 [0] [some (.d (gp n cs))]) (cs.map PyData.int)=some (iU n cs):=by
  unfold iU
  refine dw fun x hx=>?_
  have q1:e2 bJ (af 1) (eC (.int 1)) ((cG 1 [0] [some (.d (gp n cs))]).set 0 (some (.d (.int x))))=rt (.d (.int n)):=(ak (x:=.d (gp n cs)) rfl rfl).trans (aU rfl)
  exact i9 q1 rfl
 rw [bz (bT (uB i2) (by rw [List.length_map]; lia) c1)]
 rfl
theorem iN {α:Type} {f:α->D} {i N:Nat} {B:DS->M Out} {all:List α} (I:List α->DS->Prop)
  (h:∀pre a δ,a∈all->pre.length<N->I pre δ->∃δ',B (δ.set i (some (.d (f a))))=rt (.nx δ')/\I (pre++[a]) δ') :
  ∀(as pre:List α) (δ:DS),(∀a∈as,a∈all)->pre.length+as.length<=N->I pre δ->∃δ',dD (ax i) B (as.map f) δ=rt (.nx δ')/\I (pre++as) δ'
 |[],pre,δ,_,_,hI=>⟨δ,rfl,by rw [List.append_nil]; exact hI⟩
 |a::as,pre,δ,ha,hn,hI=>by
  simp only [List.length_cons] at hn
  obtain ⟨δ1,e1,h1⟩:=h pre a δ (ha a IF) 0x1 hI
  obtain ⟨δ2,e2,h2⟩:=iN I h as (pre++[a]) δ1 (fun x hx=>ha x (IE _ hx)) (by simp; lia) h1
  refine ⟨δ2,?_,by rw [List.append_assoc] at h2; exact h2⟩
  rw [List.map_cons]
  unfold dD
  have hs:ax i (f a) δ=some (δ.set i (some (.d (f a)))):=rfl
  rw [hs,bg,aK,e1,aK,rg]
  exact e2
theorem xS (n:Nat):dB 0 n=(List.range n).map fun (k:Nat)=>PyData.int (k:Int):=by
 unfold dB
 refine List.map_congr_left fun k _=>?_
 rw [Int.zero_add]
noncomputable def fG (m col f0:Nat):List D:=(List.range (m-2-f0)).map fun (s:Nat)=>rn (col:Int) (1+(f0:Int)) (3+(s:Int))
noncomputable def iz (m col:Nat):List D:=(List.range m).flatMap (fG m col)
noncomputable def dF (m c:Nat):List D:=(List.range c).flatMap (iz m)
theorem lS (m col f0:Nat) (h:m<=13):(fG m col f0).length<=13:=by unfold fG; simp; lia
theorem fU {α:Type} {g:α->List D} {k:Nat} (h:∀a,(g a).length<=k):∀as:List α,(as.flatMap g).length<=k*as.length
 |[]=>by simp
 |a::as=>by
  have:=h a
  have:=fU h as
  rw [List.flatMap_cons,List.length_append,List.length_cons,Nat.mul_succ]; lia
section
variable (C:Addr) (m c:Nat)
theorem pN (col:Nat) (hm:m<=13):(iz m col).length<=169:=by
 have:=fU (fun a=>lS m col a hm) (List.range m)
 rw [List.length_range] at this
 unfold iz
 lia
end
noncomputable def yE (c:Nat):List (List Int):=match c with
 |3=>[[0,1,2]]
 |4=>[[0,1,2],[0,1,2,3],[0,1,3],[0,2,3],[1,2,3]]
 |_=>[]
noncomputable def cg (ch:List (List Int)) (n0:Nat):List D:=ch.map fun k=>gp (1+(n0:Int)) k
noncomputable def dH (ch:List (List Int)) (m:Nat):List D:=(List.range m).flatMap (cg ch)
section
variable (C:Addr) (m:Int)
theorem me {ch:List (List Int)} (hch:ch.length<=5) (n0:Nat):(cg ch n0).length<=5:=by unfold cg; simp; exact hch
theorem B4 (c:Nat):(yE c).length<=5:=by
 match c with
 |0|1|2|3|4=>decide
 |n+5=>exact Nat.zero_le _
noncomputable def aE (m c:Nat):List D:=dH (yE c) m++dF m c
theorem mB {ch:List (List Int)} (hch:ch.length<=5) (m:Nat):(dH ch m).length<=5*m:=by
 have:=fU (fun a=>me hch a) (List.range m)
 rwa [List.length_range] at this
theorem pS (m c:Nat) (hm:m<=13):(dF m c).length<=169*c:=by
 have:=fU (fun a=>pN m a hm) (List.range c)
 rwa [List.length_range] at this
end
theorem Ds {k k':List Int} (h:tp k=tp k'):k=k':=by
 unfold tp at h
 have h':=PyData.tuple.inj h
 clear h
 induction k generalizing k' with
 |nil=>cases k' with
  |nil=>rfl
  |cons _ _=>cases h'
 |cons x r ih=>cases k' with
  |nil=>cases h'
  |cons y r'=>
   rw [List.map_cons,List.map_cons] at h'
   obtain ⟨h1,h2⟩:=List.cons.inj h'
   rw [PyData.int.inj h1,ih h2]
theorem ux (k k':List Int):PyData.eqv (tp k) (tp k')=decide (k=k'):=by
 unfold tp PyData.eqv
 exact oJ k k'
theorem eqv_i (a b:Int):PyData.eqv (.int a) (.int b)=decide (a=b):=by
 unfold PyData.eqv
 by_cases h:a=b
 ·subst h; simp
 ·simp [h]
theorem vm (c f n c' f' n':Int):PyData.eqv (rn c f n) (rn c' f' n')=(decide (c=c')&&(decide (f=f')&&decide (n=n'))):=by
 unfold rn
 simp only [PyData.eqv,PyData.eqvAll]
 have:(("run" : Str)==("run" : Str))=true:=by decide +kernel
 rw [this]
 simp [eqv_i,PyData.eqv]
 rfl
theorem uY (n n':Int) (k k':List Int):PyData.eqv (gp n k) (gp n' k')=(decide (n=n')&&decide (k=k')):=by
 unfold gp
 simp only [PyData.eqv,PyData.eqvAll]
 have:(("group" : Str)==("group" : Str))=true:=by decide +kernel
 rw [this,ux]
 simp
 rfl
theorem pV (c f n n':Int) (k':List Int):PyData.eqv (rn c f n) (gp n' k')=false:=by
 unfold gp rn
 simp only [PyData.eqv,PyData.eqvAll]
 have:(("run" : Str)==("group" : Str))=false:=by decide +kernel
 rw [this]; rfl
theorem qh (c f n n':Int) (k':List Int):PyData.eqv (gp n' k') (rn c f n)=false:=by
 unfold gp rn
 simp only [PyData.eqv,PyData.eqvAll]
 have:(("group" : Str)==("run" : Str))=false:=by decide +kernel
 rw [this]; rfl
theorem Hn (a b:Int) (xs ys:List D):cL true (.int a::xs) (.int b::ys)=if a=b then cL true xs ys else some (decide (a<b)):=by
 rw [cL,eqv_i]
 by_cases h:a=b
 ·rw [if_pos h,if_pos (decide_eq_true h)]
 ·rw [if_neg h,if_neg (by simpa using h)]
  rfl
theorem wO (xs ys:List D) (t:Str) (h:PyData.eqv (.str t) (.str t)=true):cL true (.str t::xs) (.str t::ys)=cL true xs ys:=by
 rw [cL,if_pos h]
theorem sN (c f n c' f' n':Int):cD true (rn c f n) (rn c' f' n')=some (ll [c,f,n] [c',f',n']):=by
 unfold rn cD
 rw [wO _ _ _ nT]
 exact ni [c,f,n] [c',f',n']
theorem wd (n n':Int) (k k':List Int):cD true (gp n k) (gp n' k')=some (ll (n::k) (n'::k')):=by
 unfold gp cD
 rw [wO _ _ _ uN,Hn,bt]
 by_cases h:n=n'
 ·rw [if_pos h,if_pos h,cL,ux]
  by_cases hk:k=k'
  ·subst hk
   rw [if_pos 0x4,cX]; rfl
  ·rw [if_neg (by simpa using hk)]
   exact ni k k'
 ·rw [if_neg h,if_neg h]
theorem C5 (c f n n':Int) (k':List Int):cD true (gp n' k') (rn c f n)=some true:=by
 unfold gp rn cD
 rw [cL,if_neg (by rw [oo]; exact Bool.false_ne_true)]
 show some (cS true "group" "run")=some true
 congr 1
theorem yt (c f n n':Int) (k':List Int):cD true (rn c f n) (gp n' k')=some false:=by
 unfold gp rn cD
 rw [cL,if_neg (by rw [AG]; exact Bool.false_ne_true)]
 show some (cS true "run" "group")=some false
 congr 1
theorem qE:∀k:List Int,xj (k.map PyData.int)=true
 |[]=>rfl
 |x::r=>by rw [List.map_cons,xj,qE r]; rfl
theorem FQ (c f n:Int):gZ (rn c f n)=true:=rfl
theorem GB (n:Int) (k:List Int):gZ (gp n k)=true:=by
 unfold gp tp
 simp [gZ,xj,qE]
theorem r9:∀k:List Int,PyData.depthAll (k.map PyData.int)<=1
 |[]=>Nat.zero_le _
 |x::r=>by
  have:=r9 r
  rw [List.map_cons,PyData.depthAll]
  show max _ _<=1
  have:(PyData.int x).depth<=1:=by unfold PyData.depth; lia
  lia
theorem CZ (c f n:Int):(rn c f n).depth<=50:=by
 unfold rn
 simp [PyData.depth,PyData.depthAll]
theorem Dg (n:Int) (k:List Int):(gp n k).depth<=50:=by
 have:=r9 k
 unfold gp tp
 simp [PyData.depth,PyData.depthAll]
 lia
noncomputable def lA (x:D):Prop:=(∃c f n,x=rn c f n)\/(∃n k,x=gp n k)
theorem jb {m c:Nat} {x:D} (h:x∈dF m c):∃col f0 s:Nat,col<c/\f0<m/\s<m-2-f0/\x=rn (col:Int) (1+(f0:Int)) (3+(s:Int)):=by
 unfold dF iz fG at h
 simp only [List.mem_flatMap,List.mem_map,List.mem_range] at h
 obtain ⟨col,h1,f0,h2,s,h3,rfl⟩:=h
 exact ⟨col,f0,s,h1,h2,h3,rfl⟩
theorem yo {m c col f0 s:Nat} (h1:col<c) (h2:f0<m) (h3:s<m-2-f0):rn (col:Int) (1+(f0:Int)) (3+(s:Int))∈dF m c:=by
 unfold dF iz fG
 simp only [List.mem_flatMap,List.mem_map,List.mem_range]
 exact ⟨col,h1,f0,h2,s,h3,rfl⟩
theorem fT {ch:List (List Int)} {m:Nat} {x:D} (h:x∈dH ch m):∃n0:Nat,∃k∈ch,n0<m/\x=gp (1+(n0:Int)) k:=by
 unfold dH cg at h
 simp only [List.mem_flatMap,List.mem_map,List.mem_range] at h
 obtain ⟨n0,h1,k,hk,rfl⟩:=h
 exact ⟨n0,k,hk,h1,rfl⟩
theorem uM {ch:List (List Int)} {m n0:Nat} {k:List Int} (h1:n0<m) (hk:k∈ch):gp (1+(n0:Int)) k∈dH ch m:=by
 unfold dH cg
 simp only [List.mem_flatMap,List.mem_map,List.mem_range]
 exact ⟨n0,h1,k,hk,rfl⟩
theorem jx {m c:Nat} {x:D} (h:x∈aE m c):lA x:=by
 rcases List.mem_append.mp h with h|h
 ·obtain ⟨n0,k,_,_,e⟩:=fT h; exact .inr ⟨_,_,e⟩
 ·obtain ⟨col,f0,s,_,_,_,e⟩:=jb h; exact .inl ⟨_,_,_,e⟩
theorem lA.cmp {x y:D} (hx:lA x) (hy:lA y):(cD true x y).isSome=true:=by
 rcases hx with ⟨c,f,n,rfl⟩|⟨n,k,rfl⟩ <;> rcases hy with ⟨c',f',n',rfl⟩|⟨n',k',rfl⟩
 ·rw [sN]; rfl
 ·rw [yt]; rfl
 ·rw [C5]; rfl
 ·rw [wd]; rfl
theorem lA.ok {x:D} (hx:lA x):gZ x=true:=by
 rcases hx with ⟨c,f,n,rfl⟩|⟨n,k,rfl⟩
 ·exact FQ ..
 ·exact GB ..
theorem jQ {xs:List D} (h:∀x∈xs,lA x) (hl:xs.length<=10000):Cmp2 xs:=
 ⟨fun x hx=>(h x hx).ok,fun x hx y hy=>(h x hx).cmp (h y hy),.inr fun x hx=>by
  rcases h x hx with ⟨c,f,n,rfl⟩|⟨n,k,rfl⟩
  ·exact ⟨_,_,rfl⟩
  ·exact ⟨_,_,rfl⟩,fun x hx=>by
  rcases h x hx with ⟨c,f,n,rfl⟩|⟨n,k,rfl⟩
  ·exact CZ ..
  ·exact Dg ..,hl⟩
theorem jf {x y:D} (hx:lA x) (hy:lA y) (h:cD true y x=some false):ll (iw y) (iw x)=false:=qO hy.ok hx.ok h
theorem EG (c:Nat):(yE c).Pairwise fun a b=>ll b a=false:=by
 match c with
 |0|1|2|3|4=>decide
 |n+5=>exact List.Pairwise.nil
theorem xK (m c:Nat):pz (aE m c):=by
 unfold pz aE
 refine List.pairwise_append.mpr ⟨?_,?_,fun x hx y hy=>?_⟩
 ·unfold dH
  refine List.pairwise_flatMap.mpr ⟨fun n0 _=>?_,?_⟩
  ·unfold cg
   refine List.pairwise_map.mpr ((EG c).imp fun {a b} hab=>?_)
   refine jf (.inr ⟨_,_,rfl⟩) (.inr ⟨_,_,rfl⟩) ?_
   rw [wd,bt,if_pos rfl,hab]
  ·refine List.pairwise_lt_range.imp fun {a b} hab x hx y hy=>?_
   unfold cg at hx hy
   obtain ⟨k,_,rfl⟩:=List.mem_map.mp hx
   obtain ⟨k',_,rfl⟩:=List.mem_map.mp hy
   refine jf (.inr ⟨_,_,rfl⟩) (.inr ⟨_,_,rfl⟩) ?_
   rw [wd,bt,if_neg 0x1,decide_eq_false 0x1]
 ·unfold dF
  refine List.pairwise_flatMap.mpr ⟨fun col _=>?_,?_⟩
  ·unfold iz
   refine List.pairwise_flatMap.mpr ⟨fun f0 _=>?_,?_⟩
   ·unfold fG
    refine List.pairwise_map.mpr (List.pairwise_lt_range.imp fun {a b} hab=>?_)
    refine jf (.inl ⟨_,_,_,rfl⟩) (.inl ⟨_,_,_,rfl⟩) ?_
    rw [sN,bt,if_pos rfl,bt,if_pos rfl,bt,if_neg 0x1,decide_eq_false 0x1]
   ·refine List.pairwise_lt_range.imp fun {a b} hab x hx y hy=>?_
    unfold fG at hx hy
    obtain ⟨k,_,rfl⟩:=List.mem_map.mp hx
    obtain ⟨k',_,rfl⟩:=List.mem_map.mp hy
    refine jf (.inl ⟨_,_,_,rfl⟩) (.inl ⟨_,_,_,rfl⟩) ?_
    rw [sN,bt,if_pos rfl,bt,if_neg 0x1,decide_eq_false 0x1]
  ·refine List.pairwise_lt_range.imp fun {a b} hab x hx y hy=>?_
   unfold iz fG at hx hy
   simp only [List.mem_flatMap,List.mem_map,List.mem_range] at hx hy
   obtain ⟨_,_,_,_,rfl⟩:=hx
   obtain ⟨_,_,_,_,rfl⟩:=hy
   refine jf (.inl ⟨_,_,_,rfl⟩) (.inl ⟨_,_,_,rfl⟩) ?_
   rw [sN,bt,if_neg 0x1,decide_eq_false 0x1]
 ·obtain ⟨_,_,_,_,rfl⟩:=fT hx
  obtain ⟨_,_,_,_,_,_,rfl⟩:=jb hy
  exact jf (.inr ⟨_,_,rfl⟩) (.inl ⟨_,_,_,rfl⟩) (yt ..)
theorem uW {m c:Nat} {raw:List D} (h:raw.Perm (aE m c)):iJ raw=aE m c:=
 ky ((cj raw).trans h) (gX raw) (xK m c) (fun x hx=>(jx (h.mem_iff.mp ((cj raw).mem_iff.mp hx))).ok)
  fun x hx y hy=>(jx (h.mem_iff.mp ((cj raw).mem_iff.mp hx))).cmp (jx (h.mem_iff.mp ((cj raw).mem_iff.mp hy)))
theorem rP (m c:Nat) (col f n:Int):((aE m c).any fun z=>PyData.eqv z (rn col f n))=kM m c col f n:=by
 apply Bool.eq_iff_iff.mpr
 rw [List.any_eq_true]
 constructor
 ·rintro ⟨x,hx,he⟩
  rcases List.mem_append.mp hx with h|h
  ·obtain ⟨n0,k,_,_,rfl⟩:=fT h
   rw [qh] at he; cases he
  ·obtain ⟨col',f0,s,h1,h2,h3,rfl⟩:=jb h
   rw [vm] at he
   simp only [Bool.and_eq_true,decide_eq_true_eq] at he
   obtain ⟨rfl,rfl,rfl⟩:=he
   unfold kM bx
   simp only [Bool.and_eq_true,decide_eq_true_eq]
   lia
 ·intro h
  unfold kM bx at h
  simp only [Bool.and_eq_true,decide_eq_true_eq] at h
  refine ⟨rn ((col.toNat:Nat):Int) (1+(((f-1).toNat:Nat):Int)) (3+(((n-3).toNat:Nat):Int)),IH _ (yo 0x1 0x1 0x1),?_⟩
  rw [vm]
  simp only [Bool.and_eq_true,decide_eq_true_eq]
  lia
theorem qY (m c:Nat) (n:Int) (k:List Int):((aE m c).any fun z=>PyData.eqv z (gp n k))=(decide (1<=n)&&decide (n<=(m:Int))&&decide (k∈yE c)):=by
 apply Bool.eq_iff_iff.mpr
 rw [List.any_eq_true]
 constructor
 ·rintro ⟨x,hx,he⟩
  rcases List.mem_append.mp hx with h|h
  ·obtain ⟨n0,k',hk,h1,rfl⟩:=fT h
   rw [uY] at he
   simp only [Bool.and_eq_true,decide_eq_true_eq] at he ⊢
   obtain ⟨rfl,rfl⟩:=he
   exact ⟨0x1,hk⟩
  ·obtain ⟨col',f0,s,h1,h2,h3,rfl⟩:=jb h
   rw [pV] at he; cases he
 ·intro h
  simp only [Bool.and_eq_true,decide_eq_true_eq] at h
  refine ⟨gp (1+(((n-1).toNat:Nat):Int)) k,II _ (uM 0x1 h.2),?_⟩
  rw [uY]
  simp only [Bool.and_eq_true,decide_eq_true_eq]
  exact ⟨0x1,trivial⟩
noncomputable def tK (c:Nat) (k:List Int):Bool:=decide (3<=k.length)&&k.all (fun x=>decide (0<=x)&&decide (x<(c:Int)))&&HG k
theorem BD (m c:Nat) (n:Int) (k:List Int) (h:tK c k=decide (k∈yE c)):ke m c n k=(decide (1<=n)&&decide (n<=(m:Int))&&decide (k∈yE c)):=by
 rw [<-h]
 unfold ke tK bx
 match k with
 |[]=>simp
 |x::r=>
  by_cases hn:(decide (1<=n)&&decide (n<=(m:Int)))=true
  ·simp only [hn,Bool.true_and]
  ·have hn':(decide (1<=n)&&decide (n<=(m:Int)))=false:=by simpa using hn
   simp only [hn',Bool.false_and,List.all_cons,Bool.and_false]
open PyProof.Rows hiding St
theorem CW {x y:D} (hx:(kT x).isSome=true) (hy:(kT y).isSome=true):cD true x y=some (ll (kO x) (kO y)):=by
 obtain ⟨k,e⟩:=Option.isSome_iff_exists.mp hx
 obtain ⟨k',e'⟩:=Option.isSome_iff_exists.mp hy
 have h1:kO x=k:=by show (kT x).getD []=k; rw [e]; rfl
 have h2:kO y=k':=by show (kT y).getD []=k'; rw [e']; rfl
 rw [h1,h2,jI e,jI e',cD]
 exact ni k k'
theorem Au {x:D} (hx:(kT x).isSome=true):gZ x=true:=by
 obtain ⟨k,e⟩:=Option.isSome_iff_exists.mp hx
 rw [jI e,gZ]
 exact qE k
theorem AZ {ys:List D} (h:∀y∈ys,(kT y).isSome=true/\(kO y).length≠0) (hl:ys.length<=10000):Cmp2 ys:=
 ⟨fun y hy=>Au (h y hy).1,fun x hx y hy=>by rw [CW (h x hx).1 (h y hy).1]; rfl,.inl fun y hy=>by
  obtain ⟨k,e⟩:=Option.isSome_iff_exists.mp (h y hy).1
  have h1:kO y=k:=by show (kT y).getD []=k; rw [e]; rfl
  have h2:=(h y hy).2
  rw [h1] at h2
  rw [jI e]
  cases k with
  |nil=>exact absurd rfl h2
  |cons i r=>exact ⟨i,_,rfl⟩,fun y hy=>by
  obtain ⟨k,e⟩:=Option.isSome_iff_exists.mp (h y hy).1
  rw [jI e,PyData.depth]
  have:=r9 k
  lia,hl⟩
theorem yB {ys:List D} (h:∀y∈ys,(kT y).isSome=true):iJ ys=uf ys:=by
 have h':∀y∈iJ ys,(kT y).isSome=true:=fun y hy=>h y ((cj ys).mem_iff.mp hy)
 refine mX ((cj ys).trans (dq ys).symm) ?_ (ki ys) h'
 refine List.Pairwise.imp_of_mem (fun {a b} ha hb hab=>?_) (gX ys)
 rw [qO (Au (h' b hb)) (Au (h' a ha)) (CW (h' b hb) (h' a ha))] at hab
 exact hab
theorem Gw {xs:List DV} {r:Except Value DV} (e:vi xs=some r):fy xs=some r:=by
 unfold vi at e
 split at e
 ·obtain ⟨ys,e1,e2⟩:=cw e
  split at e2
  ·rename_i hz
   have hk:∀y∈ys,(kT y).isSome=true/\(kO y).length≠0:=fun y hy=>by
    have:=List.all_eq_true.mp hz.2 y hy
    rw [Bool.and_eq_true] at this
    exact ⟨this.1,of_decide_eq_true this.2⟩
   unfold fy
   simp only [e1,bg,aK]
   rw [if_pos (AZ hk 0x1),yB fun y hy=>(hk y hy).1]
   exact e2
  ·cases e2
 ·cases e
theorem u6 {X:Cx} {E:XK} (hu:X.A.units+64<cLine):dc X E (.builtin "sorted") vi:=fun pins s σ O P H₀ H xs vs us r Q I hd hs rx rv e q=>eY hu pins s σ O P H₀ H xs vs us r Q I hd hs rx rv (Gw e) q
noncomputable def lF:DS->M Out:=(aO 2 (e2 aA (af 2) (bE 1 [3,4] (qK (aa (e2 aA (af 4) (eC (.int 2))) (aa (e2 aA (af 0) (eC (.int 1))) ai))) (ax 0) cU (bq (aa (eC (.str "run")) (aa (af 1) (aa (af 2) (aa (e2 aA (e2 gSub (af 0) (af 2)) (eC (.int 1))) ai))))))))
noncomputable def lC:DS->M Out:=(eL (qK (aa (eC (.int 1)) (aa (e2 aA (af 0) (eC (.int 1))) ai))) (ax 4) lF)
noncomputable def lK:DS->M Out:=(fun δ=>(aO 5 (e2 aA (af 5) (bE 1 [3] (oX (af 5)) (ax 0) cU (e2 aA (af 0) (bO (aa (af 1) ai)))))) (frz 5 δ))
noncomputable def lG:DS->M Out:=(fun δ=>(aO 2 (e2 aA (af 2) (bE 1 [6] (oX (af 5)) (ax 0) (fun δ=>bd (e2 ph (aG bK (aa (af 0) ai)) (eC (.int 2)) δ) bw) (bq (aa (eC (.str "group")) (aa (af 1) (aa (aG oQ (aa (af 0) ai)) ai))))))) (frz 5 δ))
noncomputable def fE:Nat->List (List Int)
 |0=>[[]]
 |c+1=>fE c++(fE c).map fun k=>k++[(c:Int)]
noncomputable def ls (k:List Int):D:=.list (k.map PyData.int)
noncomputable def AO (c:Nat):List (List Int):=(fE c).filter fun k=>decide (2<k.length)
section
variable (m c:Nat)
theorem B2 (hm:m<=13) (x1:Option DV) (col f0:Nat) (hf:f0<m) (base:List D) (hb:base.length<=1000) (x5 x6:Option DV) :
  lF [some (.d (.int (m:Int))),x1,some (.own base),some (.d (.int (col:Int))),some (.d (.int (1+(f0:Int)))),x5,x6]=rt (.nx [some (.d (.int (m:Int))),x1,some (.own (base++fG m col f0)),some (.d (.int (col:Int))),some (.d (.int (1+(f0:Int)))),x5,x6]):=by
 have c1:cK (ax 0) cU (bq (aa (eC (.str "run")) (aa (af 1) (aa (af 2) (aa (e2 aA (e2 gSub (af 0) (af 2)) (eC (.int 1))) ai))))) (cG 1 [3,4] [some (.d (.int (m:Int))),x1,some (.own base),some (.d (.int (col:Int))),some (.d (.int (1+(f0:Int)))),x5,x6]) (dB (1+(f0:Int)+2) ((m:Int)+1-(1+(f0:Int)+2)).toNat)=some (fG m col f0):=by
  rw [show ((m:Int)+1-(1+(f0:Int)+2)).toNat=m-2-f0 by lia]
  unfold dB fG
  refine dw fun s hs=>?_
  have q:e2 aA (e2 gSub (af 0) (af 2)) (eC (.int 1)) ((cG 1 [3,4] [some (.d (.int (m:Int))),x1,some (.own base),some (.d (.int (col:Int))),some (.d (.int (1+(f0:Int)))),x5,x6]).set 0 (some (.d (.int (1+(f0:Int)+2+(s:Int))))))=rt (.d (.int (3+(s:Int)))):=by
   refine (ak ((ak (x:=.d (.int (1+(f0:Int)+2+(s:Int)))) (y:=.d (.int (1+(f0:Int)))) rfl rfl).trans (b9 _ _)) rfl).trans ((cb _ _).trans ?_)
   rw [show (1+(f0:Int)+2+(s:Int)-(1+(f0:Int))+1)=3+(s:Int) by lia]
  exact GA rfl rfl rfl q
 have e1:bE 1 [3,4] (qK (aa (e2 aA (af 4) (eC (.int 2))) (aa (e2 aA (af 0) (eC (.int 1))) ai))) (ax 0) cU (bq (aa (eC (.str "run")) (aa (af 1) (aa (af 2) (aa (e2 aA (e2 gSub (af 0) (af 2)) (eC (.int 1))) ai))))) [some (.d (.int (m:Int))),x1,some (.own base),some (.d (.int (col:Int))),some (.d (.int (1+(f0:Int)))),x5,x6]=rt (.new (fG m col f0)):=
  bT (jS (cp ((ak (x:=.d (.int (1+(f0:Int)))) (y:=.d (.int 2)) rfl rfl).trans (cb _ _)) ((ak (x:=.d (.int (m:Int))) (y:=.d (.int 1)) rfl rfl).trans (cb _ _))) 0x1 0x1 0x1 0x1) (by rw [eB]; lia) c1
 unfold lF
 rw [iK ((ak (x:=.own base) rfl e1).trans (vQ rfl rfl rfl (by have:=lS m col f0 hm; lia))) rfl]
 rfl
theorem BF (hm:m<=13) (x1:Option DV) (col:Nat) (base:List D) (hb:base.length<=700) (x4 x5 x6:Option DV) :
  ∃y4,lC [some (.d (.int (m:Int))),x1,some (.own base),some (.d (.int (col:Int))),x4,x5,x6]=rt (.nx [some (.d (.int (m:Int))),x1,some (.own (base++iz m col)),some (.d (.int (col:Int))),y4,x5,x6]):=by
 unfold lC eL
 rw [jS (cp (x:=.d (.int 1)) rfl ((ak (x:=.d (.int (m:Int))) (y:=.d (.int 1)) rfl rfl).trans (cb _ _))) 0x1 0x1 0x1 0x1,aK,show ((m:Int)+1-1).toNat=m by lia]
 unfold dB
 obtain ⟨δ',e,y4,hδ⟩:=iN (f:=fun (k:Nat)=>PyData.int (1+(k:Int))) (i:=4) (N:=m) (B:=lF) (all:=List.range m)
  (fun pre δ=>∃y4,δ=[some (.d (.int (m:Int))),x1,some (.own (base++pre.flatMap (fG m col))),some (.d (.int (col:Int))),y4,x5,x6])
  (fun pre a δ ha hp ⟨y4,hδ⟩=>by
   subst hδ
   have hl:=fU (fun a=>lS m col a hm) pre
   refine ⟨_,B2 m hm x1 col a (List.mem_range.mp ha) (base++pre.flatMap (fG m col)) (by rw [List.length_append]; lia) x5 x6,some (.d (.int (1+(a:Int)))),?_⟩
   rw [List.flatMap_append,<-List.append_assoc,show [a].flatMap (fG m col)=fG m col a by simp])
  (List.range m) [] [some (.d (.int (m:Int))),x1,some (.own base),some (.d (.int (col:Int))),x4,x5,x6] (fun _ h=>h) 0x4 ⟨x4,0x4⟩
 refine ⟨y4,?_⟩
 rw [e,hδ]
 rfl
theorem vx (x0 x1 x2 x3 x4 x6:Option DV) (h1:1<=c) (h4:c<=4):∃y3,dD (ax 3) lK (dB 0 c) [x0,x1,x2,x3,x4,some (.own [.list []]),x6]=rt (.nx [x0,x1,x2,y3,x4,some (.own ((fE c).map ls)),x6]):=by
 match c,h1,h4 with
 |1,_,_=>exact ⟨some (.d (.int 0)),by kernel_rfl⟩
 |2,_,_=>exact ⟨some (.d (.int 1)),by kernel_rfl⟩
 |3,_,_=>exact ⟨some (.d (.int 2)),by kernel_rfl⟩
 |4,_,_=>exact ⟨some (.d (.int 3)),by kernel_rfl⟩
 |n+5,_,h=>lia
theorem Bv (k:List Int):bK [.d (ls k)]=rt (.d (.int (k.length:Int))):=by
 show rt (DV.d (.int ((k.map PyData.int).length:Int)))=_
 rw [List.length_map]
theorem BP (ks:List (List Int)) (hk:ks.length<=100) (x0 x1 x3 x4:Option DV) (n0:Nat) (base:List D) (hb:base.length<=1000) (x5:DV) (h5:x5=.own (ks.map ls)\/x5=.d (.list (ks.map ls))) :
  lG [x0,x1,some (.own base),x3,x4,some x5,some (.d (.int (1+(n0:Int))))]=rt (.nx [x0,x1,some (.own (base++cg (ks.filter fun k=>decide (2<k.length)) n0)),x3,x4,some (.d (.list (ks.map ls))),some (.d (.int (1+(n0:Int))))]):=by
 have hf:frz 5 [x0,x1,some (.own base),x3,x4,some x5,some (.d (.int (1+(n0:Int))))]=[x0,x1,some (.own base),x3,x4,some (.d (.list (ks.map ls))),some (.d (.int (1+(n0:Int))))]:=by
  rcases h5 with h|h <;> (subst h; rfl)
 unfold lG
 rw [hf]
 have c1:cK (ax 0) (fun δ=>bd (e2 ph (aG bK (aa (af 0) ai)) (eC (.int 2)) δ) bw) (bq (aa (eC (.str "group")) (aa (af 1) (aa (aG oQ (aa (af 0) ai)) ai)))) (cG 1 [6] [x0,x1,some (.own base),x3,x4,some (.d (.list (ks.map ls))),some (.d (.int (1+(n0:Int))))]) (ks.map ls)=some (cg (ks.filter fun k=>decide (2<k.length)) n0):=by
  unfold cg
  refine jT fun k hk=>⟨?_,?_⟩
  ·refine (aX ((ak (y:=.d (.int 2)) ((bS (br (x:=.d (ls k)) rfl)).trans (Bv k)) rfl).trans (gw _ _))).trans ?_
   rw [show decide ((2:Int)<(k.length:Int))=decide (2<k.length) from decide_eq_decide.mpr 0x1]
  ·exact FG rfl rfl ((bS (br (x:=.d (ls k)) rfl)).trans rfl)
 have e1:bE 1 [6] (oX (af 5)) (ax 0) (fun δ=>bd (e2 ph (aG bK (aa (af 0) ai)) (eC (.int 2)) δ) bw) (bq (aa (eC (.str "group")) (aa (af 1) (aa (aG oQ (aa (af 0) ai)) ai)))) [x0,x1,some (.own base),x3,x4,some (.d (.list (ks.map ls))),some (.d (.int (1+(n0:Int))))]=rt (.new (cg (ks.filter fun k=>decide (2<k.length)) n0)):=
  bT (ic rfl) (by rw [List.length_map]; lia) c1
 have hl:(cg (ks.filter fun k=>decide (2<k.length)) n0).length<=100:=by
  unfold cg
  rw [List.length_map]
  exact Nat.le_trans (List.length_filter_le _ _) hk
 rw [iK ((ak (x:=.own base) rfl e1).trans (vQ rfl rfl rfl 0x1)) rfl]
 rfl
theorem xQ (h4:c<=4):(fE c).length<=100:=by
 match c,h4 with
 |0,_|1,_|2,_|3,_|4,_=>decide
 |n+5,h=>lia
theorem wJ (h4:c<=4):(AO c).length<=5:=by
 match c,h4 with
 |0,_|1,_|2,_|3,_|4,_=>decide
 |n+5,h=>lia
theorem Ag (h4:c<=4):(AO c).Perm (yE c):=by
 match c,h4 with
 |0,_|1,_|2,_|3,_|4,_=>decide
 |n+5,h=>lia
theorem qz {α:Type} {f g:α->List D} (h:∀a,(f a).Perm (g a)):∀as:List α,(as.flatMap f).Perm (as.flatMap g)
 |[]=>.refl _
 |a::as=>by
  rw [List.flatMap_cons,List.flatMap_cons]
  exact (h a).append (qz h as)
theorem Ao (h4:c<=4):(dF m c++dH (AO c) m).Perm (aE m c):=by
 refine List.perm_append_comm.trans ?_
 unfold aE
 refine List.Perm.append_right _ ?_
 unfold dH
 refine qz (fun n0=>?_) _
 unfold cg
 exact (Ag c h4).map _
theorem mh (hm:m<=13) (h1:1<=c) (h4:c<=4):cR [.d (.int (m:Int)),.d (.int (c:Int))]=rt (.new (aE m c)):=by
 unfold cR kS fP
 have hd:mR ["most", "colours", "found", "colour", "first", "kinds", "number"] [.d (.int (m:Int)),.d (.int (c:Int))]=[some (.d (.int (m:Int))),some (.d (.int (c:Int))),none,none,none,none,none]:=rfl
 rw [hd]
 have s1:aO 2 (bO ai) [some (.d (.int (m:Int))),some (.d (.int (c:Int))),none,none,none,none,none]=rt (.nx [some (.d (.int (m:Int))),some (.d (.int (c:Int))),some (.own []),none,none,none,none]):=rfl
 rw [df s1]
 obtain ⟨δ',e,y3,y4,hδ⟩:=iN (f:=fun (k:Nat)=>PyData.int (k:Int)) (i:=3) (N:=c) (B:=lC) (all:=List.range c)
  (fun pre δ=>∃y3 y4,δ=[some (.d (.int (m:Int))),some (.d (.int (c:Int))),some (.own (pre.flatMap (iz m))),y3,y4,none,none])
  (fun pre a δ ha hp ⟨y3,y4,hδ⟩=>by
   subst hδ
   have hl:=fU (fun a=>pN m a hm) pre
   obtain ⟨z4,e⟩:=BF m hm (some (.d (.int (c:Int)))) a (pre.flatMap (iz m)) 0x1 y4 none none
   refine ⟨_,e,some (.d (.int (a:Int))),z4,?_⟩
   rw [List.flatMap_append,show [a].flatMap (iz m)=iz m a by simp])
  (List.range c) [] [some (.d (.int (m:Int))),some (.d (.int (c:Int))),some (.own []),none,none,none,none] (fun _ h=>h) 0x4 ⟨none,none,0x4⟩
 have s2:eL (tY (aa (af 1) ai)) (ax 3) lC [some (.d (.int (m:Int))),some (.d (.int (c:Int))),some (.own []),none,none,none,none]=rt (.nx [some (.d (.int (m:Int))),some (.d (.int (c:Int))),some (.own (dF m c)),y3,y4,none,none]):=by
  unfold eL
  rw [j6 (br (x:=.d (.int (c:Int))) rfl) 0x1 0x1,aK,show (c:Int).toNat=c by lia,xS,e,hδ]
  rfl
 rw [show (eL (qK (aa (eC (.int 1)) (aa (e2 aA (af 0) (eC (.int 1))) ai))) (ax 4) (aO 2 (e2 aA (af 2) (bE 1 [3,4] (qK (aa (e2 aA (af 4) (eC (.int 2))) (aa (e2 aA (af 0) (eC (.int 1))) ai))) (ax 0) cU (bq (aa (eC (.str "run")) (aa (af 1) (aa (af 2) (aa (e2 aA (e2 gSub (af 0) (af 2)) (eC (.int 1))) ai)))))))))=lC from rfl]
 rw [df s2]
 have s3:aO 5 (bO (aa (bO ai) ai)) [some (.d (.int (m:Int))),some (.d (.int (c:Int))),some (.own (dF m c)),y3,y4,none,none]=rt (.nx [some (.d (.int (m:Int))),some (.d (.int (c:Int))),some (.own (dF m c)),y3,y4,some (.own [.list []]),none]):=rfl
 rw [df s3]
 obtain ⟨z3,ek⟩:=vx c (some (.d (.int (m:Int)))) (some (.d (.int (c:Int)))) (some (.own (dF m c))) y3 y4 none h1 h4
 have s4:eL (tY (aa (af 1) ai)) (ax 3) lK [some (.d (.int (m:Int))),some (.d (.int (c:Int))),some (.own (dF m c)),y3,y4,some (.own [.list []]),none]=rt (.nx [some (.d (.int (m:Int))),some (.d (.int (c:Int))),some (.own (dF m c)),z3,y4,some (.own ((fE c).map ls)),none]):=by
  unfold eL
  rw [j6 (br (x:=.d (.int (c:Int))) rfl) 0x1 0x1,aK,show (c:Int).toNat=c by lia,ek]
 rw [show (fun δ=>(aO 5 (e2 aA (af 5) (bE 1 [3] (oX (af 5)) (ax 0) cU (e2 aA (af 0) (bO (aa (af 1) ai)))))) (frz 5 δ))=lK from rfl]
 rw [df s4]
 have lr:=pS m c hm
 obtain ⟨δ2,eg,w5,w6,hδ2,_⟩:=iN (f:=fun (k:Nat)=>PyData.int (1+(k:Int))) (i:=6) (N:=m) (B:=lG) (all:=List.range m)
  (fun pre δ=>∃w5 w6,δ=[some (.d (.int (m:Int))),some (.d (.int (c:Int))),some (.own (dF m c++pre.flatMap (cg (AO c)))),z3,y4,some w5,w6]/\(w5=.own ((fE c).map ls)\/w5=.d (.list ((fE c).map ls))))
  (fun pre a δ ha hp ⟨w5,w6,hδ,hw⟩=>by
   subst hδ
   have hl:=fU (fun a=>me (wJ c h4) a) pre
   refine ⟨_,BP (fE c) (xQ c h4) _ _ _ _ a (dF m c++pre.flatMap (cg (AO c))) (by rw [List.length_append]; lia) w5 hw,_,some (.d (.int (1+(a:Int)))),?_,.inr rfl⟩
   rw [List.flatMap_append,show [a].flatMap (cg (AO c))=cg (AO c) a by simp,<-List.append_assoc]
   rfl)
  (List.range m) [] [some (.d (.int (m:Int))),some (.d (.int (c:Int))),some (.own (dF m c)),z3,y4,some (.own ((fE c).map ls)),none] (fun _ h=>h) 0x4 ⟨.own ((fE c).map ls),none,0x4,.inl rfl⟩
 have s5:eL (qK (aa (eC (.int 1)) (aa (e2 aA (af 0) (eC (.int 1))) ai))) (ax 6) lG [some (.d (.int (m:Int))),some (.d (.int (c:Int))),some (.own (dF m c)),z3,y4,some (.own ((fE c).map ls)),none]=rt (.nx [some (.d (.int (m:Int))),some (.d (.int (c:Int))),some (.own (dF m c++dH (AO c) m)),z3,y4,some w5,w6]):=by
  unfold eL
  rw [jS (cp (x:=.d (.int 1)) rfl ((ak (x:=.d (.int (m:Int))) (y:=.d (.int 1)) rfl rfl).trans (cb _ _))) 0x1 0x1 0x1 0x1,aK,show ((m:Int)+1-1).toNat=m by lia]
  unfold dB
  rw [eg,hδ2]
  rfl
 rw [show (fun δ=>(aO 2 (e2 aA (af 2) (bE 1 [6] (oX (af 5)) (ax 0) (fun δ=>bd (e2 ph (aG bK (aa (af 0) ai)) (eC (.int 2)) δ) bw) (bq (aa (eC (.str "group")) (aa (af 1) (aa (aG oQ (aa (af 0) ai)) ai))))))) (frz 5 δ))=lG from rfl]
 rw [df s5]
 have hp:=Ao m c h4
 have lg:=mB (wJ c h4) m
 have e9:aG fy (aa (af 2) ai) [some (.d (.int (m:Int))),some (.d (.int (c:Int))),some (.own (dF m c++dH (AO c) m)),z3,y4,some w5,w6]=rt (.new (aE m c)):=by
  refine (bS (br (x:=.own (dF m c++dH (AO c) m)) rfl)).trans ?_
  unfold fy
  simp only
  rw [nq,bg,aK,if_pos (jQ (fun x hx=>jx (hp.mem_iff.mp hx)) (by rw [List.length_append]; lia)),uW hp]
 rw [bz e9]
 rfl
end
noncomputable abbrev Tl:=Int×Int
theorem rY (ps:List Tl) (p:Tl):lQ ps p=((ps.count p:Nat):Int):=by
 unfold lQ
 rw [List.countP_map,List.count_eq_countP]
 congr 1
 refine List.countP_congr fun q _=>?_
 show (PyData.eqv (pr q) (pr p))=true↔_
 rw [j5]
 simp
theorem vV (a b:Tl->Int):∀ks:List Tl,(ks.map fun p=>a p+b p).sum=(ks.map a).sum+(ks.map b).sum
 |[]=>rfl
 |k::r=>by simp only [List.map_cons,List.sum_cons]; rw [vV a b r]; lia
theorem ng (a b:Tl->Int):∀ks:List Tl,(ks.map fun p=>a p-b p).sum=(ks.map a).sum-(ks.map b).sum
 |[]=>rfl
 |k::r=>by simp only [List.map_cons,List.sum_cons]; rw [ng a b r]; lia
theorem oR (a:Tl->Int):∀ks:List Tl,(∀p∈ks,a p=0)->(ks.map a).sum=0
 |[],_=>rfl
 |k::r,h=>by
  simp only [List.map_cons,List.sum_cons]
  rw [h k IF,oR a r fun p hp=>h p (IE _ hp)]
  rfl
theorem wx (f:Tl->Int) (x:Tl):∀ks:List Tl,ks.Nodup->x∈ks->(ks.map fun p=>(if x=p then f p else 0)).sum=f x
 |[],_,h=>nomatch h
 |k::r,hn,h=>by
  have hn':=List.nodup_cons.mp hn
  simp only [List.map_cons,List.sum_cons]
  by_cases hk:x=k
  ·subst hk
   rw [if_pos rfl,oR _ r fun p hp=>if_neg fun (e:x=p)=>hn'.1 (by rw [e]; exact hp)]
   lia
  ·rw [if_neg hk,wx f x r hn'.2 ((List.mem_cons.mp h).resolve_left hk)]
   lia
theorem Bs (f:Tl->Int) {ks:List Tl} (hn:ks.Nodup):∀L:List Tl,(∀x∈L,x∈ks)->(L.map f).sum=(ks.map fun p=>(L.count p:Int)*f p).sum
 |[],_=>(oR _ ks fun p _=>0x4).symm
 |x::r,h=>by
  have ih:=Bs f hn r fun y hy=>h y (IE _ hy)
  have h1:=wx f x ks hn (h x IF)
  simp only [List.map_cons,List.sum_cons]
  rw [ih,<-h1,<-vV]
  congr 1
  refine List.map_congr_left fun p _=>?_
  rw [List.count_cons]
  by_cases hx:x=p
  ·subst hx
   simp
   rw [Int.add_mul]
   lia
  ·have:(x==p)=false:=by simpa using hx
   rw [if_neg hx,this]
   simp
theorem rE {ks:List Tl} (hn:ks.Nodup) (L:List Tl) (h:∀x∈L,x∈ks):(L.length:Int)=(ks.map fun p=>(L.count p:Int)).sum:=by
 have:=Bs (fun _=>1) hn L h
 simp only [Int.mul_one] at this
 rw [<-this]
 clear this h
 induction L with
 |nil=>rfl
 |cons x r ih=>simp only [List.map_cons,List.sum_cons,List.length_cons]; lia
noncomputable def bI (hand need:List Tl):List Tl:=need.foldl (fun r t=>r.erase t) hand
theorem hZ (p:Tl):∀(need hand:List Tl),(bI hand need).count p=hand.count p-need.count p
 |[],hand=>by unfold bI; simp
 |t::need,hand=>by
  show (bI (hand.erase t) need).count p=_
  rw [hZ p need,List.count_erase,List.count_cons]
  by_cases h:t=p
  ·subst h; simp; lia
  ·have:(t==p)=false:=by simpa using h
   rw [this]; simp
theorem gO:∀(need hand:List Tl),(bI hand need).Sublist hand
 |[],hand=>List.Sublist.refl _
 |t::need,hand=>(gO need (hand.erase t)).trans List.erase_sublist
noncomputable def g7 (hand need:List Tl) (p:Tl):Int:=min (need.count p:Int) (hand.count p:Int)
noncomputable def jB (hand need ks:List Tl):Int:=(ks.map fun p=>g7 hand need p*p.1).sum
noncomputable def nR (hand need ks:List Tl):Int:=(ks.map fun p=>(need.count p:Int)-g7 hand need p).sum
noncomputable def dE (hand need ks:List Tl):List Tl:=ks.flatMap fun p=>List.replicate (hand.count p-need.count p) p
theorem yL (g:Tl->Nat) (q:Tl):∀ks:List Tl,ks.Nodup->(ks.flatMap fun p=>List.replicate (g p) p).count q=if q∈ks then g q else 0
 |[],_=>by simp
 |k::r,hn=>by
  have hn':=List.nodup_cons.mp hn
  rw [List.flatMap_cons,List.count_append,yL g q r hn'.2,List.count_replicate]
  by_cases h:k=q
  ·subst h
   rw [if_neg hn'.1]
   simp
  ·have h1:(k==q)=false:=by simpa using h
   have h2:q∈k::r↔q∈r:=⟨fun hm=>(List.mem_cons.mp hm).resolve_left fun e=>h e.symm,IE _⟩
   rw [h1]
   simp only [Bool.false_eq_true,if_false,Nat.zero_add,h2]
structure KsOk (hand need ks:List Tl):Prop where
 nd:ks.Nodup
 ord:L3.Ord (ks.map pr)
 hand:∀x∈hand,x∈ks
 need:∀x∈need,x∈ks
theorem CY {R:Tl->Tl->Prop} (g:Tl->Nat) (hr:∀x,R x x):∀{ks:List Tl},ks.Pairwise R->(ks.flatMap fun p=>List.replicate (g p) p).Pairwise R
 |[],_=>List.Pairwise.nil
 |k::r,h=>by
  have h':=List.pairwise_cons.mp h
  rw [List.flatMap_cons,List.pairwise_append]
  refine ⟨List.pairwise_replicate.mpr (.inr (hr k)),CY g hr h'.2,fun a ha b hb=>?_⟩
  rw [List.eq_of_mem_replicate ha]
  obtain ⟨p,hp,hb'⟩:=List.mem_flatMap.mp hb
  rw [List.eq_of_mem_replicate hb']
  exact h'.1 p hp
theorem Cy {hand need ks:List Tl} (K:KsOk hand need ks) (ho:iP hand=true):bI hand need=dE hand need ks:=by
 have hp:(bI hand need).Perm (dE hand need ks):=List.perm_iff_count.mpr fun q=>by
  unfold dE
  rw [hZ,yL _ q ks K.nd]
  by_cases h:q∈ks
  ·rw [if_pos h]
  ·rw [if_neg h,List.count_eq_zero.mpr fun hh=>h (K.hand q hh)]
   lia
 have h1:L3.Ord ((bI hand need).map pr):=(Bi ho).sublist ((gO need hand).map pr)
 have h2:L3.Ord ((dE hand need ks).map pr):=by
  unfold L3.Ord
  rw [List.pairwise_map]
  have:=K.ord
  unfold L3.Ord at this
  rw [List.pairwise_map] at this
  exact CY _ (fun x=>cX _) this
 have h3:=mX (hp.map pr) h1 h2 fun x hx=>by
  obtain ⟨p,_,rfl⟩:=List.mem_map.mp hx
  rfl
 have inj:∀(a b:List Tl),a.map pr=b.map pr->a=b:=fun a=>by
  induction a with
  |nil=>intro b hb; cases b with
   |nil=>rfl
   |cons _ _=>cases hb
  |cons x r ih=>intro b hb; cases b with
   |nil=>cases hb
   |cons y t=>
    rw [List.map_cons,List.map_cons] at hb
    have hb1:=List.cons.inj hb
    rw [qU hb1.1,ih t hb1.2]
 exact inj _ _ h3
theorem rL (hand need:List Tl) (p:Tl):((hand.count p-need.count p:Nat):Int)=(hand.count p:Int)-g7 hand need p:=by
 unfold g7; lia
theorem FU {hand need ks:List Tl} (K:KsOk hand need ks):nR hand need ks=(need.length:Int)-((hand.length:Int)-((bI hand need).length:Int)):=by
 rw [rE K.nd need K.need,rE K.nd hand K.hand,rE K.nd (bI hand need) fun x hx=>K.hand x ((gO need hand).subset hx)]
 unfold nR
 rw [ng]
 have:(ks.map fun p=>((bI hand need).count p:Int))=ks.map fun p=>(hand.count p:Int)-g7 hand need p:=List.map_congr_left fun p _=>by rw [hZ,rL]
 rw [this,ng]
 lia
theorem EZ {hand need ks:List Tl} (K:KsOk hand need ks):jB hand need ks=(hand.map (·.1)).sum-((bI hand need).map (·.1)).sum:=by
 rw [Bs (·.1) K.nd hand K.hand,Bs (·.1) K.nd (bI hand need) fun x hx=>K.hand x ((gO need hand).subset hx)]
 rw [<-ng]
 unfold jB
 congr 1
 refine List.map_congr_left fun p _=>?_
 rw [hZ,rL,Int.sub_mul]
 lia
inductive Ml where
 |r (c f n:Int)
 |g (n:Int) (k:List Int)
noncomputable def md:Ml->D
 |.r c f n=>rn c f n
 |.g n k=>gp n k
noncomputable def tl:Ml->List Tl
 |.r c f n=>(List.range n.toNat).map fun (k:Nat)=>(f+(k:Int),c)
 |.g n k=>k.map fun x=>(n,x)
noncomputable def kP (m c:Nat):Ml->Bool
 |.r col f n=>kM m c col f n
 |.g n k=>ke m c n k
theorem qC:∀y:Ml,lA (md y)
 |.r c f n=>.inl ⟨c,f,n,rfl⟩
 |.g n k=>.inr ⟨n,k,rfl⟩
structure hJ (m c:Nat) (y:Ml):Prop where
 known:((aE m c).any fun z=>PyData.eqv z (md y))=kP m c y
 tiles:∀C E:Addr,bD C E [hs C m c,.d (md y)]=if kP m c y=true then rt (.new ((tl y).map pr)) else some (.error (.ref E))
 law:bC [.d (md y)]=rt (.new ((tl y).map pr))
 len:(tl y).length<=13
 box:∀p∈tl y,0<=p.1/\p.1<=13/\0<=p.2/\p.2<=3
theorem zK {m c:Nat} {col f n:Int} (h0:0<=n) (h1:n<=13) (h2:0<=f) (h3:f+n-1<=13) (h4:0<=col) (h5:col<=3):hJ m c (.r col f n):=by
 have ht:iQ col f n=(tl (.r col f n)).map pr:=by unfold iQ tl; rw [List.map_map]; rfl
 refine ⟨rP m c col f n,fun C E=>?_,?_,by unfold tl; simp; lia,fun p hp=>?_⟩
 ·show bD C E [hs C m c,.d (rn col f n)]=_
  rw [sr C E m c col f n 0x1 0x1,ht]
  rfl
 ·show bC [.d (rn col f n)]=_
  rw [mK col f n 0x1 0x1,ht]
 ·obtain ⟨k,hk,rfl⟩:=List.mem_map.mp hp
  have hk:=List.mem_range.mp hk
  exact ⟨by show 0<=f+(k:Int); lia,by show f+(k:Int)<=13; lia,h4,h5⟩
theorem AE {m c:Nat} {n:Int} {k:List Int} (h0:0<=n) (h1:n<=13) (hl:k.length<=4) (hk:∀x∈k,0<=x/\x<=3) (hc:tK c k=decide (k∈yE c)):hJ m c (.g n k):=by
 have ht:iU n k=(tl (.g n k)).map pr:=by unfold iU tl; rw [List.map_map]; rfl
 refine ⟨(qY m c n k).trans (BD m c n k hc).symm,fun C E=>?_,?_,by unfold tl; simp; lia,fun p hp=>?_⟩
 ·show bD C E [hs C m c,.d (gp n k)]=_
  rw [sT C E m c n k 0x1,ht]
  rfl
 ·show bC [.d (gp n k)]=_
  rw [mM n k 0x1,ht]
 ·obtain ⟨x,hx,rfl⟩:=List.mem_map.mp hp
  exact ⟨h0,h1,(hk x hx).1,(hk x hx).2⟩
theorem DL:∀c∈[1,2,3,4],∀k∈yE c,k.length<=4/\(∀x∈k,0<=x/\x<=3)/\tK c k=decide (k∈yE c):=by decide +kernel
theorem Hv {c:Nat} (h1:1<=c) (h4:c<=4):c∈[1,2,3,4]:=by simp; lia
theorem nU {m c:Nat} (hm:m<=13) (h1:1<=c) (h4:c<=4) {x:D} (h:x∈aE m c):∃y,md y=x/\hJ m c y:=by
 unfold aE at h
 rcases List.mem_append.mp h with q|q
 ·obtain ⟨n0,k,hk,hn,rfl⟩:=fT q
  obtain ⟨a1,a2,a3⟩:=DL c (Hv h1 h4) k hk
  exact ⟨.g _ k,rfl,AE 0x1 0x1 a1 a2 a3⟩
 ·obtain ⟨col,f0,s,hc,_,hs,rfl⟩:=jb q
  exact ⟨.r _ _ _,rfl,zK 0x1 0x1 0x1 0x1 0x1 0x1⟩
noncomputable def pG:List Ml:=[.r 0 1 2,.g 0 [0,1,2],.r 0 0 3,.g 1 [1,0,2]]
theorem wa:∀c∈[1,2,3,4],∀k∈([[0,1,2],[1,0,2]]:List (List Int)),k.length<=4/\(∀x∈k,0<=x/\x<=3)/\tK c k=decide (k∈yE c):=by decide +kernel
theorem EC {m c:Nat} (h1:1<=c) (h4:c<=4):∀y∈pG,hJ m c y:=fun y hy=>by
 have b1:=wa c (Hv h1 h4) [0,1,2] 0x4
 have b2:=wa c (Hv h1 h4) [1,0,2] 0x4
 unfold pG at hy
 simp only [List.mem_cons,List.not_mem_nil,or_false] at hy
 rcases hy with rfl|rfl|rfl|rfl
 ·exact zK 0x3 0x3 0x3 0x3 0x3 0x3
 ·exact AE 0x3 0x3 b1.1 b1.2.1 b1.2.2
 ·exact zK 0x3 0x3 0x3 0x3 0x3 0x3
 ·exact AE 0x3 0x3 b2.1 b2.2.1 b2.2.2
theorem og:∀(ks ms:List Int),cL false (ks.map PyData.int) (ms.map PyData.int)=some (!ll ms ks)
 |[],[]=>rfl
 |[],_::_=>rfl
 |_::_,[]=>rfl
 |x::xs,y::ys=>by
  rw [List.map_cons,List.map_cons,cL,eqv_i]
  show _=some (!HT.lexLt (y::ys) (x::xs))
  rw [HT.lexLt_cons]
  by_cases h:x=y
  ·subst h
   rw [if_pos 0x4,if_pos rfl]
   exact og xs ys
  ·rw [if_neg (by simpa using h),if_neg (Ne.symm h)]
   show some (decide (x<=y))=some (!decide (y<x))
   congr 1
   by_cases hlt:y<x
   ·rw [decide_eq_true hlt,decide_eq_false 0x1]; rfl
   ·rw [decide_eq_false hlt,decide_eq_true 0x1]; rfl
theorem Iz {x y:D} (hx:lA x) (hy:lA y):cD false x y=some (!ll (iw y) (iw x)):=by
 obtain ⟨b,hb⟩:=Option.isSome_iff_exists.mp (hy.cmp hx)
 rw [qO hy.ok hx.ok hb]
 rcases hx with ⟨c,f,n,rfl⟩|⟨n,k,rfl⟩ <;> rcases hy with ⟨c',f',n',rfl⟩|⟨n',k',rfl⟩
 ·rw [sN] at hb
  cases hb
  unfold rn cD
  rw [cL,if_pos nT]
  exact og [c,f,n] [c',f',n']
 ·rw [C5] at hb
  cases hb
  unfold gp rn cD
  rw [cL,if_neg (by rw [AG]; exact Bool.false_ne_true)]
  show some (cS false "run" "group")=some false
  congr 1
 ·rw [yt] at hb
  cases hb
  unfold gp rn cD
  rw [cL,if_neg (by rw [oo]; exact Bool.false_ne_true)]
  show some (cS false "group" "run")=some true
  congr 1
 ·rw [wd] at hb
  cases hb
  unfold gp cD
  rw [cL,if_pos uN,cL,eqv_i,bt]
  by_cases h:n=n'
  ·subst h
   rw [if_pos 0x4,if_pos rfl,cL,ux]
   by_cases hk:k=k'
   ·subst hk
    rw [if_pos 0x4,cX]; rfl
   ·rw [if_neg (by simpa using hk)]
    exact og k k'
  ·rw [if_neg (by simpa using h),if_neg (Ne.symm h)]
   show some (decide (n<=n'))=some (!decide (n'<n))
   congr 1
   by_cases hlt:n'<n
   ·rw [decide_eq_true hlt,decide_eq_false 0x1]; rfl
   ·rw [decide_eq_false hlt,decide_eq_true 0x1]; rfl
theorem uZ {x:D} (h:lA x):x.depth<=50:=by
 rcases h with ⟨c,f,n,rfl⟩|⟨n,k,rfl⟩
 ·exact CZ ..
 ·exact Dg ..
theorem Fj {x y:D} (hx:lA x) (hy:lA y):gz (.d x) (.d y)=rt (.d (.bool (!ll (iw y) (iw x)))):=by
 have h0:GU (.d x) (.d y)=none:=by
  rcases hx with ⟨c,f,n,rfl⟩|⟨n,k,rfl⟩ <;> rcases hy with ⟨c',f',n',rfl⟩|⟨n',k',rfl⟩ <;> rfl
 unfold gz yh
 rw [h0]
 show gC false (.d x) (.d y)=_
 unfold gC
 dsimp only
 have:=uZ hx
 rw [if_pos 0x1,Iz hx hy]
 rfl
noncomputable def kN (xs:List D):Bool:=(List.range (xs.length-1)).all fun k=>!ll (iw (xs.getD (k+1) .none)) (iw (xs.getD k .none))
theorem An (xs:List D) (hM:∀x∈xs,lA x) (hl:xs.length<=900):a9 [.d (.list xs)]=rt (.d (.bool (kN xs))):=by
 unfold a9 gF
 refine dJ (x:=.d (.bool (kN xs))) (bz ?_)
 refine (bS (br (bT (xs:=dB 1 ((xs.length:Int)-1).toNat) (ys:=((List.range (xs.length-1)).map fun k=>!ll (iw (xs.getD (k+1) .none)) (iw (xs.getD k .none))).map PyData.bool) (jS (i:=1) (j:=(xs.length:Int)) (cp rfl ((bS (br (x:=.d (.list xs)) rfl)).trans rfl)) 0x1 0x1 0x1 0x1) (by unfold dB; simp; lia) ?_))).trans ?_
 ·have hn:((xs.length:Int)-1).toNat=xs.length-1:=by lia
  rw [hn]
  unfold dB
  rw [List.map_map]
  refine dw (f:=fun (k:Nat)=>PyData.int (1+(k:Int))) fun k hk=>?_
  have hk:=List.mem_range.mp hk
  have e1:bJ (.d (.list xs)) (.d (.int (k:Int)))=rt (.d (xs.getD k .none)):=kx (j7 0x1 _)
  have e2:bJ (.d (.list xs)) (.d (.int (1+(k:Int))))=rt (.d (xs.getD (k+1) .none)):=by
   rw [show (1+(k:Int))=((k+1:Nat):Int) by lia]
   exact kx (j7 0x1 _)
  have m1:∀i,i<xs.length->lA (xs.getD i .none):=fun i hi=>by
   rw [show xs.getD i .none=xs[i] by simp [hi]]
   exact hM _ (List.getElem_mem hi)
  refine (ak (x:=.d (xs.getD k .none)) (y:=.d (xs.getD (k+1) .none)) ?_ ?_).trans (Fj (m1 k 0x1) (m1 (k+1) 0x1))
  ·refine (ak (x:=.d (.list xs)) (y:=.d (.int (k:Int))) rfl ?_).trans e1
   refine (ak (x:=.d (.int (1+(k:Int)))) (y:=.d (.int 1)) rfl rfl).trans ?_
   rw [b9,show (1+(k:Int))-1=(k:Int) by lia]
  ·exact (ak (x:=.d (.list xs)) (y:=.d (.int (1+(k:Int)))) rfl rfl).trans e2
 ·rw [je]
  unfold kN
  rw [List.all_map]
  rfl
theorem tf (xs:List D):kN xs=true↔pz xs:=by
 unfold kN pz
 rw [List.all_eq_true,List.pairwise_iff_getElem]
 have gd:∀i (hi:i<xs.length),xs.getD i .none=xs[i]:=fun i hi=>by simp [hi]
 constructor
 ·intro h
  have adj:∀k,k+1<xs.length->ll (iw (xs.getD (k+1) .none)) (iw (xs.getD k .none))=false:=fun k hk=>by
   simpa using h k (List.mem_range.mpr 0x1)
  have far:∀d i,i+d<xs.length->ll (iw (xs.getD (i+d) .none)) (iw (xs.getD i .none))=false:=fun d=>by
   induction d with
   |zero=>exact fun i _=>cX _
   |succ d ih=>exact fun i hi=>ee (ih i 0x1) (adj (i+d) 0x1)
  intro i j hi hj hij
  have:=far (j-i) i 0x1
  rw [show i+(j-i)=j by lia,gd j hj,gd i hi] at this
  exact this
 ·intro h k hk
  have hk:=List.mem_range.mp hk
  rw [gd (k+1) 0x1,gd k 0x1,h k (k+1) 0x1 0x1 0x1]
  rfl
theorem G4 {x y:D} (hx:lA x) (hy:lA y):PyData.eqv x y=true↔x=y:=by
 rcases hx with ⟨c,f,n,rfl⟩|⟨n,k,rfl⟩ <;> rcases hy with ⟨c',f',n',rfl⟩|⟨n',k',rfl⟩
 ·rw [vm]
  constructor
  ·intro h; simp at h; obtain ⟨rfl,rfl,rfl⟩:=h; rfl
  ·intro h; unfold rn at h; simp at h; simp [h]
 ·rw [pV]
  exact ⟨fun h=>(Bool.false_ne_true h).elim,fun h=>by unfold rn gp at h; simp at h⟩
 ·rw [qh]
  exact ⟨fun h=>(Bool.false_ne_true h).elim,fun h=>by unfold rn gp at h; simp at h⟩
 ·rw [uY]
  constructor
  ·intro h; simp at h; obtain ⟨rfl,rfl⟩:=h; rfl
  ·intro h
   unfold gp at h
   simp at h
   simp [h.1,Ds h.2]
theorem mV:∀{xs ys:List D},(∀x∈xs,lA x)->(∀y∈ys,lA y)->(PyData.eqvAll xs ys=true↔xs=ys)
 |[],[],_,_=>⟨fun _=>rfl,fun _=>rfl⟩
 |[],_::_,_,_=>⟨fun h=>(nomatch h),fun h=>(nomatch h)⟩
 |_::_,[],_,_=>⟨fun h=>(nomatch h),fun h=>(nomatch h)⟩
 |x::xs,y::ys,h1,h2=>by
  rw [PyData.eqvAll,Bool.and_eq_true,G4 (h1 x IF) (h2 y IF),mV (fun z hz=>h1 z (IE _ hz)) fun z hz=>h2 z (IE _ hz)]
  simp
theorem Dc {xs:List D} (h:∀x∈xs,lA x):PyData.depthAll xs<=50:=by
 induction xs with
 |nil=>unfold PyData.depthAll; lia
 |cons x r ih=>
  have h1:=uZ (h x IF)
  have h2:=ih fun z hz=>h z (IE _ hz)
  rw [PyData.depthAll]
  lia
theorem Ae {xs:List D} (h:∀x∈xs,lA x):∀x∈iJ xs,lA x:=fun x hx=>h x ((cj xs).mem_iff.mp hx)
theorem xl {xs:List D} (h:∀x∈xs,lA x):PyData.eqvAll xs (iJ xs)=kN xs:=by
 cases hb:kN xs with
 |true=>
  rw [mV h (Ae h)]
  exact (ky (cj xs) (gX xs) ((tf xs).mp hb) (fun x hx=>(Ae h x hx).ok) fun x hx y hy=>(Ae h x hx).cmp (Ae h y hy)).symm
 |false=>
  cases he:PyData.eqvAll xs (iJ xs) with
  |false=>rfl
  |true=>
   have e:=(mV h (Ae h)).mp he
   have:=gX xs
   rw [<-e] at this
   rw [(tf xs).mpr this] at hb
   cases hb
end LW
namespace K3
open PySem PySem.Spec L2 L3 LW
open PyProof.Rows hiding St
theorem mT {X:Cx} {E:XK} {sts:List Stmt} {F:DS->M Out} (i j:Nat) (h:wb X E sts F):wb X E sts (fun δ=>F (frz i (frz j δ))):=fY j (fY i h)
noncomputable def lq (i:Nat):Stmt:=PySem.Challenge.pw_meldhouse_k03_layings.main.body.getD i (.Pass ⟨0,0,0,0⟩)
structure Tx (K:IU) (mg:Str->Option Value) (C:Addr):Prop where
 cl:Cls K C
 n_colours:hW K C "colours"
 n_most:hW K C "most"
 i_LEAST_NUMBERS:∃t,mg "LEAST_NUMBERS" = some (.int 3 t)
 i_MOST_NUMBERS:∃t,mg "MOST_NUMBERS" = some (.int 13 t)
 i_LEAST_COLOURS:∃t,mg "LEAST_COLOURS" = some (.int 1 t)
 i_MOST_COLOURS:∃t,mg "MOST_COLOURS" = some (.int 4 t)
 i_MOST_TILES:∃t,mg "MOST_TILES" = some (.int 12 t)
 i_MOST_ALIKE:∃t,mg "MOST_ALIKE" = some (.int 2 t)
 i_MOST_JOKERS:∃t,mg "MOST_JOKERS" = some (.int 2 t)
 i_LEAST_SIZE:∃t,mg "LEAST_SIZE" = some (.int 3 t)
 b_all:mg "all" = none
 b_bool:mg "bool" = none
 b_int:mg "int" = none
 b_isinstance:mg "isinstance" = none
 b_len:mg "len" = none
 b_list:mg "list" = none
 b_max:mg "max" = none
 b_min:mg "min" = none
 b_range:mg "range" = none
 b_set:mg "set" = none
 b_sorted:mg "sorted" = none
 b_sum:mg "sum" = none
 b_tuple:mg "tuple" = none
structure Rx (K:IU) (mg:Str->Option Value) (IP IQ IS IT:Addr):Prop where
 x_BadHand:Xc K mg "BadHand" IP
 x_BadLaying:Xc K mg "BadLaying" IS
 q_BadLaying_MeldError:PySem.W.kitOne K (.ref IS) (.ref IT)=some true
 m_MeldError:mg "MeldError" = some (.ref IT)
noncomputable abbrev Ia (P:Program) (w:World) (K:IU) (mg:Str->Option Value) (base:Heap) (C IQ:Addr):Prop:=Hs P w K mg base "House" C IQ iF "most" "colours"
section
variable {P:Program} {w:World} {K:IU} {mg:Str->Option Value} {base:Heap}
noncomputable abbrev gH:Stmt:=lq 14
theorem oz:FnScope ["house", "tile"] ["house", "tile"] (ar gH):=⟨rfl,rfl,rfl,0x2,rfl,0x2,0x2⟩
theorem dP {C IP IQ IS IT:Addr} (T:Tx K mg C) (R:Rx K mg IP IQ IS IT) (D:Df K mg "is_tile" gH ["house", "tile"])   : Has P w K mg base 1 "is_tile" 2 (bP C):=D.has fun f fd Fu=>oW (k:=0) Fu oz rfl fun cdv A outer s H E hr=>by
 have hu:=eM hr
 have nd:=oz.nd
 refine ay ?_
 exact aR (hU (tW (dZ hu) (dZ hu) aj (bf (ag 1 (pv 1)) aj) (yJ (ag 0 (pv 0)) T.cl T.n_most)) (jY (tW (dZ hu) (i5 hu) aj (bf (ag 1 (pv 1)) aj) (yJ (ag 0 (pv 0)) T.cl T.n_colours))))
noncomputable abbrev cW:Stmt:=lq 15
theorem i6:FnScope ["row"] ["row"] (ar cW):=⟨rfl,rfl,rfl,0x2,rfl,0x2,0x2⟩
theorem dC {C IP IQ IS IT:Addr} (T:Tx K mg C) (R:Rx K mg IP IQ IS IT) (D:Df K mg "is_in_order" cW ["row"])   : Has P w K mg base 1 "is_in_order" 1 (a9):=D.has fun f fd Fu=>oW (k:=0) Fu i6 rfl fun cdv A outer s H E hr=>by
 have hu:=eM hr
 have nd:=i6.nd
 refine ay ?_
 exact aR (aJ (oM rfl) rfl T.b_all nQ (ae (cO (N':=["k", "row"]) (CompSc.fit (sc:=ar cW) (N:=["row"]) ⟨rfl,0x2,0x2,0x2,rfl,0x2⟩) 0x3 rfl (pR T.b_range (ae aj (ae (aJ dh rfl T.b_len cY (ae (ag 0 (pv 0)) ah)) ah))) (aS 0) (bR 0x3) (fun _ _ _ _=>(aT (i:=0) (show List.Nodup (["k", "row"]:List Str) by decide +kernel) rfl (by first|exact Or.inl rfl|exact Or.inr rfl))) (fun _ _ _ _=>fu) (fun _ _ _ _=>(fD (dZ hu) (bf (ag 1 (pv 1)) (aD ft (ag 0 (pv 0)) aj)) (bf (ag 1 (pv 1)) (ag 0 (pv 0)))))) ah))
noncomputable abbrev fQ:Stmt:=lq 16
theorem nF:FnScope ["house", "hand", "jokers"] ["house", "hand", "jokers"] (ar fQ):=⟨rfl,rfl,rfl,0x2,rfl,0x2,0x2⟩
theorem lB {C IP IQ IS IT:Addr} (T:Tx K mg C) (R:Rx K mg IP IQ IS IT) (D:Df K mg "is_hand" fQ ["house", "hand", "jokers"])  (dP:Has P w K mg base 1 "is_tile" 2 (bP C)) (dC:Has P w K mg base 1 "is_in_order" 1 (a9)):Has P w K mg base 2 "is_hand" 3 (gW C):=D.has fun f fd Fu=>oW (k:=1) Fu nF rfl fun cdv A outer s H E hr=>by
 have hu:=eM hr
 have nd:=nF.nd
 refine aq ?_ ?_
 ·refine cy ?_ ?_ ?_
  ·exact (vJ.pb (nH (bu pU (aJ dh rfl T.b_len cY (ae (ag 1 (pv 1)) ah)) (kK T.i_MOST_TILES)) (uP (eZ (nv (dZ hu) (dZ hu) aj (ag 2 (pv 2)) (kK T.i_MOST_JOKERS))))))
  ·refine ay ?_
   exact aR kJ
  ·exact bG
 ·refine aq ?_ ?_
  ·refine cy ?_ ?_ ?_
   ·exact (eZ (gE (aJ (oM rfl) rfl T.b_all nQ (ae (cO (N':=["tile", "house", "hand"]) (CompSc.fit (sc:=ar fQ) (N:=["house", "hand", "jokers"]) ⟨rfl,0x2,0x2,0x2,rfl,0x2⟩) 0x3 rfl (iZ (ag 1 (pv 1))) (aS 0) (bR 0x3) (fun _ _ _ _=>(aT (i:=0) (show List.Nodup (["tile", "house", "hand"]:List Str) by decide +kernel) rfl (by first|exact Or.inl rfl|exact Or.inr rfl))) (fun _ _ _ _=>fu) (fun _ _ _ _=>(hU (aM (dP.mono 0x3) hr (ae (ag 1 (pv 1)) (ae (ag 0 (pv 0)) ah))) (jY (fD (dZ hu) (gR hu (ag 2 (pv 2)) (ag 0 (pv 0))) (kK T.i_MOST_ALIKE)))))) ah))))
   ·refine ay ?_
    exact aR kJ
   ·exact bG
  ·refine ay ?_
   exact aR (aM (dC.mono 0x3) hr (ae (ag 1 (pv 1)) ah))
noncomputable abbrev eF:Stmt:=lq 17
theorem jK:FnScope ["house", "hand", "jokers"] ["house", "hand", "jokers"] (ar eF):=⟨rfl,rfl,rfl,0x2,rfl,0x2,0x2⟩
noncomputable def kX (C:Addr) (IP:Addr):DS->M Out:=(dU (eS (fun δ=>bd ((aG (aw 3 (gW C)) (aa (af 0) (aa (af 1) (aa (af 2) ai)))) δ) bw)) (fun _=>some (.error (.ref IP))) bA)
noncomputable def ef (C:Addr) (IP:Addr):List DV->M DV:=fP ["house", "hand", "jokers"] (kX C IP)
theorem ie {C IP IQ IS IT:Addr} (T:Tx K mg C) (R:Rx K mg IP IQ IS IT) (D:Df K mg "check_hand" eF ["house", "hand", "jokers"])  (lB:Has P w K mg base 2 "is_hand" 3 (gW C)):HasX P w K mg base 3 "check_hand" 3 (ef C IP):=D.hasX fun f fd Fu=>F7 (k:=2) Fu jK rfl fun cdv A outer s H E hr=>by
 have hu:=eM hr
 have nd:=jK.nd
 refine ay ?_
 refine cy ?_ ?_ ?_
 ·exact (eZ (gE (aM (lB.mono 0x3) hr (by refine ae ?_ ?_; (exact (ag 0 (pv 0))); (exact (ae (ag 1 (pv 1)) (ae (ag 2 (pv 2)) ah)))))))
 ·refine ay ?_
  exact kL (ku hr) R.x_BadHand
 ·exact bG
noncomputable abbrev iL:Stmt:=lq 20
theorem qd:FnScope ["house", "colour", "first", "size", "last"] ["house", "colour", "first", "size"] (ar iL):=⟨rfl,rfl,rfl,0x2,rfl,0x2,0x2⟩
theorem om {C IP IQ IS IT:Addr} (T:Tx K mg C) (R:Rx K mg IP IQ IS IT) (D:Df K mg "is_run" iL ["house", "colour", "first", "size"])  (dP:Has P w K mg base 1 "is_tile" 2 (bP C)):Has P w K mg base 2 "is_run" 4 (iM C):=D.has fun f fd Fu=>oW (k:=1) Fu qd rfl fun cdv A outer s H E hr=>by
 have hu:=eM hr
 have nd:=qd.nd
 refine aq ?_ ?_
 ·refine aL (i:=4) ?_ ?_
  ·exact nd
  ·exact (aD ft (aD bh (ag 2 (pv 2)) (ag 3 (pv 3))) aj)
 ·refine ay ?_
  exact aR (hU (fD GG (ag 3 (pv 3)) (kK T.i_LEAST_SIZE)) (hU (aM (dP.mono 0x3) hr (ae (ag 0 (pv 0)) (ae (b8 (ae (ag 2 (pv 2)) (ae (ag 1 (pv 1)) ah))) ah))) (jY (aM (dP.mono 0x3) hr (ae (ag 0 (pv 0)) (ae (b8 (ae (ag 4 (pv 4)) (ae (ag 1 (pv 1)) ah))) ah))))))
noncomputable abbrev dN:Stmt:=lq 21
theorem mj:FnScope ["house", "number", "colours"] ["house", "number", "colours"] (ar dN):=⟨rfl,rfl,rfl,0x2,rfl,0x2,0x2⟩
theorem jX {C IP IQ IS IT:Addr} (T:Tx K mg C) (R:Rx K mg IP IQ IS IT) (D:Df K mg "is_group" dN ["house", "number", "colours"])  (dP:Has P w K mg base 1 "is_tile" 2 (bP C)):Has P w K mg base 2 "is_group" 3 (gi C):=D.has fun f fd Fu=>oW (k:=1) Fu mj rfl fun cdv A outer s H E hr=>by
 have hu:=eM hr
 have nd:=mj.nd
 refine aq ?_ ?_
 ·refine cy ?_ ?_ ?_
  ·exact (bu (i5 hu) (aJ dh rfl T.b_len cY (ae (ag 2 (pv 2)) ah)) (kK T.i_LEAST_SIZE))
  ·refine ay ?_
   exact aR kJ
  ·exact bG
 ·refine aq ?_ ?_
  ·refine cy ?_ ?_ ?_
   ·exact (eZ (gE (aJ (oM rfl) rfl T.b_all nQ (ae (cO (N':=["colour", "house", "number"]) (CompSc.fit (sc:=ar dN) (N:=["house", "number", "colours"]) ⟨rfl,0x2,0x2,0x2,rfl,0x2⟩) 0x3 rfl (zd (ag 2 (pv 2))) (aS 0) (bR 0x3) (fun _ _ _ _=>(aT (i:=0) (show List.Nodup (["colour", "house", "number"]:List Str) by decide +kernel) rfl (by first|exact Or.inl rfl|exact Or.inr rfl))) (fun _ _ _ _=>fu) (fun _ _ _ _=>(aM (dP.mono 0x3) hr (ae (ag 1 (pv 1)) (ae (b8 (ae (ag 2 (pv 2)) (ae (ag 0 (pv 0)) ah))) ah))))) ah))))
   ·refine ay ?_
    exact aR kJ
   ·exact bG
  ·refine ay ?_
   exact aR (aJ (oM rfl) rfl T.b_all nQ (ae (cO (N':=["k", "colours"]) (CompSc.fit (sc:=ar dN) (N:=["house", "number", "colours"]) ⟨rfl,0x2,0x2,0x2,rfl,0x2⟩) 0x3 rfl (pR T.b_range (ae aj (ae (aJ dh rfl T.b_len cY (ae (ag 2 (pv 2)) ah)) ah))) (aS 0) (bR 0x3) (fun _ _ _ _=>(aT (i:=0) (show List.Nodup (["k", "colours"]:List Str) by decide +kernel) rfl (by first|exact Or.inl rfl|exact Or.inr rfl))) (fun _ _ _ _=>fu) (fun _ _ _ _=>(fD (i5 hu) (bf (ag 1 (pv 1)) (aD ft (ag 0 (pv 0)) aj)) (bf (ag 1 (pv 1)) (ag 0 (pv 0)))))) ah))
noncomputable abbrev gY:Stmt:=lq 22
theorem oG:FnScope ["house", "meld"] ["house", "meld"] (ar gY):=⟨rfl,rfl,rfl,0x2,rfl,0x2,0x2⟩
theorem lU {C IP IQ IS IT:Addr} (T:Tx K mg C) (R:Rx K mg IP IQ IS IT) (D:Df K mg "is_meld" gY ["house", "meld"])  (om:Has P w K mg base 2 "is_run" 4 (iM C)) (jX:Has P w K mg base 2 "is_group" 3 (gi C)):Has P w K mg base 3 "is_meld" 2 (cE C):=D.has fun f fd Fu=>oW (k:=2) Fu oG rfl fun cdv A outer s H E hr=>by
 have hu:=eM hr
 have nd:=oG.nd
 refine aq ?_ ?_
 ·refine cy ?_ ?_ ?_
  ·exact (bu (fZ hu) (bf (ag 1 (pv 1)) aj) (gD 0x2))
  ·refine ay ?_
   exact aR (aM (om.mono 0x3) hr (by refine ae ?_ ?_; (exact (ag 0 (pv 0))); (exact (by refine ae ?_ ?_; (exact (bf (ag 1 (pv 1)) aj)); (exact (by refine ae ?_ ?_; (exact (bf (ag 1 (pv 1)) aj)); (exact (by refine ae ?_ ?_; (exact (bf (ag 1 (pv 1)) aj)); (exact ah)))))))))
  ·exact bG
 ·refine ay ?_
  exact aR (hU (fD (fZ hu) (bf (ag 1 (pv 1)) aj) (gD 0x2)) (jY (aM (jX.mono 0x3) hr (by refine ae ?_ ?_; (exact (ag 0 (pv 0))); (exact (ae (bf (ag 1 (pv 1)) aj) (ae (bf (ag 1 (pv 1)) aj) ah)))))))
noncomputable abbrev dM:Stmt:=lq 23
theorem mn:FnScope ["house", "meld"] ["house", "meld"] (ar dM):=⟨rfl,rfl,rfl,0x2,rfl,0x2,0x2⟩
theorem jW {C IP IQ IS IT:Addr} (T:Tx K mg C) (R:Rx K mg IP IQ IS IT) (D:Df K mg "tiles_of" dM ["house", "meld"])  (lU:Has P w K mg base 3 "is_meld" 2 (cE C)):HasX P w K mg base 4 "tiles_of" 2 (bD C IS):=D.hasX fun f fd Fu=>F7 (k:=3) Fu mn rfl fun cdv A outer s H E hr=>by
 have hu:=eM hr
 have nd:=mn.nd
 refine aq ?_ ?_
 ·refine cy ?_ ?_ ?_
  ·exact (eZ (gE (aM (lU.mono 0x3) hr (ae (ag 0 (pv 0)) (ae (ag 1 (pv 1)) ah)))))
  ·refine ay ?_
   exact kL (ku hr) R.x_BadLaying
  ·exact bG
 ·refine aq ?_ ?_
  ·refine cy ?_ ?_ ?_
   ·exact (bu (fZ hu) (bf (ag 1 (pv 1)) aj) (gD 0x2))
   ·refine ay ?_
    exact aR (cO (N':=["k", "meld"]) (CompSc.fit (sc:=ar dM) (N:=["house", "meld"]) ⟨rfl,0x2,0x2,0x2,rfl,0x2⟩) 0x3 rfl (ou T.b_range (ae (bf (ag 1 (pv 1)) aj) ah)) (aS 0) (bR 0x3) (fun _ _ _ _=>(aT (i:=0) (show List.Nodup (["k", "meld"]:List Str) by decide +kernel) rfl (by first|exact Or.inl rfl|exact Or.inr rfl))) (fun _ _ _ _=>fu) (fun _ _ _ _=>(b8 (ae (aD bh (bf (ag 1 (pv 1)) aj) (ag 0 (pv 0))) (ae (bf (ag 1 (pv 1)) aj) ah)))))
   ·exact bG
  ·refine ay ?_
   exact aR (cO (N':=["colour", "meld"]) (CompSc.fit (sc:=ar dM) (N:=["house", "meld"]) ⟨rfl,0x2,0x2,0x2,rfl,0x2⟩) 0x3 rfl (zd (bf (ag 1 (pv 1)) aj)) (aS 0) (bR 0x3) (fun _ _ _ _=>(aT (i:=0) (show List.Nodup (["colour", "meld"]:List Str) by decide +kernel) rfl (by first|exact Or.inl rfl|exact Or.inr rfl))) (fun _ _ _ _=>fu) (fun _ _ _ _=>(b8 (ae (bf (ag 1 (pv 1)) aj) (ae (ag 0 (pv 0)) ah)))))
noncomputable abbrev jh:Stmt:=lq 25
theorem sY:FnScope ["tiles"] ["tiles"] (ar jh):=⟨rfl,rfl,rfl,0x2,rfl,0x2,0x2⟩
noncomputable def vO:DS->M Out:=(bp (aG BM (aa (bE 1 [] (oX (af 0)) (ax 0) cU (e2 bJ (af 0) (eC (.int 0)))) ai)))
noncomputable def iu:List DV->M DV:=fP ["tiles"] (vO)
theorem nc {C IP IQ IS IT:Addr} (T:Tx K mg C) (R:Rx K mg IP IQ IS IT) (D:Df K mg "total" jh ["tiles"])   : Has P w K mg base 1 "total" 1 (iu):=D.has fun f fd Fu=>oW (k:=0) Fu sY rfl fun cdv A outer s H E hr=>by
 have hu:=eM hr
 have nd:=sY.nd
 refine ay ?_
 exact aR (aJ (E5 rfl) rfl T.b_sum EB (ae (cO (N':=["tile"]) (CompSc.fit (sc:=ar jh) (N:=["tiles"]) ⟨rfl,0x2,0x2,0x2,rfl,0x2⟩) 0x3 rfl (iZ (ag 0 (pv 0))) (aS 0) (bR 0x3) (fun _ _ _ _=>(aT (i:=0) (show List.Nodup (["tile"]:List Str) by decide +kernel) rfl (by first|exact Or.inl rfl|exact Or.inr rfl))) (fun _ _ _ _=>fu) (fun _ _ _ _=>(bf (ag 0 (pv 0)) aj))) ah))
noncomputable abbrev gT:Stmt:=lq 26
theorem nB:FnScope ["tiles", "jokers", "wanted", "rest", "tile", "from_hand"] ["tiles", "jokers", "wanted"] (ar gT):=⟨rfl,rfl,rfl,0x2,rfl,0x2,0x2⟩
noncomputable def pW:DS->M Out:=(bB (aO 3 (aG ti (aa (af 0) ai))) (bB (eL (oX (af 2)) (ax 4) (dU (fun δ=>bd (e2 (yf false) (af 4) (af 3) δ) bw) (xx 3 (af 4)) bA)) (bB (aO 5 (e2 gSub (aG bK (aa (af 0) ai)) (aG bK (aa (af 3) ai)))) (bp (zR (aa (af 3) (aa (e2 gSub (af 1) (e2 gSub (aG bK (aa (af 2) ai)) (af 5))) ai)))))))
noncomputable def fk:List DV->M DV:=fP ["tiles", "jokers", "wanted", "rest", "tile", "from_hand"] (pW)
theorem l0 {C IP IQ IS IT:Addr} (T:Tx K mg C) (R:Rx K mg IP IQ IS IT) (D:Df K mg "lay_out" gT ["tiles", "jokers", "wanted"])   : Has P w K mg base 1 "lay_out" 3 (fk):=D.has fun f fd Fu=>oW (k:=0) Fu nB rfl fun cdv A outer s H E hr=>by
 have hu:=eM hr
 have nd:=nB.nd
 refine aq ?_ ?_
 ·refine aL (i:=3) ?_ ?_
  ·exact nd
  ·exact (gL qQ rfl T.b_list mZ (ae (ag 0 (pv 0)) ah))
 ·refine aq ?_ ?_
  ·refine gf PassesOwn.never rfl ?_ (aT (i:=4) (by exact nd) rfl (by first|exact Or.inl rfl|exact Or.inr rfl)) (aS 4) ?_
   ·exact (iZ (ag 2 (pv 2)))
   ·refine ay ?_
    refine cy ?_ ?_ ?_
    ·exact (bu (C7 hu) (ag 4 (pv 4)) (ag 3 (pv 3)))
    ·refine ay ?_
     refine ET hu (pv 3) ?_
     exact (ag 4 (pv 4))
    ·exact bG
  ·refine aq ?_ ?_
   ·refine aL (i:=5) ?_ ?_
    ·exact nd
    ·exact (aD ft (aJ dh rfl T.b_len cY (ae (ag 0 (pv 0)) ah)) (aJ dh rfl T.b_len cY (ae (ag 3 (pv 3)) ah)))
   ·refine ay ?_
    exact aR (BO (ae (ag 3 (pv 3)) (ae (aD ft (ag 1 (pv 1)) (aD ft (aJ dh rfl T.b_len cY (ae (ag 2 (pv 2)) ah)) (ag 5 (pv 5)))) ah)))
noncomputable abbrev cq:Stmt:=lq 27
theorem fX:FnScope ["house", "laying", "wanted", "meld"] ["house", "laying"] (ar cq):=⟨rfl,rfl,rfl,0x2,rfl,0x2,0x2⟩
noncomputable def de (C:Addr) (IS:Addr):DS->M Out:=(bB (aO 2 (bO ai)) (bB (eL (oX (af 1)) (ax 3) (ur 2 (aG (cQ 2 (bD C IS)) (aa (af 0) (aa (af 3) ai))))) (bB (dU (eS (fun δ=>bd ((aG (aw 1 (a9)) (aa (af 1) ai)) δ) bw)) (fun _=>some (.error (.ref IS))) bA) (bp (af 2)))))
noncomputable def a8 (C:Addr) (IS:Addr):List DV->M DV:=fP ["house", "laying", "wanted", "meld"] (de C IS)
theorem eJ {C IP IQ IS IT:Addr} (T:Tx K mg C) (R:Rx K mg IP IQ IS IT) (D:Df K mg "tiles_of_laying" cq ["house", "laying"])  (jW:HasX P w K mg base 4 "tiles_of" 2 (bD C IS)) (dC:Has P w K mg base 1 "is_in_order" 1 (a9)):HasX P w K mg base 5 "tiles_of_laying" 2 (a8 C IS):=D.hasX fun f fd Fu=>F7 (k:=4) Fu fX rfl fun cdv A outer s H E hr=>by
 have hu:=eM hr
 have nd:=fX.nd
 refine aq ?_ ?_
 ·refine aL (i:=2) ?_ ?_
  ·exact nd
  ·exact (bQ ah)
 ·refine aq ?_ ?_
  ·refine gf PassesOwn.leaving rfl ?_ (aT (i:=3) (by exact nd) rfl (by first|exact Or.inl rfl|exact Or.inr rfl)) (aS 3) ?_
   ·exact (iZ (ag 1 (pv 1)))
   ·refine ay ?_
    refine Dw (pv 2) ?_
    exact (by refine jk (jW.mono 0x3) hr mU ?_; exact (ae (ag 0 (pv 0)) (ae (ag 3 (pv 3)) ah)))
  ·refine aq ?_ ?_
   ·refine cy ?_ ?_ ?_
    ·exact (eZ (gE (aM (dC.mono 0x3) hr (ae (ag 1 (pv 1)) ah))))
    ·refine ay ?_
     exact kL (ku hr) R.x_BadLaying
    ·exact bG
   ·refine ay ?_
    exact aR (ag 2 (pv 2))
noncomputable abbrev oj:Stmt:=lq 28
theorem wV:FnScope ["house", "hand", "jokers", "laying", "after"] ["house", "hand", "jokers", "laying"] (ar oj):=⟨rfl,rfl,rfl,0x2,rfl,0x2,0x2⟩
noncomputable def ui (C:Addr) (IP:Addr) (IS:Addr):DS->M Out:=(bB (oU (aG (cQ 3 (ef C IP)) (aa (af 0) (aa (af 1) (aa (af 2) ai))))) (bB (aO 4 (aG (aw 3 (fk)) (aa (af 1) (aa (af 2) (aa (aG (cQ 2 (a8 C IS)) (aa (af 0) (aa (af 3) ai))) ai))))) (bB (dU (fun δ=>(fun δ=>bd (e2 fJ (e2 bJ (af 4) (eC (.int 1))) (eC (.int 0)) δ) bw) (frz 4 δ)) (fun _=>some (.error (.ref IS))) bA) (bp (af 4)))))
noncomputable def fR (C:Addr) (IP:Addr) (IS:Addr):List DV->M DV:=fP ["house", "hand", "jokers", "laying", "after"] (ui C IP IS)
theorem oH {C IP IQ IS IT:Addr} (T:Tx K mg C) (R:Rx K mg IP IQ IS IT) (D:Df K mg "left" oj ["house", "hand", "jokers", "laying"])  (ie:HasX P w K mg base 3 "check_hand" 3 (ef C IP)) (eJ:HasX P w K mg base 5 "tiles_of_laying" 2 (a8 C IS)) (l0:Has P w K mg base 1 "lay_out" 3 (fk)):HasX P w K mg base 6 "left" 4 (fR C IP IS):=D.hasX fun f fd Fu=>F7 (k:=5) Fu wV rfl fun cdv A outer s H E hr=>by
 have hu:=eM hr
 have nd:=wV.nd
 refine aq ?_ ?_
 ·refine Bh ?_
  exact (by refine jk (ie.mono 0x3) hr mU ?_; exact (by refine ae ?_ ?_; (exact (ag 0 (pv 0))); (exact (ae (ag 1 (pv 1)) (ae (ag 2 (pv 2)) ah)))))
 ·refine aq ?_ ?_
  ·refine aL (i:=4) ?_ ?_
   ·exact nd
   ·exact (aM (l0.mono 0x3) hr (by refine ae ?_ ?_; (exact (ag 1 (pv 1))); (exact (ae (ag 2 (pv 2)) (ae (by refine jk (eJ.mono 0x3) hr mU ?_; exact (ae (ag 0 (pv 0)) (ae (ag 3 (pv 3)) ah))) ah)))))
  ·refine aq ?_ ?_
   ·refine cy ?_ ?_ ?_
    ·exact (vb 4 (bu (i5 hu) (bf (ag 4 (pv 4)) aj) aj))
    ·refine ay ?_
     exact kL (ku hr) R.x_BadLaying
    ·exact bG
   ·refine ay ?_
    exact aR (ag 4 (pv 4))
noncomputable abbrev j9:Stmt:=lq 29
theorem sM:FnScope ["house", "hand", "jokers", "laying"] ["house", "hand", "jokers", "laying"] (ar j9):=⟨rfl,rfl,rfl,0x2,rfl,0x2,0x2⟩
noncomputable def rC (C:Addr) (IP:Addr) (IS:Addr):DS->M Out:=(bp (e2 gSub (aG (aw 1 (iu)) (aa (af 1) ai)) (aG (aw 1 (iu)) (aa (e2 bJ (BU (aG (cQ 4 (fR C IP IS)) (aa (af 0) (aa (af 1) (aa (af 2) (aa (af 3) ai)))))) (eC (.int 0))) ai))))
noncomputable def ko (C:Addr) (IP:Addr) (IS:Addr):List DV->M DV:=fP ["house", "hand", "jokers", "laying"] (rC C IP IS)
theorem se {C IP IQ IS IT:Addr} (T:Tx K mg C) (R:Rx K mg IP IQ IS IT) (D:Df K mg "worth" j9 ["house", "hand", "jokers", "laying"])  (nc:Has P w K mg base 1 "total" 1 (iu)) (oH:HasX P w K mg base 6 "left" 4 (fR C IP IS)):HasX P w K mg base 7 "worth" 4 (ko C IP IS):=D.hasX fun f fd Fu=>F7 (k:=6) Fu sM rfl fun cdv A outer s H E hr=>by
 have hu:=eM hr
 have nd:=sM.nd
 refine ay ?_
 exact aR (aD ft (aM (nc.mono 0x3) hr (ae (ag 1 (pv 1)) ah)) (aM (nc.mono 0x3) hr (ae (bf (Fp (by refine jk (oH.mono 0x3) hr mU ?_; exact (by refine ae ?_ ?_; (exact (ag 0 (pv 0))); (exact (by refine ae ?_ ?_; (exact (ag 1 (pv 1))); (exact (by refine ae ?_ ?_; (exact (ag 2 (pv 2))); (exact (by refine ae ?_ ?_; (exact (ag 3 (pv 3))); (exact ah)))))))))) aj) ah)))
noncomputable abbrev dm:Stmt:=lq 31
theorem iC:FnScope ["script", "k"] ["script", "k"] (ar dm):=⟨rfl,rfl,rfl,0x2,rfl,0x2,0x2⟩
theorem aW {C IP IQ IS IT:Addr} (T:Tx K mg C) (R:Rx K mg IP IQ IS IT) (D:Df K mg "_law_cell_at" dm ["script", "k"])   : Has P w K mg base 1 "_law_cell_at" 2 (av K):=D.has fun f fd Fu=>oW (k:=0) Fu iC rfl fun cdv A outer s H E hr=>by
 have hu:=eM hr
 have nd:=iC.nd
 refine aq ?_ ?_
 ·refine cy ?_ ?_ ?_
  ·exact (bu (i5 hu) (ag 1 (pv 1)) (aJ AY rfl T.b_len cY (ae (ag 0 (pv 0)) ah)))
  ·refine ay ?_
   exact aR (Dq (ag 0 (pv 0)) (ag 1 (pv 1)))
  ·exact bG
 ·refine ay ?_
  exact aR aj
noncomputable abbrev gh:Stmt:=lq 32
theorem l9:FnScope ["cell", "k", "many", "some", "stir"] ["cell", "k", "many"] (ar gh):=⟨rfl,rfl,rfl,0x2,rfl,0x2,0x2⟩
theorem bj {C IP IQ IS IT:Addr} (T:Tx K mg C) (R:Rx K mg IP IQ IS IT) (D:Df K mg "_law_mix" gh ["cell", "k", "many"])   : Has P w K mg base 1 "_law_mix" 3 (au):=D.has fun f fd Fu=>oW (k:=0) Fu l9 rfl fun cdv A outer s H E hr=>by
 have hu:=eM hr
 have nd:=l9.nd
 refine aq ?_ ?_
 ·refine aL (i:=3) ?_ ?_
  ·exact nd
  ·exact (by refine bQ ?_; (exact (by refine ae ?_ ?_; (exact (by exact aj)); (exact (by refine ae ?_ ?_; (exact (by exact aj)); (exact (by refine ae ?_ ?_; (exact (by exact aj)); (exact (by refine ae ?_ ?_; (exact (by exact aj)); (exact (by refine ae ?_ ?_; (exact (by exact aj)); (exact (by refine ae ?_ ?_; (exact (by exact aj)); (exact (by refine ae ?_ ?_; (exact (by exact aj)); (exact (by refine ae ?_ ?_; (exact (by exact aj)); (exact (by refine ae ?_ ?_; (exact (by exact aj)); (exact (by refine ae ?_ ?_; (exact (by exact aj)); (exact (by refine ae ?_ ?_; (exact (by exact aj)); (exact (by refine ae ?_ ?_; (exact (by exact aj)); (exact (by refine ae ?_ ?_; (exact (by exact aj)); (exact ah))))))))))))))))))))))))))))
 ·refine aq ?_ ?_
  ·refine aL (i:=4) ?_ ?_
   ·exact nd
   ·exact (aD bU (aD bU (aD fW (aD bU (aD eU (ag 0 (pv 0)) (by exact aj)) (by exact aj)) (bf (ag 3 (pv 3)) (aD eU (ag 1 (pv 1)) aj))) (aD fW (by exact aj) (ag 1 (pv 1)))) (aD fW (by exact aj) (aD l7 (ag 1 (pv 1)) aj)))
  ·refine aq ?_ ?_
   ·refine aL (i:=4) ?_ ?_
    ·exact nd
    ·exact (aD eU (ag 4 (pv 4)) (by exact aj))
   ·refine ay ?_
    exact aR (aD eU (aD l7 (aD eU (aD bU (aD fW (ag 4 (pv 4)) (ag 4 (pv 4))) (aD fW (by exact aj) (ag 1 (pv 1)))) (by exact aj)) aj) (ag 2 (pv 2)))
noncomputable abbrev dW:Stmt:=lq 33
theorem jH:FnScope ["found"] ["found"] (ar dW):=⟨rfl,rfl,rfl,0x2,rfl,0x2,0x2⟩
theorem fK {C IP IQ IS IT:Addr} (T:Tx K mg C) (R:Rx K mg IP IQ IS IT) (D:Df K mg "_law_whole" dW ["found"])   : Has P w K mg base 1 "_law_whole" 1 (dz):=D.has fun f fd Fu=>oW (k:=0) Fu jH rfl fun cdv A outer s H E hr=>by
 have hu:=eM hr
 have nd:=jH.nd
 refine ay ?_
 exact aR (hU (vK 0x3 T.b_isinstance T.b_int zp (ag 0 (pv 0))) (jY (DC (vK 0x3 T.b_isinstance T.b_bool B0 (ag 0 (pv 0))))))
noncomputable abbrev cV:Stmt:=lq 34
theorem g8:FnScope ["script", "cell"] ["script"] (ar cV):=⟨rfl,rfl,rfl,0x2,rfl,0x2,0x2⟩
theorem fF {C IP IQ IS IT:Addr} (T:Tx K mg C) (R:Rx K mg IP IQ IS IT) (D:Df K mg "_law_house_by" cV ["script"])  (aW:Has P w K mg base 1 "_law_cell_at" 2 (av K)) (bj:Has P w K mg base 1 "_law_mix" 3 (au)):Has P w K mg base 2 "_law_house_by" 1 (cT K):=D.has fun f fd Fu=>oW (k:=1) Fu g8 rfl fun cdv A outer s H E hr=>by
 have hu:=eM hr
 have nd:=g8.nd
 refine aq ?_ ?_
 ·refine aL (i:=1) ?_ ?_
  ·exact nd
  ·exact (aM (aW.mono 0x3) hr (ae (ag 0 (pv 0)) (ae aj ah)))
 ·refine ay ?_
  exact aR (b8 (ae (aD bU aj (aM (bj.mono 0x3) hr (by refine ae ?_ ?_; (exact (ag 1 (pv 1))); (exact (ae aj (ae (bf (by refine bQ ?_; (exact (by refine ae ?_ ?_; (exact aj); (exact (by refine ae ?_ ?_; (exact aj); (exact (by refine ae ?_ ?_; (exact aj); (exact (by refine ae ?_ ?_; (exact aj); (exact ah)))))))))) (aM (bj.mono 0x3) hr (by refine ae ?_ ?_; (exact (ag 1 (pv 1))); (exact (ae aj (ae aj ah)))))) ah)))))) (ae (aD bU aj (aM (bj.mono 0x3) hr (by refine ae ?_ ?_; (exact (ag 1 (pv 1))); (exact (ae aj (ae aj ah)))))) ah)))
noncomputable abbrev dk:Stmt:=lq 35
theorem iB:FnScope ["tiles", "limit", "found", "tile"] ["tiles", "limit"] (ar dk):=⟨rfl,rfl,rfl,0x2,rfl,0x2,0x2⟩
theorem fV {C IP IQ IS IT:Addr} (T:Tx K mg C) (R:Rx K mg IP IQ IS IT) (D:Df K mg "_law_trimmed" dk ["tiles", "limit"])   : Has P w K mg base 1 "_law_trimmed" 2 (bY):=D.has fun f fd Fu=>oW (k:=0) Fu iB rfl fun cdv A outer s H E hr=>by
 have hu:=eM hr
 have nd:=iB.nd
 refine aq ?_ ?_
 ·refine aL (i:=2) ?_ ?_
  ·exact nd
  ·exact (bQ ah)
 ·refine aq ?_ ?_
  ·refine gf PassesOwn.never rfl ?_ (aT (i:=3) (by exact nd) rfl (by first|exact Or.inl rfl|exact Or.inr rfl)) (aS 3) ?_
   ·exact (iZ (ag 0 (pv 0)))
   ·refine ay ?_
    refine cy ?_ ?_ ?_
    ·exact (vJ.pb (va (bu (i5 hu) (gR hu (ag 2 (pv 2)) (ag 3 (pv 3))) aj) (qG (bu (i5 hu) (aJ dh rfl T.b_len cY (ae (ag 2 (pv 2)) ah)) (ag 1 (pv 1))))))
    ·refine ay ?_
     refine zM (pv 2) ?_
     exact (ag 3 (pv 3))
    ·exact bG
  ·refine ay ?_
   exact aR (aJ (u6 hu) rfl T.b_sorted eW (ae (ag 2 (pv 2)) ah))
noncomputable abbrev bZ:Stmt:=lq 36
theorem iy:FnScope ["script", "start", "most", "colours", "limit", "tiles", "k", "cell", "number", "colour", "size"] ["script", "start", "most", "colours", "limit"] (ar bZ):=⟨rfl,rfl,rfl,0x2,rfl,0x2,0x2⟩
theorem gj {C IP IQ IS IT:Addr} (T:Tx K mg C) (R:Rx K mg IP IQ IS IT) (D:Df K mg "_law_hand_by" bZ ["script", "start", "most", "colours", "limit"])  (aW:Has P w K mg base 1 "_law_cell_at" 2 (av K)) (bj:Has P w K mg base 1 "_law_mix" 3 (au)) (fV:Has P w K mg base 1 "_law_trimmed" 2 (bY)):Has P w K mg base 2 "_law_hand_by" 5 (cB K):=D.has fun f fd Fu=>oW (k:=1) Fu iy rfl fun cdv A outer s H E hr=>by
 have hu:=eM hr
 have nd:=iy.nd
 refine aq ?_ ?_
 ·refine aL (i:=5) ?_ ?_
  ·exact nd
  ·exact (bQ ah)
 ·refine aq ?_ ?_
  ·refine gf PassesOwn.never rfl ?_ (aT (i:=6) (by exact nd) rfl (by first|exact Or.inl rfl|exact Or.inr rfl)) (aS 6) ?_
   ·exact (ou T.b_range (ae aj ah))
   ·refine aq ?_ ?_
    ·refine aL (i:=7) ?_ ?_
     ·exact nd
     ·exact (aM (aW.mono 0x3) hr (ae (ag 0 (pv 0)) (ae (aD bU (ag 1 (pv 1)) (ag 6 (pv 6))) ah)))
    ·refine aq ?_ ?_
     ·refine vw ?_ (vc rfl (gg (aT (i:=8) (by exact nd) rfl (by first|exact Or.inl rfl|exact Or.inr rfl)) (gg (aT (i:=9) (by exact nd) rfl (by first|exact Or.inl rfl|exact Or.inr rfl)) rB))) (vn (ig (aS 8) (ig (aS 9) u9)))
      exact (b8 (ae (aD bU aj (aM (bj.mono 0x3) hr (by refine ae ?_ ?_; (exact (ag 7 (pv 7))); (exact (ae aj (ae (ag 2 (pv 2)) ah)))))) (ae (aM (bj.mono 0x3) hr (by refine ae ?_ ?_; (exact (ag 7 (pv 7))); (exact (ae aj (ae (ag 3 (pv 3)) ah))))) ah)))
     ·refine aq ?_ ?_
      ·refine aL (i:=10) ?_ ?_
       ·exact nd
       ·exact (aD bU aj (aM (bj.mono 0x3) hr (by refine ae ?_ ?_; (exact (ag 7 (pv 7))); (exact (ae aj (ae aj ah))))))
      ·refine aq ?_ ?_
       ·refine cy ?_ ?_ ?_
        ·exact (bu (fZ hu) (aM (bj.mono 0x3) hr (by refine ae ?_ ?_; (exact (ag 7 (pv 7))); (exact (ae aj (ae aj ah))))) aj)
        ·refine ay ?_
         refine aL (i:=5) ?_ ?_
         ·exact nd
         ·exact (aD bU (ag 5 (pv 5)) (cO (N':=["x", "colour"]) (CompSc.fit (sc:=ar bZ) (N:=["script", "start", "most", "colours", "limit", "tiles", "k", "cell", "number", "colour", "size"]) ⟨rfl,0x2,0x2,0x2,rfl,0x2⟩) 0x3 rfl (pR T.b_range (ae (ag 8 (pv 8)) (ae (aD bU (aJ (zO rfl) rfl T.b_min zN (ae (ag 2 (pv 2)) (ae (aD ft (aD bU (ag 8 (pv 8)) (ag 10 (pv 10))) aj) ah))) aj) ah))) (aS 0) (bR 0x3) (fun _ _ _ _=>(aT (i:=0) (show List.Nodup (["x", "colour"]:List Str) by decide +kernel) rfl (by first|exact Or.inl rfl|exact Or.inr rfl))) (fun _ _ _ _=>fu) (fun _ _ _ _=>(b8 (ae (ag 0 (pv 0)) (ae (ag 1 (pv 1)) ah))))))
        ·refine ay ?_
         refine aL (i:=5) ?_ ?_
         ·exact nd
         ·exact (aD bU (ag 5 (pv 5)) (cO (N':=["x", "number", "cell"]) (CompSc.fit (sc:=ar bZ) (N:=["script", "start", "most", "colours", "limit", "tiles", "k", "cell", "number", "colour", "size"]) ⟨rfl,0x2,0x2,0x2,rfl,0x2⟩) 0x3 rfl (ou T.b_range (ae (ag 3 (pv 3)) ah)) (aS 0) (bR 0x3) (fun _ _ _ _=>(aT (i:=0) (show List.Nodup (["x", "number", "cell"]:List Str) by decide +kernel) rfl (by first|exact Or.inl rfl|exact Or.inr rfl))) (fun _ _ _ _=>uC (bu pU (aM (bj.mono 0x3) hr (by refine ae ?_ ?_; (exact (ag 2 (pv 2))); (exact (ae (aD bU aj (ag 0 (pv 0))) (ae aj ah))))) aj)) (fun _ _ _ _=>(b8 (ae (ag 1 (pv 1)) (ae (ag 0 (pv 0)) ah))))))
       ·refine ay ?_
        refine cy ?_ ?_ ?_
        ·exact (bu (fZ hu) (aM (bj.mono 0x3) hr (by refine ae ?_ ?_; (exact (ag 7 (pv 7))); (exact (ae aj (ae aj ah))))) aj)
        ·refine ay ?_
         refine zM (pv 5) ?_
         exact (b8 (ae (aD bU aj (aM (bj.mono 0x3) hr (by refine ae ?_ ?_; (exact (ag 7 (pv 7))); (exact (ae aj (ae (ag 2 (pv 2)) ah)))))) (ae (aM (bj.mono 0x3) hr (by refine ae ?_ ?_; (exact (ag 7 (pv 7))); (exact (ae aj (ae (ag 3 (pv 3)) ah))))) ah)))
        ·exact bG
  ·refine aq ?_ ?_
   ·refine cy ?_ ?_ ?_
    ·exact (bu (fZ hu) (aJ dh rfl T.b_len cY (ae (ag 5 (pv 5)) ah)) aj)
    ·refine ay ?_
     refine aL (i:=5) ?_ ?_
     ·exact nd
     ·exact (bQ (ae (b8 (ae aj (ae aj ah))) ah))
    ·exact bG
   ·refine aq ?_ ?_
    ·refine cy ?_ ?_ ?_
     ·exact (bu (fZ hu) (aD eU (aM (aW.mono 0x3) hr (ae (ag 0 (pv 0)) (ae (aD bU (ag 1 (pv 1)) aj) ah))) aj) aj)
     ·refine ay ?_
      exact aR (bQ ah)
     ·exact bG
    ·refine fY 5 ?_
     refine ay ?_
     exact aR (aM (fV.mono 0x3) hr (ae (ag 5 (pv 5)) (ae (aD bU aj (aD eU (aM (aW.mono 0x3) hr (ae (ag 0 (pv 0)) (ae (aD bU (ag 1 (pv 1)) aj) ah))) (ag 4 (pv 4)))) ah)))
noncomputable abbrev cH:Stmt:=lq 37
theorem gy:FnScope ["script", "hand", "cell"] ["script", "hand"] (ar cH):=⟨rfl,rfl,rfl,0x2,rfl,0x2,0x2⟩
noncomputable def gU (K:IU):DS->M Out:=(bB (aO 2 (aG (aw 2 (av K)) (aa (af 0) (aa (eC (.int 1)) ai)))) (bp (e2 bJ (bO (aa (eC (.int 0)) (aa (eC (.int 0)) (aa (eC (.int 1)) (aa (e2 bJ (bO (aa (eC (.int 1)) (aa (eC (.int 2)) ai))) (aG AK (aa (e2 fJ (aG bK (aa (af 1) ai)) (eC (.int 6))) ai))) ai))))) (e2 fM (af 2) (eC (.int 4))))))
noncomputable def bV (K:IU):List DV->M DV:=fP ["script", "hand", "cell"] (gU K)
theorem eP {C IP IQ IS IT:Addr} (T:Tx K mg C) (R:Rx K mg IP IQ IS IT) (D:Df K mg "_law_jokers_by" cH ["script", "hand"])  (aW:Has P w K mg base 1 "_law_cell_at" 2 (av K)):Has P w K mg base 2 "_law_jokers_by" 2 (bV K):=D.has fun f fd Fu=>oW (k:=1) Fu gy rfl fun cdv A outer s H E hr=>by
 have hu:=eM hr
 have nd:=gy.nd
 refine aq ?_ ?_
 ·refine aL (i:=2) ?_ ?_
  ·exact nd
  ·exact (aM (aW.mono 0x3) hr (ae (ag 0 (pv 0)) (ae aj ah)))
 ·refine ay ?_
  exact aR (bf (by refine bQ ?_; (exact (by refine ae ?_ ?_; (exact aj); (exact (by refine ae ?_ ?_; (exact aj); (exact (by refine ae ?_ ?_; (exact aj); (exact (by refine ae ?_ ?_; (exact (bf (bQ (ae aj (ae aj ah))) (gL E9 rfl T.b_int zp (ae (fD (i5 hu) (aJ dh rfl T.b_len cY (ae (ag 1 (pv 1)) ah)) aj) ah)))); (exact ah)))))))))) (aD eU (ag 2 (pv 2)) aj))
noncomputable abbrev cP:Stmt:=lq 38
theorem jG:FnScope ["meld"] ["meld"] (ar cP):=⟨rfl,rfl,rfl,0x2,rfl,0x2,0x2⟩
theorem ij {C IP IQ IS IT:Addr} (T:Tx K mg C) (R:Rx K mg IP IQ IS IT) (D:Df K mg "_law_tiles" cP ["meld"])   : Has P w K mg base 1 "_law_tiles" 1 (bC):=D.has fun f fd Fu=>oW (k:=0) Fu jG rfl fun cdv A outer s H E hr=>by
 have hu:=eM hr
 have nd:=jG.nd
 refine aq ?_ ?_
 ·refine cy ?_ ?_ ?_
  ·exact (bu (fZ hu) (bf (ag 0 (pv 0)) aj) (gD 0x2))
  ·refine ay ?_
   exact aR (cO (N':=["k", "meld"]) (CompSc.fit (sc:=ar cP) (N:=["meld"]) ⟨rfl,0x2,0x2,0x2,rfl,0x2⟩) 0x3 rfl (ou T.b_range (ae (bf (ag 0 (pv 0)) aj) ah)) (aS 0) (bR 0x3) (fun _ _ _ _=>(aT (i:=0) (show List.Nodup (["k", "meld"]:List Str) by decide +kernel) rfl (by first|exact Or.inl rfl|exact Or.inr rfl))) (fun _ _ _ _=>fu) (fun _ _ _ _=>(b8 (ae (aD bh (bf (ag 1 (pv 1)) aj) (ag 0 (pv 0))) (ae (bf (ag 1 (pv 1)) aj) ah)))))
  ·exact bG
 ·refine ay ?_
  exact aR (cO (N':=["colour", "meld"]) (CompSc.fit (sc:=ar cP) (N:=["meld"]) ⟨rfl,0x2,0x2,0x2,rfl,0x2⟩) 0x3 rfl (zd (bf (ag 0 (pv 0)) aj)) (aS 0) (bR 0x3) (fun _ _ _ _=>(aT (i:=0) (show List.Nodup (["colour", "meld"]:List Str) by decide +kernel) rfl (by first|exact Or.inl rfl|exact Or.inr rfl))) (fun _ _ _ _=>fu) (fun _ _ _ _=>(b8 (ae (bf (ag 1 (pv 1)) aj) (ae (ag 0 (pv 0)) ah)))))
noncomputable abbrev cm:Stmt:=lq 39
theorem jC:FnScope ["most", "colours", "found", "colour", "first", "kinds", "number"] ["most", "colours"] (ar cm):=⟨rfl,rfl,rfl,0x2,rfl,0x2,0x2⟩
theorem dX {C IP IQ IS IT:Addr} (T:Tx K mg C) (R:Rx K mg IP IQ IS IT) (D:Df K mg "_law_melds" cm ["most", "colours"])   : Has P w K mg base 1 "_law_melds" 2 (cR):=D.has fun f fd Fu=>oW (k:=0) Fu jC rfl fun cdv A outer s H E hr=>by
 have hu:=eM hr
 have nd:=jC.nd
 refine aq ?_ ?_
 ·refine aL (i:=2) ?_ ?_
  ·exact nd
  ·exact (bQ ah)
 ·refine aq ?_ ?_
  ·refine gf PassesOwn.never rfl ?_ (aT (i:=3) (by exact nd) rfl (by first|exact Or.inl rfl|exact Or.inr rfl)) (aS 3) ?_
   ·exact (ou T.b_range (ae (ag 1 (pv 1)) ah))
   ·refine ay ?_
    refine gf PassesOwn.never rfl ?_ (aT (i:=4) (by exact nd) rfl (by first|exact Or.inl rfl|exact Or.inr rfl)) (aS 4) ?_
    ·exact (pR T.b_range (ae aj (ae (aD bh (ag 0 (pv 0)) aj) ah)))
    ·refine ay ?_
     refine aL (i:=2) ?_ ?_
     ·exact nd
     ·exact (aD bh (ag 2 (pv 2)) (cO (N':=["last", "colour", "first"]) (CompSc.fit (sc:=ar cm) (N:=["most", "colours", "found", "colour", "first", "kinds", "number"]) ⟨rfl,0x2,0x2,0x2,rfl,0x2⟩) 0x3 rfl (pR T.b_range (ae (aD bh (ag 4 (pv 4)) aj) (ae (aD bh (ag 0 (pv 0)) aj) ah))) (aS 0) (bR 0x3) (fun _ _ _ _=>(aT (i:=0) (show List.Nodup (["last", "colour", "first"]:List Str) by decide +kernel) rfl (by first|exact Or.inl rfl|exact Or.inr rfl))) (fun _ _ _ _=>fu) (fun _ _ _ _=>(by refine b8 ?_; (exact (by refine ae ?_ ?_; (exact (gD 0x2)); (exact (by refine ae ?_ ?_; (exact (ag 1 (pv 1))); (exact (by refine ae ?_ ?_; (exact (ag 2 (pv 2))); (exact (by refine ae ?_ ?_; (exact (aD bh (aD ft (ag 0 (pv 0)) (ag 2 (pv 2))) aj)); (exact ah)))))))))))))
  ·refine aq ?_ ?_
   ·refine aL (i:=5) ?_ ?_
    ·exact nd
    ·exact (bQ (ae (bQ ah) ah))
   ·refine aq ?_ ?_
    ·refine gf PassesOwn.never rfl ?_ (aT (i:=3) (by exact nd) rfl (by first|exact Or.inl rfl|exact Or.inr rfl)) (aS 3) ?_
     ·exact (ou T.b_range (ae (ag 1 (pv 1)) ah))
     ·refine fY 5 ?_
      refine ay ?_
      refine aL (i:=5) ?_ ?_
      ·exact nd
      ·exact (aD bh (ag 5 (pv 5)) (cO (N':=["kind", "colour"]) (CompSc.fit (sc:=ar cm) (N:=["most", "colours", "found", "colour", "first", "kinds", "number"]) ⟨rfl,0x2,0x2,0x2,rfl,0x2⟩) 0x3 rfl (iZ (ag 5 (pv 5))) (aS 0) (bR 0x3) (fun _ _ _ _=>(aT (i:=0) (show List.Nodup (["kind", "colour"]:List Str) by decide +kernel) rfl (by first|exact Or.inl rfl|exact Or.inr rfl))) (fun _ _ _ _=>fu) (fun _ _ _ _=>(aD bh (ag 0 (pv 0)) (bQ (ae (ag 1 (pv 1)) ah))))))
    ·refine aq ?_ ?_
     ·refine gf PassesOwn.never rfl ?_ (aT (i:=6) (by exact nd) rfl (by first|exact Or.inl rfl|exact Or.inr rfl)) (aS 6) ?_
      ·exact (pR T.b_range (ae aj (ae (aD bh (ag 0 (pv 0)) aj) ah)))
      ·refine fY 5 ?_
       refine ay ?_
       refine aL (i:=2) ?_ ?_
       ·exact nd
       ·exact (aD bh (ag 2 (pv 2)) (cO (N':=["kind", "number"]) (CompSc.fit (sc:=ar cm) (N:=["most", "colours", "found", "colour", "first", "kinds", "number"]) ⟨rfl,0x2,0x2,0x2,rfl,0x2⟩) 0x3 rfl (iZ (ag 5 (pv 5))) (aS 0) (bR 0x3) (fun _ _ _ _=>(aT (i:=0) (show List.Nodup (["kind", "number"]:List Str) by decide +kernel) rfl (by first|exact Or.inl rfl|exact Or.inr rfl))) (fun _ _ _ _=>uC (bu pU (aJ dh rfl T.b_len cY (ae (ag 0 (pv 0)) ah)) aj)) (fun _ _ _ _=>(by refine b8 ?_; (exact (by refine ae ?_ ?_; (exact (gD 0x2)); (exact (ae (ag 1 (pv 1)) (ae (gL yv rfl T.b_tuple sS (ae (ag 0 (pv 0)) ah)) ah)))))))))
     ·refine ay ?_
      exact aR (aJ (eY hu) rfl T.b_sorted eW (ae (ag 2 (pv 2)) ah))
noncomputable abbrev fw:Stmt:=lq 40
theorem kh:FnScope ["hand", "laying", "need", "meld", "total_v", "jokers", "rest", "tile", "mine"] ["hand", "laying"] (ar fw):=⟨rfl,rfl,rfl,0x2,rfl,0x2,0x2⟩
noncomputable def ml:DS->M Out:=(bB (aO 2 (bO ai)) (bB (eL (oX (af 1)) (ax 3) (aO 2 (e2 aA (af 2) (aG (aw 1 (bC)) (aa (af 3) ai))))) (bB (aO 4 (eC (.int 0))) (bB (aO 5 (eC (.int 0))) (bB (aO 6 (bO ai)) (bB (eL (oX (aG tD (aa (e2 aA (af 2) (af 0)) ai))) (ax 7) (bB (aO 8 (aG tN (aa (hX (af 2) (af 7)) (aa (hX (af 0) (af 7)) ai)))) (bB (aO 4 (e2 aA (af 4) (e2 eR (af 8) (e2 bJ (af 7) (eC (.int 0)))))) (bB (aO 5 (e2 gSub (e2 aA (af 5) (hX (af 2) (af 7))) (af 8))) (aO 6 (e2 aA (af 6) (e2 eR (bO (aa (af 7) ai)) (e2 gSub (hX (af 0) (af 7)) (af 8))))))))) (fun δ=>(bp (bq (aa (af 4) (aa (af 5) (aa (af 6) ai))))) (frz 6 δ))))))))
noncomputable def bL:List DV->M DV:=fP ["hand", "laying", "need", "meld", "total_v", "jokers", "rest", "tile", "mine"] (ml)
theorem dQ {C IP IQ IS IT:Addr} (T:Tx K mg C) (R:Rx K mg IP IQ IS IT) (D:Df K mg "_law_laid" fw ["hand", "laying"])  (ij:Has P w K mg base 1 "_law_tiles" 1 (bC)):Has P w K mg base 2 "_law_laid" 2 (bL):=D.has fun f fd Fu=>oW (k:=1) Fu kh rfl fun cdv A outer s H E hr=>by
 have hu:=eM hr
 have nd:=kh.nd
 refine aq ?_ ?_
 ·refine aL (i:=2) ?_ ?_
  ·exact nd
  ·exact (bQ ah)
 ·refine aq ?_ ?_
  ·refine gf PassesOwn.never rfl ?_ (aT (i:=3) (by exact nd) rfl (by first|exact Or.inl rfl|exact Or.inr rfl)) (aS 3) ?_
   ·exact (iZ (ag 1 (pv 1)))
   ·refine ay ?_
    refine aL (i:=2) ?_ ?_
    ·exact nd
    ·exact (aD bh (ag 2 (pv 2)) (aM (ij.mono 0x3) hr (ae (ag 3 (pv 3)) ah)))
  ·refine aq ?_ ?_
   ·refine aL (i:=4) ?_ ?_
    ·exact nd
    ·exact aj
   ·refine aq ?_ ?_
    ·refine aL (i:=5) ?_ ?_
     ·exact nd
     ·exact aj
    ·refine aq ?_ ?_
     ·refine aL (i:=6) ?_ ?_
      ·exact nd
      ·exact (bQ ah)
     ·refine aq ?_ ?_
      ·refine gf PassesOwn.never rfl ?_ (aT (i:=7) (by exact nd) rfl (by first|exact Or.inl rfl|exact Or.inr rfl)) (aS 7) ?_
       ·exact (iZ (Cb hr.hd hu rfl T.b_sorted eW rfl T.b_set DQ (aD bh (ag 2 (pv 2)) (ag 0 (pv 0)))))
       ·refine aq ?_ ?_
        ·refine aL (i:=8) ?_ ?_
         ·exact nd
         ·exact (aJ (zO rfl) rfl T.b_min zN (ae (gR hu (ag 2 (pv 2)) (ag 7 (pv 7))) (ae (gR hu (ag 0 (pv 0)) (ag 7 (pv 7))) ah)))
        ·refine aq ?_ ?_
         ·refine aL (i:=4) ?_ ?_
          ·exact nd
          ·exact (aD bh (ag 4 (pv 4)) (aD fW (ag 8 (pv 8)) (bf (ag 7 (pv 7)) aj)))
         ·refine aq ?_ ?_
          ·refine aL (i:=5) ?_ ?_
           ·exact nd
           ·exact (aD ft (aD bh (ag 5 (pv 5)) (gR hu (ag 2 (pv 2)) (ag 7 (pv 7)))) (ag 8 (pv 8)))
          ·refine ay ?_
           refine aL (i:=6) ?_ ?_
           ·exact nd
           ·exact (aD bh (ag 6 (pv 6)) (aD fW (bQ (ae (ag 7 (pv 7)) ah)) (aD ft (gR hu (ag 0 (pv 0)) (ag 7 (pv 7))) (ag 8 (pv 8)))))
      ·refine fY 6 ?_
       refine ay ?_
       exact aR (by refine b8 ?_; (exact (by refine ae ?_ ?_; (exact (ag 4 (pv 4))); (exact (ae (ag 5 (pv 5)) (ae (ag 6 (pv 6)) ah))))))
noncomputable abbrev bX:Stmt:=lq 41
theorem gu:FnScope ["script", "start", "most", "colours", "hand", "jokers", "some", "laying", "k", "tried"] ["script", "start", "most", "colours", "hand", "jokers"] (ar bX):=⟨rfl,rfl,rfl,0x2,rfl,0x2,0x2⟩
noncomputable def eV (K:IU):DS->M Out:=(bB (aO 6 (bE 1 [5,4] (oX (aG (aw 2 (cR)) (aa (af 2) (aa (af 3) ai)))) (ax 0) (fun δ=>bd (e2 gz (e2 bJ (aG (aw 2 (bL)) (aa (af 2) (aa (bO (aa (af 0) ai)) ai))) (eC (.int 1))) (af 1) δ) bw) (af 0))) (bB (aO 7 (bO ai)) (bB (eL (tY (aa (eC (.int 4)) ai)) (ax 8) (dU (fun δ=>bd (e2 ph (aG bK (aa (af 6) ai)) (eC (.int 0)) δ) bw) (bB (aO 9 (aG fy (aa (e2 aA (af 7) (bO (aa (e2 bJ (af 6) (aG (aw 3 (au)) (aa (aG (aw 2 (av K)) (aa (af 0) (aa (e2 aA (af 1) (af 8)) ai))) (aa (af 8) (aa (aG bK (aa (af 6) ai)) ai))))) ai))) ai))) (fun δ=>(dU (fun δ=>bd (e2 gz (e2 bJ (aG (aw 2 (bL)) (aa (af 4) (aa (af 9) ai))) (eC (.int 1))) (af 5) δ) bw) (fun δ=>(aO 7 (af 9)) (frz 9 δ)) bA) (frz 9 δ))) bA)) (bp (af 7)))))
noncomputable def dv (K:IU):List DV->M DV:=fP ["script", "start", "most", "colours", "hand", "jokers", "some", "laying", "k", "tried"] (eV K)
theorem fq {C IP IQ IS IT:Addr} (T:Tx K mg C) (R:Rx K mg IP IQ IS IT) (D:Df K mg "_law_laying_by" bX ["script", "start", "most", "colours", "hand", "jokers"])  (dX:Has P w K mg base 1 "_law_melds" 2 (cR)) (dQ:Has P w K mg base 2 "_law_laid" 2 (bL)) (aW:Has P w K mg base 1 "_law_cell_at" 2 (av K)) (bj:Has P w K mg base 1 "_law_mix" 3 (au)):Has P w K mg base 3 "_law_laying_by" 6 (dv K):=D.has fun f fd Fu=>oW (k:=2) Fu gu rfl fun cdv A outer s H E hr=>by
 have hu:=eM hr
 have nd:=gu.nd
 refine aq ?_ ?_
 ·refine BX (i:=6) (N':=["meld", "jokers", "hand"]) (CompSc.fit (sc:=ar bX) (N:=["script", "start", "most", "colours", "hand", "jokers", "some", "laying", "k", "tried"]) ⟨rfl,0x2,0x2,0x2,rfl,0x2⟩) 0x3 rfl (by exact nd) (iZ (aM (dX.mono 0x3) hr (ae (ag 2 (pv 2)) (ae (ag 3 (pv 3)) ah)))) (aS 0) (bR 0x3) (fun _ _ _ _=>(aT (i:=0) (show List.Nodup (["meld", "jokers", "hand"]:List Str) by decide +kernel) rfl (by first|exact Or.inl rfl|exact Or.inr rfl))) (fun _ _ _ _=>uC (bu (dZ hu) (bf (aM (dQ.mono 0x3) hr (ae (ag 2 (pv 2)) (ae (bQ (ae (ag 0 (pv 0)) ah)) ah))) aj) (ag 1 (pv 1)))) (fun _ _ _ _=>(ag 0 (pv 0)))
 ·refine aq ?_ ?_
  ·refine aL (i:=7) ?_ ?_
   ·exact nd
   ·exact (bQ ah)
  ·refine aq ?_ ?_
   ·refine gf PassesOwn.never rfl ?_ (aT (i:=8) (by exact nd) rfl (by first|exact Or.inl rfl|exact Or.inr rfl)) (aS 8) ?_
    ·exact (ou T.b_range (ae aj ah))
    ·refine ay ?_
     refine cy ?_ ?_ ?_
     ·exact (bu pU (aJ dh rfl T.b_len cY (ae (ag 6 (pv 6)) ah)) aj)
     ·refine aq ?_ ?_
      ·refine aL (i:=9) ?_ ?_
       ·exact nd
       ·exact (aJ (eY hu) rfl T.b_sorted eW (ae (aD bh (ag 7 (pv 7)) (bQ (ae (bf (ag 6 (pv 6)) (aM (bj.mono 0x3) hr (by refine ae ?_ ?_; (exact (aM (aW.mono 0x3) hr (ae (ag 0 (pv 0)) (ae (aD bh (ag 1 (pv 1)) (ag 8 (pv 8))) ah)))); (exact (ae (ag 8 (pv 8)) (ae (aJ dh rfl T.b_len cY (ae (ag 6 (pv 6)) ah)) ah)))))) ah))) ah))
      ·refine fY 9 ?_
       refine ay ?_
       refine cy ?_ ?_ ?_
       ·exact (bu (dZ hu) (bf (aM (dQ.mono 0x3) hr (ae (ag 4 (pv 4)) (ae (ag 9 (pv 9)) ah))) aj) (ag 5 (pv 5)))
       ·refine fY 9 ?_
        refine ay ?_
        refine aL (i:=7) ?_ ?_
        ·exact nd
        ·exact (ag 9 (pv 9))
       ·exact bG
     ·exact bG
   ·refine ay ?_
    exact aR (ag 7 (pv 7))
noncomputable abbrev gk:Stmt:=lq 42
theorem mq:FnScope ["house", "hand", "jokers", "laying", "way", "e"] ["house", "hand", "jokers", "laying", "way"] (ar gk):=⟨rfl,rfl,rfl,0x2,rfl,0x2,0x2⟩
noncomputable def jU (C:Addr) (IP:Addr) (IS:Addr):DS->M Out:=(vg (bB (dU (fun δ=>bd (e2 (fg false) (af 4) (eC (.int 0)) δ) bw) (bp (aG (cQ 4 (ko C IP IS)) (aa (af 0) (aa (af 1) (aa (af 2) (aa (af 3) ai)))))) bA) (bp (aG (cQ 4 (fR C IP IS)) (aa (af 0) (aa (af 1) (aa (af 2) (aa (af 3) ai))))))) IS true)
noncomputable def dn (C:Addr) (IP:Addr) (IS:Addr):List DV->M DV:=fP ["house", "hand", "jokers", "laying", "way", "e"] (jU C IP IS)
theorem ir {C IP IQ IS IT:Addr} (T:Tx K mg C) (R:Rx K mg IP IQ IS IT) (D:Df K mg "_law_met" gk ["house", "hand", "jokers", "laying", "way"])  (se:HasX P w K mg base 7 "worth" 4 (ko C IP IS)) (oH:HasX P w K mg base 6 "left" 4 (fR C IP IS)):Has P w K mg base 8 "_law_met" 5 (dn C IP IS):=D.has fun f fd Fu=>oW (k:=7) Fu mq rfl fun cdv A outer s H E hr=>by
 have hu:=eM hr
 have nd:=mq.nd
 refine ay ?_
 refine Du (i:=5) (C:=IS) R.x_BadLaying ?_ ?_ ?_
 ·exact nd
 ·intro pn W E' pass
  refine aq ?_ ?_
  ·refine cy ?_ ?_ ?_
   ·exact (bu (fZ hu) (ag 4 (pv 4)) aj)
   ·refine ay ?_
    exact aR (by refine jk (se.mono 0x3) hr pass ?_; exact (by refine ae ?_ ?_; (exact (ag 0 (pv 0))); (exact (by refine ae ?_ ?_; (exact (ag 1 (pv 1))); (exact (by refine ae ?_ ?_; (exact (ag 2 (pv 2))); (exact (by refine ae ?_ ?_; (exact (ag 3 (pv 3))); (exact ah)))))))))
   ·exact bG
  ·refine ay ?_
   exact aR (by refine jk (oH.mono 0x3) hr pass ?_; exact (by refine ae ?_ ?_; (exact (ag 0 (pv 0))); (exact (by refine ae ?_ ?_; (exact (ag 1 (pv 1))); (exact (by refine ae ?_ ?_; (exact (ag 2 (pv 2))); (exact (by refine ae ?_ ?_; (exact (ag 3 (pv 3))); (exact ah)))))))))
 ·intro e pn W oe hc hp
  exact Dy (IH _ hp) hc R.q_BadLaying_MeldError T.b_isinstance R.m_MeldError (pv 5)
noncomputable abbrev fC:Stmt:=lq 43
theorem kD:FnScope ["known", "laying", "cell", "way", "bad"] ["known", "laying", "cell"] (ar fC):=⟨rfl,rfl,rfl,0x2,rfl,0x2,0x2⟩
noncomputable def mw:DS->M Out:=(bB (aO 3 (e2 fM (af 2) (eC (.int 4)))) (bB (dU (jA (fun δ=>bd (e2 (fg false) (af 3) (eC (.int 0)) δ) bw) (fun δ=>bd (e2 ph (aG bK (aa (af 0) ai)) (eC (.int 0)) δ) bw)) (bp (aG fy (aa (e2 aA (af 1) (bO (aa (e2 bJ (af 0) (e2 fM (e2 lO (af 2) (eC (.int 4))) (aG bK (aa (af 0) ai)))) ai))) ai))) bA) (bB (dU (jA (fun δ=>bd (e2 (fg false) (af 3) (eC (.int 1)) δ) bw) (fun δ=>bd (e2 ph (aG bK (aa (af 1) ai)) (eC (.int 1)) δ) bw)) (bp (e2 aA (wQ (af 1) (eC (.int 1))) (vG (af 1) (eC (.int 1))))) bA) (bB (aO 4 (e2 bJ (bO (aa (bq (aa (eC (.str "run")) (aa (eC (.int 0)) (aa (eC (.int 1)) (aa (eC (.int 2)) ai))))) (aa (bq (aa (eC (.str "group")) (aa (eC (.int 0)) (aa (bq (aa (eC (.int 0)) (aa (eC (.int 1)) (aa (eC (.int 2)) ai)))) ai)))) (aa (bq (aa (eC (.str "run")) (aa (eC (.int 0)) (aa (eC (.int 0)) (aa (eC (.int 3)) ai))))) (aa (bq (aa (eC (.str "group")) (aa (eC (.int 1)) (aa (bq (aa (eC (.int 1)) (aa (eC (.int 0)) (aa (eC (.int 2)) ai)))) ai)))) ai))))) (e2 fM (e2 lO (af 2) (eC (.int 4))) (eC (.int 4))))) (bB (dU (fun δ=>bd (e2 (fg false) (af 3) (eC (.int 2)) δ) bw) (bp (aG fy (aa (e2 aA (af 1) (bO (aa (af 4) ai))) ai))) bA) (bp (af 1)))))))
noncomputable def dR:List DV->M DV:=fP ["known", "laying", "cell", "way", "bad"] (mw)
theorem iG {C IP IQ IS IT:Addr} (T:Tx K mg C) (R:Rx K mg IP IQ IS IT) (D:Df K mg "_law_hurt" fC ["known", "laying", "cell"])   : Has P w K mg base 1 "_law_hurt" 3 (dR):=D.has fun f fd Fu=>oW (k:=0) Fu kD rfl fun cdv A outer s H E hr=>by
 have hu:=eM hr
 have nd:=kD.nd
 refine aq ?_ ?_
 ·refine aL (i:=3) ?_ ?_
  ·exact nd
  ·exact (aD eU (ag 2 (pv 2)) aj)
 ·refine aq ?_ ?_
  ·refine cy ?_ ?_ ?_
   ·exact (vJ.pb (va (bu (fZ hu) (ag 3 (pv 3)) aj) (qG (bu pU (aJ dh rfl T.b_len cY (ae (ag 0 (pv 0)) ah)) aj))))
   ·refine ay ?_
    exact aR (aJ (eY hu) rfl T.b_sorted eW (ae (aD bh (ag 1 (pv 1)) (bQ (ae (bf (ag 0 (pv 0)) (aD eU (aD l7 (ag 2 (pv 2)) aj) (aJ dh rfl T.b_len cY (ae (ag 0 (pv 0)) ah)))) ah))) ah))
   ·exact bG
  ·refine aq ?_ ?_
   ·refine cy ?_ ?_ ?_
    ·exact (vJ.pb (va (bu (fZ hu) (ag 3 (pv 3)) aj) (qG (bu pU (aJ dh rfl T.b_len cY (ae (ag 1 (pv 1)) ah)) aj))))
    ·refine ay ?_
     exact aR (aD bh (Bo (ag 1 (pv 1)) aj) (B7 (ag 1 (pv 1)) aj))
    ·exact bG
   ·refine aq ?_ ?_
    ·refine aL (i:=4) ?_ ?_
     ·exact nd
     ·refine bf ?_ ?_
      ·refine bQ ?_
       refine ae ?_ ?_
       ·refine b8 ?_
        refine ae ?_ ?_
        ·exact (gD 0x2)
        ·refine ae ?_ ?_
         ·exact aj
         ·refine ae ?_ ?_
          ·exact aj
          ·refine ae ?_ ?_
           ·exact aj
           ·exact ah
       ·refine ae ?_ ?_
        ·refine b8 ?_
         refine ae ?_ ?_
         ·exact (gD 0x2)
         ·refine ae ?_ ?_
          ·exact aj
          ·refine ae ?_ ?_
           ·refine b8 ?_
            refine ae ?_ ?_
            ·exact aj
            ·refine ae ?_ ?_
             ·exact aj
             ·refine ae ?_ ?_
              ·exact aj
              ·exact ah
           ·exact ah
        ·refine ae ?_ ?_
         ·refine b8 ?_
          refine ae ?_ ?_
          ·exact (gD 0x2)
          ·refine ae ?_ ?_
           ·exact aj
           ·refine ae ?_ ?_
            ·exact aj
            ·refine ae ?_ ?_
             ·exact aj
             ·exact ah
         ·refine ae ?_ ?_
          ·refine b8 ?_
           refine ae ?_ ?_
           ·exact (gD 0x2)
           ·refine ae ?_ ?_
            ·exact aj
            ·refine ae ?_ ?_
             ·refine b8 ?_
              refine ae ?_ ?_
              ·exact aj
              ·refine ae ?_ ?_
               ·exact aj
               ·refine ae ?_ ?_
                ·exact aj
                ·exact ah
             ·exact ah
          ·exact ah
      ·exact (aD eU (aD l7 (ag 2 (pv 2)) aj) aj)
    ·refine aq ?_ ?_
     ·refine cy ?_ ?_ ?_
      ·exact (bu (fZ hu) (ag 3 (pv 3)) aj)
      ·refine ay ?_
       exact aR (aJ (eY hu) rfl T.b_sorted eW (ae (aD bh (ag 1 (pv 1)) (bQ (ae (ag 4 (pv 4)) ah))) ah))
      ·exact bG
     ·refine ay ?_
      exact aR (ag 1 (pv 1))
noncomputable abbrev ma:Stmt:=lq 44
theorem zh:FnScope ["script", "most", "colours", "house", "hand", "jokers", "laying", "cell", "known", "total_v", "wanting", "rest", "good", "handed", "found", "told"] ["script"] (ar ma):=⟨rfl,rfl,rfl,0x2,rfl,0x2,0x2⟩
noncomputable def C8 (K:IU) (C:Addr) (IP:Addr) (IQ:Addr) (IS:Addr):DS->M Out:=(bB (yx (ve 2 (hG (ax 1) (hG (ax 2) xi))) (aG (aw 1 (cT K)) (aa (af 0) ai))) (bB (aO 3 (DP C IQ (aa (af 1) (aa (af 2) ai)))) (bB (aO 4 (aG (aw 5 (cB K)) (aa (af 0) (aa (eC (.int 2)) (aa (af 1) (aa (af 2) (aa (eC (.int 9)) ai))))))) (fun δ=>(bB (aO 5 (aG (aw 2 (bV K)) (aa (af 0) (aa (af 4) ai)))) (fun δ=>(bB (aO 6 (aG (aw 6 (dv K)) (aa (af 0) (aa (eC (.int 10)) (aa (af 1) (aa (af 2) (aa (af 4) (aa (af 5) ai)))))))) (bB (aO 7 (aG (aw 2 (av K)) (aa (af 0) (aa (eC (.int 20)) ai)))) (bB (aO 8 (aG (aw 2 (cR)) (aa (af 1) (aa (af 2) ai)))) (bB (dU (fun δ=>bd (e2 (fg false) (e2 fM (af 7) (eC (.int 2))) (eC (.int 1)) δ) bw) (fun δ=>(bB (aO 6 (aG (aw 3 (dR)) (aa (af 8) (aa (af 6) (aa (e2 lO (af 7) (eC (.int 2))) ai))))) (aO 5 (aG Fi (aa (eC (.int 0)) (aa (e2 gSub (af 5) (e2 fM (e2 lO (af 7) (eC (.int 64))) (eC (.int 2)))) ai))))) (frz 8 (frz 6 δ))) bA) (fun δ=>(bB (yx (ve 3 (hG (ax 9) (hG (ax 10) (hG (ax 11) xi)))) (aG (aw 2 (bL)) (aa (af 4) (aa (af 6) ai)))) (fun δ=>(bB (aO 12 (jz (aG mJ (aa (bE 1 [8] (oX (af 6)) (ax 0) cU (e2 (yf false) (af 0) (af 1))) ai)) (jz (e2 (fg false) (af 6) (aG fy (aa (af 6) ai))) (e2 gz (af 10) (af 5))))) (bB (aO 13 (bO (aa (aG ti (aa (af 4) ai)) (aa (aG ti (aa (af 6) ai)) ai)))) (bB (aO 14 (aG (aw 5 (dn C IP IS)) (aa (af 3) (aa (e2 bJ (af 13) (eC (.int 0))) (aa (af 5) (aa (e2 bJ (af 13) (eC (.int 1))) (aa (eC (.int 0)) ai))))))) (bB (aO 15 (aG (aw 5 (dn C IP IS)) (aa (af 3) (aa (e2 bJ (af 13) (eC (.int 0))) (aa (af 5) (aa (e2 bJ (af 13) (eC (.int 1))) (aa (eC (.int 1)) ai))))))) (fun δ=>(bB (dU (fun δ=>bd (e2 (fg true) (af 13) (bO (aa (af 4) (aa (af 6) ai))) δ) bw) (bp (eC (.bool false))) bA) (bB (dU (eS (fun δ=>bd ((af 12) δ) bw)) (bp (C0 15 (jz (e2 (G0 false) (af 14) (eC (.bool true))) (e2 (G0 false) (af 15) (eC (.bool true)))))) bA) (bB (dU (fun δ=>(xT (eS (fun δ=>bd ((aG (aw 1 (dz)) (aa (af 14) ai)) δ) bw)) (xT (fun δ=>bd (e2 (fg true) (af 14) (af 9) δ) bw) (xT (eS (fun δ=>bd ((Dt "tuple" (af 15)) δ) bw)) (fun δ=>bd (e2 (fg true) (aG bK (aa (af 15) ai)) (eC (.int 2)) δ) bw)))) (frz 15 δ)) (bp (eC (.bool false))) bA) (bB (dU (fun δ=>(xT (eS (fun δ=>bd ((Dt "list" (e2 bJ (af 15) (eC (.int 0)))) δ) bw)) (xT (fun δ=>bd (e2 (fg true) (e2 bJ (af 15) (eC (.int 0))) (af 11) δ) bw) (xT (eS (fun δ=>bd ((aG (aw 1 (dz)) (aa (e2 bJ (af 15) (eC (.int 1))) ai)) δ) bw)) (fun δ=>bd (e2 (fg true) (e2 bJ (af 15) (eC (.int 1))) (e2 gSub (af 5) (af 10)) δ) bw)))) (frz 15 δ)) (bp (eC (.bool false))) bA) (bB (wF 15 0 (bq (aa (eC (.int 1)) (aa (eC (.int 0)) ai)))) (fun δ=>(bp (e2 (fg false) (af 13) (bO (aa (af 4) (aa (af 6) ai))))) (frz 4 (frz 6 δ)))))))) (frz 4 (frz 6 δ))))))) (frz 6 δ))) (frz 4 (frz 6 δ))))))) (frz 4 δ))) (frz 4 δ)))))
noncomputable def pZ (K:IU) (C:Addr) (IP:Addr) (IQ:Addr) (IS:Addr):List DV->M DV:=fP ["script", "most", "colours", "house", "hand", "jokers", "laying", "cell", "known", "total_v", "wanting", "rest", "good", "handed", "found", "told"] (C8 K C IP IQ IS)
theorem E6 {C IP IQ IS IT:Addr} (T:Tx K mg C) (R:Rx K mg IP IQ IS IT) {f:Addr} {fd:FuncData} (Fu:Fun K "law" "law" ma f fd) (h_House:Ia P w K mg base C IQ) (fF:Has P w K mg base 2 "_law_house_by" 1 (cT K)) (gj:Has P w K mg base 2 "_law_hand_by" 5 (cB K)) (eP:Has P w K mg base 2 "_law_jokers_by" 2 (bV K)) (fq:Has P w K mg base 3 "_law_laying_by" 6 (dv K)) (aW:Has P w K mg base 1 "_law_cell_at" 2 (av K)) (dX:Has P w K mg base 1 "_law_melds" 2 (cR)) (iG:Has P w K mg base 1 "_law_hurt" 3 (dR)) (dQ:Has P w K mg base 2 "_law_laid" 2 (bL)) (ir:Has P w K mg base 8 "_law_met" 5 (dn C IP IS)) (fK:Has P w K mg base 1 "_law_whole" 1 (dz)):FnOk P w K mg base wY 9 f fd ["script"] (DX 1 (pZ K C IP IQ IS)):=oW (k:=8) Fu zh rfl fun cdv A outer s H E hr=>by
 have hu:=eM hr
 have nd:=zh.nd
 refine aq ?_ ?_
 ·refine vw ?_ (vc rfl (gg (aT (i:=1) (by exact nd) rfl (by first|exact Or.inl rfl|exact Or.inr rfl)) (gg (aT (i:=2) (by exact nd) rfl (by first|exact Or.inl rfl|exact Or.inr rfl)) rB))) (vn (ig (aS 1) (ig (aS 2) u9)))
  exact (aM (fF.mono 0x3) hr (ae (ag 0 (pv 0)) ah))
 ·refine aq ?_ ?_
  ·refine aL (i:=3) ?_ ?_
   ·exact nd
   ·exact (by refine BZ h_House 0x2 (hr.mono 0x3) Ej ?_; exact (ae (ag 1 (pv 1)) (ae (ag 2 (pv 2)) ah)))
  ·refine aq ?_ ?_
   ·refine aL (i:=4) ?_ ?_
    ·exact nd
    ·exact (aM (gj.mono 0x3) hr (by refine ae ?_ ?_; (exact (ag 0 (pv 0))); (exact (by refine ae ?_ ?_; (exact aj); (exact (by refine ae ?_ ?_; (exact (ag 1 (pv 1))); (exact (by refine ae ?_ ?_; (exact (ag 2 (pv 2))); (exact (by refine ae ?_ ?_; (exact aj); (exact ah)))))))))))
   ·refine fY 4 ?_
    refine aq ?_ ?_
    ·refine aL (i:=5) ?_ ?_
     ·exact nd
     ·exact (aM (eP.mono 0x3) hr (ae (ag 0 (pv 0)) (ae (ag 4 (pv 4)) ah)))
    ·refine fY 4 ?_
     refine aq ?_ ?_
     ·refine aL (i:=6) ?_ ?_
      ·exact nd
      ·exact (aM (fq.mono 0x3) hr (by refine ae ?_ ?_; (exact (ag 0 (pv 0))); (exact (by refine ae ?_ ?_; (exact aj); (exact (by refine ae ?_ ?_; (exact (ag 1 (pv 1))); (exact (by refine ae ?_ ?_; (exact (ag 2 (pv 2))); (exact (by refine ae ?_ ?_; (exact (ag 4 (pv 4))); (exact (by refine ae ?_ ?_; (exact (ag 5 (pv 5))); (exact ah)))))))))))))
     ·refine aq ?_ ?_
      ·refine aL (i:=7) ?_ ?_
       ·exact nd
       ·exact (aM (aW.mono 0x3) hr (ae (ag 0 (pv 0)) (ae aj ah)))
      ·refine aq ?_ ?_
       ·refine aL (i:=8) ?_ ?_
        ·exact nd
        ·exact (aM (dX.mono 0x3) hr (ae (ag 1 (pv 1)) (ae (ag 2 (pv 2)) ah)))
       ·refine aq ?_ ?_
        ·refine cy ?_ ?_ ?_
         ·exact (bu (fZ hu) (aD eU (ag 7 (pv 7)) aj) aj)
         ·refine mT 8 6 ?_
          refine aq ?_ ?_
          ·refine aL (i:=6) ?_ ?_
           ·exact nd
           ·exact (aM (iG.mono 0x3) hr (by refine ae ?_ ?_; (exact (ag 8 (pv 8))); (exact (ae (ag 6 (pv 6)) (ae (aD l7 (ag 7 (pv 7)) aj) ah)))))
          ·refine ay ?_
           refine aL (i:=5) ?_ ?_
           ·exact nd
           ·exact (aJ (Dz rfl) rfl T.b_max Ee (ae aj (ae (aD ft (ag 5 (pv 5)) (aD eU (aD l7 (ag 7 (pv 7)) aj) aj)) ah)))
         ·exact bG
        ·refine mT 4 6 ?_
         refine aq ?_ ?_
         ·refine vw ?_ (vc rfl (gg (aT (i:=9) (by exact nd) rfl (by first|exact Or.inl rfl|exact Or.inr rfl)) (gg (aT (i:=10) (by exact nd) rfl (by first|exact Or.inl rfl|exact Or.inr rfl)) (gg (aT (i:=11) (by exact nd) rfl (by first|exact Or.inl rfl|exact Or.inr rfl)) rB)))) (vn (ig (aS 9) (ig (aS 10) (ig (aS 11) u9))))
          exact (aM (dQ.mono 0x3) hr (ae (ag 4 (pv 4)) (ae (ag 6 (pv 6)) ah)))
         ·refine fY 6 ?_
          refine aq ?_ ?_
          ·refine aL (i:=12) ?_ ?_
           ·exact nd
           ·exact (hU (aJ (oM rfl) rfl T.b_all nQ (ae (cO (N':=["meld", "known"]) (CompSc.fit (sc:=ar ma) (N:=["script", "most", "colours", "house", "hand", "jokers", "laying", "cell", "known", "total_v", "wanting", "rest", "good", "handed", "found", "told"]) ⟨rfl,0x2,0x2,0x2,rfl,0x2⟩) 0x3 rfl (iZ (ag 6 (pv 6))) (aS 0) (bR 0x3) (fun _ _ _ _=>(aT (i:=0) (show List.Nodup (["meld", "known"]:List Str) by decide +kernel) rfl (by first|exact Or.inl rfl|exact Or.inr rfl))) (fun _ _ _ _=>fu) (fun _ _ _ _=>(fD (C7 hu) (ag 0 (pv 0)) (ag 1 (pv 1))))) ah)) (hU (fD (fZ hu) (ag 6 (pv 6)) (aJ (eY hu) rfl T.b_sorted eW (ae (ag 6 (pv 6)) ah))) (jY (fD (dZ hu) (ag 10 (pv 10)) (ag 5 (pv 5))))))
          ·refine aq ?_ ?_
           ·refine aL (i:=13) ?_ ?_
            ·exact nd
            ·exact (bQ (ae (gL qQ rfl T.b_list mZ (ae (ag 4 (pv 4)) ah)) (ae (gL qQ rfl T.b_list mZ (ae (ag 6 (pv 6)) ah)) ah)))
           ·refine aq ?_ ?_
            ·refine aL (i:=14) ?_ ?_
             ·exact nd
             ·exact (aM (ir.mono 0x3) hr (by refine ae ?_ ?_; (exact (ag 3 (pv 3))); (exact (by refine ae ?_ ?_; (exact (bf (ag 13 (pv 13)) aj)); (exact (by refine ae ?_ ?_; (exact (ag 5 (pv 5))); (exact (by refine ae ?_ ?_; (exact (bf (ag 13 (pv 13)) aj)); (exact (by refine ae ?_ ?_; (exact aj); (exact ah)))))))))))
            ·refine aq ?_ ?_
             ·refine aL (i:=15) ?_ ?_
              ·exact nd
              ·exact (aM (ir.mono 0x3) hr (by refine ae ?_ ?_; (exact (ag 3 (pv 3))); (exact (by refine ae ?_ ?_; (exact (bf (ag 13 (pv 13)) aj)); (exact (by refine ae ?_ ?_; (exact (ag 5 (pv 5))); (exact (by refine ae ?_ ?_; (exact (bf (ag 13 (pv 13)) aj)); (exact (by refine ae ?_ ?_; (exact aj); (exact ah)))))))))))
             ·refine mT 4 6 ?_
              refine aq ?_ ?_
              ·refine cy ?_ ?_ ?_
               ·exact (bu (sL hu) (ag 13 (pv 13)) (bQ (ae (ag 4 (pv 4)) (ae (ag 6 (pv 6)) ah))))
               ·refine ay ?_
                exact aR kJ
               ·exact bG
              ·refine aq ?_ ?_
               ·refine cy ?_ ?_ ?_
                ·exact (eZ (gE (ag 12 (pv 12))))
                ·refine ay ?_
                 exact aR (BG 15 (hU (fD C6 (ag 14 (pv 14)) kJ) (jY (fD C6 (ag 15 (pv 15)) kJ))))
                ·exact bG
               ·refine aq ?_ ?_
                ·refine cy ?_ ?_ ?_
                 ·exact (vb 15 (vJ.pb (nH (eZ (gE (aM (fK.mono 0x3) hr (ae (ag 14 (pv 14)) ah)))) (nH (bu (sL hu) (ag 14 (pv 14)) (ag 9 (pv 9))) (nH (eZ (gE (vK 0x3 T.b_isinstance T.b_tuple sS (ag 15 (pv 15))))) (uP (bu (sL hu) (aJ dh rfl T.b_len cY (ae (ag 15 (pv 15)) ah)) aj)))))))
                 ·refine ay ?_
                  exact aR kJ
                 ·exact bG
                ·refine aq ?_ ?_
                 ·refine cy ?_ ?_ ?_
                  ·exact (vb 15 (vJ.pb (nH (eZ (gE (vK 0x3 T.b_isinstance T.b_list mZ (bf (ag 15 (pv 15)) aj)))) (nH (bu (sL hu) (bf (ag 15 (pv 15)) aj) (ag 11 (pv 11))) (nH (eZ (gE (aM (fK.mono 0x3) hr (ae (bf (ag 15 (pv 15)) aj) ah)))) (uP (bu (sL hu) (bf (ag 15 (pv 15)) aj) (aD ft (ag 5 (pv 5)) (ag 10 (pv 10))))))))))
                  ·refine ay ?_
                   exact aR kJ
                  ·exact bG
                 ·refine aq ?_ ?_
                  ·refine Ct (i:=15) (k:=0) (zi uo (pv 15) zU (by intro _ _; rfl)) ?_
                   exact (b8 (ae aj (ae aj ah)))
                  ·refine mT 4 6 ?_
                   refine ay ?_
                   exact aR (fD (fZ hu) (ag 13 (pv 13)) (bQ (ae (ag 4 (pv 4)) (ae (ag 6 (pv 6)) ah))))
end
noncomputable def Ei:List Tl:=(List.range 14).flatMap fun (a:Nat)=>(List.range 4).map fun (b:Nat)=>((a:Int),(b:Int))
theorem AX {p:Tl} (h:0<=p.1/\p.1<=13/\0<=p.2/\p.2<=3):p∈Ei:=by
 unfold Ei
 refine List.mem_flatMap.mpr ⟨p.1.toNat,List.mem_range.mpr 0x1,List.mem_map.mpr ⟨p.2.toNat,List.mem_range.mpr 0x1,?_⟩⟩
 refine Prod.ext ?_ ?_
 ·show ((p.1.toNat:Nat):Int)=p.1; lia
 ·show ((p.2.toNat:Nat):Int)=p.2; lia
theorem kU {l:List Tl} (h:(l.map pr).Nodup):l.Nodup:=by
 unfold List.Nodup at h ⊢
 rw [List.pairwise_map] at h
 exact h.imp fun hne e=>hne (by rw [e])
theorem BK (need hand:List Tl) (hb:∀p∈need++hand,0<=p.1/\p.1<=13/\0<=p.2/\p.2<=3) (hl:(need++hand).length<=76):∃ks:List Tl,uf (rN ((need++hand).map pr))=ks.map pr/\KsOk hand need ks/\ks.length<=56/\EM ((need++hand).map pr)=true/\∀x∈ks,x∈need++hand:=by
 have hkT:∀y∈(need++hand).map pr,(kT y).isSome=true:=fun y hy=>by
  obtain ⟨p,_,rfl⟩:=List.mem_map.mp hy
  rfl
 have hm:∀x∈uf (rN ((need++hand).map pr)),∃p∈need++hand,pr p=x:=fun x hx=>by
  have:=jn _ _ ((dq _).mem_iff.mp hx)
  obtain ⟨p,hp,e⟩:=List.mem_map.mp this
  exact ⟨p,hp,e⟩
 obtain ⟨ks,hk⟩:=vE (l:=uf (rN ((need++hand).map pr))) fun x hx=>let ⟨p,_,e⟩:=hm x hx; ⟨p,e⟩
 have hnd:(ks.map pr).Nodup:=by
  rw [<-hk]
  exact (dq _).symm.nodup (ji _)
 have hin:∀x∈need++hand,x∈ks:=fun x hx=>by
  have h1:pr x∈uf (rN ((need++hand).map pr)):=(dq _).mem_iff.mpr (rU _ hkT _ (List.mem_map_of_mem hx))
  rw [hk] at h1
  obtain ⟨y,hy,e⟩:=List.mem_map.mp h1
  rw [<-qU e]
  exact hy
 have hsub:∀x∈ks,x∈need++hand:=fun x hx=>by
  obtain ⟨p,hp,e⟩:=hm (pr x) (by rw [hk]; exact List.mem_map_of_mem hx)
  rw [<-qU e]
  exact hp
 have hlen:ks.length<=56:=List.Nodup.length_le_of_subset (kU hnd) (l₂:=Ei) fun x hx=>AX (hb x (hsub x hx))
 refine ⟨ks,hk,⟨kU hnd,by rw [<-hk]; exact ki _,fun x hx=>hin x (IH _ hx),fun x hx=>hin x (II _ hx)⟩,hlen,?_,hsub⟩
 unfold EM
 have hnl:(rN ((need++hand).map pr)).length=ks.length:=by rw [<-(dq _).length_eq,hk,List.length_map]
 rw [decide_eq_true (by rw [List.length_map]; exact hl),yC,decide_eq_true 0x1]
 rfl
structure LayOk (m c:Nat) (L:List Ml):Prop where
 ok:∀y∈L,hJ m c y
 len:L.length<=5
noncomputable def wo (qs:List Tl):Prop:=qs.length<=9/\iP qs=true/\∀p∈qs,0<=p.1/\p.1<=13/\0<=p.2/\p.2<=3
noncomputable def aH (L:List Ml):List Tl:=L.flatMap tl
theorem kE {m c:Nat}:∀{L:List Ml},(∀y∈L,hJ m c y)->(aH L).length<=13*L.length
 |[],_=>by unfold aH; simp
 |y::r,h=>by
  have h1:=(h y IF).len
  have h2:=kE (L:=r) fun z hz=>h z (IE _ hz)
  unfold aH at h2 ⊢
  rw [List.flatMap_cons,List.length_append,List.length_cons]
  lia
theorem yY {m c:Nat} {L:List Ml} (h:∀y∈L,hJ m c y):∀p∈aH L,0<=p.1/\p.1<=13/\0<=p.2/\p.2<=3:=fun p hp=>by
 obtain ⟨y,hy,hp'⟩:=List.mem_flatMap.mp hp
 exact (h y hy).box p hp'
noncomputable def dδ (hand:List Tl) (xs:List D) (need:List Tl) (x3 x4 x5 x6 x7 x8:Option DV):DS:=[some (.d (.list (hand.map pr))),some (.d (.list xs)),some (.own (need.map pr)),x3,x4,x5,x6,x7,x8]
noncomputable def Hd:DS->M Out:=aO 2 (e2 aA (af 2) (aG (aw 1 (bC)) (aa (af 3) ai)))
noncomputable def HF:DS->M Out:=(bB (aO 8 (aG tN (aa (hX (af 2) (af 7)) (aa (hX (af 0) (af 7)) ai)))) (bB (aO 4 (e2 aA (af 4) (e2 eR (af 8) (e2 bJ (af 7) (eC (.int 0)))))) (bB (aO 5 (e2 gSub (e2 aA (af 5) (hX (af 2) (af 7))) (af 8))) (aO 6 (e2 aA (af 6) (e2 eR (bO (aa (af 7) ai)) (e2 gSub (hX (af 0) (af 7)) (af 8))))))))
theorem xR {m c:Nat} (hand:List Tl) (L:List Ml) (LO:LayOk m c L):∃x3,dD (ax 3) Hd (L.map md) (dδ hand (L.map md) [] none none none none none none)=rt (.nx (dδ hand (L.map md) (aH L) x3 none none none none none)):=by
 obtain ⟨δ',e,x3,_,h⟩:=iN (f:=md) (i:=3) (N:=5) (B:=Hd) (all:=L) (fun pre δ=>∃x3,(∀y∈pre,hJ m c y)/\δ=dδ hand (L.map md) (aH pre) x3 none none none none none) (fun pre y δ hy hpre hI=>by
  obtain ⟨x3,hp,rfl⟩:=hI
  have hp':∀z∈pre++[y],hJ m c z:=fun z hz=>by
   rcases List.mem_append.mp hz with h|h
   ·exact hp z h
   ·rw [List.mem_singleton.mp h]; exact LO.ok y hy
  have hl:=kE hp
  have hy':=(LO.ok y hy).len
  refine ⟨dδ hand (L.map md) (aH (pre++[y])) (some (.d (md y))) none none none none none,?_,_,hp',rfl⟩
  unfold Hd
  refine eQ (x:=.new ((aH (pre++[y])).map pr)) ?_ rfl rfl
  refine (ak (x:=.own ((aH pre).map pr)) (y:=.new ((tl y).map pr)) rfl (aZ (n:=1) (br (x:=.d (md y)) rfl) rfl rfl (LO.ok y hy).law)).trans ?_
  rw [Ah (xs:=(aH pre).map pr) (ys:=(tl y).map pr) rfl rfl rfl (by rw [List.length_map,List.length_map]; lia)]
  unfold aH
  rw [List.flatMap_append,List.map_append]
  simp) L [] _ (fun a ha=>ha) (by have:=LO.len; simp; lia) ⟨none,0x4,rfl⟩
 rw [List.nil_append] at h
 subst h
 exact ⟨x3,e⟩
theorem ub {α:Type} (x:α):∀n:Nat,(List.replicate n [x]).flatten=List.replicate n x
 |0=>rfl
 |n+1=>by rw [List.replicate_succ,List.flatten_cons,ub x n,List.replicate_succ]; rfl
theorem F9 (d:D) (n:Nat) (h:n<=1000):eR (.new [d]) (.d (.int (n:Int)))=rt (.new (List.replicate n d)):=by
 show yF (.new [d]) (.d (.int (n:Int)))=_
 unfold yF
 dsimp only [ju]
 rw [if_pos ⟨by simp; lia,0x1,0x1⟩,Int.toNat_natCast,ub]
theorem sq (hand need:List Tl):∀ks:List Tl,(dE hand need ks).length<=hand.length*ks.length
 |[]=>by unfold dE; simp
 |k::r=>by
  have ih:=sq hand need r
  unfold dE at ih ⊢
  rw [List.flatMap_cons,List.length_append,List.length_replicate,List.length_cons,Nat.mul_succ]
  have:=List.count_le_length (a:=k) (l:=hand)
  lia
theorem xn (hand need ks:List Tl) (xs:List D) (hh:hand.length<=9) (hn:need.length<=65) (hk:ks.length<=56) (x3:Option DV):∃x7 x8,dD (ax 7) HF (ks.map pr) (dδ hand xs need x3 (some (.d (.int 0))) (some (.d (.int 0))) (some (.own [])) none none)=rt (.nx (dδ hand xs need x3 (some (.d (.int (jB hand need ks)))) (some (.d (.int (nR hand need ks)))) (some (.own ((dE hand need ks).map pr))) x7 x8)):=by
 obtain ⟨δ',e,x7,x8,h⟩:=iN (f:=pr) (i:=7) (N:=56) (B:=HF) (all:=ks) (fun pre δ=>∃x7 x8,δ=dδ hand xs need x3 (some (.d (.int (jB hand need pre)))) (some (.d (.int (nR hand need pre)))) (some (.own ((dE hand need pre).map pr))) x7 x8) (fun pre p δ hp hpre hI=>by
  obtain ⟨x7,x8,rfl⟩:=hI
  have hc1:=List.count_le_length (a:=p) (l:=hand)
  have hc2:=List.count_le_length (a:=p) (l:=need)
  have hm0:0<=g7 hand need p/\g7 hand need p<=9:=by unfold g7; lia
  have hme:=rL hand need p
  have hrl:=sq hand need pre
  have hrl2:hand.length*pre.length<=9*56:=Nat.mul_le_mul hh 0x1
  refine ⟨dδ hand xs need x3 (some (.d (.int (jB hand need (pre++[p]))))) (some (.d (.int (nR hand need (pre++[p]))))) (some (.own ((dE hand need (pre++[p])).map pr))) (some (.d (pr p))) (some (.d (.int (g7 hand need p)))),?_,_,_,rfl⟩
  unfold HF
  refine eK (δ':=dδ hand xs need x3 (some (.d (.int (jB hand need pre)))) (some (.d (.int (nR hand need pre)))) (some (.own ((dE hand need pre).map pr))) (some (.d (pr p))) (some (.d (.int (g7 hand need p))))) (eQ (x:=.d (.int (g7 hand need p))) ?_ rfl rfl) ?_
  ·refine (bS (cp (x:=.d (.int (need.count p:Int))) (y:=.d (.int (hand.count p:Int))) ((nu (x:=.own (need.map pr)) (y:=.d (pr p)) rfl rfl rfl).trans ?_) ((nu (x:=.d (.list (hand.map pr))) (y:=.d (pr p)) rfl rfl rfl).trans ?_))).trans ?_
   ·rw [nK,rY]
   ·rw [oA,rY]
   ·show rt (DV.d (.int (if (hand.count p:Int)<(need.count p:Int) then (hand.count p:Int) else (need.count p:Int))))=_
    unfold g7
    congr 3
    split <;> lia
  refine eK (δ':=dδ hand xs need x3 (some (.d (.int (jB hand need (pre++[p]))))) (some (.d (.int (nR hand need pre)))) (some (.own ((dE hand need pre).map pr))) (some (.d (pr p))) (some (.d (.int (g7 hand need p))))) (eQ (x:=.d (.int (jB hand need (pre++[p])))) ?_ rfl rfl) ?_
  ·refine (ak (x:=.d (.int (jB hand need pre))) (y:=.d (.int (g7 hand need p*p.1))) rfl ((ak (x:=.d (.int (g7 hand need p))) (y:=.d (.int p.1)) rfl ((ak (x:=.d (pr p)) (y:=.d (.int 0)) rfl rfl).trans (aU rfl))).trans (eT ?_))).trans ?_
   ·unfold sQ
    rw [decide_eq_true (show -(2 ^ 64)<g7 hand need p by lia),decide_eq_true (show g7 hand need p<2 ^ 64 by lia)]
    rfl
   ·rw [cb]
    unfold jB
    rw [List.map_append,List.sum_append]
    simp
  refine eK (δ':=dδ hand xs need x3 (some (.d (.int (jB hand need (pre++[p]))))) (some (.d (.int (nR hand need (pre++[p]))))) (some (.own ((dE hand need pre).map pr))) (some (.d (pr p))) (some (.d (.int (g7 hand need p))))) (eQ (x:=.d (.int (nR hand need (pre++[p])))) ?_ rfl rfl) ?_
  ·refine (ak (x:=.d (.int (nR hand need pre+(need.count p:Int)))) (y:=.d (.int (g7 hand need p))) ((ak (x:=.d (.int (nR hand need pre))) (y:=.d (.int (need.count p:Int))) rfl ((nu (x:=.own (need.map pr)) (y:=.d (pr p)) rfl rfl rfl).trans (by rw [nK,rY]))).trans (cb _ _)) rfl).trans ?_
   rw [b9]
   unfold nR
   rw [List.map_append,List.sum_append]
   congr 3
   simp
   lia
  ·refine eQ (x:=.new ((dE hand need (pre++[p])).map pr)) ?_ rfl rfl
   refine (ak (x:=.own ((dE hand need pre).map pr)) (y:=.new (List.replicate (hand.count p-need.count p) (pr p))) rfl ((ak (x:=.new [pr p]) (y:=.d (.int ((hand.count p-need.count p:Nat):Int))) rfl ((ak (x:=.d (.int (hand.count p:Int))) (y:=.d (.int (g7 hand need p))) ((nu (x:=.d (.list (hand.map pr))) (y:=.d (pr p)) rfl rfl rfl).trans (by rw [oA,rY])) rfl).trans (by rw [b9,hme]))).trans (F9 _ _ 0x1))).trans ?_
   rw [Ah (xs:=(dE hand need pre).map pr) (ys:=List.replicate (hand.count p-need.count p) (pr p)) rfl rfl rfl (by simp; lia)]
   unfold dE
   rw [List.flatMap_append,List.map_append]
   simp) ks [] _ (fun a ha=>ha) (by simpa using hk) ⟨none,none,rfl⟩
 rw [List.nil_append] at h
 subst h
 exact ⟨x7,x8,e⟩
theorem zu {m c:Nat} {hand:List Tl} (HQ:wo hand) {L:List Ml} (LO:LayOk m c L):∃ks,KsOk hand (aH L) ks/\bL [.d (.list (hand.map pr)),.d (.list (L.map md))]=rt (.d (.tuple [.int (jB hand (aH L) ks),.int (nR hand (aH L) ks),.list ((dE hand (aH L) ks).map pr)])):=by
 have hnl:=kE LO.ok
 have hll:=LO.len
 obtain ⟨hl9,_,hbx⟩:=HQ
 obtain ⟨ks,e1,KO,hkl,ok,_⟩:=BK (aH L) hand (fun p hp=>by
  rcases List.mem_append.mp hp with h|h
  ·exact yY LO.ok p h
  ·exact hbx p h) (by rw [List.length_append]; lia)
 refine ⟨ks,KO,?_⟩
 obtain ⟨x3,e3⟩:=xR hand L LO
 obtain ⟨x7,x8,e4⟩:=xn hand (aH L) ks (L.map md) hl9 0x1 hkl x3
 unfold bL
 refine dJ (x:=.d (.tuple [.int (jB hand (aH L) ks),.int (nR hand (aH L) ks),.list ((dE hand (aH L) ks).map pr)])) ?_
 unfold ml
 refine eK (δ':=dδ hand (L.map md) [] none none none none none none) rfl ?_
 refine eK (δ':=dδ hand (L.map md) (aH L) x3 none none none none none) (lD (xs:=L.map md) (ic rfl) e3) ?_
 refine eK (δ':=dδ hand (L.map md) (aH L) x3 (some (.d (.int 0))) none none none none) rfl ?_
 refine eK (δ':=dδ hand (L.map md) (aH L) x3 (some (.d (.int 0))) (some (.d (.int 0))) none none none) rfl ?_
 refine eK (δ':=dδ hand (L.map md) (aH L) x3 (some (.d (.int 0))) (some (.d (.int 0))) (some (.own [])) none none) rfl ?_
 refine eK (δ':=dδ hand (L.map md) (aH L) x3 (some (.d (.int (jB hand (aH L) ks)))) (some (.d (.int (nR hand (aH L) ks)))) (some (.own ((dE hand (aH L) ks).map pr))) x7 x8) (lD (xs:=ks.map pr) ?_ e4) rfl
 refine zX ((bS (br ((ak (x:=.own ((aH L).map pr)) (y:=.d (.list (hand.map pr))) rfl rfl).trans (Ah (xs:=(aH L).map pr) (ys:=hand.map pr) rfl rfl rfl (by rw [List.length_map,List.length_map]; lia))))).trans ?_)
 rw [<-List.map_append]
 unfold tD
 simp only [ju,bg,aK]
 rw [if_pos ok,e1]
theorem wU (ps:List Tl) (hl:ps.length<=1000):iu [.d (.list (ps.map pr))]=rt (.d (.int ((ps.map (·.1)).sum))):=by
 unfold iu vO
 refine dJ (x:=.d (.int ((ps.map (·.1)).sum))) (bz ?_)
 refine (bS (br (bT (xs:=ps.map pr) (ic rfl) (by rw [List.length_map]; lia) (dw (g:=fun p=>PyData.int p.1) fun p _=>?_)))).trans ?_
 ·exact (ak (x:=.d (pr p)) (y:=.d (.int 0)) rfl rfl).trans (aU rfl)
 ·unfold BM
  simp only [ju,bg,aK]
  rw [show (ps.map fun p=>PyData.int p.1)=(ps.map (·.1)).map PyData.int by rw [List.map_map]; rfl,xO]
  rfl
theorem Eb (r:List Tl) (p:Tl):((r.map pr).any fun z=>PyData.eqv z (pr p))=decide (p∈r):=by
 induction r with
 |nil=>rfl
 |cons q r ih=>
  rw [List.map_cons,List.any_cons,ih,j5]
  by_cases h:q=p
  ·subst h; simp
  ·have:p≠q:=fun e=>h e.symm
   simp [h,this]
theorem Cn (r:List Tl) (p:Tl):yf false (.d (pr p)) (.own (r.map pr))=rt (.d (.bool (decide (p∈r)))):=by
 unfold yf
 show (if (pr p).depth<=60 then _ else none)=_
 rw [if_pos (show (pr p).depth<=60 from (by decide:1<=60))]
 show rt (DV.d (.bool ((r.map pr).any fun z=>PyData.eqv z (pr p))))=_
 rw [Eb]
theorem wc (p:Tl):∀r:List Tl,(r.map pr).findIdx? (fun z=>PyData.eqv z (pr p))=r.findIdx? (·==p)
 |[]=>rfl
 |q::r=>by
  rw [List.map_cons,List.findIdx?_cons,List.findIdx?_cons,wc p r,j5]
  by_cases h:q=p
  ·subst h; simp
  ·have:(q==p)=false:=by simpa using h
   rw [this,decide_eq_false h]
theorem kR {α β:Type} (f:α->β):∀(l:List α) (b:Nat),(l.map f).eraseIdx b=(l.eraseIdx b).map f
 |[],_=>rfl
 |_::_,0=>rfl
 |x::l,b+1=>by
  show f x::(l.map f).eraseIdx b=f x::(l.eraseIdx b).map f
  rw [kR f l b]
theorem tP {p:Tl}:∀{r:List Tl},p∈r->∃j,r.findIdx? (·==p)=some j/\r.eraseIdx j=r.erase p
 |q::r,h=>by
  rw [List.findIdx?_cons,List.erase_cons]
  by_cases hq:q=p
  ·subst hq
   exact ⟨0,0x4,0x4⟩
  ·have hb:(q==p)=false:=by simpa using hq
   obtain ⟨j,e1,e2⟩:=tP ((List.mem_cons.mp h).resolve_left fun e=>hq e.symm)
   refine ⟨j+1,by rw [hb,e1]; rfl,?_⟩
   rw [hb]
   show q::r.eraseIdx j=_
   rw [e2]
   rfl
noncomputable def oδ (hand:List Tl) (j:Int) (need r:List Tl) (x4 x5:Option DV):DS:=[some (.d (.list (hand.map pr))),some (.d (.int j)),some (.d (.list (need.map pr))),some (.own (r.map pr)),x4,x5]
noncomputable def oB:DS->M Out:=(dU (fun δ=>bd (e2 (yf false) (af 4) (af 3) δ) bw) (xx 3 (af 4)) bA)
theorem yV (hand:List Tl) (j:Int) (need:List Tl) (hl:need.length<=1000):∃x4,dD (ax 4) oB (need.map pr) (oδ hand j need hand none none)=rt (.nx (oδ hand j need (bI hand need) x4 none)):=by
 obtain ⟨δ',e,x4,h⟩:=iN (f:=pr) (i:=4) (N:=1000) (B:=oB) (all:=need) (fun pre δ=>∃x4,δ=oδ hand j need (bI hand pre) x4 none) (fun pre p δ hp hpre hI=>by
  obtain ⟨x4,rfl⟩:=hI
  have hla:bI hand (pre++[p])=(bI hand pre).erase p:=by unfold bI; rw [List.foldl_append]; rfl
  refine ⟨oδ hand j need (bI hand (pre++[p])) (some (.d (pr p))) none,?_,_,rfl⟩
  have ht:(fun δ=>bd (e2 (yf false) (af 4) (af 3) δ) bw) (oδ hand j need (bI hand pre) (some (.d (pr p))) none)=rt (decide (p∈bI hand pre)):=aX ((ak (x:=.d (pr p)) (y:=.own ((bI hand pre).map pr)) rfl rfl).trans (Cn _ _))
  unfold oB
  by_cases hin:p∈bI hand pre
  ·rw [decide_eq_true hin] at ht
   refine xw ht ?_
   obtain ⟨i,e1,e2⟩:=tP hin
   show xx 3 (af 4) (oδ hand j need (bI hand pre) (some (.d (pr p))) none)=_
   unfold xx
   show bd (rt (DV.d (pr p))) _=_
   rw [aK]
   show bd (rt (pr p)) _=_
   rw [aK,if_pos (show (pr p).depth<=60 from (by decide:1<=60)),wc,e1]
   show rt (Out.nx _)=_
   rw [kR,e2,<-hla]
   rfl
  ·rw [decide_eq_false hin] at ht
   refine qt ht ?_
   rw [hla,List.erase_of_not_mem hin]
   rfl) need [] _ (fun a ha=>ha) (by simpa using hl) ⟨none,rfl⟩
 rw [List.nil_append] at h
 subst h
 exact ⟨x4,e⟩
theorem xk (hand:List Tl) (j:Int) (need:List Tl) (hl:need.length<=1000):fk [.d (.list (hand.map pr)),.d (.int j),.d (.list (need.map pr))]=rt (.nwt [] ((bI hand need).map pr) [.int (j-((need.length:Int)-((hand.length:Int)-((bI hand need).length:Int))))]):=by
 obtain ⟨x4,e⟩:=yV hand j need hl
 unfold fk
 refine dJ (x:=.tpo [] ((bI hand need).map pr) [.int (j-((need.length:Int)-((hand.length:Int)-((bI hand need).length:Int))))]) ?_
 unfold pW
 refine eK (δ':=oδ hand j need hand none none) (eQ (x:=.new (hand.map pr)) ((bS (br (x:=.d (.list (hand.map pr))) rfl)).trans rfl) rfl rfl) ?_
 refine eK (δ':=oδ hand j need (bI hand need) x4 none) (lD (xs:=need.map pr) (ic rfl) e) ?_
 refine eK (δ':=oδ hand j need (bI hand need) x4 (some (.d (.int ((hand.length:Int)-((bI hand need).length:Int)))))) (eQ (x:=.d (.int ((hand.length:Int)-((bI hand need).length:Int)))) ?_ rfl rfl) ?_
 ·exact (ak (x:=.d (.int (hand.length:Int))) (y:=.d (.int ((bI hand need).length:Int))) ((bS (br (x:=.d (.list (hand.map pr))) rfl)).trans (gM hand)) ((bS (br (x:=.own ((bI hand need).map pr)) rfl)).trans (nC _))).trans (b9 _ _)
 ·refine bz ?_
  unfold zR
  rw [cp (x:=.own ((bI hand need).map pr)) (y:=.d (.int (j-((need.length:Int)-((hand.length:Int)-((bI hand need).length:Int)))))) rfl ((ak (x:=.d (.int j)) (y:=.d (.int ((need.length:Int)-((hand.length:Int)-((bI hand need).length:Int))))) rfl ((ak (x:=.d (.int (need.length:Int))) (y:=.d (.int ((hand.length:Int)-((bI hand need).length:Int)))) ((bS (br (x:=.d (.list (need.map pr))) rfl)).trans (gM need)) rfl).trans (b9 _ _))).trans (b9 _ _)),aK]
  rfl
noncomputable def tB (C E:Addr):DS->M Out:=ur 2 (aG (cQ 2 (bD C E)) (aa (af 0) (aa (af 3) ai)))
noncomputable def tδ (C:Addr) (m c:Nat) (xs:List D) (need:List Tl) (x3:Option DV):DS:=[some (hs C m c),some (.d (.list xs)),some (.own (need.map pr)),x3]
theorem tZ (C E:Addr) {m c:Nat} (xs:List D):∀(L:List Ml) (pre:List Tl) (x3:Option DV),(∀y∈L,hJ m c y)->pre.length+13*L.length<=1000 ->
  (L.all (kP m c)=true->∃y3,dD (ax 3) (tB C E) (L.map md) (tδ C m c xs pre x3)=rt (.nx (tδ C m c xs (pre++aH L) y3)))/\(L.all (kP m c)=false->dD (ax 3) (tB C E) (L.map md) (tδ C m c xs pre x3)=some (.error (.ref E)))
 |[],pre,x3,_,_=>⟨fun _=>⟨x3,by unfold aH; simp; rfl⟩,fun h=>by cases h⟩
 |y::L,pre,x3,h,hl=>by
  rw [List.length_cons] at hl
  have hy:=h y IF
  have hyl:=hy.len
  have ih:=tZ C E xs L (pre++tl y) (some (.d (md y))) (fun z hz=>h z (IE _ hz)) (by rw [List.length_append]; lia)
  have hs':ax 3 (md y) (tδ C m c xs pre x3)=some (tδ C m c xs pre (some (.d (md y)))):=rfl
  have ht:=hy.tiles C E
  have hcall:aG (cQ 2 (bD C E)) (aa (af 0) (aa (af 3) ai)) (tδ C m c xs pre (some (.d (md y))))=bD C E [hs C m c,.d (md y)]:=fx (cp (x:=hs C m c) (y:=.d (md y)) rfl rfl) rfl rfl rfl
  rw [ht] at hcall
  rw [List.map_cons,List.all_cons]
  cases ho:kP m c y with
  |true=>
   rw [ho,if_pos rfl] at hcall
   have e1:tB C E (tδ C m c xs pre (some (.d (md y))))=rt (.nx (tδ C m c xs (pre++tl y) (some (.d (md y))))):=by
    unfold tB
    rw [EI (xs:=pre.map pr) (ys:=(tl y).map pr) rfl hcall (by rw [List.length_map,List.length_map]; lia),<-List.map_append]
    rfl
   have e2:dD (ax 3) (tB C E) (md y::L.map md) (tδ C m c xs pre x3)=dD (ax 3) (tB C E) (L.map md) (tδ C m c xs (pre++tl y) (some (.d (md y)))):=by
    rw [dD,hs',bg,aK,e1,aK,rg]
   rw [e2]
   refine ⟨fun hall=>?_,fun hall=>ih.2 (by simpa using hall)⟩
   obtain ⟨y3,e3⟩:=ih.1 (by simpa using hall)
   refine ⟨y3,?_⟩
   rw [e3]
   unfold aH
   rw [List.flatMap_cons,List.append_assoc]
  |false=>
   rw [ho,if_neg 0x4] at hcall
   refine ⟨fun hall=>by simp at hall,fun _=>?_⟩
   have e1:tB C E (tδ C m c xs pre (some (.d (md y))))=some (.error (.ref E)):=by
    unfold tB ur
    show bd (aG (cQ 2 (bD C E)) (aa (af 0) (aa (af 3) ai)) (tδ C m c xs pre (some (.d (md y))))) _=_
    rw [hcall]
    rfl
   rw [dD,hs',bg,aK,e1]
   rfl
theorem Gf (C E:Addr) {m c:Nat} {L:List Ml} (LO:LayOk m c L):a8 C E [hs C m c,.d (.list (L.map md))]=if L.all (kP m c)=true/\kN (L.map md)=true then rt (.new ((aH L).map pr)) else some (.error (.ref E)):=by
 have hll:=LO.len
 have hM:∀x∈L.map md,lA x:=fun x hx=>by
  obtain ⟨y,_,rfl⟩:=List.mem_map.mp hx
  exact qC y
 obtain ⟨h1,h2⟩:=tZ C E (L.map md) L [] none LO.ok (by simp; lia)
 have ho:=An (L.map md) hM (by rw [List.length_map]; lia)
 unfold a8
 cases hall:L.all (kP m c) with
 |false=>
  rw [if_neg 0x4]
  refine oq ?_
  unfold de
  refine eK (δ':=tδ C m c (L.map md) [] none) rfl (tq (lD (xs:=L.map md) (ic rfl) (h2 hall)))
 |true=>
  obtain ⟨y3,e⟩:=h1 hall
  rw [List.nil_append] at e
  have go:∀r,(bB (dU (eS (fun δ=>bd ((aG (aw 1 (a9)) (aa (af 1) ai)) δ) bw)) (fun _=>some (.error (.ref E))) bA) (bp (af 2))) (tδ C m c (L.map md) (aH L) y3)=r->de C E (tδ C m c (L.map md) [] none |>.set 2 none)=r:=fun r hr=>by
   unfold de
   refine eK (δ':=tδ C m c (L.map md) [] none) rfl ?_
   exact eK (δ':=tδ C m c (L.map md) (aH L) y3) (lD (xs:=L.map md) (ic rfl) e) hr
  have ht:(eS (fun δ=>bd ((aG (aw 1 (a9)) (aa (af 1) ai)) δ) bw)) (tδ C m c (L.map md) (aH L) y3)=rt (!kN (L.map md)):=gx (aX (aZ (n:=1) (br (x:=.d (.list (L.map md))) rfl) rfl rfl ho)) rfl
  cases hb:kN (L.map md) with
  |true=>
   rw [hb] at ht
   rw [if_pos ⟨rfl,rfl⟩]
   exact dJ (x:=.own ((aH L).map pr)) (go _ (eK (δ':=tδ C m c (L.map md) (aH L) y3) (qt ht rfl) (bz rfl)))
  |false=>
   rw [hb] at ht
   rw [if_neg 0x4]
   exact oq (go _ (tq (xw ht rfl)))
theorem yr (C E:Addr) {m c j:Int} {ps:List Tl} (hl:ps.length<=1000) (hn:ik m c ps j=true):ef C E [hs C m c,.d (.list (ps.map pr)),.d (.int j)]=rt (.d .none):=by
 have h:=EN C m c j ps hl
 rw [hn] at h
 unfold ef kX fP
 rw [qt (gx (aX (aZ (jE (x:=hs C m c) (y:=.d (.list (ps.map pr))) (z:=.d (.int j)) rfl rfl rfl) rfl rfl h)) rfl) rfl]
 rfl
noncomputable def eG (hand:List Tl) (j:Int) (L:List Ml):Int:=j-(((aH L).length:Int)-((hand.length:Int)-((bI hand (aH L)).length:Int)))
noncomputable def eO (m c:Nat) (hand:List Tl) (j:Int) (L:List Ml):Bool:=L.all (kP m c)&&kN (L.map md)&&decide (0<=eG hand j L)
theorem zq (C Eh El:Addr) {m c:Nat} {hand:List Tl} {j:Int} (hh:ik m c hand j=true) (hl:hand.length<=1000) {L:List Ml} (LO:LayOk m c L):fR C Eh El [hs C m c,.d (.list (hand.map pr)),.d (.int j),.d (.list (L.map md))]=if eO m c hand j L=true then rt (.nwt [] ((bI hand (aH L)).map pr) [.int (eG hand j L)]) else some (.error (.ref El)):=by
 have hc:=yr C Eh hl hh
 have ht:=Gf C El LO
 have hnl:=kE LO.ok
 have hll:=LO.len
 have hlo:=xk hand j (aH L) 0x1
 unfold fR
 have go:∀r,(bB (aO 4 (aG (aw 3 (fk)) (aa (af 1) (aa (af 2) (aa (aG (cQ 2 (a8 C El)) (aa (af 0) (aa (af 3) ai))) ai))))) (bB (dU (fun δ=>(fun δ=>bd (e2 fJ (e2 bJ (af 4) (eC (.int 1))) (eC (.int 0)) δ) bw) (frz 4 δ)) (fun _=>some (.error (.ref El))) bA) (bp (af 4)))) [some (hs C m c),some (.d (.list (hand.map pr))),some (.d (.int j)),some (.d (.list (L.map md))),none]=r->ui C Eh El [some (hs C m c),some (.d (.list (hand.map pr))),some (.d (.int j)),some (.d (.list (L.map md))),none]=r:=fun r hr=>by
  unfold ui
  exact eK (Cr (fx (jE (x:=hs C m c) (y:=.d (.list (hand.map pr))) (z:=.d (.int j)) rfl rfl rfl) rfl rfl hc)) hr
 have tcall:∀r,a8 C El [hs C m c,.d (.list (L.map md))]=r->aG (cQ 2 (a8 C El)) (aa (af 0) (aa (af 3) ai)) [some (hs C m c),some (.d (.list (hand.map pr))),some (.d (.int j)),some (.d (.list (L.map md))),none]=r:=fun r hr=>fx (cp (x:=hs C m c) (y:=.d (.list (L.map md))) rfl rfl) rfl rfl hr
 by_cases hg:L.all (kP m c)=true/\kN (L.map md)=true
 ·rw [if_pos hg] at ht
  have hset:∀(G:DS->M Out) r,G [some (hs C m c),some (.d (.list (hand.map pr))),some (.d (.int j)),some (.d (.list (L.map md))),some (.tpo [] ((bI hand (aH L)).map pr) [.int (eG hand j L)])]=r->bB (aO 4 (aG (aw 3 (fk)) (aa (af 1) (aa (af 2) (aa (aG (cQ 2 (a8 C El)) (aa (af 0) (aa (af 3) ai))) ai))))) G [some (hs C m c),some (.d (.list (hand.map pr))),some (.d (.int j)),some (.d (.list (L.map md))),none]=r:=fun G r hr=>by
   refine eK (eQ (x:=.nwt [] ((bI hand (aH L)).map pr) [.int (eG hand j L)]) (aZ (jE (x:=.d (.list (hand.map pr))) (y:=.d (.int j)) (z:=.new ((aH L).map pr)) rfl rfl (tcall _ ht)) rfl rfl hlo) rfl rfl) hr
  have htest:(fun δ=>(fun δ=>bd (e2 fJ (e2 bJ (af 4) (eC (.int 1))) (eC (.int 0)) δ) bw) (frz 4 δ)) [some (hs C m c),some (.d (.list (hand.map pr))),some (.d (.int j)),some (.d (.list (L.map md))),some (.tpo [] ((bI hand (aH L)).map pr) [.int (eG hand j L)])]=rt (decide (eG hand j L<0)):=by
   change (fun δ=>bd (e2 fJ (e2 bJ (af 4) (eC (.int 1))) (eC (.int 0)) δ) bw) [some (hs C m c),some (.d (.list (hand.map pr))),some (.d (.int j)),some (.d (.list (L.map md))),some (.d (.tuple [.list ((bI hand (aH L)).map pr),.int (eG hand j L)]))]=_
   exact aX ((ak (x:=.d (.int (eG hand j L))) (y:=.d (.int 0)) ((ak (x:=.d (.tuple [.list ((bI hand (aH L)).map pr),.int (eG hand j L)])) (y:=.d (.int 1)) rfl rfl).trans (aU rfl)) rfl).trans (dY _ _))
  by_cases hj:0<=eG hand j L
  ·rw [if_pos (by unfold eO; rw [hg.1,hg.2,decide_eq_true hj]; rfl)]
   rw [decide_eq_false 0x1] at htest
   exact dJ (x:=.tpo [] ((bI hand (aH L)).map pr) [.int (eG hand j L)]) (go _ (hset _ _ (eK (qt htest rfl) (bz rfl))))
  ·rw [if_neg (by unfold eO; rw [decide_eq_false hj]; simp)]
   rw [decide_eq_true 0x1] at htest
   exact oq (go _ (hset _ _ (tq (xw htest rfl))))
 ·rw [if_neg hg] at ht
  rw [if_neg (by unfold eO; intro h; simp at h; exact hg ⟨by simpa using h.1.1,h.1.2⟩)]
  refine oq (go _ (tq (E2 (De ?_))))
  have e1:=Di (fr:=ai) (tcall _ ht)
  unfold aa at e1 ⊢
  show bd (rt (DV.d (.list (hand.map pr)))) _=_
  rw [aK]
  show bd (bd (rt (DV.d (.int j))) _) _=_
  rw [aK,e1]
  rfl
theorem Bk (C Eh El:Addr) {m c:Nat} {hand:List Tl} {j:Int} (hh:ik m c hand j=true) (hl:hand.length<=1000) {L:List Ml} (LO:LayOk m c L):ko C Eh El [hs C m c,.d (.list (hand.map pr)),.d (.int j),.d (.list (L.map md))]=if eO m c hand j L=true then rt (.d (.int ((hand.map (·.1)).sum-((bI hand (aH L)).map (·.1)).sum))) else some (.error (.ref El)):=by
 have hlf:=zq C Eh El hh hl LO
 have h1:=wU hand hl
 have h2:=wU (bI hand (aH L)) (Nat.le_trans (gO _ _).length_le hl)
 have e1:aG (aw 1 (iu)) (aa (af 1) ai) [some (hs C m c),some (.d (.list (hand.map pr))),some (.d (.int j)),some (.d (.list (L.map md)))]=rt (.d (.int ((hand.map (·.1)).sum))):=aZ (n:=1) (br (x:=.d (.list (hand.map pr))) rfl) rfl rfl h1
 have lcall:∀r,fR C Eh El [hs C m c,.d (.list (hand.map pr)),.d (.int j),.d (.list (L.map md))]=r->aG (cQ 4 (fR C Eh El)) (aa (af 0) (aa (af 1) (aa (af 2) (aa (af 3) ai)))) [some (hs C m c),some (.d (.list (hand.map pr))),some (.d (.int j)),some (.d (.list (L.map md)))]=r:=fun r hr=>fx (Fg (x:=hs C m c) (y:=.d (.list (hand.map pr))) (z:=.d (.int j)) (u:=.d (.list (L.map md))) rfl rfl rfl rfl) rfl rfl hr
 unfold ko
 by_cases hg:eO m c hand j L=true
 ·rw [if_pos hg] at hlf ⊢
  refine dJ (x:=.d (.int ((hand.map (·.1)).sum-((bI hand (aH L)).map (·.1)).sum))) ?_
  unfold rC
  refine bz ((ak (x:=.d (.int ((hand.map (·.1)).sum))) (y:=.d (.int (((bI hand (aH L)).map (·.1)).sum))) e1 (aZ (n:=1) (br (x:=.d (.list ((bI hand (aH L)).map pr))) ((ak (x:=.d (.tuple [.list ((bI hand (aH L)).map pr),.int (eG hand j L)])) (y:=.d (.int 0)) ?_ rfl).trans (aU rfl))) rfl rfl h2)).trans (b9 _ _))
  unfold BU
  show bd (aG (cQ 4 (fR C Eh El)) (aa (af 0) (aa (af 1) (aa (af 2) (aa (af 3) ai)))) [some (hs C m c),some (.d (.list (hand.map pr))),some (.d (.int j)),some (.d (.list (L.map md)))]) _=_
  rw [lcall _ hlf,aK]
  rfl
 ·rw [if_neg hg] at hlf ⊢
  refine oq ?_
  unfold rC
  refine uJ (F8 (x:=.d (.int ((hand.map fun (p:Tl)=>p.1).sum))) e1 (De (Di (DT ?_))))
  unfold BU
  show bd (aG (cQ 4 (fR C Eh El)) (aa (af 0) (aa (af 1) (aa (af 2) (aa (af 3) ai)))) [some (hs C m c),some (.d (.list (hand.map pr))),some (.d (.int j)),some (.d (.list (L.map md)))]) _=_
  rw [lcall _ hlf]
  rfl
theorem Ex (C Eh El:Addr) {m c:Nat} {hand:List Tl} {j:Int} (hh:ik m c hand j=true) (hl:hand.length<=1000) {L:List Ml} (LO:LayOk m c L):dn C Eh El [hs C m c,.d (.list (hand.map pr)),.d (.int j),.d (.list (L.map md)),.d (.int 0)]=rt (if eO m c hand j L=true then .d (.int ((hand.map (·.1)).sum-((bI hand (aH L)).map (·.1)).sum)) else .d (.bool true)):=by
 have hw:=Bk C Eh El hh hl LO
 unfold dn jU
 by_cases hg:eO m c hand j L=true
 ·rw [if_pos hg] at hw ⊢
  exact dJ (x:=.d (.int ((hand.map (·.1)).sum-((bI hand (aH L)).map (·.1)).sum))) (zG (ja (xw rfl (bz (fx (Fg (x:=hs C m c) (y:=.d (.list (hand.map pr))) (z:=.d (.int j)) (u:=.d (.list (L.map md))) rfl rfl rfl rfl) rfl rfl hw)))))
 ·rw [if_neg hg] at hw ⊢
  exact dJ (x:=.d (.bool true)) (yX (tq (xw rfl (uJ (fx (Fg (x:=hs C m c) (y:=.d (.list (hand.map pr))) (z:=.d (.int j)) (u:=.d (.list (L.map md))) rfl rfl rfl rfl) rfl rfl hw)))))
theorem Fd (C Eh El:Addr) {m c:Nat} {hand:List Tl} {j:Int} (hh:ik m c hand j=true) (hl:hand.length<=1000) {L:List Ml} (LO:LayOk m c L):dn C Eh El [hs C m c,.d (.list (hand.map pr)),.d (.int j),.d (.list (L.map md)),.d (.int 1)]=rt (if eO m c hand j L=true then .nwt [] ((bI hand (aH L)).map pr) [.int (eG hand j L)] else .d (.bool true)):=by
 have hw:=zq C Eh El hh hl LO
 unfold dn jU
 by_cases hg:eO m c hand j L=true
 ·rw [if_pos hg] at hw ⊢
  exact dJ (x:=.nwt [] ((bI hand (aH L)).map pr) [.int (eG hand j L)]) (zG (eK (qt rfl rfl) (bz (fx (Fg (x:=hs C m c) (y:=.d (.list (hand.map pr))) (z:=.d (.int j)) (u:=.d (.list (L.map md))) rfl rfl rfl rfl) rfl rfl hw))))
 ·rw [if_neg hg] at hw ⊢
  exact dJ (x:=.d (.bool true)) (yX (eK (qt rfl rfl) (uJ (fx (Fg (x:=hs C m c) (y:=.d (.list (hand.map pr))) (z:=.d (.int j)) (u:=.d (.list (L.map md))) rfl rfl rfl rfl) rfl rfl hw))))
theorem l5 {fr:DS->M (List DV)} {δ:DS} {xs:List DV} {ds:List D} (h:fr δ=rt xs) (hd:dA xs=some ds) (hl:ds.length<=1000000):bO fr δ=rt (.new ds):=by
 unfold bO
 rw [h,aK,hd,bg,aK,if_pos hl]
theorem FE (K:IU) (ns:List Int) (hand:List Tl):∃j:Int,bV K [.scr K ns,.d (.list (hand.map pr))]=rt (.d (.int j))/\0<=j/\j<=2:=by
 have h0:=Int.emod_nonneg (aF ns 1) (show (4:Int)≠0 by decide)
 have h4:=Int.emod_lt_of_pos (aF ns 1) (show (0:Int)<4 by decide)
 have e1:aG AK (aa (e2 fJ (aG bK (aa (af 1) ai)) (eC (.int 6))) ai) [some (.scr K ns),some (.d (.list (hand.map pr))),some (.d (.int (aF ns 1)))]=rt (.d (.int (if (hand.length:Int)<6 then 1 else 0))):=by
  refine (bS (br ((ak (x:=.d (.int (hand.length:Int))) (y:=.d (.int 6)) ((bS (br (x:=.d (.list (hand.map pr))) rfl)).trans (gM hand)) rfl).trans (dY _ _)))).trans ?_
  by_cases h:(hand.length:Int)<6
  ·rw [if_pos h,decide_eq_true h]; rfl
  ·rw [if_neg h,decide_eq_false h]; rfl
 have e2':∃q:Int,1<=q/\q<=2/\e2 bJ (bO (aa (eC (.int 1)) (aa (eC (.int 2)) ai))) (aG AK (aa (e2 fJ (aG bK (aa (af 1) ai)) (eC (.int 6))) ai)) [some (.scr K ns),some (.d (.list (hand.map pr))),some (.d (.int (aF ns 1)))]=rt (.d (.int q)):=by
  by_cases h:(hand.length:Int)<6
  ·rw [if_pos h] at e1
   exact ⟨2,0x3,0x3,(ak (x:=.new [.int 1,.int 2]) rfl e1).trans (kW rfl)⟩
  ·rw [if_neg h] at e1
   exact ⟨1,0x3,0x3,(ak (x:=.new [.int 1,.int 2]) rfl e1).trans (kW rfl)⟩
 obtain ⟨q,q1,q2,e2''⟩:=e2'
 have fin:∀j:Int,atI [PyData.int 0,.int 0,.int 1,.int q] (aF ns 1 % 4)=some (.int j)->bV K [.scr K ns,.d (.list (hand.map pr))]=rt (.d (.int j)):=fun j hj=>by
  unfold bV
  refine dJ (x:=.d (.int j)) ?_
  unfold gU
  refine eK (δ':=[some (.scr K ns),some (.d (.list (hand.map pr))),some (.d (.int (aF ns 1)))]) (eQ (x:=.d (.int (aF ns 1))) (qg (K:=K) (ns:=ns) rfl rfl 0x3) rfl rfl) (bz ?_)
  refine (ak (x:=.new [.int 0,.int 0,.int 1,.int q]) (y:=.d (.int (aF ns 1 % 4))) ?_ ((ak (x:=.d (.int (aF ns 1))) (y:=.d (.int 4)) rfl rfl).trans (cF 0x3))).trans (kW hj)
  exact l5 (Fg (x:=.d (.int 0)) (y:=.d (.int 0)) (z:=.d (.int 1)) (u:=.d (.int q)) rfl rfl rfl e2'') rfl 0x4
 have hc:aF ns 1 % 4=0\/aF ns 1 % 4=1\/aF ns 1 % 4=2\/aF ns 1 % 4=3:=by lia
 rcases hc with h|h|h|h
 ·exact ⟨0,fin 0 (by rw [h]; rfl),0x3,0x3⟩
 ·exact ⟨0,fin 0 (by rw [h]; rfl),0x3,0x3⟩
 ·exact ⟨1,fin 1 (by rw [h]; rfl),0x3,0x3⟩
 ·exact ⟨q,fin q (by rw [h]; rfl),0x1,0x1⟩
theorem sP {gc:DS->M Bool} {δ:DS}:∀{xs:List D},(∀x∈xs,∃b,gc (δ.set 0 (some (.d x)))=rt b)->(∀x:D,af 0 (δ.set 0 (some (.d x)))=rt (.d x))->∃ys,cK (ax 0) gc (af 0) δ xs=some ys/\(∀y∈ys,y∈xs)/\ys.length<=xs.length
 |[],_,_=>⟨[],rfl,0x4,0x4⟩
 |x::r,h,h2=>by
  obtain ⟨ys,e,hs,hl⟩:=sP (xs:=r) (fun z hz=>h z (IE _ hz)) h2
  obtain ⟨b,hb⟩:=h x IF
  have hx:=h2 x
  unfold cK
  simp only [ax]
  rw [hb]
  cases b with
  |false=>
   exact ⟨ys,e,fun y hy=>IE _ (hs y hy),by rw [List.length_cons]; lia⟩
  |true=>
   simp only [rt]
   rw [hx,e]
   refine ⟨x::ys,rfl,fun y hy=>?_,by rw [List.length_cons,List.length_cons]; lia⟩
   rcases List.mem_cons.mp hy with z|z
   ·rw [z]; exact IF
   ·exact IE _ (hs y z)
theorem yO {m c:Nat}:∀{xs:List D},(∀x∈xs,∃y,md y=x/\hJ m c y)->∃L:List Ml,xs=L.map md/\∀y∈L,hJ m c y
 |[],_=>⟨[],rfl,0x4⟩
 |x::r,h=>by
  obtain ⟨L,e,hL⟩:=yO (xs:=r) fun z hz=>h z (IE _ hz)
  obtain ⟨y,e1,hy⟩:=h x IF
  refine ⟨y::L,by rw [List.map_cons,e1,<-e],fun z hz=>?_⟩
  rcases List.mem_cons.mp hz with q|q
  ·rw [q]; exact hy
  ·exact hL z q
theorem oF {m c:Nat} {L:List Ml} {y:Ml} (hL:∀z∈L,hJ m c z) (hy:hJ m c y) (hl:L.length<=100) {x:DV} (hx:ju x=some (L.map md)) (h0:∀z,uy x (.new z)=none):∃L':List Ml,(∀z∈L',hJ m c z)/\L'.length=L.length+1/\∀(fa fb:DS->M DV) (δ:DS),fa δ=rt x->fb δ=rt (.d (md y))->aG fy (aa (e2 aA fa (bO (aa fb ai))) ai) δ=rt (.new (L'.map md)):=by
 have hall:∀z∈L.map md++[md y],∃w,md w=z/\hJ m c w:=fun z hz=>by
  rcases List.mem_append.mp hz with h|h
  ·obtain ⟨w,hw,rfl⟩:=List.mem_map.mp h
   exact ⟨w,rfl,hL w hw⟩
  ·rw [List.mem_singleton.mp h]; exact ⟨y,rfl,hy⟩
 have hp:=cj (L.map md++[md y])
 obtain ⟨L',e,h'⟩:=yO (m:=m) (c:=c) (xs:=iJ (L.map md++[md y])) fun z hz=>hall z (hp.mem_iff.mp hz)
 have hlen:L'.length=L.length+1:=by
  have:=hp.length_eq
  rw [e] at this
  simpa using this
 refine ⟨L',h',hlen,fun fa fb δ h1 h2=>?_⟩
 refine (bS (br ((ak (x:=x) (y:=.new [md y]) h1 ?_).trans (Ah (xs:=L.map md) (ys:=[md y]) (h0 _) hx rfl (by simp; lia))))).trans ?_
 ·exact l5 (br h2) rfl 0x4
 ·unfold fy
  simp only [ju,bg,aK]
  rw [if_pos (jQ (fun z hz=>by
   obtain ⟨w,rfl,_⟩:=hall z hz
   exact qC w) (by simp; lia)),e]
noncomputable def bδ (K:IU) (ns:List Int) (m c:Nat) (hand:List Tl) (j:Int) (ys:List D) (x7 x8 x9:Option DV):DS:=[some (.scr K ns),some (.d (.int 10)),some (.d (.int (m:Int))),some (.d (.int (c:Int))),some (.d (.list (hand.map pr))),some (.d (.int j)),some (.own ys),x7,x8,x9]
theorem C9 {m c:Nat} {hand:List Tl} (HQ:wo hand) {L:List Ml} (LO:LayOk m c L) (j:Int) {fa fb fj:DS->M DV} {x:DV} {δ:DS} (h1:fa δ=rt (.d (.list (hand.map pr)))) (h2:fb δ=rt x) (hx:yA x=some (.d (.list (L.map md)))) (h3:fj δ=rt (.d (.int j))):∃b,(fun δ=>bd (e2 gz (e2 bJ (aG (aw 2 (bL)) (aa fa (aa fb ai))) (eC (.int 1))) fj δ) bw) δ=rt b:=by
 obtain ⟨ks,_,e⟩:=zu HQ LO
 refine ⟨decide (nR hand (aH L) ks<=j),aX ((ak (x:=.d (.int (nR hand (aH L) ks))) (y:=.d (.int j)) ((ak (x:=.d (.tuple [.int (jB hand (aH L) ks),.int (nR hand (aH L) ks),.list ((dE hand (aH L) ks).map pr)])) (y:=.d (.int 1)) (aZ (cp h1 h2) ?_ rfl e) rfl).trans (aU rfl)) h3).trans (i7 _ _))⟩
 show (match yA (.d (.list (hand.map pr))),args [x] with|some a,some r=>some (a::r)|_,_=>none)=_
 show (match some (DV.d (.list (hand.map pr))),(match yA x,args [] with|some a,some r=>some (a::r)|_,_=>none) with|some a,some r=>some (a::r)|_,_=>none)=_
 rw [hx]
 rfl
theorem zB {K:IU} {ns:List Int} {m c:Nat} (hm:m<=13) (h1:1<=c) (h4:c<=4) {hand:List Tl} (HQ:wo hand) (j:Int):∃(L:List Ml) (x:DV),dv K [.scr K ns,.d (.int 10),.d (.int (m:Int)),.d (.int (c:Int)),.d (.list (hand.map pr)),.d (.int j)]=rt x/\(x=.new (L.map md)\/x=.d (.list (L.map md)))/\(∀y∈L,hJ m c y)/\L.length<=4:=by
 have hkl:(aE m c).length<=10000:=by
  unfold aE
  rw [List.length_append]
  have:=mB (B4 c) m
  have:=pS m c hm
  lia
 obtain ⟨ys,ey,hys,hyl⟩:=sP (gc:=(fun δ=>bd (e2 gz (e2 bJ (aG (aw 2 (bL)) (aa (af 2) (aa (bO (aa (af 0) ai)) ai))) (eC (.int 1))) (af 1) δ) bw)) (δ:=[none,some (.d (.int j)),some (.d (.list (hand.map pr)))]) (xs:=aE m c) (fun x hx=>by
  obtain ⟨y,rfl,hy⟩:=nU hm h1 h4 hx
  exact C9 HQ (L:=[y]) ⟨fun z hz=>by rw [List.mem_singleton.mp hz]; exact hy,0x4⟩ j rfl (x:=.new [md y]) rfl rfl rfl) fun x=>rfl
 obtain ⟨δ',e,L,x7,x8,x9,hx7,hL,hLl,rfl⟩:=iN (f:=fun (k:Nat)=>PyData.int (k:Int)) (i:=8) (N:=4) (all:=List.range 4) (B:=(dU (fun δ=>bd (e2 ph (aG bK (aa (af 6) ai)) (eC (.int 0)) δ) bw) (bB (aO 9 (aG fy (aa (e2 aA (af 7) (bO (aa (e2 bJ (af 6) (aG (aw 3 (au)) (aa (aG (aw 2 (av K)) (aa (af 0) (aa (e2 aA (af 1) (af 8)) ai))) (aa (af 8) (aa (aG bK (aa (af 6) ai)) ai))))) ai))) ai))) (fun δ=>(dU (fun δ=>bd (e2 gz (e2 bJ (aG (aw 2 (bL)) (aa (af 4) (aa (af 9) ai))) (eC (.int 1))) (af 5) δ) bw) (fun δ=>(aO 7 (af 9)) (frz 9 δ)) bA) (frz 9 δ))) bA)) (fun pre δ=>∃(L:List Ml) (x7:DV) (x8 x9:Option DV),(x7=.own (L.map md)\/x7=.d (.list (L.map md)))/\(∀y∈L,hJ m c y)/\L.length<=pre.length/\δ=bδ K ns m c hand j ys (some x7) x8 x9) (fun pre k δ hk hpre hI=>by
  obtain ⟨L,x7,x8,x9,hx7,hL,hLl,rfl⟩:=hI
  have hlen:aG bK (aa (af 6) ai) (bδ K ns m c hand j ys (some x7) (some (.d (.int (k:Int)))) x9)=rt (.d (.int (ys.length:Int))):=(bS (br (x:=.own ys) rfl)).trans rfl
  have ht:(fun δ=>bd (e2 ph (aG bK (aa (af 6) ai)) (eC (.int 0)) δ) bw) (bδ K ns m c hand j ys (some x7) (some (.d (.int (k:Int)))) x9)=rt (decide ((0:Int)<(ys.length:Int))):=aX ((ak (y:=.d (.int 0)) hlen rfl).trans (gw _ _))
  by_cases hy0:(0:Int)<(ys.length:Int)
  ·rw [decide_eq_true hy0] at ht
   obtain ⟨r,er,r0,r1⟩:=tm (δ:=bδ K ns m c hand j ys (some x7) (some (.d (.int (k:Int)))) x9) (fa:=aG (aw 2 (av K)) (aa (af 0) (aa (e2 aA (af 1) (af 8)) ai))) (fb:=af 8) (fc:=aG bK (aa (af 6) ai)) (cell:=aF ns (10+(k:Int))) (k:=(k:Int)) (many:=(ys.length:Int)) (qg (K:=K) (ns:=ns) rfl ((ak (x:=.d (.int 10)) (y:=.d (.int (k:Int))) rfl rfl).trans (cb _ _)) 0x1) rfl hlen hy0
   obtain ⟨n,rfl⟩:=Int.eq_ofNat_of_zero_le r0
   have hn:n<ys.length:=by lia
   obtain ⟨y,hye,hyM⟩:=nU hm h1 h4 (hys (ys.getD n .none) (by rw [show ys.getD n .none=ys[n] by simp [hn]]; exact List.getElem_mem hn))
   have hget:e2 bJ (af 6) (aG (aw 3 (au)) (aa (aG (aw 2 (av K)) (aa (af 0) (aa (e2 aA (af 1) (af 8)) ai))) (aa (af 8) (aa (aG bK (aa (af 6) ai)) ai)))) (bδ K ns m c hand j ys (some x7) (some (.d (.int (k:Int)))) x9)=rt (.d (md y)):=by
    rw [hye]
    exact (ak (x:=.own ys) rfl er).trans (mS (j7 hn _))
   have hv7:af 7 (bδ K ns m c hand j ys (some x7) (some (.d (.int (k:Int)))) x9)=rt x7:=rfl
   obtain ⟨L',hL',hl',es⟩:=oF hL hyM 0x1 (x:=x7) (by rcases hx7 with z|z <;> rw [z] <;> rfl) (by intro z; rcases hx7 with z'|z' <;> rw [z'] <;> rfl)
   have eset:=es _ _ _ hv7 hget
   have LO':LayOk m c L':=⟨hL',0x1⟩
   obtain ⟨b,hb⟩:=C9 HQ LO' j (fa:=af 4) (fb:=af 9) (fj:=af 5) (δ:=bδ K ns m c hand j ys (some x7) (some (.d (.int (k:Int)))) (some (.d (.list (L'.map md))))) rfl (x:=.d (.list (L'.map md))) rfl rfl rfl
   have hpl:(pre++[k]).length=pre.length+1:=by simp
   cases b with
   |true=>
    refine ⟨bδ K ns m c hand j ys (some (.d (.list (L'.map md)))) (some (.d (.int (k:Int)))) (some (.d (.list (L'.map md)))),xw ht ?_,L',.d (.list (L'.map md)),_,_,.inr rfl,hL',0x1,rfl⟩
    exact eK (δ':=bδ K ns m c hand j ys (some x7) (some (.d (.int (k:Int)))) (some (.own (L'.map md)))) (eQ (x:=.new (L'.map md)) eset rfl rfl) (xw hb rfl)
   |false=>
    refine ⟨bδ K ns m c hand j ys (some x7) (some (.d (.int (k:Int)))) (some (.d (.list (L'.map md)))),xw ht ?_,L,x7,_,_,hx7,hL,0x1,rfl⟩
    exact eK (δ':=bδ K ns m c hand j ys (some x7) (some (.d (.int (k:Int)))) (some (.own (L'.map md)))) (eQ (x:=.new (L'.map md)) eset rfl rfl) (qt hb rfl)
  ·rw [decide_eq_false hy0] at ht
   exact ⟨bδ K ns m c hand j ys (some x7) (some (.d (.int (k:Int)))) x9,qt ht rfl,L,x7,_,_,hx7,hL,by simp; lia,rfl⟩) (List.range 4) [] (bδ K ns m c hand j ys (some (.own [])) none none) (fun a ha=>ha) 0x4 ⟨[],.own [],none,none,.inl rfl,0x4,0x4,rfl⟩
 have hfin:eV K [some (.scr K ns),some (.d (.int 10)),some (.d (.int (m:Int))),some (.d (.int (c:Int))),some (.d (.list (hand.map pr))),some (.d (.int j)),none,none,none,none]=rt (.rt x7):=by
  unfold eV
  refine eK (δ':=[some (.scr K ns),some (.d (.int 10)),some (.d (.int (m:Int))),some (.d (.int (c:Int))),some (.d (.list (hand.map pr))),some (.d (.int j)),some (.own ys),none,none,none]) (eQ (x:=.new ys) (bT (xs:=aE m c) (zX (aZ (n:=2) (cp (x:=.d (.int (m:Int))) (y:=.d (.int (c:Int))) rfl rfl) rfl rfl (mh m c hm h1 h4))) 0x1 ey) rfl rfl) ?_
  refine eK (δ':=bδ K ns m c hand j ys (some (.own [])) none none) rfl ?_
  refine eK (δ':=bδ K ns m c hand j ys (some x7) x8 x9) (lD (xs:=(List.range 4).map fun (k:Nat)=>PyData.int (k:Int)) ((j6 (j:=4) (br rfl) 0x3 0x3).trans (by rw [HE]; rfl)) e) (bz rfl)
 refine ⟨L,res x7,dJ (x:=x7) hfin,?_,hL,by simpa using hLl⟩
 rcases hx7 with z|z
 ·rw [z]; exact .inl rfl
 ·rw [z]; exact .inr rfl
theorem G7 {xs:List D} (h:1<=xs.length):ua xs (some 1) none=xs.drop 1/\ua xs none (some 1)=xs.take 1:=by
 unfold ua HT.sIx
 constructor
 ·simp
  rw [show min 1 xs.length=1 by lia,List.drop_one]
  exact List.take_of_length_le (by rw [List.length_tail]; exact IJ _)
 ·simp
noncomputable def hδ (ks xs:List D) (cell:Int) (x3 x4:Option DV):DS:=[some (.d (.list ks)),some (.d (.list xs)),some (.d (.int cell)),x3,x4]
theorem Fh {m c:Nat} (hm:m<=13) (h1:1<=c) (h4:c<=4) {L:List Ml} (hL:∀y∈L,hJ m c y) (hl:L.length<=4) (cell:Int):∃(L':List Ml) (x:DV),dR [.d (.list (aE m c)),.d (.list (L.map md)),.d (.int cell)]=rt x/\(x=.new (L'.map md)\/x=.d (.list (L'.map md)))/\LayOk m c L':=by
 have lenK:∀x3 x4,aG bK (aa (af 0) ai) (hδ (aE m c) (L.map md) cell x3 x4)=rt (.d (.int ((aE m c).length:Int))):=fun _ _=>(bS (br (x:=.d (.list (aE m c))) rfl)).trans rfl
 have lenL:∀x3 x4,aG bK (aa (af 1) ai) (hδ (aE m c) (L.map md) cell x3 x4)=rt (.d (.int ((L.map md).length:Int))):=fun _ _=>(bS (br (x:=.d (.list (L.map md))) rfl)).trans rfl
 have wayE:∀(k:Int) x4,(fun δ=>bd (e2 (fg false) (af 3) (eC (.int k)) δ) bw) (hδ (aE m c) (L.map md) cell (some (.d (.int (cell % 4)))) x4)=rt (cell % 4==k):=fun k x4=>aX ((ak (x:=.d (.int (cell % 4))) (y:=.d (.int k)) rfl rfl).trans (jq _ _))
 have ht1:(jA (fun δ=>bd (e2 (fg false) (af 3) (eC (.int 0)) δ) bw) (fun δ=>bd (e2 ph (aG bK (aa (af 0) ai)) (eC (.int 0)) δ) bw)) (hδ (aE m c) (L.map md) cell (some (.d (.int (cell % 4)))) none)=rt ((cell % 4==0)&&decide ((0:Int)<((aE m c).length:Int))):=u5 (wayE 0 none) (aX ((ak (y:=.d (.int 0)) (lenK _ _) rfl).trans (gw _ _)))
 have ht2:(jA (fun δ=>bd (e2 (fg false) (af 3) (eC (.int 1)) δ) bw) (fun δ=>bd (e2 ph (aG bK (aa (af 1) ai)) (eC (.int 1)) δ) bw)) (hδ (aE m c) (L.map md) cell (some (.d (.int (cell % 4)))) none)=rt ((cell % 4==1)&&decide ((1:Int)<((L.map md).length:Int))):=u5 (wayE 1 none) (aX ((ak (y:=.d (.int 1)) (lenL _ _) rfl).trans (gw _ _)))
 have hdiv:∀x3 x4,e2 lO (af 2) (eC (.int 4)) (hδ (aE m c) (L.map md) cell x3 x4)=rt (.d (.int (cell / 4))):=fun x3 x4=>(ak (x:=.d (.int cell)) (y:=.d (.int 4)) rfl rfl).trans (iR 0x3 0x3)
 have fin:∀x,(bB (dU (jA (fun δ=>bd (e2 (fg false) (af 3) (eC (.int 0)) δ) bw) (fun δ=>bd (e2 ph (aG bK (aa (af 0) ai)) (eC (.int 0)) δ) bw)) (bp (aG fy (aa (e2 aA (af 1) (bO (aa (e2 bJ (af 0) (e2 fM (e2 lO (af 2) (eC (.int 4))) (aG bK (aa (af 0) ai)))) ai))) ai))) bA) (bB (dU (jA (fun δ=>bd (e2 (fg false) (af 3) (eC (.int 1)) δ) bw) (fun δ=>bd (e2 ph (aG bK (aa (af 1) ai)) (eC (.int 1)) δ) bw)) (bp (e2 aA (wQ (af 1) (eC (.int 1))) (vG (af 1) (eC (.int 1))))) bA) (bB (aO 4 (e2 bJ (bO (aa (bq (aa (eC (.str "run")) (aa (eC (.int 0)) (aa (eC (.int 1)) (aa (eC (.int 2)) ai))))) (aa (bq (aa (eC (.str "group")) (aa (eC (.int 0)) (aa (bq (aa (eC (.int 0)) (aa (eC (.int 1)) (aa (eC (.int 2)) ai)))) ai)))) (aa (bq (aa (eC (.str "run")) (aa (eC (.int 0)) (aa (eC (.int 0)) (aa (eC (.int 3)) ai))))) (aa (bq (aa (eC (.str "group")) (aa (eC (.int 1)) (aa (bq (aa (eC (.int 1)) (aa (eC (.int 0)) (aa (eC (.int 2)) ai)))) ai)))) ai))))) (e2 fM (e2 lO (af 2) (eC (.int 4))) (eC (.int 4))))) (bB (dU (fun δ=>bd (e2 (fg false) (af 3) (eC (.int 2)) δ) bw) (bp (aG fy (aa (e2 aA (af 1) (bO (aa (af 4) ai))) ai))) bA) (bp (af 1)))))) (hδ (aE m c) (L.map md) cell (some (.d (.int (cell % 4)))) none)=rt (.rt x)->dR [.d (.list (aE m c)),.d (.list (L.map md)),.d (.int cell)]=rt (res x):=fun x hx=>by
  unfold dR
  refine dJ (x:=x) ?_
  unfold mw
  exact eK (δ':=hδ (aE m c) (L.map md) cell (some (.d (.int (cell % 4)))) none) (eQ (x:=.d (.int (cell % 4))) ((ak (x:=.d (.int cell)) (y:=.d (.int 4)) rfl rfl).trans (cF 0x3)) rfl rfl) hx
 cases hb1:(cell % 4==0)&&decide ((0:Int)<((aE m c).length:Int)) with
 |true=>
  rw [hb1] at ht1
  have hk:(0:Int)<((aE m c).length:Int):=by
   rw [Bool.and_eq_true] at hb1
   exact of_decide_eq_true hb1.2
  have r0:=Int.emod_nonneg (cell / 4) (show ((aE m c).length:Int)≠0 by lia)
  have r1:=Int.emod_lt_of_pos (cell / 4) hk
  obtain ⟨n,hn⟩:=Int.eq_ofNat_of_zero_le r0
  have hnl:n<(aE m c).length:=by lia
  obtain ⟨y,hye,hyM⟩:=nU hm h1 h4 (show (aE m c).getD n .none∈aE m c by rw [show (aE m c).getD n .none=(aE m c)[n] by simp [hnl]]; exact List.getElem_mem hnl)
  obtain ⟨L',hL',hl',es⟩:=oF hL hyM 0x1 (x:=.d (.list (L.map md))) rfl (fun _=>rfl)
  refine ⟨L',_,fin _ (ja (xw ht1 (bz (es _ _ _ rfl ?_)))),.inl rfl,⟨hL',0x1⟩⟩
  rw [hye]
  refine (ak (x:=.d (.list (aE m c))) (y:=.d (.int (n:Int))) rfl ((ak (x:=.d (.int (cell / 4))) (y:=.d (.int ((aE m c).length:Int))) (hdiv _ _) (lenK _ _)).trans (by rw [cF hk,hn]))).trans (kx (j7 hnl _))
 |false=>
  rw [hb1] at ht1
  cases hb2:(cell % 4==1)&&decide ((1:Int)<((L.map md).length:Int)) with
  |true=>
   rw [hb2] at ht2
   have hk:(1:Int)<((L.map md).length:Int):=by
    rw [Bool.and_eq_true] at hb2
    exact of_decide_eq_true hb2.2
   obtain ⟨c1,c2⟩:=G7 (xs:=L.map md) 0x1
   have hll:(L.map md).length=L.length:=List.length_map ..
   have ec:e2 aA (wQ (af 1) (eC (.int 1))) (vG (af 1) (eC (.int 1))) (hδ (aE m c) (L.map md) cell (some (.d (.int (cell % 4)))) none)=rt (.new ((L.drop 1++L.take 1).map md)):=by
    refine (ak (x:=.new ((L.map md).drop 1)) (y:=.new ((L.map md).take 1)) ?_ ?_).trans ?_
    ·show rt (DV.new (ua (L.map md) (some 1) none))=_
     rw [c1]
    ·show rt (DV.new (ua (L.map md) none (some 1)))=_
     rw [c2]
    ·rw [Ah (xs:=(L.map md).drop 1) (ys:=(L.map md).take 1) rfl rfl rfl (by simp; lia),List.map_append,List.map_drop,List.map_take]
   refine ⟨L.drop 1++L.take 1,_,fin _ (eK (qt ht1 rfl) (ja (xw ht2 (bz ec)))),.inl rfl,⟨fun y hy=>?_,by simp; lia⟩⟩
   rcases List.mem_append.mp hy with h|h
   ·exact hL y (List.mem_of_mem_drop h)
   ·exact hL y (List.mem_of_mem_take h)
  |false=>
   rw [hb2] at ht2
   have r0:=Int.emod_nonneg (cell / 4) (show (4:Int)≠0 by decide)
   have r1:=Int.emod_lt_of_pos (cell / 4) (show (0:Int)<4 by decide)
   obtain ⟨n,hn⟩:=Int.eq_ofNat_of_zero_le r0
   have hnl:n<pG.length:=by have:pG.length=4:=rfl; lia
   have hyM:hJ m c (pG.getD n (.r 0 1 2)):=EC h1 h4 _ (by rw [show pG.getD n (.r 0 1 2)=pG[n] by simp [hnl]]; exact List.getElem_mem hnl)
   generalize hyb:pG.getD n (.r 0 1 2)=y at hyM
   have hget:∀fl:DS->M DV,fl (hδ (aE m c) (L.map md) cell (some (.d (.int (cell % 4)))) none)=rt (.new (pG.map md))->e2 bJ fl (e2 fM (e2 lO (af 2) (eC (.int 4))) (eC (.int 4))) (hδ (aE m c) (L.map md) cell (some (.d (.int (cell % 4)))) none)=rt (.d (md y)):=fun fl hfl=>by
    rw [<-hyb]
    exact (ak (x:=.new (pG.map md)) (y:=.d (.int (n:Int))) hfl ((ak (x:=.d (.int (cell / 4))) (y:=.d (.int 4)) (hdiv _ _) rfl).trans (by rw [cF 0x3,hn]))).trans (kW (AA hnl _))
   cases hb3:(cell % 4==2) with
   |true=>
    have ht3:=wayE 2 (some (.d (md y)))
    rw [hb3] at ht3
    obtain ⟨L',hL',hl',es⟩:=oF hL hyM 0x1 (x:=.d (.list (L.map md))) rfl (fun _=>rfl)
    refine ⟨L',_,fin _ (eK (qt ht1 rfl) (eK (qt ht2 rfl) (eK (δ':=hδ (aE m c) (L.map md) cell (some (.d (.int (cell % 4)))) (some (.d (md y)))) (eQ (x:=.d (md y)) (hget _ rfl) rfl rfl) (ja (xw ht3 (bz (es _ _ _ rfl rfl))))))),.inl rfl,⟨hL',0x1⟩⟩
   |false=>
    have ht3:=wayE 2 (some (.d (md y)))
    rw [hb3] at ht3
    refine ⟨L,_,fin _ (eK (qt ht1 rfl) (eK (qt ht2 rfl) (eK (δ':=hδ (aE m c) (L.map md) cell (some (.d (.int (cell % 4)))) (some (.d (md y)))) (eQ (x:=.d (md y)) (hget _ rfl) rfl rfl) (eK (qt ht3 rfl) (bz rfl))))),.inr rfl,⟨hL,0x1⟩⟩
section
variable (K:IU) (ns:List Int) (C:Addr) (m c:Nat) (hand:List Tl) (j:Int)
noncomputable def qδ (z4:DV) (j:Int) (z6:DV) (x7 x8 x9 x10 x11 x12 x13 x14 x15:Option DV):DS:=[some (.scr K ns),some (.d (.int (m:Int))),some (.d (.int (c:Int))),some (hs C m c),some z4,some (.d (.int j)),some z6,x7,x8,x9,x10,x11,x12,x13,x14,x15]
end
noncomputable def LV (L:List Ml) (z:DV):Prop:=z=.own (L.map md)\/z=.d (.list (L.map md))
noncomputable def KV (m c:Nat) (z:DV):Prop:=z=.own (aE m c)\/z=.d (.list (aE m c))
theorem jg (L:List Ml):∀x∈L.map md,lA x:=fun x hx=>by
 obtain ⟨y,_,rfl⟩:=List.mem_map.mp hx
 exact qC y
theorem Dn {m c:Nat} {y:Ml} (hy:hJ m c y) {z:DV} (hz:KV m c z):yf false (.d (md y)) z=rt (.d (.bool (kP m c y))):=by
 have hd:(md y).depth<=60:=by have:=uZ (qC y); lia
 have hk:=hy.known
 unfold yf
 rcases hz with rfl|rfl
 ·show (if (md y).depth<=60 then rt (DV.d (.bool ((aE m c).any fun z=>PyData.eqv z (md y)))) else none)=_
  rw [if_pos hd,hk]
 ·show (if (md y).depth<=60 then rt (DV.d (.bool ((aE m c).any fun z=>PyData.eqv z (md y)))) else none)=_
  rw [if_pos hd,hk]
theorem B9 (hand:List Tl) (L:List Ml):PyData.eqv (.list [.list (hand.map pr),.list (L.map md)]) (.list [.list (hand.map pr),.list (L.map md)])=true/\(PyData.list [.list (hand.map pr),.list (L.map md)]).depth<=60:=by
 have h1:=lz hand
 have h2:=Dc (jg L)
 constructor
 ·show PyData.eqvAll [.list (hand.map pr),.list (L.map md)] [.list (hand.map pr),.list (L.map md)]=true
  rw [PyData.eqvAll,PyData.eqvAll,PyData.eqvAll]
  show (PyData.eqvAll (hand.map pr) (hand.map pr)&&(PyData.eqvAll (L.map md) (L.map md)&&true))=true
  rw [qW,(mV (jg L) (jg L)).mpr rfl]
  simp
 ·rw [PyData.depth,PyData.depthAll,PyData.depthAll,PyData.depthAll,PyData.depth,PyData.depth] <;> first|lia|(intros; contradiction)
theorem qX (neg:Bool) (hand:List Tl) (L:List Ml):fg neg (.own [.list (hand.map pr),.list (L.map md)]) (.new [.list (hand.map pr),.list (L.map md)])=rt (.d (.bool (!neg))):=by
 obtain ⟨h1,h2⟩:=B9 hand L
 show (if (PyData.list [.list (hand.map pr),.list (L.map md)]).depth<=60 then rt (DV.d (.bool (if neg=true then !PyData.eqv (.list [.list (hand.map pr),.list (L.map md)]) (.list [.list (hand.map pr),.list (L.map md)]) else PyData.eqv (.list [.list (hand.map pr),.list (L.map md)]) (.list [.list (hand.map pr),.list (L.map md)])))) else none)=_
 rw [if_pos h2,h1]
 cases neg <;> rfl
theorem B5 (L:List Ml):fg false (.d (.list (L.map md))) (.new (iJ (L.map md)))=rt (.d (.bool (kN (L.map md)))):=by
 have h2:=Dc (jg L)
 show (if (PyData.list (L.map md)).depth<=60 then rt (DV.d (.bool (PyData.eqv (.list (L.map md)) (.list (iJ (L.map md)))))) else none)=_
 rw [if_pos (by rw [PyData.depth]; lia)]
 show rt (DV.d (.bool (PyData.eqvAll (L.map md) (iJ (L.map md)))))=_
 rw [xl (jg L)]
theorem uX (K:IU) (ns:List Int) {m c:Nat} (hm:1<=m) (hm':m<=13) (hc:1<=c) (hc':c<=4):∃qs:List Tl,cB K [.scr K ns,.d (.int 2),.d (.int (m:Int)),.d (.int (c:Int)),.d (.int 9)]=rt (.new (qs.map pr))/\wo qs/\∀j:Int,0<=j->j<=2->ik m c qs j=true:=by
 obtain ⟨qs,e,hl,ht,hcn,ho⟩:=u4 K ns m c 2 9 0x3 0x3 0x3 0x1 0x1 0x1 0x1
 refine ⟨qs,e,⟨0x1,ho,fun p hp=>?_⟩,fun j h0 h2=>?_⟩
 ·have:=ht p hp
  unfold bx at this
  simp at this
  lia
 ·unfold ik GS
  rw [decide_eq_true (show qs.length<=12 by lia),ho,decide_eq_true h0,decide_eq_true h2]
  simp
  intro a b hab
  unfold tok
  rw [ht _ hab,decide_eq_true (hcn _)]
  rfl
theorem IB {fa fb fc fd fe ff:DS->M DV} {δ:DS} {x y z u v w:DV} (h1:fa δ=rt x) (h2:fb δ=rt y) (h3:fc δ=rt z) (h4:fd δ=rt u) (h5:fe δ=rt v) (h6:ff δ=rt w):aa fa (aa fb (aa fc (aa fd (aa fe (aa ff ai))))) δ=rt [x,y,z,u,v,w]:=by
 have:=Fx h2 h3 h4 h5 h6
 unfold aa at this ⊢
 rw [h1,aK,this]; rfl
noncomputable abbrev HL (hand:List Tl) (L:List Ml):List D:=[.list (hand.map pr),.list (L.map md)]
noncomputable def rδ (K:IU) (ns:List Int) (C:Addr) (m c:Nat) (hand:List Tl) (L:List Ml) (j:Int) (z8:DV) (tv jv:Int) (rv:List Tl) (x12 x13 x14 x15:Option DV):DS:=qδ K ns C m c (.d (.list (hand.map pr))) j (.d (.list (L.map md))) (some (.d (.int (aF ns 20)))) (some z8) (some (.d (.int tv))) (some (.d (.int jv))) (some (.d (.list (rv.map pr)))) x12 x13 x14 x15
theorem yc {m c:Nat} {L:List Ml} (hL:∀y∈L,hJ m c y) (hl:L.length<=1000) {z8:DV} (hz:KV m c z8) {δ:DS} {fi:DS->M (List D)} (hi:fi δ=rt (L.map md)) (hs8:cG 1 [8] δ=[none,some z8]):aG mJ (aa (bE 1 [8] fi (ax 0) cU (e2 (yf false) (af 0) (af 1))) ai) δ=rt (.d (.bool (L.all (kP m c)))):=by
 refine (bS (br (bT (xs:=L.map md) (ys:=(L.map (kP m c)).map PyData.bool) hi (by rw [List.length_map]; lia) ?_))).trans ?_
 ·rw [List.map_map]
  refine dw (g:=fun y=>PyData.bool (kP m c y)) fun y hy=>?_
  rw [hs8]
  exact (ak (x:=.d (md y)) (y:=z8) rfl rfl).trans (Dn (hL y hy) hz)
 ·rw [je,List.all_map]
  rfl
theorem DY (K:IU) (C IP IQ IS:Addr) (ns:List Int) (_:ns.length<=63):pZ K C IP IQ IS [.scr K ns]=rt (.d (.bool true)):=by
 obtain ⟨m',c',eh,g1,g2,g3,g4⟩:=CO K ns
 obtain ⟨m,rfl⟩:=Int.eq_ofNat_of_zero_le (show 0<=m' by lia)
 obtain ⟨c,rfl⟩:=Int.eq_ofNat_of_zero_le (show 0<=c' by lia)
 have hm:m<=13:=by lia
 have hc:c<=4:=by lia
 have hc1:1<=c:=by lia
 obtain ⟨hand,eh0,HQ,hhk⟩:=uX K ns (m:=m) (c:=c) 0x1 hm hc1 hc
 obtain ⟨j0,ej,j00,j02⟩:=FE K ns hand
 obtain ⟨L0,x6,el,hx6,hL0,hl0⟩:=zB (K:=K) (ns:=ns) hm hc1 hc HQ j0
 unfold pZ
 refine dJ (x:=.d (.bool true)) ?_
 unfold C8
 refine eK (δ':=[some (.scr K ns),some (.d (.int (m:Int))),some (.d (.int (c:Int))),none,none,none,none,none,none,none,none,none,none,none,none,none]) (Ar (x:=.d (.tuple [.int (m:Int),.int (c:Int)])) (aZ (br rfl) rfl rfl eh) rfl rfl) ?_
 refine eK (δ':=[some (.scr K ns),some (.d (.int (m:Int))),some (.d (.int (c:Int))),some (hs C m c),none,none,none,none,none,none,none,none,none,none,none,none]) (eQ (Im (m:=(m:Int)) (c:=(c:Int)) rfl rfl g1 g2 g3 g4) rfl rfl) ?_
 refine eK (δ':=[some (.scr K ns),some (.d (.int (m:Int))),some (.d (.int (c:Int))),some (hs C m c),some (.own (hand.map pr)),none,none,none,none,none,none,none,none,none,none,none]) (eQ (x:=.new (hand.map pr)) (aZ (Fx (x:=.scr K ns) (y:=.d (.int 2)) (z:=.d (.int (m:Int))) (u:=.d (.int (c:Int))) (v:=.d (.int 9)) rfl rfl rfl rfl rfl) rfl rfl eh0) rfl rfl) ?_
 change bB _ _ [some (.scr K ns),some (.d (.int (m:Int))),some (.d (.int (c:Int))),some (hs C m c),some (.d (.list (hand.map pr))),none,none,none,none,none,none,none,none,none,none,none]=_
 refine eK (δ':=[some (.scr K ns),some (.d (.int (m:Int))),some (.d (.int (c:Int))),some (hs C m c),some (.d (.list (hand.map pr))),some (.d (.int j0)),none,none,none,none,none,none,none,none,none,none]) (eQ (x:=.d (.int j0)) (aZ (cp (x:=.scr K ns) (y:=.d (.list (hand.map pr))) rfl rfl) rfl rfl ej) rfl rfl) ?_
 change bB _ _ [some (.scr K ns),some (.d (.int (m:Int))),some (.d (.int (c:Int))),some (hs C m c),some (.d (.list (hand.map pr))),some (.d (.int j0)),none,none,none,none,none,none,none,none,none,none]=_
 obtain ⟨z6,hz6,hz6a⟩:∃z6,nN x6=some z6/\LV L0 z6:=by
  rcases hx6 with z|z
  ·rw [z]; exact ⟨_,rfl,.inl rfl⟩
  ·rw [z]; exact ⟨_,rfl,.inr rfl⟩
 refine eK (δ':=qδ K ns C m c (.d (.list (hand.map pr))) j0 z6 none none none none none none none none none) (eQ (x:=x6) (aZ (IB (x:=.scr K ns) (y:=.d (.int 10)) (z:=.d (.int (m:Int))) (u:=.d (.int (c:Int))) (v:=.d (.list (hand.map pr))) (w:=.d (.int j0)) rfl rfl rfl rfl rfl rfl) rfl rfl el) hz6 rfl) ?_
 refine eK (δ':=qδ K ns C m c (.d (.list (hand.map pr))) j0 z6 (some (.d (.int (aF ns 20)))) none none none none none none none none) (eQ (x:=.d (.int (aF ns 20))) (qg (K:=K) (ns:=ns) rfl rfl 0x3) rfl rfl) ?_
 refine eK (δ':=qδ K ns C m c (.d (.list (hand.map pr))) j0 z6 (some (.d (.int (aF ns 20)))) (some (.own (aE m c))) none none none none none none none) (eQ (x:=.new (aE m c)) (aZ (n:=2) (cp (x:=.d (.int (m:Int))) (y:=.d (.int (c:Int))) rfl rfl) rfl rfl (mh m c hm hc1 hc)) rfl rfl) ?_
 refine He (Q:=fun δ=>∃(L:List Ml) (j:Int) (z6 z8:DV),LayOk m c L/\0<=j/\j<=2/\LV L z6/\KV m c z8/\δ=qδ K ns C m c (.d (.list (hand.map pr))) j z6 (some (.d (.int (aF ns 20)))) (some z8) none none none none none none none) (HC (b:=aF ns 20 % 2==1) ?_ (fun _=>?_) fun _=>FD ⟨L0,j0,z6,.own (aE m c),⟨hL0,0x1⟩,j00,j02,hz6a,.inl rfl,rfl⟩) fun δ hδ=>?_
 ·exact aX ((ak (x:=.d (.int (aF ns 20 % 2))) (y:=.d (.int 1)) ((ak (x:=.d (.int (aF ns 20))) (y:=.d (.int 2)) rfl rfl).trans (cF 0x3)) rfl).trans (jq _ _))
 ·obtain ⟨L1,x1,e1,hx1,LO1⟩:=Fh hm hc1 hc hL0 hl0 (aF ns 20 / 2)
  have hfz:frz 8 (frz 6 (qδ K ns C m c (.d (.list (hand.map pr))) j0 z6 (some (.d (.int (aF ns 20)))) (some (.own (aE m c))) none none none none none none none))=qδ K ns C m c (.d (.list (hand.map pr))) j0 (.d (.list (L0.map md))) (some (.d (.int (aF ns 20)))) (some (.d (.list (aE m c)))) none none none none none none none:=by
   rcases hz6a with z|z <;> rw [z] <;> rfl
  show Nx (fun δ=>_) _ _
  unfold Nx
  show ∃δ',bB _ _ (frz 8 (frz 6 _))=_/\_
  rw [hfz]
  obtain ⟨z1,hz1,hz1a⟩:∃z1,nN x1=some z1/\LV L1 z1:=by
   rcases hx1 with z|z
   ·rw [z]; exact ⟨_,rfl,.inl rfl⟩
   ·rw [z]; exact ⟨_,rfl,.inr rfl⟩
  have r0:=Int.emod_nonneg (aF ns 20 / 64) (show (2:Int)≠0 by decide)
  have r1:=Int.emod_lt_of_pos (aF ns 20 / 64) (show (0:Int)<2 by decide)
  refine G8 (CU (x:=x1) (y:=z1) (aZ (jE (x:=.d (.list (aE m c))) (y:=.d (.list (L0.map md))) (z:=.d (.int (aF ns 20 / 2))) rfl rfl ((ak (x:=.d (.int (aF ns 20))) (y:=.d (.int 2)) rfl rfl).trans (iR 0x3 0x3))) rfl rfl e1) hz1 (CU (x:=.d (.int (if j0-aF ns 20 / 64 % 2>0 then j0-aF ns 20 / 64 % 2 else 0))) ((bS (cp (x:=.d (.int 0)) (y:=.d (.int (j0-aF ns 20 / 64 % 2))) rfl ((ak (x:=.d (.int j0)) (y:=.d (.int (aF ns 20 / 64 % 2))) rfl ((ak (x:=.d (.int (aF ns 20 / 64))) (y:=.d (.int 2)) ((ak (x:=.d (.int (aF ns 20))) (y:=.d (.int 64)) rfl rfl).trans (iR 0x3 0x3)) rfl).trans (cF 0x3))).trans (b9 _ _)))).trans rfl) rfl ⟨L1,_,z1,.d (.list (aE m c)),LO1,?_,?_,hz1a,.inr rfl,rfl⟩))
  ·split <;> lia
  ·split <;> lia
 obtain ⟨L,j,z6,z8,LO,hj0,hj2,hz6,hz8,rfl⟩:=hδ
 have hh:=hhk j hj0 hj2
 have hhl:hand.length<=1000:=by have:=HQ.1; lia
 have hfz:∀x9 x10 x11 x12 x13 x14 x15,frz 4 (frz 6 (qδ K ns C m c (.d (.list (hand.map pr))) j z6 (some (.d (.int (aF ns 20)))) (some z8) x9 x10 x11 x12 x13 x14 x15))=qδ K ns C m c (.d (.list (hand.map pr))) j (.d (.list (L.map md))) (some (.d (.int (aF ns 20)))) (some z8) x9 x10 x11 x12 x13 x14 x15:=by
  intros
  rcases hz6 with z|z <;> rw [z] <;> rfl
 show bB _ _ (frz 4 (frz 6 _))=_
 rw [hfz]
 obtain ⟨ks,KO,elaid⟩:=zu HQ LO
 have hrest:=Cy KO HQ.2.1
 have hjk:=FU KO
 have htot:=EZ KO
 have hgood:(L.all (kP m c)&&(kN (L.map md)&&decide (nR hand (aH L) ks<=j)))=eO m c hand j L:=by
  have h1:eG hand j L=j-nR hand (aH L) ks:=by unfold eG; rw [hjk]
  have h2:decide (nR hand (aH L) ks<=j)=decide (0<=eG hand j L):=by rw [h1]; exact decide_eq_decide.mpr 0x1
  unfold eO
  rw [h2,Bool.and_assoc]
 have hm0:=Ex C IP IS hh hhl LO
 have hm1:=Fd C IP IS hh hhl LO
 have hjl:eG hand j L=j-nR hand (aH L) ks:=by unfold eG; rw [hjk]
 generalize htv:jB hand (aH L) ks=tv at *
 generalize hjv:nR hand (aH L) ks=jv at *
 rw [<-hrest] at elaid
 generalize hrv:bI hand (aH L)=rv at *
 refine eK (δ':=rδ K ns C m c hand L j z8 tv jv rv none none none none) (Ar (x:=.d (.tuple [.int tv,.int jv,.list (rv.map pr)])) (aZ (n:=2) (cp (x:=.d (.list (hand.map pr))) (y:=.d (.list (L.map md))) rfl rfl) rfl rfl elaid) rfl rfl) ?_
 change bB _ _ (rδ K ns C m c hand L j z8 tv jv rv none none none none)=_
 refine eK (δ':=rδ K ns C m c hand L j z8 tv jv rv (some (.d (.bool (eO m c hand j L)))) none none none) (eQ (x:=.d (.bool (eO m c hand j L))) ?_ rfl rfl) ?_
 ·rw [<-hgood]
  refine sU (yc LO.ok (by have:=LO.len; lia) hz8 (ic rfl) rfl) (sU ((ak (x:=.d (.list (L.map md))) (y:=.new (iJ (L.map md))) rfl ((bS (br (x:=.d (.list (L.map md))) rfl)).trans ?_)).trans (B5 L)) ((ak (x:=.d (.int jv)) (y:=.d (.int j)) rfl rfl).trans (i7 _ _)))
  unfold fy
  simp only [ju,bg,aK]
  rw [if_pos (jQ (jg L) (by rw [List.length_map]; have:=LO.len; lia))]
 refine eK (δ':=rδ K ns C m c hand L j z8 tv jv rv (some (.d (.bool (eO m c hand j L)))) (some (.own (HL hand L))) none none) (eQ (x:=.new (HL hand L)) (l5 (cp (x:=.new (hand.map pr)) (y:=.new (L.map md)) rfl rfl) rfl 0x4) rfl rfl) ?_
 have ix0:∀x14 x15,e2 bJ (af 13) (eC (.int 0)) (rδ K ns C m c hand L j z8 tv jv rv (some (.d (.bool (eO m c hand j L)))) (some (.own (HL hand L))) x14 x15)=rt (.d (.list (hand.map pr))):=fun _ _=>(ak (x:=.own (HL hand L)) (y:=.d (.int 0)) rfl rfl).trans (mS rfl)
 have ix1:∀x14 x15,e2 bJ (af 13) (eC (.int 1)) (rδ K ns C m c hand L j z8 tv jv rv (some (.d (.bool (eO m c hand j L)))) (some (.own (HL hand L))) x14 x15)=rt (.d (.list (L.map md))):=fun _ _=>(ak (x:=.own (HL hand L)) (y:=.d (.int 1)) rfl rfl).trans (mS rfl)
 cases hg:eO m c hand j L with
 |false=>
  rw [hg,if_neg Bool.false_ne_true] at hm0 hm1
  rw [hg] at ix0 ix1
  refine eK (δ':=rδ K ns C m c hand L j z8 tv jv rv (some (.d (.bool false))) (some (.own (HL hand L))) (some (.d (.bool true))) none) (eQ (x:=.d (.bool true)) (aZ (Fx (x:=hs C m c) (y:=.d (.list (hand.map pr))) (z:=.d (.int j)) (u:=.d (.list (L.map md))) (v:=.d (.int 0)) rfl (ix0 _ _) rfl (ix1 _ _) rfl) rfl rfl hm0) rfl rfl) ?_
  refine eK (δ':=rδ K ns C m c hand L j z8 tv jv rv (some (.d (.bool false))) (some (.own (HL hand L))) (some (.d (.bool true))) (some (.d (.bool true)))) (eQ (x:=.d (.bool true)) (aZ (Fx (x:=hs C m c) (y:=.d (.list (hand.map pr))) (z:=.d (.int j)) (u:=.d (.list (L.map md))) (v:=.d (.int 1)) rfl (ix0 _ _) rfl (ix1 _ _) rfl) rfl rfl hm1) rfl rfl) ?_
  change bB _ _ (rδ K ns C m c hand L j z8 tv jv rv (some (.d (.bool false))) (some (.own (HL hand L))) (some (.d (.bool true))) (some (.d (.bool true))))=_
  refine eK (qt (aX ((ak (x:=.own (HL hand L)) (y:=.new (HL hand L)) rfl (l5 (cp (x:=.d (.list (hand.map pr))) (y:=.d (.list (L.map md))) rfl rfl) rfl 0x4)).trans (qX true hand L))) rfl) ?_
  exact ja (xw (gx (aX rfl) rfl) (bz rfl))
 |true=>
  rw [hg,if_pos rfl] at hm0 hm1
  rw [hg] at ix0 ix1
  rw [<-htot] at hm0
  rw [hjl] at hm1
  refine eK (δ':=rδ K ns C m c hand L j z8 tv jv rv (some (.d (.bool true))) (some (.own (HL hand L))) (some (.d (.int tv))) none) (eQ (x:=.d (.int tv)) (aZ (Fx (x:=hs C m c) (y:=.d (.list (hand.map pr))) (z:=.d (.int j)) (u:=.d (.list (L.map md))) (v:=.d (.int 0)) rfl (ix0 _ _) rfl (ix1 _ _) rfl) rfl rfl hm0) rfl rfl) ?_
  refine eK (δ':=rδ K ns C m c hand L j z8 tv jv rv (some (.d (.bool true))) (some (.own (HL hand L))) (some (.d (.int tv))) (some (.tpo [] (rv.map pr) [.int (j-jv)]))) (eQ (x:=.nwt [] (rv.map pr) [.int (j-jv)]) (aZ (Fx (x:=hs C m c) (y:=.d (.list (hand.map pr))) (z:=.d (.int j)) (u:=.d (.list (L.map md))) (v:=.d (.int 1)) rfl (ix0 _ _) rfl (ix1 _ _) rfl) rfl rfl hm1) rfl rfl) ?_
  change bB _ _ (rδ K ns C m c hand L j z8 tv jv rv (some (.d (.bool true))) (some (.own (HL hand L))) (some (.d (.int tv))) (some (.tpo [] (rv.map pr) [.int (j-jv)])))=_
  refine eK (qt (aX ((ak (x:=.own (HL hand L)) (y:=.new (HL hand L)) rfl (l5 (cp (x:=.d (.list (hand.map pr))) (y:=.d (.list (L.map md))) rfl rfl) rfl 0x4)).trans (qX true hand L))) rfl) ?_
  refine eK (qt (gx (aX rfl) rfl) rfl) ?_
  have tu:∀f:DS->M Bool,f (rδ K ns C m c hand L j z8 tv jv rv (some (.d (.bool true))) (some (.own (HL hand L))) (some (.d (.int tv))) (some (.d (.tuple [.list (rv.map pr),.int (j-jv)]))))=rt false->(fun δ=>f (frz 15 δ)) (rδ K ns C m c hand L j z8 tv jv rv (some (.d (.bool true))) (some (.own (HL hand L))) (some (.d (.int tv))) (some (.tpo [] (rv.map pr) [.int (j-jv)])))=rt false:=fun f hf=>hf
  have t0:e2 bJ (af 15) (eC (.int 0)) (rδ K ns C m c hand L j z8 tv jv rv (some (.d (.bool true))) (some (.own (HL hand L))) (some (.d (.int tv))) (some (.d (.tuple [.list (rv.map pr),.int (j-jv)]))))=rt (.d (.list (rv.map pr))):=(ak (x:=.d (.tuple [.list (rv.map pr),.int (j-jv)])) (y:=.d (.int 0)) rfl rfl).trans (aU rfl)
  have t1:e2 bJ (af 15) (eC (.int 1)) (rδ K ns C m c hand L j z8 tv jv rv (some (.d (.bool true))) (some (.own (HL hand L))) (some (.d (.int tv))) (some (.d (.tuple [.list (rv.map pr),.int (j-jv)]))))=rt (.d (.int (j-jv))):=(ak (x:=.d (.tuple [.list (rv.map pr),.int (j-jv)])) (y:=.d (.int 1)) rfl rfl).trans (aU rfl)
  have eqI:∀a:Int,fg true (.d (.int a)) (.d (.int a))=rt (.d (.bool false)):=fun a=>by
   show rt (DV.d (.bool (!PyData.eqv (.int a) (.int a))))=_
   rw [LW.eqv_i,decide_eq_true rfl]
   rfl
  refine eK (qt (tu _ (qv (gx (aX (aZ (n:=1) (br (x:=.d (.int tv)) rfl) rfl rfl (show dz [.d (.int tv)]=rt (.d (.bool true)) from rfl))) rfl) (qv (aX ((ak (x:=.d (.int tv)) (y:=.d (.int tv)) rfl rfl).trans (eqI tv))) (qv (gx (aX (yT (x:=.d (.tuple [.list (rv.map pr),.int (j-jv)])) rfl rfl rfl)) rfl) (aX ((ak (x:=.d (.int 2)) (y:=.d (.int 2)) rfl rfl).trans (eqI 2))))))) rfl) ?_
  refine eK (qt (tu _ (qv (gx (aX (yT t0 rfl rfl)) rfl) (qv (aX ((ak t0 (y:=.d (.list (rv.map pr))) rfl).trans ?_)) (qv (gx (aX (aZ (n:=1) (br t1) rfl rfl (show dz [.d (.int (j-jv))]=rt (.d (.bool true)) from rfl))) rfl) (aX ((ak t1 (y:=.d (.int (j-jv))) ((ak (x:=.d (.int j)) (y:=.d (.int jv)) rfl rfl).trans (b9 _ _))).trans (eqI _))))))) rfl) ?_
  ·rw [zV (neg:=true) (ps:=rv) (qs:=rv) rfl rfl]
   simp
  refine eK (δ':=rδ K ns C m c hand L j z8 tv jv rv (some (.d (.bool true))) (some (.own (HL hand L))) (some (.d (.int tv))) (some (.tpo [] (rv.map pr++[pr (1,0)]) [.int (j-jv)]))) ?_ ?_
  ·have hrl:rv.length<=hand.length:=by rw [<-hrv]; exact (gO _ _).length_le
   unfold wF
   show (if ([]:List D).length=0 then bd (rt (DV.d (pr (1,0)))) _ else none)=_
   rw [if_pos (show ([]:List D).length=0 from rfl),aK]
   show (if (rv.map pr).length<1000000 then _ else none)=_
   rw [if_pos (by rw [List.length_map]; lia)]
   rfl
  ·change bp _ (rδ K ns C m c hand L j z8 tv jv rv (some (.d (.bool true))) (some (.own (HL hand L))) (some (.d (.int tv))) (some (.tpo [] (rv.map pr++[pr (1,0)]) [.int (j-jv)])))=_
   exact bz ((ak (x:=.own (HL hand L)) (y:=.new (HL hand L)) rfl (l5 (cp (x:=.d (.list (hand.map pr))) (y:=.d (.list (L.map md))) rfl rfl) rfl 0x4)).trans (qX false hand L))
theorem zJ {us:List Value} (h:us.length=1):∃a0,us=[a0]:=match us,h with|[a0],_=>⟨a0,rfl⟩
theorem qD {us:List Value} (h:us.length=2):∃a0 a1,us=[a0,a1]:=match us,h with|[a0,a1],_=>⟨a0,a1,rfl⟩
theorem uI {us:List Value} (h:us.length=3):∃a0 a1 a2,us=[a0,a1,a2]:=match us,h with|[a0,a1,a2],_=>⟨a0,a1,a2,rfl⟩
theorem DM {us:List Value} (h:us.length=4):∃a0 a1 a2 a3,us=[a0,a1,a2,a3]:=match us,h with|[a0,a1,a2,a3],_=>⟨a0,a1,a2,a3,rfl⟩
theorem GK {us:List Value} (h:us.length=5):∃a0 a1 a2 a3 a4,us=[a0,a1,a2,a3,a4]:=match us,h with|[a0,a1,a2,a3,a4],_=>⟨a0,a1,a2,a3,a4,rfl⟩
theorem G6 {us:List Value} (h:us.length=6):∃a0 a1 a2 a3 a4 a5,us=[a0,a1,a2,a3,a4,a5]:=match us,h with|[a0,a1,a2,a3,a4,a5],_=>⟨a0,a1,a2,a3,a4,a5,rfl⟩
noncomputable abbrev pT:Stmt:=BJ (lq 13) 0
theorem Ip:FnScope ["self", "most", "colours"] ["self", "most", "colours"] (ar pT):=⟨rfl,rfl,rfl,0x2,rfl,0x2,0x2⟩
section
variable {P:Program} {w:World} {K:IU} {mg:Str->Option Value} {base:Heap}
theorem wG {H:Hp} {p:V} {m c:Int}:RS [] [] H [some p,some (.int m),some (.int c)] [none,some (.d (.int m)),some (.d (.int c))]:=by
 refine ⟨rfl,fun a ha=>(nomatch ha),fun a ha=>(nomatch ha),fun i x h=>?_,fun i j x y v w a h1 h2 h3 h4 o1 o2=>?_⟩
 ·match i with
  |0=>cases h
  |1=>cases h; exact ⟨_,rfl,fun _=>nofun,.int m⟩
  |2=>cases h; exact ⟨_,rfl,fun _=>nofun,.int c⟩
  |i+3=>simp at h
 ·match i with
  |0=>cases h1
  |1=>cases h1; exact o1.elim
  |2=>cases h1; exact o1.elim
  |i+3=>simp at h1
theorem Bu {f C CB:Addr} {fd:FuncData} (Fu:Fun K "__init__" "House.__init__" pT f fd) (T:Tx K mg C) (O:Xc K mg "BadHouse" CB):FnOk P w K mg base (sm P w) 1 f fd ["self", "most", "colours"] (Ii C CB iF "most" "colours"):=by
 obtain ⟨oc,od,kV,doc,pm,an,cdv,ct,osl,rfl,lk,hcd⟩:=Fu.ex
 refine yK (k:=0) lk hcd Ip (fun vs H Q E h=>?_) fun A outer s H vs Q E hr h=>?_
 ·obtain ⟨p,dx,m,c,rfl,_⟩:=h
  rfl
 ·obtain ⟨p,dx,m,c,rfl,hp,k⟩:=h
  have hu:=eM hr
  have mk:wD (eX (sm P w) P w K mg base ["self", "most", "colours"] "House.__init__" (ar pT) f cdv A outer s H E) E:=⟨hr.hd,fun pins σ H1 s1 h1 e cls vs I hm hE=>vZ I hm hE⟩
  refine ⟨_,kj (Av (eZ (nv (E:=E0) (dZ hu) (dZ hu) (kK T.i_LEAST_NUMBERS) (ag 1 (pv 1)) (kK T.i_MOST_NUMBERS))) (km (nz mk O)) q9)
   (kj (Av (eZ (nv (E:=E0) (dZ hu) (dZ hu) (kK T.i_LEAST_COLOURS) (ag 2 (pv 2)) (kK T.i_MOST_COLOURS))) (km (nz mk O)) q9)
   (kj (Ad (pv 0) (pv 1) rfl) (km (Ad (pv 0) (pv 2) rfl)))),?_⟩
  refine ⟨[],[],_,.ok (!(decide (3<=m)&&decide (m<=13))),wG,?_,fun H1 s1=>?_⟩
  ·unfold eS yg
   by_cases h3:3<=m <;> by_cases h13:m<=13 <;> simp [eC,af,rt,bd,op,bw,h3,h13]
  by_cases g1:(decide (3<=m)&&decide (m<=13))=true
  ·rw [g1]
   refine z5 ?_
   refine ⟨[],[],_,.ok (!(decide (1<=c)&&decide (c<=4))),wG,?_,fun H2 s2=>?_⟩
   ·unfold eS yg
    by_cases h3:1<=c <;> by_cases h13:c<=4 <;> simp [eC,af,rt,bd,op,bw,h3,h13]
   have kk:=k H2 (s1.trans s2)
   by_cases g2:(decide (1<=c)&&decide (c<=4))=true
   ·rw [g2]
    refine z5 ?_
    rw [if_pos (by unfold iF; rw [g1,g2]; rfl)] at kk
    refine ⟨_,rfl,_,rfl,p,C,dx,[],rfl,s2 _ _ (s1 _ _ hp),T.cl,T.n_most,0x3,?_⟩
    exact ⟨_,rfl,_,rfl,p,C,dx,_,rfl,cf,T.cl,T.n_colours,by show 1<1000; decide,kk⟩
   ·have g2':(decide (1<=c)&&decide (c<=4))=false:=by simpa using g2
    rw [g2']
    refine yS ?_
    rw [if_neg (by unfold iF; rw [g1,g2']; simp)] at kk
    exact kk
  ·have g1':(decide (3<=m)&&decide (m<=13))=false:=by simpa using g1
   rw [g1']
   refine yS ?_
   have kk:=k H1 s1
   rw [if_neg (by unfold iF; rw [g1']; simp)] at kk
   exact kk
end
noncomputable abbrev lu (x y:Str) (st:Stmt) (ps:List Str):Prop:=∀(kV doc pm:Value) (an:Option Addr) (cdv ct:Value) (us:List Value),us.length=ps.length->bindArgs (PySem.W.fnOf x y (gr st) (eE st) (ar st) .none kV doc pm an cdv ct) ⟨us,[]⟩=pure (ps.zip us)
theorem cM {K:IU} {h:Heap} {mg:Str->Option Value} {x:Str} {st:Stmt} {ps:List Str} {f:Addr} {oc:Value} {od an:Option Addr} {osl:Array (Option Value)} {kV doc pm cdv ct:Value} (X:K.In h) (G:h.Ns mainGlobals mg) (a:PySem.W.nsIn K mainGlobals x=some (some (.ref f)))
  (l:K.lookup f=some ⟨oc,od,.func (PySem.W.fnOf x x (gr st) (eE st) (ar st) .none kV doc pm an cdv ct),osl⟩) (c:PySem.W.codeIn K cdv x=true) (k:PySem.W.keepIn K (.ref f)=true)
  (hb:lu x x st ps):Df K mg x st ps:=
 ⟨f,_,qH l c k,PySem.W.mg_of X G a,(qH l c k).binds hb⟩
theorem iV {K:IU} {h:Heap} {mg:Str->Option Value} {x:Str} {i:Int} {t:Tok} (X:K.In h) (G:h.Ns mainGlobals mg) (a:PySem.W.nsIn K mainGlobals x=some (some (.int i t))):∃t,mg x=some (.int i t):=⟨t,PySem.W.mg_of X G a⟩
theorem Az {K:IU} {h:Heap} {mg:Str->Option Value} {x:Str} {C:Addr} (X:K.In h) (G:h.Ns mainGlobals mg) (a:PySem.W.nsIn K mainGlobals x=some (some (.ref C))) (e:PySem.W.excIn K C [.type "ValueError",.type "Exception",.type "BaseException",.type "object"] "ValueError.__new__" = true):Xc K mg x C:=⟨PySem.W.mg_of X G a,e⟩
theorem uD:lu "is_tile" "is_tile" gH ["house", "tile"]:=fun _ _ _ _ _ _ us hl=>by obtain ⟨a0,a1,rfl⟩:=qD hl; rfl
theorem nA:lu "is_in_order" "is_in_order" cW ["row"]:=fun _ _ _ _ _ _ us hl=>by obtain ⟨a0,rfl⟩:=zJ hl; rfl
theorem uS:lu "is_hand" "is_hand" fQ ["house", "hand", "jokers"]:=fun _ _ _ _ _ _ us hl=>by obtain ⟨a0,a1,a2,rfl⟩:=uI hl; rfl
theorem pj:lu "check_hand" "check_hand" eF ["house", "hand", "jokers"]:=fun _ _ _ _ _ _ us hl=>by obtain ⟨a0,a1,a2,rfl⟩:=uI hl; rfl
theorem xZ:lu "is_run" "is_run" iL ["house", "colour", "first", "size"]:=fun _ _ _ _ _ _ us hl=>by obtain ⟨a0,a1,a2,a3,rfl⟩:=DM hl; rfl
theorem sO:lu "is_group" "is_group" dN ["house", "number", "colours"]:=fun _ _ _ _ _ _ us hl=>by obtain ⟨a0,a1,a2,rfl⟩:=uI hl; rfl
theorem vB:lu "is_meld" "is_meld" gY ["house", "meld"]:=fun _ _ _ _ _ _ us hl=>by obtain ⟨a0,a1,rfl⟩:=qD hl; rfl
theorem sC:lu "tiles_of" "tiles_of" dM ["house", "meld"]:=fun _ _ _ _ _ _ us hl=>by obtain ⟨a0,a1,rfl⟩:=qD hl; rfl
theorem zQ:lu "total" "total" jh ["tiles"]:=fun _ _ _ _ _ _ us hl=>by obtain ⟨a0,rfl⟩:=zJ hl; rfl
theorem uG:lu "lay_out" "lay_out" gT ["tiles", "jokers", "wanted"]:=fun _ _ _ _ _ _ us hl=>by obtain ⟨a0,a1,a2,rfl⟩:=uI hl; rfl
theorem jP:lu "tiles_of_laying" "tiles_of_laying" cq ["house", "laying"]:=fun _ _ _ _ _ _ us hl=>by obtain ⟨a0,a1,rfl⟩:=qD hl; rfl
theorem Bl:lu "left" "left" oj ["house", "hand", "jokers", "laying"]:=fun _ _ _ _ _ _ us hl=>by obtain ⟨a0,a1,a2,a3,rfl⟩:=DM hl; rfl
theorem zZ:lu "worth" "worth" j9 ["house", "hand", "jokers", "laying"]:=fun _ _ _ _ _ _ us hl=>by obtain ⟨a0,a1,a2,a3,rfl⟩:=DM hl; rfl
theorem mO:lu "_law_cell_at" "_law_cell_at" dm ["script", "k"]:=fun _ _ _ _ _ _ us hl=>by obtain ⟨a0,a1,rfl⟩:=qD hl; rfl
theorem td:lu "_law_mix" "_law_mix" gh ["cell", "k", "many"]:=fun _ _ _ _ _ _ us hl=>by obtain ⟨a0,a1,a2,rfl⟩:=uI hl; rfl
theorem pA:lu "_law_whole" "_law_whole" dW ["found"]:=fun _ _ _ _ _ _ us hl=>by obtain ⟨a0,rfl⟩:=zJ hl; rfl
theorem lN:lu "_law_house_by" "_law_house_by" cV ["script"]:=fun _ _ _ _ _ _ us hl=>by obtain ⟨a0,rfl⟩:=zJ hl; rfl
theorem mQ:lu "_law_trimmed" "_law_trimmed" dk ["tiles", "limit"]:=fun _ _ _ _ _ _ us hl=>by obtain ⟨a0,a1,rfl⟩:=qD hl; rfl
theorem mF:lu "_law_hand_by" "_law_hand_by" bZ ["script", "start", "most", "colours", "limit"]:=fun _ _ _ _ _ _ us hl=>by obtain ⟨a0,a1,a2,a3,a4,rfl⟩:=GK hl; rfl
theorem kC:lu "_law_jokers_by" "_law_jokers_by" cH ["script", "hand"]:=fun _ _ _ _ _ _ us hl=>by obtain ⟨a0,a1,rfl⟩:=qD hl; rfl
theorem oZ:lu "_law_tiles" "_law_tiles" cP ["meld"]:=fun _ _ _ _ _ _ us hl=>by obtain ⟨a0,rfl⟩:=zJ hl; rfl
theorem pH:lu "_law_melds" "_law_melds" cm ["most", "colours"]:=fun _ _ _ _ _ _ us hl=>by obtain ⟨a0,a1,rfl⟩:=qD hl; rfl
theorem qL:lu "_law_laid" "_law_laid" fw ["hand", "laying"]:=fun _ _ _ _ _ _ us hl=>by obtain ⟨a0,a1,rfl⟩:=qD hl; rfl
theorem kq:lu "_law_laying_by" "_law_laying_by" bX ["script", "start", "most", "colours", "hand", "jokers"]:=fun _ _ _ _ _ _ us hl=>by obtain ⟨a0,a1,a2,a3,a4,a5,rfl⟩:=G6 hl; rfl
theorem sG:lu "_law_met" "_law_met" gk ["house", "hand", "jokers", "laying", "way"]:=fun _ _ _ _ _ _ us hl=>by obtain ⟨a0,a1,a2,a3,a4,rfl⟩:=GK hl; rfl
theorem qM:lu "_law_hurt" "_law_hurt" fC ["known", "laying", "cell"]:=fun _ _ _ _ _ _ us hl=>by obtain ⟨a0,a1,a2,rfl⟩:=uI hl; rfl
theorem Cp:lu "__init__" "House.__init__" pT ["self", "most", "colours"]:=fun _ _ _ _ _ _ us hl=>by obtain ⟨a0,a1,a2,rfl⟩:=uI hl; rfl
noncomputable def vX (K:IU):Sp:=fun vs H Q _=>∃(a:Addr) (ns:List Int),vs=[.ref a]/\gm K H a (ns.map V.int)/\ns.length<=63/\∀H',Q (.bl true) H'
theorem Eu {P:Program} {w:World} {K:IU} {mg:Str->Option Value} {base:Heap} {C IP IQ IS IT fI:Addr} {fdI:FuncData} (T:Tx K mg C) (R:Rx K mg IP IQ IS IT) (OB:Xc K mg "BadHouse" IQ) (hM:Mk K C fI) (FI:Fun K "__init__" "House.__init__" pT fI fdI) (hC:mg "House" = some (.ref C))
  (D0:Df K mg "is_tile" gH ["house", "tile"]) (D1:Df K mg "is_in_order" cW ["row"]) (D2:Df K mg "is_hand" fQ ["house", "hand", "jokers"]) (D3:Df K mg "check_hand" eF ["house", "hand", "jokers"]) (D4:Df K mg "is_run" iL ["house", "colour", "first", "size"]) (D5:Df K mg "is_group" dN ["house", "number", "colours"]) (D6:Df K mg "is_meld" gY ["house", "meld"]) (D7:Df K mg "tiles_of" dM ["house", "meld"]) (D8:Df K mg "total" jh ["tiles"]) (D9:Df K mg "lay_out" gT ["tiles", "jokers", "wanted"]) (D10:Df K mg "tiles_of_laying" cq ["house", "laying"]) (D11:Df K mg "left" oj ["house", "hand", "jokers", "laying"]) (D12:Df K mg "worth" j9 ["house", "hand", "jokers", "laying"]) (D13:Df K mg "_law_cell_at" dm ["script", "k"]) (D14:Df K mg "_law_mix" gh ["cell", "k", "many"]) (D15:Df K mg "_law_whole" dW ["found"]) (D16:Df K mg "_law_house_by" cV ["script"]) (D17:Df K mg "_law_trimmed" dk ["tiles", "limit"]) (D18:Df K mg "_law_hand_by" bZ ["script", "start", "most", "colours", "limit"]) (D19:Df K mg "_law_jokers_by" cH ["script", "hand"]) (D20:Df K mg "_law_tiles" cP ["meld"]) (D21:Df K mg "_law_melds" cm ["most", "colours"]) (D22:Df K mg "_law_laid" fw ["hand", "laying"]) (D23:Df K mg "_law_laying_by" bX ["script", "start", "most", "colours", "hand", "jokers"]) (D24:Df K mg "_law_met" gk ["house", "hand", "jokers", "laying", "way"]) (D25:Df K mg "_law_hurt" fC ["known", "laying", "cell"]) {f:Addr} {fd:FuncData} (Fu:Fun K "law" "law" ma f fd):FnOk P w K mg base wY 9 f fd ["script"] (DX 1 (pZ K C IP IQ IS)):=by
 have h_House:Ia P w K mg base C IQ:=⟨⟨fI,fdI,_,hM,Bu FI T OB,FI.binds Cp,hC⟩⟩
 have h0:=dP (P:=P) (w:=w) (base:=base) T R D0
 have h1:=dC (P:=P) (w:=w) (base:=base) T R D1
 have h2:=lB (P:=P) (w:=w) (base:=base) T R D2 h0 h1
 have h3:=ie (P:=P) (w:=w) (base:=base) T R D3 h2
 have h4:=om (P:=P) (w:=w) (base:=base) T R D4 h0
 have h5:=jX (P:=P) (w:=w) (base:=base) T R D5 h0
 have h6:=lU (P:=P) (w:=w) (base:=base) T R D6 h4 h5
 have h7:=jW (P:=P) (w:=w) (base:=base) T R D7 h6
 have h8:=nc (P:=P) (w:=w) (base:=base) T R D8
 have h9:=l0 (P:=P) (w:=w) (base:=base) T R D9
 have h10:=eJ (P:=P) (w:=w) (base:=base) T R D10 h7 h1
 have h11:=oH (P:=P) (w:=w) (base:=base) T R D11 h3 h10 h9
 have h12:=se (P:=P) (w:=w) (base:=base) T R D12 h8 h11
 have h13:=aW (P:=P) (w:=w) (base:=base) T R D13
 have h14:=bj (P:=P) (w:=w) (base:=base) T R D14
 have h15:=fK (P:=P) (w:=w) (base:=base) T R D15
 have h16:=fF (P:=P) (w:=w) (base:=base) T R D16 h13 h14
 have h17:=fV (P:=P) (w:=w) (base:=base) T R D17
 have h18:=gj (P:=P) (w:=w) (base:=base) T R D18 h13 h14 h17
 have h19:=eP (P:=P) (w:=w) (base:=base) T R D19 h13
 have h20:=ij (P:=P) (w:=w) (base:=base) T R D20
 have h21:=dX (P:=P) (w:=w) (base:=base) T R D21
 have h22:=dQ (P:=P) (w:=w) (base:=base) T R D22 h20
 have h23:=fq (P:=P) (w:=w) (base:=base) T R D23 h21 h22 h13 h14
 have h24:=ir (P:=P) (w:=w) (base:=base) T R D24 h12 h11
 have h25:=iG (P:=P) (w:=w) (base:=base) T R D25
 exact E6 T R Fu h_House h16 h18 h19 h23 h13 h21 h25 h22 h24 h15
theorem ED {P:Program} {w:World} {K:IU} {mg:Str->Option Value} {base:Heap} {C IP IQ IS IT:Addr} {k:Nat} {f:Addr} {fd:FuncData} {ps:List Str} (DY:∀ns:List Int,ns.length<=63->pZ K C IP IQ IS [.scr K ns]=rt (.d (.bool true))) (F:FnOk P w K mg base wY k f fd ps (DX 1 (pZ K C IP IQ IS))):FnOk P w K mg base wY k f fd ps (vX K):=
 F.imp fun vs H Q E ⟨a,ns,ev,hS,hl,hq⟩=>by
  subst ev
  refine ⟨rfl,[],[.scr K ns],_,fun a ha=>(nomatch ha),.cons ⟨a,rfl,hS.imp (fun z=>⟨nofun,z⟩) fun z=>z⟩ .nil,DY ns hl,fun v H' _ rv=>?_⟩
  cases rv
  exact hq H'
local macro_rules|`($k <<< $x <<< $v)=>`(PySem.W.nsIn $k mainGlobals $x=some $v)
local macro_rules|`([$k,$f,$x,$y,$s,$a,$b,$c,$d,$e,$g,$h,$i,$j])=>`(List.lookup $f $k=some ⟨$a,$b,.func (PySem.W.fnOf $x $y (gr $s) (eE $s) (ar $s) .none $c $d $e $g $h $i),$j⟩)
local macro_rules|`($k >>> $c >>> $x)=>`(PySem.W.codeIn $k $c $x=true)
local macro_rules|`($k ||| $f)=>`(PySem.W.keepIn $k (.ref $f)=true)
theorem all_mk {l:PySem.W.OpenLaw} {w:World} {K:IU} {h:Heap} {mg:Str->Option Value} {fa C IP IQ IS IT fI f0 f1 f2 f3 f4 f5 f6 f7 f8 f9 f10 f11 f12 f13 f14 f15 f16 f17 f18 f19 f20 f21 f22 f23 f24 f25 f26:Addr} {d0 n0 d1 n1 d2 n2 d3 n3 d4 n4 d5 n5 d6 n6 d7 n7 d8 n8 d9 n9 d10 n10 d11 n11 d12 n12 d13 n13 d14 n14 d15 n15 d16 n16 d17 n17 d18 n18 d19 n19 d20 n20 d21 n21 d22 n22 d23 n23 d24 n24 d25 n25 d26 n26 dI nI:Option Addr} {s0 s1 s2 s3 s4 s5 s6 s7 s8 s9 s10 s11 s12 s13 s14 s15 s16 s17 s18 s19 s20 s21 s22 s23 s24 s25 s26 sI:Array (Option Value)} {o0 v0 e0 p0 m0 t0 o1 v1 e1 p1 m1 t1 o2 v2 e2 p2 m2 t2 o3 v3 e3 p3 m3 t3 o4 v4 e4 p4 m4 t4 o5 v5 e5 p5 m5 t5 o6 v6 e6 p6 m6 t6 o7 v7 e7 p7 m7 t7 o8 v8 e8 p8 m8 t8 o9 v9 e9 p9 m9 t9 o10 v10 e10 p10 m10 t10 o11 v11 e11 p11 m11 t11 o12 v12 e12 p12 m12 t12 o13 v13 e13 p13 m13 t13 o14 v14 e14 p14 m14 t14 o15 v15 e15 p15 m15 t15 o16 v16 e16 p16 m16 t16 o17 v17 e17 p17 m17 t17 o18 v18 e18 p18 m18 t18 o19 v19 e19 p19 m19 t19 o20 v20 e20 p20 m20 t20 o21 v21 e21 p21 m21 t21 o22 v22 e22 p22 m22 t22 o23 v23 e23 p23 m23 t23 o24 v24 e24 p24 m24 t24 o25 v25 e25 p25 m25 t25 o26 v26 e26 p26 m26 t26 oI vI eI pI mI tI:Value} {t_LEAST_NUMBERS t_MOST_NUMBERS t_LEAST_COLOURS t_MOST_COLOURS t_MOST_TILES t_MOST_ALIKE t_MOST_JOKERS t_LEAST_SIZE:Tok} (X:K.In h) (G:h.Ns mainGlobals mg) (hfa:mg "law" = some (.ref fa))
  (A0:K <<< "is_tile" <<< (some (.ref f0)))
  (L0:[K,f0, "is_tile", "is_tile",gH,o0,d0,v0,e0,p0,n0,m0,t0,s0])
  (c0:K >>> m0 >>> "is_tile")
  (k0:K ||| f0)
  (A1:K <<< "is_in_order" <<< (some (.ref f1)))
  (L1:[K,f1, "is_in_order", "is_in_order",cW,o1,d1,v1,e1,p1,n1,m1,t1,s1])
  (c1:K >>> m1 >>> "is_in_order")
  (k1:K ||| f1)
  (A2:K <<< "is_hand" <<< (some (.ref f2)))
  (L2:[K,f2, "is_hand", "is_hand",fQ,o2,d2,v2,e2,p2,n2,m2,t2,s2])
  (c2:K >>> m2 >>> "is_hand")
  (k2:K ||| f2)
  (A3:K <<< "check_hand" <<< (some (.ref f3)))
  (L3:[K,f3, "check_hand", "check_hand",eF,o3,d3,v3,e3,p3,n3,m3,t3,s3])
  (c3:K >>> m3 >>> "check_hand")
  (k3:K ||| f3)
  (A4:K <<< "is_run" <<< (some (.ref f4)))
  (L4:[K,f4, "is_run", "is_run",iL,o4,d4,v4,e4,p4,n4,m4,t4,s4])
  (c4:K >>> m4 >>> "is_run")
  (k4:K ||| f4)
  (A5:K <<< "is_group" <<< (some (.ref f5)))
  (L5:[K,f5, "is_group", "is_group",dN,o5,d5,v5,e5,p5,n5,m5,t5,s5])
  (c5:K >>> m5 >>> "is_group")
  (k5:K ||| f5)
  (A6:K <<< "is_meld" <<< (some (.ref f6)))
  (L6:[K,f6, "is_meld", "is_meld",gY,o6,d6,v6,e6,p6,n6,m6,t6,s6])
  (c6:K >>> m6 >>> "is_meld")
  (k6:K ||| f6)
  (A7:K <<< "tiles_of" <<< (some (.ref f7)))
  (L7:[K,f7, "tiles_of", "tiles_of",dM,o7,d7,v7,e7,p7,n7,m7,t7,s7])
  (c7:K >>> m7 >>> "tiles_of")
  (k7:K ||| f7)
  (A8:K <<< "total" <<< (some (.ref f8)))
  (L8:[K,f8, "total", "total",jh,o8,d8,v8,e8,p8,n8,m8,t8,s8])
  (c8:K >>> m8 >>> "total")
  (k8:K ||| f8)
  (A9:K <<< "lay_out" <<< (some (.ref f9)))
  (L9:[K,f9, "lay_out", "lay_out",gT,o9,d9,v9,e9,p9,n9,m9,t9,s9])
  (c9:K >>> m9 >>> "lay_out")
  (k9:K ||| f9)
  (A10:K <<< "tiles_of_laying" <<< (some (.ref f10)))
  (L10:[K,f10, "tiles_of_laying", "tiles_of_laying",cq,o10,d10,v10,e10,p10,n10,m10,t10,s10])
  (c10:K >>> m10 >>> "tiles_of_laying")
  (k10:K ||| f10)
  (A11:K <<< "left" <<< (some (.ref f11)))
  (L11:[K,f11, "left", "left",oj,o11,d11,v11,e11,p11,n11,m11,t11,s11])
  (c11:K >>> m11 >>> "left")
  (k11:K ||| f11)
  (A12:K <<< "worth" <<< (some (.ref f12)))
  (L12:[K,f12, "worth", "worth",j9,o12,d12,v12,e12,p12,n12,m12,t12,s12])
  (c12:K >>> m12 >>> "worth")
  (k12:K ||| f12)
  (A13:K <<< "_law_cell_at" <<< (some (.ref f13)))
  (L13:[K,f13, "_law_cell_at", "_law_cell_at",dm,o13,d13,v13,e13,p13,n13,m13,t13,s13])
  (c13:K >>> m13 >>> "_law_cell_at")
  (k13:K ||| f13)
  (A14:K <<< "_law_mix" <<< (some (.ref f14)))
  (L14:[K,f14, "_law_mix", "_law_mix",gh,o14,d14,v14,e14,p14,n14,m14,t14,s14])
  (c14:K >>> m14 >>> "_law_mix")
  (k14:K ||| f14)
  (A15:K <<< "_law_whole" <<< (some (.ref f15)))
  (L15:[K,f15, "_law_whole", "_law_whole",dW,o15,d15,v15,e15,p15,n15,m15,t15,s15])
  (c15:K >>> m15 >>> "_law_whole")
  (k15:K ||| f15)
  (A16:K <<< "_law_house_by" <<< (some (.ref f16)))
  (L16:[K,f16, "_law_house_by", "_law_house_by",cV,o16,d16,v16,e16,p16,n16,m16,t16,s16])
  (c16:K >>> m16 >>> "_law_house_by")
  (k16:K ||| f16)
  (A17:K <<< "_law_trimmed" <<< (some (.ref f17)))
  (L17:[K,f17, "_law_trimmed", "_law_trimmed",dk,o17,d17,v17,e17,p17,n17,m17,t17,s17])
  (c17:K >>> m17 >>> "_law_trimmed")
  (k17:K ||| f17)
  (A18:K <<< "_law_hand_by" <<< (some (.ref f18)))
  (L18:[K,f18, "_law_hand_by", "_law_hand_by",bZ,o18,d18,v18,e18,p18,n18,m18,t18,s18])
  (c18:K >>> m18 >>> "_law_hand_by")
  (k18:K ||| f18)
  (A19:K <<< "_law_jokers_by" <<< (some (.ref f19)))
  (L19:[K,f19, "_law_jokers_by", "_law_jokers_by",cH,o19,d19,v19,e19,p19,n19,m19,t19,s19])
  (c19:K >>> m19 >>> "_law_jokers_by")
  (k19:K ||| f19)
  (A20:K <<< "_law_tiles" <<< (some (.ref f20)))
  (L20:[K,f20, "_law_tiles", "_law_tiles",cP,o20,d20,v20,e20,p20,n20,m20,t20,s20])
  (c20:K >>> m20 >>> "_law_tiles")
  (k20:K ||| f20)
  (A21:K <<< "_law_melds" <<< (some (.ref f21)))
  (L21:[K,f21, "_law_melds", "_law_melds",cm,o21,d21,v21,e21,p21,n21,m21,t21,s21])
  (c21:K >>> m21 >>> "_law_melds")
  (k21:K ||| f21)
  (A22:K <<< "_law_laid" <<< (some (.ref f22)))
  (L22:[K,f22, "_law_laid", "_law_laid",fw,o22,d22,v22,e22,p22,n22,m22,t22,s22])
  (c22:K >>> m22 >>> "_law_laid")
  (k22:K ||| f22)
  (A23:K <<< "_law_laying_by" <<< (some (.ref f23)))
  (L23:[K,f23, "_law_laying_by", "_law_laying_by",bX,o23,d23,v23,e23,p23,n23,m23,t23,s23])
  (c23:K >>> m23 >>> "_law_laying_by")
  (k23:K ||| f23)
  (A24:K <<< "_law_met" <<< (some (.ref f24)))
  (L24:[K,f24, "_law_met", "_law_met",gk,o24,d24,v24,e24,p24,n24,m24,t24,s24])
  (c24:K >>> m24 >>> "_law_met")
  (k24:K ||| f24)
  (A25:K <<< "_law_hurt" <<< (some (.ref f25)))
  (L25:[K,f25, "_law_hurt", "_law_hurt",fC,o25,d25,v25,e25,p25,n25,m25,t25,s25])
  (c25:K >>> m25 >>> "_law_hurt")
  (k25:K ||| f25)
  (A26:K <<< "law" <<< (some (.ref f26)))
  (L26:[K,f26, "law", "law",ma,o26,d26,v26,e26,p26,n26,m26,t26,s26])
  (c26:K >>> m26 >>> "law")
  (k26:K ||| f26)
  (aC:PySem.W.nsIn K mainGlobals "House" = some (some (.ref C)))
  (aI:PySem.W.findIn K (.ref C) "__init__" = some (some (.ref fI)))
  (iI:PySem.W.isFn K (.ref fI)=true)
  (lI:[K,fI, "__init__", "House.__init__",pT,oI,dI,vI,eI,pI,nI,mI,tI,sI])
  (cI:K >>> mI >>> "House.__init__")
  (kI:K ||| fI)
  (pg:PySem.W.plainGet K C Str.empty=true)
  (hd:PySem.W.hasDictIn K C=true)
  (po:PySem.W.plainOver K C=true)
  (sa:PySem.W.findIn K (.ref C) "__setattr__" = some (some (.builtin "object.__setattr__")))
  (mk:PySem.W.makesIn K C=true)
  (kc:PySem.W.keepIn K (.ref C)=true)
  (n_colours:PySem.W.findIn K (.ref C) "colours" = some none)
  (n_most:PySem.W.findIn K (.ref C) "most" = some none)
  (i_LEAST_NUMBERS:K <<< "LEAST_NUMBERS" <<< (some (.int 3 t_LEAST_NUMBERS)))
  (i_MOST_NUMBERS:K <<< "MOST_NUMBERS" <<< (some (.int 13 t_MOST_NUMBERS)))
  (i_LEAST_COLOURS:K <<< "LEAST_COLOURS" <<< (some (.int 1 t_LEAST_COLOURS)))
  (i_MOST_COLOURS:K <<< "MOST_COLOURS" <<< (some (.int 4 t_MOST_COLOURS)))
  (i_MOST_TILES:K <<< "MOST_TILES" <<< (some (.int 12 t_MOST_TILES)))
  (i_MOST_ALIKE:K <<< "MOST_ALIKE" <<< (some (.int 2 t_MOST_ALIKE)))
  (i_MOST_JOKERS:K <<< "MOST_JOKERS" <<< (some (.int 2 t_MOST_JOKERS)))
  (i_LEAST_SIZE:K <<< "LEAST_SIZE" <<< (some (.int 3 t_LEAST_SIZE)))
  (b_all:K <<< "all" <<< none)
  (b_bool:K <<< "bool" <<< none)
  (b_int:K <<< "int" <<< none)
  (b_isinstance:K <<< "isinstance" <<< none)
  (b_len:K <<< "len" <<< none)
  (b_list:K <<< "list" <<< none)
  (b_max:K <<< "max" <<< none)
  (b_min:K <<< "min" <<< none)
  (b_range:K <<< "range" <<< none)
  (b_set:K <<< "set" <<< none)
  (b_sorted:K <<< "sorted" <<< none)
  (b_sum:K <<< "sum" <<< none)
  (b_tuple:K <<< "tuple" <<< none)
  (a_E_BadHand:K <<< "BadHand" <<< (some (.ref IP)))
  (a_E_BadHouse:K <<< "BadHouse" <<< (some (.ref IQ)))
  (a_E_BadLaying:K <<< "BadLaying" <<< (some (.ref IS)))
  (a_E_MeldError:K <<< "MeldError" <<< (some (.ref IT)))
  (e_E_BadHouse:PySem.W.excIn K IQ [.type "ValueError",.type "Exception",.type "BaseException",.type "object"] "ValueError.__new__" = true)
  (e_E_BadHand:PySem.W.excIn K IP [.type "ValueError",.type "Exception",.type "BaseException",.type "object"] "ValueError.__new__" = true)
  (e_E_BadLaying:PySem.W.excIn K IS [.type "ValueError",.type "Exception",.type "BaseException",.type "object"] "ValueError.__new__" = true)
  (q_BadLaying_MeldError:PySem.W.kitOne K (.ref IS) (.ref IT)=some true) :
  ∃fd:FuncData,(∀(s:Shared) (v:Value),BindsTo s fd ⟨[v],[]⟩ [("script",v)])/\∀base:Heap,K.In base->base.Ns mainGlobals mg->FnOk l.prog w K mg base wY 9 fa fd ["script"] (vX K):=by
 have e:=hfa.symm.trans (PySem.W.mg_of X G A26)
 cases e
 have T:Tx K mg C:=⟨⟨pg,hd,po,sa⟩,n_colours,n_most,iV X G i_LEAST_NUMBERS,iV X G i_MOST_NUMBERS,iV X G i_LEAST_COLOURS,iV X G i_MOST_COLOURS,iV X G i_MOST_TILES,iV X G i_MOST_ALIKE,iV X G i_MOST_JOKERS,iV X G i_LEAST_SIZE,PySem.W.mg_none_of X G b_all,PySem.W.mg_none_of X G b_bool,PySem.W.mg_none_of X G b_int,PySem.W.mg_none_of X G b_isinstance,PySem.W.mg_none_of X G b_len,PySem.W.mg_none_of X G b_list,PySem.W.mg_none_of X G b_max,PySem.W.mg_none_of X G b_min,PySem.W.mg_none_of X G b_range,PySem.W.mg_none_of X G b_set,PySem.W.mg_none_of X G b_sorted,PySem.W.mg_none_of X G b_sum,PySem.W.mg_none_of X G b_tuple⟩
 have R:Rx K mg IP IQ IS IT:=⟨Az X G a_E_BadHand e_E_BadHand,Az X G a_E_BadLaying e_E_BadLaying,q_BadLaying_MeldError,PySem.W.mg_of X G a_E_MeldError⟩
 refine ⟨PySem.W.fnOf "law" "law" (gr ma) (eE ma) (ar ma) .none v26 e26 p26 n26 m26 t26,fun s v=>.of_eq rfl,fun base kb nb=>?_⟩
 refine ED (C:=C) (IP:=IP) (IQ:=IQ) (IS:=IS) (IT:=IT) (fun ns hl=>DY K C IP IQ IS ns hl) ?_
 exact Eu (P:=l.prog) (w:=w) (base:=base) T R (Az X G a_E_BadHouse e_E_BadHouse) ⟨mk,aI,iI,kc⟩ (qH lI cI kI) (PySem.W.mg_of X G aC) (cM X G A0 L0 c0 k0 uD) (cM X G A1 L1 c1 k1 nA) (cM X G A2 L2 c2 k2 uS) (cM X G A3 L3 c3 k3 pj) (cM X G A4 L4 c4 k4 xZ) (cM X G A5 L5 c5 k5 sO) (cM X G A6 L6 c6 k6 vB) (cM X G A7 L7 c7 k7 sC) (cM X G A8 L8 c8 k8 zQ) (cM X G A9 L9 c9 k9 uG) (cM X G A10 L10 c10 k10 jP) (cM X G A11 L11 c11 k11 Bl) (cM X G A12 L12 c12 k12 zZ) (cM X G A13 L13 c13 k13 mO) (cM X G A14 L14 c14 k14 td) (cM X G A15 L15 c15 k15 pA) (cM X G A16 L16 c16 k16 lN) (cM X G A17 L17 c17 k17 mQ) (cM X G A18 L18 c18 k18 mF) (cM X G A19 L19 c19 k19 kC) (cM X G A20 L20 c20 k20 oZ) (cM X G A21 L21 c21 k21 pH) (cM X G A22 L22 c22 k22 qL) (cM X G A23 L23 c23 k23 kq) (cM X G A24 L24 c24 k24 sG) (cM X G A25 L25 c25 k25 qM) (qH L26 c26 k26)
theorem walk {l:PySem.W.OpenLaw} {q:Program} {loose:List Str} {XP:(Str->Option Value)->Heap->Prop} {YP:World->Heap->Prop} {d:DefRec} {K:Params->IU} (hn:l.most=some 63) (hdf:d.params.defaults=[])
  (hY:∀(w:World) (h:Heap),YP w h->(K w.params).In h)
  (F:∀(w:World) (mg:Str->Option Value) (fa:Addr) (h:Heap),(K w.params).In h->h.Ns mainGlobals mg->mg d.name=some (.ref fa) ->
   ∃fd:FuncData,(∀(s:Shared) (u:Value),BindsTo s fd ⟨[u],[]⟩ [("script",u)])/\∀base:Heap,(K w.params).In base->base.Ns mainGlobals mg->FnOk l.prog w (K w.params) mg base wY 9 fa fd ["script"] (vX (K w.params))) :
  PySem.W.WalkO q loose XP YP l.row.toRowW d [] (fun f vs=>PySem.call f vs):=
 L2.walk_of (n:=63) (k:=9) (x:= "script") (CX:=fun _=>wY) (sp:=fun w=>vX (K w.params)) hn 0x3 hdf ⟨rfl,0x3,0x3⟩ hY F (fun _ _ a ns hl _ hS=>⟨a,ns,rfl,hS,hl,fun _=>rfl⟩) fun _ _ _ _ _ z=>z
theorem walkX {q:Program} {loose:List Str} {XP:(Str->Option Value)->Heap->Prop} {K:Params->IU} {as:List Addr} {n t:Nat} {r:PySem.W.RowW} {d:DefRec} {kwd:List (Str×Expr)} {run:Value->List Value->Sem Value} (e:∀P,as=(K P).map (·.1))
  (h:PySem.W.WalkO q loose XP (fun w h=>(K w.params).In h) r d kwd run):PySem.W.WalkX q loose XP (PySem.W.X.obsZ as) (PySem.W.X.valZ K n t) r d kwd run:=by
 intro w s₀ s₁ mg mb G y a o pm cd doc dV kV h1 h2 h3 h4 h5 h6 args vals as' L hpre hlay hrd hwl hlo
 exact h w s₀ s₁ mg mb G (fun b ob hb=>L.keeps _ _ ((PySem.W.X.z_facts e y).2.1 b ob hb)) a o pm cd doc dV kV h1 h2 h3 h4 h5 h6 args vals as' hpre hlay hrd hwl hlo
end K3
namespace PySem.W.Fast
def tw14693294710413681622:=0
def tw15538298312152539364:=0
def tw8236143296784197375:=0
def tw807190536213752383:=0
def tw1894691097317317997:=0
def tw1676653991277340563:=0
def tw17986083446777303670:=0
def tw17737615201028996059:=0
def tw3324680558489733044:=0
def tw774661406314545300:=0
def tw17361168471980075511:=0
def tw4786844160439605818:=0
def tw8755080366576374978:=0
def tw15072420974534130027:=0
def tw12380165231517105755:=0
def tw16177274189443193553:=0
def tw15584191819004487519:=0
def tw7751841937398688616:=0
def tw3206543554200722816:=0
def tw15431319507287677880:=0
def tw10196113379899815644:=0
def tw1651763559915196147:=0
def tw1348249856562581286:=0
def tw1726344455132098214:=0
def tw11754221553559185066:=0
def tw2891489533770472227:=0
def tw1581654096424316064:=0
def tw13170392368100361223:=0
def tw11367493295088707660:=0
def tw12163775679028644947:=0
def tw11317197765449749753:=0
def tw15154763753615496419:=0
end PySem.W.Fast
open PySem PySem.W PyProof.Rows L2 L3 LW K3
set_option maxRecDepth 100000 in
set_option maxHeartbeats 0 in
theorem PySem.Challenge.cw_meldhouse_k03_layings_holds : PySem.Challenge.rw_meldhouse_k03_layings.Holds := by
 w_on; o_law; z_head; (case hw=>w_witness2)
 k_fill
 refine K3.walkX (fun _=>rfl) (K3.walk (l:=PySem.Challenge.rw_meldhouse_k03_layings) rfl rfl (fun w h Y=>Y) ?F)
 case F=>
  intro w mg fa h KX G hmg
  refine' K3.all_mk KX G hmg ?A0 ?L0 ?c0 ?k0 ?A1 ?L1 ?c1 ?k1 ?A2 ?L2 ?c2 ?k2 ?A3 ?L3 ?c3 ?k3 ?A4 ?L4 ?c4 ?k4 ?A5 ?L5 ?c5 ?k5 ?A6 ?L6 ?c6 ?k6 ?A7 ?L7 ?c7 ?k7 ?A8 ?L8 ?c8 ?k8 ?A9 ?L9 ?c9 ?k9 ?A10 ?L10 ?c10 ?k10 ?A11 ?L11 ?c11 ?k11 ?A12 ?L12 ?c12 ?k12 ?A13 ?L13 ?c13 ?k13 ?A14 ?L14 ?c14 ?k14 ?A15 ?L15 ?c15 ?k15 ?A16 ?L16 ?c16 ?k16 ?A17 ?L17 ?c17 ?k17 ?A18 ?L18 ?c18 ?k18 ?A19 ?L19 ?c19 ?k19 ?A20 ?L20 ?c20 ?k20 ?A21 ?L21 ?c21 ?k21 ?A22 ?L22 ?c22 ?k22 ?A23 ?L23 ?c23 ?k23 ?A24 ?L24 ?c24 ?k24 ?A25 ?L25 ?c25 ?k25 ?A26 ?L26 ?c26 ?k26 ?aC ?aI ?iI ?lI ?cI ?kI ?pg ?hd ?po ?sa ?mk ?kc ?n_colours ?n_most ?i_LEAST_NUMBERS ?i_MOST_NUMBERS ?i_LEAST_COLOURS ?i_MOST_COLOURS ?i_MOST_TILES ?i_MOST_ALIKE ?i_MOST_JOKERS ?i_LEAST_SIZE ?b_all ?b_bool ?b_int ?b_isinstance ?b_len ?b_list ?b_max ?b_min ?b_range ?b_set ?b_sorted ?b_sum ?b_tuple ?a_E_BadHand ?a_E_BadHouse ?a_E_BadLaying ?a_E_MeldError ?e_E_BadHouse ?e_E_BadHand ?e_E_BadLaying ?q_BadLaying_MeldError
  (case A0=>k_is)
  (case L0=>k_is)
  (case c0=>k_is)
  (case k0=>k_is)
  (case A1=>k_is)
  (case L1=>k_is)
  (case c1=>k_is)
  (case k1=>k_is)
  (case A2=>k_is)
  (case L2=>k_is)
  (case c2=>k_is)
  (case k2=>k_is)
  (case A3=>k_is)
  (case L3=>k_is)
  (case c3=>k_is)
  (case k3=>k_is)
  (case A4=>k_is)
  (case L4=>k_is)
  (case c4=>k_is)
  (case k4=>k_is)
  (case A5=>k_is)
  (case L5=>k_is)
  (case c5=>k_is)
  (case k5=>k_is)
  (case A6=>k_is)
  (case L6=>k_is)
  (case c6=>k_is)
  (case k6=>k_is)
  (case A7=>k_is)
  (case L7=>k_is)
  (case c7=>k_is)
  (case k7=>k_is)
  (case A8=>k_is)
  (case L8=>k_is)
  (case c8=>k_is)
  (case k8=>k_is)
  (case A9=>k_is)
  (case L9=>k_is)
  (case c9=>k_is)
  (case k9=>k_is)
  (case A10=>k_is)
  (case L10=>k_is)
  (case c10=>k_is)
  (case k10=>k_is)
  (case A11=>k_is)
  (case L11=>k_is)
  (case c11=>k_is)
  (case k11=>k_is)
  (case A12=>k_is)
  (case L12=>k_is)
  (case c12=>k_is)
  (case k12=>k_is)
  (case A13=>k_is)
  (case L13=>k_is)
  (case c13=>k_is)
  (case k13=>k_is)
  (case A14=>k_is)
  (case L14=>k_is)
  (case c14=>k_is)
  (case k14=>k_is)
  (case A15=>k_is)
  (case L15=>k_is)
  (case c15=>k_is)
  (case k15=>k_is)
  (case A16=>k_is)
  (case L16=>k_is)
  (case c16=>k_is)
  (case k16=>k_is)
  (case A17=>k_is)
  (case L17=>k_is)
  (case c17=>k_is)
  (case k17=>k_is)
  (case A18=>k_is)
  (case L18=>k_is)
  (case c18=>k_is)
  (case k18=>k_is)
  (case A19=>k_is)
  (case L19=>k_is)
  (case c19=>k_is)
  (case k19=>k_is)
  (case A20=>k_is)
  (case L20=>k_is)
  (case c20=>k_is)
  (case k20=>k_is)
  (case A21=>k_is)
  (case L21=>k_is)
  (case c21=>k_is)
  (case k21=>k_is)
  (case A22=>k_is)
  (case L22=>k_is)
  (case c22=>k_is)
  (case k22=>k_is)
  (case A23=>k_is)
  (case L23=>k_is)
  (case c23=>k_is)
  (case k23=>k_is)
  (case A24=>k_is)
  (case L24=>k_is)
  (case c24=>k_is)
  (case k24=>k_is)
  (case A25=>k_is)
  (case L25=>k_is)
  (case c25=>k_is)
  (case k25=>k_is)
  (case A26=>k_is)
  (case L26=>k_is)
  (case c26=>k_is)
  (case k26=>k_is)
  (case aC=>k_is)
  (case aI=>k_is)
  (case iI=>k_is)
  (case lI=>k_is)
  (case cI=>k_is)
  (case kI=>k_is)
  (case pg=>k_is)
  (case hd=>k_is)
  (case po=>k_is)
  (case sa=>k_is)
  (case mk=>k_is)
  (case kc=>k_is)
  (case n_colours=>k_is)
  (case n_most=>k_is)
  (case i_LEAST_NUMBERS=>k_is)
  (case i_MOST_NUMBERS=>k_is)
  (case i_LEAST_COLOURS=>k_is)
  (case i_MOST_COLOURS=>k_is)
  (case i_MOST_TILES=>k_is)
  (case i_MOST_ALIKE=>k_is)
  (case i_MOST_JOKERS=>k_is)
  (case i_LEAST_SIZE=>k_is)
  (case b_all=>k_is)
  (case b_bool=>k_is)
  (case b_int=>k_is)
  (case b_isinstance=>k_is)
  (case b_len=>k_is)
  (case b_list=>k_is)
  (case b_max=>k_is)
  (case b_min=>k_is)
  (case b_range=>k_is)
  (case b_set=>k_is)
  (case b_sorted=>k_is)
  (case b_sum=>k_is)
  (case b_tuple=>k_is)
  (case a_E_BadHand=>k_is)
  (case a_E_BadHouse=>k_is)
  (case a_E_BadLaying=>k_is)
  (case a_E_MeldError=>k_is)
  (case e_E_BadHouse=>k_exc)
  (case e_E_BadHand=>k_exc)
  (case e_E_BadLaying=>k_exc)
  (case q_BadLaying_MeldError=>kit_is)
